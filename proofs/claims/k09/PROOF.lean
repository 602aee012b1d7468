import PyProof.Rows.All
import Wide.All
import OpenK.AllK
import Wide.FinOn
import Lean
import PyProof.EqAt
import PyProof.EqKinds
import PyProof.TupleCall
import PySem.Challenge.RW_relaid_k09_rows_refused
set_option Elab.async false
set_option linter.all false
set_option maxRecDepth 100000
set_option maxHeartbeats 4000000
namespace L2
open PySem PySem.Spec PyProof.Rows
abbrev Key:=Sum Int Str
def keyIs:Key→Value→Bool
 | .inl k,v=>Value.isInt k v
 | .inr x,v=>Value.isStrOf x v
def keyH (w:World):Key→Int
 | .inl k=>hashInt k
 | .inr x=>hashStr w x
theorem Jq:∀ {k:Key} {v:Value},keyIs k v=true→(∃ i t,k=Sum.inl i∧v=Value.int i t)∨(∃ x t,k=Sum.inr x∧v=Value.str x t)
 | .inl i,v,h=>by
  obtain ⟨t,e⟩:=Value.isInt_shape (k:=i) (v:=v) h
  exact .inl ⟨i,t,rfl,e⟩
 | .inr x,v,h=>by
  obtain ⟨t,e⟩:=Value.isStrOf_shape (x:=x) (v:=v) h
  exact .inr ⟨x,t,rfl,e⟩
theorem key_ll (a b:Int):decide ((Sum.inl a:Key)=Sum.inl b)=(a == b):=by
 by_cases e:a=b
 ·subst e;simp
 ·have h:¬ (Sum.inl a:Key)=Sum.inl b:=fun q=>e (Sum.inl.inj q)
  rw [decide_eq_false h]
  exact (beq_eq_false_iff_ne.mpr e).symm
theorem key_rr (a b:Str):decide ((Sum.inr a:Key)=Sum.inr b)=decide (a=b):=by
 by_cases e:a=b
 ·subst e;simp
 ·have h:¬ (Sum.inr a:Key)=Sum.inr b:=fun q=>e (Sum.inr.inj q)
  rw [decide_eq_false h,decide_eq_false e]
theorem key_lr (a:Int) (b:Str):decide ((Sum.inl a:Key)=Sum.inr b)=false:=decide_eq_false (fun q=>nomatch q)
theorem key_rl (a:Str) (b:Int):decide ((Sum.inr a:Key)=Sum.inl b)=false:=decide_eq_false (fun q=>nomatch q)
def mixKind (prog:Program) (w:World):PySem.KeyKind prog w Key where
 is:=keyIs
 hash:=keyH w
 inj:=fun v a b ha hb=>by
  rcases Jq ha with ⟨i,t,rfl,rfl⟩ | ⟨x,t,rfl,rfl⟩
  ·rcases Jq hb with ⟨j,u,rfl,e⟩ | ⟨y,u,rfl,e⟩
   ·injection e with e1 _;rw [e1]
   ·exact nomatch e
  ·rcases Jq hb with ⟨j,u,rfl,e⟩ | ⟨y,u,rfl,e⟩
   ·exact nomatch e
   ·injection e with e1 _;rw [e1]
 byValue:=fun k v h=>by
  rcases Jq h with ⟨i,t,rfl,rfl⟩ | ⟨x,t,rfl,rfl⟩ <;> rfl
 pyHash:=fun hv h=>by
  rcases Jq hv with ⟨i,t,rfl,rfl⟩ | ⟨x,t,rfl,rfl⟩
  ·exact wpAny_pyHash_int h
  ·exact wpAny_pyHash_str h
 eqBool:=fun hu hv h=>by
  rcases Jq hu with ⟨i,t,rfl,rfl⟩ | ⟨x,t,rfl,rfl⟩
  ·rcases Jq hv with ⟨j,u,rfl,rfl⟩ | ⟨y,u,rfl,rfl⟩
   ·rw [key_ll] at h;exact wpAny_eqBool_int h
   ·rw [key_lr] at h;exact SeqAt.EqAt.int_str i t y u _ _ _ _ h
  ·rcases Jq hv with ⟨j,u,rfl,rfl⟩ | ⟨y,u,rfl,rfl⟩
   ·rw [key_rl] at h;exact SeqAt.EqAt.str_int x t j u _ _ _ _ h
   ·rw [key_rr] at h;exact wpAny_eqBool_str h
 «strs»:=fun k x t v h=>by
  rcases Jq h with ⟨i,u,rfl,e⟩ | ⟨y,u,rfl,e⟩
  ·exact nomatch e
  ·injection e with e1 _
   subst e1
   cases v <;> rfl
end L2
namespace L2
open PySem PySem.Spec PyProof.Rows
inductive V where
 | non | bl (b:Bool) | int (i:Int) | str (x:Str) | byt (b:Array UInt8) | flt (b:UInt64) | ref (a:Addr) | ty (n:String)
 deriving DecidableEq
def RelV:V→Value→Prop
 | .non,u=>u=Value.none
 | .bl b,u=>u=Value.bool b
 | .int i,u=>∃ t,u=Value.int i t
 | .str x,u=>∃ t,u=Value.str x t
 | .byt b,u=>∃ t,u=Value.bytes b t
 | .flt b,u=>∃ t,u=Value.float b t
 | .ref a,u=>u=Value.ref a
 | .ty n,u=>u=Value.type n
abbrev Vals:List V→List Value→Prop:=Paired RelV
theorem Vals.length {xs:List V} {us:List Value} (r:Vals xs us):xs.length=us.length:=Paired.length r
theorem Vals.get:∀ {xs:List V} {us:List Value} {i:Nat} {x:V},Vals xs us→xs[i]?=some x→∃ u,us[i]?=some u∧RelV x u
 | _,_,_,_,.nil,e=>by simp at e
 | _,_,0,_,.cons r _,e=>by simp at e;subst e;exact ⟨_,rfl,r⟩
 | _,_,i + 1,x,.cons _ t,e=>by
  obtain ⟨u,h1,h2⟩:=Vals.get (i:=i) (x:=x) t (by simpa using e)
  exact ⟨u,by simpa using h1,h2⟩
theorem Vals.set {x:V} {u:Value} (r:RelV x u):∀ {xs:List V} {us:List Value} (i:Nat),Vals xs us→Vals (xs.set i x) (us.set i u)
 | _,_,_,.nil=>.nil
 | _,_,0,.cons _ t=>.cons r t
 | _,_,i + 1,.cons q t=>.cons q (Vals.set r i t)
theorem Vals.append:∀ {xs ys:List V} {us ws:List Value},Vals xs us→Vals ys ws→Vals (xs ++ ys) (us ++ ws)
 | _,_,_,_,.nil,s=>s
 | _,_,_,_,.cons r t,s=>.cons r (Vals.append t s)
theorem Vals.take:∀ {xs:List V} {us:List Value} (n:Nat),Vals xs us→Vals (xs.take n) (us.take n)
 | _,_,0,_=>.nil
 | _,_,_ + 1,.nil=>.nil
 | _,_,n + 1,.cons r t=>.cons r (Vals.take n t)
theorem Vals.drop:∀ {xs:List V} {us:List Value} (n:Nat),Vals xs us→Vals (xs.drop n) (us.drop n)
 | _,_,0,r=>r
 | _,_,_ + 1,.nil=>.nil
 | _,_,n + 1,.cons _ t=>Vals.drop n t
def RelO:Option V→Option Value→Prop
 | some v,some u=>RelV v u
 | none,none=>True
 | _,_=>False
def KV {κ:Type}:List (κ × V)→List (κ × Value)→Prop:=Paired fun (p:κ × V) (q:κ × Value)=>p.1=q.1∧RelV p.2 q.2
def kV:Key→V
 | .inl i=>.int i
 | .inr x=>.str x
inductive HO where
  | lst (xs:List V)
  | tup (xs:List V)
  | dK (kvs:List (Key × V)) | dT (kvs:List (List Key × V))
  | set (S:Int→Bool) (n:Nat)
  | ins (C dx:Addr) (fs:List (Str × V))
  | own (x:Addr)
  | xd (fs:List (Str × V))
  | met (f x:Addr)
  | rng (lo hi:Int)
  | frz (o:Obj) (u:HO)
  | tbl (ps:Array Value)
  | ext (φ:Heap→Prop)
abbrev Hp:=Addr→Option HO
def upd (H:Hp) (a:Addr) (o:HO):Hp:=fun b=>if b=a then some o else H b
theorem J3 {H:Hp} {a:Addr} {o:HO}:upd H a o a=some o:=by unfold upd;rw [if_pos rfl]
theorem Jf {H:Hp} {a b:Addr} {o:HO} (h:b≠a):upd H a o b=H b:=by unfold upd;rw [if_neg h]
theorem upd_upd {H:Hp} {a:Addr} {o u:HO}:upd (upd H a o) a u=upd H a u:=by
 funext b;unfold upd;split <;> rfl
theorem ne_of {H:Hp} {a b:Addr} {o u:HO} (h:H a=some o) (h':H b=some u) (d:o≠u):a≠b:=by
 intro e;subst e;rw [h] at h';exact d (Option.some.inj h')
theorem Jd {H:Hp} {a b:Addr} {o:HO} (h:H a=some o) (h':H b=none):a≠b:=by
 intro e;subst e;rw [h] at h';cases h'
section
variable (P:Program) (w:World)
def TupX (h:Heap) (a:Addr) (items:Array Value):Prop:=∃ o,h.get? a=some o∧(o.cls=.type "tuple"∧o.dict=none)∧∃ n,o.data=.seq items n
theorem TupX.tup {h:Heap} {a:Addr} {items:Array Value} (x:TupX h a items):IsTup h a items:=let ⟨o,e,c,r⟩:=x;⟨o,e,c.1,r⟩
theorem TupX.lt {h:Heap} {a:Addr} {items:Array Value} (x:TupX h a items):a < h.objs.size:=let ⟨_,e,_⟩:=x;Heap.lt_size e
def ObjOk (H:Hp) (h:Heap) (a:Addr):HO→Prop
 | .lst xs=>xs.length≤sizeLine∧∃ (its:List Value) (n:Nat),Vals xs its∧h.get? a=some { cls:=.type "list",data:=.seq its.toArray n }
 | .tup xs=>xs.length≤sizeLine∧∃ its:List Value,Vals xs its∧TupX h a its.toArray
 | .dK kvs=>kvs.length≤sizeLine∧(a == sysModules)=false∧∃ vs,KV kvs vs∧h.DictOf (mixKind P w) a vs
 | .dT kvs=>kvs.length≤sizeLine∧(a == sysModules)=false∧∃ xs:List (List Key × Addr × Value),
   Paired (fun (p:List Key × V) (q:List Key × Addr × Value)=>p.1=q.1∧H q.2.1=some (.tup (p.1.map kV))∧RelV p.2 q.2.2) kvs xs∧
   ∃ o es ep,h.get? a=some o∧o.ExactDict∧o.data=.dict es ep∧es.toList=xs.map (entryOfKey (tupleKind (mixKind P w)))∧(xs.map (·.1)).Nodup
 | .set S n=>h.SetOf (intKind P w) a S n
 | .ins C dx fs=>H dx=some (.own a)∧fs.length≤1000∧dx≠a∧h.get? a=some (PySem.W.instObj C dx)∧
   ∃ mA,h.Ns1 dx mA∧(∀ f,RelO (fs.lookup f) (mA f))∧PySem.Within mA (fs.map (·.1))
 | .own _=>∃ o,h.get? a=some o
 | .xd fs=>∃ mA,h.Ns1 a mA∧∀ f,RelO (fs.lookup f) (mA f)
 | .rng lo hi=>∃ t u v,h.get? a=some { cls:=.type "range",data:=.fields #[.int lo t,.int hi u,.int 1 v] }
 | .frz o u=>h.get? a=some o∧ObjOk H h a u
 | .tbl ps=>h.get? a=some { cls:=.none,data:=.fields ps }
 | .met f x=>h.get? a=some (PySem.W.methodObj (.ref f) (.ref x))
 | .ext φ=>φ h∧(∃ o,h.get? a=some o)∧∀ h1 h2:Heap,φ h1→(∀ o,h1.get? a=some o→h2.get? a=some o)→φ h2
def HOk (H:Hp) (h:Heap):Prop:=∀ a o,H a=some o→ObjOk P w H h a o
end
section
variable {P:Program} {w:World} {H H':Hp} {h h':Heap} {a:Addr} {o:HO}
theorem ObjOk.lt (x:ObjOk P w H h a o):a < h.objs.size:=by
 cases o with
 | lst xs=>obtain ⟨_,_,_,_,e⟩:=x;exact Heap.lt_size e
 | tup xs=>obtain ⟨_,_,_,p⟩:=x;exact p.lt
 | dK kvs=>obtain ⟨_,_,_,_,o,_,_,e,_⟩:=x;exact Heap.lt_size e
 | dT kvs=>obtain ⟨_,_,_,_,o,_,_,e,_⟩:=x;exact Heap.lt_size e
 | set S n=>obtain ⟨o,_,_,_,e,_⟩:=x;exact Heap.lt_size e
 | ins C dx fs=>obtain ⟨_,_,_,e,_⟩:=x;exact Heap.lt_size e
 | own y=>obtain ⟨_,e⟩:=x;exact Heap.lt_size e
 | xd fs=>obtain ⟨_,⟨_,_,_,e,_⟩,_⟩:=x;exact Heap.lt_size e
 | rng lo hi=>obtain ⟨_,_,_,e⟩:=x;exact Heap.lt_size e
 | frz ob u=>obtain ⟨e,_⟩:=x;exact Heap.lt_size e
 | tbl ps=>exact Heap.lt_size (show h.get? a=some _ from x)
 | met f y=>exact Heap.lt_size (show h.get? a=some _ from x)
 | ext φ=>obtain ⟨_,⟨_,e⟩,_⟩:=x;exact Heap.lt_size e
theorem Paired.mapP {α β:Type} {F G:α→β→Prop}:∀ {l₁:List α} {l₂:List β},Paired F l₁ l₂→(∀ a b,F a b→G a b)→Paired G l₁ l₂
 | _,_,.nil,_=>.nil
 | _,_,.cons r t,f=>.cons (f _ _ r) (Paired.mapP t f)
theorem ObjOk.stay (x:ObjOk P w H h a o) (k:∀ b u,(b=a∨H b=some (.own a))→h.get? b=some u→h'.get? b=some u)
  (ho:∀ b,H b=some (.own a)→H' b=some (.own a)) (ht:∀ b xs,H b=some (.tup xs)→H' b=some (.tup xs)):ObjOk P w H' h' a o:=by
 induction o with
 | lst xs=>obtain ⟨z,its,n,r,e⟩:=x;exact ⟨z,its,n,r,k _ _ (.inl rfl) e⟩
 | tup xs=>obtain ⟨z,its,r,ob,e,c⟩:=x;exact ⟨z,its,r,ob,k _ _ (.inl rfl) e,c⟩
 | dK kvs=>obtain ⟨z,y,vs,r,ob,es,ep,e,c⟩:=x;exact ⟨z,y,vs,r,ob,es,ep,k _ _ (.inl rfl) e,c⟩
 | dT kvs =>
  obtain ⟨z,y,xs,r,ob,es,ep,e,c⟩:=x
  exact ⟨z,y,xs,Paired.mapP r fun p q z=>⟨z.1,ht _ _ z.2.1,z.2.2⟩,ob,es,ep,k _ _ (.inl rfl) e,c⟩
 | set S n=>obtain ⟨ob,es,ep,t,e,c⟩:=x;exact ⟨ob,es,ep,t,k _ _ (.inl rfl) e,c⟩
 | ins C dx fs =>
  obtain ⟨d,z,ne,e,mA,⟨od,es,ep,e2,c⟩,r⟩:=x
  exact ⟨ho _ d,z,ne,k _ _ (.inl rfl) e,mA,⟨od,es,ep,k _ _ (.inr d) e2,c⟩,r⟩
 | own y=>obtain ⟨ob,e⟩:=x;exact ⟨ob,k _ _ (.inl rfl) e⟩
 | xd fs=>obtain ⟨mA,⟨od,es,ep,e,c⟩,r⟩:=x;exact ⟨mA,⟨od,es,ep,k _ _ (.inl rfl) e,c⟩,r⟩
 | rng lo hi=>obtain ⟨t,u,v,e⟩:=x;exact ⟨t,u,v,k _ _ (.inl rfl) e⟩
 | frz ob u ih=>obtain ⟨e,q⟩:=x;exact ⟨k _ _ (.inl rfl) e,ih q⟩
 | tbl ps =>
  have e:h.get? a=some { cls:=.none,data:=.fields ps }:=x
  show h'.get? a=some { cls:=.none,data:=.fields ps }
  exact k a _ (.inl rfl) e
 | met f y =>
  have e:h.get? a=some (PySem.W.methodObj (.ref f) (.ref y)):=x
  show h'.get? a=some (PySem.W.methodObj (.ref f) (.ref y))
  exact k a _ (.inl rfl) e
 | ext φ=>obtain ⟨p,⟨o,e⟩,st⟩:=x;exact ⟨st _ _ p fun o q=>k _ _ (.inl rfl) q,⟨o,k _ _ (.inl rfl) e⟩,st⟩
theorem HOk.lt (x:HOk P w H h) (e:H a=some o):a < h.objs.size:=(x a o e).lt
theorem HOk.fresh (x:HOk P w H h) (e:h.objs.size≤a):H a=none:=by
 cases q:H a with
 | none=>rfl
 | some u=>exact absurd (Nat.lt_of_lt_of_le (x.lt q) e) (Nat.lt_irrefl _)
theorem HOk.kept (x:HOk P w H h) (k:∀ b u,h.get? b=some u→h'.get? b=some u):HOk P w H h':=fun a o e =>
 (x a o e).stay (fun b u _ q=>k b u q) (fun _ q=>q) fun _ _ q=>q
theorem HOk.laid (x:HOk P w H h) (k:∀ b u,h.get? b=some u→h'.get? b=some u) (hp:h.objs.size≤a) (new:ObjOk P w (upd H a o) h' a o):HOk P w (upd H a o) h':=fun b u e=>by
 have hn:=x.fresh hp
 by_cases hb:b=a
 ·subst hb;rw [J3] at e;cases e;exact new
 ·rw [Jf hb] at e
  exact (x b u e).stay (fun c v _ q=>k c v q) (fun c q=>by rw [Jf (Jd q hn)];exact q) fun c xs q=>by rw [Jf (Jd q hn)];exact q
end
def Rd (H:Hp) (a:Addr) (u:HO):Prop:=H a=some u∨∃ o,H a=some (.frz o u)
theorem Rd.ok {P:Program} {w:World} {H:Hp} {h:Heap} {a:Addr} {u:HO} (r:Rd H a u) (x:HOk P w H h):ObjOk P w H h a u:=by
 rcases r with r | ⟨o,r⟩
 ·exact x a u r
 ·obtain ⟨_,q⟩:=x a _ r
  exact q
def Mut:Option HO→Prop
 | some (.lst _)=>True
 | some (.dK _)=>True
 | some (.dT _)=>True
 | some (.set _ _)=>True
 | some (.ins _ _ _)=>True
 | some (.ext _)=>True
 | _=>False
section
variable {P:Program} {w:World} {H:Hp} {h h':Heap} {x e:Addr} {o':HO}
theorem HOk.write (ok:HOk P w H h) (mu:Mut (H x)) (he:e=x∨H e=some (.own x)) (k:∀ b u,b≠e→h.get? b=some u→h'.get? b=some u) (heo:∃ u,h'.get? e=some u)
  (new:ObjOk P w (upd H x o') h' x o'):HOk P w (upd H x o') h':=fun b u q=>by
 have nown:∀ c y,H c=some (.own y)→c≠x:=fun c y r z=>by subst z;rw [r] at mu;exact mu
 have ntup:∀ c xs,H c=some (.tup xs)→c≠x:=fun c xs r z=>by subst z;rw [r] at mu;exact mu
 by_cases hb:b=x
 ·subst hb;rw [J3] at q;cases q;exact new
 ·rw [Jf hb] at q
  by_cases hbe:b=e
  ·have q':H b=some (.own x):=by
    rcases he with z | z
    ·exact absurd (hbe.trans z) hb
    ·rw [hbe];exact z
   rw [q] at q';cases q'
   obtain ⟨v,hv⟩:=heo
   exact ⟨v,by rw [hbe];exact hv⟩
  ·refine (ok b u q).stay (fun c v hc r=>k c v ?_ r) (fun c r=>by rw [Jf (nown c b r)];exact r) fun c xs r=>by rw [Jf (ntup c xs r)];exact r
   rcases hc with rfl | hc
   ·exact hbe
   ·rintro rfl
    rcases he with z | z
    ·exact nown c b hc z
    ·rw [hc] at z;cases z;exact hb rfl
end
structure Un (fs ex:List Addr) (H H':Hp) (h h':Heap):Prop where
 keep:∀ b o,h.get? b=some o→H b=none→b ∉ fs→b ∉ ex→h'.get? b=some o
 slot:∀ b o,h.get? b=some o→H b=none→b∈fs→b ∉ ex→∃ sl,h'.get? b=some { o with slots:=sl }
 free:∀ b o,h.get? b=some o→H b=none→b ∉ ex→H' b=none
 there:∀ b o,h.get? b=some o→b ∉ ex→∃ o',h'.get? b=some o'
 tups:∀ b xs,H b=some (.tup xs)→H' b=some (.tup xs)
 frzs:∀ b o u,H b=some (.frz o u)→H' b=some (.frz o u)
 tbls:∀ b ps,H b=some (.tbl ps)→∃ more,H' b=some (.tbl (ps ++ more))
section
variable {fs fs' ex ex':List Addr} {H H1 H2:Hp} {h h1 h2 h':Heap} {a x e:Addr} {o:HO}
theorem Un.any (u:Un fs ex H H1 h h1) {b:Addr} {ob:Obj} (q:h.get? b=some ob) (n:H b=none) (hx:b ∉ ex):∃ sl,h1.get? b=some { ob with slots:=sl }:=by
 by_cases hb:b∈fs
 ·exact u.slot b ob q n hb hx
 ·exact ⟨ob.slots,u.keep b ob q n hb hx⟩
theorem Un.trans (a:Un fs ex H H1 h h1) (b:Un fs ex H1 H2 h1 h2):Un fs ex H H2 h h2 where
 keep:=fun c ob q n hc hx=>b.keep c ob (a.keep c ob q n hc hx) (a.free c ob q n hx) hc hx
 slot:=fun c ob q n hc hx=>by
  obtain ⟨sl,e1⟩:=a.slot c ob q n hc hx
  obtain ⟨sl',e2⟩:=b.slot c _ e1 (a.free c ob q n hx) hc hx
  exact ⟨sl',e2⟩
 free:=fun c ob q n hx=>by
  obtain ⟨o',e1⟩:=a.there c ob q hx
  exact b.free c o' e1 (a.free c ob q n hx) hx
 there:=fun c ob q hx=>by
  obtain ⟨o',e1⟩:=a.there c ob q hx
  exact b.there c o' e1 hx
 tups:=fun c xs q=>b.tups c xs (a.tups c xs q)
 frzs:=fun c ob xs q=>b.frzs c ob xs (a.frzs c ob xs q)
 tbls:=fun c ps q=>by
  obtain ⟨m1,e1⟩:=a.tbls c ps q
  obtain ⟨m2,e2⟩:=b.tbls c _ e1
  exact ⟨m1 ++ m2,by rw [e2,Array.append_assoc]⟩
theorem Un.kept (k:∀ b u,h.get? b=some u→h'.get? b=some u):Un fs ex H H h h' :=
 ⟨fun b ob q _ _ _=>k b ob q,fun b ob q _ _ _=>⟨ob.slots,k b ob q⟩,fun _ _ _ n _=>n,fun b ob q _=>⟨ob,k b ob q⟩,fun _ _ q=>q,fun _ _ _ q=>q,fun _ ps q=>⟨#[],by rw [q];simp⟩⟩
theorem Un.refl:Un fs ex H H h h:=Un.kept fun _ _ q=>q
theorem Un.laid (k:∀ b u,h.get? b=some u→h'.get? b=some u) (hp:h.objs.size≤a) (hn:H a=none):Un fs ex H (upd H a o) h h' where
 keep:=fun b u q _ _ _=>k b u q
 slot:=fun b u q _ _ _=>⟨u.slots,k b u q⟩
 free:=fun b u q n _=>by rw [Jf (Nat.ne_of_lt (Nat.lt_of_lt_of_le (Heap.lt_size q) hp))];exact n
 there:=fun b u q _=>⟨u,k b u q⟩
 tups:=fun b xs q=>by rw [Jf (Jd q hn)];exact q
 frzs:=fun b u xs q=>by rw [Jf (Jd q hn)];exact q
 tbls:=fun b ps q=>⟨#[],by rw [Jf (Jd q hn),q];simp⟩
theorem Un.write (mu:Mut (H x)) (he:e=x∨H e=some (.own x)) (k:∀ b u,b≠e→h.get? b=some u→h'.get? b=some u) (heo:∃ u,h'.get? e=some u):Un fs ex H (upd H x o) h h':=by
 have hx:∀ b,H b=none→b≠x:=fun b n z=>by subst z;rw [n] at mu;exact mu
 have hb:∀ b,H b=none→b≠e:=fun b n z=>by
  subst z
  rcases he with r | r
  ·exact hx b n r
  ·rw [n] at r;cases r
 have hm:∀ b u,H b=some u→¬ Mut (some u)→b≠x:=fun b u q nm z=>by subst z;rw [q] at mu;exact nm mu
 refine ⟨fun b u q n _ _=>k b u (hb b n) q,fun b u q n _ _=>⟨u.slots,k b u (hb b n) q⟩,fun b u q n _=>by rw [Jf (hx b n)];exact n,fun b u q _=>?_,
  fun b xs q=>by rw [Jf (hm b _ q fun z=>z)];exact q,fun b u xs q=>by rw [Jf (hm b _ q fun z=>z)];exact q,fun b ps q=>⟨#[],by rw [Jf (hm b _ q fun z=>z),q];simp⟩⟩
 by_cases hbe:b=e
 ·subst hbe;exact heo
 ·exact ⟨u,k b u hbe q⟩
theorem Un.mono (u:Un fs ex H H1 h h1) (hs:∀ b∈fs,b∈fs') (hx:∀ b∈ex,b∈ex'):Un fs' ex' H H1 h h1 :=
 ⟨fun b ob q n hb he=>u.keep b ob q n (fun z=>hb (hs b z)) fun z=>he (hx b z),fun _ _ q n _ he=>u.any q n fun z=>he (hx _ z),fun b ob q n he=>u.free b ob q n fun z=>he (hx b z),fun b ob q he=>u.there b ob q fun z=>he (hx b z),u.tups,u.frzs,u.tbls⟩
end
def trk (h:Heap) (H:Hp):List Addr:=(List.range h.objs.size).filter fun a=>(H a).isSome
def hidT (h:Heap) (H:Hp):Heap:=PySem.W.hideAll h (trk h H)
theorem hidT_size (h:Heap) (H:Hp):(hidT h H).objs.size=h.objs.size:=PySem.W.hideAll_size _ _
theorem hidT_get {h:Heap} {H:Hp} {b:Addr} {o:Obj} (e:h.get? b=some o) (n:H b=none):(hidT h H).get? b=some o :=
 PySem.W.hideAll_get _ e fun hm=>by
  have q:(H b).isSome=true:=(List.mem_filter.mp hm).2
  rw [n] at q;simp at q
theorem of_hidT {h:Heap} {H:Hp} {b:Addr} {o:Obj} (e:(hidT h H).get? b=some o):h.get? b=some o∧H b=none:=by
 have e':h.get? b=some o:=PySem.W.of_hideAll (trk h H) e
 refine ⟨e',?_⟩
 cases q:H b with
 | none=>rfl
 | some x =>
  have hm:b∈trk h H:=List.mem_filter.mpr ⟨List.mem_range.mpr (Heap.lt_size e'),by simp [q]⟩
  have z:(hidT h H).get? b=none:=PySem.W.hideAll_none (trk h H) hm
  rw [z] at e;cases e
def allNews (g h:Heap) (L:Addr):List (Addr × Obj):=(List.range h.objs.size).filterMap fun a=>if a=L∨(g.get? a).isSome=true then none else (h.get? a).map fun o=>(a,o)
def rest (g h:Heap) (L d:Addr):List (Addr × Obj):=(allNews g h L).filter fun p=>decide (p.1≠d)
end L2
namespace L2
open PySem PySem.Spec PyProof.Rows
structure Mod (K:PySem.W.Frag) (mg:Str→Option Value) (base:Heap):Prop where
 kin:K.In base
 glob:base.Ns mainGlobals mg
 blt:∃ mb,base.Ns builtinsNs mb∧∀ x:Str,x≠"__name__"→mb x=bootBuiltins x
 nolimit:base.NoLimit
structure Cx where
 prog:Program
 w:World
 K:PySem.W.Frag
 mg:Str→Option Value
 base:Heap
 A:Around
 N:List Str
 s₀:Shared
 H₀:Hp
 env:Env
 outer:List Env
 stack:List Env
 ex:List Addr
 fn:Str→Bool
 calm:Bool
 pn:List (Addr × Obj)
 xe:Value→Shared→Prop
def frs (l:List Env):List Addr:=l.filterMap (·.frame)
abbrev Cx.fs (X:Cx):List Addr:=frs X.outer
def Vis (sc:Scope) (x:Str):Prop:=sc.names.lookup x=some .local∨sc.names.lookup x=some .cell∨sc.names.lookup x=some .free
def Loc (sc:Scope) (x:Str):Prop:=sc.names.lookup x=some .local∨sc.names.lookup x=some .cell
def Look (env:Env) (h:Heap) (m:Str→Option Value) (x:Str) (u:Value):Prop :=
 (env.kindOf x=some .local∧m x=some u)∨((env.kindOf x=some .cell∨env.kindOf x=some .free)∧∃ c,env.cells.lookup x=some c∧h.IsCell c (some u))
structure Cx.Ok (X:Cx):Prop where
 mod:Mod X.K X.mg X.base
 kind:X.env.scope.kind=.function
 glob:X.env.globals=mainGlobals
 blt:X.env.builtins=builtinsNs
 above:X.s₀.heap.objs.size≤X.env.locals
 inj:∀ x y c,X.env.cells.lookup x=some c→X.env.cells.lookup y=some c→x=y
 has:∀ x,(X.env.kindOf x=some .cell∨X.env.kindOf x=some .free)→∃ c,X.env.cells.lookup x=some c
 cab:∀ x c,X.fn x=true→X.env.cells.lookup x=some c→X.s₀.heap.objs.size≤c
 hd:X.calm=true→X.A.handled=none
 frames:X.A.frames=some X.stack
 stk:X.stack=X.outer∨(X.stack=X.env :: X.outer∧X.env.frame=some X.env.locals)
 exf:∀ b∈X.ex,b≠X.env.locals∧∀ x c,X.env.cells.lookup x=some c→c≠b
 bs:∀ b o,X.base.get? b=some o→X.s₀.heap.get? b=some o∧X.H₀ b=none
 bsz:X.base.objs.size≤X.s₀.heap.objs.size
 noex:∀ b o,X.base.get? b=some o→b ∉ X.ex
 exfs:∀ b∈X.ex,b ∉ X.fs
 funs:X.s₀.heap.FunFrames X.base X.outer
 frf:∀ b∈X.fs,X.H₀ b=none
structure Inv (X:Cx) (pins:List (Addr × Obj)) (σ:List (Option V)) (H:Hp) (s:Shared):Prop where
 ok:X.Ok
 os:s.os=X.s₀.os
 bare:AllBare s.gens
 base:Un X.fs X.ex X.H₀ H X.s₀.heap s.heap
 loc:∃ m,s.heap.Ns X.env.locals m∧∀ (i:Nat) (x:Str) (v:V),X.N[i]?=some x→σ[i]?=some (some v)→Vis X.env.scope x→∃ u,RelV v u∧Look X.env s.heap m x u
 cell:∀ x c,X.env.cells.lookup x=some c→∃ v,s.heap.IsCell c v
 free:H X.env.locals=none
 freeC:∀ x c,X.env.cells.lookup x=some c→H c=none
 pin:∀ p∈X.pn ++ pins,s.heap.get? p.1=some p.2∧H p.1=none∧p.1≠X.env.locals∧p.1 ∉ X.fs∧∀ v,p.2.data≠.cell v
 hok:HOk X.prog X.w H s.heap
 len:σ.length=X.N.length
section
variable {X:Cx} {pins:List (Addr × Obj)} {σ:List (Option V)} {H H':Hp} {s:Shared} {h':Heap}
theorem Cx.Ok.nofr (ok:X.Ok) {b:Addr} {o:Obj} (e:X.base.get? b=some o):b ∉ X.fs:=fun hb=>by
 have:=(ok.funs.mem hb).1
 rw [e] at this;cases this
theorem Inv.bs (I:Inv X pins σ H s):∀ b o,X.base.get? b=some o→s.heap.get? b=some o∧H b=none:=fun b o e =>
 ⟨I.base.keep b o (I.ok.bs b o e).1 (I.ok.bs b o e).2 (I.ok.nofr e) (I.ok.noex b o e),I.base.free b o (I.ok.bs b o e).1 (I.ok.bs b o e).2 (I.ok.noex b o e)⟩
theorem Inv.bk (I:Inv X pins σ H s):∀ b o,X.base.get? b=some o→s.heap.get? b=some o:=fun b o e=>(I.bs b o e).1
theorem Inv.mod (I:Inv X pins σ H s):Mod X.K X.mg X.base:=I.ok.mod
theorem Inv.kIn (I:Inv X pins σ H s):X.K.In s.heap:=I.ok.mod.kin.keeps I.bk
theorem Inv.lt (I:Inv X pins σ H s):X.env.locals < s.heap.objs.size:=let ⟨_,hn,_⟩:=I.loc;hn.lt
theorem Inv.sz (I:Inv X pins σ H s):X.s₀.heap.objs.size≤s.heap.objs.size:=Nat.le_trans I.ok.above (Nat.le_of_lt I.lt)
theorem Inv.nofs (I:Inv X pins σ H s) {a:Addr} (h:s.heap.objs.size≤a):a ∉ X.fs:=fun hb=>by
 obtain ⟨_,o,ho,_⟩:=I.ok.funs.mem hb
 exact absurd (Nat.lt_of_lt_of_le (Heap.lt_size ho) (Nat.le_trans I.sz h)) (Nat.lt_irrefl _)
theorem Inv.cne (I:Inv X pins σ H s):∀ x c,X.env.cells.lookup x=some c→c≠X.env.locals:=fun x c e z=>by
 obtain ⟨v,o,ho,hd⟩:=I.cell x c e
 obtain ⟨m,⟨o',es,ep,ho',hd',_⟩,_⟩:=I.loc
 rw [z,ho'] at ho;cases ho;rw [hd'] at hd;cases hd
theorem Inv.funs (I:Inv X pins σ H s):s.heap.FunFrames X.base X.outer:=by
 have all:∀ (l:List Env),(∀ b∈frs l,b∈X.fs)→X.s₀.heap.FunFrames X.base l→s.heap.FunFrames X.base l:=by
  intro l
  induction l with
  | nil=>intro _ _;trivial
  | cons env r ih =>
   intro hs hl
   obtain ⟨hk,⟨L,o,hf,hn,ho,hd⟩,hr⟩:=hl
   have hL:L∈X.fs:=hs L (by unfold frs;rw [List.filterMap_cons,hf];exact List.mem_cons_self)
   obtain ⟨sl,e⟩:=I.base.slot L o ho (I.ok.frf L hL) hL fun z=>I.ok.exfs L z hL
   exact ⟨hk,⟨L,_,hf,hn,e,hd⟩,ih (fun b hb=>hs b (by unfold frs;rw [List.filterMap_cons,hf];exact List.mem_cons_of_mem _ hb)) hr⟩
 exact all X.outer (fun _ hb=>hb) I.ok.funs
theorem Inv.stack (I:Inv X pins σ H s):s.heap.FunFrames X.base X.stack:=by
 rcases I.ok.stk with e | ⟨e,hf⟩
 ·rw [e];exact I.funs
 ·rw [e]
  obtain ⟨m,hn,_⟩:=I.loc
  refine .cons (by rw [I.ok.kind];decide) hf hn ?_ I.funs
  exact Heap.get?_none_of_le (Nat.le_trans I.ok.bsz I.ok.above)
theorem Inv.stkSub (I:Inv X pins σ H s):∀ b∈frs X.stack,b∈X.env.locals :: X.fs:=fun b hb=>by
 rcases I.ok.stk with e | ⟨e,hf⟩
 ·rw [e] at hb;exact List.mem_cons_of_mem _ hb
 ·rw [e] at hb
  unfold frs at hb
  rw [List.filterMap_cons,hf] at hb
  exact hb
theorem Inv.stkFree (I:Inv X pins σ H s):∀ b∈frs X.stack,H b=none:=fun b hb=>by
 rcases List.mem_cons.mp (I.stkSub b hb) with e | hb
 ·rw [e];exact I.free
 ·obtain ⟨_,o,ho,_⟩:=I.ok.funs.mem hb
  exact I.base.free b o ho (I.ok.frf b hb) fun z=>I.ok.exfs b z hb
theorem Inv.step {g':Array GenState} {t':Nat} {d':Drawn} {ch:List Addr} (I:Inv X pins σ H s)
  (hch:∀ b∈ch,(b∈X.ex∨X.s₀.heap.objs.size≤b)∧b≠X.env.locals∧(∀ x c,X.env.cells.lookup x=some c→c≠b)∧∀ p∈X.pn ++ pins,p.1≠b)
  (keep:∀ b o,b≠X.env.locals→b ∉ X.fs→b ∉ ch→s.heap.get? b=some o→H b=none→h'.get? b=some o)
  (slot:∀ b o,b≠X.env.locals→b∈X.fs→b ∉ ch→s.heap.get? b=some o→H b=none→∃ sl,h'.get? b=some { o with slots:=sl }) (free:∀ b o,b ∉ ch→s.heap.get? b=some o→H b=none→H' b=none)
  (there:∀ b o,b ∉ ch→s.heap.get? b=some o→∃ o',h'.get? b=some o')
  (tups:∀ b xs,H b=some (.tup xs)→H' b=some (.tup xs)) (frzs:∀ b o u,H b=some (.frz o u)→H' b=some (.frz o u)) (tbls:∀ b ps,H b=some (.tbl ps)→∃ more,H' b=some (.tbl (ps ++ more)))
  (ns:∀ m,s.heap.Ns X.env.locals m→h'.Ns X.env.locals m) (hok:HOk X.prog X.w H' h') (hg:AllBare g') :
  Inv X pins σ H' { s with heap:=h',gens:=g',drawn:=d',toks:=t' }:=by
 have neL:∀ b o,X.s₀.heap.get? b=some o→b≠X.env.locals:=fun b o e=>Nat.ne_of_lt (Nat.lt_of_lt_of_le (Heap.lt_size e) I.ok.above)
 have neC:∀ b o,X.s₀.heap.get? b=some o→b ∉ X.ex→b ∉ ch:=fun b o e hx hb=>by
  rcases (hch b hb).1 with z | z
  ·exact hx z
  ·exact absurd (Nat.lt_of_lt_of_le (Heap.lt_size e) z) (Nat.lt_irrefl _)
 have cellK:∀ x c,X.env.cells.lookup x=some c→∀ v,s.heap.IsCell c v→h'.IsCell c v:=fun x c e v ⟨o,ho,hd⟩=>by
  have nch:c ∉ ch:=fun z=>(hch c z).2.2.1 x c e rfl
  by_cases hc:c∈X.fs
  ·obtain ⟨sl,q⟩:=slot c o (I.cne x c e) hc nch ho (I.freeC x c e)
   exact ⟨_,q,hd⟩
  ·exact ⟨o,keep c o (I.cne x c e) hc nch ho (I.freeC x c e),hd⟩
 refine ⟨I.ok,I.os,hg,⟨fun b o e n hb hx=>?_,fun b o e n hb hx=>?_,fun b o e n hx=>?_,fun b o e hx=>?_,fun b xs e=>tups b xs (I.base.tups b xs e),fun b o xs e=>frzs b o xs (I.base.frzs b o xs e),fun b ps e=>?_⟩,?_,fun x c e=>?_,?_,fun x c e=>?_,fun p hp=>?_,hok,I.len⟩
 ·exact keep b o (neL b o e) hb (neC b o e hx) (I.base.keep b o e n hb hx) (I.base.free b o e n hx)
 ·obtain ⟨sl,e1⟩:=I.base.slot b o e n hb hx
  obtain ⟨sl',e2⟩:=slot b _ (neL b o e) hb (neC b o e hx) e1 (I.base.free b o e n hx)
  exact ⟨sl',e2⟩
 ·obtain ⟨o',e1⟩:=I.base.there b o e hx
  exact free b o' (neC b o e hx) e1 (I.base.free b o e n hx)
 ·obtain ⟨o',e1⟩:=I.base.there b o e hx
  exact there b o' (neC b o e hx) e1
 ·obtain ⟨m1,e1⟩:=I.base.tbls b ps e
  obtain ⟨m2,e2⟩:=tbls b _ e1
  exact ⟨m1 ++ m2,by rw [e2,Array.append_assoc]⟩
 ·obtain ⟨m,hn,hl⟩:=I.loc
  refine ⟨m,ns m hn,fun i x v e1 e2 e3=>?_⟩
  obtain ⟨u,r,l⟩:=hl i x v e1 e2 e3
  refine ⟨u,r,?_⟩
  rcases l with l | ⟨k,c,e,z⟩
  ·exact .inl l
  ·exact .inr ⟨k,c,e,cellK x c e _ z⟩
 ·obtain ⟨v,z⟩:=I.cell x c e
  exact ⟨v,cellK x c e v z⟩
 ·obtain ⟨m,⟨o,_,_,ho,_⟩,_⟩:=I.loc
  exact free _ o (fun z=>(hch _ z).2.1 rfl) ho I.free
 ·obtain ⟨v,o,ho,hd⟩:=I.cell x c e
  exact free c o (fun z=>(hch c z).2.2.1 x c e rfl) ho (I.freeC x c e)
 ·obtain ⟨e,n,ne,nf,d⟩:=I.pin p hp
  have nch:p.1 ∉ ch:=fun z=>(hch p.1 z).2.2.2 p hp rfl
  exact ⟨keep p.1 p.2 ne nf nch e n,free p.1 p.2 nch e n,ne,nf,d⟩
theorem Inv.un {t':Nat} (I:Inv X pins σ H s) (u:Un X.fs [] H H' s.heap h') (hok:HOk X.prog X.w H' h'):Inv X pins σ H' { s with heap:=h',toks:=t' }:=by
 obtain ⟨m,⟨o,es,ep,ho,r⟩,_⟩:=id I.loc
 obtain ⟨sl,hL⟩:=u.any ho I.free (by simp)
 exact I.step (g':=s.gens) (d':=s.drawn) (ch:=[]) (fun _ z=>nomatch z) (fun b o _ hb _ e n=>u.keep b o e n hb (by simp)) (fun b o _ hb _ e n=>u.slot b o e n hb (by simp)) (fun b o _ e n=>u.free b o e n (by simp)) (fun b o _ e=>u.there b o e (by simp)) u.tups u.frzs u.tbls (fun m' hm=>by
  obtain ⟨o',es',ep',ho',r'⟩:=hm
  rw [ho] at ho';cases ho'
  exact ⟨_,es',ep',hL,r'⟩) hok I.bare
theorem Inv.call {g':Array GenState} {t':Nat} {d':Drawn} {ch:List Addr} (I:Inv X pins σ H s) (u:Un (frs X.stack) ch H H' s.heap h') (hok:HOk X.prog X.w H' h') (hg:AllBare g')
  (hch:∀ b∈ch,(b∈X.ex∨X.s₀.heap.objs.size≤b)∧b≠X.env.locals∧(∀ x c,X.env.cells.lookup x=some c→c≠b)∧∀ p∈X.pn ++ pins,p.1≠b) :
  Inv X pins σ H' { s with heap:=h',gens:=g',drawn:=d',toks:=t' }:=by
 obtain ⟨m,⟨o,es,ep,ho,r⟩,_⟩:=id I.loc
 obtain ⟨sl,hL⟩:=u.any ho I.free fun z=>(hch _ z).2.1 rfl
 exact I.step (ch:=ch) hch (fun b o hL hb hc e n=>u.keep b o e n (fun z=>(List.mem_cons.mp (I.stkSub b z)).elim hL hb) hc) (fun b o _ _ hc e n=>u.any e n hc) (fun b o hc e n=>u.free b o e n hc) (fun b o hc e=>u.there b o e hc) u.tups u.frzs u.tbls (fun m' hm=>by
  obtain ⟨o',es',ep',ho',r'⟩:=hm
  rw [ho] at ho';cases ho'
  exact ⟨_,es',ep',hL,r'⟩) hok hg
theorem Inv.turned {t':Nat} {it:Addr} (I:Inv X pins σ H s) (k:∀ b o,b≠it→s.heap.get? b=some o→h'.get? b=some o) (hn:H it=none) (hL:it≠X.env.locals)
  (h1:it∈X.ex∨X.s₀.heap.objs.size≤it) (h2:∀ x c,X.env.cells.lookup x=some c→c≠it) (h3:∀ p∈X.pn ++ pins,p.1≠it):Inv X pins σ H { s with heap:=h',toks:=t' }:=by
 have nit:∀ b u,H b=some u→b≠it:=fun b u e z=>by rw [z,hn] at e;cases e
 refine I.step (g':=s.gens) (d':=s.drawn) (ch:=[it]) (fun b hb=>?_) (fun b o _ _ hc e _=>k b o (fun z=>hc (by simp [z])) e) (fun b o _ _ hc e _=>⟨o.slots,k b o (fun z=>hc (by simp [z])) e⟩) (fun _ _ _ _ n=>n)
  (fun b o hc e=>⟨o,k b o (fun z=>hc (by simp [z])) e⟩) (fun _ _ e=>e) (fun _ _ _ e=>e) (fun b ps e=>⟨#[],by rw [e];simp⟩) (fun m hm=>?_) (fun b u e=>?_) I.bare
 ·have e:b=it:=by simpa using hb
  subst e
  exact ⟨h1,hL,h2,h3⟩
 ·obtain ⟨o,es,ep,ho,r⟩:=hm
  exact ⟨o,es,ep,k _ o (Ne.symm hL) ho,r⟩
 ·refine (I.hok b u e).stay (fun c v hc q=>k c v ?_ q) (fun _ q=>q) fun _ _ q=>q
  rcases hc with z | z
  ·rw [z];exact nit b u e
  ·exact nit c _ z
theorem Inv.tok (I:Inv X pins σ H s) (t:Nat):Inv X pins σ H { s with toks:=t }:=I.un (h':=s.heap) (t':=t) Un.refl I.hok
theorem Inv.kept {t':Nat} (I:Inv X pins σ H s) (k:∀ b u,s.heap.get? b=some u→h'.get? b=some u):Inv X pins σ H { s with heap:=h',toks:=t' }:=I.un (Un.kept k) (I.hok.kept k)
theorem Inv.laid {a:Addr} {o:HO} {t':Nat} (I:Inv X pins σ H s) (k:∀ b u,s.heap.get? b=some u→h'.get? b=some u) (hp:s.heap.objs.size≤a) (new:ObjOk X.prog X.w (upd H a o) h' a o) :
  Inv X pins σ (upd H a o) { s with heap:=h',toks:=t' }:=I.un (Un.laid k hp (I.hok.fresh hp)) (I.hok.laid k hp new)
theorem Inv.write {x e:Addr} {o:HO} {t':Nat} (I:Inv X pins σ H s) (mu:Mut (H x)) (he:e=x∨H e=some (.own x)) (k:∀ b u,b≠e→s.heap.get? b=some u→h'.get? b=some u) (heo:∃ u,h'.get? e=some u)
  (new:ObjOk X.prog X.w (upd H x o) h' x o):Inv X pins σ (upd H x o) { s with heap:=h',toks:=t' }:=I.un (Un.write mu he k heo) (I.hok.write mu he k heo new)
theorem Inv.pins_of {pins':List (Addr × Obj)} (I:Inv X pins σ H s) (h:∀ p∈pins',s.heap.get? p.1=some p.2∧H p.1=none∧p.1≠X.env.locals∧p.1 ∉ X.fs∧∀ v,p.2.data≠.cell v):Inv X pins' σ H s :=
 ⟨I.ok,I.os,I.bare,I.base,I.loc,I.cell,I.free,I.freeC,fun p hp=>(List.mem_append.mp hp).elim (fun z=>I.pin p (List.mem_append_left _ z)) (h p),I.hok,I.len⟩
theorem J45 {N:List Str} (hN:N.Nodup) {i j:Nat} {x:Str} (a:N[i]?=some x) (b:N[j]?=some x):i=j:=by
 obtain ⟨h1,e1⟩:=List.getElem?_eq_some_iff.mp a
 obtain ⟨h2,e2⟩:=List.getElem?_eq_some_iff.mp b
 exact (List.getElem_inj hN).mp (e1.trans e2.symm)
theorem J31 {M:Model} {A:Around} {E:Value→Shared→Prop} {i:Nat} {x:Str} {v:V} {u:Value} {Q:Unit→Shared→Prop} (I:Inv X pins σ H s) (hN:X.N.Nodup) (hi:X.N[i]?=some x) (hx:Loc X.env.scope x) (r:RelV v u)
  (h:∀ s',Inv X pins (σ.set i (some v)) H s'→(∃ a,Heap.SameBut a s.heap s'.heap∧(a=X.env.locals∨X.env.cells.lookup x=some a))→Q () s') (hf:X.fn x=true∨X.env.scope.names.lookup x=some .local:=by first | exact .inl rfl | exact .inr rfl | assumption):wpAny M A (storeName X.env x u) Q E s:=by
 obtain ⟨m,hn,hl⟩:=id I.loc
 have hcls:(X.env.scope.kind == .class || (X.env.scope.kind == .module && X.env.locals != X.env.globals))=false:=by rw [I.ok.kind];rfl
 have hiσ:i < σ.length:=by rw [I.len];exact (List.getElem?_eq_some_iff.mp hi).1
 have cne:=I.cne
 have tracked:∀ {a:Addr} {h':Heap},(∃ o,s.heap.get? a=some o∧H a=none)→Heap.SameBut a s.heap h'→HOk X.prog X.w H h':=fun {a h'} ha hs b ob e=>by
  obtain ⟨_,_,hfree⟩:=ha
  refine (I.hok b ob e).stay (fun c w' hc q=>(hs.2 c ?_).trans q) (fun _ q=>q) fun _ _ q=>q
  rintro rfl
  rcases hc with rfl | hc
  ·rw [hfree] at e;cases e
  ·rw [hfree] at hc;cases hc
 rcases hx with hk | hk
 ·refine wpAny_storeName_local hk hn (fun h' hn' hs=>?_) hcls
  obtain ⟨oL,_,_,hoL,_⟩:=id hn
  refine h _ ⟨I.ok,I.os,I.bare,⟨fun b o e n hb hx=>?_,fun b o e n hb hx=>?_,I.base.free,fun b o e hx=>?_,I.base.tups,I.base.frzs,I.base.tbls⟩,⟨_,hn',fun j y v' e1 e2 e3=>?_⟩,fun y c e=>?_,I.free,I.freeC,fun p hp=>?_,tracked ⟨oL,hoL,I.free⟩ hs,by simpa using I.len⟩ ⟨_,hs,.inl rfl⟩
  ·exact (hs.2 b (Nat.ne_of_lt (Nat.lt_of_lt_of_le (Heap.lt_size e) I.ok.above))).trans (I.base.keep b o e n hb hx)
  ·obtain ⟨sl,e1⟩:=I.base.slot b o e n hb hx
   exact ⟨sl,(hs.2 b (Nat.ne_of_lt (Nat.lt_of_lt_of_le (Heap.lt_size e) I.ok.above))).trans e1⟩
  ·obtain ⟨o',e1⟩:=I.base.there b o e hx
   exact ⟨o',(hs.2 b (Nat.ne_of_lt (Nat.lt_of_lt_of_le (Heap.lt_size e) I.ok.above))).trans e1⟩
  ·by_cases hj:j=i
   ·subst hj
    rw [hi] at e1;cases e1
    rw [List.getElem?_set_self hiσ] at e2
    cases e2
    exact ⟨u,r,.inl ⟨hk,by simp⟩⟩
   ·rw [List.getElem?_set_ne (Ne.symm hj)] at e2
    obtain ⟨u',r',q⟩:=hl j y v' e1 e2 e3
    refine ⟨u',r',?_⟩
    rcases q with ⟨k,e⟩ | ⟨k,c,e,z⟩
    ·refine .inl ⟨k,?_⟩
     have:y≠x:=fun e=>hj (J45 hN e1 (e ▸ hi))
     simp [this,e]
    ·exact .inr ⟨k,c,e,z.sameBut hs (cne y c e)⟩
  ·obtain ⟨w',z⟩:=I.cell y c e
   exact ⟨w',z.sameBut hs (cne y c e)⟩
  ·obtain ⟨e,n,ne,nf,d⟩:=I.pin p hp
   exact ⟨(hs.2 p.1 ne).trans e,n,ne,nf,d⟩
 ·have hfn:X.fn x=true:=by
   rcases hf with z | z
   ·exact z
   ·rw [z] at hk;cases hk
  obtain ⟨c,hc⟩:=I.ok.has x (.inl hk)
  obtain ⟨w',z⟩:=I.cell x c hc
  refine wpAny_storeName_cell I.ok.kind hk hc z (fun h' hc' hs=>?_)
  obtain ⟨oc,hoc,hocd⟩:=id z
  refine h { s with heap:=h' } ⟨I.ok,I.os,I.bare,⟨fun b o e n hb hx=>?_,fun b o e n hb hx=>?_,I.base.free,fun b o e hx=>?_,I.base.tups,I.base.frzs,I.base.tbls⟩,⟨m,hn.sameBut hs (Ne.symm (cne x c hc)),fun j y v' e1 e2 e3=>?_⟩,fun y c' e=>?_,I.free,I.freeC,fun p hp=>?_,tracked ⟨oc,hoc,I.freeC x c hc⟩ hs,by simpa using I.len⟩ ⟨c,hs,.inr hc⟩
  ·exact (hs.2 b (Nat.ne_of_lt (Nat.lt_of_lt_of_le (Heap.lt_size e) (I.ok.cab x c hfn hc)))).trans (I.base.keep b o e n hb hx)
  ·obtain ⟨sl,e1⟩:=I.base.slot b o e n hb hx
   exact ⟨sl,(hs.2 b (Nat.ne_of_lt (Nat.lt_of_lt_of_le (Heap.lt_size e) (I.ok.cab x c hfn hc)))).trans e1⟩
  ·obtain ⟨o',e1⟩:=I.base.there b o e hx
   exact ⟨o',(hs.2 b (Nat.ne_of_lt (Nat.lt_of_lt_of_le (Heap.lt_size e) (I.ok.cab x c hfn hc)))).trans e1⟩
  ·by_cases hj:j=i
   ·subst hj
    rw [hi] at e1;cases e1
    rw [List.getElem?_set_self hiσ] at e2
    cases e2
    exact ⟨u,r,.inr ⟨.inl hk,c,hc,hc'⟩⟩
   ·rw [List.getElem?_set_ne (Ne.symm hj)] at e2
    obtain ⟨u',r',q⟩:=hl j y v' e1 e2 e3
    refine ⟨u',r',?_⟩
    rcases q with q | ⟨k,c',e,z'⟩
    ·exact .inl q
    ·refine .inr ⟨k,c',e,z'.sameBut hs ?_⟩
     rintro rfl
     exact hj (J45 hN e1 (I.ok.inj _ _ _ e hc ▸ hi))
  ·by_cases hcc:c'=c
   ·subst hcc;exact ⟨_,hc'⟩
   ·obtain ⟨w2,z2⟩:=I.cell y c' e
    exact ⟨w2,z2.sameBut hs hcc⟩
  ·obtain ⟨e,n,ne,nf,d⟩:=I.pin p hp
   refine ⟨(hs.2 p.1 ?_).trans e,n,ne,nf,d⟩
   intro q
   rw [q,hoc] at e
   have q':oc=p.2:=Option.some.inj e
   exact d w' (by rw [← q'];exact hocd)
theorem J3x {M:Model} {A:Around} {E:Value→Shared→Prop} {i:Nat} {x:Str} {v:V} {u:Value} {Q:Unit→Shared→Prop} (I:Inv X pins σ H s) (hN:X.N.Nodup) (hi:X.N[i]?=some x) (hx:Loc X.env.scope x) (r:RelV v u)
  (h:∀ s',Inv X pins (σ.set i (some v)) H s'→Q () s') (hf:X.fn x=true∨X.env.scope.names.lookup x=some .local:=by first | exact .inl rfl | exact .inr rfl | assumption):wpAny M A (storeName X.env x u) Q E s :=
 J31 I hN hi hx r (fun s' I' _=>h s' I') hf
theorem Inv.call' {s':Shared} {ch:List Addr} (I:Inv X pins σ H s) (ho:s'.os=s.os) (u:Un (frs X.stack) ch H H' s.heap s'.heap) (hok:HOk X.prog X.w H' s'.heap) (hg:AllBare s'.gens)
  (hch:∀ b∈ch,(b∈X.ex∨X.s₀.heap.objs.size≤b)∧b≠X.env.locals∧(∀ x c,X.env.cells.lookup x=some c→c≠b)∧∀ p∈X.pn ++ pins,p.1≠b):Inv X pins σ H' s':=by
 obtain ⟨h',g',d',t',o'⟩:=s'
 have e:o'=s.os:=ho
 subst e
 exact I.call (g':=g') (t':=t') (d':=d') u hok hg hch
end
abbrev XK:=Value→Option Addr→Hp→Prop
abbrev St:=List (Option V)
abbrev VK:=V→Hp→Prop
abbrev TE:=St→Hp→VK→Prop
abbrev TT:=St→Hp→(Bool→Hp→Prop)→Prop
abbrev TA:=St→Hp→(List V→Hp→Prop)→Prop
structure Ends where
 nx:St→Hp→Prop
 rt:VK
 bk:St→Hp→Prop:=fun _ _=>False
 ct:St→Hp→Prop:=fun _ _=>False
abbrev TS:=Ends→St→Hp→Prop
def EP (X:Cx) (pins:List (Addr × Obj)) (σ:St) (Q:VK) (u:Value) (s':Shared):Prop:=∃ v H',Inv X pins σ H' s'∧RelV v u∧Q v H'
def TP (X:Cx) (pins:List (Addr × Obj)) (σ:St) (Q:Bool→Hp→Prop) (b:Bool) (s':Shared):Prop:=∃ H',Inv X pins σ H' s'∧Q b H'
def AP (X:Cx) (pins:List (Addr × Obj)) (σ:St) (Q:List V→Hp→Prop) (us:List Value) (s':Shared):Prop:=∃ vs H',Inv X pins σ H' s'∧Vals vs us∧Q vs H'
def SP (X:Cx) (pins:List (Addr × Obj)) (D:Ends) (f:Flow) (s':Shared):Prop :=
 match f with
 | .next=>∃ σ' H',Inv X pins σ' H' s'∧D.nx σ' H'
 | .brk=>∃ σ' H',Inv X pins σ' H' s'∧D.bk σ' H'
 | .cont=>∃ σ' H',Inv X pins σ' H' s'∧D.ct σ' H'
 | .ret u=>∃ v σ' H',Inv X pins σ' H' s'∧RelV v u∧D.rt v H'
def PE (X:Cx) (e:Expr) (t:TE):Prop :=
 ∀ (pins:List (Addr × Obj)) (s:Shared) (σ:St) (H:Hp) (Q:VK),Inv X pins σ H s→t σ H Q→wpAny (model X.prog X.w) X.A (eval e X.env) (EP X pins σ Q) X.xe s
def PT (X:Cx) (e:Expr) (t:TT):Prop :=
 ∀ (pins:List (Addr × Obj)) (s:Shared) (σ:St) (H:Hp) (Q:Bool→Hp→Prop),Inv X pins σ H s→t σ H Q→wpAny (model X.prog X.w) X.A (isTrue e X.env (eval e X.env)) (TP X pins σ Q) X.xe s
def PW (X:Cx) (e:Expr) (t:TT):Prop :=
 ∀ (whole:Sem Value) (pins:List (Addr × Obj)) (s:Shared) (σ:St) (H:Hp) (Q:Bool→Hp→Prop),Inv X pins σ H s→t σ H Q→wpAny (model X.prog X.w) X.A (isTrue e X.env whole) (TP X pins σ Q) X.xe s
theorem PW.pt {X:Cx} {e:Expr} {t:TT} (h:PW X e t):PT X e t:=h _
def PA (X:Cx) (es:List Expr) (t:TA):Prop :=
 ∀ (pos:Pos) (pins:List (Addr × Obj)) (s:Shared) (σ:St) (H:Hp) (Q:List V→Hp→Prop),Inv X pins σ H s→t σ H Q→wpAny (model X.prog X.w) X.A (spliced (backTo pos (starEach es X.env))) (AP X pins σ Q) X.xe s
def PS (X:Cx) (st:Stmt) (t:TS):Prop :=
 ∀ (pins:List (Addr × Obj)) (s:Shared) (σ:St) (H:Hp) (D:Ends),Inv X pins σ H s→t D σ H→wpAny (model X.prog X.w) X.A (exec st X.env) (SP X pins D) X.xe s
def PSs (X:Cx) (st:List Stmt) (t:TS):Prop :=
 ∀ (pins:List (Addr × Obj)) (s:Shared) (σ:St) (H:Hp) (D:Ends),Inv X pins σ H s→t D σ H→wpAny (model X.prog X.w) X.A (execs st X.env) (SP X pins D) X.xe s
theorem thn {α:Type} {t:Sem α} {Q Q':α→Shared→Prop} {M:Model} {A:Around} {E:Value→Shared→Prop} {s:Shared} (h:wpAny M A t Q E s) (hQ:∀ a s,Q a s→Q' a s):wpAny M A t Q' E s:=wpAny_mono h hQ fun _ _ x=>x
end L2
namespace L2
open PySem PySem.Spec PyProof.Rows
section
variable {X:Cx}
def tVar (i:Nat):TE:=fun σ H Q=>∃ v,σ[i]?=some (some v)∧Q v H
def tC (v:V):TE:=fun _ H Q=>Q v H
theorem pe_var {i:Nat} {x:Str} {pos:Pos} (hN:X.N[i]?=some x) (hv:Vis X.env.scope x) (hd:(x == ("__debug__":Str))=false:=by decide) (hcd:(x == ("__classdict__":Str))=false:=by decide):PE X (.Name x pos) (tVar i):=by
 intro pins s σ H Q I h
 obtain ⟨v,e,h⟩:=h
 obtain ⟨m,hn,hl⟩:=I.loc
 obtain ⟨u,r,l⟩:=hl i x v hN e hv
 have fin:EP X pins σ Q u s:=⟨v,H,I,r,h⟩
 rcases l with ⟨hk,hm⟩ | ⟨hk,c,hc,hcell⟩
 ·exact wpAny_Name (wpAny_loadName_local I.ok.kind hk hn hm fin) hd
 ·rcases hk with hk | hk
  ·exact wpAny_Name (wpAny_loadName_cell I.ok.kind hk hc hcell fin) hd
  ·exact wpAny_Name (wpAny_loadName_free I.ok.kind hk hc hcell fin hcd) hd
theorem J1 {i j pos}:PE X (.Constant (.int i) j pos) (tC (.int i)):=fun _ _ _ H _ I h=>wpAny_Constant_int ⟨.int i,H,I.tok _,⟨_,rfl⟩,h⟩
theorem pe_bl {b j pos}:PE X (.Constant (.bool b) j pos) (tC (.bl b)):=fun _ _ _ H _ I h=>Constant_bool ⟨.bl b,H,I,rfl,h⟩
theorem pe_non {j pos}:PE X (.Constant .none j pos) (tC .non):=fun _ _ _ H _ I h=>Constant_none ⟨.non,H,I,rfl,h⟩
theorem Je {x j pos}:PE X (.Constant (.str x) j pos) (tC (.str x)):=fun _ _ _ H _ I h=>Calls.Constant_str ⟨.str x,H,I.tok _,⟨_,rfl⟩,h⟩
def Gl (X:Cx) (x:Str):Prop:=X.env.kindOf x=some .globalImplicit
theorem J3s {E:Value→Shared→Prop} {pins:List (Addr × Obj)} {s:Shared} {σ:St} {H:Hp} {x:Str} {u:Value} {pos:Pos} {Q:Value→Shared→Prop} (I:Inv X pins σ H s) (hg:Gl X x) (hm:X.mg x=some u) (h:Q u s)
  (hd:(x == ("__debug__":Str))=false:=by decide):wpAny (model X.prog X.w) X.A (eval (.Name x pos) X.env) Q E s :=
 Calls.Name_function_global I.ok.kind hg (Calls.loadGlobal_global (by rw [I.ok.glob];exact I.mod.glob.keeps I.bk) hm h) hd
theorem ld_blt {E:Value→Shared→Prop} {pins:List (Addr × Obj)} {s:Shared} {σ:St} {H:Hp} {x:Str} {u:Value} {pos:Pos} {Q:Value→Shared→Prop} (I:Inv X pins σ H s) (hg:Gl X x) (hm:X.mg x=none) (hv:bootBuiltins x=some u) (h:Q u s)
  (hn:x≠"__name__":=by decide) (hd:(x == ("__debug__":Str))=false:=by decide):wpAny (model X.prog X.w) X.A (eval (.Name x pos) X.env) Q E s:=by
 obtain ⟨mb,h1,h2⟩:=I.mod.blt
 exact Calls.Name_function_global I.ok.kind hg (Calls.loadGlobal_builtin (by rw [I.ok.glob];exact I.mod.glob.keeps I.bk) hm (by rw [I.ok.blt];exact h1.keeps I.bk) ((h2 x hn).trans hv) h) hd
theorem J10 {x:Str} {v:V} {u:Value} {pos:Pos} (hg:Gl X x) (hm:X.mg x=some u) (r:RelV v u) (hd:(x == ("__debug__":Str))=false:=by decide):PE X (.Name x pos) (tC v) :=
 fun _ _ _ H _ I h=>J3s I hg hm ⟨v,H,I,r,h⟩ hd
theorem pe_bltn {x:Str} {v:V} {u:Value} {pos:Pos} (hg:Gl X x) (hm:X.mg x=none) (hv:bootBuiltins x=some u) (r:RelV v u) (hn:x≠"__name__":=by decide) (hd:(x == ("__debug__":Str))=false:=by decide):PE X (.Name x pos) (tC v) :=
 fun _ _ _ H _ I h=>ld_blt I hg hm hv ⟨v,H,I,r,h⟩ hn hd
variable {a b:Expr} {ta tb:TE} {pos:Pos}
def tB (t:TE):TT:=fun σ H Q=>t σ H fun x H1=>∃ c,x=.bl c∧Q c H1
theorem J2i {e:Expr} {t:TE} (h:PE X e t) (he:∀ whole,isTrue e X.env whole=(do let v ← whole;standAt e.pos;holding [v] (truthy v)):=by intro _;rfl):PT X e (tB t):=by
 intro pins s σ H Q I hw
 refine isTrue_plain (thn (h pins s σ H _ I hw) fun v s1 ⟨x,H1,I1,r1,q1⟩=>?_) (he _)
 obtain ⟨d,rfl,q⟩:=q1
 cases r1
 exact wpAny_truthy_bool ⟨H1,I1,q⟩
variable {tA tB':TT} {rest:List Expr}
def tAnd (t u:TT):TT:=fun σ H Q=>t σ H fun c H1=>if c=true then u σ H1 Q else Q false H1
def tOr (t u:TT):TT:=fun σ H Q=>t σ H fun c H1=>if c=true then Q true H1 else u σ H1 Q
def tNot (t:TT):TT:=fun σ H Q=>t σ H fun c H1=>Q (!c) H1
theorem pw_and1 (ha:PT X a tA):PW X (.BoolOp .And [a] pos) tA:=by
 intro wh pins s σ H Q I h
 refine isTrue_and (thn (ha pins s σ H Q I h) fun c s1 e=>?_)
 cases c with
 | true=>exact isTrue_and_nil e
 | false=>exact e
theorem pw_or1 (ha:PT X a tA):PW X (.BoolOp .Or [a] pos) tA:=by
 intro wh pins s σ H Q I h
 refine isTrue_or (thn (ha pins s σ H Q I h) fun c s1 e=>?_)
 cases c with
 | false=>exact isTrue_or_nil e
 | true=>exact e
theorem pw_and (ha:PT X a tA) (hb:PW X (.BoolOp .And (b :: rest) pos) tB'):PW X (.BoolOp .And (a :: b :: rest) pos) (tAnd tA tB'):=by
 intro wh pins s σ H Q I h
 refine isTrue_and (thn (ha pins s σ H _ I h) fun c s1 ⟨H1,I1,q1⟩=>?_)
 cases c with
 | true=>exact hb wh pins s1 σ H1 Q I1 q1
 | false=>exact ⟨H1,I1,q1⟩
theorem pw_or (ha:PT X a tA) (hb:PW X (.BoolOp .Or (b :: rest) pos) tB'):PW X (.BoolOp .Or (a :: b :: rest) pos) (tOr tA tB'):=by
 intro wh pins s σ H Q I h
 refine isTrue_or (thn (ha pins s σ H _ I h) fun c s1 ⟨H1,I1,q1⟩=>?_)
 cases c with
 | true=>exact ⟨H1,I1,q1⟩
 | false=>exact hb wh pins s1 σ H1 Q I1 q1
theorem J40 (ha:PT X a tA):PT X (.UnaryOp .Not a pos) (tNot tA):=by
 intro pins s σ H Q I h
 exact isTrue_not (ha pins s σ H (fun c H1=>Q (!c) H1) I h)
def tAndV (ta tb:TE):TE:=fun σ H Q=>ta σ H fun x H1=>∃ c,x=.bl c∧if c=true then tb σ H1 Q else Q (.bl false) H1
def tNotV (ta:TE):TE:=fun σ H Q=>ta σ H fun x H1=>∃ c,x=.bl c∧Q (.bl (!c)) H1
theorem pe_one {op} {t:TE} (h:PE X a t):PE X (.BoolOp op [a] pos) t:=fun pins s σ H Q I hw=>BoolOp_one (h pins s σ H Q I hw)
theorem pe_and (ha:PE X a ta) (hb:PE X (.BoolOp .And (b :: rest) pos) tb):PE X (.BoolOp .And (a :: b :: rest) pos) (tAndV ta tb):=by
 intro pins s σ H Q I h
 refine BoolOp_and (thn (ha pins s σ H _ I h) fun v s1 ⟨x,H1,I1,r1,q1⟩=>?_)
 obtain ⟨c,rfl,q1⟩:=q1
 cases r1
 refine wpAny_truthy_bool ?_
 cases c with
 | true=>exact hb pins s1 σ H1 Q I1 q1
 | false=>exact ⟨.bl false,H1,I1,rfl,q1⟩
theorem pe_not (ha:PE X a ta):PE X (.UnaryOp .Not a pos) (tNotV ta):=by
 intro pins s σ H Q I h
 refine UnaryOp_ (thn (ha pins s σ H _ I h) fun v s1 ⟨x,H1,I1,r1,q1⟩=>?_)
 obtain ⟨c,rfl,q1⟩:=q1
 cases r1
 exact not_of (wpAny_truthy_bool ⟨.bl (!c),H1,I1,rfl,q1⟩)
def tIf (t:TT) (ta tb:TE):TE:=fun σ H Q=>t σ H fun c H1=>if c=true then ta σ H1 Q else tb σ H1 Q
theorem pe_ifExp {c:Expr} (hc:PT X c tA) (ha:PE X a ta) (hb:PE X b tb):PE X (.IfExp c a b pos) (tIf tA ta tb):=by
 intro pins s σ H Q I h
 refine wpAny_IfExp (thn (hc pins s σ H _ I h) fun d s1 ⟨H1,I1,q1⟩=>?_)
 cases d with
 | true=>exact ha pins s1 σ H1 Q I1 q1
 | false=>exact hb pins s1 σ H1 Q I1 q1
end
end L2
namespace L2
open PySem PySem.Spec PyProof.Rows
def SqL (K:PySem.W.Frag) (H:Hp) (a:Addr) (xs:List V):Prop :=
 Rd H a (.lst xs)∨
  ∃ (o:Obj) (its:Array Value) (n:Nat),K.lookup a=some o∧o.cls=.type "list"∧o.dict=none∧o.data=.seq its n∧its.size≤sizeLine∧Vals xs its.toList
def SqT (K:PySem.W.Frag) (H:Hp) (a:Addr) (xs:List V):Prop :=
 Rd H a (.tup xs)∨
  ∃ (o:Obj) (its:Array Value) (n:Nat),K.lookup a=some o∧o.cls=.type "tuple"∧o.data=.seq its n∧its.size≤sizeLine∧Vals xs its.toList
def absV:Value→Option V
 | .none=>some .non
 | .bool b=>some (.bl b)
 | .int i _=>some (.int i)
 | .str x _=>some (.str x)
 | .bytes b _=>some (.byt b)
 | .float b _=>some (.flt b)
 | .ref a=>some (.ref a)
 | .type n=>some (.ty n)
 | _=>none
theorem RelV.abs {x:V} {u:Value} (r:RelV x u):absV u=some x:=by
 cases x with
 | non=>cases r;rfl
 | bl _=>cases r;rfl
 | int _=>obtain ⟨t,rfl⟩:=r;rfl
 | str _=>obtain ⟨t,rfl⟩:=r;rfl
 | byt _=>obtain ⟨t,rfl⟩:=r;rfl
 | flt _=>obtain ⟨t,rfl⟩:=r;rfl
 | ref _=>cases r;rfl
 | ty _=>cases r;rfl
theorem RelV.inj {x y:V} {u:Value} (r:RelV x u) (q:RelV y u):x=y:=Option.some.inj (r.abs.symm.trans q.abs)
theorem Vals.inj:∀ {xs ys:List V} {us:List Value},Vals xs us→Vals ys us→xs=ys
 | _,_,_,.nil,.nil=>rfl
 | _,_,_,.cons r t,.cons r' t'=>by rw [r.inj r',Vals.inj t t']
section
variable {X:Cx} {pins:List (Addr × Obj)} {σ:St} {H:Hp} {s:Shared} {a:Addr} {xs ys:List V}
theorem SqL.of {K:PySem.W.Frag} (h:H a=some (.lst xs)):SqL K H a xs:=.inl (.inl h)
theorem SqT.of {K:PySem.W.Frag} (h:H a=some (.tup xs)):SqT K H a xs:=.inl (.inl h)
theorem Inv.list (I:Inv X pins σ H s) (h:SqL X.K H a xs):∃ its:List Value,Vals xs its∧PlainL s.heap a its.toArray∧xs.length≤sizeLine:=by
 rcases h with h | ⟨o,its,n,hk,hc,hd,hs,hz,r⟩
 ·obtain ⟨z,its,n,r,e⟩:=h.ok I.hok
  exact ⟨its,r,⟨_,n,e,rfl,rfl,rfl⟩,z⟩
 ·refine ⟨its.toList,r,⟨o,n,I.kIn a o hk,hc,hd,by simpa using hs⟩,?_⟩
  have e:=r.length
  simp only [Array.length_toList] at e
  omega
theorem Inv.tuple (I:Inv X pins σ H s) (h:SqT X.K H a xs):∃ its:List Value,Vals xs its∧IsTup s.heap a its.toArray∧xs.length≤sizeLine:=by
 rcases h with h | ⟨o,its,n,hk,hc,hs,hz,r⟩
 ·obtain ⟨z,its,r,p⟩:=h.ok I.hok
  exact ⟨its,r,p.tup,z⟩
 ·refine ⟨its.toList,r,⟨o,I.kIn a o hk,hc,n,by simpa using hs⟩,?_⟩
  have e:=r.length
  simp only [Array.length_toList] at e
  omega
theorem Inv.list_inj (I:Inv X pins σ H s) (h:SqL X.K H a xs) (h':SqL X.K H a ys):xs=ys:=by
 obtain ⟨its,r,⟨o,n,e,_,_,d⟩,_⟩:=I.list h
 obtain ⟨its',r',⟨o',n',e',_,_,d'⟩,_⟩:=I.list h'
 rw [e] at e';cases e'
 rw [d] at d'
 injection d' with d1 _
 have:its=its':=by simpa using congrArg Array.toList d1
 subst this
 exact r.inj r'
end
abbrev Cx.wish (X:Cx) (E:Value→Shared→Prop):Cx:={ X with xe:=E }
abbrev Cx.nox (X:Cx):Cx:=X.wish fun _ _=>False
theorem Cx.Ok.wish {X:Cx} (ok:X.Ok) (E:Value→Shared→Prop):(X.wish E).Ok :=
 ⟨ok.mod,ok.kind,ok.glob,ok.blt,ok.above,ok.inj,ok.has,ok.cab,ok.hd,ok.frames,ok.stk,ok.exf,ok.bs,ok.bsz,ok.noex,ok.exfs,ok.funs,ok.frf⟩
theorem Cx.Ok.unwish {X:Cx} {E:Value→Shared→Prop} (ok:(X.wish E).Ok):X.Ok :=
 ⟨ok.mod,ok.kind,ok.glob,ok.blt,ok.above,ok.inj,ok.has,ok.cab,ok.hd,ok.frames,ok.stk,ok.exf,ok.bs,ok.bsz,ok.noex,ok.exfs,ok.funs,ok.frf⟩
section
variable {X:Cx} {pins:List (Addr × Obj)} {σ:St} {H:Hp} {s:Shared} {E:Value→Shared→Prop}
theorem Inv.wish (I:Inv X pins σ H s) (E:Value→Shared→Prop):Inv (X.wish E) pins σ H s:=⟨I.ok.wish E,I.os,I.bare,I.base,I.loc,I.cell,I.free,I.freeC,I.pin,I.hok,I.len⟩
theorem Inv.unwish (I:Inv (X.wish E) pins σ H s):Inv X pins σ H s:=⟨I.ok.unwish,I.os,I.bare,I.base,I.loc,I.cell,I.free,I.freeC,I.pin,I.hok,I.len⟩
theorem SP.unwish {D:Ends} {f:Flow} {s':Shared} (h:SP (X.wish E) pins D f s'):SP X pins D f s':=by
 cases f with
 | next=>obtain ⟨σ',H',I,q⟩:=h;exact ⟨σ',H',I.unwish,q⟩
 | brk=>obtain ⟨σ',H',I,q⟩:=h;exact ⟨σ',H',I.unwish,q⟩
 | cont=>obtain ⟨σ',H',I,q⟩:=h;exact ⟨σ',H',I.unwish,q⟩
 | ret u=>obtain ⟨v,σ',H',I,r,q⟩:=h;exact ⟨v,σ',H',I.unwish,r,q⟩
theorem PE.nox {e:Expr} {t:TE} (h:PE X.nox e t):PE X e t:=fun pins s σ H Q I hw =>
 wpAny_mono (h pins s σ H Q (I.wish _) hw) (fun _ _ ⟨v,H',I',r,q⟩=>⟨v,H',I'.unwish,r,q⟩) fun _ _ z=>False.elim z
theorem PT.nox {e:Expr} {t:TT} (h:PT X.nox e t):PT X e t:=fun pins s σ H Q I hw =>
 wpAny_mono (h pins s σ H Q (I.wish _) hw) (fun _ _ ⟨H',I',q⟩=>⟨H',I'.unwish,q⟩) fun _ _ z=>False.elim z
theorem PSs.nox {st:List Stmt} {t:TS} (h:PSs X.nox st t):PSs X st t:=fun pins s σ H D I hw =>
 wpAny_mono (h pins s σ H D (I.wish _) hw) (fun _ _ q=>q.unwish) fun _ _ z=>False.elim z
end
section
variable {X:Cx} {st:Stmt} {rest:List Stmt} {t u:TS} {e:Expr} {te:TE} {pos:Pos}
def tNext:TS:=fun D σ H=>D.nx σ H
def tSeq (t u:TS):TS:=fun D σ H=>t { D with nx:=u D } σ H
theorem Jm:PSs X [] tNext:=fun _ _ σ H _ I h=>wpAny_execs_nil ⟨σ,H,I,h⟩
theorem J2 (h1:PS X st t) (h2:PSs X rest u):PSs X (st :: rest) (tSeq t u):=by
 intro pins s σ H D I h
 refine wpAny_execs_cons (thn (h1 pins s σ H { D with nx:=u D } I h) fun f s1 q=>?_)
 cases f with
 | next =>
  obtain ⟨σ',H',I',q⟩:=q
  exact h2 pins s1 σ' H' D I' q
 | ret v=>exact q
 | brk=>exact q
 | cont=>exact q
theorem J8 (h1:PS X st t):PSs X [st] t:=by
 intro pins s σ H D I h
 refine wpAny_execs_cons (thn (h1 pins s σ H D I h) fun f s1 q=>?_)
 cases f with
 | next=>exact wpAny_execs_nil q
 | ret v=>exact q
 | brk=>exact q
 | cont=>exact q
theorem Inv.quiet {pins:List (Addr × Obj)} {σ:St} {H:Hp} {s:Shared} (I:Inv X pins σ H s):interactive X.env=false:=by simp [interactive,I.ok.kind]
def tDrop (te:TE):TS:=fun D σ H=>te σ H fun _ H1=>D.nx σ H1
theorem ps_expr (he:PE X e te) (hs:swapsWith e none pos.line X.env=pure false:=by rfl):PS X (.Expr e pos) (tDrop te):=by
 intro pins s σ H D I h
 exact wpAny_Expr_any (thn (he pins s σ H _ I h) fun v s1 ⟨x,H1,I1,r1,q1⟩=>⟨σ,H1,I1,q1⟩) I.quiet hs
def tRet (te:TE):TS:=fun D σ H=>te σ H D.rt
theorem Jz (he:PE X e te):PS X (.Return (some e) pos) (tRet te):=by
 intro pins s σ H D I h
 exact wpAny_Return_some (thn (he pins s σ H _ I h) fun v s1 ⟨x,H1,I1,r1,q1⟩=>⟨x,σ,H1,I1,r1,q1⟩)
def tIfS (c:TT) (t u:TS):TS:=fun D σ H=>c σ H fun b H1=>if b=true then t D σ H1 else u D σ H1
theorem ps_if {c:Expr} {a b:List Stmt} {tc:TT} (hc:PT X c tc) (ha:PSs X a t) (hb:PSs X b u):PS X (.If c a b pos) (tIfS tc t u):=by
 intro pins s σ H D I h
 refine wpAny_If (thn (hc pins s σ H _ I h) fun d s1 ⟨H1,I1,q1⟩=>?_)
 cases d with
 | true=>exact ha pins s1 σ H1 D I1 q1
 | false=>exact hb pins s1 σ H1 D I1 q1
def tNever:TS:=fun _ _ _=>False
theorem J2j:PS X st tNever:=fun _ _ _ _ _ _ h=>h.elim
end
abbrev TG:=V→St→Hp→(St→Hp→Prop)→Prop
abbrev TGs:=List V→St→Hp→(St→Hp→Prop)→Prop
def PG (X:Cx) (target:Expr) (t:TG):Prop :=
 ∀ (pins:List (Addr × Obj)) (s:Shared) (σ:St) (H:Hp) (v:V) (u:Value) (Q:St→Hp→Prop),Inv X pins σ H s→RelV v u→t v σ H Q→
  wpAny (model X.prog X.w) X.A (assign target X.env u) (fun _ s'=>∃ σ' H',Inv X pins σ' H' s'∧Q σ' H') X.xe s
def PGs (X:Cx) (ts:List Expr) (t:TGs):Prop :=
 ∀ (pins:List (Addr × Obj)) (s:Shared) (σ:St) (H:Hp) (vs:List V) (us:List Value) (Q:St→Hp→Prop),Inv X pins σ H s→Vals vs us→t vs σ H Q→
  wpAny (model X.prog X.w) X.A (assignInOrder ((assignEach ts X.env).map (·.2)) us) (fun _ s'=>∃ σ' H',Inv X pins σ' H' s'∧Q σ' H') X.xe s
abbrev TSet:=V→V→V→Hp→(Hp→Prop)→Prop
def PSet (X:Cx) (t:TSet):Prop :=
 ∀ (pins:List (Addr × Obj)) (s:Shared) (σ:St) (H:Hp) (o i v:V) (ov iv u:Value) (Q:Hp→Prop),Inv X pins σ H s→RelV o ov→RelV i iv→RelV v u→t o i v H Q→
  wpAny (model X.prog X.w) X.A (setItem ov iv u) (fun _ s'=>∃ H',Inv X pins σ H' s'∧Q H') X.xe s
section
variable {X:Cx} {pos:Pos}
def gName (i:Nat):TG:=fun v σ H Q=>Q (σ.set i (some v)) H
theorem J2l {i:Nat} {x:Str} (hN:X.N.Nodup) (hi:X.N[i]?=some x) (hx:Loc X.env.scope x) (hf:X.fn x=true∨X.env.scope.names.lookup x=some .local:=by first | exact .inl rfl | exact .inr rfl | assumption):PG X (.Name x pos) (gName i):=by
 intro pins s σ H v u Q I r h
 exact wpAny_assign_Name (J3x I hN hi hx r (fun s' I'=>⟨_,H,I',h⟩) hf)
def gNil:TGs:=fun vs σ H Q=>vs=[]∧Q σ H
def gCons (t:TG) (u:TGs):TGs:=fun vs σ H Q=>∃ v r,vs=v :: r∧t v σ H fun σ' H'=>u r σ' H' Q
theorem pgs_nil:PGs X [] gNil:=by
 intro pins s σ H vs us Q I r h
 obtain ⟨e,h⟩:=h
 subst e
 cases r
 exact assignInOrder_nil ⟨σ,H,I,h⟩
theorem J41 {e:Expr} {es:List Expr} {t:TG} {u:TGs} (h1:PG X e t) (h2:PGs X es u)
  (hs:(assignEach (e :: es) X.env).map (·.2)=assign e X.env :: (assignEach es X.env).map (·.2):=by rfl):PGs X (e :: es) (gCons t u):=by
 intro pins s σ H vs us Q I r h
 obtain ⟨v,vr,e1,h⟩:=h
 subst e1
 cases r with
 | cons r rr =>
  rw [hs]
  refine assignInOrder_cons (thn (h1 pins s σ H _ _ _ I r h) fun _ s1 ⟨σ1,H1,I1,q1⟩=>?_)
  exact h2 pins s1 σ1 H1 _ _ Q I1 rr q1
def gTup (K:PySem.W.Frag) (n:Nat) (t:TGs):TG:=fun v σ H Q=>∃ a xs,v=.ref a∧SqT K H a xs∧xs.length=n∧t xs σ H Q
theorem pg_tup {es:List Expr} {k:Nat} {t:TGs} {n:Nat} (hc:X.calm=true) (h:PGs X es t)
  (hn:(assignEach es X.env).length=n:=by rfl) (hst:(assignEach es X.env).findIdx? (·.1)=none:=by rfl):PG X (.Tuple es k pos) (gTup X.K n t):=by
 intro pins s σ H v u Q I r hw
 obtain ⟨a,xs,e1,hq,hl,hw⟩:=hw
 subst e1
 cases r
 obtain ⟨its,rv,ht,hz⟩:=I.tuple hq
 refine assign_Tuple_tuple (I.ok.hd hc) ht (by simp [hn,← hl,rv.length]) hst fun h' hx=>?_
 have I1:Inv X pins σ H { s with heap:=h' }:=I.kept (t':=s.toks) fun b o e=>hx b o (Nat.ne_of_lt (Heap.lt_size e)) e
 exact h pins _ σ H xs _ Q I1 (by simpa using rv) hw
def gSub (to ti:TE) (t:TSet):TG:=fun v σ H Q=>to σ H fun o H1=>ti σ H1 fun i H2=>t o i v H2 fun H3=>Q σ H3
theorem J42 {o i:Expr} {to ti:TE} {t:TSet} (ho:PE X o to) (hi:PE X i ti) (hs:PSet X t)
  (ha:∀ v,assign (.Subscript o i pos) X.env v=(do
   let ov ← holding [v] (eval o X.env)
   let iv ← holding [v,ov] (eval i X.env)
   standAt pos
   holding [v,ov,iv] (setItem ov iv v)
   release [v,ov,iv] []):=by intro _;rfl):PG X (.Subscript o i pos) (gSub to ti t):=by
 intro pins s σ H v u Q I r h
 rw [ha]
 refine wpAny_bind (wpAny_holding (thn (ho pins s σ H _ I h) fun ov s1 ⟨x,H1,I1,r1,q1⟩=>?_))
 refine wpAny_bind (wpAny_holding (thn (hi pins s1 σ H1 _ I1 q1) fun iv s2 ⟨y,H2,I2,r2,q2⟩=>?_))
 refine wpAny_bind (wpAny_standAt (wpAny_bind (wpAny_holding (thn (hs pins s2 σ H2 x y v ov iv u _ I2 r1 r2 r q2) fun _ s3 ⟨H3,I3,q3⟩=>?_))))
 exact wpAny_release ⟨σ,H3,I3,q3⟩
def tAsg (te:TE) (g:TG):TS:=fun D σ H=>te σ H fun x H1=>g x σ H1 D.nx
theorem J3r {tg e:Expr} {te:TE} {g:TG} (he:PE X e te) (hg:PG X tg g) (hs:swapsWithSole [tg] e pos.line X.env=pure false:=by rfl) (hw:swappedStores [tg] e X.env=pure none:=by rfl)
  (h1:(assignEach [tg] X.env).map (·.2)=[assign tg X.env]:=by rfl):PS X (.Assign [tg] e pos) (tAsg te g):=by
 intro pins s σ H D I h
 refine wpAny_Assign_stores (thn (he pins s σ H _ I h) fun v s1 ⟨x,H1,I1,r1,q1⟩=>?_) hs hw
 rw [h1]
 exact thn (hg pins s1 σ H1 x v _ I1 r1 q1) fun _ s2 q=>q
theorem Jp {i:Nat} {x:Str} {e:Expr} {te:TE} {pos':Pos} (hN:X.N.Nodup) (hi:X.N[i]?=some x) (hx:Loc X.env.scope x) (he:PE X e te) (hs:swapsWith e (some (.Name x pos')) pos.line X.env=pure false:=by rfl) (hf:X.fn x=true∨X.env.scope.names.lookup x=some .local:=by first | exact .inl rfl | exact .inr rfl | assumption) :
  PS X (.Assign [.Name x pos'] e pos) (tAsg te (gName i)):=by
 intro pins s σ H D I h
 refine wpAny_Assign_Name (thn (he pins s σ H _ I h) fun v s1 ⟨y,H1,I1,r1,q1⟩=>?_) hs
 exact J3x I1 hN hi hx r1 (fun s2 I2=>⟨_,H1,I2,q1⟩) hf
end
structure It where
 go:Nat→Hp→Prop
 yld:Nat→Hp→V→Hp→Prop
 stop:Nat→Hp→Prop
def FpOk (X:Cx) (pins:List (Addr × Obj)) (H:Hp) (b:Addr):Prop :=
 H b=none∧b≠X.env.locals∧b ∉ X.fs∧(b∈X.ex∨X.s₀.heap.objs.size≤b)∧(∀ x c,X.env.cells.lookup x=some c→c≠b)∧∀ p∈X.pn ++ pins,p.1≠b
theorem Inv.fpOk {X:Cx} {pins:List (Addr × Obj)} {σ:St} {H H':Hp} {s:Shared} {b:Addr} (I:Inv X pins σ H s) (hb:s.heap.objs.size≤b) (hn:H' b=none):FpOk X pins H' b:=by
 refine ⟨hn,Nat.ne_of_gt (Nat.lt_of_lt_of_le I.lt hb),I.nofs hb,.inr (Nat.le_trans I.sz hb),fun x c e z=>?_,fun p hp z=>?_⟩
 ·obtain ⟨v,q⟩:=I.cell x c e
  exact absurd (Nat.lt_of_lt_of_le q.lt (by rw [z];exact hb)) (Nat.lt_irrefl _)
 ·exact absurd (Nat.lt_of_lt_of_le (Heap.lt_size (I.pin p hp).1) (by rw [z];exact hb)) (Nat.lt_irrefl _)
structure Turn (P:Program) (w:World) (K:PySem.W.Frag) (tg:Expr) (J:It) (fp:List Addr) (it:Addr) (tn:Nat→Heap→Prop):Prop where
 mem:it∈fp
 obj:∀ i h,tn i h→∀ b∈fp,∃ o,h.get? b=some o∧∀ v,o.data≠.cell v
 keep:∀ i h h',tn i h→(∀ b∈fp,∀ o,h.get? b=some o→h'.get? b=some o)→tn i h'
 item:∀ (X:Cx),X.prog=P→X.w=w→X.K=K→X.calm=true→∀ (i:Nat) (pins:List (Addr × Obj)) (s:Shared) (σ:St) (H:Hp) (E:Value→Shared→Prop),Inv X pins σ H s→(∀ b∈fp,FpOk X pins H b)→tn i s.heap→J.go i H→
  wpAny (model P w) X.A (pyNext (.ref it)) (fun r s1=>∃ u,r=some u∧
   wpAny (model P w) X.A (letOwnedTupleGo tg (.ref it) u) (fun _ s2=>∃ x H',Inv X pins σ H' s2∧RelV x u∧J.yld i H x H'∧tn (i + 1) s2.heap∧∀ b∈fp,H' b=none) E s1) E s
 done:∀ (X:Cx),X.prog=P→X.w=w→X.K=K→X.calm=true→∀ (i:Nat) (pins:List (Addr × Obj)) (s:Shared) (σ:St) (H:Hp) (E:Value→Shared→Prop),Inv X pins σ H s→(∀ b∈fp,FpOk X pins H b)→tn i s.heap→J.stop i H→
  wpAny (model P w) X.A (pyNext (.ref it)) (fun r s1=>r=none∧Inv X pins σ H s1) E s
 self:∀ (A:Around) (i:Nat) (s:Shared) (Q:Value→Shared→Prop) (E:Value→Shared→Prop),tn i s.heap→Q (.ref it) s→wpAny (model P w) A (pyIter (.ref it)) Q E s
abbrev TI:=St→Hp→(It→Hp→Prop)→Prop
def PIE (X:Cx) (pins:List (Addr × Obj)) (σ:St) (tg:Expr) (R:It→Hp→Prop) (itv:Value) (s2:Shared):Prop :=
 ∃ (it:Addr) (fp:List Addr) (tn:Nat→Heap→Prop) (J:It) (H':Hp),itv=.ref it∧Inv X pins σ H' s2∧Turn X.prog X.w X.K tg J fp it tn∧tn 0 s2.heap∧(∀ b∈fp,FpOk X pins H' b)∧R J H'
def PI (X:Cx) (tg iter:Expr) (wi:TI):Prop :=
 ∀ (pins:List (Addr × Obj)) (s:Shared) (σ:St) (H:Hp) (R:It→Hp→Prop),Inv X pins σ H s→wi σ H R→
  wpAny (model X.prog X.w) X.A (eval iter X.env) (fun v s1=>wpAny (model X.prog X.w) X.A (pyIter v) (PIE X pins σ tg R) X.xe s1) X.xe s
theorem go_of {M : Model} {A : Around} {E : Value → Shared → Prop} {s : Shared} {tg : Expr} {it : Addr} {u : Value} {o : Obj} {n : String} {vs : Array Value} {Q : Unit → Shared → Prop} (ho : s.heap.get? it = some o) (hc : o.cls = .type n) (hd : o.data = .fields vs)
    (hn : ["enumerate", "zip", "dict_itemiterator", "dict_reverseitemiterator", "odict_iterator", "itertools.zip_longest", "itertools.pairwise"].contains n = false) (hQ : Q () s) : wpAny M A (letOwnedTupleGo tg (.ref it) u) Q E s := by
  unfold letOwnedTupleGo
  cases tg <;> first
    | exact wpAny_pure hQ
    | (cases u <;> first
        | exact wpAny_pure hQ
        | (refine wpAny_bind (wpAny_load ho ?_)
           rw [hc, hd]
           show wpAny M A (if (["enumerate", "zip", "dict_itemiterator", "dict_reverseitemiterator", "odict_iterator", "itertools.zip_longest", "itertools.pairwise"].contains n && vs[0]? == some (rawInt _)) = true then _ else _) Q E s
           rw [if_neg (by intro h; rw [hn, Bool.false_and] at h; cases h)]
           exact wpAny_pure hQ))
def Itl (K:PySem.W.Frag) (a:Addr):It :=
 ⟨fun i H=>∃ xs x,SqL K H a xs∧xs[i]?=some x,fun i H x H'=>H'=H∧∀ xs,SqL K H a xs→xs[i]?=some x,fun i H=>∃ xs,SqL K H a xs∧xs.length≤i⟩
def Itr (lo:Int) (n:Nat):It:=⟨fun i _=>i < n,fun i H x H'=>H'=H∧x=.int (lo + i),fun i _=>n≤i⟩
theorem turn_list {P:Program} {w:World} {K:PySem.W.Frag} {tg:Expr} (a it:Addr):Turn P w K tg (Itl K a) [it] it (fun i h=>h.IsListIter it a i) where
 mem:=by simp
 obj:=fun i h st b hb=>by
  have e:b=it:=by simpa using hb
  subst e
  obtain ⟨o,e,c,d⟩:=st
  exact ⟨o,e,fun v z=>by rw [d] at z;cases z⟩
 keep:=fun i h h' st k=>st.at fun o e=>k it (by simp) o e
 item:=by
  intro X hP hw hK hc i pins s σ H E I hf st hg
  subst hP hw hK
  obtain ⟨xs,x,hq,hx⟩:=hg
  obtain ⟨its,rv,p,hz⟩:=I.list hq
  obtain ⟨u,hu,ru⟩:=rv.get hx
  obtain ⟨f0,f1,f2,f3,f4,f5⟩:=hf it (by simp)
  refine wpAny_pyNext_list_item st p.isList (x:=u) (by simpa using hu) fun h' st' sb=>?_
  have I1:Inv X pins σ H { s with heap:=h' }:=I.turned (t':=s.toks) (fun b o hb e=>(sb.2 b hb).trans e) f0 f1 f3 f4 f5
  obtain ⟨o,e,c,d⟩:=id st'
  exact ⟨u,rfl,go_of (s:={ s with heap:=h' }) e c d (by decide) ⟨x,H,I1,ru,⟨rfl,fun ys hy=>by rw [I.list_inj hy hq];exact hx⟩,st',fun b hb=>(hf b hb).1⟩⟩
 done:=by
  intro X hP hw hK hc i pins s σ H E I hf st hg
  subst hP hw hK
  obtain ⟨xs,hq,hx⟩:=hg
  obtain ⟨its,rv,p,hz⟩:=I.list hq
  obtain ⟨f0,f1,f2,f3,f4,f5⟩:=hf it (by simp)
  have hl:=rv.length
  exact wpAny_pyNext_list_end (I.ok.hd hc) st p.isList (by simp;omega) fun h' eb=>⟨rfl,I.turned (t':=s.toks) (fun b o hb e=>eb b o hb e) f0 f1 f3 f4 f5⟩
 self:=fun _ _ _ _ _ st h=>wpAny_pyIter_listiter st h
theorem turn_range {P:Program} {w:World} {K:PySem.W.Frag} {tg:Expr} (it:Addr) (lo:Int) (n:Nat):Turn P w K tg (Itr lo n) [it] it (fun i h=>IsRangeIter h it (lo + (i:Nat) * 1) ((n:Int) - (i:Nat)) 1) where
 mem:=by simp
 obj:=fun i h st b hb=>by
  have e:b=it:=by simpa using hb
  subst e
  exact ⟨_,st,fun v z=>by
   have z':Data.fields _=Data.cell v:=z
   cases z'⟩
 keep:=fun i h h' st k=>k it (by simp) _ st
 item:=by
  intro X hP hw hK hc i pins s σ H E I hf st hg
  subst hP hw hK
  obtain ⟨f0,f1,f2,f3,f4,f5⟩:=hf it (by simp)
  have W:=Walks.range (prog:=X.prog) (w:=X.w) (I.ok.hd hc) it lo 1 n
  refine W.item i s _ _ hg st fun v h' tk hv st' kk=>?_
  obtain ⟨t,rfl⟩:=hv
  have I1:Inv X pins σ H { s with heap:=h',toks:=tk }:=I.turned (fun b o hb e=>kk b o (by simpa using hb) e) f0 f1 f3 f4 f5
  refine ⟨_,rfl,go_of (s:={ s with heap:=h',toks:=tk }) (n:="range_iterator") st' rfl rfl (by decide) ⟨.int (lo + i),H,I1,⟨t,?_⟩,⟨rfl,rfl⟩,st',fun b hb=>(hf b hb).1⟩⟩
  rw [Int.mul_one]
 done:=by
  intro X hP hw hK hc i pins s σ H E I hf st hg
  subst hP hw hK
  obtain ⟨f0,f1,f2,f3,f4,f5⟩:=hf it (by simp)
  exact wpAny_pyNext_range_end (I.ok.hd hc) st (by have:n≤i:=hg;omega) fun h' eb=>⟨rfl,I.turned (t':=s.toks) (fun b o hb e=>eb b o hb e) f0 f1 f3 f4 f5⟩
 self:=fun _ _ _ _ _ st h=>wpAny_pyIter_rangeiter st h
end L2
namespace L2
open PySem PySem.Spec PyProof.Rows
section
variable {X:Cx} {tg:Expr}
def iList (K:PySem.W.Frag) (tl:TE):TI:=fun σ H R=>tl σ H fun x H1=>∃ a,x=.ref a∧(∃ xs,SqL K H1 a xs)∧R (Itl K a) H1
theorem pi_list {l:Expr} {tl:TE} (hl:PE X l tl):PI X tg l (iList X.K tl):=by
 intro pins s σ H R I h
 refine thn (hl pins s σ H _ I h) fun v s1 ⟨x,H1,I1,r1,q1⟩=>?_
 obtain ⟨a,e,⟨xs,hq⟩,q⟩:=q1
 subst e
 cases r1
 obtain ⟨its,rv,p,hz⟩:=I1.list hq
 refine wpAny_pyIter_list p.isList ?_
 refine ⟨s1.heap.objs.size,[s1.heap.objs.size],_,_,H1,rfl,I1.kept (t':=s1.toks) fun b o e=>Heap.get?_push_of_some _ e,turn_list a _,⟨_,Heap.get?_push_size _ rfl,rfl,rfl⟩,fun b hb=>?_,q⟩
 have e:b=s1.heap.objs.size:=by simpa using hb
 subst e
 exact I1.fpOk (Nat.le_refl _) (I1.hok.fresh (Nat.le_refl _))
theorem range_it {pins:List (Addr × Obj)} {σ:St} {H:Hp} {s:Shared} {R:It→Hp→Prop} {E:Value→Shared→Prop} {lo hi:Int} {t u v:Tok} {tk:Nat} (I:Inv X pins σ H s) (h1:-(2 ^ 62)≤lo) (h2:lo < 2 ^ 62) (h3:-(2 ^ 62)≤hi) (h4:hi < 2 ^ 62)
  (q:R (Itr lo (hi - lo).toNat) H):wpAny (model X.prog X.w) X.A (pyIter (.ref s.heap.objs.size)) (PIE X pins σ tg R) E { s with heap:=s.heap.push { cls:=.type "range",data:=.fields #[.int lo t,.int hi u,.int 1 v] },toks:=tk }:=by
 refine wpAny_pyIter_range (IsRange.new ..) (small_one h1 h2 h3 h4) ?_
 have I1:Inv X pins σ H { s with heap:=s.heap.push { cls:=.type "range",data:=.fields #[.int lo t,.int hi u,.int 1 v] },toks:=tk }:=I.kept fun b o e=>Heap.get?_push_of_some _ e
 refine ⟨(s.heap.push { cls:=.type "range",data:=.fields #[.int lo t,.int hi u,.int 1 v] }).objs.size,[(s.heap.push { cls:=.type "range",data:=.fields #[.int lo t,.int hi u,.int 1 v] }).objs.size],_,_,H,rfl,
  I1.kept (t':=tk) fun b o e=>Heap.get?_push_of_some _ e,turn_range _ lo (hi - lo).toNat,?_,fun b hb=>?_,q⟩
 ·have e1:lo + ((0:Nat):Int) * 1=lo:=by simp
  have e2:(((hi - lo).toNat:Nat):Int) - ((0:Nat):Int)=Builtin.Range.rangeSize lo hi 1:=by rw [rangeSize_one];split <;> omega
  show IsRangeIter _ _ (lo + ((0:Nat):Int) * 1) ((((hi - lo).toNat:Nat):Int) - ((0:Nat):Int)) 1
  rw [e1,e2]
  exact Heap.get?_push_size _ rfl
 ·have e:b=(s.heap.push { cls:=.type "range",data:=.fields #[.int lo t,.int hi u,.int 1 v] }).objs.size:=by simpa using hb
  subst e
  exact I1.fpOk (Nat.le_refl _) (I1.hok.fresh (Nat.le_refl _))
def iRng1 (ta:TA):TI:=fun σ H R=>ta σ H fun vs H1=>∃ j:Int,vs=[.int j]∧-(2 ^ 62)≤j∧j < 2 ^ 62∧R (Itr 0 j.toNat) H1
theorem J27 {a:Expr} {ta:TA} {p pos:Pos} (hg:Gl X "range") (hm:X.mg "range"=none) (ha:PA X [a] ta) (hs:starEach [a] X.env=[(false,eval a X.env)]:=by rfl):PI X tg (.Call (.Name "range" p) [a] [] pos) (iRng1 ta):=by
 intro pins s σ H R I h
 refine Call_ (ld_blt I hg hm boot_range (PyProof.Rows.callWith_type1 (thn (ha pos pins s σ H _ I h) fun us s1 ⟨vs,H1,I1,r1,q1⟩=>?_) hs rfl))
 obtain ⟨j,e,q1,q2,q⟩:=q1
 subst e
 cases r1 with
 | cons r rr =>
  cases rr
  obtain ⟨t,rfl⟩:=r
  exact call_range_1 (range_it I1 (by omega) (by omega) q1 q2 (by simpa using q))
def tFor (wi:TI) (g:TG) (tb:TS):TS:=fun D σ H=>wi σ H fun J H1=>∃ W:Nat→Nat→St→Hp→Prop,(∃ m,W 0 m σ H1)∧∀ i m σ H,W i m σ H→
 (J.stop i H∧D.nx σ H)∨(J.go i H∧∃ N:St→Hp→Prop,(∀ σ' H',N σ' H'→∃ m',m' < m∧W (i + 1) m' σ' H')∧∀ x H',J.yld i H x H'→g x σ H' fun σ2 H2=>tb { D with nx:=N,ct:=N,bk:=D.nx } σ2 H2)
def pinsAt (fp:List Addr) (h:Heap):List (Addr × Obj):=fp.filterMap fun b=>(h.get? b).map fun o=>(b,o)
theorem J1c {fp:List Addr} {h:Heap} {b:Addr} {o:Obj} (hb:b∈fp) (e:h.get? b=some o):(b,o)∈pinsAt fp h:=List.mem_filterMap.mpr ⟨b,hb,by rw [e];rfl⟩
theorem of_pinsAt {fp:List Addr} {h:Heap} {p:Addr × Obj} (hp:p∈pinsAt fp h):p.1∈fp∧h.get? p.1=some p.2:=by
 obtain ⟨b,hb,e⟩:=List.mem_filterMap.mp hp
 cases q:h.get? b with
 | none=>rw [q] at e;cases e
 | some o =>
  rw [q] at e
  have e':(b,o)=p:=Option.some.inj e
  subst e'
  exact ⟨hb,q⟩
theorem Inv.pinned {pins:List (Addr × Obj)} {σ:St} {H:Hp} {s:Shared} {fp:List Addr} (I:Inv X pins σ H s) (hf:∀ b∈fp,FpOk X pins H b) (ho:∀ b∈fp,∃ o,s.heap.get? b=some o∧∀ v,o.data≠.cell v):Inv X (pins ++ pinsAt fp s.heap) σ H s :=
 I.pins_of fun p hp=>(List.mem_append.mp hp).elim (fun z=>I.pin p (List.mem_append_right _ z)) fun z=>by
  obtain ⟨hb,e⟩:=of_pinsAt z
  obtain ⟨f0,f1,f2,_⟩:=hf p.1 hb
  obtain ⟨o,e',d⟩:=ho p.1 hb
  rw [e] at e';cases e'
  exact ⟨e,f0,f1,f2,d⟩
theorem Inv.unpinned {pins pl:List (Addr × Obj)} {σ:St} {H:Hp} {s:Shared} (I:Inv X (pins ++ pl) σ H s):Inv X pins σ H s:=I.pins_of fun p hp=>I.pin p (List.mem_append_right _ (List.mem_append_left _ hp))
theorem ps_for {iter:Expr} {body:List Stmt} {wi:TI} {g:TG} {tb:TS} {pos:Pos} (hp:PassesOwn (model X.prog X.w) X.A X.env X.xe) (hc:X.calm=true) (hi:PI X tg iter wi) (hg:PG X tg g) (hb:PSs X body tb)
  (hs:∀ x,foldedSetIterable iter X.env x=pure x:=by intro _;rfl):PS X (.For tg iter body [] pos) (tFor wi g tb):=by
 intro pins s σ H D I h
 refine wpAny_For (thn (hi pins s σ H _ I h) fun v s1 h1=>thn h1 fun itv s2 h2=>?_) hs
 obtain ⟨it,fp,tn,J,H2,e,I2,T,st2,f2,W,⟨m0,w0⟩,turn⟩:=h2
 subst e
 have stat:∀ {H':Hp},(∀ b∈fp,H' b=none)→∀ b∈fp,FpOk X pins H' b:=fun hn b hb=>⟨hn b hb,(f2 b hb).2⟩
 refine codeAny_forLoop_any (fun n s'=>∃ i σ' H',Inv X pins σ' H' s'∧tn i s'.heap∧(∀ b∈fp,H' b=none)∧W i n σ' H') ?_ m0 ⟨0,σ,H2,I2,st2,fun b hb=>(f2 b hb).1,w0⟩
 rintro n s3 ⟨i,σ3,H3,I3,st3,fr3,w3⟩
 rcases turn i n σ3 H3 w3 with ⟨stop,qn⟩ | ⟨go,N,hN,step⟩
 ·refine wpAny_passesOwn hp (thn (T.done X rfl rfl rfl hc i pins s3 σ3 H3 X.xe I3 (stat fr3) st3 stop) fun r s4 ⟨hr,I4⟩=>?_)
  subst hr
  exact wpAny_execs_nil ⟨σ3,H3,I4,qn⟩
 ·refine wpAny_passesOwn hp (thn (T.item X rfl rfl rfl hc i pins s3 σ3 H3 X.xe I3 (stat fr3) st3 go) fun r s4 ⟨u,hr,h4⟩=>?_)
  subst hr
  refine wpAny_passesOwn hp (thn h4 fun _ s5 ⟨x,H5,I5,r5,y5,st5,fr5⟩=>?_)
  have I5':=I5.pinned (stat fr5) (T.obj _ _ st5)
  refine wpAny_passesOwn hp (thn (hg _ s5 σ3 H5 x u _ I5' r5 (step x H5 y5)) fun _ s6 ⟨σ6,H6,I6,q6⟩=>?_)
  refine wpAny_passesOwn hp (thn (hb _ s6 σ6 H6 _ I6 q6) fun f s7 q7=>?_)
  have again:∀ {σ7:St} {H7:Hp},Inv X (pins ++ pinsAt fp s5.heap) σ7 H7 s7→N σ7 H7→∃ m,m < n∧∃ i σ' H',Inv X pins σ' H' s7∧tn i s7.heap∧(∀ b∈fp,H' b=none)∧W i m σ' H':=fun {σ7 H7} I7 n7=>by
   obtain ⟨m',hm,w7⟩:=hN σ7 H7 n7
   refine ⟨m',hm,i + 1,σ7,H7,I7.unpinned,T.keep _ _ _ st5 fun b hb o e=>(I7.pin (b,o) (List.mem_append_right _ (List.mem_append_right _ (J1c hb e)))).1,fun b hb=>?_,w7⟩
   obtain ⟨o,e,d⟩:=T.obj _ _ st5 b hb
   exact (I7.pin (b,o) (List.mem_append_right _ (List.mem_append_right _ (J1c hb e)))).2.1
  cases f with
  | next=>obtain ⟨σ7,H7,I7,n7⟩:=q7;exact again I7 n7
  | cont=>obtain ⟨σ7,H7,I7,n7⟩:=q7;exact again I7 n7
  | brk=>obtain ⟨σ7,H7,I7,q7⟩:=q7;exact ⟨σ7,H7,I7.unpinned,q7⟩
  | ret v=>obtain ⟨x7,σ7,H7,I7,r7,q7⟩:=q7;exact ⟨x7,σ7,H7,I7.unpinned,r7,q7⟩
end
theorem for_range {lo:Int} {n:Nat} {g:TG} {tb:TS} {D:Ends} {σ:St} {H:Hp} (Pv:Nat→St→Hp→Prop) (h0:Pv 0 σ H)
  (hs:∀ i σ H,i < n→Pv i σ H→g (.int (lo + i)) σ H fun σ2 H2=>tb { D with nx:=Pv (i + 1),ct:=Pv (i + 1),bk:=D.nx } σ2 H2) (hd:∀ σ H,Pv n σ H→D.nx σ H) :
  ∃ W:Nat→Nat→St→Hp→Prop,(∃ m,W 0 m σ H)∧∀ i m σ H,W i m σ H→
   ((Itr lo n).stop i H∧D.nx σ H)∨((Itr lo n).go i H∧∃ N:St→Hp→Prop,(∀ σ' H',N σ' H'→∃ m',m' < m∧W (i + 1) m' σ' H')∧∀ x H',(Itr lo n).yld i H x H'→g x σ H' fun σ2 H2=>tb { D with nx:=N,ct:=N,bk:=D.nx } σ2 H2):=by
 refine ⟨fun i m σ H=>m=n - i∧i≤n∧Pv i σ H,⟨n,by simp,Nat.zero_le _,h0⟩,?_⟩
 rintro i m σ H ⟨rfl,hi,p⟩
 by_cases hlt:i < n
 ·refine .inr ⟨hlt,Pv (i + 1),fun σ' H' p'=>⟨n - (i + 1),by omega,rfl,hlt,p'⟩,fun x H' y=>?_⟩
  obtain ⟨e,y⟩:=y
  subst e y
  exact hs i σ _ hlt p
 ·have e:i=n:=by omega
  subst e
  exact .inl ⟨Nat.le_refl _,hd σ H p⟩
end L2
namespace L2
open PySem PySem.Spec PyProof.Rows
abbrev R2:=V→V→Hp→VK→Prop
def OpR (X:Cx) (f:Value→Value→Sem Value) (r:R2):Prop :=
 ∀ (pins:List (Addr × Obj)) (s:Shared) (σ:St) (H:Hp) (x y:V) (v u:Value) (Q:VK),Inv X pins σ H s→RelV x v→RelV y u→r x y H Q→
  wpAny (model X.prog X.w) X.A (f v u) (EP X pins σ Q) X.xe s
def UnR (X:Cx) (f:Value→Sem Value) (r:V→Hp→VK→Prop):Prop :=
 ∀ (pins:List (Addr × Obj)) (s:Shared) (σ:St) (H:Hp) (x:V) (v:Value) (Q:VK),Inv X pins σ H s→RelV x v→r x H Q→
  wpAny (model X.prog X.w) X.A (f v) (EP X pins σ Q) X.xe s
def CallR (X:Cx) (f:Value) (r:List V→Hp→VK→Prop):Prop :=
 ∀ (pins:List (Addr × Obj)) (s:Shared) (σ:St) (H:Hp) (xs:List V) (us:List Value) (Q:VK),Inv X pins σ H s→Vals xs us→r xs H Q→
  wpAny (model X.prog X.w) X.A (call f us) (EP X pins σ Q) X.xe s
def tOp (r:R2) (ta tb:TE):TE:=fun σ H Q=>ta σ H fun x H1=>tb σ H1 fun y H2=>r x y H2 Q
def tUn (r:V→Hp→VK→Prop) (ta:TE):TE:=fun σ H Q=>ta σ H fun x H1=>r x H1 Q
def rI (C:Int→Int→Prop) (g:Int→Int→V):R2:=fun x y H Q=>∃ i j,x=.int i∧y=.int j∧C i j∧Q (g i j) H
def rI0 (g:Int→Int→V):R2:=fun x y H Q=>∃ i j,x=.int i∧y=.int j∧Q (g i j) H
def rU (g:Int→V):V→Hp→VK→Prop:=fun x H Q=>∃ i,x=.int i∧Q (g i) H
section
variable {X:Cx} {a b c:Expr} {ta tb tc:TE} {pos:Pos}
theorem binT (ha:PE X a ta) (hb:PE X b tb) {pins:List (Addr × Obj)} {s:Shared} {σ:St} {H:Hp} {R:V→V→Hp→Prop} (I:Inv X pins σ H s)
  (h:ta σ H fun x H1=>tb σ H1 fun y H2=>R x y H2) {Q:Value→Shared→Prop} {f:Value→Value→Sem Value}
  (hf:∀ v u s2 x y H2,Inv X pins σ H2 s2→RelV x v→RelV y u→R x y H2→wpAny (model X.prog X.w) X.A (f v u) Q X.xe s2) :
  wpAny (model X.prog X.w) X.A (eval a X.env) (fun v s₁=>wpAny (model X.prog X.w) X.A (eval b X.env) (fun u s₂=>wpAny (model X.prog X.w) X.A (f v u) Q X.xe s₂) X.xe s₁) X.xe s:=by
 refine thn (ha pins s σ H _ I h) fun v s1 ⟨x,H1,I1,r1,q1⟩=>?_
 refine thn (hb pins s1 σ H1 _ I1 q1) fun u s2 ⟨y,H2,I2,r2,q2⟩=>?_
 exact hf v u s2 x y H2 I2 r1 r2 q2
theorem pe_op {op:Operator} {r:R2} (ho:OpR X (binaryOp op) r) (ha:PE X a ta) (hb:PE X b tb):PE X (.BinOp a op b pos) (tOp r ta tb):=by
 intro pins s σ H Q I h
 exact wpAny_BinOp (binT ha hb I h fun v u s2 x y H2 I2 rx ry q=>ho pins s2 σ H2 x y v u Q I2 rx ry q)
theorem pe_un {op:UnaryOp} {r:V→Hp→VK→Prop} (ho:UnR X (unaryOp op) r) (ha:PE X a ta):PE X (.UnaryOp op a pos) (tUn r ta):=by
 intro pins s σ H Q I h
 exact UnaryOp_ (thn (ha pins s σ H _ I h) fun v s1 ⟨x,H1,I1,r1,q1⟩=>ho pins s1 σ H1 x v Q I1 r1 q1)
theorem opI {f:Value→Value→Sem Value} {C:Int→Int→Prop} {g:Int→Int→Int}
  (rule:∀ (i j:Int) (t u:Tok) (s:Shared) (Q:Value→Shared→Prop) (E:Value→Shared→Prop),C i j→Q (.int (g i j) s.toks) { s with toks:=s.toks + 1 }→wpAny (model X.prog X.w) X.A (f (.int i t) (.int j u)) Q E s) :
  OpR X f (rI C fun i j=>.int (g i j)):=by
 intro pins s σ H x y v u Q I rx ry h
 obtain ⟨i,j,rfl,rfl,hc,q⟩:=h
 obtain ⟨t,rfl⟩:=rx
 obtain ⟨t',rfl⟩:=ry
 exact rule i j t t' s _ _ hc ⟨.int (g i j),H,I.tok _,⟨_,rfl⟩,q⟩
theorem opI0 {f:Value→Value→Sem Value} {g:Int→Int→Int}
  (rule:∀ (i j:Int) (t u:Tok) (s:Shared) (Q:Value→Shared→Prop) (E:Value→Shared→Prop),Q (.int (g i j) s.toks) { s with toks:=s.toks + 1 }→wpAny (model X.prog X.w) X.A (f (.int i t) (.int j u)) Q E s) :
  OpR X f (rI0 fun i j=>.int (g i j)):=by
 intro pins s σ H x y v u Q I rx ry h
 obtain ⟨i,j,rfl,rfl,q⟩:=h
 obtain ⟨t,rfl⟩:=rx
 obtain ⟨t',rfl⟩:=ry
 exact rule i j t t' s _ _ ⟨.int (g i j),H,I.tok _,⟨_,rfl⟩,q⟩
theorem opB0 {f:Value→Value→Sem Value} {g:Int→Int→Bool}
  (rule:∀ (i j:Int) (t u:Tok) (s:Shared) (Q:Value→Shared→Prop) (E:Value→Shared→Prop),Q (.bool (g i j)) s→wpAny (model X.prog X.w) X.A (f (.int i t) (.int j u)) Q E s) :
  OpR X f (rI0 fun i j=>.bl (g i j)):=by
 intro pins s σ H x y v u Q I rx ry h
 obtain ⟨i,j,rfl,rfl,q⟩:=h
 obtain ⟨t,rfl⟩:=rx
 obtain ⟨t',rfl⟩:=ry
 exact rule i j t t' s _ _ ⟨.bl (g i j),H,I,rfl,q⟩
def CDiv (i j:Int):Prop:=0 < j∧j < 1073741824
def CPow (i j:Int):Prop:=0≤j∧j≤1000000∧i.natAbs < 2 ^ 64
def CMul (i j:Int):Prop:=(-(2 ^ 64) < i∧i < 2 ^ 64)∨(-(2 ^ 64) < j∧j < 2 ^ 64)
theorem CMul.ok {i j:Int} (h:CMul i j):IntMulOk i j:=by
 rcases h with ⟨h1,h2⟩ | ⟨h1,h2⟩
 ·exact .of_left (intBits_le_64 h1 h2)
 ·exact .of_right (intBits_le_64 h1 h2)
theorem two_pow_nn (k:Nat):(0:Int)≤2 ^ k:=by
 rw [two_pow_cast]
 exact Int.natCast_nonneg _
theorem J2m:OpR X (binaryOp .Add) (rI0 fun i j=>.int (i + j)):=opI0 fun _ _ _ _ _ _ _ q=>add_int q
theorem op_sub:OpR X (binaryOp .Sub) (rI0 fun i j=>.int (i - j)):=opI0 fun _ _ _ _ _ _ _ q=>sub_int q
theorem op_mul:OpR X (binaryOp .Mult) (rI CMul fun i j=>.int (i * j)):=opI fun _ _ _ _ _ _ _ hc q=>mul_int q hc.ok
theorem J13:OpR X (binaryOp .FloorDiv) (rI CDiv fun i j=>.int (i / j)):=opI fun i j _ _ _ _ _ hc q=>by
 have h1:(0:Int) < j:=hc.1
 have h2:j < 1073741824:=hc.2
 exact floordiv_int (by omega) (by rw [Int.fdiv_eq_ediv_of_nonneg i (by omega)];exact q) (.inl (PyProof.noPylong_small (by omega)))
theorem J11:OpR X (binaryOp .Mod) (rI (fun _ j=>0 < j) fun i j=>.int (i % j)):=opI fun i j _ _ _ _ _ hc q=>by
 have h1:(0:Int) < j:=hc
 exact mod_int' (by omega) (by rw [Int.fmod_eq_emod_of_nonneg i (by omega)];exact q)
theorem op_pow:OpR X (binaryOp .Pow) (rI CPow fun i j=>.int (i ^ j.toNat)):=opI fun _ _ _ _ _ _ _ hc q=>pow_int_small hc.1 hc.2.1 hc.2.2 q
theorem op_shl:OpR X (binaryOp .LShift) (rI CPow fun i j=>.int (i * 2 ^ j.toNat)):=opI fun _ _ _ _ _ _ _ hc q=>lshift_int_small hc.1 hc.2.1 hc.2.2 q
theorem op_shr:OpR X (binaryOp .RShift) (rI (fun _ j=>0≤j) fun i j=>.int (i / 2 ^ j.toNat)):=opI fun i j _ _ _ _ _ hc q =>
 rshift_int hc (by rw [Int.fdiv_eq_ediv_of_nonneg i (two_pow_nn _)];exact q)
theorem op_and:OpR X (binaryOp .BitAnd) (rI0 fun i j=>.int (Builtin.bitAnd i j)):=opI0 fun _ _ _ _ _ _ _ q=>and_int q
theorem unI {f:Value→Sem Value} {g:Int→Int}
  (rule:∀ (i:Int) (t:Tok) (s:Shared) (Q:Value→Shared→Prop) (E:Value→Shared→Prop),Q (.int (g i) s.toks) { s with toks:=s.toks + 1 }→wpAny (model X.prog X.w) X.A (f (.int i t)) Q E s) :
  UnR X f (rU fun i=>.int (g i)):=by
 intro pins s σ H x v Q I rx h
 obtain ⟨i,rfl,q⟩:=h
 obtain ⟨t,rfl⟩:=rx
 exact rule i t s _ _ ⟨.int (g i),H,I.tok _,⟨_,rfl⟩,q⟩
theorem un_neg:UnR X (unaryOp .USub) (rU fun i=>.int (-i)):=unI fun _ _ _ _ _ q=>neg_int q
end
def scal:V→V→Bool
 | .non,.non=>true | .non,.int _=>true | .int _,.non=>true | .non,.bl _=>true | .bl _,.non=>true | .non,.str _=>true | .str _,.non=>true
 | .int _,.int _=>true | .bl _,.bl _=>true | .str _,.str _=>true | .byt _,.byt _=>true
 | .int _,.str _=>true | .str _,.int _=>true | .bl _,.str _=>true | .str _,.bl _=>true
 | _,_=>false
def rEq:R2:=fun x y H Q=>scal x y=true∧Q (.bl (decide (x=y))) H
def rNe:R2:=fun x y H Q=>scal x y=true∧Q (.bl (!decide (x=y))) H
theorem dec_int {i j:Int}:decide (V.int i=V.int j)=(i == j):=by
 rw [Bool.eq_iff_iff]
 simp
theorem dec_bl {i j:Bool}:decide (V.bl i=V.bl j)=(i == j):=by
 rw [Bool.eq_iff_iff]
 simp
theorem dec_str {i j:Str}:decide (V.str i=V.str j)=(i == j):=by
 rw [Bool.eq_iff_iff]
 simp
theorem dec_byt {i j:Array UInt8}:decide (V.byt i=V.byt j)=(i.toList == j.toList):=by
 rw [Bool.eq_iff_iff]
 cases i
 cases j
 simp
section
variable {X:Cx} {a b c:Expr} {ta tb tc:TE} {pos:Pos}
theorem Ju {pins:List (Addr × Obj)} {σ:St} {H:Hp} {s:Shared} {Q:VK} {k k':Bool} (I:Inv X pins σ H s) (q:Q (.bl k) H) (e:k=k'):EP X pins σ Q (.bool k') s:=by
 subst e
 exact ⟨.bl k,H,I,rfl,q⟩
theorem op_eq:OpR X (compareOp .Eq) rEq:=by
 intro pins s σ H x y v u Q I rx ry h
 obtain ⟨hs,q⟩:=h
 cases x with
 | non =>
  cases rx
  cases y with
  | non=>cases ry;exact PySem.EqNone.eq_none_none (Ju I q (by simp))
  | bl j=>cases ry;exact PySem.EqNone.eq_none_bool (Ju I q (by simp))
  | int j=>obtain ⟨t',rfl⟩:=ry;exact PySem.EqNone.eq_none_int (Ju I q (by simp))
  | str j=>obtain ⟨t',rfl⟩:=ry;exact PySem.EqNone.eq_none_str (Ju I q (by simp))
  | _=>exact absurd (show false=true from hs) Bool.false_ne_true
 | bl i =>
  cases rx
  cases y with
  | non=>cases ry;exact PySem.EqNone.eq_bool_none (Ju I q (by simp))
  | bl j=>cases ry;exact eq_bool (Ju I q dec_bl)
  | str j=>obtain ⟨t',rfl⟩:=ry;exact PySem.EqMixed.eq_bool_str (Ju I q (by simp))
  | _=>exact absurd (show false=true from hs) Bool.false_ne_true
 | int i =>
  obtain ⟨t,rfl⟩:=rx
  cases y with
  | non=>cases ry;exact PySem.EqNone.eq_int_none (Ju I q (by simp))
  | int j=>obtain ⟨t',rfl⟩:=ry;exact eq_int (Ju I q dec_int)
  | str j=>obtain ⟨t',rfl⟩:=ry;exact PySem.EqMixed.eq_int_str (Ju I q (by simp))
  | _=>exact absurd (show false=true from hs) Bool.false_ne_true
 | str i =>
  obtain ⟨t,rfl⟩:=rx
  cases y with
  | non=>cases ry;exact PySem.EqNone.eq_str_none (Ju I q (by simp))
  | bl j=>cases ry;exact PySem.EqMixed.eq_str_bool (Ju I q (by simp))
  | int j=>obtain ⟨t',rfl⟩:=ry;exact PySem.EqMixed.eq_str_int (Ju I q (by simp))
  | str j=>obtain ⟨t',rfl⟩:=ry;exact eq_str (Ju I q dec_str)
  | _=>exact absurd (show false=true from hs) Bool.false_ne_true
 | byt i =>
  obtain ⟨t,rfl⟩:=rx
  cases y with
  | byt j=>obtain ⟨t',rfl⟩:=ry;exact PySem.W.eq_bytes (Ju I q dec_byt)
  | _=>exact absurd (show false=true from hs) Bool.false_ne_true
 | _=>cases y <;> exact absurd (show false=true from hs) Bool.false_ne_true
theorem op_ne:OpR X (compareOp .NotEq) rNe:=by
 intro pins s σ H x y v u Q I rx ry h
 obtain ⟨hs,q⟩:=h
 cases x with
 | non =>
  cases rx
  cases y with
  | non=>cases ry;exact PySem.EqNone.ne_none_none (Ju I q (by simp))
  | bl j=>cases ry;exact PySem.EqNone.ne_none_bool (Ju I q (by simp))
  | int j=>obtain ⟨t',rfl⟩:=ry;exact PySem.EqNone.ne_none_int (Ju I q (by simp))
  | str j=>obtain ⟨t',rfl⟩:=ry;exact PySem.EqNone.ne_none_str (Ju I q (by simp))
  | _=>exact absurd (show false=true from hs) Bool.false_ne_true
 | bl i =>
  cases rx
  cases y with
  | non=>cases ry;exact PySem.EqNone.ne_bool_none (Ju I q (by simp))
  | bl j=>cases ry;exact ne_bool (Ju I q (congrArg not dec_bl))
  | str j=>obtain ⟨t',rfl⟩:=ry;exact PySem.EqMixed.ne_bool_str (Ju I q (by simp))
  | _=>exact absurd (show false=true from hs) Bool.false_ne_true
 | int i =>
  obtain ⟨t,rfl⟩:=rx
  cases y with
  | non=>cases ry;exact PySem.EqNone.ne_int_none (Ju I q (by simp))
  | int j=>obtain ⟨t',rfl⟩:=ry;exact ne_int (Ju I q (congrArg not dec_int))
  | str j=>obtain ⟨t',rfl⟩:=ry;exact PySem.EqMixed.ne_int_str (Ju I q (by simp))
  | _=>exact absurd (show false=true from hs) Bool.false_ne_true
 | str i =>
  obtain ⟨t,rfl⟩:=rx
  cases y with
  | non=>cases ry;exact PySem.EqNone.ne_str_none (Ju I q (by simp))
  | bl j=>cases ry;exact PySem.EqMixed.ne_str_bool (Ju I q (by simp))
  | int j=>obtain ⟨t',rfl⟩:=ry;exact PySem.EqMixed.ne_str_int (Ju I q (by simp))
  | str j=>obtain ⟨t',rfl⟩:=ry;exact ne_str (Ju I q (congrArg not dec_str))
  | _=>exact absurd (show false=true from hs) Bool.false_ne_true
 | byt i =>
  obtain ⟨t,rfl⟩:=rx
  cases y with
  | byt j=>obtain ⟨t',rfl⟩:=ry;exact PySem.W.ne_bytes (Ju I q (congrArg not dec_byt))
  | _=>exact absurd (show false=true from hs) Bool.false_ne_true
 | _=>cases y <;> exact absurd (show false=true from hs) Bool.false_ne_true
theorem op_lt:OpR X (compareOp .Lt) (rI0 fun i j=>.bl (decide (i < j))):=opB0 fun _ _ _ _ _ _ _ q=>lt_int q
theorem op_gt:OpR X (compareOp .Gt) (rI0 fun i j=>.bl (decide (j < i))):=opB0 fun _ _ _ _ _ _ _ q=>gt_int q
theorem op_in_str:OpR X (compareOp .In) (fun x y H Q=>∃ i j,x=.str i∧y=.str j∧Q (.bl (!(Builtin.Str.occurrences j i 0 j.length 1).isEmpty)) H):=by
 intro pins s σ H x y v u Q I rx ry h
 obtain ⟨i,j,rfl,rfl,q⟩:=h
 obtain ⟨t,rfl⟩:=rx
 obtain ⟨t',rfl⟩:=ry
 exact in_str (Ju I q rfl)
theorem Jn (b:Expr) {op:CmpOp} (h:op≠.In:=by decide) (h2:op≠.NotIn:=by decide):behindInMarks op b=false:=by
 have e1:(op == CmpOp.In)=false:=by cases op <;> first | rfl | exact absurd rfl h
 have e2:(op == CmpOp.NotIn)=false:=by cases op <;> first | rfl | exact absurd rfl h2
 cases b <;> simp [behindInMarks,e1,e2]
theorem J1p {op:CmpOp} {r:R2} (ho:OpR X (compareOp op) r) (ha:PE X a ta) (hb:PE X b tb) (hm:behindInMarks op b=false):PE X (.Compare a [op] [b] pos) (tOp r ta tb):=by
 intro pins s σ H Q I h
 exact wpAny_Compare1 (binT ha hb I h fun v u s2 x y H2 I2 rx ry q=>ho pins s2 σ H2 x y v u Q I2 rx ry q) hm
def tTest (t:TE):TT:=fun σ H Q=>t σ H fun x H'=>∃ k,x=.bl k∧Q k H'
theorem Jk {op:CmpOp} {r:R2} (ho:OpR X (compareOp op) r) (ha:PE X a ta) (hb:PE X b tb) (hm:behindInMarks op b=false):PT X (.Compare a [op] [b] pos) (tTest (tOp r ta tb)):=by
 intro pins s σ H Q I h
 refine wpAny_isTrue_Compare1 (thn (ha pins s σ H _ I h) fun v s1 ⟨x,H1,I1,r1,q1⟩=>thn (hb pins s1 σ H1 _ I1 q1) fun u s2 ⟨y,H2,I2,r2,q2⟩ =>
  thn (ho pins s2 σ H2 x y v u _ I2 r1 r2 q2) fun c s3 ⟨z,H3,I3,r3,k,e,q3⟩=>?_) hm
 subst e
 cases r3
 exact wpAny_truthy_bool ⟨H3,I3,q3⟩
theorem J48:(sizeLine:Nat) < 2 ^ 63:=by rw [sizeLine_eq];decide
theorem J6:OpR X (binaryOp .Add) (fun x y H Q=>∃ i j,x=.str i∧y=.str j∧i.length + j.length≤sizeLine∧Q (.str (i ++ j)) H):=by
 intro pins s σ H x y v u Q I rx ry h
 obtain ⟨i,j,rfl,rfl,hz,q⟩:=h
 obtain ⟨t,rfl⟩:=rx
 obtain ⟨t',rfl⟩:=ry
 exact add_str (fun t' tk=>⟨.str (i ++ j),H,I.tok _,⟨_,rfl⟩,q⟩) hz
theorem vals1 {x:V} {us:List Value} (r:Vals [x] us):∃ u,us=[u]∧RelV x u:=by
 cases r with
 | cons r1 r2=>cases r2;exact ⟨_,rfl,r1⟩
theorem vals2 {x y:V} {us:List Value} (r:Vals [x,y] us):∃ u w',us=[u,w']∧RelV x u∧RelV y w':=by
 cases r with
 | cons r1 r2 =>
  cases r2 with
  | cons r3 r4=>cases r4;exact ⟨_,_,rfl,r1,r3⟩
theorem call_max2 (hc:X.calm=true):CallR X (.builtin "max") (fun xs H Q=>∃ i j,xs=[.int i,.int j]∧Q (.int (if j > i then j else i)) H):=by
 intro pins s σ H xs us Q I r h
 obtain ⟨i,j,rfl,q⟩:=h
 obtain ⟨u,w',rfl,⟨t,rfl⟩,⟨t',rfl⟩⟩:=vals2 r
 refine max_two_ints (I.ok.hd hc) fun h' tk k=>⟨_,H,I.kept k,?_,q⟩
 by_cases hj:j > i
 ·rw [if_pos hj,if_pos hj];exact ⟨_,rfl⟩
 ·rw [if_neg hj,if_neg hj];exact ⟨_,rfl⟩
theorem call_int1:CallR X (.type "int") (fun xs H Q=>(∃ i,xs=[.int i]∧Q (.int i) H)∨∃ k,xs=[.bl k]∧Q (.int (if k then 1 else 0)) H):=by
 intro pins s σ H xs us Q I r h
 rcases h with ⟨i,rfl,q⟩ | ⟨k,rfl,q⟩
 ·obtain ⟨u,rfl,t,rfl⟩:=vals1 r
  exact call_int_int ⟨.int i,H,I,⟨_,rfl⟩,q⟩
 ·obtain ⟨u,rfl,r1⟩:=vals1 r
  cases r1
  exact call_int_bool ⟨.int (if k then 1 else 0),H,I.tok _,⟨_,rfl⟩,q⟩
theorem J2r:CallR X (.type "str") (fun xs H Q=>∃ i,xs=[.int i]∧i.natAbs.log2 < 1920∧Q (.str (toString i)) H):=by
 intro pins s σ H xs us Q I r h
 obtain ⟨i,rfl,hz,q⟩:=h
 obtain ⟨u,rfl,t,rfl⟩:=vals1 r
 exact PySem.P.str_of_int hz ⟨.str _,H,I.tok _,⟨_,rfl⟩,q⟩
end
end L2
namespace L2
open PySem PySem.Spec PyProof.Rows
structure ObjM (h:Heap) (x dx C:Addr) (mA:Str→Option Value):Prop where
 obj:h.get? x=some (PySem.W.instObj C dx)
 ns:h.Ns1 dx mA
 ne:dx≠x
theorem lookIn_ns {h:Heap} {dx:Addr} {mA:Str→Option Value} (n:h.Ns1 dx mA):∃ od,h.get? dx=some od∧∀ name,PySem.W.lookIn name od=some (mA name):=by
 obtain ⟨o,es,ep,ho,hd,hk,_,hm⟩:=n
 refine ⟨o,ho,fun name=>?_⟩
 have e:=hm name
 unfold nsFind findBy at e
 rw [← Array.find?_toList] at e
 unfold PySem.W.lookIn
 rw [hd]
 dsimp only
 split
 ·rename_i y q
  rw [q] at e
  exact congrArg some e
 ·rename_i q
  rw [q] at e
  have a:es.toList.any (·.refKey)=false:=by
   rw [List.any_eq_false]
   intro y hy
   obtain ⟨z,t,hkey⟩:=hk y (Array.mem_toList_iff.mp hy)
   simp [DictEntry.refKey,hkey]
  have a':¬ es.toList.any (·.refKey)=true:=by rw [a];exact Bool.false_ne_true
  rw [if_neg a']
  exact congrArg some e
theorem ObjM.look {h:Heap} {x dx C:Addr} {mA:Str→Option Value} (I:ObjM h x dx C mA):∃ od,PySem.W.InstAt h x (PySem.W.instObj C dx) C (some od)∧∀ name,PySem.W.lookIn name od=some (mA name) :=
 let ⟨od,ho,hl⟩:=lookIn_ns I.ns
 ⟨od,⟨I.obj,rfl,rfl,ho⟩,hl⟩
theorem RelO.some_of {v:V} {o:Option Value} (r:RelO (some v) o):∃ u,o=some u∧RelV v u:=by
 cases o with
 | none=>exact (show False from r).elim
 | some u=>exact ⟨u,rfl,r⟩
theorem handed_of {v:V} {u:Value} (r:RelV v u):PySem.W.handedIn u=true:=by
 cases v with
 | non=>cases (show u=Value.none from r);rfl
 | bl b=>cases (show u=Value.bool b from r);rfl
 | int i=>obtain ⟨t,e⟩:=(show ∃ t,u=Value.int i t from r);cases e;rfl
 | str x=>obtain ⟨t,e⟩:=(show ∃ t,u=Value.str x t from r);cases e;rfl
 | byt b=>obtain ⟨t,e⟩:=(show ∃ t,u=Value.bytes b t from r);cases e;rfl
 | flt b=>obtain ⟨t,e⟩:=(show ∃ t,u=Value.float b t from r);cases e;rfl
 | ref a=>cases (show u=Value.ref a from r);rfl
 | ty n=>cases (show u=Value.type n from r);rfl
section
variable {P:Program} {w:World} {H H':Hp} {h h':Heap} {a C dx:Addr} {fs fs':List (Str × V)}
theorem ins_get (hok:HOk P w H h) (e:H a=some (.ins C dx fs)):∃ mA,ObjM h a dx C mA∧(∀ f,RelO (fs.lookup f) (mA f))∧PySem.Within mA (fs.map (·.1))∧fs.length≤1000∧H dx=some (.own a):=by
 obtain ⟨d,z,ne,ob,mA,n,r,q⟩:=(show ObjOk P w H h a (.ins C dx fs) from hok a _ e)
 exact ⟨mA,⟨ob,n,ne⟩,r,q,z,d⟩
end
structure Cls (K:PySem.W.Frag) (C:Addr):Prop where
 pg:PySem.W.plainGet K C Str.empty=true
 hd:PySem.W.hasDictIn K C=true
 po:PySem.W.plainOver K C=true
 sa:PySem.W.findIn K (.ref C) "__setattr__"=some (some (.builtin "object.__setattr__"))
theorem Cls.get {K:PySem.W.Frag} {C:Addr} (c:Cls K C) (f:Str):PySem.W.plainGet K C f=true:=c.pg
section
variable {X:Cx} {pins:List (Addr × Obj)} {σ:St} {H:Hp} {s:Shared} {a C dx:Addr} {fs:List (Str × V)} {f:Str} {v:V} {A:Around} {E:Value→Shared→Prop}
theorem attr_of {prog:Program} {w:World} {env:Env} {e:Expr} {f:Str} {pos:Pos} {s:Shared} {Q:Value→Shared→Prop} (hb:attributeBase e f env (eval e env)=eval e env)
  (h:wpAny (model prog w) A (eval e env) (fun o s₁=>wpAny (model prog w) A (getAttr o f true) Q E s₁) E s):wpAny (model prog w) A (eval (.Attribute e f pos) env) Q E s :=
 Attribute_any_ h (by rw [arm_eval_Attribute,hb])
end
section
variable {X:Cx} {pins:List (Addr × Obj)} {σ:St} {H:Hp} {s:Shared} {A:Around} {E:Value→Shared→Prop} {Q:Value→Shared→Prop} {c:Value} {b:Bool}
inductive TyOf (K:PySem.W.Frag) (H:Hp):V→Value→Prop where
 | non:TyOf K H .non (.type "NoneType")
 | bl (x:Bool):TyOf K H (.bl x) (.type "bool")
 | int (i:Int):TyOf K H (.int i) (.type "int")
 | str (x:Str):TyOf K H (.str x) (.type "str")
 | flt (x:UInt64):TyOf K H (.flt x) (.type "float")
 | lst {a:Addr} {xs:List V} (e:H a=some (.lst xs)):TyOf K H (.ref a) (.type "list")
 | frz {a:Addr} {o:Obj} {xs:List V} (e:H a=some (.frz o (.lst xs))):TyOf K H (.ref a) (.type "list")
 | tup {a:Addr} {xs:List V} (e:H a=some (.tup xs)):TyOf K H (.ref a) (.type "tuple")
 | dK {a:Addr} {kvs:List (Key × V)} (e:H a=some (.dK kvs)):TyOf K H (.ref a) (.type "dict")
 | dT {a:Addr} {kvs:List (List Key × V)} (e:H a=some (.dT kvs)):TyOf K H (.ref a) (.type "dict")
 | ins {a C dx:Addr} {fs:List (Str × V)} (e:H a=some (.ins C dx fs)) (cl:Cls K C) (ha:PySem.W.findIn K (.ref C) "__class__"=some (some (.builtin "object.__class__")))
   (hn:PySem.W.specialIn K (.builtin "object.__class__") "__get__"=some (some (.builtin "getset_descriptor.__get__"))) (htk:PySem.W.takesIn K (.builtin "object.__class__")=some true)
   (hm:PySem.W.mroIn K C (.type "object")=some true):TyOf K H (.ref a) (.ref C)
theorem isinst_ok {x:V} {u t:Value} (I:Inv X pins σ H s) (rx:RelV x u) (ty:TyOf X.K H x t) (e:PySem.W.kitOne X.K t c=some b) (h:∀ tk,Q (.bool b) { s with toks:=tk }) :
  wpAny (model X.prog X.w) A (call (.builtin "isinstance") [u,c]) Q E s:=by
 cases ty with
 | non=>cases (show u=Value.none from rx);exact PySem.W.kia_one PySem.W.kitx_none I.kIn True.intro e (fun z=>nomatch z) h
 | bl y=>cases (show u=Value.bool y from rx);exact PySem.W.kia_one PySem.W.kitx_bool I.kIn True.intro e (fun z=>nomatch z) h
 | int i=>obtain ⟨t,q⟩:=(show ∃ t,u=Value.int i t from rx);cases q;exact PySem.W.kia_one PySem.W.kitx_int I.kIn True.intro e (fun z=>nomatch z) h
 | str y=>obtain ⟨t,q⟩:=(show ∃ t,u=Value.str y t from rx);cases q;exact PySem.W.kia_one PySem.W.kitx_str I.kIn True.intro e (fun z=>nomatch z) h
 | flt y=>obtain ⟨t,q⟩:=(show ∃ t,u=Value.float y t from rx);cases q;exact PySem.W.kia_one PySem.W.kitx_float I.kIn True.intro e (fun z=>nomatch z) h
 | @lst a xs ea =>
  cases (show u=Value.ref a from rx)
  obtain ⟨_,_,n,_,h1⟩:=(show ObjOk X.prog X.w H s.heap a (.lst xs) from I.hok a _ ea)
  exact PySem.W.kia_one PySem.W.kitx_list I.kIn ⟨_,h1,rfl⟩ e (fun z=>nomatch z) h
 | @frz a ob xs ea =>
  cases (show u=Value.ref a from rx)
  obtain ⟨_,_,_,n,_,h1⟩:=(show ObjOk X.prog X.w H s.heap a (.frz ob (.lst xs)) from I.hok a _ ea)
  exact PySem.W.kia_one PySem.W.kitx_list I.kIn ⟨_,h1,rfl⟩ e (fun z=>nomatch z) h
 | @tup a xs ea =>
  cases (show u=Value.ref a from rx)
  obtain ⟨_,_,_,p⟩:=(show ObjOk X.prog X.w H s.heap a (.tup xs) from I.hok a _ ea)
  obtain ⟨o,h1,h2,_⟩:=p
  exact PySem.W.kia_one PySem.W.kitx_tuple I.kIn ⟨o,h1,h2.1⟩ e (fun z=>nomatch z) h
 | @dK a kvs ea =>
  cases (show u=Value.ref a from rx)
  obtain ⟨_,_,vs,_,p⟩:=(show ObjOk X.prog X.w H s.heap a (.dK kvs) from I.hok a _ ea)
  obtain ⟨o,es,ep,h1,h2,_⟩:=p
  exact PySem.W.kia_one PySem.W.kitx_dict I.kIn ⟨o,h1,h2.1⟩ e (fun z=>nomatch z) h
 | @dT a kvs ea =>
  cases (show u=Value.ref a from rx)
  obtain ⟨_,_,xs,_,o,es,ep,h1,h2,_⟩:=(show ObjOk X.prog X.w H s.heap a (.dT kvs) from I.hok a _ ea)
  exact PySem.W.kia_one PySem.W.kitx_dict I.kIn ⟨o,h1,h2.1⟩ e (fun z=>nomatch z) h
 | @ins a C dx fs ea cl ha hn htk hm =>
  cases (show u=Value.ref a from rx)
  obtain ⟨mA,O,_⟩:=ins_get I.hok ea
  obtain ⟨od,J,_⟩:=O.look
  exact PySem.W.kia_one (PySem.W.kitx_own (cl.get _) cl.hd ha hn htk hm) I.kIn J e (fun z=>nomatch z) h
end
end L2
namespace L2
open PySem PySem.Spec PyProof.Rows
structure Room (k:Nat) (A:Around):Prop where
 hd:A.handled=none
 dp:A.depth + 3 * k + 5 < recursionLimit
 un:A.units + 16 * k + 200 < cLine
theorem Room.mono {j k:Nat} {A:Around} (r:Room k A) (h:j≤k):Room j A:=⟨r.hd,by have:=r.dp;omega,by have:=r.un;omega⟩
theorem Room.deeper {k:Nat} {A:Around} (r:Room (k + 1) A) (env:Env):Room k (A.deeper env) :=
 ⟨r.hd,by have:=r.dp;show A.depth + 1 + 3 * k + 5 < _;omega,by have:=r.un;show A.units + 3 + 16 * k + 200 < _;omega⟩
theorem make_depth {A:Around} {C:Addr} {us:List Value} {kw:List (Str × Value)}:(A.under (.builtin "type.__call__" ⟨.ref C :: us,kw⟩)).depth=A.depth + 1:=by
 first | rfl | simp [Around.under,Code.weight,Code.isCreation,Code.isGuard,Code.isCaller,Code.frames,Code.isFrame,guardIds]
theorem make_units {A:Around} {C:Addr} {us:List Value} {kw:List (Str × Value)}:(A.under (.builtin "type.__call__" ⟨.ref C :: us,kw⟩)).units=A.units + 1:=by
 first | rfl | simp [Around.under,Code.cUnits,Code.frames,Code.isFrame]
theorem Room.make {k:Nat} {A:Around} (r:Room (k + 1) A) (C:Addr) (us:List Value) (kw:List (Str × Value)):Room k (A.under (.builtin "type.__call__" ⟨.ref C :: us,kw⟩)) :=
 ⟨r.hd,by have:=r.dp;rw [make_depth];omega,by have:=r.un;rw [make_units];omega⟩
theorem Room.depth {k:Nat} {A:Around} (r:Room k A):A.depth < recursionLimit:=by have:=r.dp;omega
theorem Room.units {k:Nat} {A:Around} (r:Room k A):A.units + 64 < cLine:=by have:=r.un;omega
def tNil:TA:=fun _ H Q=>Q [] H
def tCons (ta:TE) (tr:TA):TA:=fun σ H Q=>ta σ H fun x H1=>tr σ H1 fun xs H2=>Q (x :: xs) H2
section
variable {X:Cx} {e:Expr} {es:List Expr} {te:TE} {t:TA} {pos:Pos}
theorem J4:PA X [] tNil:=fun _ _ _ _ H Q I h=>Calls.spliced_nil ⟨[],H,I,.nil,h⟩
theorem J0 (ha:PE X e te) (hr:PA X es t) (hs:starEach (e :: es) X.env=(false,eval e X.env) :: starEach es X.env:=by rfl):PA X (e :: es) (tCons te t):=by
 intro pos pins s σ H Q I h
 rw [hs]
 show wpAny _ _ (spliced ((false,eval e X.env) :: backTo pos (starEach es X.env))) _ _ s
 refine Calls.spliced_cons (thn (ha pins s σ H _ I h) fun u s1 ⟨x,H1,I1,r1,q1⟩=>?_)
 exact thn (hr pos pins s1 σ H1 _ I1 q1) fun us s2 ⟨xs,H2,I2,r2,q2⟩=>⟨x :: xs,H2,I2,.cons r1 r2,q2⟩
def tTup (t:TA):TE:=fun σ H Q=>t σ H fun xs H1=>xs.length≤sizeLine∧∀ p,H1 p=none→Q (.ref p) (upd H1 p (.tup xs))
def tLst (t:TA):TE:=fun σ H Q=>t σ H fun xs H1=>xs.length≤sizeLine∧∀ p,H1 p=none→Q (.ref p) (upd H1 p (.lst xs))
theorem J25 {x1} (h:PA X es t):PE X (.Tuple es x1 pos) (tTup t):=by
 intro pins s σ H Q I hq
 refine wpAny_Tuple_spliced (thn (h pos pins s σ H _ I hq) fun us s1 ⟨xs,H1,I1,r,z,q⟩=>⟨by rw [← r.length];exact z,?_⟩)
 have hf:H1 s1.heap.objs.size=none:=I1.hok.fresh (Nat.le_refl _)
 refine ⟨.ref s1.heap.objs.size,upd H1 s1.heap.objs.size (.tup xs),I1.laid (t':=s1.toks) (fun b u e=>Heap.get?_push_of_some _ e) (Nat.le_refl _) ?_,rfl,q _ hf⟩
 exact ⟨z,us,r,⟨_,Heap.get?_push_size _ rfl,⟨rfl,rfl⟩,_,rfl⟩⟩
theorem J1z (h:PA X es t):PE X (.List es pos) (tLst t):=by
 intro pins s σ H Q I hq
 refine wpAny_List_spliced (thn (h pos pins s σ H _ I hq) fun us s1 ⟨xs,H1,I1,r,z,q⟩=>⟨by rw [← r.length];exact z,?_⟩)
 have hf:H1 s1.heap.objs.size=none:=I1.hok.fresh (Nat.le_refl _)
 refine ⟨.ref s1.heap.objs.size,upd H1 s1.heap.objs.size (.lst xs),I1.laid (t':=s1.toks) (fun b u e=>Heap.get?_push_of_some _ e) (Nat.le_refl _) ?_,rfl,q _ hf⟩
 exact ⟨z,us,0,r,Heap.get?_push_size _ rfl⟩
end
abbrev Sp:=List V→Hp→VK→XK→Prop
abbrev CXT:=List Env→Hp→Shared→XK→Value→Shared→Prop
structure Env0 (P:Program) (w:World) (K:PySem.W.Frag) (mg:Str→Option Value) (base:Heap) (A:Around) (outer:List Env) (s:Shared) (H:Hp):Prop where
 frames:A.frames=some outer
 mod:Mod K mg base
 bs:∀ b o,base.get? b=some o→s.heap.get? b=some o∧H b=none
 bsz:base.objs.size≤s.heap.objs.size
 funs:s.heap.FunFrames base outer
 frf:∀ b∈frs outer,H b=none
 hok:HOk P w H s.heap
 bare:AllBare s.gens
def CE (outer:List Env) (P:Program) (w:World) (H:Hp) (s:Shared) (Q:VK) (u:Value) (s':Shared):Prop :=
 ∃ v H',s'.os=s.os∧AllBare s'.gens∧Un (frs outer) [] H H' s.heap s'.heap∧HOk P w H' s'.heap∧RelV v u∧Q v H'
def CR (CX:CXT) (outer:List Env) (P:Program) (w:World) (H:Hp) (s:Shared) (Q:VK) (E:XK) (r:Result) (s':Shared):Prop :=
 match r with
 | .ok (.ret u)=>CE outer P w H s Q u s'
 | .ok _=>False
 | .error e=>CX outer H s E e s'
structure FnOk (P:Program) (w:World) (K:PySem.W.Frag) (mg:Str→Option Value) (base:Heap) (CX:CXT) (k:Nat) (f:Addr) (fd:FuncData) (ps:List Str) (sp:Sp):Prop where
 len:∀ vs H Q E,sp vs H Q E→vs.length=ps.length
 run:∀ (A:Around) (outer:List Env) (s:Shared) (H:Hp) (args:Args) (us:List Value) (vs:List V) (Q:VK) (E:XK),Room k A→Env0 P w K mg base A outer s H→BindsTo s fd args (ps.zip us)→Vals vs us→sp vs H Q E→
  codeAny (model P w) A (.call (.ref f) args) (CR CX outer P w H s Q E) s
theorem FnOk.mono {P:Program} {w:World} {K:PySem.W.Frag} {mg:Str→Option Value} {base:Heap} {CX:CXT} {j k:Nat} {f:Addr} {fd:FuncData} {ps:List Str} {sp:Sp} (F:FnOk P w K mg base CX j f fd ps sp) (h:j≤k) :
  FnOk P w K mg base CX k f fd ps sp:=⟨F.len,fun A outer s H args us vs Q E hr=>F.run A outer s H args us vs Q E (hr.mono h)⟩
theorem Env0.make {P:Program} {w:World} {K:PySem.W.Frag} {mg:Str→Option Value} {base:Heap} {A:Around} {outer:List Env} {s:Shared} {H:Hp} (e:Env0 P w K mg base A outer s H) (C:Addr) (us:List Value) (kw:List (Str × Value)) :
  Env0 P w K mg base (A.under (.builtin "type.__call__" ⟨.ref C :: us,kw⟩)) outer s H:=⟨by first | exact e.frames | (simpa [Around.under,Code.envs,Code.isFrame,pushEnvs] using e.frames),e.mod,e.bs,e.bsz,e.funs,e.frf,e.hok,e.bare⟩
section
variable {X:Cx} {pins:List (Addr × Obj)} {σ:St} {H:Hp} {s s':Shared}
theorem Inv.env0 (I:Inv X pins σ H s):Env0 X.prog X.w X.K X.mg X.base X.A X.stack s H :=
 ⟨I.ok.frames,I.ok.mod,I.bs,Nat.le_trans I.ok.bsz I.sz,I.stack,I.stkFree,I.hok,I.bare⟩
theorem Inv.after {Q:VK} {u:Value} (I:Inv X pins σ H s) (h:CE X.stack X.prog X.w H s Q u s'):EP X pins σ Q u s':=by
 obtain ⟨v,H',os,bare,un,hok,r,q⟩:=h
 obtain ⟨hh,g,d,t,os'⟩:=s'
 obtain rfl:os'=s.os:=os
 exact ⟨v,H',I.call (h':=hh) (g':=g) (d':=d) (t':=t) (ch:=[]) un hok bare (fun b z=>absurd z (by simp)),r,q⟩
end
def tCall (sp:Sp) (dvs:List V) (E:XK) (t:TA):TE:=fun σ H Q=>t σ H fun vs H1=>sp (vs ++ dvs) H1 Q E
def Binds (K:PySem.W.Frag) (fd:FuncData) (ps:List Str) (ds:List Value):Prop :=
 ∀ (s:Shared) (us:List Value),K.In s.heap→(us ++ ds).length=ps.length→BindsTo s fd ⟨us,[]⟩ (ps.zip (us ++ ds))
theorem Binds.all {K:PySem.W.Frag} {fd:FuncData} {ps:List Str} (h:∀ us:List Value,us.length=ps.length→bindArgs fd ⟨us,[]⟩=pure (ps.zip us)):Binds K fd ps []:=fun s us _ hl=>by
 rw [List.append_nil] at hl ⊢
 exact .of_eq (h us hl)
def Passes (CX:CXT) (X:Cx) (E:XK):Prop:=∀ (pins:List (Addr × Obj)) (σ:St) (H:Hp) (s:Shared) (e:Value) (s':Shared),Inv X pins σ H s→CX X.stack H s E e s'→X.xe e s'
section
variable {X:Cx} {CX:CXT} {k:Nat} {f C:Addr} {fd:FuncData} {ps:List Str} {sp:Sp} {dvs:List V} {ds:List Value} {E:XK} {x m:Str} {p pos apos:Pos} {e o:Expr} {es:List Expr} {ta:TE} {t:TA}
theorem run_fn {pins:List (Addr × Obj)} {σ:St} {H:Hp} {s:Shared} {Q:VK} {us:List Value} {vs:List V} (F:FnOk X.prog X.w X.K X.mg X.base CX k f fd ps sp) (hr:Room k X.A) (hb:Binds X.K fd ps ds) (hd:Vals dvs ds) (hx:Passes CX X E)
  (I:Inv X pins σ H s) (r:Vals vs us) (h:sp (vs ++ dvs) H Q E):wpAny (model X.prog X.w) X.A (call (.ref f) us) (EP X pins σ Q) X.xe s:=by
 have r2:Vals (vs ++ dvs) (us ++ ds):=r.append hd
 have hl:(us ++ ds).length=ps.length:=by rw [← r2.length];exact F.len _ _ _ _ h
 refine wpAny_call (codeAny_mono (F.run X.A X.stack s H ⟨us,[]⟩ (us ++ ds) (vs ++ dvs) Q E hr I.env0 (hb s us I.kIn hl) r2 h) fun r s' hq=>?_)
 cases r with
 | error e=>exact hx pins σ H s e s' I hq
 | ok fl =>
  cases fl with
  | ret u=>exact I.after hq
  | next=>exact False.elim hq
  | brk=>exact False.elim hq
  | cont=>exact False.elim hq
theorem Jr (F:FnOk X.prog X.w X.K X.mg X.base CX k f fd ps sp) (hr:Room k X.A) (hg:Gl X x) (hm:X.mg x=some (.ref f)) (hk:PySem.W.keepIn X.K (.ref f)=true) (hb:Binds X.K fd ps ds) (hd:Vals dvs ds) (hx:Passes CX X E)
  (ha:PA X (e :: es) t) (hdb:(x == ("__debug__":Str))=false:=by decide) (he:starEach (e :: es) X.env=(false,eval e X.env) :: starEach es X.env:=by rfl) (hpl:(backTo pos (starEach es X.env)).any (·.1)=false:=by rfl) :
  PE X (.Call (.Name x p) (e :: es) [] pos) (tCall sp dvs E t):=by
 intro pins s σ H Q I h
 refine wpAny_Call_Name_kw (J3s I hg hm ?_ hdb)
 refine PySem.W.callWith_K (h₀:=X.base) I.ok.mod.kin hk (thn (ha pos pins s σ H _ I h) fun us s1 ⟨vs,H1,I1,r,q⟩=>⟨I1.kIn,?_⟩) he hpl
 exact run_fn F hr hb hd hx I1 r q
end
structure FnScope (N P:List Str) (sc:Scope):Prop where
 kind:sc.kind=.function
 co:sc.isCoroutine=false
 gen:sc.isGenerator=false
 nd:N.Nodup
 pre:N.take P.length=P
 par:∀ x∈P,sc.names.lookup x=some .local∨sc.names.lookup x=some .cell
 nofree:∀ y∈sc.names,y.2≠.free
theorem bindL_out {kindOf:Str→Option NameKind} {x:Str}:∀ {binds:List (Str × Value)} {m:Str→Option Value},(∀ v,(x,v) ∉ binds)→bindL kindOf binds m x=m x
 | [],_,_=>rfl
 | (n,v) :: r,m,h=>by
  unfold bindL
  rw [bindL_out fun w hw=>h w (List.mem_cons_of_mem _ hw)]
  split
  ·have:x≠n:=by rintro rfl;exact h v List.mem_cons_self
   simp [this]
  ·rfl
theorem bindC_out {kindOf:Str→Option NameKind} {x:Str}:∀ {binds:List (Str × Value)} {m:Str→Option Value},(∀ v,(x,v) ∉ binds)→bindC kindOf binds m x=m x
 | [],_,_=>rfl
 | (n,v) :: r,m,h=>by
  unfold bindC
  rw [bindC_out fun w hw=>h w (List.mem_cons_of_mem _ hw)]
  split
  ·rfl
  ·have:x≠n:=by rintro rfl;exact h v List.mem_cons_self
   simp [this]
theorem bindL_get {kindOf:Str→Option NameKind} {x:Str} {v:Value}:∀ {P:List Str} {vs:List Value} {i:Nat} {m:Str→Option Value},P.Nodup→P[i]?=some x→vs[i]?=some v→kindOf x=some .local→
  bindL kindOf (P.zip vs) m x=some v
 | [],_,_,_,_,h,_,_=>by simp at h
 | _ :: _,[],_,_,_,_,h,_=>by simp at h
 | p :: P,w :: vs,0,m,nd,h1,h2,hk=>by
  simp at h1 h2;subst h1;subst h2
  show bindL kindOf ((p,w) :: P.zip vs) m p=_
  unfold bindL
  rw [bindL_out fun v hv=>(List.nodup_cons.mp nd).1 (List.of_mem_zip hv).1,if_pos hk]
  simp
 | p :: P,w :: vs,i + 1,m,nd,h1,h2,hk=>by
  show bindL kindOf ((p,w) :: P.zip vs) m x=_
  unfold bindL
  exact bindL_get (i:=i) (List.nodup_cons.mp nd).2 (by simpa using h1) (by simpa using h2) hk
theorem bindC_get {kindOf:Str→Option NameKind} {x:Str} {v:Value}:∀ {P:List Str} {vs:List Value} {i:Nat} {m:Str→Option Value},P.Nodup→P[i]?=some x→vs[i]?=some v→kindOf x≠some .local→
  bindC kindOf (P.zip vs) m x=some v
 | [],_,_,_,_,h,_,_=>by simp at h
 | _ :: _,[],_,_,_,_,h,_=>by simp at h
 | p :: P,w :: vs,0,m,nd,h1,h2,hk=>by
  simp at h1 h2;subst h1;subst h2
  show bindC kindOf ((p,w) :: P.zip vs) m p=_
  unfold bindC
  rw [bindC_out fun v hv=>(List.nodup_cons.mp nd).1 (List.of_mem_zip hv).1,if_neg hk]
  simp
 | p :: P,w :: vs,i + 1,m,nd,h1,h2,hk=>by
  show bindC kindOf ((p,w) :: P.zip vs) m x=_
  unfold bindC
  exact bindC_get (i:=i) (List.nodup_cons.mp nd).2 (by simpa using h1) (by simpa using h2) hk
def start (N:List Str) (vs:List V):St:=vs.map some ++ List.replicate (N.length - vs.length) none
def cxOf (CX:CXT) (P:Program) (w:World) (K:PySem.W.Frag) (mg:Str→Option Value) (base:Heap) (N:List Str) (qual:Str) (scope:Scope) (f:Addr) (cd:Value) (A:Around) (outer:List Env) (s:Shared) (H:Hp) (E:XK):Cx where
 prog:=P
 w:=w
 K:=K
 mg:=mg
 base:=base
 A:=A.deeper (envOfC qual scope s.heap.objs.size f cd)
 N:=N
 s₀:=s
 H₀:=H
 env:=envOfC qual scope s.heap.objs.size f cd
 outer:=outer
 stack:=envOfC qual scope s.heap.objs.size f cd :: outer
 ex:=[]
 calm:=true
 fn:=fun _=>true
 pn:=[]
 xe:=fun e s'=>wpAny (model P w) (A.deeper (envOfC qual scope s.heap.objs.size f cd)) (leaving (envOfC qual scope s.heap.objs.size f cd) e) (fun _ s''=>CX outer H s E e s'') (fun e' s''=>CX outer H s E e' s'') s'
theorem cell_has {sc:Scope} {n:Nat} {x:Str} (h:sc.names.lookup x=some .cell):∃ c,(cellsFrom n sc.names []).lookup x=some c:=by
 have q:=PySem.W.cellsFrom_some sc.names n [] (.inl h)
 exact Option.isSome_iff_exists.mp q
theorem inv_start {CX:CXT} {P:Program} {w:World} {K:PySem.W.Frag} {mg:Str→Option Value} {base:Heap} {N ps:List Str} {qual:Str} {scope:Scope} {f:Addr} {cd:Value} {A:Around} {outer:List Env} {s s1:Shared} {H:Hp} {E:XK} {us:List Value} {vs:List V}
  (S:FnScope N ps scope) (hd:A.handled=none) (e0:Env0 P w K mg base A outer s H) (hl:vs.length=ps.length) (r:Vals vs us)
  (x:InCallC s s.heap.objs.size (bindL (envOfC qual scope s.heap.objs.size f cd).kindOf (ps.zip us) fun _=>none) (cellsFrom (s.heap.objs.size + 1) scope.names []) (bindC (envOfC qual scope s.heap.objs.size f cd).kindOf (ps.zip us) fun _=>none) s1) :
  Inv (cxOf CX P w K mg base N qual scope f cd A outer s H E) [] (start N vs) H s1:=by
 have hpl:ps.length≤N.length:=by have:=congrArg List.length S.pre;rw [List.length_take] at this;omega
 obtain ⟨h1,tk,rfl,hk⟩:=x.done
 have noA:∀ b:Addr,b ∉ (cxOf CX P w K mg base N qual scope f cd A outer s H E).ex:=fun b z=>absurd (show b∈([]:List Addr) from z) (by simp)
 refine ⟨⟨e0.mod,S.kind,rfl,rfl,Nat.le_refl _,fun y z c h1 h2=>?_,fun y hy=>?_,fun y c _ h=>?_,fun _=>hd,Around.frames_deeper e0.frames,.inr ⟨rfl,rfl⟩,fun b z=>absurd z (noA b),e0.bs,e0.bsz,fun b _ _=>noA b,fun b z=>absurd z (noA b),e0.funs,e0.frf⟩,
  rfl,e0.bare,Un.kept hk,⟨_,x.toInCall.ns,fun i y v h1 h2 h3=>?_⟩,fun y c h=>⟨_,x.cell y c h⟩,e0.hok.fresh (Nat.le_refl _),fun y c h=>?_,fun p hp=>absurd (show p∈([]:List (Addr × Obj)) from hp) (by simp),e0.hok.kept hk,?_⟩
 ·exact name_of_addr x.apart (PySem.mem_of_lookup h1) (PySem.mem_of_lookup h2)
 ·have hy:scope.names.lookup y=some .cell∨scope.names.lookup y=some .free:=hy
  rcases hy with hy | hy
  ·exact cell_has hy
  ·exact absurd rfl (S.nofree _ (PySem.mem_of_lookup hy))
 ·exact Nat.le_of_lt (x.above y c (PySem.mem_of_lookup h))
 ·have hi:i < vs.length:=by
   unfold start at h2
   by_cases hi:i < vs.length
   ·exact hi
   ·rw [List.getElem?_append_right (by simpa using hi)] at h2
    rw [List.getElem?_replicate] at h2
    split at h2 <;> cases h2
  have ha:vs[i]?=some v:=by
   unfold start at h2
   rw [List.getElem?_append_left (by simpa using hi),List.getElem?_map] at h2
   cases e:vs[i]? with
   | none=>rw [e] at h2;cases h2
   | some a=>rw [e] at h2;cases h2;rfl
  obtain ⟨u,hu,rv⟩:=r.get ha
  have hp:ps[i]?=some y:=by
   rw [← S.pre,List.getElem?_take_of_lt (by omega)];exact h1
  have ndP:ps.Nodup:=by rw [← S.pre];exact S.nd.sublist (List.take_sublist _ _)
  refine ⟨u,rv,?_⟩
  rcases S.par y (List.mem_of_getElem? hp) with k | k
  ·exact .inl ⟨k,bindL_get ndP hp hu k⟩
  ·obtain ⟨c,e⟩:=cell_has (n:=s.heap.objs.size + 1) k
   refine .inr ⟨.inl k,c,e,?_⟩
   have q:=x.cell y c e
   rw [bindC_get ndP hp hu (by show scope.names.lookup y≠_;rw [k];decide)] at q
   exact q
 ·exact e0.hok.fresh (Nat.le_of_lt (x.above y c (PySem.mem_of_lookup h)))
 ·unfold start
  show _=N.length
  rw [List.length_append,List.length_map,List.length_replicate]
  omega
theorem fn_of {CX:CXT} {P:Program} {w:World} {K:PySem.W.Frag} {mg:Str→Option Value} {base:Heap} {k:Nat} {f:Addr} {name qual:Str} {params:Arguments} {body:List Stmt} {scope:Scope} {dV kV doc pm cdv ct oc:Value} {an od:Option Addr}
  {osl:Array (Option Value)} {N ps:List Str} {sp:Sp} (lk:K.lookup f=some ⟨oc,od,.func (PySem.W.fnOf name qual params body scope dV kV doc pm an cdv ct),osl⟩) (hcd:PySem.W.codeIn K cdv qual=true) (S:FnScope N ps scope)
  (len:∀ vs H Q E,sp vs H Q E→vs.length=ps.length)
  (hbody:∀ (A:Around) (outer:List Env) (s:Shared) (H:Hp) (vs:List V) (Q:VK) (E:XK),Room k (A.deeper (envOfC qual scope s.heap.objs.size f cdv))→sp vs H Q E→
   ∃ t,PSs (cxOf CX P w K mg base N qual scope f cdv A outer s H E) body t∧t { nx:=fun _ H'=>Q .non H',rt:=Q } (start N vs) H) :
  FnOk P w K mg base CX (k + 1) f (PySem.W.fnOf name qual params body scope dV kV doc pm an cdv ct) ps sp:=by
 refine ⟨len,fun A outer s H args us vs Q E hr e0 hb r hsp=>?_⟩
 have hl:=len _ _ _ _ hsp
 have KX:K.In s.heap:=e0.mod.kin.keeps fun b o e=>(e0.bs b o e).1
 have lim:s.heap.NoLimit:=e0.mod.nolimit.keeps fun b o e=>(e0.bs b o e).1
 have hkind:∀ y∈ps.zip us,scope.names.lookup y.1=some .local∨(scope.names.lookup y.1=some .cell∧((cellsFrom (s.heap.objs.size + 1) scope.names []).lookup y.1).isSome=true):=fun ⟨n,v⟩ hy=>by
  rcases S.par n (List.of_mem_zip hy).1 with q | q
  ·exact .inl q
  ·exact .inr ⟨q,PySem.W.cellsFrom_some _ _ _ (.inl q)⟩
 refine codeAny_call_function hr.depth (KX _ _ lk) rfl S.co S.gen rfl (PySem.W.codeRec_of KX hcd) (hb _ _ _ _ ?_)
 refine wpAny_newFunctionEnv_cells S.kind hkind fun env he s1 x=>?_
 subst he
 refine ⟨lim.keeps x.toInCall.keep,codeAny_func ?_⟩
 obtain ⟨t,ht,hq⟩:=hbody A outer s H vs Q E (hr.deeper _) hsp
 have I:Inv (cxOf CX P w K mg base N qual scope f cdv A outer s H E) [] (start N vs) H s1:=inv_start S hr.hd e0 hl r x
 refine wpAny_mono (ht [] s1 (start N vs) H _ I hq) (fun fl s' hs=>?_) fun e s' hs=>hs
 have fin:∀ {σ':St} {H':Hp} {v:V} {u:Value},Inv (cxOf CX P w K mg base N qual scope f cdv A outer s H E) [] σ' H' s'→RelV v u→Q v H'→CE outer P w H s Q u s' :=
  fun {σ' H' v u} J rv q=>⟨v,H',J.os,J.bare,J.base,J.hok,rv,q⟩
 cases fl with
 | ret u =>
  obtain ⟨v,σ',H',J,rv,q⟩:=hs
  exact fin J rv q
 | next =>
  obtain ⟨σ',H',J,q⟩:=hs
  exact fin (v:=V.non) (u:=Value.none) J rfl q
 | brk =>
  obtain ⟨_,_,_,q⟩:=hs
  exact False.elim q
 | cont =>
  obtain ⟨_,_,_,q⟩:=hs
  exact False.elim q
end L2
namespace L2
open PySem PySem.Spec PyProof.Rows
section
variable {X:Cx} {x:Str} {p pos:Pos} {e:Expr} {es:List Expr} {t:TA} {id T:String} {r:List V→Hp→VK→Prop}
def tCB (r:List V→Hp→VK→Prop) (t:TA):TE:=fun σ H Q=>t σ H fun vs H1=>r vs H1 Q
theorem Jb (hc:CallR X (.builtin id) r) (hg:Gl X x) (hm:X.mg x=none) (hv:bootBuiltins x=some (.builtin id)) (ha:PA X (e :: es) t) (hn:x≠"__name__":=by decide) (hdb:(x == ("__debug__":Str))=false:=by decide)
  (he:starEach (e :: es) X.env=(false,eval e X.env) :: starEach es X.env:=by rfl) (hpl:(backTo pos (starEach es X.env)).any (·.1)=false:=by rfl):PE X (.Call (.Name x p) (e :: es) [] pos) (tCB r t):=by
 intro pins s σ H Q I h
 refine wpAny_Call_Name_kw (ld_blt I hg hm hv ?_ hn hdb)
 exact PyProof.Rows.callWith_builtin1 (thn (ha pos pins s σ H _ I h) fun us s1 ⟨vs,H1,I1,r1,q1⟩=>hc pins s1 σ H1 vs us Q I1 r1 q1) he hpl
theorem J38 (hc:CallR X (.type T) r) (hg:Gl X x) (hm:X.mg x=none) (hv:bootBuiltins x=some (.type T)) (ha:PA X (e :: es) t) (hn:x≠"__name__":=by decide) (hdb:(x == ("__debug__":Str))=false:=by decide)
  (he:starEach (e :: es) X.env=(false,eval e X.env) :: starEach es X.env:=by rfl) (hpl:(backTo pos (starEach es X.env)).any (·.1)=false:=by rfl):PE X (.Call (.Name x p) (e :: es) [] pos) (tCB r t):=by
 intro pins s σ H Q I h
 refine wpAny_Call_Name_kw (ld_blt I hg hm hv ?_ hn hdb)
 exact PyProof.Rows.callWith_type1 (thn (ha pos pins s σ H _ I h) fun us s1 ⟨vs,H1,I1,r1,q1⟩=>hc pins s1 σ H1 vs us Q I1 r1 q1) he hpl
end
end L2
namespace HT
open PySem PyProof.Rows
section
variable {prog:Program} {w:World} {A:Around} {E:Value→Shared→Prop} {s:Shared}
def sIx (n d:Nat):Option Int→Nat
 | none=>d
 | some v=>if v < 0 then (v + (n:Int)).toNat else min v.toNat n
theorem sIx_none (n d:Nat):sIx n d none=d:=rfl
end
end HT
namespace L2
open PySem PySem.Spec PyProof.Rows
abbrev TO:=St→Hp→(Option Int→Hp→Prop)→Prop
def PO (X:Cx) (e:Option Expr) (t:TO):Prop :=
 ∀ (pins:List (Addr × Obj)) (s:Shared) (σ:St) (H:Hp) (Q:Option Int→Hp→Prop),Inv X pins σ H s→t σ H Q→
  wpAny (model X.prog X.w) X.A (evalPart e X.env) (fun u s'=>∃ o H',Inv X pins σ H' s'∧IsPart u o∧Q o H') X.xe s
def tNoPart:TO:=fun _ H Q=>Q none H
def tPart (t:TE):TO:=fun σ H Q=>t σ H fun x H1=>∃ i,x=.int i∧Q (some i) H1
section
variable {X:Cx} {e:Expr} {te:TE} {lo hi:Option Expr} {tl th:TO} {pos p2:Pos}
theorem po_none:PO X none tNoPart:=by
 intro pins s σ H Q I h
 rw [evalPart_none]
 exact wpAny_pure ⟨none,H,I,.none,h⟩
theorem po_some (h:PE X e te):PO X (some e) (tPart te):=by
 intro pins s σ H Q I hw
 rw [evalPart_some]
 refine thn (h pins s σ H _ I hw) fun u s1 ⟨x,H1,I1,r1,q1⟩=>?_
 obtain ⟨i,rfl,q⟩:=q1
 obtain ⟨t,rfl⟩:=r1
 exact ⟨some i,H1,I1,.int i t,q⟩
def SlR (X:Cx) (r:V→Option Int→Option Int→Hp→VK→Prop):Prop :=
 ∀ (pins:List (Addr × Obj)) (s:Shared) (σ:St) (H:Hp) (x:V) (v vl vu:Value) (lo hi:Option Int) (sl:Addr) (Q:VK),Inv X pins σ H s→RelV x v→s.heap.IsSliceOf sl vl vu .none→IsPart vl lo→IsPart vu hi→r x lo hi H Q→
  ∃ T id,typeLookup (.type T) "__getitem__"=pure (some (.builtin id))∧s.TypeIs v T∧wpAny (model X.prog X.w) X.A (getItem v (.ref sl)) (EP X pins σ Q) X.xe s
def tSl (r:V→Option Int→Option Int→Hp→VK→Prop) (te:TE) (tl th:TO):TE:=fun σ H Q=>te σ H fun x H1=>tl σ H1 fun l H2=>th σ H2 fun u H3=>r x l u H3 Q
theorem J37 {r:V→Option Int→Option Int→Hp→VK→Prop} (hr:SlR X r) (he:PE X e te) (hl:PO X lo tl) (hu:PO X hi th):PE X (.Subscript e (.Slice lo hi none p2) pos) (tSl r te tl th):=by
 intro pins s σ H Q I h
 refine Subscript_ (thn (he pins s σ H _ I h) fun v s1 ⟨x,H1,I1,r1,q1⟩=>?_)
 refine wpAny_Slice (thn (hl pins s1 σ H1 _ I1 q1) fun vl s2 ⟨l,H2,I2,pl,q2⟩=>thn (hu pins s2 σ H2 _ I2 q2) fun vu s3 ⟨u,H3,I3,pu,q3⟩=>?_)
 rw [evalPart_none]
 refine wpAny_pure ?_
 have I4:Inv X pins σ H3 { s3 with heap:=s3.heap.push { cls:=.type "slice",data:=.fields #[vl,vu,.none] } }:=I3.kept (t':=s3.toks) fun b ob q=>Heap.get?_push_of_some _ q
 obtain ⟨T,id,hT,ht,hg⟩:=hr pins { s3 with heap:=s3.heap.push { cls:=.type "slice",data:=.fields #[vl,vu,.none] } } σ H3 x v vl vu l u s3.heap.objs.size Q I4 r1 (Heap.IsSliceOf.new ..) pl pu q3
 show wpAny (model X.prog X.w) X.A (subscriptTail e (.Slice lo hi none p2) v (.ref s3.heap.objs.size)) (EP X pins σ Q) X.xe { s3 with heap:=s3.heap.push { cls:=.type "slice",data:=.fields #[vl,vu,.none] } }
 exact tail_any (ops:=[.ref s3.heap.objs.size,v]) ht hT hg (by with_unfolding_all rfl)
def cutV (xs:List V) (lo hi:Option Int):List V:=(xs.drop (HT.sIx xs.length 0 lo)).take (HT.sIx xs.length xs.length hi - HT.sIx xs.length 0 lo)
theorem cutV_length (xs:List V) (lo hi:Option Int):(cutV xs lo hi).length≤xs.length:=by
 unfold cutV
 rw [List.length_take,List.length_drop]
 omega
end
end L2
namespace L2
open PySem PySem.Spec PyProof.Rows
def ixN (n:Nat) (i:Int):Option Nat:=if 0≤i then (if i < n then some i.toNat else none) else if -(n:Int)≤i then some (i + n).toNat else none
def atI {α:Type} (xs:List α) (i:Int):Option α:=(ixN xs.length i).bind fun j=>xs[j]?
theorem ixN_seq {n:Nat} {i:Int} {j:Nat} (h:ixN n i=some j):seqIndex? i n=some j∧j < n∧-(n:Int)≤i∧i < n:=by
 unfold ixN at h
 by_cases h0:0≤i
 ·rw [if_pos h0] at h
  by_cases h1:i < n
  ·rw [if_pos h1] at h
   have e:i.toNat=j:=Option.some.inj h
   exact ⟨by rw [seqIndex_of h0 h1,e],by omega,by omega,h1⟩
  ·rw [if_neg h1] at h;cases h
 ·rw [if_neg h0] at h
  by_cases h1:-(n:Int)≤i
  ·rw [if_pos h1] at h
   have e:(i + n).toNat=j:=Option.some.inj h
   exact ⟨by rw [seqIndex_neg (by omega) h1,e],by omega,h1,by omega⟩
  ·rw [if_neg h1] at h;cases h
theorem atI_get {α:Type} {xs:List α} {i:Int} {v:α} (h:atI xs i=some v):∃ j,seqIndex? i xs.length=some j∧xs[j]?=some v∧j < xs.length∧-(xs.length:Int)≤i∧i < xs.length:=by
 unfold atI at h
 cases e:ixN xs.length i with
 | none=>rw [e] at h;cases h
 | some j =>
  rw [e] at h
  obtain ⟨h1,h2,h3,h4⟩:=ixN_seq e
  exact ⟨j,h1,h,h2,h3,h4⟩
theorem Ji {α:Type} {xs:List α} {j:Nat} {v:α} (h:xs[j]?=some v):atI xs (j:Int)=some v:=by
 have hj:j < xs.length:=(List.getElem?_eq_some_iff.mp h).1
 have e:ixN xs.length (j:Int)=some j:=by
  unfold ixN
  rw [if_pos (by omega),if_pos (by omega)];simp
 unfold atI;rw [e];exact h
def PlainIx (b:Expr):Prop:=∀ o i,subscripted b false o i=operate [o,i] (getItem o i)
def IxR (X:Cx) (r:R2):Prop :=
 ∀ (value slice:Expr) (pins:List (Addr × Obj)) (s:Shared) (σ:St) (H:Hp) (x y:V) (v u:Value) (Q:VK),Inv X pins σ H s→RelV x v→RelV y u→r x y H Q→
  subscripted slice false v u=operate [v,u] (getItem v u)→wpAny (model X.prog X.w) X.A (subscriptTail value slice v u) (EP X pins σ Q) X.xe s
def MtR (X:Cx) (id:String) (r:V→List V→Hp→VK→Prop):Prop :=
 ∀ (pins:List (Addr × Obj)) (s:Shared) (σ:St) (H:Hp) (x:V) (xs:List V) (v:Value) (us:List Value) (Q:VK),Inv X pins σ H s→RelV x v→Vals xs us→r x xs H Q→
  wpAny (model X.prog X.w) X.A (call (.builtin id) (v :: us)) (EP X pins σ Q) X.xe s
section
variable {X:Cx} {a b:Expr} {ta tb:TE} {pos:Pos}
theorem pe_ix {r:R2} (hr:IxR X r) (ha:PE X a ta) (hb:PE X b tb) (hs:PlainIx b):PE X (.Subscript a b pos) (tOp r ta tb):=by
 intro pins s σ H Q I h
 exact Subscript_ (binT ha hb I h fun v u s2 x y H2 I2 rx ry q=>hr a b pins s2 σ H2 x y v u Q I2 rx ry q (hs _ _))
def rIxL (K:PySem.W.Frag):R2:=fun x y H Q=>∃ p xs i v,x=.ref p∧y=.int i∧SqL K H p xs∧atI xs i=some v∧Q v H
def rIxT (K:PySem.W.Frag):R2:=fun x y H Q=>∃ p xs i v,x=.ref p∧y=.int i∧SqT K H p xs∧atI xs i=some v∧Q v H
def rIxS:R2:=fun x y H Q=>∃ z i c,x=.str z∧y=.int i∧z.length≤sizeLine∧atI z.cps.toList i=some c∧Q (.str ⟨#[c]⟩) H
theorem Jj:IxR X (rIxL X.K):=by
 intro value slice pins s σ H x y v u Q I rx ry h hs
 obtain ⟨p,xs,i,z,rfl,rfl,hq,he,q⟩:=h
 cases rx
 obtain ⟨t,rfl⟩:=ry
 obtain ⟨its,r,pl,hz⟩:=I.list hq
 obtain ⟨j,h1,h2,h3,h4,h5⟩:=atI_get he
 obtain ⟨w,ew,rw'⟩:=r.get h2
 have hl:=r.length
 have hn:=J48
 have fin:EP X pins σ Q w s:=⟨z,H,I,rw',q⟩
 by_cases h0:0≤i
 ·have hj:i.toNat=j:=by
   rw [seqIndex_of h0 h5] at h1
   exact Option.some.inj h1
  exact item_listR pl.isList h0 (by omega) (by rw [hj];simpa using ew) fin hs
 ·have hj:(i + (its.toArray.size:Int)).toNat=j:=by
   rw [seqIndex_neg (by omega) h4] at h1
   rw [List.size_toArray,← hl]
   exact Option.some.inj h1
  exact subscriptTail_builtinR (x:=w) pl.isList.typeIs slot_list_getitem.lookup
   (wpAny_getItem_list_neg (Q:=fun r s'=>r=w∧EP X pins σ Q r s') pl.isList (by omega) (by rw [List.size_toArray] <;> omega) (by omega) (by rw [hj];simpa using ew) ⟨rfl,fin⟩) hs
theorem ix_tup:IxR X (rIxT X.K):=by
 intro value slice pins s σ H x y v u Q I rx ry h hs
 obtain ⟨p,xs,i,z,rfl,rfl,hq,he,q⟩:=h
 cases rx
 obtain ⟨t,rfl⟩:=ry
 obtain ⟨its,r,pl,hz⟩:=I.tuple hq
 obtain ⟨j,h1,h2,h3,h4,h5⟩:=atI_get he
 obtain ⟨w,ew,rw'⟩:=r.get h2
 have hl:=r.length
 have hn:=J48
 have fin:EP X pins σ Q w s:=⟨z,H,I,rw',q⟩
 exact subscriptTail_builtinR (x:=w) pl.typeIs slot_tuple_getitem.lookup
  (getItem_tuple (j:=j) (Q:=fun r s'=>r=w∧EP X pins σ Q r s') pl (by omega) (by omega) (by rw [List.size_toArray,← hl];exact h1) (by simpa using ew) ⟨rfl,fin⟩) hs
theorem ix_str:IxR X rIxS:=by
 intro value slice pins s σ H x y v u Q I rx ry h hs
 obtain ⟨z,i,c,rfl,rfl,hz,he,q⟩:=h
 obtain ⟨t,rfl⟩:=rx
 obtain ⟨t',rfl⟩:=ry
 obtain ⟨j,h1,h2,h3,h4,h5⟩:=atI_get he
 have hl:z.cps.toList.length=z.length:=by simp [Str.length]
 rw [hl] at h1 h4 h5
 have hn:=J48
 exact tail_any (typeIs_str s z t) slot_str_getitem.lookup (getItem_str (c:=c) (by
  have e1:decide (i < -(2 ^ 63:Int))=false:=decide_eq_false (by omega)
  have e2:decide (i≥2 ^ 63)=false:=decide_eq_false (by omega)
  rw [e1,e2,Bool.or_false]) (by rw [h1];simpa using h2) ⟨.str ⟨#[c]⟩,H,I.tok _,⟨_,rfl⟩,q⟩) hs
theorem mapSeq_set (its:List Value) (n j:Nat) (u:Value):Obj.mapSeq (·.setIfInBounds j u) { cls:=.type "list",data:=.seq its.toArray n }={ cls:=.type "list",data:=.seq (its.set j u).toArray n }:=by
 simp [Obj.mapSeq]
theorem Inv.lst {pins:List (Addr × Obj)} {σ:St} {H:Hp} {s:Shared} {p:Addr} {xs:List V} (I:Inv X pins σ H s) (h:H p=some (.lst xs)) :
  ∃ (its:List Value) (n:Nat),Vals xs its∧s.heap.get? p=some { cls:=.type "list",data:=.seq its.toArray n }∧xs.length≤sizeLine:=by
 obtain ⟨z,its,n,r,e⟩:=I.hok p _ h
 exact ⟨its,n,r,e,z⟩
theorem Inv.lstUpd {pins:List (Addr × Obj)} {σ:St} {H:Hp} {s:Shared} {p:Addr} {xs ys:List V} {its its':List Value} {n n':Nat} {f:Obj→Obj} (I:Inv X pins σ H s) (h:H p=some (.lst xs))
  (ho:s.heap.get? p=some { cls:=.type "list",data:=.seq its.toArray n }) (hf:f { cls:=.type "list",data:=.seq its.toArray n }={ cls:=.type "list",data:=.seq its'.toArray n' }) (r:Vals ys its') (hz:ys.length≤sizeLine) (t:Nat) :
  Inv X pins σ (upd H p (.lst ys)) { s with heap:=s.heap.update p f,toks:=t }:=by
 have e:(s.heap.update p f).get? p=some { cls:=.type "list",data:=.seq its'.toArray n' }:=by
  rw [Heap.get?_update_self f ho (by rw [hf] <;> rfl),hf]
 refine I.write (x:=p) (e:=p) (by rw [h];trivial) (.inl rfl) (fun b u hb q=>(Heap.get?_update_other _ _ (Ne.symm hb)).trans q) ⟨_,e⟩ ?_
 exact ⟨hz,its',n',r,e⟩
def rSetL:V→V→V→Hp→(Hp→Prop)→Prop:=fun o i v H Q=>∃ p xs k j,o=.ref p∧i=.int k∧H p=some (.lst xs)∧ixN xs.length k=some j∧Q (upd H p (.lst (xs.set j v)))
theorem J1h:PSet X rSetL:=by
 intro pins s σ H o i v ov iv u Q I ro ri rv h
 obtain ⟨p,xs,k,j,rfl,rfl,hp,hj,q⟩:=h
 cases ro
 obtain ⟨t,rfl⟩:=ri
 obtain ⟨its,n,r,ho,hz⟩:=I.lst hp
 obtain ⟨h1,h2,h3,h4⟩:=ixN_seq hj
 have hl:=r.length
 have hn:=J48
 have I':Inv X pins σ (upd H p (.lst (xs.set j v))) { s with heap:=s.heap.update p (Obj.mapSeq (·.setIfInBounds j u)) } :=
  I.lstUpd hp ho (mapSeq_set its n j u) (r.set rv j) (by rw [List.length_set];exact hz) s.toks
 by_cases h0:0≤k
 ·have hk:k.toNat=j:=by
   rw [seqIndex_of h0 h4] at h1
   exact Option.some.inj h1
  exact PySem.W.ki_setAt ho h0 (by omega) (by rw [List.size_toArray,← hl];exact h4) (by rw [hk];exact ⟨_,I',q⟩)
 ·have hk:(k + (its.toArray.size:Int)).toNat=j:=by
   rw [seqIndex_neg (by omega) h3] at h1
   rw [List.size_toArray,← hl]
   exact Option.some.inj h1
  exact PySem.W.ki_setBack ho (by omega) (by rw [List.size_toArray,← hl];exact h3) (by omega) (by rw [hk];exact ⟨_,I',q⟩)
theorem J3y (lo hi:Option Int) (n:Nat):(sliceBounds lo hi none n).1=((HT.sIx n 0 lo:Nat):Int)∧(sliceBounds lo hi none n).2.1=((HT.sIx n n hi:Nat):Int)∧(sliceBounds lo hi none n).2.2=1:=by
 refine ⟨?_,?_,rfl⟩
 ·cases lo with
  | none=>simp [sliceBounds,HT.sIx]
  | some i =>
   simp only [sliceBounds,HT.sIx,Option.getD_none,show (1:Int) > 0 by decide,if_true]
   by_cases h:i < 0
   ·simp only [h,if_true] <;> omega
   ·simp only [h,if_false] <;> omega
 ·cases hi with
  | none=>simp [sliceBounds,HT.sIx]
  | some i =>
   simp only [sliceBounds,HT.sIx,Option.getD_none,show (1:Int) > 0 by decide,if_true]
   by_cases h:i < 0
   ·simp only [h,if_true] <;> omega
   ·simp only [h,if_false] <;> omega
theorem J3n (its:List Value) (lo hi:Option Int):slicePick its.toArray lo hi none=((its.drop (HT.sIx its.length 0 lo)).take (HT.sIx its.length its.length hi - HT.sIx its.length 0 lo)).toArray:=by
 obtain ⟨h1,h2,h3⟩:=J3y lo hi its.toArray.size
 unfold slicePick
 rw [h1,h2,h3]
 simp only [sliceRange_one,pick_run,List.size_toArray] <;> rfl
def rSlL (K:PySem.W.Frag):V→Option Int→Option Int→Hp→VK→Prop:=fun x lo hi H Q=>∃ a xs,x=.ref a∧SqL K H a xs∧∀ p,H p=none→Q (.ref p) (upd H p (.lst (cutV xs lo hi)))
theorem sl_list:SlR X (rSlL X.K):=by
 intro pins s σ H x v vl vu lo hi sl Q I rx hs pl pu h
 obtain ⟨a,xs,rfl,hx,q⟩:=h
 cases rx
 obtain ⟨its,r,ht,hz⟩:=I.list hx
 have hlen:=r.length
 refine ⟨"list",_,slot_list_getitem.lookup,ht.isList.typeIs,?_⟩
 refine wpAny_getItem_list_slice ht.isList hs pl pu .none (by simp) ?_ (by rw [List.size_toArray] <;> omega)
 rw [J3n,← hlen]
 refine ⟨.ref s.heap.objs.size,_,I.laid (t':=s.toks) (o:=.lst (cutV xs lo hi)) (fun b ob q=>Heap.get?_push_of_some _ q) (Nat.le_refl _) ?_,rfl,q _ (I.hok.fresh (Nat.le_refl _))⟩
 exact ⟨Nat.le_trans (cutV_length xs lo hi) hz,_,0,(r.drop (HT.sIx xs.length 0 lo)).take (HT.sIx xs.length xs.length hi - HT.sIx xs.length 0 lo),Heap.get?_push_size _ rfl⟩
theorem Jo:CallR X (.builtin "len") (fun xs H Q=>∃ p ys,xs=[.ref p]∧(SqL X.K H p ys∨SqT X.K H p ys)∧Q (.int ys.length) H):=by
 intro pins s σ H xs us Q I r h
 obtain ⟨p,ys,rfl,hq,q⟩:=h
 obtain ⟨u,rfl,rx⟩:=vals1 r
 cases rx
 have hn:=J48
 rcases hq with hq | hq
 ·obtain ⟨its,r',pl,hz⟩:=I.list hq
  have hlen:=r'.length
  exact Calls.call_len_list pl.isList (by simp only [List.size_toArray] <;> omega) ⟨.int ys.length,H,I.tok _,⟨s.toks + 1,by rw [List.size_toArray,hlen]⟩,q⟩
 ·obtain ⟨its,r',pl,hz⟩:=I.tuple hq
  have hlen:=r'.length
  exact len_tuple pl (by simp only [List.size_toArray] <;> omega) ⟨.int ys.length,H,I.tok _,⟨s.toks + 1,by rw [List.size_toArray,hlen]⟩,q⟩
theorem J2s:CallR X (.builtin "len") (fun xs H Q=>∃ z,xs=[.str z]∧z.length≤sizeLine∧Q (.int z.length) H):=by
 intro pins s σ H xs us Q I r h
 obtain ⟨z,rfl,hz,q⟩:=h
 obtain ⟨u,rfl,t,rfl⟩:=vals1 r
 have hn:=J48
 exact len_str (by omega) ⟨.int z.length,H,I.tok _,⟨_,rfl⟩,q⟩
def tyV (K:PySem.W.Frag) (T:String) (x:V) (H:Hp):Prop:=match x with
 | .str _=>T="str"
 | .int _=>T="int"
 | .ref p=>(T="list"∧∃ xs,SqL K H p xs)∨(T="tuple"∧∃ o,K.lookup p=some o∧o.cls=.type "tuple"∧o.dict=none)∨
   (T="dict"∧((∃ kvs,H p=some (.dK kvs))∨∃ kvs,H p=some (.dT kvs)))∨(T="set"∧∃ S n,H p=some (.set S n))
 | _=>False
theorem tyV_is {pins:List (Addr × Obj)} {σ:St} {H:Hp} {s:Shared} {T:String} {x:V} {v:Value} (I:Inv X pins σ H s) (r:RelV x v) (ty:tyV X.K T x H) :
  s.TypeIs v T∧∀ a,v=.ref a→∃ ob,s.heap.get? a=some ob∧ob.dict=none:=by
 cases x with
 | str z =>
  obtain ⟨t,rfl⟩:=r
  cases (show T="str" from ty)
  exact ⟨typeIs_str s z t,fun _ e=>nomatch e⟩
 | int i =>
  obtain ⟨t,rfl⟩:=r
  cases (show T="int" from ty)
  exact ⟨typeIs_int s i t,fun _ e=>nomatch e⟩
 | ref p =>
  cases r
  rcases ty with ⟨rfl,xs,hq⟩ | ⟨rfl,o,hk,hc,hd⟩ | ⟨rfl,hk⟩ | ⟨rfl,S,n,hk⟩
  ·obtain ⟨its,_,pl,_⟩:=I.list hq
   refine ⟨pl.isList.typeIs,fun a e=>?_⟩
   cases e
   obtain ⟨o,n,e,c,hd,_⟩:=pl
   exact ⟨o,e,hd⟩
  ·refine ⟨⟨o,I.kIn p o hk,hc⟩,fun a e=>?_⟩
   cases e
   exact ⟨o,I.kIn _ o hk,hd⟩
  ·have z:∃ o,s.heap.get? p=some o∧o.ExactDict:=by
    rcases hk with ⟨kvs,hk⟩ | ⟨kvs,hk⟩
    ·obtain ⟨_,_,_,_,o,_,_,e,ex,_⟩:=I.hok p _ hk
     exact ⟨o,e,ex⟩
    ·obtain ⟨_,_,_,_,o,_,_,e,ex,_⟩:=I.hok p _ hk
     exact ⟨o,e,ex⟩
   obtain ⟨o,e,ex⟩:=z
   refine ⟨⟨o,e,ex.1⟩,fun a e2=>?_⟩
   cases e2
   exact ⟨o,e,ex.2.1⟩
  ·obtain ⟨o,_,_,_,e,ex,_⟩:=I.hok p _ hk
   refine ⟨⟨o,e,ex.1⟩,fun a e2=>?_⟩
   cases e2
   exact ⟨o,e,ex.2.1⟩
 | _=>exact False.elim ty
def tBM0 (K:PySem.W.Frag) (T:String) (r:V→List V→Hp→VK→Prop) (to:TE):TE:=fun σ H Q=>to σ H fun x H1=>tyV K T x H1∧r x [] H1 Q
def tBM (K:PySem.W.Frag) (T:String) (r:V→List V→Hp→VK→Prop) (to:TE) (t:TA):TE:=fun σ H Q=>to σ H fun x H1=>tyV K T x H1∧t σ H1 fun xs H2=>r x xs H2 Q
variable {o e:Expr} {es:List Expr} {to:TE} {t:TA} {name:Str} {apos cpos:Pos} {T id:String} {r:V→List V→Hp→VK→Prop}
theorem pe_bm0 (pa:PlainAttrs T) (slot:Slot T name id) (hty:typeOf (.builtin id)=pure (.type "method_descriptor")) (hm:MtR X id r) (ho:PE X o to)
  (hbase:attributeBase o name X.env (eval o X.env)=eval o X.env:=by rfl) (hline:(apos.endLine == cpos.line)=true:=by rfl):PE X (.Call (.Attribute o name apos) [] [] cpos) (tBM0 X.K T r to):=by
 intro pins s σ H Q I h
 refine wpAny_Call_method0_late hbase hline (thn (ho pins s σ H _ I h) fun v s1 ⟨x,H1,I1,r1,ty,q1⟩=>?_)
 obtain ⟨h1,h2⟩:=tyV_is I1 r1 ty
 exact ⟨T,id,pa,slot,hty,h1,h2,Calls.callWith_builtin rfl (PySem.evalArgs_none (hm pins s1 σ H1 x [] v [] Q I1 r1 .nil q1))⟩
theorem pe_bm (pa:PlainAttrs T) (slot:Slot T name id) (hty:typeOf (.builtin id)=pure (.type "method_descriptor")) (hm:MtR X id r) (ho:PE X o to) (ha:PA X (e :: es) t)
  (hbase:attributeBase o name X.env (eval o X.env)=eval o X.env:=by rfl)
  (hfew:((backTo cpos (starEach (e :: es) X.env)).all (fun x=>!x.1) && (backToKw cpos (keywordEach [] X.env)).all (fun x=>x.1.isSome)
   && decide ((e :: es).length + ([]:List Keyword).length + (if ([]:List Keyword).isEmpty then 0 else 1) < 30))=true:=by rfl)
  (hline:(apos.endLine == cpos.line)=true:=by rfl) (hs:starEach (e :: es) X.env=(false,eval e X.env) :: starEach es X.env:=by rfl) (hplain:(backTo cpos (starEach es X.env)).any (·.1)=false:=by rfl) :
  PE X (.Call (.Attribute o name apos) (e :: es) [] cpos) (tBM X.K T r to t):=by
 intro pins s σ H Q I h
 refine wpAny_Call_method_late hbase hfew hline rfl (thn (ho pins s σ H _ I h) fun v s1 ⟨x,H1,I1,r1,ty,q1⟩=>?_)
 obtain ⟨h1,h2⟩:=tyV_is I1 r1 ty
 refine ⟨T,id,pa,slot,hty,h1,h2,?_⟩
 have hA:=ha cpos pins s1 σ H1 _ I1 q1
 rw [hs] at hA ⊢
 refine Calls.callWith_builtin (by show (false || (backTo cpos (starEach es X.env)).any (·.1))=false;rw [hplain] <;> rfl) (Calls.evalArgs_plain ?_)
 exact thn hA fun us s2 ⟨vs,H2,I2,r2,q2⟩=>hm pins s2 σ H2 x vs v us Q I2 r1 r2 q2
end
end L2
namespace L2
open PySem PySem.Spec PyProof.Rows
def MtM (X:Cx) (id:String) (r:V→List V→Hp→VK→Prop):Prop :=
 ∀ (pins:List (Addr × Obj)) (s:Shared) (σ:St) (H:Hp) (x:V) (xs:List V) (v:Value) (us:List Value) (Q:VK),Inv X pins σ H s→RelV x v→Vals xs us→r x xs H Q→
  wpAny (model X.prog X.w) X.A (call (.builtin id) (v :: us)) (EP X pins σ Q) X.xe s
theorem Vals.one:∀ {x:V} {us:List Value},Vals [x] us→∃ u,us=[u]∧RelV x u
 | _,_,.cons r .nil=>⟨_,rfl,r⟩
theorem Vals.two:∀ {x y:V} {us:List Value},Vals [x,y] us→∃ u v,us=[u,v]∧RelV x u∧RelV y v
 | _,_,_,.cons r (.cons q .nil)=>⟨_,_,rfl,r,q⟩
section
variable {X:Cx} {pins:List (Addr × Obj)} {σ:St} {H:Hp} {s:Shared} {l b:Addr} {xs ys zs:List V}
theorem Inv.lset {its its':List Value} {n:Nat} {f:Array Value→Array Value} {t':Nat} (I:Inv X pins σ H s) (hH:H l=some (.lst xs))
  (e:s.heap.get? l=some { cls:=.type "list",data:=.seq its.toArray n }) (hf:f its.toArray=its'.toArray) (hv:Vals ys its') (hz:ys.length≤sizeLine) :
  Inv X pins σ (upd H l (.lst ys)) { s with heap:=s.heap.update l (Obj.mapSeq f),toks:=t' }:=by
 have q:=PySem.IsL.update e f
 rw [hf] at q
 refine I.write (x:=l) (e:=l) (by rw [hH];exact trivial) (.inl rfl) (fun b' u hb hu=>(Heap.get?_update_other s.heap (Obj.mapSeq f) (Ne.symm hb)).trans hu) ⟨_,q⟩ ?_
 exact ⟨hz,its',_,hv,q⟩
theorem Inv.lnew {its:List Value} {t':Nat} (I:Inv X pins σ H s) (hv:Vals ys its) (hz:ys.length≤sizeLine) :
  Inv X pins σ (upd H s.heap.objs.size (.lst ys)) { s with heap:=s.heap.push { cls:=.type "list",data:=.seq its.toArray },toks:=t' } :=
 I.laid (fun _ _ q=>Heap.get?_push_of_some _ q) (Nat.le_refl _) ⟨hz,its,0,hv,Heap.get?_push_size _ rfl⟩
theorem Inv.fresh (I:Inv X pins σ H s):H s.heap.objs.size=none:=I.hok.fresh (Nat.le_refl _)
theorem Inv.lstM (I:Inv X pins σ H s) (hH:H l=some (.lst xs)):xs.length≤sizeLine∧∃ (its:List Value) (n:Nat),Vals xs its∧xs.length=its.length∧s.heap.get? l=some { cls:=.type "list",data:=.seq its.toArray n }:=by
 obtain ⟨z,its,n,r,e⟩:=I.hok l _ hH
 exact ⟨z,its,n,r,r.length,e⟩
end
section
variable {X:Cx}
def rAppend:V→List V→Hp→VK→Prop:=fun x vs H Q=>∃ l xs y,x=.ref l∧vs=[y]∧H l=some (.lst xs)∧xs.length < sizeLine∧Q .non (upd H l (.lst (xs ++ [y])))
theorem J3c:MtM X "list.append" rAppend:=by
 intro pins s σ H x vs v us Q I rx rv h
 obtain ⟨l,xs,y,rfl,rfl,hH,hz,q⟩:=h
 cases rx
 obtain ⟨u,rfl,ru⟩:=rv.one
 obtain ⟨z,its,n,r,hl,e⟩:=I.lstM hH
 refine call_meets F.slot_list_append ⟨_,e,rfl⟩ F.entry_list_append (F.args_list_append_2 _ _) (PySem.list_append l its.toArray n u (by rw [List.size_toArray];omega)) ⟨e,?_⟩
 refine ⟨.non,_,I.lset (its':=its ++ [u]) hH e (by simp) (r.append (.cons ru .nil)) ?_,rfl,q⟩
 rw [List.length_append,List.length_singleton]
 omega
def rCat:R2:=fun x y H Q=>∃ l b xs zs,x=.ref l∧y=.ref b∧H l=some (.lst xs)∧H b=some (.lst zs)∧xs.length + zs.length≤sizeLine∧∀ p,H p=none→Q (.ref p) (upd H p (.lst (xs ++ zs)))
theorem op_cat:OpR X (binaryOp .Add) rCat:=by
 intro pins s σ H x y v u Q I rx ry h
 obtain ⟨l,b,xs,zs,rfl,rfl,hH,hB,hz,q⟩:=h
 cases rx
 cases ry
 obtain ⟨z,its,n,r,hl,e⟩:=I.lstM hH
 obtain ⟨z2,its2,n2,r2,hl2,e2⟩:=I.lstM hB
 refine PySem.P.add_list e e2 ?_ (by rw [List.size_toArray,List.size_toArray];omega)
 have ea:its.toArray ++ its2.toArray=(its ++ its2).toArray:=by simp
 rw [ea]
 exact ⟨.ref _,_,I.lnew (t':=s.toks) (r.append r2) (by rw [List.length_append];omega),rfl,q _ I.fresh⟩
end
section
variable {prog:Program} {w:World} {A:Around} {E:Value→Shared→Prop} {s:Shared}
set_option maxRecDepth 100000 in
end
end L2
namespace Att
open PySem PySem.W PySem.Calls PyProof.Rows
theorem J2u {P:Params} {h:Heap}:∀ (ns:List Int) (vs:List Value),WellAll P h vs (ns.map WData.int)→IntsAre vs ns:=by
 intro ns
 induction ns with
 | nil =>
  intro vs w
  rw [List.map_nil] at w
  cases w
  exact .nil
 | cons n ns ih =>
  intro vs w
  rw [List.map_cons] at w
  cases w with
  | cons a b =>
   cases a
   exact .cons _ _ (ih _ b)
theorem script_of {l:OpenLaw} {n:Nat} (hn:l.most=some n) {P:Params} {h:Heap} {args:List WData} {vals:List Value}
  (hpre:l.row.toRowW.claim.pre args=true) (hwl:WellAll P h vals args) :
  ∃ a vs ns,vals=[Value.ref a]∧args=[WData.list (ns.map WData.int)]∧h.get? a=some { cls:=.type "list",data:=.seq vs.toArray }∧IntsAre vs ns∧ns.length≤n:=by
 have hsh:WShape.hasAll [] args [.list .int]=true:=(pre_splitW hpre).1
 have hc:l.pre.holds [] { args:=args }=true:=(pre_splitW hpre).2
 obtain ⟨d,r,rfl,h1,h2⟩:=hasAllW_cons hsh
 obtain rfl:=hasAllW_nil h2
 obtain ⟨xs,rfl,h3⟩:=hasW_list h1
 obtain ⟨ns,rfl⟩:=items_int h3
 have hlen:ns.length≤n:=by
  unfold OpenLaw.pre at hc
  have h4:(WTm.not (.lt (.lit (.int (n:Int))) (.len (.arg 0)))).holds [] { args:=[.list (ns.map .int)] }=true:=by
   have h4:=(holds_andW hc).1
   rw [hn] at h4
   exact h4
  have h5:=condW_of h4 (w_not (w_lt w_lit (w_len_list (w_arg rfl))))
  rw [List.length_map] at h5
  refine Nat.le_of_not_lt fun q=>?_
  have q':(n:Int) < ((ns.length:Nat):Int):=by omega
  first
   | (rw [decide_eq_true q'] at h5;exact absurd h5 (by decide))
   | (simp at h5;omega)
 cases hwl with
 | cons w1 w2 =>
  cases w2
  cases w1 with
  | list ho hall=>exact ⟨_,_,ns,rfl,rfl,ho,J2u ns _ hall,hlen⟩
theorem post_true (l:OpenLaw) (args:List WData):l.row.toRowW.claim.post args (.bool true) args=true :=
 postW_of (r:=l.row.toRowW) (X:=(true == true))
  (show WShape.has [] (.bool true) .bool=true by first | rfl | decide | simp [WShape.has,WShape.arms,WShape.armsAll])
  (show (WTm.eq .res (.lit (.bool true))).value [] { args:=args,res:=some (.bool true),after:=args }=some (.bool (true == true)) from w_eq_bool (w_res rfl) w_lit) rfl
theorem attach_call {l:OpenLaw} {n:Nat} {q:Program} {loose:List Str} {XP:(Str→Option Value)→Heap→Prop} {YP:World→Heap→Prop} {d:DefRec}
  (hn:l.most=some n) (hdf:d.params.defaults=[])
  (call:∀ (w:World) (s₀ s₁:Shared) (mg mb:Str→Option Value) (fa:Addr) (o:Obj) (pm cd doc:Value) (a:Addr) (vs:List Value) (ns:List Int),
   Ground q loose [] XP w s₀ mg mb s₁.heap→YP w s₁.heap→
   s₁.heap.get? fa=some o→o.data=.func (docDef d.name d.params d.body d.scope pm cd doc)→s₁.heap.CodeRec cd d.name→mg d.name=some (.ref fa)→
   s₁.heap.get? a=some { cls:=.type "list",data:=.seq vs.toArray }→IntsAre vs ns→ns.length≤n→s₁.gens=#[]→
   codeAny (model l.prog w) callerA (.call (.ref fa) ⟨[.ref a],[]⟩) (fun r s'=>r=.ok (.ret (.bool true))∧OldK s₁.heap s'.heap∧s'.os=s₁.os∧AllBare s'.gens) s₁) :
  WalkO q loose XP YP l.row.toRowW d [] (fun f vs=>PySem.call f vs):=by
 intro w s₀ s₁ mg mb G Y fa o pm cd doc dV kV ho hd hcd hD hmg hg args vals as hpre hlay hrd hwl hlo
 obtain rfl:dV=.none:=Dflts.none hD hdf
 obtain rfl:kV=.none:=Dflts.noKw hD
 obtain ⟨a,vs,ns,rfl,rfl,hobj,hints,hlen⟩:=script_of hn hpre hwl
 refine enter_call (codeAny_mono (call w s₀ s₁ mg mb fa o pm cd doc a vs ns G Y ho (fd_plain hd) hcd hmg hobj hints hlen hg) fun r s' hq=>?_)
 obtain ⟨rfl,h2,h3,h4⟩:=hq
 exact ⟨.inl ⟨.bool true,.bool true,[],rfl,fun _=>rfl,.bool true,post_true l _,fun _=>⟨List.Pairwise.nil,fun _ hm=>(nomatch hm)⟩⟩,h2,h3,h4⟩
end Att
namespace L2
open PySem PySem.Spec PyProof.Rows
theorem vals_ints:∀ {vs:List Value} {ns:List Int},IntsAre vs ns→Vals (ns.map V.int) vs
 | _,_,.nil=>.nil
 | _,_,.cons n t h=>.cons ⟨t,rfl⟩ (vals_ints h)
def Only (H:Hp):Prop:=∀ b,H b=none∨∃ o xs,H b=some (.frz o (.lst xs))
theorem law_call {P:Program} {w:World} {K:PySem.W.Frag} {mg mb:Str→Option Value} {CX:CXT} {k:Nat} {fa a:Addr} {fd:FuncData} {x:Str} {sp:Sp} {s₁:Shared} {vs:List Value} {ns:List Int}
  (KX:K.In s₁.heap) (hns:s₁.heap.Ns mainGlobals mg) (hb:s₁.heap.Ns builtinsNs mb) (hbb:∀ x:Str,x≠"__name__"→mb x=bootBuiltins x) (hlim:s₁.heap.NoLimit) (hg:s₁.gens=#[])
  (ha:s₁.heap.get? a=some { cls:=.type "list",data:=.seq vs.toArray }) (hi:IntsAre vs ns) (hl:ns.length≤sizeLine) (hr:Room k callerA)
  (F:∀ base:Heap,K.In base→base.Ns mainGlobals mg→FnOk P w K mg base CX k fa fd [x] sp) (hbind:∀ (s:Shared) (u:Value),BindsTo s fd ⟨[u],[]⟩ [(x,u)])
  (hsp:∀ H:Hp,Only H→SqL K H a (ns.map V.int)→sp [.ref a] H (fun v _=>v=.bl true) fun _ _ _=>False)
  (hCX:∀ H e s',CX [] H s₁ (fun _ _ _=>False) e s'→False) :
  codeAny (model P w) callerA (.call (.ref fa) ⟨[.ref a],[]⟩) (fun r s'=>r=.ok (.ret (.bool true))∧OldK s₁.heap s'.heap∧s'.os=s₁.os∧AllBare s'.gens) s₁:=by
 have rv:=vals_ints hi
 have lenV:=hi.length
 have core:∀ H:Hp,Only H→SqL K H a (ns.map V.int)→HOk P w H s₁.heap→(∀ b,H b≠none→b=a)→(H a≠none→K.lookup a=none)→
   codeAny (model P w) callerA (.call (.ref fa) ⟨[.ref a],[]⟩) (fun r s'=>r=.ok (.ret (.bool true))∧OldK s₁.heap s'.heap∧s'.os=s₁.os∧AllBare s'.gens) s₁:=by
  intro H hO hS hok hA hK
  have base_of:∀ {b:Addr} {o:Obj},s₁.heap.get? b=some o→H b=none→(hidT s₁.heap H).get? b=some o:=fun e n=>hidT_get e n
  have noA:∀ {b:Addr} {o:Obj} {es:Array DictEntry} {ep:Nat},s₁.heap.get? b=some o→o.data=.dict es ep→H b=none:=fun {b o es ep} e d=>by
   cases q:H b with
   | none=>rfl
   | some u =>
    have e':b=a:=hA b (by rw [q];simp)
    subst e'
    rw [ha] at e;cases e
    have d':Data.seq vs.toArray _=Data.dict es ep:=d
    cases d'
  have nsK:∀ {b:Addr} {m:Str→Option Value},s₁.heap.Ns b m→(hidT s₁.heap H).Ns b m:=fun {b m} ⟨o,es,ep,e,d,r⟩=>⟨o,es,ep,base_of e (noA e d),d,r⟩
  have hKb:K.In (hidT s₁.heap H):=fun b o e=>base_of (KX b o e) (by
   cases q:H b with
   | none=>rfl
   | some u =>
    have e':b=a:=hA b (by rw [q];simp)
    subst e'
    rw [hK (by rw [q];simp)] at e;cases e)
  have hM:Mod K mg (hidT s₁.heap H):=⟨hKb,nsK hns,⟨mb,nsK hb,hbb⟩,let ⟨mc,h1,h2⟩:=hlim;⟨mc,nsK h1,h2⟩⟩
  have e0:Env0 P w K mg (hidT s₁.heap H) callerA [] s₁ H:=⟨rfl,hM,fun b o e=>of_hidT e,Nat.le_of_eq (hidT_size _ _),trivial,fun b hb=>absurd (show b∈([]:List Addr) from hb) (by simp),hok,.of_eq hg⟩
  refine codeAny_mono ((F _ hKb (nsK hns)).run callerA [] s₁ H ⟨[.ref a],[]⟩ [.ref a] [.ref a] _ _ hr e0 (hbind s₁ (.ref a)) (.cons rfl .nil) (hsp H hO hS)) fun r s' h=>?_
  cases r with
  | error e=>exact (hCX H e s' h).elim
  | ok fl =>
   cases fl with
   | next=>exact False.elim h
   | brk=>exact False.elim h
   | cont=>exact False.elim h
   | ret u =>
    obtain ⟨v,H',os,bare,un,hok',r',q⟩:=h
    have q':v=.bl true:=q
    subst q'
    obtain rfl:u=Value.bool true:=r'
    refine ⟨rfl,OldK.of_keep fun b o e=>?_,os,bare⟩
    cases q:H b with
    | none=>exact un.keep b o e q (by intro z;exact absurd (show b∈([]:List Addr) from z) (by simp)) (by simp)
    | some u =>
     rcases hO b with z | ⟨ob,xs,z⟩
     ·rw [q] at z;cases z
     ·have z2:=un.frzs b ob _ z
      obtain ⟨e1,_⟩:=hok b _ z
      obtain ⟨e2,_⟩:=hok' b _ z2
      rw [e] at e1;cases e1
      exact e2
 cases hk:K.lookup a with
 | some o =>
  have e:=KX a o hk
  rw [ha] at e
  cases e
  refine core (fun _=>none) (fun _=>.inl rfl) (.inr ⟨_,vs.toArray,_,hk,rfl,rfl,rfl,by rw [List.size_toArray,lenV];exact hl,by simpa using rv⟩) (fun b u z=>by have z':(none:Option HO)=some u:=z;cases z') (fun b z=>absurd rfl z) fun z=>absurd rfl z
 | none =>
  refine core (fun b=>if b=a then some (.frz { cls:=.type "list",data:=.seq vs.toArray } (.lst (ns.map V.int))) else none) (fun b=>?_) (.inl (.inr ⟨{ cls:=.type "list",data:=.seq vs.toArray },if_pos rfl⟩)) (fun b u z=>?_) (fun b z=>?_) fun _=>hk
  ·by_cases hb:b=a
   ·exact .inr ⟨_,_,if_pos hb⟩
   ·exact .inl (if_neg hb)
  ·by_cases hb:b=a
   ·have z':=(if_pos hb).symm.trans z
    cases z'
    subst hb
    exact ⟨ha,by rw [List.length_map];exact hl,vs,_,rv,ha⟩
   ·have z':=(if_neg hb).symm.trans z
    cases z'
  ·by_cases hb:b=a
   ·exact hb
   ·exact absurd (if_neg hb) z
end L2
namespace L2
open PySem PySem.Spec PyProof.Rows
theorem walk_of {l:PySem.W.OpenLaw} {n k:Nat} {q:Program} {loose:List Str} {XP:(Str→Option Value)→Heap→Prop} {YP:World→Heap→Prop} {d:DefRec} {K:Params→PySem.W.Frag} {CX:World→CXT} {sp:World→Sp} {x:Str}
  (hn:l.most=some n) (hn2:n≤sizeLine) (hdf:d.params.defaults=[]) (hr:Room k callerA)
  (hY:∀ (w:World) (h:Heap),YP w h→(K w.params).In h)
  (F:∀ (w:World) (mg:Str→Option Value) (fa:Addr) (h:Heap),(K w.params).In h→h.Ns mainGlobals mg→mg d.name=some (.ref fa)→
   ∃ fd:FuncData,(∀ (s:Shared) (u:Value),BindsTo s fd ⟨[u],[]⟩ [(x,u)])∧
    ∀ base:Heap,(K w.params).In base→base.Ns mainGlobals mg→FnOk l.prog w (K w.params) mg base (CX w) k fa fd [x] (sp w))
  (hsp:∀ (w:World) (H:Hp) (a:Addr) (ns:List Int),ns.length≤n→Only H→SqL (K w.params) H a (ns.map V.int)→sp w [.ref a] H (fun v _=>v=.bl true) fun _ _ _=>False)
  (hCX:∀ (w:World) (H:Hp) (s:Shared) (e:Value) (s':Shared),CX w [] H s (fun _ _ _=>False) e s'→False) :
  PySem.W.WalkO q loose XP YP l.row.toRowW d [] (fun f vs=>PySem.call f vs):=by
 refine Att.attach_call hn hdf fun w s₀ s₁ mg mb fa o pm cd doc a vs ns G Y ho hd hcd hmg hobj hints hlen hg=>?_
 have KX:=hY w _ Y
 obtain ⟨fd,hb,hF⟩:=F w mg fa _ KX G.T.g hmg
 exact law_call KX G.T.g G.T.b G.T.builtins G.T.nolimit hg hobj hints (Nat.le_trans hlen hn2) hr hF hb (fun H hO hS=>hsp w H a ns hlen hO hS) fun H e s'=>hCX w H s₁ e s'
end L2
namespace L2
open PySem PySem.Spec PyProof.Rows
def inClass (s:Stmt) (j:Nat):Stmt:=match s with
 | .ClassDef _ _ _ body _ _ _ _ _ _ _=>body.getD j (.Pass ⟨0,0,0,0⟩)
 | _=>.Pass ⟨0,0,0,0⟩
def Js (s:Stmt):Arguments:=match s with
 | .FunctionDef _ a _ _ _ _ _ _ _ _=>a
 | _=>{ posonlyargs:=[],args:=[],vararg:=none,kwonlyargs:=[],kw_defaults:=[],kwarg:=none,defaults:=[] }
def Jl (s:Stmt):List Stmt:=match s with
 | .FunctionDef _ _ b _ _ _ _ _ _ _=>b
 | _=>[]
def J7 (s:Stmt):Scope:=match s with
 | .FunctionDef _ _ _ _ _ _ sc _ _ _=>sc
 | _=>{ kind:=.function,names:=[],isGenerator:=false,isCoroutine:=false }
abbrev CX0:CXT:=fun _ _ _ _ _ _=>False
abbrev E0:XK:=fun _ _ _=>False
theorem pass0 {X:Cx}:Passes CX0 X E0:=fun _ _ _ _ _ _ _ h=>h.elim
structure Fun (K:PySem.W.Frag) (x qual:Str) (st:Stmt) (f:Addr) (fd:FuncData):Prop where
 ex:∃ (oc:Value) (od:Option Addr) (kV doc pm:Value) (an:Option Addr) (cdv ct:Value) (osl:Array (Option Value)),
  fd=PySem.W.fnOf x qual (Js st) (Jl st) (J7 st) .none kV doc pm an cdv ct∧K.lookup f=some ⟨oc,od,.func fd,osl⟩∧PySem.W.codeIn K cdv qual=true
 kp:PySem.W.keepIn K (.ref f)=true
section
variable {P:Program} {w:World} {K:PySem.W.Frag} {mg:Str→Option Value} {base:Heap}
theorem Fun.ok {x qual:Str} {st:Stmt} {f:Addr} {fd:FuncData} {N ps:List Str} {k:Nat} {sp:Sp} (F:Fun K x qual st f fd) (S:FnScope N ps (J7 st)) (len:∀ vs H Q E,sp vs H Q E→vs.length=ps.length)
  (hbody:∀ (cdv:Value) (A:Around) (outer:List Env) (s:Shared) (H:Hp) (vs:List V) (Q:VK) (E:XK),Room k (A.deeper (envOfC qual (J7 st) s.heap.objs.size f cdv))→sp vs H Q E→
   ∃ t,PSs (cxOf CX0 P w K mg base N qual (J7 st) f cdv A outer s H E).nox (Jl st) t∧t { nx:=fun _ H'=>Q .non H',rt:=Q } (start N vs) H):FnOk P w K mg base CX0 (k + 1) f fd ps sp:=by
 obtain ⟨oc,od,kV,doc,pm,an,cdv,ct,osl,rfl,lk,hcd⟩:=F.ex
 refine fn_of lk hcd S len fun A outer s H vs Q E hr hsp=>?_
 obtain ⟨t,h,q⟩:=hbody cdv A outer s H vs Q E hr hsp
 exact ⟨t,h.nox,q⟩
theorem Fun.binds {x qual:Str} {st:Stmt} {f:Addr} {fd:FuncData} {ps:List Str} (F:Fun K x qual st f fd)
  (h:∀ (kV doc pm:Value) (an:Option Addr) (cdv ct:Value) (us:List Value),us.length=ps.length→bindArgs (PySem.W.fnOf x qual (Js st) (Jl st) (J7 st) .none kV doc pm an cdv ct) ⟨us,[]⟩=pure (ps.zip us)):Binds K fd ps []:=by
 obtain ⟨oc,od,kV,doc,pm,an,cdv,ct,osl,rfl,lk,hcd⟩:=F.ex
 exact .all (h kV doc pm an cdv ct)
theorem J1g {x qual:Str} {st:Stmt} {f:Addr} {oc:Value} {od an:Option Addr} {osl:Array (Option Value)} {kV doc pm cdv ct:Value} (l:K.lookup f=some ⟨oc,od,.func (PySem.W.fnOf x qual (Js st) (Jl st) (J7 st) .none kV doc pm an cdv ct),osl⟩)
  (c:PySem.W.codeIn K cdv qual=true) (k:PySem.W.keepIn K (.ref f)=true):Fun K x qual st f (PySem.W.fnOf x qual (Js st) (Jl st) (J7 st) .none kV doc pm an cdv ct):=⟨⟨oc,od,kV,doc,pm,an,cdv,ct,osl,rfl,l,c⟩,k⟩
end
theorem J34 {n:Nat} (h:n≤1000):n < sizeLine:=Nat.lt_of_le_of_lt h (by decide)
section
variable {X:Cx}
theorem pv (i:Nat) {x:Str} {pos:Pos} (hN:X.N[i]?=some x:=by rfl) (hv:Vis X.env.scope x:=by first | exact Or.inl rfl | exact Or.inr (Or.inl rfl) | exact Or.inr (Or.inr rfl)) (hd:(x == ("__debug__":Str))=false:=by decide)
  (hcd:(x == ("__classdict__":Str))=false:=by decide):PE X (.Name x pos) (tVar i):=pe_var hN hv hd hcd
end
theorem iteF {A B:Prop} (h:B):if false=true then A else B:=by
 rw [if_neg Bool.false_ne_true]
 exact h
theorem iteT {A B:Prop} (h:A):if true=true then A else B:=by
 rw [if_pos rfl]
 exact h
theorem iteNS {c A B:Prop} [Decidable c] (hc:c) (h:B):if (!decide c)=true then A else B:=by
 rw [decide_eq_true hc]
 exact iteF h
def Same (H H':Hp):Prop:=∀ b o,H b=some o→H' b=some o
theorem Same.refl (H:Hp):Same H H:=fun _ _ h=>h
theorem Same.trans {H H1 H2:Hp} (a:Same H H1) (b:Same H1 H2):Same H H2:=fun c o h=>b c o (a c o h)
theorem Same.free {H H':Hp} (e:Same H H') {l:Addr} (h:H' l=Option.none):H l=Option.none:=by
 cases q:H l with
 | none=>rfl
 | some o =>
  rw [e l o q] at h
  cases h
theorem Same.seq {K:PySem.W.Frag} {H H':Hp} {a:Addr} {xs:List V} (e:Same H H') (h:SqL K H a xs):SqL K H' a xs:=by
 rcases h with (h | ⟨o,h⟩) | h
 ·exact .inl (.inl (e _ _ h))
 ·exact .inl (.inr ⟨o,e _ _ h⟩)
 ·exact .inr h
end L2
namespace L2
open PySem PySem.Spec PyProof.Rows
theorem J1u {prog:Program} {w:World} {A:Around} {R:Result→Shared→Prop} {s:Shared} {elt target iter:Expr} {scope:Scope} {pos:Pos} {it acc:Value} {env:Env} (J:Nat→Shared→Prop)
  (turn:∀ n s,J n s→wpAny (model prog w) A (pyNext it) (fun r s₁=>match r with
   | none=>R (.ok .next) s₁
   | some v=>wpAny (model prog w) A (letOwnedTupleGo target it v) (fun _ s₁'=>wpAny (model prog w) A (assign target env v) (fun _ s₂=>wpAny (model prog w) A (eval elt env) (fun x s₃ =>
     wpAny (model prog w) A (call (.builtin "list.append") [acc,x]) (fun _ s₄=>∃ m,m < n∧J m s₄) (fun _ _=>False) s₃) (fun _ _=>False) s₂) (fun _ _=>False) s₁') (fun _ _=>False) s₁) (fun _ _=>False) s)
  (n:Nat) (h:J n s):codeAny (model prog w) A (.compLoop (.ListComp elt [⟨target,iter,[],0⟩] scope pos) 0 it acc env) R s:=by
 refine codeAny_loop rfl J (fun n s hI=>?_) n h
 show wpAny _ _ ((compTurn (.ListComp elt [⟨target,iter,[],0⟩] scope pos) 0 it acc env).onRaise (fun x=>do noteFrame x env;theTreesLotGoes x)) _ _ s
 refine wpAny_noted ?_
 rw [compTurn_list1]
 refine wpAny_bind (wpAny_standAt (wpAny_bind (wpAny_mono (turn n s hI) (fun r s₁ h₁=>?_) fun _ _ h'=>False.elim h')))
 cases r with
 | none=>exact wpAny_pure h₁
 | some v =>
  refine wpAny_bind (wpAny_mono h₁ (fun _ s₁' h₁'=>?_) fun _ _ h'=>False.elim h')
  exact wpAny_bind (wpAny_mono h₁' (fun _ s₂ h₂=>wpAny_bind (wpAny_bind (wpAny_mono h₂ (fun x s₃ h₃=>wpAny_bind (wpAny_mono h₃
   (fun _ s₄ h₄=>wpAny_pure (wpAny_pure ⟨rfl,h₄⟩)) fun _ _ h'=>False.elim h')) fun _ _ h'=>False.elim h'))) fun _ _ h'=>False.elim h')
abbrev Cx.block (X:Cx) (N:List Str) (scope:Scope) (cl:List (Str × Addr)) (C:Addr) (fp:List Addr) (s:Shared) (H:Hp):Cx :=
 { X with N:=N,s₀:=s,H₀:=H,env:=compEnvC scope cl C X.env,outer:=X.stack,stack:=X.stack,ex:=fp,fn:=fun _=>false,pn:=[],xe:=fun _ _=>False }
theorem J2w {env:Env}:∀ {names:List (Str × NameKind)} {x:Str} {k:NameKind},(names.map fun (n,k)=>if (k == NameKind.free && env.scope.kind == .function && env.kindOf n == some .cell) then (n,NameKind.cell) else (n,k)).lookup x=some k→
  k=.cell∨k=.free→(∀ p∈names,p.2≠.cell)→∃ p∈names,p.1=x∧p.2=.free
 | [],_,_,h,_,_=>by simp at h
 | (n,q) :: r,x,k,h,hk,hc=>by
  have ih:=@J2w env r x k
  have hq:q≠.cell:=hc (n,q) List.mem_cons_self
  rw [List.map_cons] at h
  by_cases hx:x=n
  ·subst hx
   by_cases e:(q == NameKind.free && env.scope.kind == .function && env.kindOf x == some .cell)=true
   ·simp only [Bool.and_eq_true] at e
    exact ⟨(x,q),List.mem_cons_self,rfl,by simpa using e.1.1⟩
   ·have e2:List.lookup x ((x,q) :: List.map (fun (n,k)=>if (k == NameKind.free && env.scope.kind == .function && env.kindOf n == some .cell) then (n,NameKind.cell) else (n,k)) r)=some k:=by
     simpa only [e,if_false,Bool.false_eq_true] using h
    rw [List.lookup_cons_self] at e2
    cases e2
    rcases hk with hk | hk
    ·exact absurd hk hq
    ·exact ⟨(x,q),List.mem_cons_self,rfl,hk⟩
  ·have hb:(x == n)=false:=by simpa using hx
   have h':(List.map (fun (n,k)=>if (k == NameKind.free && env.scope.kind == .function && env.kindOf n == some .cell) then (n,NameKind.cell) else (n,k)) r).lookup x=some k:=by
    by_cases e:(q == NameKind.free && env.scope.kind == .function && env.kindOf n == some .cell)=true
    ·simp only [e,if_true,List.lookup_cons,hb] at h;exact h
    ·simp only [e,if_false,Bool.false_eq_true,List.lookup_cons,hb] at h;exact h
   obtain ⟨p,hp,e1,e2⟩:=ih h' hk fun p hp=>hc p (List.mem_cons_of_mem _ hp)
   exact ⟨p,List.mem_cons_of_mem _ hp,e1,e2⟩
def capv (σ:St) (js:List Nat):St:=js.map fun j=>(σ[j]?).join
theorem capv_get {σ:St} {js:List Nat} {k:Nat} {v:V} (h:(capv σ js)[k]?=some (some v)):∃ j,js[k]?=some j∧σ[j]?=some (some v):=by
 unfold capv at h
 rw [List.getElem?_map] at h
 cases e:js[k]? with
 | none=>rw [e] at h;cases h
 | some j =>
  rw [e] at h
  refine ⟨j,rfl,?_⟩
  cases e2:σ[j]? with
  | none=>rw [Option.map_some,e2] at h;cases h
  | some o=>rw [Option.map_some,e2] at h;exact congrArg some (Option.some.inj h)
def tComp (wi:TI) (te:TE) (js:List Nat) (i:Nat):TS:=fun D σ H=>wi σ H fun J H1=>∃ (lo:Int) (n:Nat) (f:Nat→V),J=Itr lo n∧n≤1000∧
 (∀ (d:Addr) (H2:Hp) (k:Nat),H1 d=none→k < n→H2=upd H1 d (.lst ((List.range k).map f))→te (some (.int (lo + k)) :: capv σ js) H2 fun v H3=>H3=H2∧v=f k)∧
 ∀ d,H1 d=none→D.nx (σ.set i (some (.ref d))) (upd H1 d (.lst ((List.range n).map f)))
section
variable {X:Cx} {elt iter:Expr} {x y:Str} {px py:Pos} {scope:Scope} {cl:List (Str × Addr)} {pos spos:Pos} {wi:TI} {te:TE} {caps:List Str} {js:List Nat} {i:Nat}
theorem J3h {pins:List (Addr × Obj)} {σ:St} {H:Hp} {s:Shared} {C:Addr} {fp:List Addr} (I:Inv X pins σ H s) (hC:s.heap.objs.size≤C) (f2:∀ b∈fp,FpOk X pins H b) (fl:∀ b∈fp,b < s.heap.objs.size)
  (hkind:scope.kind=.function) (hcell:∀ p∈scope.names,p.2≠.cell) (hsub:∀ p∈cl,X.env.cells.lookup p.1=some p.2) (hhas:∀ p∈scope.names,p.2=.free→∃ c,cl.lookup p.1=some c) :
  (X.block (x :: caps) scope cl C fp s H).Ok where
 mod:=I.ok.mod
 kind:=hkind
 glob:=I.ok.glob
 blt:=I.ok.blt
 above:=hC
 inj:=fun a b c h1 h2=>I.ok.inj a b c (hsub _ (PySem.mem_of_lookup h1)) (hsub _ (PySem.mem_of_lookup h2))
 has:=fun a h=>by
  have h':(∃ k,(relabel scope X.env).names.lookup a=some k∧(k=.cell∨k=.free)):=by
   rcases h with h | h
   ·exact ⟨_,h,.inl rfl⟩
   ·exact ⟨_,h,.inr rfl⟩
  obtain ⟨k,h1,hk⟩:=h'
  obtain ⟨p,hp,e1,e2⟩:=J2w h1 hk hcell
  rw [← e1]
  exact hhas p hp e2
 cab:=fun _ _ h=>nomatch h
 hd:=I.ok.hd
 frames:=I.ok.frames
 stk:=.inl rfl
 exf:=fun b hb=>⟨Nat.ne_of_lt (Nat.lt_of_lt_of_le (fl b hb) hC),fun a c e=>(f2 b hb).2.2.2.2.1 a c (hsub _ (PySem.mem_of_lookup e))⟩
 bs:=I.bs
 bsz:=Nat.le_trans I.ok.bsz I.sz
 noex:=fun b o e hb=>by
  rcases (f2 b hb).2.2.2.1 with z | z
  ·exact I.ok.noex b o e z
  ·exact absurd (Nat.lt_of_lt_of_le (Heap.lt_size e) (Nat.le_trans I.ok.bsz z)) (Nat.lt_irrefl _)
 exfs:=fun b hb z=>by
  rcases List.mem_cons.mp (I.stkSub b z) with e | e
  ·exact (f2 b hb).2.1 e
  ·exact (f2 b hb).2.2.1 e
 funs:=I.stack
 frf:=I.stkFree
theorem ps_comp (hN:X.N.Nodup) (hi:X.N[i]?=some y) (hy:Loc X.env.scope y) (hc:X.calm=true) (hp:PI X (.Name x px) iter wi)
  (he:∀ (C:Addr) (fp:List Addr) (s:Shared) (H:Hp),PE (X.block (x :: caps) scope cl C fp s H) elt te)
  (hcell:∀ p∈scope.names,p.2≠.cell) (hnames:∀ p∈scope.names,p.2=.local→scope.names.lookup p.1=some .local) (hnd:(x :: caps).Nodup)
  (hsub:∀ p∈cl,X.env.cells.lookup p.1=some p.2) (hhas:∀ p∈scope.names,p.2=.free→∃ c,cl.lookup p.1=some c) (hlen:caps.length=js.length)
  (hcaps:∀ (k:Nat) (c:Str),caps[k]?=some c→∃ (j:Nat) (a:Addr),js[k]?=some j∧X.N[j]?=some c∧X.env.scope.names.lookup c=some .cell∧cl.lookup c=some a∧(relabel scope X.env).names.lookup c=some .cell)
  (hf:X.fn y=true∨X.env.scope.names.lookup y=some .local:=by first | exact .inl rfl | exact .inr rfl | assumption)
  (hsw:swapsWith (.ListComp elt [⟨.Name x px,iter,[],0⟩] scope pos) (some (.Name y py)) spos.line X.env=pure true:=by rfl) (hclos:closureFor scope X.env=pure cl:=by rfl)
  (hkind:scope.kind=.function:=by rfl) (hx:scope.names.lookup x=some .local:=by rfl) (hs:∀ v,foldedSetIterable iter X.env v=pure v:=by intro _;rfl) :
  PS X (.Assign [.Name y py] (.ListComp elt [⟨.Name x px,iter,[],0⟩] scope pos) spos) (tComp wi te js i):=by
 intro pins s σ H D I h
 rw [exec_Assign_Name_used _ _ _ _ hsw]
 refine wpAny_bind (wpAny_standAt (wpAny_bind ?_))
 show wpAny _ X.A (do let _ ← comprehension (.ListComp elt [⟨.Name x px,iter,[],0⟩] scope pos) scope X.env _ (newList []) false (eval iter X.env) (some (assign (.Name y py) X.env))) _ _ s
 refine wpAny_bind (wpAny_mono (wpAny_comprehension_free (cl:=cl) (use:=some (assign (.Name y py) X.env)) (Q:=fun _ s'=>SP X pins D .next s') rfl hs hclos hkind hnames
  (thn (hp pins s σ H _ I h) fun v s1 h1=>thn h1 fun itv s2 h2=>?_)) (fun _ s' hq=>wpAny_pure (wpAny_pure hq)) fun _ _ e=>e)
 obtain ⟨it,fp,tn,J,H2,e,I2,T,st2,f2,lo,n,f,rfl,hn,hel,hfin⟩:=h2
 subst e
 refine wpAny_newObj_type (wpAny_newFunctionEnv hcell (by intro y hy;simp at hy) (fun h₁ hns₁ hsb₁=>?_) hkind)
 dsimp only at hns₁ hsb₁ ⊢
 generalize hH2:s2.heap.push { cls:=.type "list",dict:=none,data:=.seq ([]:List Value).toArray }=G at hns₁ hsb₁ ⊢
 have hC:G.objs.size=s2.heap.objs.size + 1:=by rw [← hH2,Heap.size_push]
 have hDC:s2.heap.objs.size≠G.objs.size:=by rw [hC];exact Nat.ne_of_lt (Nat.lt_succ_self _)
 have hCle:s2.heap.objs.size≤G.objs.size:=by rw [hC];exact Nat.le_succ _
 have old:∀ b o,s2.heap.get? b=some o→h₁.get? b=some o:=fun b o e=>hsb₁.extBut b o (by rw [hC];exact Nat.ne_of_lt (Nat.lt_succ_of_lt (Heap.lt_size e))) (Heap.get?_push_of_some _ (hH2 ▸ Heap.get?_push_of_some _ e))
 have hacc:h₁.get? s2.heap.objs.size=some { cls:=.type "list",dict:=none,data:=.seq ([]:List Value).toArray }:=hsb₁.extBut _ _ hDC (Heap.get?_push_of_some _ (hH2 ▸ Heap.get?_push_size _ rfl))
 have hfr:H2 s2.heap.objs.size=none:=I2.hok.fresh (Nat.le_refl _)
 have fl:∀ b∈fp,b < s2.heap.objs.size:=fun b hb=>by
  obtain ⟨o,e,_⟩:=T.obj _ _ st2 b hb
  exact Heap.lt_size e
 have hDf:s2.heap.objs.size ∉ fp:=fun hm=>Nat.lt_irrefl _ (fl _ hm)
 have hok1:HOk X.prog X.w (upd H2 s2.heap.objs.size (.lst [])) h₁:=I2.hok.laid old (Nat.le_refl _) ⟨Nat.zero_le _,[],0,.nil,hacc⟩
 have IY0:∀ tk,Inv (X.block (x :: caps) scope cl G.objs.size fp s2 H2) [] (none :: capv σ js) (upd H2 s2.heap.objs.size (.lst [])) { s2 with heap:=h₁,toks:=tk }:=fun tk=>by
  refine ⟨J3h I2 hCle f2 fl hkind hcell hsub hhas,rfl,I2.bare,Un.laid old (Nat.le_refl _) hfr,⟨_,hns₁,fun k z v e1 e2 e3=>?_⟩,fun z c e=>?_,?_,fun z c e=>?_,fun p hp=>absurd hp (by simp),hok1,?_⟩
  ·cases k with
   | zero=>simp at e2
   | succ k =>
    have e1':caps[k]?=some z:=by simpa using e1
    have e2':(capv σ js)[k]?=some (some v):=by simpa using e2
    obtain ⟨j,a,q1,q2,q3,q4,q5⟩:=hcaps k z e1'
    obtain ⟨j',r1,r2⟩:=capv_get e2'
    rw [q1] at r1;cases r1
    obtain ⟨m,hm,hl⟩:=I2.loc
    obtain ⟨u,ru,lu⟩:=hl j z v q2 r2 (.inr (.inl q3))
    refine ⟨u,ru,.inr ⟨.inl q5,a,q4,?_⟩⟩
    rcases lu with ⟨k1,_⟩ | ⟨_,c,ec,o,ho,hd⟩
    ·have k1':X.env.scope.names.lookup z=some .local:=k1
     rw [q3] at k1';cases k1'
    ·have:=hsub _ (PySem.mem_of_lookup q4)
     rw [ec] at this;cases this
     exact ⟨o,old _ _ ho,hd⟩
  ·obtain ⟨v,o,ho,hd⟩:=I2.cell z c (hsub _ (PySem.mem_of_lookup e))
   exact ⟨v,o,old _ _ ho,hd⟩
  ·show upd H2 s2.heap.objs.size (.lst []) G.objs.size=none
   rw [Jf hDC.symm]
   exact I2.hok.fresh hCle
  ·have ec:=hsub _ (PySem.mem_of_lookup e)
   obtain ⟨v,o,ho,hd⟩:=I2.cell z c ec
   rw [Jf (Nat.ne_of_lt (Heap.lt_size ho))]
   exact I2.freeC z c ec
  ·show (none :: capv σ js).length=(x :: caps).length
   unfold capv
   simp [hlen]
 have stat:∀ {H':Hp},(∀ b∈fp,H' b=none)→∀ b∈fp,FpOk (X.block (x :: caps) scope cl G.objs.size fp s2 H2) [] H' b:=fun hn b hb =>
  ⟨hn b hb,Nat.ne_of_lt (Nat.lt_of_lt_of_le (fl b hb) hCle),(J3h (x:=x) (caps:=caps) I2 hCle f2 fl hkind hcell hsub hhas).exfs b hb,.inl hb,fun z c e=>(f2 b hb).2.2.2.2.1 z c (hsub _ (PySem.mem_of_lookup e)),fun p hp=>absurd hp (by simp)⟩
 have fpn:∀ ys,∀ b∈fp,upd H2 s2.heap.objs.size (.lst ys) b=none:=fun ys b hb=>by
  rw [Jf (show b≠s2.heap.objs.size from fun e=>hDf (by rw [← e];exact hb))]
  exact (f2 b hb).1
 have hxl:(relabel scope X.env).names.lookup x=some .local:=lookup_relabel_local hx
 have fin:∀ (s5:Shared) (σ5:St),Inv (X.block (x :: caps) scope cl G.objs.size fp s2 H2) [] σ5 (upd H2 s2.heap.objs.size (.lst ((List.range n).map f))) s5→
   compPost (model X.prog X.w) X.A X.xe (some (assign (.Name y py) X.env)) (fun _ s'=>SP X pins D .next s') (.ref s2.heap.objs.size) G.objs.size (.ok .next) s5:=fun s5 σ5 I5=>by
  have J5:Inv X pins σ (upd H2 s2.heap.objs.size (.lst ((List.range n).map f))) s5:=I2.call' (ch:=fp) I5.os I5.base I5.hok I5.bare fun b hb=>⟨(f2 b hb).2.2.2.1,(f2 b hb).2.1,(f2 b hb).2.2.2.2.1,(f2 b hb).2.2.2.2.2⟩
  have hnsC:∃ m,s5.heap.Ns G.objs.size m:=let ⟨m,q,_⟩:=I5.loc;⟨m,q⟩
  obtain ⟨mC,nsC⟩:=hnsC
  show wpAny _ X.A (assign (.Name y py) X.env (.ref s2.heap.objs.size)) _ _ s5
  refine wpAny_assign_Name ?_
  refine J31 J5 hN hi hy (v:=.ref s2.heap.objs.size) rfl (fun s6 I6 keep6=>?_) hf
  obtain ⟨a,sa,ha⟩:=keep6
  have hLt:X.env.locals < s2.heap.objs.size:=I2.lt
  have aC:a≠G.objs.size:=by
   rcases ha with e | e
   ·rw [e];exact Nat.ne_of_lt (Nat.lt_of_lt_of_le hLt hCle)
   ·obtain ⟨v,o,ho,_⟩:=I2.cell y a e
    exact Nat.ne_of_lt (Nat.lt_of_lt_of_le (Heap.lt_size ho) hCle)
  refine ⟨mC,nsC.sameBut sa (Ne.symm aC),fun h' hs'=>?_⟩
  have hCn:upd H2 s2.heap.objs.size (.lst ((List.range n).map f)) G.objs.size=none:=by
   rw [Jf hDC.symm]
   exact I2.hok.fresh hCle
  have I7:=I6.turned (h':=h') (t':=s6.toks) (it:=G.objs.size) (fun b o hb e=>(hs'.2 b hb).trans e) hCn (Nat.ne_of_gt (Nat.lt_of_lt_of_le hLt hCle)) (.inr (Nat.le_trans I2.sz hCle))
   (fun z c e=>by
    obtain ⟨v,o,ho,_⟩:=I2.cell z c e
    exact Nat.ne_of_lt (Nat.lt_of_lt_of_le (Heap.lt_size ho) hCle))
   (fun p hp=>Nat.ne_of_lt (Nat.lt_of_lt_of_le (Heap.lt_size (I2.pin p hp).1) hCle))
  exact ⟨_,_,I7,hfin _ hfr⟩
 have loop:∀ tk,codeAny (model X.prog X.w) X.A (.compLoop (.ListComp elt [⟨.Name x px,iter,[],0⟩] scope pos) 0 (.ref it) (.ref s2.heap.objs.size) (compEnvC scope cl G.objs.size X.env))
   (compPost (model X.prog X.w) X.A X.xe (some (assign (.Name y py) X.env)) (fun _ s'=>SP X pins D .next s') (.ref s2.heap.objs.size) G.objs.size) { s2 with heap:=h₁,toks:=tk }:=fun tk=>by
  refine J1u (fun m s'=>∃ (k:Nat) (o:Option V),m=n - k∧k≤n∧Inv (X.block (x :: caps) scope cl G.objs.size fp s2 H2) [] (o :: capv σ js) (upd H2 s2.heap.objs.size (.lst ((List.range k).map f))) s'∧tn k s'.heap) ?_ n
   ⟨0,none,rfl,Nat.zero_le _,IY0 tk,T.keep _ _ _ st2 fun b hb o e=>old b o e⟩
  rintro m s3 ⟨k,o,rfl,hk,I3,st3⟩
  by_cases hlt:k < n
  ·refine thn (T.item (X.block (x :: caps) scope cl G.objs.size fp s2 H2) rfl rfl rfl hc k [] s3 _ _ (fun _ _=>False) I3 (stat (fpn _)) st3 hlt) fun r s4 ⟨u,hr,h4⟩=>?_
   subst hr
   refine thn h4 fun _ s5 ⟨v,H5,I5,r5,y5,st5,fr5⟩=>?_
   obtain ⟨rfl,rfl⟩:=y5
   have I5':=I5.pinned (stat fr5) (T.obj _ _ st5)
   refine thn (J2l (X:=X.block (x :: caps) scope cl G.objs.size fp s2 H2) (i:=0) (pos:=px) hnd rfl (.inl hxl) (.inr hxl) _ s5 _ _ _ u
    (fun σ' H'=>σ'=some (.int (lo + k)) :: capv σ js∧H'=upd H2 s2.heap.objs.size (.lst ((List.range k).map f))) I5' r5 ⟨rfl,rfl⟩) fun _ s6 ⟨σ6,H6,I6,q6⟩=>?_
   obtain ⟨rfl,rfl⟩:=q6
   refine thn (he _ _ _ _ _ s6 _ _ _ I6 (hel s2.heap.objs.size _ k hfr hlt rfl)) fun u7 s7 ⟨v7,H7,I7,r7,q7⟩=>?_
   obtain ⟨rfl,rfl⟩:=q7
   have hz:((List.range k).map f).length < sizeLine:=by
    rw [List.length_map,List.length_range]
    exact J34 (by omega)
   refine thn (J3c (X:=X.block (x :: caps) scope cl G.objs.size fp s2 H2) _ s7 _ _ (.ref s2.heap.objs.size) [f k] (.ref s2.heap.objs.size) [u7]
    (fun _ H'=>H'=upd (upd H2 s2.heap.objs.size (.lst ((List.range k).map f))) s2.heap.objs.size (.lst ((List.range k).map f ++ [f k]))) I7 rfl (.cons r7 .nil) ⟨s2.heap.objs.size,_,f k,rfl,rfl,J3,hz,rfl⟩) fun _ s8 ⟨_,H8,I8,_,q8⟩=>?_
   subst q8
   have eH:upd (upd H2 s2.heap.objs.size (.lst ((List.range k).map f))) s2.heap.objs.size (.lst ((List.range k).map f ++ [f k]))=upd H2 s2.heap.objs.size (.lst ((List.range (k + 1)).map f)):=by
    rw [upd_upd,List.range_succ,List.map_append,List.map_singleton]
   rw [eH] at I8
   refine ⟨n - (k + 1),by omega,k + 1,_,rfl,hlt,I8.unpinned,T.keep _ _ _ st5 fun b hb o e=>(I8.pin (b,o) (List.mem_append_right _ (List.mem_append_right _ (J1c hb e)))).1⟩
  ·have ek:k=n:=by omega
   subst ek
   refine thn (T.done (X.block (x :: caps) scope cl G.objs.size fp s2 H2) rfl rfl rfl hc k [] s3 _ _ (fun _ _=>False) I3 (stat (fpn _)) st3 (Nat.le_refl _)) fun r s4 ⟨hr,I4⟩=>?_
   subst hr
   exact fin s4 _ I4
 have st1:tn 0 h₁:=T.keep _ _ _ st2 fun b hb o e=>old b o e
 exact codeAny_compStart_list (loop _) (T.self X.A 0 _ _ _ st1 (loop _))
end
theorem ps_compB {X:Cx} {elt iter:Expr} {x y:Str} {px py:Pos} {scope:Scope} {cl:List (Str × Addr)} {pos spos:Pos} {wi:TI} {te:TE} {i:Nat} (caps:List Str) (js:List Nat)
  (hN:X.N.Nodup) (hi:X.N[i]?=some y) (hy:Loc X.env.scope y) (hc:X.calm=true) (hp:PI X (.Name x px) iter wi) (hclos:closureFor scope X.env=pure cl)
  (he:∀ (C:Addr) (fp:List Addr) (s:Shared) (H:Hp),PE (X.block (x :: caps) scope cl C fp s H) elt te)
  (hcell:∀ p∈scope.names,p.2≠.cell) (hnames:∀ p∈scope.names,p.2=.local→scope.names.lookup p.1=some .local) (hnd:(x :: caps).Nodup)
  (hsub:∀ p∈cl,X.env.cells.lookup p.1=some p.2)
  (hhas:(scope.names.all fun p=>p.2 != .free || (cl.lookup p.1).isSome)=true:=by rfl) (hlen:caps.length=js.length:=by rfl)
  (hcaps:((caps.zip js).all fun q=>X.N[q.2]? == some q.1 && X.env.scope.names.lookup q.1 == some .cell && (cl.lookup q.1).isSome && (relabel scope X.env).names.lookup q.1 == some .cell)=true:=by rfl)
  (hf:X.fn y=true∨X.env.scope.names.lookup y=some .local:=by first | exact .inl rfl | exact .inr rfl | assumption)
  (hsw:swapsWith (.ListComp elt [⟨.Name x px,iter,[],0⟩] scope pos) (some (.Name y py)) spos.line X.env=pure true:=by rfl)
  (hkind:scope.kind=.function:=by rfl) (hx:scope.names.lookup x=some .local:=by rfl) (hs:∀ v,foldedSetIterable iter X.env v=pure v:=by intro _;rfl) :
  PS X (.Assign [.Name y py] (.ListComp elt [⟨.Name x px,iter,[],0⟩] scope pos) spos) (tComp wi te js i):=by
 refine ps_comp (caps:=caps) (js:=js) hN hi hy hc hp he hcell hnames hnd hsub (fun p hp' e=>?_) hlen (fun k c hk=>?_) hf hsw hclos hkind hx hs
 ·have:=List.all_eq_true.mp hhas p hp'
  rw [e] at this
  exact Option.isSome_iff_exists.mp (by simpa using this)
 ·have hkl:k < caps.length:=(List.getElem?_eq_some_iff.mp hk).1
  have hj:js[k]?=some (js[k]'(hlen ▸ hkl)):=List.getElem?_eq_getElem (hlen ▸ hkl)
  have hm:(c,js[k]'(hlen ▸ hkl))∈caps.zip js:=by
   refine List.mem_iff_getElem?.mpr ⟨k,?_⟩
   rw [List.getElem?_zip_eq_some]
   exact ⟨hk,hj⟩
  have:=List.all_eq_true.mp hcaps _ hm
  simp only [Bool.and_eq_true,beq_iff_eq] at this
  obtain ⟨⟨⟨q1,q2⟩,q3⟩,q4⟩:=this
  obtain ⟨a,ha⟩:=Option.isSome_iff_exists.mp q3
  exact ⟨_,a,hj,q1,q2,ha,q4⟩
section
variable {X:Cx}
def rInsert:V→List V→Hp→VK→Prop:=fun x vs H Q=>∃ (l:Addr) (xs:List V) (k:Nat) (y:V),x=.ref l∧vs=[.int k,y]∧H l=some (.lst xs)∧k≤xs.length∧xs.length < sizeLine∧Q .non (upd H l (.lst (xs.take k ++ y :: xs.drop k)))
theorem mt_insert:MtM X "list.insert" rInsert:=by
 intro pins s σ H x vs v us Q I rx rv h
 obtain ⟨l,xs,k,y,rfl,rfl,hH,hk,hz,q⟩:=h
 cases rx
 obtain ⟨u1,u2,rfl,⟨t,rfl⟩,r2⟩:=rv.two
 obtain ⟨z,its,n,r,hl,e⟩:=I.lstM hH
 have hn:=J48
 obtain ⟨x,hx⟩:∃ x:Int,x=(k:Int):=⟨_,rfl⟩
 rw [← hx]
 have hfit:¬ (!Builtin.List.listFitsIndex x)=true:=by
  rw [fitsIndex_both (by omega) (by omega)]
  exact Bool.false_ne_true
 have hsz:its.toArray.size≤sizeLine:=by rw [List.size_toArray,← hl];exact z
 refine call_meets F.slot_list_insert ⟨_,e,rfl⟩ F.entry_list_insert (F.args_list_insert_3 _ _ _) (PySem.AutoSeq1.list_insert_list_int_val_1 l its.toArray n x t u2 hfit hsz) ⟨e,?_⟩
 refine ⟨.non,_,I.lset (its':=its.take k ++ u2 :: its.drop k) hH e ?_ ((r.take k).append (.cons r2 (r.drop k))) ?_,rfl,q⟩
 ·have e1:(if x < 0 then (x + (its.toArray.size:Int)).toNat else min x.toNat its.toArray.size)=k:=by
   rw [if_neg (by omega),List.size_toArray]
   omega
  dsimp only
  rw [e1]
  apply Array.ext'
  simp
  rw [List.take_of_length_le (by rw [List.length_drop];exact Nat.le_refl _)]
 ·rw [List.length_append,List.length_cons,List.length_take,List.length_drop]
  omega
end
end L2
namespace L2
open PySem PySem.Spec PyProof.Rows
section
variable {X:Cx}
theorem J2z {f:Value} (hf:f=.builtin "isinstance"):CallR X f (fun xs H Q=>∃ (x c:V) (t cv:Value) (b:Bool),xs=[x,c]∧RelV c cv∧(∀ v,RelV c v→v=cv)∧TyOf X.K H x t∧PySem.W.kitOne X.K t cv=some b∧Q (.bl b) H):=by
 subst hf
 intro pins s σ H xs us Q I r h
 obtain ⟨x,c,t,cv,b,rfl,rc,uc,ty,e,q⟩:=h
 obtain ⟨u,v,rfl,ru,rv⟩:=vals2 r
 obtain rfl:=uc v rv
 exact isinst_ok I ru ty e fun tk=>⟨.bl b,H,I.tok tk,rfl,q⟩
end
end L2
namespace L2
open PySem PySem.Spec PyProof.Rows
end L2
namespace L2
open PySem PySem.Spec PyProof.Rows
end L2
namespace L2
open PySem PySem.Spec PyProof.Rows
end L2
namespace L2
open PySem PySem.Spec PyProof.Rows
def bmV:List Value:=[.type "ValueError",.type "Exception",.type "BaseException",.type "object"]
theorem ObjOk.has {P:Program} {w:World} {H:Hp} {h:Heap} {a:Addr} {o:HO} (x:ObjOk P w H h a o):∃ u,h.get? a=some u:=by
 cases o with
 | lst xs=>obtain ⟨_,_,_,_,e⟩:=x;exact ⟨_,e⟩
 | tup xs=>obtain ⟨_,_,_,ob,e,_⟩:=x;exact ⟨_,e⟩
 | dK kvs=>obtain ⟨_,_,_,_,o,_,_,e,_⟩:=x;exact ⟨_,e⟩
 | dT kvs=>obtain ⟨_,_,_,_,o,_,_,e,_⟩:=x;exact ⟨_,e⟩
 | set S n=>obtain ⟨o,_,_,_,e,_⟩:=x;exact ⟨_,e⟩
 | ins C dx fs=>obtain ⟨_,_,_,e,_⟩:=x;exact ⟨_,e⟩
 | own y=>exact x
 | xd fs=>obtain ⟨_,⟨_,_,_,e,_⟩,_⟩:=x;exact ⟨_,e⟩
 | rng lo hi=>obtain ⟨_,_,_,e⟩:=x;exact ⟨_,e⟩
 | frz ob u=>obtain ⟨e,_⟩:=x;exact ⟨_,e⟩
 | tbl ps=>exact ⟨_,(show h.get? a=some _ from x)⟩
 | met f y=>exact ⟨_,(show h.get? a=some _ from x)⟩
 | ext φ=>obtain ⟨_,e,_⟩:=x;exact e
theorem HOk.over {P:Program} {w:World} {H:Hp} {h h' B:Heap} (ok:HOk P w H h) (t:∀ b o,H b=some o→∃ u,B.get? b=some u) (k:B.StaysIn h) (k':B.StaysIn h'):HOk P w H h':=fun b u e=>by
 refine (ok b u e).stay (fun c v hc q=>?_) (fun _ q=>q) fun _ _ q=>q
 have hc':∃ x,B.get? c=some x:=by
  rcases hc with z | z
  ·rw [z];exact t b u e
  ·exact t c _ z
 obtain ⟨x,hx⟩:=hc'
 have:=k c x hx
 rw [q] at this
 cases this
 exact k' c _ hx
def Exc1 (P:Program) (w:World):CXT:=fun outer H s E e s'=>∃ (ea:Addr) (cls:Value) (H':Hp) (B:Heap) (a0:Value),e=.ref ea∧s'.os=s.os∧AllBare s'.gens∧Heap.FlyingW B outer ea cls a0 s'.heap∧
 Un (frs outer) [] H H' s.heap s'.heap∧HOk P w H' s'.heap∧H' ea=none∧s.heap.get? ea=none∧(∀ b o,H' b=some o→∃ u,B.get? b=some u)∧(∀ b u,s.heap.get? b=some u→b ∉ frs outer→∃ v,B.get? b=some v)∧E cls none H'
section
variable {P:Program} {w:World} {K:PySem.W.Frag} {mg:Str→Option Value} {base:Heap} {N:List Str} {qual:Str} {scope:Scope} {f:Addr} {cd:Value} {A:Around} {outer:List Env} {s0:Shared} {H0:Hp} {E:XK} {pins:List (Addr × Obj)} {σ:St} {H:Hp} {s:Shared}
theorem noFlds {h B:Heap} {l:List Env} (x:h.FunFrames B l) {b:Addr} (hb:b∈frs l):∃ o,h.get? b=some o∧∀ vs,o.data≠.fields vs:=(x.mem hb).2
theorem frs_cons {b:Addr} {env:Env} {L:Addr} (hf:env.frame=some L) {l:List Env}:b∈frs (env :: l)↔b=L∨b∈frs l:=by
 unfold frs
 rw [List.filterMap_cons,hf]
 simp
end
end L2
namespace L2
open PySem PySem.Spec PyProof.Rows
def Cx.caught (X:Cx) (ea:Addr):Cx:={ X with A:=X.A.mark (some (.ref ea)),calm:=false,xe:=fun _ _=>False }
def Ends.unset (D:Ends) (i:Nat):Ends:={ nx:=fun σ H=>D.nx (σ.set i none) H,rt:=D.rt,bk:=fun σ H=>D.bk (σ.set i none) H,ct:=fun σ H=>D.ct (σ.set i none) H }
section
variable {X:Cx} {pins:List (Addr × Obj)} {σ:St} {H:Hp} {s:Shared} {ea:Addr}
theorem Cx.Ok.caught (ok:X.Ok) (ea:Addr):(X.caught ea).Ok :=
 ⟨ok.mod,ok.kind,ok.glob,ok.blt,ok.above,ok.inj,ok.has,ok.cab,(fun z=>Bool.noConfusion z),ok.frames,ok.stk,ok.exf,ok.bs,ok.bsz,ok.noex,ok.exfs,ok.funs,ok.frf⟩
theorem Inv.caught (I:Inv X pins σ H s) (ea:Addr):Inv (X.caught ea) pins σ H s:=⟨I.ok.caught ea,I.os,I.bare,I.base,I.loc,I.cell,I.free,I.freeC,I.pin,I.hok,I.len⟩
theorem Inv.uncaught (I:Inv (X.caught ea) pins σ H s) (ok:X.Ok):Inv X pins σ H s:=⟨ok,I.os,I.bare,I.base,I.loc,I.cell,I.free,I.freeC,I.pin,I.hok,I.len⟩
theorem J26 {M:Model} {A:Around} {E:Value→Shared→Prop} {i:Nat} {x:Str} {pos:Pos} {Q:Unit→Shared→Prop} (I:Inv X pins σ H s) (hN:X.N.Nodup) (hi:X.N[i]?=some x) (hk:X.env.scope.names.lookup x=some .local)
  (h:∀ s',Inv X pins (σ.set i none) H s'→Q () s'):wpAny M A (do bindName X.env x .none;unbindBehindTheSuite X.env x pos) Q E s:=by
 obtain ⟨m,hn,hl⟩:=id I.loc
 have hcls:(X.env.scope.kind == .class || (X.env.scope.kind == .module && X.env.locals != X.env.globals))=false:=by rw [I.ok.kind];rfl
 have hiσ:i < σ.length:=by rw [I.len];exact (List.getElem?_eq_some_iff.mp hi).1
 have cne:=I.cne
 obtain ⟨oL,_,_,hoL,_⟩:=id hn
 refine wpAny_nameGoes_keeps hk hn hcls fun h' v hn' hs=>?_
 have nL:∀ b o,X.s₀.heap.get? b=some o→b≠X.env.locals:=fun b o e=>Nat.ne_of_lt (Nat.lt_of_lt_of_le (Heap.lt_size e) I.ok.above)
 refine h _ ⟨I.ok,I.os,I.bare,⟨fun b o e n hb hx=>?_,fun b o e n hb hx=>?_,I.base.free,fun b o e hx=>?_,I.base.tups,I.base.frzs,I.base.tbls⟩,⟨_,hn',fun j y v' e1 e2 e3=>?_⟩,fun y c e=>?_,I.free,I.freeC,fun p hp=>?_,fun b ob e=>?_,by simpa using I.len⟩
 ·exact (hs.2 b (nL b o e)).trans (I.base.keep b o e n hb hx)
 ·obtain ⟨sl,e1⟩:=I.base.slot b o e n hb hx
  exact ⟨sl,(hs.2 b (nL b o e)).trans e1⟩
 ·obtain ⟨o',e1⟩:=I.base.there b o e hx
  exact ⟨o',(hs.2 b (nL b o e)).trans e1⟩
 ·by_cases hj:j=i
  ·subst hj
   rw [List.getElem?_set_self hiσ] at e2
   cases e2
  ·rw [List.getElem?_set_ne (Ne.symm hj)] at e2
   obtain ⟨u',r',q⟩:=hl j y v' e1 e2 e3
   refine ⟨u',r',?_⟩
   rcases q with ⟨k,e⟩ | ⟨k,c,e,z⟩
   ·refine .inl ⟨k,?_⟩
    have:y≠x:=fun e=>hj (J45 hN e1 (e ▸ hi))
    simp [this,e]
   ·exact .inr ⟨k,c,e,z.sameBut hs (cne y c e)⟩
 ·obtain ⟨w',z⟩:=I.cell y c e
  exact ⟨w',z.sameBut hs (cne y c e)⟩
 ·obtain ⟨e,n,ne,nf,d⟩:=I.pin p hp
  exact ⟨(hs.2 p.1 ne).trans e,n,ne,nf,d⟩
 ·refine (I.hok b ob e).stay (fun c w' hc q=>(hs.2 c ?_).trans q) (fun _ q=>q) fun _ _ q=>q
  rintro rfl
  have hfree:=I.free
  rcases hc with z | hc
  ·rw [← z,hfree] at e;cases e
  ·rw [hfree] at hc;cases hc
variable {i:Nat} {n cx:Str} {c:Value} {b₀:Stmt} {suite:List Stmt} {hpos np:Pos} {tb:Addr→TS} {D:Ends}
end
end L2
namespace L2
open PySem PySem.Spec PyProof.Rows
structure XCls (K:PySem.W.Frag) (D:Addr):Prop where
 ga:PySem.W.findIn K (.ref D) "__getattribute__"=some (some (.builtin "BaseException.__getattribute__"))
 no:PySem.W.findIn K (.ref D) "__getattr__"=some none
 cl:PySem.W.findIn K (.ref D) "__class__"=some (some (.builtin "object.__class__"))
 get:PySem.W.specialIn K (.builtin "object.__class__") "__get__"=some (some (.builtin "getset_descriptor.__get__"))
 tk:PySem.W.takesIn K (.builtin "object.__class__")=some true
 mo:PySem.W.mroIn K D (.type "object")=some true
 mb:PySem.W.mroIn K D (.type "BaseException")=some true
 hd:PySem.W.hasDictIn K D=true
section
open PySem.W
variable {prog:Program} {w:World} {A:Around} {E:Value→Shared→Prop} {K:Frag} {x D:Addr} {hh:Heap} {g:Array GenState} {d:Drawn} {t:Nat} {os:OsState}
theorem x_find {M:Model} (X:K.In hh) (W:XCls K D):Looks M hh (Builtin.ObjectAttr.find (.ref x) (.ref D) "__class__") (.bind (.builtin "getset_descriptor.__get__") (.builtin "object.__class__")):=by
 have e1:=looks_findIn (M:=M) X W.cl
 have e2:Looks M hh (Builtin.ObjectAttr.getOf (some (.builtin "object.__class__"))) (some (.builtin "getset_descriptor.__get__")):=looks_specialIn X W.get
 have e3:=looks_takesIn (M:=M) X W.tk
 have e4:Looks M hh (Builtin.ObjectAttr.dataDescriptor? (some (.builtin "object.__class__")) (some (.builtin "getset_descriptor.__get__"))) (some (.builtin "getset_descriptor.__get__",.builtin "object.__class__")):=e3.andThen .now
 exact e1.andThen (e2.andThen (e4.andThen (Looks.tag .now)))
theorem x_get {R:Result→Shared→Prop} {tp:Value} (X:K.In hh) (W:XCls K D) (p:∃ o,hh.get? x=some o∧o.cls=.ref D) (h:R (.ok (.ret (.ref D))) ⟨hh,g,d,t,os⟩) :
  codeAny (model prog w) A (.call (.builtin "getset_descriptor.__get__") ⟨[.builtin "object.__class__",.ref x,tp],[]⟩) R ⟨hh,g,d,t,os⟩:=by
 obtain ⟨o,p1,p2⟩:=p
 have L0:Looks (model prog w) hh (typeOf (.ref x)) (.ref D):=p2 ▸ (Looks.ld p1).andThen .now
 have L1:=looks_mroIn (M:=model prog w) X W.mo
 have ck:=KF.slot_gs.check (M:=model prog w) (A:=A)
 refine codeAny_call_builtin KF.slot_gs.plain KF.entry_gs ?_
 refine KF.slot_gs.check _ _ _ _ _ _ _ _ KF.type_class (KF.args_gs ..) ?_
 unfold Builtin.«getset_descriptor.__get__»
 unfold Builtin.Getset_descriptor.descrGet
 rw [dga_obj]
 apply wpAny_bind
 apply wpAny_pure
 unfold Builtin.Getset_descriptor.descrGetter Builtin.Getset_descriptor.descrCheckInstance
 unfold Builtin.Getset_descriptor.descrNameAndClass isInstance
 simp only [KF.owner_class]
 repeat lk
 refine ⟨Code.quiet_builtin _ (by decide +kernel),?_⟩
 refine codeAny_builtin KF.entry_class ?_
 unfold Builtin.«object.__class__»
 unfold shownTypeOf
 repeat lk
 exact h
theorem x_class {Q:Option Value→Shared→Prop} (X:K.In hh) (W:XCls K D) (p:∃ o,hh.get? x=some o∧o.cls=.ref D) (h:Q (some (.ref D)) ⟨hh,g,d,t + 1,os⟩) :
  wpAny (model prog w) A (getAttr? (.ref x) "__class__") Q E ⟨hh,g,d,t,os⟩:=by
 have p':=p
 obtain ⟨o,p1,p2⟩:=p'
 have L0:Looks (model prog w) hh (typeOf (.ref x)) (.ref D):=p2 ▸ (Looks.ld p1).andThen .now
 have L1:=looks_findIn (M:=model prog w) X W.ga
 have L2:=looks_findIn (M:=model prog w) X W.no
 have L3:=x_find (x:=x) (M:=model prog w) X W
 have L4:=looks_mroIn (M:=model prog w) X W.mb
 have gb:=PySem.F.attrBase_ValueError.ga.bind (.ref x)
 unfold getAttr? getAttrBy?
 unfold getAttrBy
 apply wpAny_bind
 apply wpAny_mkText
 apply wpAny_bind
 apply wpAny_attempt
 apply wpAny_holding
 apply wpAny_bind
 refine L0.at ?_
 apply wpAny_bind
 refine L1.at ?_
 have nb:(Value.builtin "BaseException.__getattribute__" == Value.builtin "object.__getattribute__")=false:=by decide +kernel
 show wpAny _ _ (if (onTheHeap (Value.ref D) && Value.builtin "BaseException.__getattribute__" == Value.builtin "object.__getattribute__")=true then _ else _) _ _ _
 rw [nb,Bool.and_false,if_neg Bool.false_ne_true]
 unfold getAttrByItsOwn hookBefore
 apply wpAny_bind
 show wpAny _ _ (if onTheHeap (Value.ref D)=true then _ else _) _ _ _
 rw [if_pos (show onTheHeap (Value.ref D)=true from rfl)]
 refine L2.at ?_
 apply wpAny_bind
 apply wpAny_attempt
 apply wpAny_holding
 unfold callGetattribute
 rw [Bool.false_and,if_neg Bool.false_ne_true]
 unfold boundAndCalled
 rw [gb]
 apply wpAny_bind
 apply wpAny_pure
 refine wpAny_call (codeAny_call_builtin PySem.F.attrBase_ValueError.ga.plain PySem.F.entry_bexc_ga ?_)
 have hk:builtinKind "BaseException.__getattribute__"=some .slot:=by decide +kernel
 have hs:splitId "BaseException.__getattribute__"=some ("BaseException","__getattribute__"):=by decide +kernel
 have ha:=PySem.F.args_bexc_ga (.ref x) (.str "__class__" t)
 have L5:Looks (model prog w) hh (isInstance (.ref x) (.type "BaseException")) true:=L0.andThen L4
 simp only [checkBuiltinCall,hk,hs]
 apply wpAny_bind
 refine L5.at ?_
 repeat (first | assumption | wp_step)
 rw [p2]
 have e2:Looks (model prog w) hh (Builtin.ObjectAttr.getOf (some (.builtin "object.__class__"))) (some (.builtin "getset_descriptor.__get__")):=looks_specialIn X W.get
 have e3:=looks_takesIn (M:=model prog w) X W.tk
 have e4:Looks (model prog w) hh (Builtin.ObjectAttr.dataDescriptor? (some (.builtin "object.__class__")) (some (.builtin "getset_descriptor.__get__"))) (some (.builtin "getset_descriptor.__get__",.builtin "object.__class__")):=e3.andThen .now
 refine (looks_findIn (M:=model prog w) X W.cl).at ?_
 apply wpAny_bind
 refine e2.at ?_
 apply wpAny_bind
 refine e4.at ?_
 repeat (first | assumption | wp_step)
 refine x_get X W p ?_
 repeat (first | assumption | wp_step)
theorem x_isType {M:Model} (X:K.In hh) (W:XCls K D):Looks M hh (isType (.ref D)) true:=by
 obtain ⟨cd,hc,_⟩:=any_some W.hd
 unfold clsIn at hc
 split at hc
 next ho =>
  intro A' Q' E' s' k q
  unfold isType loadHead
  apply wpAny_bind
  exact wpAny_loadPart (k _ _ (X _ _ ho)) (wpAny_pure q)
 next=>cases hc
theorem kitx_exc (W:XCls K D):KitX K (.ref x) (.ref D) (fun h=>∃ o,h.get? x=some o∧o.cls=.ref D) where
 ty:=fun _ _ _ ⟨_,p1,p2⟩=>p2 ▸ (Looks.ld p1).andThen .now
 it:=fun _ _ X _=>x_isType X W
 ne:=fun h tp dd its n sl X htp=>by
  obtain ⟨cd,hc,_⟩:=any_some W.hd
  apply Bool.eq_false_iff.mpr
  intro q
  cases beq_iff_eq.mp q
  unfold clsIn at hc
  split at hc
  next ho=>have z:=X _ _ ho;rw [htp] at z;cases z
  next=>cases hc
 ca:=fun {_ _ _ _ _ s} X p k=>by
  obtain ⟨h0,g0,d0,t0,o0⟩:=s
  exact x_class X W p k
end
theorem J4c:∀ {bs:List Bool} {us:List Value},Vals (bs.map V.bl) us→us=bs.map Value.bool
 | [],us,r=>by cases r;rfl
 | b :: bs,us,r=>by
  cases r with
  | cons r1 r2 =>
   cases (show _=Value.bool b from r1)
   rw [J4c r2];rfl
def isTrueV:Value→Bool
 | .bool b=>b == true
 | _=>false
def rCountB (K:PySem.W.Frag):V→List V→Hp→VK→Prop:=fun x vs H Q=>∃ (l:Addr) (bs:List Bool),x=.ref l∧vs=[.bl true]∧H l=some (.lst (bs.map V.bl))∧Q (.int (bs.count true:Nat)) H
theorem mt_countB {X:Cx}:MtM X "list.count" (rCountB X.K):=by
 intro pins s σ H x vs v us Q I rx rv h
 obtain ⟨l,bs,rfl,rfl,hH,q⟩:=h
 cases rx
 obtain ⟨u,rfl,ru⟩:=rv.one
 cases (show u=Value.bool true from ru)
 obtain ⟨z,its,n,r,hl,e⟩:=I.lstM hH
 have ei:=J4c r
 subst ei
 refine call_meets PySem.F.slot_list_count ⟨_,e,rfl⟩ PySem.F.entry_list_count (PySem.F.args_list_count_2 _ _) (PySem.SeqAt.list_countAt l _ n none #[] (.bool true) isTrueV) ⟨e,fun y hy=>?_,?_⟩
 ·have hy':y∈bs.map Value.bool:=by simpa using hy
  obtain ⟨b,_,rfl⟩:=List.mem_map.mp hy'
  exact SeqAt.EqAt.bool_bool b true
 ·have ec:(bs.map Value.bool).countP isTrueV=bs.count true:=by
   rw [List.countP_map];rfl
  exact ⟨.int (bs.count true:Nat),H,I.tok _,⟨_,by rw [← ec]⟩,q⟩
structure RoomC (k:Nat) (A:Around):Prop where
 dp:A.depth + 3 * k + 5 < recursionLimit
 un:A.units + 16 * k + 200 < cLine
theorem RoomC.mono {j k:Nat} {A:Around} (r:RoomC k A) (h:j≤k):RoomC j A:=⟨by have:=r.dp;omega,by have:=r.un;omega⟩
theorem RoomC.deeper {k:Nat} {A:Around} (r:RoomC (k + 1) A) (env:Env):RoomC k (A.deeper env) :=
 ⟨by have:=r.dp;show A.depth + 1 + 3 * k + 5 < _;omega,by have:=r.un;show A.units + 3 + 16 * k + 200 < _;omega⟩
end L2
namespace L2
open PySem PySem.Spec PyProof.Rows
end L2
namespace L2
open PySem PySem.Spec PyProof.Rows
end L2
namespace L2
open PySem PySem.Spec PyProof.Rows
def SafeT {α:Type}:Sem α→Prop
 | .pure _=>True
 | .raise _=>True
 | .unsupported _=>True
 | .finish _=>True
 | .rule _ k=>∀ u,SafeT (k u)
 | .at _ k=>∀ u,SafeT (k u)
 | .load _ _ k=>∀ o,SafeT (k o)
 | .update _ _ f k=>(∀ o,(f o).dict=o.dict)∧∀ u,SafeT (k u)
 | .alloc _ k=>∀ a,SafeT (k a)
 | .loadIfAlive _ k=>∀ o,SafeT (k o)
 | .point _ k=>∀ u,SafeT (k u)
 | .register _ _=>True
 | .fresh k=>∀ t,SafeT (k t)
 | .ask k=>∀ x,SafeT (k x)
 | .choose _ _ k=>∀ n,SafeT (k n)
 | .os _ _ k=>∀ r,SafeT (k r)
 | .call _ _ _ _ _=>False
 | .handled _ k=>∀ v,SafeT (k v)
 | .newGen _ k=>∀ n,SafeT (k n)
 | .genState _ k=>∀ x,SafeT (k x)
 | .resume _ _ _ _=>False
 | .yield _ _ _ _=>True
 | .stack k=>∀ l,SafeT (k l)
 | .fork _ _=>True
 | .thread k=>∀ n,SafeT (k n)
 | .await _ _ _ _ _=>True
def DictsStay (h h':Heap):Prop:=∀ (a:Addr) (o:Obj),h.objs[a]?=some o→∃ o':Obj,h'.objs[a]?=some o'∧o'.dict=o.dict
theorem DictsStay.refl (h:Heap):DictsStay h h:=fun a o e=>⟨o,e,rfl⟩
theorem DictsStay.trans {h h' h'':Heap} (x:DictsStay h h') (y:DictsStay h' h''):DictsStay h h'':=fun a o e=>by
 obtain ⟨o',e',d'⟩:=x a o e
 obtain ⟨o2,e2,d2⟩:=y a o' e'
 exact ⟨o2,e2,d2.trans d'⟩
theorem DictsStay.push (h:Heap) (o:Obj):DictsStay h (h.push o):=fun a u e=>by
 refine ⟨u,?_,rfl⟩
 show (h.objs.push o)[a]?=some u
 have hlt:a < h.objs.size:=(Array.getElem?_eq_some_iff.mp e).1
 rw [Array.getElem?_push_lt hlt]
 rw [Array.getElem?_eq_getElem hlt] at e
 exact e
theorem DictsStay.update (h:Heap) (b:Addr) {f:Obj→Obj} (hf:∀ o,(f o).dict=o.dict):DictsStay h (h.update b f):=fun a u e=>by
 show ∃ o',(h.objs.modify b f)[a]?=some o'∧o'.dict=u.dict
 rw [Array.getElem?_modify]
 by_cases c:b=a
 ·rw [if_pos c,e]
  exact ⟨f u,rfl,hf u⟩
 ·rw [if_neg c]
  exact ⟨u,e,rfl⟩
theorem Ja {α β:Type} {f:α→Sem β} (hf:∀ a,SafeT (f a)):∀ {m:Sem α},SafeT m→SafeT (m.bind f):=by
 intro m
 induction m with
 | pure a=>intro _;exact hf a
 | raise e=>intro _;trivial
 | unsupported w=>intro _;trivial
 | finish e=>intro _;trivial
 | rule t k ih=>intro h u;exact ih u (h u)
 | «at» p k ih=>intro h u;exact ih u (h u)
 | load a p k ih=>intro h u;exact ih u (h u)
 | update a p g k ih=>intro h;exact ⟨h.1,fun u=>ih u (h.2 u)⟩
 | alloc o k ih=>intro h u;exact ih u (h u)
 | loadIfAlive a k ih=>intro h u;exact ih u (h u)
 | point l k ih=>intro h u;exact ih u (h u)
 | register a k ih=>intro _;trivial
 | fresh k ih=>intro h u;exact ih u (h u)
 | ask k ih=>intro h u;exact ih u (h u)
 | choose s n k ih=>intro h u;exact ih u (h u)
 | os r l k ih=>intro h u;exact ih u (h u)
 | call c hh g l k ih=>intro h;exact h.elim
 | handled o k ih=>intro h u;exact ih u (h u)
 | newGen c k ih=>intro h u;exact ih u (h u)
 | genState g k ih=>intro h u;exact ih u (h u)
 | resume g r l k ih=>intro h;exact h.elim
 | yield v g l k ih=>intro _;trivial
 | stack k ih=>intro h u;exact ih u (h u)
 | fork c k ih=>intro _;trivial
 | thread k ih=>intro h u;exact ih u (h u)
 | await a t ti l k ih=>intro _;trivial
theorem safe_wp {α:Type} {M:Model} {Γ:PySem.Ctx} {Q:α→Pos→Shared→Prop} {E:Value→Pos→Shared→Prop}:∀ {m:Sem α},SafeT m→∀ (p:Pos) (s:Shared),Sem.wp M Γ m Q E p s→
  Sem.wp M Γ m (fun a p' s'=>Q a p' s'∧DictsStay s.heap s'.heap) (fun e p' s'=>E e p' s'∧DictsStay s.heap s'.heap) p s:=by
 intro m
 induction m with
 | pure a=>intro _ p s h;exact ⟨h,.refl _⟩
 | raise e=>intro _ p s h;exact ⟨h,.refl _⟩
 | unsupported w=>intro _ p s h;exact h
 | finish e=>intro _ p s h;exact h
 | rule t k ih=>intro sf p s h;exact ih () (sf ()) p s h
 | «at» p' k ih=>intro sf p s h;exact ih () (sf ()) p' s h
 | load a p' k ih=>intro sf p s h;obtain ⟨o,e,h⟩:=h;exact ⟨o,e,ih o (sf o) p s h⟩
 | update a p' g k ih =>
  intro sf p s h
  refine ⟨h.1,?_⟩
  have st:DictsStay s.heap (s.heap.update a g):=.update _ _ sf.1
  exact Sem.wp_mono M Γ _ (fun _ _ _ x=>⟨x.1,st.trans x.2⟩) (fun _ _ _ x=>⟨x.1,st.trans x.2⟩) p _ (ih () (sf.2 ()) p _ h.2)
 | alloc o k ih =>
  intro sf p s h
  have st:DictsStay s.heap (s.heap.push o):=.push _ _
  exact Sem.wp_mono M Γ _ (fun _ _ _ x=>⟨x.1,st.trans x.2⟩) (fun _ _ _ x=>⟨x.1,st.trans x.2⟩) p _ (ih _ (sf _) p _ h)
 | loadIfAlive a k ih=>intro sf p s h;exact ih _ (sf _) p s h
 | point l k ih=>intro sf p s h;exact ih () (sf ()) p s h
 | register a k ih=>intro _ p s h;exact h
 | fresh k ih=>intro sf p s h;exact ih _ (sf _) p _ h
 | ask k ih=>intro sf p s h;exact ih _ (sf _) p s h
 | choose src n k ih=>intro sf p s h;exact ⟨h.1,ih _ (sf _) p _ h.2⟩
 | os r l k ih=>intro sf p s h;exact ih _ (sf _) p _ h
 | call c hh g l k ih=>intro sf;exact sf.elim
 | handled o k ih=>intro sf p s h;exact ih _ (sf _) p s h
 | newGen c k ih=>intro sf p s h;exact ih _ (sf _) p _ h
 | genState g k ih=>intro sf p s h;obtain ⟨st,e,h⟩:=h;exact ⟨st,e,ih _ (sf _) p s h⟩
 | resume g r l k ih=>intro sf;exact sf.elim
 | yield v g l k ih=>intro _ p s h;exact h
 | stack k ih=>intro sf p s h;exact ih _ (sf _) p s h
 | fork c k ih=>intro _ p s h;exact h
 | thread k ih=>intro sf p s h;exact ih _ (sf _) p s h
 | await a t ti l k ih=>intro _ p s h;exact h
theorem J2f {α:Type} {M:Model} {A:Around} {m:Sem α} {Q:α→Shared→Prop} {E:Value→Shared→Prop} {s:Shared} (sf:SafeT m) (h:wpAny M A m Q E s) :
  wpAny M A m (fun a s'=>Q a s'∧DictsStay s.heap s'.heap) (fun e s'=>E e s'∧DictsStay s.heap s'.heap) s:=fun Γ p hΓ=>safe_wp sf p s (h Γ p hΓ)
theorem J14 {α:Type} (w:String):SafeT (unsupported w:Sem α):=trivial
theorem J3q (v:Value):SafeT (fieldsOf v):=by
 unfold fieldsOf
 cases v with
 | ref a =>
  refine Ja (m:=load a) (fun o=>?_) (fun _=>trivial)
  cases o.data <;> first | exact trivial | exact J14 _
 | _=>exact J14 _
theorem J1o (v:Value) (i:Nat):SafeT (field v i):=by
 unfold field
 refine Ja (m:=fieldsOf v) (fun vs=>?_) (J3q v)
 cases vs[i]? <;> first | exact trivial | exact J14 _
theorem J3g (f:Array Value→Array Value) (o:Obj):(Obj.mapFields f o).dict=o.dict:=by
 unfold Obj.mapFields
 obtain ⟨c,d,dt,sl⟩:=o
 cases dt <;> rfl
theorem J19 (v:Value) (i:Nat) (x:Value):SafeT (setField v i x):=by
 unfold setField
 cases v with
 | ref a =>
  unfold updateField
  refine Ja (m:=load a) (fun o=>?_) (fun _=>trivial)
  cases o.data with
  | fields vs =>
   show SafeT (if i < vs.size then _ else _)
   split
   ·refine ⟨fun o=>?_,fun _=>trivial⟩
    exact J3g _ o
   ·exact J14 _
  | _=>exact J14 _
 | _=>exact J14 _
theorem J16 (e:Value) (f:Option Addr):SafeT (setFlight e f):=by
 unfold setFlight
 refine Ja (m:=field e 1) (fun tb=>?_) (J1o e 1)
 show SafeT (if (tb != Value.none)=true then _ else _)
 split
 ·exact J19 _ _ _
 ·exact trivial
theorem J2c:SafeT stack:=fun _=>trivial
theorem J35:SafeT frameEnvs:=by
 unfold frameEnvs
 refine Ja (m:=stack) ?_ J2c
 intro l
 exact trivial
theorem J2t (f:Addr) (b:Bool):SafeT (entryPlaceOf f b):=by
 unfold entryPlaceOf
 refine Ja (m:=stack) ?_ J2c
 intro acts
 dsimp only
 split
 ·exact trivial
 ·exact trivial
theorem safe_behind (env:Env) (outer:List Env):SafeT (behindIsImport env outer):=by
 unfold behindIsImport
 split
 ·exact trivial
 split
 ·exact trivial
 refine Ja (m:=field env.code 12) ?_ (J1o _ _)
 intro v
 exact trivial
theorem safe_under:SafeT underTheClaimsCaller:=by
 unfold underTheClaimsCaller
 refine Ja (m:=stack) ?_ J2c
 intro l
 exact trivial
theorem safe_kept (env:Env) (b:Bool) (outer:List Env):SafeT (keptBack env b outer):=by
 unfold keptBack
 split
 ·split
  ·exact trivial
  refine Ja (m:=underTheClaimsCaller) ?_ safe_under
  intro v
  exact trivial
 ·exact trivial
theorem J3o:∀ l:List Env,SafeT (readyFrames l)
 | []=>trivial
 | env :: outer=>by
  unfold readyFrames
  split
  ·rename_i f _
   refine Ja (m:=load f) ?_ (fun _=>trivial)
   intro o
   split
   ·exact trivial
   refine Ja (m:=behindIsImport env outer) ?_ (safe_behind _ _)
   intro b
   refine Ja (m:=keptBack env b outer) ?_ (safe_kept _ _ _)
   intro v
   refine Ja (m:=update f _) ?_ ⟨fun o=>rfl,fun _=>trivial⟩
   intro _
   exact J3o outer
  ·exact J14 _
theorem J2e:∀ l:List Env,SafeT (frameObject l)
 | []=>trivial
 | env :: outer=>by
  unfold frameObject
  refine Ja (m:=readyFrames (env :: outer)) ?_ (J3o _)
  intro _
  exact trivial
theorem J3z (env:Env):SafeT (PySem.frameOf env):=by
 unfold PySem.frameOf
 refine Ja (m:=frameEnvs) ?_ J35
 intro l
 refine Ja (m:=frameObject _) ?_ (J2e _)
 intro o
 cases o with
 | some f=>exact trivial
 | none=>exact J14 _
theorem J3p (a b c d e:Value) (pl:List Value):SafeT (EntryCells.newEntry a b c d e pl):=by
 unfold EntryCells.newEntry newFields newObj
 generalize ([a,b,c,d,e] ++ if pl.isEmpty=true then List.replicate 6 Value.none else pl).toArray=vs
 have hn:SafeT (newObjAsIs (.type "traceback") (.fields vs)):=by
  unfold newObjAsIs
  intro x
  exact trivial
 dsimp only
 split
 ·refine Ja (m:=unsupported _) ?_ (J14 _)
  intro _
  exact hn
 ·exact hn
theorem J1n (e:Value) (env:Env):SafeT (noteFrame e env):=by
 unfold noteFrame
 split
 ·rename_i f _
  refine Ja (m:=field e 1) ?_ (J1o _ _)
  intro head
  have last:SafeT (do
    let a ← PySem.frameOf env
    let b ← entryPlaceOf f (head != Value.none)
    let c ← EntryCells.newEntry head a Value.none (rawInt ↑f) Value.none b
    setField e 1 c):=by
   refine Ja (m:=PySem.frameOf env) ?_ (J3z env)
   intro a
   refine Ja (m:=entryPlaceOf f _) ?_ (J2t _ _)
   intro b
   refine Ja (m:=EntryCells.newEntry head a Value.none (rawInt ↑f) Value.none b) ?_ (J3p _ _ _ _ _ _)
   intro c
   exact J19 _ _ _
  dsimp only
  split
  ·refine Ja (m:=field head 3) ?_ (J1o _ _)
   intro v
   split
   ·exact trivial
   ·refine Ja (m:=setField head 3 Value.none) ?_ (J19 _ _ _)
    intro _
    exact last
  ·exact last
 ·exact J14 _
theorem J2d (e:Value) (env:Env):SafeT (leaving env e):=by
 unfold leaving
 refine Ja (m:=noteFrame e env) ?_ (J1n e env)
 intro _
 exact J16 e none
end L2
namespace L2
open PySem PySem.Spec PyProof.Rows PySem.W PySem.Builtin PySem.Builtin.ObjectAttr
def onlyV:List Value→Bool
 | .ref _ :: r=>onlyV r
 | l=>l == bmV
def overV (K:Frag) (C:Addr):Bool:=(clsIn K C).any fun cd=>onlyV cd.mro
theorem J2h (self:Value):∀ {l:List Value},onlyV l=true→refuseLoop self "__setattr__" l=pure ()
 | [],e=>by cases e
 | .ref c :: r,e=>by rw [refuseLoop_ref];exact J2h self e
 | .type n :: r,e=>by
  have e':(Value.type n :: r)=bmV:=eq_of_beq e
  rw [e']
  exact PySem.F.store_ValueError.passes self
 | .none :: r,e=>by cases e
 | .ellipsis :: r,e=>by cases e
 | .notImplemented :: r,e=>by cases e
 | .bool _ :: r,e=>by cases e
 | .int _ _ :: r,e=>by cases e
 | .float _ _ :: r,e=>by cases e
 | .str _ _ :: r,e=>by cases e
 | .bytes _ _ :: r,e=>by cases e
 | .builtin _ :: r,e=>by cases e
theorem onlyV_has:∀ {l:List Value},onlyV l=true→l.contains (.type "object")=true
 | [],e=>by cases e
 | .ref c :: r,e=>by rw [List.contains_cons,onlyV_has (l:=r) e,Bool.or_true]
 | .type n :: r,e=>by
  have e':(Value.type n :: r)=bmV:=eq_of_beq e
  rw [e'];decide
 | .none :: r,e=>by cases e
 | .ellipsis :: r,e=>by cases e
 | .notImplemented :: r,e=>by cases e
 | .bool _ :: r,e=>by cases e
 | .int _ _ :: r,e=>by cases e
 | .float _ _ :: r,e=>by cases e
 | .str _ _ :: r,e=>by cases e
 | .bytes _ _ :: r,e=>by cases e
 | .builtin _ :: r,e=>by cases e
section
variable {prog:Program} {w:World} {A:Around} {E:Value→Shared→Prop} {s:Shared} {K:Frag} {x C:Addr} {R:Result→Shared→Prop}
theorem osa_openV {ox:Obj} {od:Option Obj} {name:Str} {tk:Tok} {v:Value} (X:K.In s.heap) (I:InstAt s.heap x ox C od) (hp:overV K C=true) (ha:findIn K (.ref C) name=some none)
  (h:wpAny (model prog w) A.in1 (storeInOwnDict (.ref x) (.ref C) (.str name tk) name v false)
   (fun fin s'=>match fin with | .done f=>R (.ok f) s' | .again c'=>c'.quiet=true∧codeAny (model prog w) A c' R s') (fun e s'=>R (.error e) s') s) :
  codeAny (model prog w) A (.call (.builtin "object.__setattr__") ⟨[.ref x,.str name tk,v],[]⟩) R s:=by
 have SF:=PySem.F.store_object
 obtain ⟨cd,hc,ho⟩:=any_some hp
 have ne:cd.mro.isEmpty=false:=by cases q:cd.mro with | nil=>rw [q] at ho;cases ho | cons _ _=>rfl
 have sub:Looks (model prog w) s.heap (isInstance (.ref x) (.type "object")) true:=I.type.andThen (looks_mroIn X (by unfold mroIn;rw [hc,Option.bind_some,if_neg (by rw [ne];decide),onlyV_has ho]))
 refine codeAny_call_builtin SF.slot.plain SF.entry (@check_slot (model prog w) _ _ s "object.__setattr__" "object" "__setattr__" (.ref x) [.str name tk,v] [] _ SF.kind SF.split sub (SF.args (.ref x) (.str name tk) v) ?_)
 have hm:Looks (model prog w) s.heap (mroOf (.ref C)) cd.mro:=(looks_clsIn X hc).andThen .now
 rw [osa_eq,refuse_eq]
 refine wpAny_bind (wpAny_bind (I.type.here (wpAny_bind (hm.here ?_))))
 rw [J2h _ ho]
 refine wpAny_pure (wpAny_bind (I.type.here (wpAny_bind ((looks_findIn X ha).here (wpAny_bind (wpAny_pure ?_))))))
 exact h
theorem set_new {ox:Obj} {name:Str} {v:Value} {Q:Unit→Shared→Prop} (X:K.In s.heap) (I:InstAt s.heap x ox C none) (hdn:ox.dict=none) {vs:Array Value} (hfd:ox.data=.fields vs)
  (hs:findIn K (.ref C) "__setattr__"=some (some (.builtin "object.__setattr__"))) (hp:overV K C=true) (ha:findIn K (.ref C) name=some none) (hh:hasDictIn K C=true)
  (h:∀ h' tk,h'.get? x=some { ox with dict:=some s.heap.objs.size }→h'.Ns1 s.heap.objs.size (fun y=>if y=name then some v else none)→(∀ b o,b≠x→s.heap.get? b=some o→h'.get? b=some o)→Q () { s with heap:=h',toks:=tk }) :
  wpAny (model prog w) A (setAttr (.ref x) name v) Q E s:=by
 refine set_plain X I hs (osa_openV (s:={ s with toks:=s.toks + 1 }) X I hp ha ?_)
 obtain ⟨cd,hc,hd'⟩:=any_some hh
 have hx:s.heap.get? x=some ox:=I.at_
 obtain ⟨_,hcl,hno,_⟩:=I
 obtain ⟨oc,odi,oda,osl⟩:=ox
 dsimp only at hcl hdn hno hfd h
 subst hcl hdn hfd
 unfold storeInOwnDict
 refine wpAny_bind (wpAny_pure (wpAny_bind (wpAny_bind (wpAny_loadPart hx (wpAny_bind (Looks.here (s:={ s with toks:=s.toks + 1 }) (looks_clsIn X hc) ?_))))))
 rw [hd']
 have hx1:(s.heap.push { cls:=.type "dict",data:=.dict #[] }).get? x=some ⟨.ref C,none,.fields vs,osl⟩:=Heap.get?_push_of_some _ hx
 have hxs:x≠s.heap.objs.size:=Nat.ne_of_lt (Heap.lt_size hx)
 rw [if_neg (by decide)]
 dsimp only
 rw [if_neg (by simp [typeHasDict])]
 refine wpAny_bind (wpAny_alloc' ?_)
 refine wpAny_bind (wpAny_update' hx1 ?_)
 refine wpAny_pure ?_
 have hgd:((s.heap.push { cls:=.type "dict",data:=.dict #[] }).update x fun o=>{ cls:=o.cls,dict:=some s.heap.objs.size,data:=o.data,slots:=o.slots }).get? s.heap.objs.size=some { cls:=.type "dict",data:=.dict #[] } :=
  (Heap.get?_update_ne _ _ _ _ hxs.symm).trans (Heap.get?_push_at rfl rfl)
 have hnd:((s.heap.push { cls:=.type "dict",data:=.dict #[] }).update x fun o=>{ cls:=o.cls,dict:=some s.heap.objs.size,data:=o.data,slots:=o.slots }).Ns s.heap.objs.size (fun _=>none) :=
  ⟨_,#[],_,hgd,rfl,fun e he=>absurd he (by simp),fun _=>rfl⟩
 show wpAny _ _ (storeInDict s.heap.objs.size (.str name _) name v) _ _ _
 unfold storeInDict newKeyGuard
 refine wpAny_bind (wpAny_pure (wpAny_bind (wpAny_nsSet1 (Heap.Ns1.of_empty hnd) fun h' hn' hs'=>?_)))
 obtain ⟨oD,esD,epD,hoD,hdD,hcD⟩:=hn'.count (Within.cons name v Within.nil)
 refine wpAny_bind (wpAny_lookBehind hoD (by rw [hdD];exact pastItsLine_dict (Nat.le_trans hcD (by rw [List.length_cons,List.length_nil,sizeLine_eq];omega))) ?_)
 refine wpAny_pure (h h' _ ?_ hn' fun b o hb e=>?_)
 ·exact (hs'.2 x hxs).trans (Heap.get?_update_self _ hx1 rfl)
 ·exact (hs'.2 b (Nat.ne_of_lt (Heap.lt_size e))).trans ((Heap.get?_update_ne _ _ _ _ hb).trans (Heap.get?_push_of_some _ e))
end
end L2
namespace L2
open PySem PySem.Spec PyProof.Rows PySem.W
section
variable {prog:Program} {w:World} {A:Around} {E:Value→Shared→Prop} {K:Frag} {x D:Addr} {ox:Obj} {od:Option Obj} {hh:Heap} {g:Array GenState} {d:Drawn} {t:Nat} {os:OsState} {name:Str} {expr:Bool} {v:Value}
theorem x_attr {Q:Value→Shared→Prop} (X:K.In hh) (W:XCls K D) (I:InstAt hh x ox D od) {cd:ClassData} (hn:findIn K (.ref D) name=some none) (hc:clsIn K D=some cd) (ho:ownOf cd od name=some (some v)) (hv:handedIn v=true) (h:Q v ⟨hh,g,d,t + 1,os⟩) :
  wpAny (model prog w) A (getAttr (.ref x) name expr) Q E ⟨hh,g,d,t,os⟩:=by
 have L0:=I.type (M:=model prog w)
 have L1:=looks_findIn (M:=model prog w) X W.ga
 have L2:=looks_findIn (M:=model prog w) X W.no
 have L3:=looks_findIn (M:=model prog w) X hn
 have L6:=looks_own (M:=model prog w) X I hc ho
 have L4:=looks_mroIn (M:=model prog w) X W.mb
 have gb:=PySem.F.attrBase_ValueError.ga.bind (.ref x)
 unfold getAttr getAttrBy
 refine wpAny_bind (wpAny_mkText (wpAny_holding (wpAny_bind (L0.at (wpAny_bind (L1.at ?_))))))
 have nb:(Value.builtin "BaseException.__getattribute__" == Value.builtin "object.__getattribute__")=false:=by decide +kernel
 show wpAny _ _ (if (onTheHeap (Value.ref D) && Value.builtin "BaseException.__getattribute__" == Value.builtin "object.__getattribute__")=true then _ else _) _ _ _
 rw [nb,Bool.and_false,if_neg Bool.false_ne_true]
 unfold getAttrByItsOwn hookBefore
 apply wpAny_bind
 show wpAny _ _ (if onTheHeap (Value.ref D)=true then _ else _) _ _ _
 rw [if_pos (show onTheHeap (Value.ref D)=true from rfl)]
 refine L2.at ?_
 apply wpAny_bind
 apply wpAny_attempt
 apply wpAny_holding
 unfold callGetattribute
 rw [show onTheHeap (Value.builtin "BaseException.__getattribute__")=false from rfl,Bool.and_false,if_neg Bool.false_ne_true]
 unfold boundAndCalled
 rw [gb]
 apply wpAny_bind
 apply wpAny_pure
 refine wpAny_call (codeAny_call_builtin PySem.F.attrBase_ValueError.ga.plain PySem.F.entry_bexc_ga ?_)
 have hk:builtinKind "BaseException.__getattribute__"=some .slot:=by decide +kernel
 have hs:splitId "BaseException.__getattribute__"=some ("BaseException","__getattribute__"):=by decide +kernel
 have ha:=PySem.F.args_bexc_ga (.ref x) (.str name t)
 have L5:Looks (model prog w) hh (isInstance (.ref x) (.type "BaseException")) true:=L0.andThen L4
 have p1:=I.at_
 have p2:=I.cls
 simp only [checkBuiltinCall,hk,hs]
 apply wpAny_bind
 refine L5.at ?_
 repeat (first | assumption | wp_step)
 rw [p2]
 refine L3.at ?_
 apply wpAny_bind
 apply wpAny_pure
 apply wpAny_bind
 apply wpAny_pure
 unfold Builtin.ObjectAttr.ownThenClass
 apply wpAny_bind
 refine L6.at ?_
 refine wpAny_bind (wpAny_rule (wpAny_pure (wpAny_pure ?_)))
 show wpAny _ _ (handedOut v) _ _ _
 rw [handedOut_of hv]
 exact wpAny_pure h
end
end L2
namespace L2
open PySem PySem.Spec PyProof.Rows
section
variable {prog:Program} {w:World} {A:Around} {E:Value→Shared→Prop} {h:Heap} {g:Array GenState} {d:Drawn} {t:Nat} {os:OsState}
variable {nm q:Str} {C N:Addr} {bs bm bmB:List Value} {hdct:Bool} {sn:List Str} {sub:List Value} {ab:Bool} {col:Option Bool} {dd:Option Addr} {k0 k1 k2 k3 k5:Option Value} {B newId initId:String}
theorem typeCallI (F:ExcBaseFacts B newId initId bmB) (T:OwnTail h bmB bm) {mN:Str→Option Value} {rest:List Value} {fI:Addr} {oI:Obj} {Q:PySem.Fin→Shared→Prop}
  (hC:h.get? C=some (excClassObj nm q C N bs bm hdct sn sub ab col dd k0 k1 k2 k3 k5 newId)) (hn:h.Ns N mN) (hi:mN "__init__"=some (.ref fI)) (hfI:h.get? fI=some oI) (hfc:oI.cls=.type "function")
  (hq:wpAny (model prog w) A (call (.ref fI) (.ref (h.objs.size + 1) :: rest)) (fun r s'=>r=.none∧Q (.done (.ret (.ref (h.objs.size + 1)))) s') E
   ⟨(h.push { cls:=.type "tuple",data:=.seq rest.toArray }).push { cls:=.ref C,data:=.fields #[.ref h.objs.size,.none,.none,.none,.bool false,.none] },g,d,t,os⟩) (hrest:rest.length≤sizeLine) :
  wpAny (model prog w) A (Builtin.«type.__call__» ⟨.ref C :: rest,[]⟩) Q E ⟨h,g,d,t,os⟩:=by
 repeat (first | with_reducible refine wpAny_loadPart_at hC ?_ | with_reducible refine wpAny_madeBy_exc hC ?_ | wp_step)
 refine codeAny_call_builtin_code (Code.quiet_builtin _ F.quiet) (wpAny_check_new_subT F T hC ?_)
 refine codeAny_exc_new_subT F T hC ?_ hrest
 show wpAny _ _ _ _ _ _
 have kp:∀ b o,h.get? b=some o→((h.push { cls:=.type "tuple",data:=.seq rest.toArray }).push { cls:=.ref C,data:=.fields #[.ref h.objs.size,.none,.none,.none,.bool false,.none] }).get? b=some o :=
  fun b o e=>Heap.get?_push_of_some _ (Heap.get?_push_of_some _ e)
 have hC1:=kp _ _ hC
 have hfI1:=kp _ _ hfI
 have hn1:=hn.keeps kp
 have hget:((h.push { cls:=.type "tuple",data:=.seq rest.toArray }).push { cls:=.ref C,data:=.fields #[.ref h.objs.size,.none,.none,.none,.bool false,.none] }).get? (h.objs.size + 1)=some
   { cls:=.ref C,data:=.fields #[.ref h.objs.size,.none,.none,.none,.bool false,.none] }:=Heap.get?_push_at (by rw [Heap.size_push]) rfl
 have hcC:(Value.ref C :: bm).contains (.ref C)=true:=by simp
 have T1:=T.keeps kp
 unfold isInstance
 repeat (first | with_reducible refine wpAny_loadPart_at hget ?_ | (with_reducible refine wpAny_isSubtype_exc hC1 ?_;rw [hcC]) | wp_step)
 show wpAny _ _ (typeLookup (.ref C) _) _ _ _
 refine wpAny_typeLookup_tail hC1 hn1 T1 F.mroIs F.init.lookup ?_
 rw [hi]
 refine wpAny_holding (wpAny_bind ?_)
 unfold bindSpecial
 refine wpAny_bind (wpAny_typeOf (T:="function") ⟨_,hfI1,hfc⟩ ?_)
 rw [if_pos (by decide)]
 refine wpAny_pure (wpAny_bind (wpAny_mono hq (fun r s' hr=>?_) fun _ _ x=>x))
 obtain ⟨rfl,hQ⟩:=hr
 wp_walk
 exact hQ
theorem callI (F:ExcBaseFacts B newId initId bmB) (T:OwnTail h bmB bm) {mN:Str→Option Value} {rest:List Value} {fI:Addr} {oI:Obj} {Q:Value→Shared→Prop}
  (hC:h.get? C=some (excClassObj nm q C N bs bm hdct sn sub ab col dd k0 k1 k2 k3 k5 newId)) (hn:h.Ns N mN) (hi:mN "__init__"=some (.ref fI)) (hfI:h.get? fI=some oI) (hfc:oI.cls=.type "function")
  (hq:wpAny (model prog w) (A.under (.builtin "type.__call__" ⟨.ref C :: rest,[]⟩)) (call (.ref fI) (.ref (h.objs.size + 1) :: rest)) (fun r s'=>r=.none∧Q (.ref (h.objs.size + 1)) s') E
   ⟨(h.push { cls:=.type "tuple",data:=.seq rest.toArray }).push { cls:=.ref C,data:=.fields #[.ref h.objs.size,.none,.none,.none,.bool false,.none] },g,d,t,os⟩) (hrest:rest.length≤sizeLine) :
  wpAny (model prog w) A (call (.ref C) rest) Q E ⟨h,g,d,t,os⟩:=by
 have f1:=tc_lookup
 have f2:=tc_bind (.ref C)
 have hT:(⟨h,g,d,t,os⟩:Shared).TypeIs (.ref C) "type":=⟨_,hC,rfl⟩
 refine wpAny_call (codeAny_of_tree ?_)
 show wpAny _ _ (callAny (.ref C) _) _ _ _
 repeat (any_goals (first | assumption | with_reducible refine wpAny_loadPart_at hC ?_ | wp_step))
 refine ⟨rfl,?_⟩
 exact codeAny_call_builtin_at (Code.quiet_builtin _ (by decide +kernel)) entry_typeCall (wpAny_check_type_call_sub hC (typeCallI F T hC hn hi hfI hfc hq hrest))
end
end L2
namespace L2
open PySem PySem.Spec PyProof.Rows
abbrev excData (t:Addr):Data:=.fields #[.ref t,.none,.none,.none,.bool false,.none]
def excN (a C t:Addr):HO:=.ext fun h=>h.get? a=some { cls:=.ref C,data:=excData t }
def excD (a C t dx:Addr):HO:=.ext fun h=>h.get? a=some { cls:=.ref C,dict:=some dx,data:=excData t }
section
variable {X:Cx} {pins:List (Addr × Obj)} {σ:St} {H:Hp} {s:Shared} {h':Heap}
theorem Inv.store2 {x dx:Addr} {ox od:HO} {φ:Heap→Prop} {t':Nat} (I:Inv X pins σ H s) (hx:H x=some (.ext φ)) (k:∀ b u,b≠x→s.heap.get? b=some u→h'.get? b=some u) (hxo:∃ u,h'.get? x=some u)
  (hp:s.heap.objs.size≤dx) (newx:ObjOk X.prog X.w (upd (upd H dx od) x ox) h' x ox) (newd:ObjOk X.prog X.w (upd (upd H dx od) x ox) h' dx od):Inv X pins σ (upd (upd H dx od) x ox) { s with heap:=h',toks:=t' }:=by
 have hdx:H dx=none:=I.hok.fresh hp
 have nx:∀ b,H b=none→b≠x:=fun b n z=>by rw [z,hx] at n;cases n
 have ne:∀ b u,H b=some u→(∀ ψ,u≠.ext ψ)→b≠x∧b≠dx:=fun b u e q=>⟨fun z=>by rw [z,hx] at e;cases e;exact q _ rfl,fun z=>by rw [z,hdx] at e;cases e⟩
 have st:∀ b u,H b=some u→(∀ ψ,u≠.ext ψ)→upd (upd H dx od) x ox b=some u:=fun b u e q=>by
  obtain ⟨n1,n2⟩:=ne b u e q
  rw [Jf n1,Jf n2];exact e
 refine I.un ⟨fun b u q n _ _=>k b u (nx b n) q,fun b u q n _ _=>⟨u.slots,k b u (nx b n) q⟩,fun b u q n _=>?_,fun b u q _=>?_,fun b xs q=>st b _ q (fun _ z=>nomatch z),fun b u xs q=>st b _ q (fun _ z=>nomatch z),fun b ps q=>⟨#[],by rw [st b _ q (fun _ z=>nomatch z)];simp⟩⟩ fun b u e=>?_
 ·rw [Jf (nx b n),Jf (Nat.ne_of_lt (Nat.lt_of_lt_of_le (Heap.lt_size q) hp))];exact n
 ·by_cases c:b=x
  ·subst c;exact hxo
  ·exact ⟨u,k b u c q⟩
 ·by_cases c:b=x
  ·subst c;rw [J3] at e;cases e;exact newx
  ·rw [Jf c] at e
   by_cases c2:b=dx
   ·subst c2;rw [J3] at e;cases e;exact newd
   ·rw [Jf c2] at e
    refine (I.hok b u e).stay (fun c' v hc q=>k c' v ?_ q) (fun c' q=>st c' _ q (fun _ z=>nomatch z)) fun c' xs q=>st c' _ q (fun _ z=>nomatch z)
    rcases hc with z | z
    ·rw [z];exact c
    ·exact (ne c' _ z (fun _ z=>nomatch z)).1
def off (H:Hp) (x:Addr):Hp:=fun b=>if b=x then none else H b
theorem off_ne {H:Hp} {x b:Addr} (h:b≠x):off H x b=H b:=if_neg h
theorem J43 {H:Hp} {x:Addr}:off H x x=none:=if_pos rfl
theorem Inv.drop {x:Addr} {φ:Heap→Prop} (I:Inv X pins σ H s) (hx:H x=some (.ext φ)) (hn:X.s₀.heap.get? x=none):Inv X pins σ (off H x) s:=by
 have st:∀ b u,H b=some u→(∀ ψ,u≠.ext ψ)→off H x b=some u:=fun b u e q=>by
  rw [off_ne (fun z=>by rw [z,hx] at e;cases e;exact q _ rfl)];exact e
 have fr:∀ b,H b=none→off H x b=none:=fun b e=>by
  by_cases c:b=x
  ·rw [c];exact J43
  ·rw [off_ne c];exact e
 exact ⟨I.ok,I.os,I.bare,⟨I.base.keep,I.base.slot,fun b o e n he=>fr b (I.base.free b o e n he),I.base.there,fun b xs q=>st b _ (I.base.tups b xs q) (fun _ z=>nomatch z),fun b o u q=>st b _ (I.base.frzs b o u q) (fun _ z=>nomatch z),
  fun b ps q=>by obtain ⟨m,e⟩:=I.base.tbls b ps q;exact ⟨m,st b _ e (fun _ z=>nomatch z)⟩⟩,I.loc,I.cell,fr _ I.free,fun y c e=>fr _ (I.freeC y c e),fun p hp=>by obtain ⟨a,b,c⟩:=I.pin p hp;exact ⟨a,fr _ b,c⟩,
  fun b u e=>by
   by_cases c:b=x
   ·rw [c,J43] at e;cases e
   ·rw [off_ne c] at e
    exact (I.hok b u e).stay (fun c' v _ q=>q) (fun c' q=>st c' _ q (fun _ z=>nomatch z)) fun c' xs q=>st c' _ q (fun _ z=>nomatch z),I.len⟩
end
structure XNew (K:PySem.W.Frag) (C:Addr) (f:Str):Prop where
 sa:PySem.W.findIn K (.ref C) "__setattr__"=some (some (.builtin "object.__setattr__"))
 ov:overV K C=true
 no:PySem.W.findIn K (.ref C) f=some none
 hd:PySem.W.hasDictIn K C=true
def sFldN (K:PySem.W.Frag) (ta tv:TE) (f:Str):TS:=fun D σ H=>tv σ H fun y H1=>ta σ H1 fun x H2=>∃ a C t,x=.ref a∧H2 a=some (excN a C t)∧XNew K C f∧∀ dx,H2 dx=none→D.nx σ (upd (upd H2 dx (.xd [(f,y)])) a (excD a C t dx))
theorem ps_fldN {X:Cx} {o value:Expr} {ta tv:TE} {f:Str} {pos pos':Pos} (ha:PE X o ta) (hv:PE X value tv) (hs:swapsWith value (some (.Attribute o f pos')) pos.line X.env=pure false):PS X (.Assign [.Attribute o f pos'] value pos) (sFldN X.K ta tv f):=by
 intro pins s σ H D I h
 refine plainObj_wpAny_Assign_Attribute (thn (hv pins s σ H _ I h) fun u s1 ⟨y,H1,I1,ry,q⟩=>thn (ha pins s1 σ H1 _ I1 q) fun ov s2 ⟨x,H2,I2,rx,a,C,t,ex,ea,c,q2⟩=>?_) hs
 subst ex
 obtain rfl:ov=Value.ref a:=rx
 have hob:s2.heap.get? a=some { cls:=.ref C,data:=excData t }:=(I2.hok a _ ea).1
 refine set_new I2.kIn ⟨hob,rfl,rfl,trivial⟩ rfl rfl c.sa c.ov c.no c.hd fun h' tk hx' hn' kp=>?_
 have hdx:=I2.hok.fresh (Nat.le_refl s2.heap.objs.size)
 have nad:s2.heap.objs.size≠a:=fun z=>by rw [z,ea] at hdx;cases hdx
 refine ⟨σ,_,Inv.store2 I2 ea kp ⟨_,hx'⟩ (Nat.le_refl _) ?_ ?_,q2 _ hdx⟩
 ·exact ⟨hx',⟨_,hx'⟩,fun h1 h2 e k=>k _ e⟩
 ·refine ⟨_,hn',fun g=>?_⟩
  show RelO (List.lookup g [(f,y)]) (if g=f then some u else none)
  by_cases c:g=f
  ·have hb:(g == f)=true:=beq_iff_eq.mpr c
   simp only [List.lookup,hb,if_pos c]
   exact ry
  ·have hb:(g == f)=false:=beq_eq_false_iff_ne.mpr c
   simp only [List.lookup,hb,if_neg c]
   exact trivial
section
variable {M:Model} {A:Around} {E:Value→Shared→Prop} {env:Env} {nm q:Str} {C N:Addr} {bs bm:List Value} {hdct:Bool} {sn:List Str} {sub:List Value} {ab:Bool} {col:Option Bool} {dd:Option Addr} {k0 k1 k2 k3 k5:Option Value} {newId:String}
theorem raiseStmtI {s:Shared} {x:Sem Value} {Q:Flow→Shared→Prop} (hbase:bm.contains (.type "BaseException")=true) (hh:A.handled=none)
  (h:wpAny M A x (fun v s1=>∃ e t dx,v=.ref e∧s1.heap.get? C=some (excClassObj nm q C N bs bm hdct sn sub ab col dd k0 k1 k2 k3 k5 newId)∧
   s1.heap.get? e=some { cls:=.ref C,dict:=some dx,data:=.fields #[.ref t,.none,.none,.none,.bool false,.none] }∧E (.ref e) s1) E s) :
  wpAny M A (raiseStmt env (some x) none) Q E s:=by
 have hcB:(Value.ref C :: bm).contains (.type "BaseException")=true:=by rw [List.contains_cons,hbase,Bool.or_true]
 unfold raiseStmt
 refine wpAny_bind (wpAny_mono h (fun v s1 h1=>?_) fun _ _ x=>x)
 obtain ⟨e,t,dx,rfl,hC,he,hE⟩:=h1
 obtain ⟨hp,g,d,tk,os⟩:=s1
 repeat (first | with_reducible refine wpAny_loadPart_at he ?_ | with_reducible refine wpAny_loadPart_at hC ?_ | (with_reducible refine wpAny_isSubtype_exc hC ?_;rw [hcB]) | wp_step)
 exact wpAny_raiseNew_none hh hE
end
end L2
namespace L2
open PySem PySem.Spec PyProof.Rows
def Exc2 (P:Program) (w:World):CXT:=fun outer H s E e s'=>∃ od:Option Addr,Exc1 P w outer H s (fun cls _ H'=>E cls od H') e s'∧∀ ea,e=.ref ea→∃ ob,s'.heap.get? ea=some ob∧ob.dict=od
theorem get_objs {h:Heap} {a:Addr} {o:Obj} (e:h.get? a=some o):h.objs[a]?=some o:=by
 unfold Heap.get? at e
 split at e
 ·cases e
 ·exact e
theorem DictsStay.at_ {h h':Heap} {a:Addr} {o o':Obj} (d:DictsStay h h') (e:h.get? a=some o) (e':h'.get? a=some o'):o'.dict=o.dict:=by
 obtain ⟨u,e1,e2⟩:=d a o (get_objs e)
 rw [get_objs e'] at e1
 cases e1
 exact e2
section
variable {P:Program} {w:World} {K:PySem.W.Frag} {mg:Str→Option Value} {base:Heap} {N:List Str} {qual:Str} {scope:Scope} {f:Addr} {cd:Value} {A:Around} {outer:List Env} {s0:Shared} {H0:Hp} {E E':XK} {pins:List (Addr × Obj)} {σ:St} {H:Hp} {s:Shared}
theorem inv_cx {CX CX':CXT} (I:Inv (cxOf CX P w K mg base N qual scope f cd A outer s0 H0 E) pins σ H s):Inv (cxOf CX' P w K mg base N qual scope f cd A outer s0 H0 E') pins σ H s:=(I.wish _).unwish (X:=cxOf CX' P w K mg base N qual scope f cd A outer s0 H0 E') (E:=(cxOf CX P w K mg base N qual scope f cd A outer s0 H0 E).xe)
theorem Exc1.there {e:Value} {s1 s2:Shared} (x:Exc1 P w outer H s E e s1) {ea:Addr} (h:e=.ref ea):∃ ob,s1.heap.get? ea=some ob:=by
 obtain ⟨ea',cls,H',B,a0,rfl,_,_,fly,_⟩:=x
 cases h
 obtain ⟨ob,e,_⟩:=fly.there
 exact ⟨ob,e⟩
theorem pass1F {e:Value} {s':Shared} (I:Inv (cxOf (Exc1 P w) P w K mg base N qual scope f cd A outer s0 H0 E) pins σ H s) (x:Exc1 P w (envOfC qual scope s0.heap.objs.size f cd :: outer) H s E e s') :
  wpAny (model P w) (A.deeper (envOfC qual scope s0.heap.objs.size f cd)) (leaving (envOfC qual scope s0.heap.objs.size f cd) e) (fun _ s''=>Exc1 P w outer H0 s0 E e s'') (fun _ _=>False) s':=by
 obtain ⟨ea,cls,H',B,a0,rfl,os,bare,fly,un,hok,hea,new,trk,inB,q⟩:=x
 have fl:∀ {b:Addr},b∈frs (envOfC qual scope s0.heap.objs.size f cd :: outer)↔b=s0.heap.objs.size∨b∈frs outer:=frs_cons rfl
 have nf:∀ b u,s0.heap.get? b=some u→b ∉ frs outer→b ∉ frs (envOfC qual scope s0.heap.objs.size f cd :: outer):=fun b u e n z=>(fl.mp z).elim (Nat.ne_of_lt (Heap.lt_size e)) n
 have fly0:Heap.FlyingW B (envOfC qual scope s0.heap.objs.size f cd :: outer) ea cls a0 s'.heap:=fly
 have un:Un (frs (envOfC qual scope s0.heap.objs.size f cd :: outer)) [] H H' s.heap s'.heap:=un
 have inB:∀ b u,s.heap.get? b=some u→b ∉ frs (envOfC qual scope s0.heap.objs.size f cd :: outer)→∃ v,B.get? b=some v:=inB
 refine wpAny_leaves_onW (L:=s0.heap.objs.size) I.ok.frames rfl fly0 fun h'' fly2 ups=>?_
 have stay:∀ b o,s.heap.get? b=some o→b ∉ frs (envOfC qual scope s0.heap.objs.size f cd :: outer)→∀ o',s'.heap.get? b=some o'→h''.get? b=some o':=fun b o e n o' e'=>by
  obtain ⟨v,hv⟩:=inB b o e n
  have:=fly0.1 b v hv
  rw [e'] at this;cases this
  exact fly2.1 b _ hv
 refine ⟨ea,cls,H',B,a0,rfl,os.trans I.os,bare,fly2,⟨fun b o e n hb _=>?_,fun b o e n hb _=>?_,fun b o e n _=>?_,fun b o e _=>?_,fun b xs e=>un.tups b xs (I.base.tups b xs e),fun b o u e=>un.frzs b o u (I.base.frzs b o u e),fun b ps e=>?_⟩,hok.over trk fly0.1 fly2.1,hea,?_,trk,fun b u e n=>?_,q⟩
 ·have e1:=I.base.keep b o e n hb (by simp [cxOf])
  have n1:=I.base.free b o e n (by simp [cxOf])
  exact stay b o e1 (nf b o e hb) o (un.keep b o e1 n1 (nf b o e hb) (by simp))
 ·obtain ⟨sl,e1⟩:=I.base.slot b o e n hb (by simp [cxOf])
  have n1:=I.base.free b o e n (by simp [cxOf])
  obtain ⟨sl',e2⟩:=un.slot b _ e1 n1 (fl.mpr (.inr hb)) (by simp)
  obtain ⟨o',e3,nd⟩:=noFlds fly0.2.2.1 (fl.mpr (.inr hb))
  rw [e2] at e3;cases e3
  obtain ⟨sl'',e4⟩:=ups b _ e2 nd
  exact ⟨sl'',e4⟩
 ·obtain ⟨o',e1⟩:=I.base.there b o e (by simp [cxOf])
  exact un.free b o' e1 (I.base.free b o e n (by simp [cxOf])) (by simp)
 ·obtain ⟨o',e1⟩:=I.base.there b o e (by simp [cxOf])
  obtain ⟨o2,e2⟩:=un.there b o' e1 (by simp)
  by_cases hb:b∈frs outer
  ·obtain ⟨o3,e3,nd⟩:=noFlds fly0.2.2.1 (fl.mpr (.inr hb))
   obtain ⟨sl,e4⟩:=ups b o3 e3 nd
   exact ⟨_,e4⟩
  ·exact ⟨o2,stay b o' e1 (nf b o e hb) o2 e2⟩
 ·obtain ⟨m1,e1⟩:=I.base.tbls b ps e
  obtain ⟨m2,e2⟩:=un.tbls b _ e1
  exact ⟨m1 ++ m2,by rw [e2,Array.append_assoc]⟩
 ·cases z:s0.heap.get? ea with
  | none=>rfl
  | some o =>
   obtain ⟨o',e1⟩:=I.base.there ea o z (by simp [cxOf])
   rw [e1] at new;cases new
 ·obtain ⟨o',e1⟩:=I.base.there b u e (by simp [cxOf])
  exact inB b o' e1 (nf b u e n)
theorem pass2:Passes (Exc2 P w) (cxOf (Exc2 P w) P w K mg base N qual scope f cd A outer s0 H0 E) E:=by
 rintro pins σ H s e s' I ⟨od,x,hd⟩
 have x0:=x
 obtain ⟨ea,cls,H',B,a0,rfl,_⟩:=x0
 have q:=pass1F (E:=fun cls _ H'=>E cls od H') (inv_cx I) x
 obtain ⟨ob,hob,hdo⟩:=hd ea rfl
 refine wpAny_mono (J2f (J2d (.ref ea) _) q) (fun _ s2 h2=>⟨od,h2.1,fun ea' he=>?_⟩) fun _ _ z=>z.1.elim
 cases he
 obtain ⟨ob2,e2⟩:=Exc1.there (s2:=s2) h2.1 rfl
 exact ⟨ob2,e2,(h2.2.at_ hob e2).trans hdo⟩
theorem xe_made2 {ea:Addr} {oe:Obj} {vs:Array Value} {a0:Value} (I:Inv (cxOf (Exc2 P w) P w K mg base N qual scope f cd A outer s0 H0 E) pins σ H s) (he:s.heap.get? ea=some oe) (hd:oe.data=.fields vs) (h1:vs[1]?=some .none) (h0:vs[0]?=some a0)
  (hea:H ea=none) (hnew:s0.heap.get? ea=none) (q:E oe.cls oe.dict H):(cxOf (Exc2 P w) P w K mg base N qual scope f cd A outer s0 H0 E).xe (.ref ea) s:=by
 have fr:s.heap.FunFrames base (envOfC qual scope s0.heap.objs.size f cd :: outer):=I.stack
 have hin:∀ env∈(envOfC qual scope s0.heap.objs.size f cd :: outer),∀ b,env.frame=some b→b∈ea :: frs (envOfC qual scope s0.heap.objs.size f cd :: outer):=fun env he b hb=>List.mem_cons_of_mem _ (List.mem_filterMap.mpr ⟨env,he,hb⟩)
 have fl:∀ {b:Addr},b∈frs (envOfC qual scope s0.heap.objs.size f cd :: outer)↔b=s0.heap.objs.size∨b∈frs outer:=frs_cons rfl
 have inB:∀ b u,s.heap.get? b=some u→b≠ea→b ∉ frs (envOfC qual scope s0.heap.objs.size f cd :: outer)→(PySem.W.hideAll s.heap (ea :: frs (envOfC qual scope s0.heap.objs.size f cd :: outer))).get? b=some u:=fun b u e n1 n=>PySem.W.hideAll_get _ e fun z=>(List.mem_cons.mp z).elim n1 n
 have nL:∀ b u,s0.heap.get? b=some u→b≠s0.heap.objs.size:=fun b u e=>Nat.ne_of_lt (Heap.lt_size e)
 have nE:∀ b u,s0.heap.get? b=some u→b≠ea:=fun b u e z=>by rw [z,hnew] at e;cases e
 have nf:∀ b u,s0.heap.get? b=some u→b ∉ frs outer→b ∉ frs (envOfC qual scope s0.heap.objs.size f cd :: outer):=fun b u e n z=>(fl.mp z).elim (nL b u e) n
 refine wpAny_mono (J2f (J2d (.ref ea) _) (wpAny_leaving_firstW (base:=PySem.W.hideAll s.heap (ea :: frs (envOfC qual scope s0.heap.objs.size f cd :: outer))) (Q:=fun _ s2=>∃ h',s2={ s with heap:=h' }∧Heap.LeftW (PySem.W.hideAll s.heap (ea :: frs (envOfC qual scope s0.heap.objs.size f cd :: outer))) (envOfC qual scope s0.heap.objs.size f cd :: outer) ea oe.cls a0 s.heap h')
  (E:=fun _ _=>False) I.ok.frames (PySem.W.funFrames_hide fr hin) rfl he (fun b o z=>PySem.W.of_hideAll _ z) (PySem.W.hideAll_none _ (List.mem_cons_self ..)) hd h1 h0 fun h' hL=>⟨h',rfl,hL⟩)) (fun _ s2 h2=>?_) fun _ _ z=>z.1.elim
 obtain ⟨⟨h'',rfl,k1,⟨_,_,k2⟩,k3,k4⟩,ds⟩:=h2
 have fly:Heap.FlyingW (PySem.W.hideAll s.heap (ea :: frs (envOfC qual scope s0.heap.objs.size f cd :: outer))) outer ea oe.cls a0 h'':=⟨k1,PySem.W.hideAll_none _ (List.mem_cons_self ..),k2,k3⟩
 have up:∀ b o,s.heap.get? b=some o→b∈frs (envOfC qual scope s0.heap.objs.size f cd :: outer)→∃ sl,h''.get? b=some { o with slots:=sl }:=fun b o e hb=>by
  obtain ⟨o',e',nd⟩:=noFlds fr hb
  rw [e] at e';cases e'
  exact k4 b o e nd
 have there:∀ b o,s.heap.get? b=some o→b≠ea→∃ o',h''.get? b=some o':=fun b o e ne=>by
  by_cases hb:b∈frs (envOfC qual scope s0.heap.objs.size f cd :: outer)
  ·obtain ⟨sl,z⟩:=up b o e hb;exact ⟨_,z⟩
  ·exact ⟨o,fly.1 b o (inB b o e ne hb)⟩
 have trk:∀ b o,H b=some o→∃ u,(PySem.W.hideAll s.heap (ea :: frs (envOfC qual scope s0.heap.objs.size f cd :: outer))).get? b=some u:=fun b o e=>by
  obtain ⟨u,hu⟩:=(I.hok b o e).has
  refine ⟨u,inB b u hu (fun z=>by rw [z,hea] at e;cases e) fun z=>?_⟩
  have:=I.stkFree b z
  rw [e] at this;cases this
 refine ⟨oe.dict,⟨ea,oe.cls,H,_,a0,rfl,I.os,I.bare,fly,⟨fun b o e n hb _=>?_,fun b o e n hb _=>?_,fun b o e n hb=>I.base.free b o e n hb,fun b o e _=>?_,I.base.tups,I.base.frzs,I.base.tbls⟩,I.hok.over trk (fun b o z=>PySem.W.of_hideAll _ z) fly.1,hea,hnew,trk,fun b u e n=>?_,q⟩,fun ea' hz=>?_⟩
 ·exact fly.1 b o (inB b o (I.base.keep b o e n hb (by simp [cxOf])) (nE b o e) (nf b o e hb))
 ·obtain ⟨sl,e1⟩:=I.base.slot b o e n hb (by simp [cxOf])
  obtain ⟨sl',e2⟩:=up b _ e1 (fl.mpr (.inr hb))
  exact ⟨sl',e2⟩
 ·obtain ⟨o',e1⟩:=I.base.there b o e (by simp [cxOf])
  exact there b o' e1 (nE b o e)
 ·obtain ⟨o',e1⟩:=I.base.there b u e (by simp [cxOf])
  exact ⟨o',inB b o' e1 (nE b u e) (nf b u e n)⟩
 ·cases hz
  obtain ⟨ob2,e2,_⟩:=fly.there
  exact ⟨ob2,e2,ds.at_ he e2⟩
end
end L2
namespace L2
open PySem PySem.Spec PyProof.Rows
def excInI (K:PySem.W.Frag) (C:Addr) (bmB:List Value) (newId:String) (fI:Addr):Bool:=match K.lookup C with
 | some ⟨.type "type",_,.cls cd,sl⟩=>(match cd.mro,sl.toList with
  | .ref C' :: bm,[_,_,_,_,some (.builtin n),_]=>C' == C && n == newId && !cd.hasDel && PySem.W.tailIn K bmB bm && PySem.W.nsOkIn K cd.ns && PySem.W.nsIn K cd.ns "__init__" == some (some (.ref fI))
  | _,_=>false)
 | _=>false
theorem ns_some {K:PySem.W.Frag} {h:Heap} {N:Addr} {m:Str→Option Value} {n:Str} {v:Value} (X:K.In h) (G:h.Ns N m) (e:PySem.W.nsIn K N n=some (some v)):m n=some v:=by
 obtain ⟨o,es,ep,ho,hd,_,hf⟩:=G
 unfold PySem.W.nsIn at e
 split at e
 ·rename_i c d es' n' sl q
  have:=X _ _ q
  rw [ho] at this
  cases this
  cases hd
  split at e
  ·rename_i x he
   rw [← hf]
   unfold nsFind findBy
   rw [← Array.find?_toList,he]
   exact Option.some.inj e
  ·split at e <;> cases e
 ·cases e
theorem exc_objI {K:PySem.W.Frag} {h:Heap} {C fI:Addr} {bmB:List Value} {nid:String} (X:K.In h) (q:excInI K C bmB nid fI=true) :
  ∃ bm N nm qn bs hdct sn sub ab col dd k0 k1 k2 k3 k5 mN,h.get? C=some (excClassObj nm qn C N bs bm hdct sn sub ab col dd k0 k1 k2 k3 k5 nid)∧h.Ns N mN∧mN "__init__"=some (.ref fI)∧OwnTail h bmB bm:=by
 unfold excInI at q
 split at q
 ·rename_i dd cdd sl ho
  split at q
  ·rename_i C' bm k0 k1 k2 k3 n k5 hm hs
   simp only [Bool.and_eq_true,beq_iff_eq,Bool.not_eq_true'] at q
   obtain ⟨⟨⟨⟨⟨rfl,rfl⟩,q1⟩,q2⟩,q3⟩,q4⟩:=q
   obtain ⟨nm,bs,mro,ns,qn,hd,sn,sub,ab,col,del⟩:=cdd
   dsimp only at hm q1 q3 q4
   subst hm q1
   obtain ⟨l⟩:=sl
   simp only at hs
   subst hs
   exact ⟨bm,ns,nm,qn,bs,hd,sn,sub,ab,col,dd,k0,k1,k2,k3,k5,_,X _ _ ho,.of_isNs (PySem.W.isNs_of_in X q3),ns_some X (.of_isNs (PySem.W.isNs_of_in X q3)) q4,PySem.W.tail_of_in X q2⟩
  ·cases q
 ·cases q
def spXInit (C:Addr) (f:Str):Sp:=fun vs H Q _=>∃ (a t:Addr) (y:V),vs=[.ref a,y]∧H a=some (excN a C t)∧∀ dx,H dx=none→Q .non (upd (upd H dx (.xd [(f,y)])) a (excD a C t dx))
section
variable {P:Program} {w:World} {K:PySem.W.Frag} {mg:Str→Option Value} {base:Heap} {N:List Str} {qual:Str} {scope:Scope} {f:Addr} {cd:Value} {A:Around} {outer:List Env} {s0:Shared} {H0:Hp} {E:XK}
theorem J36 {x:Str} {C fI:Addr} {fd:FuncData} {ps:List Str} {fl:Str} {k:Nat} {n:Nat} {j:Nat} {p1 np cpos pos:Pos} (hg:Gl (cxOf (Exc2 P w) P w K mg base N qual scope f cd A outer s0 H0 E) x) (hm:mg x=some (.ref C)) (q:excInI K C bmV "ValueError.__new__" fI=true)
  (hf:PySem.W.isFn K (.ref fI)=true) (F:FnOk P w K mg base CX0 k fI fd ps (spXInit C fl)) (hr:Room (k + 1) (cxOf (Exc2 P w) P w K mg base N qual scope f cd A outer s0 H0 E).A) (hb:Binds K fd ps [])
  (hdb:(x == ("__debug__":Str))=false:=by decide) :
  PS (cxOf (Exc2 P w) P w K mg base N qual scope f cd A outer s0 H0 E) (.Raise (some (.Call (.Name x np) [.Constant (.int n) j p1] [] cpos)) none pos) (fun D σ H=>∀ dx,H dx=none→E (.ref C) (some dx) (upd H dx (.xd [(fl,.int n)]))):=by
 intro pins s σ H D I h
 obtain ⟨bm,NN,nm,qn,bs,hdct,sn,sub,ab,col,dd,k0,k1,k2,k3,k5,mN,hC,hN,hi,T⟩:=exc_objI (I.ok.mod.kin) q
 rw [arm_exec_Raise]
 refine wpAny_bind (wpAny_standAt (raiseStmtI (C:=C) (nm:=nm) (q:=qn) (N:=NN) (bs:=bs) (bm:=bm) (hdct:=hdct) (sn:=sn) (sub:=sub) (ab:=ab) (col:=col) (dd:=dd) (k0:=k0) (k1:=k1) (k2:=k2) (k3:=k3) (k5:=k5) (newId:="ValueError.__new__") (T.hasType PySem.F.excBase_ValueError.hasBase) (I.ok.hd rfl) ?_))
 refine wpAny_bind (wpAny_mono (wpAny_Call_ofName (J3s I hg hm ?_ hdb)) (fun v s3 h3=>wpAny_bind (wpAny_standAt (wpAny_pure h3))) fun _ _ x=>x)
 unfold callWith
 refine wpAny_bind (wpAny_holding (wpAny_mono (Q:=fun a s2=>a.kw=[]∧∃ u y H2,a.pos=[u]∧RelV y u∧Inv (cxOf (Exc2 P w) P w K mg base N qual scope f cd A outer s0 H0 E) pins σ H2 s2∧∀ dx,H2 dx=none→E (.ref C) (some dx) (upd H2 dx (.xd [(fl,y)])))
  (Calls.evalArgs_plain (thn ((J0 (J1 (X:=cxOf (Exc2 P w) P w K mg base N qual scope f cd A outer s0 H0 E)) J4) cpos pins s σ H (fun vs H'=>match vs with | [y]=>∀ dx,H' dx=none→E (.ref C) (some dx) (upd H' dx (.xd [(fl,y)])) | _=>False) I h) fun us s2 ⟨vs,H2,I2,r,q2⟩=>?_)) (fun a s2 h2=>wpAny_bind (wpAny_standAt ?_)) fun _ _ x=>x))
 ·match vs,r,q2 with
  | [y],r,e3 =>
   obtain ⟨u,rfl,ru⟩:=r.one
   exact ⟨rfl,u,y,H2,rfl,ru,I2,e3⟩
 obtain ⟨apos,akw⟩:=a
 obtain ⟨hkw,u,y,H2,hap,ru,I2,kE⟩:=h2
 obtain rfl:akw=[]:=hkw
 obtain rfl:apos=[u]:=hap
 simp only [show (backTo cpos (starEach [Expr.Constant (.int n) j p1] (cxOf (Exc2 P w) P w K mg base N qual scope f cd A outer s0 H0 E).env)).any (·.1)=false from rfl]
 have hC2:=I2.bk _ _ hC
 have hN2:=hN.keeps I2.bk
 have T2:=T.keeps I2.bk
 obtain ⟨oI,hoI,hcI⟩:∃ oI,s2.heap.get? fI=some oI∧oI.cls=.type "function":=by
  have h1:(K.lookup fI).map (·.cls)=some (.type "function"):=beq_iff_eq.mp hf
  cases hl:K.lookup fI with
  | none=>rw [hl] at h1;cases h1
  | some o =>
   rw [hl] at h1
   exact ⟨o,I2.kIn _ _ hl,Option.some.inj h1⟩
 obtain ⟨hp,g,d,tk,os⟩:=s2
 refine wpAny_bind (wpAny_keeperOf_exc hC2 ?_)
 have kp:∀ b o,hp.get? b=some o→((hp.push { cls:=.type "tuple",data:=.seq [u].toArray }).push { cls:=.ref C,data:=.fields #[.ref hp.objs.size,.none,.none,.none,.bool false,.none] }).get? b=some o :=
  fun b o e=>Heap.get?_push_of_some _ (Heap.get?_push_of_some _ e)
 have hget:((hp.push { cls:=.type "tuple",data:=.seq [u].toArray }).push { cls:=.ref C,data:=.fields #[.ref hp.objs.size,.none,.none,.none,.bool false,.none] }).get? (hp.objs.size + 1)=some
   { cls:=.ref C,data:=.fields #[.ref hp.objs.size,.none,.none,.none,.bool false,.none] }:=Heap.get?_push_at (by rw [Heap.size_push]) rfl
 have fresh:H2 (hp.objs.size + 1)=none:=I2.hok.fresh (Nat.le_succ _)
 have I3:=Inv.laid (a:=hp.objs.size + 1) (o:=excN (hp.objs.size + 1) C hp.objs.size) (t':=tk) I2 kp (Nat.le_succ _) ⟨hget,⟨_,hget⟩,fun h1 h2 e k=>k _ e⟩
 have hnew:s0.heap.get? (hp.objs.size + 1)=none:=by
  cases z:s0.heap.get? (hp.objs.size + 1) with
  | none=>rfl
  | some o =>
   obtain ⟨o',e1⟩:=I2.base.there _ o z (by simp [cxOf])
   exact absurd (Heap.lt_size e1) (Nat.not_lt.mpr (Nat.le_succ _))
 refine wpAny_bind (callI PySem.F.excBase_ValueError T2 hC2 hN2 hi hoI hcI ?_ (by show 1≤sizeLine;rw [sizeLine_eq];decide))
 have hsp:spXInit C fl [V.ref (hp.objs.size + 1),y] (upd H2 (hp.objs.size + 1) (excN (hp.objs.size + 1) C hp.objs.size)) (fun v H'=>v=.non∧∃ dx,upd H2 (hp.objs.size + 1) (excN (hp.objs.size + 1) C hp.objs.size) dx=none∧
   H'=upd (upd (upd H2 (hp.objs.size + 1) (excN (hp.objs.size + 1) C hp.objs.size)) dx (.xd [(fl,y)])) (hp.objs.size + 1) (excD (hp.objs.size + 1) C hp.objs.size dx)) E0:=⟨_,_,y,rfl,J3,fun dx hdx=>⟨rfl,dx,hdx,rfl⟩⟩
 have r2:Vals [V.ref (hp.objs.size + 1),y] [Value.ref (hp.objs.size + 1),u]:=.cons rfl (.cons ru .nil)
 have hl:([Value.ref (hp.objs.size + 1),u] ++ ([]:List Value)).length=ps.length:=(F.len _ _ _ _ hsp)
 refine wpAny_call (codeAny_mono (F.run _ (cxOf (Exc2 P w) P w K mg base N qual scope f cd A outer s0 H0 E).stack _ _ ⟨[Value.ref (hp.objs.size + 1),u],[]⟩ [Value.ref (hp.objs.size + 1),u] _ _ E0 (hr.make C [u] []) (I3.env0.make C [u] []) (hb _ [Value.ref (hp.objs.size + 1),u] I3.kIn hl) r2 hsp) fun r s' hq=>?_)
 cases r with
 | error e=>exact False.elim hq
 | ok fw =>
  cases fw with
  | ret v =>
   obtain ⟨v',H',I4,rv,ev,dx,hdx,eH⟩:=I3.after hq
   subst ev
   refine ⟨rv,wpAny_bind (wpAny_holding (wpAny_point (wpAny_pure ?_)))⟩
   have ne:dx≠hp.objs.size + 1:=fun z=>by rw [z,J3] at hdx;cases hdx
   have h4:H' (hp.objs.size + 1)=some (excD (hp.objs.size + 1) C hp.objs.size dx):=by rw [eH];exact J3
   have he:=(I4.hok _ _ h4).1
   have I5:=I4.drop h4 hnew
   have eo:off H' (hp.objs.size + 1)=upd H2 dx (.xd [(fl,y)]):=by
    funext b
    by_cases c:b=hp.objs.size + 1
    ·rw [c,J43,Jf (Ne.symm ne),fresh]
    ·rw [off_ne c,eH,Jf c]
     by_cases c2:b=dx
     ·rw [c2,J3,J3]
     ·rw [Jf c2,Jf c,Jf c2]
   rw [eo] at I5
   rw [Jf ne] at hdx
   refine ⟨_,_,dx,rfl,I4.bk _ _ hC,he,?_⟩
   exact xe_made2 I5 he rfl rfl rfl (by rw [Jf (Ne.symm ne)];exact fresh) hnew (kE dx hdx)
  | next=>exact False.elim hq
  | brk=>exact False.elim hq
  | cont=>exact False.elim hq
end
end L2
namespace L2
open PySem PySem.Spec PyProof.Rows
def excX (ea:Addr) (cls:Value) (od:Option Addr):HO:=.ext fun h=>∃ o vs,h.get? ea=some o∧o.cls=cls∧o.dict=od∧o.data=.fields vs
section
variable {X:Cx} {pins:List (Addr × Obj)} {σ:St} {H:Hp} {s:Shared} {ea:Addr}
theorem land2 {od:Option Addr} {s1:Shared} {H':Hp} {B:Heap} {cls a0:Value} {h':Heap} (I:Inv X pins σ H s) (ho:s1.os=s.os) (bare:AllBare s1.gens) (fly:Heap.FlyingW B X.stack ea cls a0 s1.heap)
  (un:Un (frs X.stack) [] H H' s.heap s1.heap) (hok:HOk X.prog X.w H' s1.heap) (hea:H' ea=none) (new:s.heap.get? ea=none) (trk:∀ b o,H' b=some o→∃ u,B.get? b=some u)
  (inB:∀ b u,s.heap.get? b=some u→b ∉ frs X.stack→∃ v,B.get? b=some v) (fly':Heap.FlyingW B X.stack ea cls a0 h') (up:s1.heap.UpToSlots h') (hdd:∃ ob,h'.get? ea=some ob∧ob.dict=od) :
  Inv X pins σ (upd H' ea (excX ea cls od)) { s1 with heap:=h' }:=by
 have neE:∀ b o,s.heap.get? b=some o→b≠ea:=fun b o e z=>by rw [z,new] at e;cases e
 have slots:∀ b o,b∈frs X.stack→s1.heap.get? b=some o→∃ sl,h'.get? b=some { o with slots:=sl }:=fun b o hb e=>by
  obtain ⟨o',e',nd⟩:=noFlds fly.2.2.1 hb
  rw [e] at e';cases e'
  exact up b o e nd
 have stay:∀ b o,s.heap.get? b=some o→b ∉ frs X.stack→∀ o',s1.heap.get? b=some o'→h'.get? b=some o':=fun b o e n o' e'=>by
  obtain ⟨v,hv⟩:=inB b o e n
  have:=fly.1 b v hv
  rw [e'] at this;cases this
  exact fly'.1 b _ hv
 refine I.call' (s':={ s1 with heap:=h' }) (ch:=[]) ho ⟨fun b o e n hb _=>?_,fun b o e n hb _=>?_,fun b o e n _=>?_,fun b o e _=>?_,fun b xs e=>?_,fun b o u e=>?_,fun b ps e=>?_⟩ (fun b u e=>?_) bare (fun _ z=>nomatch z)
 ·exact stay b o e hb o (un.keep b o e n hb (by simp))
 ·obtain ⟨sl,e1⟩:=un.slot b o e n hb (by simp)
  obtain ⟨sl',e2⟩:=slots b _ hb e1
  exact ⟨sl',e2⟩
 ·rw [Jf (neE b o e)];exact un.free b o e n (by simp)
 ·obtain ⟨o',e1⟩:=un.there b o e (by simp)
  by_cases hb:b∈frs X.stack
  ·obtain ⟨sl,e2⟩:=slots b o' hb e1
   exact ⟨_,e2⟩
  ·exact ⟨o',stay b o e hb o' e1⟩
 ·have q:=un.tups b xs e
  rw [Jf (Jd q hea)];exact q
 ·have q:=un.frzs b o u e
  rw [Jf (Jd q hea)];exact q
 ·obtain ⟨m,q⟩:=un.tbls b ps e
  exact ⟨m,by rw [Jf (Jd q hea)];exact q⟩
 ·have hok2:=hok.over trk fly.1 fly'.1
  by_cases hb:b=ea
  ·subst hb
   rw [J3] at e;cases e
   obtain ⟨oe,vs,_,_,_,e1,⟨e2,_⟩,e3,_⟩:=fly'.2.2.2
   obtain ⟨ob,e4,e5⟩:=hdd
   rw [e1] at e4;cases e4
   exact ⟨⟨oe,vs,e1,e2,e5,e3⟩,⟨oe,e1⟩,fun h1 h2 ⟨o1,v1,z1,z2⟩ k=>⟨o1,v1,k o1 z1,z2⟩⟩
  ·rw [Jf hb] at e
   exact (hok2 b u e).stay (fun c v _ q=>q) (fun c q=>by rw [Jf (Jd q hea)];exact q) fun c xs q=>by rw [Jf (Jd q hea)];exact q
def xCatch2 (K:PySem.W.Frag) (c:Value) (i:Nat) (tb:Addr→TS) (D:Ends) (σ:St):XK:=fun cls od H2=>PySem.W.exmOne K cls c=some true∧∀ ea,H2 ea=none→tb ea (D.unset i) (σ.set i (some (.ref ea))) (upd H2 ea (excX ea cls od))
variable {i:Nat} {n cx:Str} {c:Value} {b₀:Stmt} {suite:List Stmt} {hpos np:Pos} {tb:Addr→TS} {D:Ends}
theorem caught_at2 {e:Value} {s1:Shared} (hst:X.stack=X.env :: X.outer) (hfr:X.env.frame=some X.env.locals) (hgC:Gl X cx) (hmC:X.mg cx=some c) (hN:X.N.Nodup) (hi:X.N[i]?=some n) (hk:X.env.scope.names.lookup n=some .local)
  (hb:∀ ea,PSs (X.caught ea) (b₀ :: suite) (tb ea)) (I:Inv X pins σ H s) (x:Exc2 X.prog X.w X.stack H s (xCatch2 X.K c i tb D σ) e s1) (hdb:(cx == ("__debug__":Str))=false:=by decide) :
  wpAny (model X.prog X.w) X.A (noteFrame e X.env) (fun _ s₂=>wpAny (model X.prog X.w) X.A (setFlight e none) (fun _ s₃=>wpAny (model X.prog X.w) X.A (handleBy e X.env [.ExceptHandler (some (.Name cx np)) (some n) (b₀ :: suite) hpos]) (SP X pins D) X.xe s₃) X.xe s₂) X.xe s1:=by
 obtain ⟨od,x,hd⟩:=x
 obtain ⟨ea,cls,H',B,a0,rfl,os,bare,fly,un,hok,hea,new,trk,inB,hx,q⟩:=x
 obtain ⟨ob,hob,hdo⟩:=hd ea rfl
 have fr:X.A.frames=some (X.env :: X.outer):=by rw [← hst];exact I.ok.frames
 have fly':Heap.FlyingW B (X.env :: X.outer) ea cls a0 s1.heap:=by rw [← hst];exact fly
 refine wpAny_mono (J2f (J1n (.ref ea) X.env) (wpAny_looks_onW (Q:=fun _ s2=>∃ h2,s2={ s1 with heap:=h2 }∧Heap.HeldW B (X.env :: X.outer) ea cls a0 X.env.locals h2∧s1.heap.UpToSlots h2) (E:=fun _ _=>False) fr hfr fly' fun h2 held up2=>⟨h2,rfl,held,up2⟩)) (fun _ s2 h2=>?_) fun _ _ z=>z.1.elim
 obtain ⟨⟨h2,rfl,held,up2⟩,ds2⟩:=h2
 refine wpAny_mono (J2f (J16 (.ref ea) none) (wpAny_landsW (s:={ s1 with heap:=h2 }) (Q:=fun _ s3=>∃ h3,s3={ s1 with heap:=h3 }∧Heap.FlyingW B (X.env :: X.outer) ea cls a0 h3∧h2.UpToSlots h3) (E:=fun _ _=>False) held fun h3 fly3 up3=>⟨h3,rfl,fly3,up3⟩)) (fun _ s3 h3=>?_) fun _ _ z=>z.1.elim
 obtain ⟨⟨h3,rfl,fly3,up3⟩,ds3⟩:=h3
 have fly3':Heap.FlyingW B X.stack ea cls a0 h3:=by rw [hst];exact fly3
 have dd3:∃ ob,h3.get? ea=some ob∧ob.dict=od:=by
  obtain ⟨ob3,e3,_⟩:=fly3.there
  exact ⟨ob3,e3,((ds2.trans ds3).at_ hob e3).trans hdo⟩
 have I3:Inv X pins σ (upd H' ea (excX ea cls od)) { s1 with heap:=h3 }:=land2 I os bare fly un hok hea new trk inB fly3' (up2.trans up3) dd3
 refine wpAny_handleBy_cons (codeAny_handlers_test ?_) (by intro q;cases q)
 refine J3s (X:=X.caught ea) (I3.caught ea) hgC hmC ?_ hdb
 have LT:PySem.W.Looks (model X.prog X.w) h3 (typeOf (.ref ea)) cls:=by
  obtain ⟨ob,e1,e2⟩:=fly3.there
  exact e2 ▸ (PySem.W.Looks.ld e1).andThen .now
 refine (PySem.W.exm_one (M:=model X.prog X.w) I3.kIn LT hx).here ?_
 refine codeAny_handlers_suite_as ?_
 refine wpAny_mono (J2f (J16 (.ref ea) none) (lands_againW (s:={ s1 with heap:=h3 }) (Q:=fun _ s4=>∃ h4,s4={ s1 with heap:=h4 }∧Heap.FlyingW B (X.env :: X.outer) ea cls a0 h4∧h3.UpToSlots h4) (E:=fun _ _=>False) fly3 fun h4 fly4 up4=>⟨h4,rfl,fly4,up4⟩)) (fun _ s4 h4=>?_) fun _ _ z=>z.1.elim
 obtain ⟨⟨h4,rfl,fly4,up4⟩,ds4⟩:=h4
 have fly4':Heap.FlyingW B X.stack ea cls a0 h4:=by rw [hst];exact fly4
 have dd4:∃ ob,h4.get? ea=some ob∧ob.dict=od:=by
  obtain ⟨ob4,e4,_⟩:=fly4.there
  exact ⟨ob4,e4,(((ds2.trans ds3).trans ds4).at_ hob e4).trans hdo⟩
 have I4:Inv X pins σ (upd H' ea (excX ea cls od)) { s1 with heap:=h4 }:=land2 I os bare fly un hok hea new trk inB fly4' ((up2.trans up3).trans up4) dd4
 refine J3x (X:=X.caught ea) (I4.caught ea) hN hi (.inl hk) (v:=.ref ea) rfl (fun s5 I5=>?_) (.inr hk)
 refine wpAny_mono (hb ea pins s5 _ _ (D.unset i) I5 (q ea hea)) (fun fl s6 z=>?_) fun _ _ z=>False.elim z
 cases fl with
 | next=>obtain ⟨σ',H2,I6,q6⟩:=z;exact J26 (I6.uncaught I.ok) hN hi hk fun s7 I7=>⟨_,H2,I7,q6⟩
 | brk=>obtain ⟨σ',H2,I6,q6⟩:=z;exact J26 (I6.uncaught I.ok) hN hi hk fun s7 I7=>⟨_,H2,I7,q6⟩
 | cont=>obtain ⟨σ',H2,I6,q6⟩:=z;exact J26 (I6.uncaught I.ok) hN hi hk fun s7 I7=>⟨_,H2,I7,q6⟩
 | ret u=>obtain ⟨v,σ',H2,I6,r6,q6⟩:=z;exact J26 (I6.uncaught I.ok) hN hi hk fun s7 I7=>⟨v,_,H2,I7,r6,q6⟩
end
section
variable {X:Cx} {k:Nat} {f:Addr} {fd:FuncData} {ps:List Str} {sp:Sp} {dvs:List V} {ds:List Value} {x n cx:Str} {i:Nat} {p pos cpos epos hpos np:Pos} {e:Expr} {es:List Expr} {t:TA} {c:Value} {b₀:Stmt} {suite:List Stmt} {tb:Addr→TS}
def tTryc2 (K:PySem.W.Frag) (sp:Sp) (dvs:List V) (c:Value) (i:Nat) (t:TA) (tb:Addr→TS):TS:=fun D σ H=>t σ H fun vs H1=>sp (vs ++ dvs) H1 (fun _ H2=>D.nx σ H2) (xCatch2 K c i tb D σ)
theorem ps_tryc2 (F:FnOk X.prog X.w X.K X.mg X.base (Exc2 X.prog X.w) k f fd ps sp) (hr:Room k X.A) (hg:Gl X x) (hm:X.mg x=some (.ref f)) (hk:PySem.W.keepIn X.K (.ref f)=true) (hb:Binds X.K fd ps ds) (hd:Vals dvs ds)
  (ha:PA X.nox (e :: es) t) (hst:X.stack=X.env :: X.outer) (hfr:X.env.frame=some X.env.locals) (hgC:Gl X cx) (hmC:X.mg cx=some c) (hN:X.N.Nodup) (hi:X.N[i]?=some n) (hkn:X.env.scope.names.lookup n=some .local)
  (hsu:∀ ea,PSs (X.caught ea) (b₀ :: suite) (tb ea)) (hdbC:(cx == ("__debug__":Str))=false:=by decide) (hs:swapsWith (.Call (.Name x p) (e :: es) [] cpos) none epos.line X.env=pure false:=by rfl)
  (hdb:(x == ("__debug__":Str))=false:=by decide) (he:starEach (e :: es) X.env=(false,eval e X.env) :: starEach es X.env:=by rfl) (hpl:(backTo cpos (starEach es X.env)).any (·.1)=false:=by rfl) :
  PS X (.Try [.Expr (.Call (.Name x p) (e :: es) [] cpos) epos] [.ExceptHandler (some (.Name cx np)) (some n) (b₀ :: suite) hpos] [] [] pos) (tTryc2 X.K sp dvs c i t tb):=by
 intro pins s σ H D I h
 refine wpAny_Try_except (wpAny_execs_cons (wpAny_Expr_any ?_ I.quiet hs))
 refine wpAny_Call_Name_kw (J3s I hg hm ?_ hdb)
 refine PySem.W.callWith_K (h₀:=X.base) I.ok.mod.kin hk (wpAny_mono (ha cpos pins s σ H _ (I.wish _) h) (fun us s1 ⟨vs,H1,I1,r,q⟩=>⟨I1.kIn,?_⟩) fun _ _ z=>False.elim z) he hpl
 have I1:=I1.unwish
 have r2:Vals (vs ++ dvs) (us ++ ds):=r.append hd
 have hl:(us ++ ds).length=ps.length:=by rw [← r2.length];exact F.len _ _ _ _ q
 refine wpAny_call (codeAny_mono (F.run X.A X.stack s1 H1 ⟨us,[]⟩ (us ++ ds) (vs ++ dvs) _ _ hr I1.env0 (hb s1 us I1.kIn hl) r2 q) fun r s' hq=>?_)
 cases r with
 | error e=>exact caught_at2 hst hfr hgC hmC hN hi hkn hsu I1 hq hdbC
 | ok fl =>
  cases fl with
  | ret u =>
   obtain ⟨v,H2,I2,_,q2⟩:=I1.after hq
   exact wpAny_execs_nil (wpAny_execs_nil (show SP X pins D .next s' from ⟨σ,H2,I2,q2⟩))
  | next=>exact False.elim hq
  | brk=>exact False.elim hq
  | cont=>exact False.elim hq
end
end L2
namespace L2
open PySem PySem.Spec PyProof.Rows
theorem Jh {X:Cx} {f:Value} (hf:f=.builtin "isinstance"):CallR X f (fun xs H Q=>∃ (ea D:Addr) (od:Option Addr) (c:V) (cv:Value) (b:Bool),xs=[.ref ea,c]∧RelV c cv∧(∀ v,RelV c v→v=cv)∧H ea=some (excX ea (.ref D) od)∧XCls X.K D∧PySem.W.kitOne X.K (.ref D) cv=some b∧Q (.bl b) H):=by
 subst hf
 intro pins s σ H xs us Q I r h
 obtain ⟨ea,D,od,c,cv,b,rfl,rc,uc,e,W,kb,q⟩:=h
 obtain ⟨u,v,rfl,ru,rv⟩:=vals2 r
 cases (show u=Value.ref ea from ru)
 obtain rfl:=uc v rv
 obtain ⟨o,vs,e1,e2,_⟩:=(I.hok ea _ e).1
 exact PySem.W.kia_one (kitx_exc W) I.kIn ⟨o,e1,e2⟩ kb (fun z=>nomatch z) fun tk=>⟨.bl b,H,I.tok tk,rfl,q⟩
structure XFld (K:PySem.W.Frag) (D:Addr) (f:Str):Prop where
 w:XCls K D
 no:PySem.W.findIn K (.ref D) f=some none
 hd:PySem.W.hasDictIn K D=true
def tFldX (K:PySem.W.Frag) (ta:TE) (f:Str):TE:=fun σ H Q=>ta σ H fun x H1=>∃ ea D dx fs v,x=.ref ea∧H1 ea=some (excX ea (.ref D) (some dx))∧H1 dx=some (.xd fs)∧XFld K D f∧fs.lookup f=some v∧Q v H1
theorem pe_fldX {X:Cx} {e:Expr} {ta:TE} {f:Str} {pos:Pos} (he:PE X e ta) (hb:attributeBase e f X.env (eval e X.env)=eval e X.env):PE X (.Attribute e f pos) (tFldX X.K ta f):=by
 intro pins s σ H Q I h
 refine attr_of hb (thn (he pins s σ H _ I h) fun u s1 ⟨x,H1,I1,rx,ea,D,dx,fs,v,ex,ea1,ed,c,l,q⟩=>?_)
 subst ex
 obtain rfl:u=Value.ref ea:=rx
 obtain ⟨o,vs,e1,e2,e3,e4⟩:=(I1.hok ea _ ea1).1
 obtain ⟨mA,hn,r⟩:=(show ∃ mA,s1.heap.Ns1 dx mA∧∀ f,RelO (fs.lookup f) (mA f) from I1.hok dx _ ed)
 obtain ⟨u,hu,ru⟩:=RelO.some_of (v:=v) (o:=mA f) (by rw [← l];exact r f)
 obtain ⟨od,hod,hl⟩:=lookIn_ns hn
 obtain ⟨cd,hc,hh⟩:=PySem.W.any_some c.hd
 obtain ⟨h0,g0,d0,t0,o0⟩:=s1
 refine x_attr (od:=some od) (cd:=cd) I1.kIn c.w ⟨e1,e2,?_,?_⟩ c.no hc (v:=u) ?_ (handed_of ru) ⟨v,H1,I1.tok _,ru,q⟩
 ·unfold PySem.W.notCls
  rw [e4]
 ·rw [e3];exact hod
 ·unfold PySem.W.ownOf
  rw [if_pos hh]
  show PySem.W.lookIn f od=_
  rw [hl,hu]
theorem Fun.okX2 {P:Program} {w:World} {K:PySem.W.Frag} {mg:Str→Option Value} {base:Heap} {x qual:Str} {st:Stmt} {f:Addr} {fd:FuncData} {N ps:List Str} {k:Nat} {sp:Sp} (F:Fun K x qual st f fd) (S:FnScope N ps (J7 st)) (len:∀ vs H Q E,sp vs H Q E→vs.length=ps.length)
  (hbody:∀ (cdv:Value) (A:Around) (outer:List Env) (s:Shared) (H:Hp) (vs:List V) (Q:VK) (E:XK),Room k (A.deeper (envOfC qual (J7 st) s.heap.objs.size f cdv))→sp vs H Q E→
   ∃ t,PSs (cxOf (Exc2 P w) P w K mg base N qual (J7 st) f cdv A outer s H E) (Jl st) t∧t { nx:=fun _ H'=>Q .non H',rt:=Q } (start N vs) H):FnOk P w K mg base (Exc2 P w) (k + 1) f fd ps sp:=by
 obtain ⟨oc,od,kV,doc,pm,an,cdv,ct,osl,rfl,lk,hcd⟩:=F.ex
 exact fn_of lk hcd S len fun A outer s H vs Q E hr hsp=>hbody cdv A outer s H vs Q E hr hsp
end L2
namespace L2
open PySem PySem.Spec PyProof.Rows
def PTs (X:Cx) (ifs:List Expr) (t:TT):Prop :=
 ∀ (pins:List (Addr × Obj)) (s:Shared) (σ:St) (H:Hp) (Q:Bool→Hp→Prop),Inv X pins σ H s→t σ H Q→
  wpAny (model X.prog X.w) X.A (forIn ifs true fun c r=>if r=true then do let ok ← isTrue c X.env (eval c X.env);pure (ForInStep.yield ok) else pure (ForInStep.yield r)) (TP X pins σ Q) X.xe s
def tYes:TT:=fun _ H Q=>Q true H
theorem J2x {X:Cx}:PTs X [] tYes:=fun _ s σ H Q I h=>wpAny_tests_nil ⟨H,I,h⟩
theorem J1l {prog:Program} {w:World} {A:Around} {R:Result→Shared→Prop} {s:Shared} {elt target iter:Expr} {ifs:List Expr} {scope:Scope} {pos:Pos} {it acc:Value} {env:Env} (J:Nat→Shared→Prop)
  (turn:∀ n s,J n s→wpAny (model prog w) A (pyNext it) (fun r s₁=>match r with
   | none=>R (.ok .next) s₁
   | some v=>wpAny (model prog w) A (letOwnedTupleGo target it v) (fun _ s₁'=>wpAny (model prog w) A (assign target env v) (fun _ s₂ =>
     wpAny (model prog w) A (forIn ifs true fun c r=>if r=true then do let ok ← isTrue c env (eval c env);pure (ForInStep.yield ok) else pure (ForInStep.yield r)) (fun ok s₃ =>
      if ok=true then wpAny (model prog w) A (eval elt env) (fun x s₄ =>
       wpAny (model prog w) A (call (.builtin "list.append") [acc,x]) (fun _ s₅=>∃ m,m < n∧J m s₅) (fun _ _=>False) s₄) (fun _ _=>False) s₃
      else ∃ m,m < n∧J m s₃) (fun _ _=>False) s₂) (fun _ _=>False) s₁') (fun _ _=>False) s₁) (fun _ _=>False) s)
  (n:Nat) (h:J n s):codeAny (model prog w) A (.compLoop (.ListComp elt [⟨target,iter,ifs,0⟩] scope pos) 0 it acc env) R s:=by
 refine codeAny_loop rfl J (fun n s hI=>?_) n h
 show wpAny _ _ ((compTurn (.ListComp elt [⟨target,iter,ifs,0⟩] scope pos) 0 it acc env).onRaise (fun x=>do noteFrame x env;theTreesLotGoes x)) _ _ s
 refine wpAny_noted ?_
 rw [compTurn_list]
 refine wpAny_bind (wpAny_standAt (wpAny_bind (wpAny_mono (turn n s hI) (fun r s₁ h₁=>?_) fun _ _ h'=>False.elim h')))
 cases r with
 | none=>exact wpAny_pure h₁
 | some v =>
  refine wpAny_bind (wpAny_mono h₁ (fun _ s₁' h₁'=>?_) fun _ _ h'=>False.elim h')
  refine wpAny_bind (wpAny_mono h₁' (fun _ s₂ h₂=>wpAny_bind (wpAny_mono h₂ (fun ok s₃ h₃=>?_) fun _ _ h'=>False.elim h')) fun _ _ h'=>False.elim h')
  cases ok with
  | false=>exact wpAny_pure ⟨rfl,h₃⟩
  | true =>
   exact wpAny_bind (wpAny_bind (wpAny_mono h₃ (fun x s₄ h₄=>wpAny_bind (wpAny_mono h₄ (fun _ s₅ h₅=>wpAny_pure (wpAny_pure ⟨rfl,h₅⟩)) fun _ _ h'=>False.elim h')) fun _ _ h'=>False.elim h'))
def LCW (J:It) (tc:TT) (te:TE) (σ:St) (js:List Nat) (Q:VK) (H1:Hp) (d:Addr):Prop:=∃ W:Nat→Nat→List V→Hp→Prop,(∃ m,W 0 m [] (upd H1 d (.lst [])))∧
 ∀ i m ys H2,W i m ys H2→H2 d=some (.lst ys)∧((J.stop i H2∧Q (.ref d) H2)∨(J.go i H2∧ys.length < sizeLine∧∀ v H3,J.yld i H2 v H3→
  tc (some v :: capv σ js) H3 fun b H4=>if b=true then te (some v :: capv σ js) H4 fun y H5=>H5 d=some (.lst ys)∧∃ m',m' < m∧W (i + 1) m' (ys ++ [y]) (upd H5 d (.lst (ys ++ [y])))
   else ∃ m',m' < m∧W (i + 1) m' ys H4))
def tLC (wi:TI) (tc:TT) (te:TE) (js:List Nat):TE:=fun σ H Q=>wi σ H fun J H1=>∀ d,H1 d=none→LCW J tc te σ js Q H1 d
section
variable {X:Cx} {elt iter:Expr} {ifs:List Expr} {x y:Str} {px py:Pos} {scope:Scope} {cl:List (Str × Addr)} {pos spos:Pos} {wi:TI} {tc:TT} {te:TE} {caps:List Str} {js:List Nat} {i:Nat}
theorem comp_core {p0:Pos} {use:Option (Value→Sem Unit)} {QV:Value→Shared→Prop} {Q:VK} {pins:List (Addr × Obj)} {s:Shared} {σ:St} {H:Hp} (hc:X.calm=true) (hp:PI X (.Name x px) iter wi)
  (he:∀ (C:Addr) (fp:List Addr) (s:Shared) (H:Hp),PE (X.block (x :: caps) scope cl C fp s H) elt te)
  (ht:∀ (C:Addr) (fp:List Addr) (s:Shared) (H:Hp),PTs (X.block (x :: caps) scope cl C fp s H) ifs tc)
  (hcell:∀ p∈scope.names,p.2≠.cell) (hnames:∀ p∈scope.names,p.2=.local→scope.names.lookup p.1=some .local) (hnd:(x :: caps).Nodup)
  (hsub:∀ p∈cl,X.env.cells.lookup p.1=some p.2) (hhas:∀ p∈scope.names,p.2=.free→∃ c,cl.lookup p.1=some c) (hlen:caps.length=js.length)
  (hcaps:∀ (k:Nat) (c:Str),caps[k]?=some c→∃ (j:Nat) (a:Addr),js[k]?=some j∧X.N[j]?=some c∧X.env.scope.names.lookup c=some .cell∧cl.lookup c=some a∧(relabel scope X.env).names.lookup c=some .cell)
  (hclos:closureFor scope X.env=pure cl) (hkind:scope.kind=.function) (hx:scope.names.lookup x=some .local) (hs:∀ v,foldedSetIterable iter X.env v=pure v)
  (I:Inv X pins σ H s) (h:tLC wi tc te js σ H Q)
  (fin:∀ (d:Addr) (H':Hp) (s5:Shared) (C:Addr),Inv X pins σ H' s5→Q (.ref d) H'→(∃ m,s5.heap.Ns C m)→FpOk X pins H' C→compPost (model X.prog X.w) X.A X.xe use QV (.ref d) C (.ok .next) s5) :
  wpAny (model X.prog X.w) X.A (comprehension (.ListComp elt [⟨.Name x px,iter,ifs,0⟩] scope pos) scope X.env p0 (newList []) false (eval iter X.env) use) QV X.xe s:=by
 refine wpAny_comprehension_free (cl:=cl) (use:=use) (Q:=QV) rfl hs hclos hkind hnames (thn (hp pins s σ H _ I h) fun v s1 h1=>thn h1 fun itv s2 h2=>?_)
 obtain ⟨it,fp,tn,J,H2,e,I2,T,st2,f2,h3⟩:=h2
 subst e
 have hfr:H2 s2.heap.objs.size=none:=I2.hok.fresh (Nat.le_refl _)
 obtain ⟨W,⟨m0,w0⟩,hW⟩:=h3 s2.heap.objs.size hfr
 refine wpAny_newObj_type (wpAny_newFunctionEnv hcell (by intro y hy;simp at hy) (fun h₁ hns₁ hsb₁=>?_) hkind)
 dsimp only at hns₁ hsb₁ ⊢
 generalize hH2:s2.heap.push { cls:=.type "list",dict:=none,data:=.seq ([]:List Value).toArray }=G at hns₁ hsb₁ ⊢
 have hC:G.objs.size=s2.heap.objs.size + 1:=by rw [← hH2,Heap.size_push]
 have hDC:s2.heap.objs.size≠G.objs.size:=by rw [hC];exact Nat.ne_of_lt (Nat.lt_succ_self _)
 have hCle:s2.heap.objs.size≤G.objs.size:=by rw [hC];exact Nat.le_succ _
 have old:∀ b o,s2.heap.get? b=some o→h₁.get? b=some o:=fun b o e=>hsb₁.extBut b o (by rw [hC];exact Nat.ne_of_lt (Nat.lt_succ_of_lt (Heap.lt_size e))) (Heap.get?_push_of_some _ (hH2 ▸ Heap.get?_push_of_some _ e))
 have hacc:h₁.get? s2.heap.objs.size=some { cls:=.type "list",dict:=none,data:=.seq ([]:List Value).toArray }:=hsb₁.extBut _ _ hDC (Heap.get?_push_of_some _ (hH2 ▸ Heap.get?_push_size _ rfl))
 have fl:∀ b∈fp,b < s2.heap.objs.size:=fun b hb=>by
  obtain ⟨o,e,_⟩:=T.obj _ _ st2 b hb
  exact Heap.lt_size e
 have hDf:s2.heap.objs.size ∉ fp:=fun hm=>Nat.lt_irrefl _ (fl _ hm)
 have hok1:HOk X.prog X.w (upd H2 s2.heap.objs.size (.lst [])) h₁:=I2.hok.laid old (Nat.le_refl _) ⟨Nat.zero_le _,[],0,.nil,hacc⟩
 have IY0:∀ tk,Inv (X.block (x :: caps) scope cl G.objs.size fp s2 H2) [] (none :: capv σ js) (upd H2 s2.heap.objs.size (.lst [])) { s2 with heap:=h₁,toks:=tk }:=fun tk=>by
  refine ⟨J3h I2 hCle f2 fl hkind hcell hsub hhas,rfl,I2.bare,Un.laid old (Nat.le_refl _) hfr,⟨_,hns₁,fun k z v e1 e2 e3=>?_⟩,fun z c e=>?_,?_,fun z c e=>?_,fun p hp=>absurd hp (by simp),hok1,?_⟩
  ·cases k with
   | zero=>simp at e2
   | succ k =>
    have e1':caps[k]?=some z:=by simpa using e1
    have e2':(capv σ js)[k]?=some (some v):=by simpa using e2
    obtain ⟨j,a,q1,q2,q3,q4,q5⟩:=hcaps k z e1'
    obtain ⟨j',r1,r2⟩:=capv_get e2'
    rw [q1] at r1;cases r1
    obtain ⟨m,hm,hl⟩:=I2.loc
    obtain ⟨u,ru,lu⟩:=hl j z v q2 r2 (.inr (.inl q3))
    refine ⟨u,ru,.inr ⟨.inl q5,a,q4,?_⟩⟩
    rcases lu with ⟨k1,_⟩ | ⟨_,c,ec,o,ho,hd⟩
    ·have k1':X.env.scope.names.lookup z=some .local:=k1
     rw [q3] at k1';cases k1'
    ·have:=hsub _ (PySem.mem_of_lookup q4)
     rw [ec] at this;cases this
     exact ⟨o,old _ _ ho,hd⟩
  ·obtain ⟨v,o,ho,hd⟩:=I2.cell z c (hsub _ (PySem.mem_of_lookup e))
   exact ⟨v,o,old _ _ ho,hd⟩
  ·show upd H2 s2.heap.objs.size (.lst []) G.objs.size=none
   rw [Jf hDC.symm]
   exact I2.hok.fresh hCle
  ·have ec:=hsub _ (PySem.mem_of_lookup e)
   obtain ⟨v,o,ho,hd⟩:=I2.cell z c ec
   rw [Jf (Nat.ne_of_lt (Heap.lt_size ho))]
   exact I2.freeC z c ec
  ·show (none :: capv σ js).length=(x :: caps).length
   unfold capv
   simp [hlen]
 have stat:∀ {H':Hp},(∀ b∈fp,H' b=none)→∀ b∈fp,FpOk (X.block (x :: caps) scope cl G.objs.size fp s2 H2) [] H' b:=fun hn b hb =>
  ⟨hn b hb,Nat.ne_of_lt (Nat.lt_of_lt_of_le (fl b hb) hCle),(J3h (x:=x) (caps:=caps) I2 hCle f2 fl hkind hcell hsub hhas).exfs b hb,.inl hb,fun z c e=>(f2 b hb).2.2.2.2.1 z c (hsub _ (PySem.mem_of_lookup e)),fun p hp=>absurd hp (by simp)⟩
 have hxl:(relabel scope X.env).names.lookup x=some .local:=lookup_relabel_local hx
 have loop:∀ tk,codeAny (model X.prog X.w) X.A (.compLoop (.ListComp elt [⟨.Name x px,iter,ifs,0⟩] scope pos) 0 (.ref it) (.ref s2.heap.objs.size) (compEnvC scope cl G.objs.size X.env))
   (compPost (model X.prog X.w) X.A X.xe use QV (.ref s2.heap.objs.size) G.objs.size) { s2 with heap:=h₁,toks:=tk }:=fun tk=>by
  refine J1l (fun m s'=>∃ (k:Nat) (o:Option V) (ys:List V) (H':Hp),Inv (X.block (x :: caps) scope cl G.objs.size fp s2 H2) [] (o :: capv σ js) H' s'∧tn k s'.heap∧(∀ b∈fp,H' b=none)∧W k m ys H') ?_ m0
   ⟨0,none,[],_,IY0 tk,T.keep _ _ _ st2 fun b hb o e=>old b o e,fun b hb=>by
    rw [Jf (show b≠s2.heap.objs.size from fun e=>hDf (by rw [← e];exact hb))]
    exact (f2 b hb).1,w0⟩
  rintro m s3 ⟨k,o,ys,H',I3,st3,fr3,w3⟩
  obtain ⟨hd,hW3⟩:=hW k m ys H' w3
  rcases hW3 with ⟨stop,q⟩ | ⟨go,hz,step⟩
  ·refine thn (T.done (X.block (x :: caps) scope cl G.objs.size fp s2 H2) rfl rfl rfl hc k [] s3 _ _ (fun _ _=>False) I3 (stat fr3) st3 stop) fun r s4 ⟨hr,I4⟩=>?_
   subst hr
   have J5:Inv X pins σ H' s4:=I2.call' (ch:=fp) I4.os I4.base I4.hok I4.bare fun b hb=>⟨(f2 b hb).2.2.2.1,(f2 b hb).2.1,(f2 b hb).2.2.2.2.1,(f2 b hb).2.2.2.2.2⟩
   exact fin _ H' s4 _ J5 q (let ⟨m,q,_⟩:=I4.loc;⟨m,q⟩) (I2.fpOk hCle I4.free)
  ·refine thn (T.item (X.block (x :: caps) scope cl G.objs.size fp s2 H2) rfl rfl rfl hc k [] s3 _ _ (fun _ _=>False) I3 (stat fr3) st3 go) fun r s4 ⟨u,hr,h4⟩=>?_
   subst hr
   refine thn h4 fun _ s5 ⟨v,H5,I5,r5,y5,st5,fr5⟩=>?_
   have I5':=I5.pinned (stat fr5) (T.obj _ _ st5)
   have stp:=step v H5 y5
   refine thn (J2l (X:=X.block (x :: caps) scope cl G.objs.size fp s2 H2) (i:=0) (pos:=px) hnd rfl (.inl hxl) (.inr hxl) _ s5 _ _ _ u
    (fun σ' H'=>σ'=some v :: capv σ js∧H'=H5) I5' r5 ⟨rfl,rfl⟩) fun _ s6 ⟨σ6,H6,I6,q6⟩=>?_
   obtain ⟨rfl,rfl⟩:=q6
   refine thn (ht _ _ _ _ _ s6 _ _ _ I6 stp) fun ok s7 ⟨H7,I7,q7⟩=>?_
   have back:∀ {s8:Shared} {H8:Hp} {o8:Option V} {ys8:List V} {m':Nat},Inv (X.block (x :: caps) scope cl G.objs.size fp s2 H2) ([] ++ pinsAt fp s5.heap) (o8 :: capv σ js) H8 s8→m' < m→W (k + 1) m' ys8 H8→
     ∃ m',m' < m∧∃ (k:Nat) (o:Option V) (ys:List V) (H':Hp),Inv (X.block (x :: caps) scope cl G.objs.size fp s2 H2) [] (o :: capv σ js) H' s8∧tn k s8.heap∧(∀ b∈fp,H' b=none)∧W k m' ys H':=fun {s8 H8 o8 ys8 m'} I8 hm w8=>by
    refine ⟨m',hm,k + 1,o8,ys8,H8,I8.unpinned,T.keep _ _ _ st5 fun b hb o e=>(I8.pin (b,o) (List.mem_append_right _ (List.mem_append_right _ (J1c hb e)))).1,fun b hb=>?_,w8⟩
    obtain ⟨o,e,d⟩:=T.obj _ _ st5 b hb
    exact (I8.pin (b,o) (List.mem_append_right _ (List.mem_append_right _ (J1c hb e)))).2.1
   cases ok with
   | false =>
    have q7':∃ m',m' < m∧W (k + 1) m' ys H7:=by
     have:=q7
     rwa [if_neg (by decide)] at this
    obtain ⟨m',hm,w8⟩:=q7'
    exact back I7 hm w8
   | true =>
    have q7':te (some v :: capv σ js) H7 fun y H5=>H5 s2.heap.objs.size=some (.lst ys)∧∃ m',m' < m∧W (k + 1) m' (ys ++ [y]) (upd H5 s2.heap.objs.size (.lst (ys ++ [y]))):=by
     have:=q7
     rwa [if_pos rfl] at this
    refine (show wpAny _ _ _ _ _ _ from thn (he _ _ _ _ _ s7 _ _ _ I7 q7') fun u8 s8 ⟨v8,H8,I8,r8,hd8,m',hm,w8⟩=>?_)
    refine thn (J3c (X:=X.block (x :: caps) scope cl G.objs.size fp s2 H2) _ s8 _ _ (.ref s2.heap.objs.size) [v8] (.ref s2.heap.objs.size) [u8]
     (fun _ H'=>H'=upd H8 s2.heap.objs.size (.lst (ys ++ [v8]))) I8 rfl (.cons r8 .nil) ⟨s2.heap.objs.size,_,v8,rfl,rfl,hd8,hz,rfl⟩) fun _ s9 ⟨_,H9,I9,_,q9⟩=>?_
    subst q9
    exact back I9 hm w8
 have st1:tn 0 h₁:=T.keep _ _ _ st2 fun b hb o e=>old b o e
 exact codeAny_compStart_list (loop _) (T.self X.A 0 _ _ _ st1 (loop _))
def capsOk (X:Cx) (scope:Scope) (cl:List (Str × Addr)) (caps:List Str) (js:List Nat):Bool :=
 (caps.zip js).all fun q=>X.N[q.2]? == some q.1 && X.env.scope.names.lookup q.1 == some .cell && (cl.lookup q.1).isSome && (relabel scope X.env).names.lookup q.1 == some .cell
theorem capsOk.get (hlen:caps.length=js.length) (h:capsOk X scope cl caps js=true):∀ (k:Nat) (c:Str),caps[k]?=some c→∃ (j:Nat) (a:Addr),js[k]?=some j∧X.N[j]?=some c∧X.env.scope.names.lookup c=some .cell∧cl.lookup c=some a∧(relabel scope X.env).names.lookup c=some .cell:=fun k c hk=>by
 have hkl:k < caps.length:=(List.getElem?_eq_some_iff.mp hk).1
 have hj:js[k]?=some (js[k]'(hlen ▸ hkl)):=List.getElem?_eq_getElem (hlen ▸ hkl)
 have hm:(c,js[k]'(hlen ▸ hkl))∈caps.zip js:=by
  refine List.mem_iff_getElem?.mpr ⟨k,?_⟩
  rw [List.getElem?_zip_eq_some]
  exact ⟨hk,hj⟩
 have:=List.all_eq_true.mp h _ hm
 simp only [Bool.and_eq_true,beq_iff_eq] at this
 obtain ⟨⟨⟨q1,q2⟩,q3⟩,q4⟩:=this
 obtain ⟨a,ha⟩:=Option.isSome_iff_exists.mp q3
 exact ⟨_,a,hj,q1,q2,ha,q4⟩
def freeOk (scope:Scope) (cl:List (Str × Addr)):Bool:=scope.names.all fun p=>p.2 != .free || (cl.lookup p.1).isSome
theorem freeOk.get (h:freeOk scope cl=true):∀ p∈scope.names,p.2=.free→∃ c,cl.lookup p.1=some c:=fun p hp' e=>by
 have:=List.all_eq_true.mp h p hp'
 rw [e] at this
 exact Option.isSome_iff_exists.mp (by simpa using this)
theorem pe_lc (hc:X.calm=true) (hp:PI X (.Name x px) iter wi) (hclos:closureFor scope X.env=pure cl)
  (ht:∀ (C:Addr) (fp:List Addr) (s:Shared) (H:Hp),PTs (X.block (x :: caps) scope cl C fp s H) ifs tc)
  (he:∀ (C:Addr) (fp:List Addr) (s:Shared) (H:Hp),PE (X.block (x :: caps) scope cl C fp s H) elt te)
  (hcell:∀ p∈scope.names,p.2≠.cell) (hnames:∀ p∈scope.names,p.2=.local→scope.names.lookup p.1=some .local) (hnd:(x :: caps).Nodup)
  (hsub:∀ p∈cl,X.env.cells.lookup p.1=some p.2)
  (hhas:freeOk scope cl=true:=by rfl) (hlen:caps.length=js.length:=by rfl) (hcaps:capsOk X scope cl caps js=true:=by rfl)
  (hkind:scope.kind=.function:=by rfl) (hx:scope.names.lookup x=some .local:=by rfl) (hs:∀ v,foldedSetIterable iter X.env v=pure v:=by intro _;rfl) :
  PE X (.ListComp elt [⟨.Name x px,iter,ifs,0⟩] scope pos) (tLC wi tc te js):=by
 intro pins s σ H Q I h
 rw [eval_ListComp]
 refine comp_core (use:=none) hc hp he ht hcell hnames hnd hsub (freeOk.get hhas) hlen (capsOk.get hlen hcaps) hclos hkind hx hs I h fun d H' s5 C J5 q hC fp=>?_
 obtain ⟨m,nsC⟩:=hC
 exact ⟨m,nsC,fun h' hs'=>⟨.ref d,H',J5.turned (h':=h') (t':=s5.toks) (it:=C) (fun b o hb e=>(hs'.2 b hb).trans e) fp.1 fp.2.1 fp.2.2.2.1 fp.2.2.2.2.1 fp.2.2.2.2.2,rfl,q⟩⟩
def tSetLC (t:TE) (i:Nat):TS:=fun D σ H=>t σ H fun v H'=>D.nx (σ.set i (some v)) H'
theorem ps_lc (hN:X.N.Nodup) (hi:X.N[i]?=some y) (hy:Loc X.env.scope y) (hc:X.calm=true) (hp:PI X (.Name x px) iter wi) (hclos:closureFor scope X.env=pure cl)
  (ht:∀ (C:Addr) (fp:List Addr) (s:Shared) (H:Hp),PTs (X.block (x :: caps) scope cl C fp s H) ifs tc)
  (he:∀ (C:Addr) (fp:List Addr) (s:Shared) (H:Hp),PE (X.block (x :: caps) scope cl C fp s H) elt te)
  (hcell:∀ p∈scope.names,p.2≠.cell) (hnames:∀ p∈scope.names,p.2=.local→scope.names.lookup p.1=some .local) (hnd:(x :: caps).Nodup)
  (hsub:∀ p∈cl,X.env.cells.lookup p.1=some p.2)
  (hhas:freeOk scope cl=true:=by rfl) (hlen:caps.length=js.length:=by rfl) (hcaps:capsOk X scope cl caps js=true:=by rfl)
  (hf:X.fn y=true∨X.env.scope.names.lookup y=some .local:=by first | exact .inl rfl | exact .inr rfl | assumption)
  (hsw:swapsWith (.ListComp elt [⟨.Name x px,iter,ifs,0⟩] scope pos) (some (.Name y py)) spos.line X.env=pure true:=by rfl)
  (hkind:scope.kind=.function:=by rfl) (hx:scope.names.lookup x=some .local:=by rfl) (hs:∀ v,foldedSetIterable iter X.env v=pure v:=by intro _;rfl) :
  PS X (.Assign [.Name y py] (.ListComp elt [⟨.Name x px,iter,ifs,0⟩] scope pos) spos) (tSetLC (tLC wi tc te js) i):=by
 intro pins s σ H D I h
 rw [exec_Assign_Name_used _ _ _ _ hsw]
 refine wpAny_bind (wpAny_standAt (wpAny_bind ?_))
 show wpAny _ X.A (do let _ ← comprehension (.ListComp elt [⟨.Name x px,iter,ifs,0⟩] scope pos) scope X.env _ (newList []) false (eval iter X.env) (some (assign (.Name y py) X.env))) _ _ s
 refine wpAny_bind (wpAny_mono (comp_core (use:=some (assign (.Name y py) X.env)) (QV:=fun _ s'=>SP X pins D .next s') hc hp he ht hcell hnames hnd hsub (freeOk.get hhas) hlen (capsOk.get hlen hcaps) hclos hkind hx hs I h fun d H' s5 C J5 q hC fp=>?_)
  (fun _ s' hq=>wpAny_pure (wpAny_pure hq)) fun _ _ e=>e)
 obtain ⟨mC,nsC⟩:=hC
 show wpAny _ X.A (assign (.Name y py) X.env (.ref d)) _ _ s5
 refine wpAny_assign_Name ?_
 refine J31 J5 hN hi hy (v:=.ref d) rfl (fun s6 I6 keep6=>?_) hf
 obtain ⟨a,sa,ha⟩:=keep6
 have aC:a≠C:=by
  rcases ha with e | e
  ·rw [e];exact Ne.symm fp.2.1
  ·exact fp.2.2.2.2.1 y a e
 exact ⟨mC,nsC.sameBut sa (Ne.symm aC),fun h' hs'=>⟨_,H',I6.turned (h':=h') (t':=s6.toks) (it:=C) (fun b o hb e=>(hs'.2 b hb).trans e) fp.1 fp.2.1 fp.2.2.2.1 fp.2.2.2.2.1 fp.2.2.2.2.2,q⟩⟩
end
theorem lc_over {J:It} {H1:Hp} {tc:TT} {te:TE} {σ:St} {js:List Nat} {Q:VK} {d:Addr} (n:Nat) (g:Nat→Bool) (f:Nat→V) (hd:H1 d=none) (hn:n≤1000)
  (hgo:∀ i H,i < n→Same H1 H→J.go i H) (hst:∀ H,Same H1 H→J.stop n H) (vv:Nat→V) (hy:∀ i H v H',i < n→Same H1 H→J.yld i H v H'→H'=H∧v=vv i)
  (hs:∀ i H Qt,i < n→Same H1 H→(∀ H',Same H H'→Qt (g i) H')→tc (some (vv i) :: capv σ js) H Qt)
  (he:∀ i H Qe,i < n→g i=true→Same H1 H→(∀ H',Same H H'→Qe (f i) H')→te (some (vv i) :: capv σ js) H Qe)
  (hq:∀ H',Same H1 H'→H' d=some (.lst (((List.range n).filter g).map f))→Q (.ref d) H') :
  ∃ W:Nat→Nat→List V→Hp→Prop,(∃ m,W 0 m [] (upd H1 d (.lst [])))∧
   ∀ i m ys H2,W i m ys H2→H2 d=some (.lst ys)∧((J.stop i H2∧Q (.ref d) H2)∨(J.go i H2∧ys.length < sizeLine∧∀ v H3,J.yld i H2 v H3→
    tc (some v :: capv σ js) H3 fun b H4=>if b=true then te (some v :: capv σ js) H4 fun y H5=>H5 d=some (.lst ys)∧∃ m',m' < m∧W (i + 1) m' (ys ++ [y]) (upd H5 d (.lst (ys ++ [y])))
     else ∃ m',m' < m∧W (i + 1) m' ys H4)):=by
 have s0:∀ o,Same H1 (upd H1 d o):=fun o b u e=>by rw [Jf (Jd e hd)];exact e
 refine ⟨fun i m ys H=>m=n - i∧i≤n∧ys=((List.range i).filter g).map f∧Same H1 H∧H d=some (.lst ys),⟨n,rfl,Nat.zero_le _,rfl,s0 _,J3⟩,?_⟩
 rintro i m ys H2 ⟨rfl,hi,rfl,sm,h2⟩
 refine ⟨h2,?_⟩
 by_cases hlt:i < n
 ·refine .inr ⟨hgo i H2 hlt sm,?_,fun v H3 y3=>?_⟩
  ·have h1:(((List.range i).filter g).map f).length≤i:=by
    rw [List.length_map]
    exact Nat.le_trans (List.length_filter_le _ _) (by rw [List.length_range];exact Nat.le_refl _)
   exact J34 (by omega)
  ·obtain ⟨rfl,rfl⟩:=hy i H2 v H3 hlt sm y3
   refine hs i H3 _ hlt sm fun H4 s4=>?_
   cases hg:g i with
   | false =>
    rw [if_neg (by decide)]
    refine ⟨n - (i + 1),by omega,rfl,hlt,?_,sm.trans s4,s4 _ _ h2⟩
    rw [List.range_succ,List.filter_append,List.map_append]
    simp [hg]
   | true =>
    rw [if_pos rfl]
    refine he i H4 _ hlt hg (sm.trans s4) fun H5 s5=>⟨s5 _ _ (s4 _ _ h2),n - (i + 1),by omega,rfl,hlt,?_,?_,J3⟩
    ·rw [List.range_succ,List.filter_append,List.map_append]
     simp [hg]
    ·intro b u e
     rw [Jf (Jd e hd)]
     exact s5 _ _ (s4 _ _ (sm _ _ e))
 ·have e:i=n:=by omega
  subst e
  exact .inl ⟨hst H2 sm,hq H2 sm h2⟩
theorem Same.tup {K:PySem.W.Frag} {H H':Hp} {a:Addr} {xs:List V} (e:Same H H') (h:SqT K H a xs):SqT K H' a xs:=by
 rcases h with (h | ⟨o,h⟩) | h
 ·exact .inl (.inl (e _ _ h))
 ·exact .inl (.inr ⟨o,e _ _ h⟩)
 ·exact .inr h
theorem pick_all {α:Type} (G:α→Bool) (F:α→V):∀ xs:List α,
  ((List.range xs.length).filter fun i=>match xs[i]? with | some v=>G v | none=>false).map (fun i=>match xs[i]? with | some v=>F v | none=>V.non)=(xs.filter G).map F
 | []=>rfl
 | a :: r=>by
  have ih:=pick_all G F r
  rw [List.length_cons,List.range_succ_eq_map,List.filter_cons,List.filter_map,List.filter_cons]
  have e:(fun i=>match (a :: r)[i]? with | some v=>G v | none=>false) ∘ Nat.succ=fun i=>match r[i]? with | some v=>G v | none=>false:=by
   funext i;simp
  have e2:(fun i=>match (a :: r)[i]? with | some v=>F v | none=>V.non) ∘ Nat.succ=fun i=>match r[i]? with | some v=>F v | none=>V.non:=by
   funext i;simp
  rw [e]
  cases hg:G a with
  | true =>
   simp only [List.getElem?_cons_zero,hg,if_true,List.map_cons,List.map_map]
   rw [e2,ih]
  | false =>
   simp only [List.getElem?_cons_zero,hg,Bool.false_eq_true,if_false,List.map_map]
   rw [e2,ih]
section
variable {α:Type} {K:PySem.W.Frag} {a:Addr} {H1:Hp} {tc:TT} {te:TE} {σ:St} {js:List Nat} {Q:VK} {d:Addr}
theorem lc_seq {J:It} (e:α→V) (xs:List α) (G:α→Bool) (F:α→V) (hn:xs.length≤1000) (hd:H1 d=none)
  (hgo:∀ i H,i < xs.length→Same H1 H→J.go i H) (hst:∀ H,Same H1 H→J.stop xs.length H) (hy:∀ i H v H',i < xs.length→Same H1 H→J.yld i H v H'→H'=H∧(xs.map e)[i]?=some v)
  (hs:∀ v∈xs,∀ H Qt,Same H1 H→(∀ H',Same H H'→Qt (G v) H')→tc (some (e v) :: capv σ js) H Qt)
  (he:∀ v∈xs,∀ H Qe,G v=true→Same H1 H→(∀ H',Same H H'→Qe (F v) H')→te (some (e v) :: capv σ js) H Qe)
  (hq:∀ H',Same H1 H'→H' d=some (.lst ((xs.filter G).map F))→Q (.ref d) H'):LCW J tc te σ js Q H1 d:=by
 have at_:∀ i,i < xs.length→∃ v,xs[i]?=some v∧v∈xs:=fun i hi=>⟨_,List.getElem?_eq_getElem hi,List.getElem_mem hi⟩
 refine lc_over xs.length (fun i=>match xs[i]? with | some v=>G v | none=>false) (fun i=>match xs[i]? with | some v=>F v | none=>V.non) hd hn hgo hst (fun i=>((xs.map e)[i]?).getD .non)
  (fun i H v H' hi s y=>?_) (fun i H Qt hi s k=>?_) (fun i H Qe hi hg s k=>?_) (fun H' s h=>?_)
 ·obtain ⟨e1,e2⟩:=hy i H v H' hi s y
  exact ⟨e1,by rw [e2];rfl⟩
 ·obtain ⟨v,e1,hv⟩:=at_ i hi
  rw [List.getElem?_map,e1]
  refine hs v hv H Qt s fun H' s'=>?_
  have:=k H' s'
  rw [e1] at this
  exact this
 ·obtain ⟨v,e1,hv⟩:=at_ i hi
  rw [e1] at hg
  rw [List.getElem?_map,e1]
  refine he v hv H Qe hg s fun H' s'=>?_
  have:=k H' s'
  rw [e1] at this
  exact this
 ·rw [pick_all] at h
  exact hq H' s h
theorem lc_lst (e:α→V) (xs:List α) (G:α→Bool) (F:α→V) (hx:SqL K H1 a (xs.map e)) (hn:xs.length≤1000) (hd:H1 d=none)
  (hs:∀ v∈xs,∀ H Qt,Same H1 H→(∀ H',Same H H'→Qt (G v) H')→tc (some (e v) :: capv σ js) H Qt)
  (he:∀ v∈xs,∀ H Qe,G v=true→Same H1 H→(∀ H',Same H H'→Qe (F v) H')→te (some (e v) :: capv σ js) H Qe)
  (hq:∀ H',Same H1 H'→H' d=some (.lst ((xs.filter G).map F))→Q (.ref d) H'):LCW (Itl K a) tc te σ js Q H1 d :=
 lc_seq e xs G F hn hd (fun i H hi s=>⟨_,_,s.seq hx,by rw [List.getElem?_map,List.getElem?_eq_getElem hi];rfl⟩) (fun H s=>⟨_,s.seq hx,by rw [List.length_map];exact Nat.le_refl _⟩)
  (fun i H v H' hi s y=>⟨y.1,y.2 _ (s.seq hx)⟩) hs he hq
theorem lc_rng (lo:Int) (n:Nat) (G:Nat→Bool) (F:Nat→V) (hn:n≤1000) (hd:H1 d=none)
  (hs:∀ i,i < n→∀ H Qt,Same H1 H→(∀ H',Same H H'→Qt (G i) H')→tc (some (.int (lo + i)) :: capv σ js) H Qt)
  (he:∀ i,i < n→∀ H Qe,G i=true→Same H1 H→(∀ H',Same H H'→Qe (F i) H')→te (some (.int (lo + i)) :: capv σ js) H Qe)
  (hq:∀ H',Same H1 H'→H' d=some (.lst (((List.range n).filter G).map F))→Q (.ref d) H'):LCW (Itr lo n) tc te σ js Q H1 d :=
 lc_over n G F hd hn (fun i H hi _=>hi) (fun H _=>Nat.le_refl _) (fun i=>.int (lo + i)) (fun i H v H' hi _ y=>y) (fun i H Qt hi s k=>hs i hi H Qt s k) (fun i H Qe hi hg s k=>he i hi H Qe hg s k) hq
end
theorem J15 {α:Type} (xs:List α):xs.filter (fun _=>true)=xs:=List.filter_eq_self.mpr fun _ _=>rfl
theorem pe_ixr {X:Cx} {a b:Expr} {pos:Pos} {ta tb:TE} {r:R2} (hr:IxR X r) (ha:PE X a ta) (hb:PE X b tb) (hs:PlainIx b:=by intro _ _;rfl):PE X (.Subscript a b pos) (tOp r ta tb):=pe_ix hr ha hb hs
end L2
namespace L2
open PySem PySem.Spec PyProof.Rows
section
variable {X:Cx}
theorem bools_at {bs:List Bool} {i:Nat} {v:Value} (h:((bs.map Value.bool).toArray)[i]?=some v):v=Value.bool (bs.getD i false):=by
 rw [List.getElem?_toArray,List.getElem?_map] at h
 cases e:bs[i]? with
 | none=>rw [e] at h;cases h
 | some b =>
  rw [e] at h
  rw [List.getD_eq_getElem?_getD,e]
  exact (Option.some.inj h).symm
theorem truth_bools {prog:Program} {w:World} {A:Around} (bs:List Bool):TruthOf prog w A (fun i v=>((bs.map Value.bool).toArray)[i]?=some v) (fun i=>bs.getD i false):=by
 intro i v s Q E hP h
 rw [bools_at hP]
 exact wpAny_truthy_bool h
theorem range_all (bs:List Bool):((List.range bs.length).all fun i=>bs.getD i false)=bs.all id:=by
 have e:(List.range bs.length).map (fun i=>bs.getD i false)=bs:=by
  apply List.ext_getElem
  ·simp
  ·intro n h1 h2
   simp [List.getElem?_eq_getElem h2]
 conv=>rhs;rw [← e]
 rw [List.all_map]
 rfl
theorem J4b (hc:X.calm=true):CallR X (.builtin "all") (fun xs H Q=>∃ (p:Addr) (bs:List Bool),xs=[.ref p]∧SqL X.K H p (bs.map V.bl)∧Q (.bl (bs.all id)) H):=by
 intro pins s σ H xs us Q I r h
 obtain ⟨p,bs,rfl,hq,q⟩:=h
 obtain ⟨u,rfl,rx⟩:=vals1 r
 cases rx
 obtain ⟨its,r',pl,hz⟩:=I.list hq
 obtain rfl:=J4c r'
 have hl:=pl.isList
 obtain ⟨o,ho,_⟩:=id hl
 have hne':p≠s.heap.objs.size:=Nat.ne_of_lt (Heap.lt_size ho)
 refine call_all_walk (wpAny_pyIter_list hl ⟨s.heap.objs.size,_,_,_,_,_,_,rfl,Walks.list (A:=X.A.in1) (I.ok.hd hc) _ p hne' _,⟨⟨_,Heap.get?_push_size _ rfl,rfl,rfl⟩,hl.at fun o e=>Heap.get?_push_of_some _ e⟩,truth_bools bs,fun h' tk hk=>?_⟩)
 rw [List.size_toArray,List.length_map,range_all]
 exact ⟨.bl _,H,I.kept (fun b o e=>hk b o (fun hb=>absurd (Heap.lt_size e) ((List.mem_singleton.mp hb) ▸ Nat.lt_irrefl _)) (Heap.get?_push_of_some _ e)),rfl,q⟩
end
end L2
namespace L2
open PySem PySem.Spec PyProof.Rows
section
variable {X:Cx}
theorem ix_listK (K:PySem.W.Frag) (h:X.K=K:=by rfl):IxR X (rIxL K):=by subst h;exact Jj
end
end L2
namespace L2
open PySem PySem.Spec PyProof.Rows
section
variable {X:Cx}
theorem vals_strs:∀ {ys:List Str} {its:List Value},Vals (ys.map V.str) its→∃ l:List (Str × Tok),l.map (·.1)=ys∧its=strValues l
 | [],_,.nil=>⟨[],rfl,rfl⟩
 | y :: ys,_,.cons r t=>by
  obtain ⟨k,rfl⟩:=r
  obtain ⟨l,e1,e2⟩:=vals_strs t
  subst e1 e2
  exact ⟨(y,k) :: l,rfl,rfl⟩
def rJoin:V→List V→Hp→VK→Prop:=fun x xs H Q=>∃ (sep:Str) (p:Addr) (ys:List Str),x=.str sep∧xs=[.ref p]∧H p=some (.lst (ys.map V.str))∧sep.length≤16∧(ys.map (·.length)).sum + ys.length≤1048576∧Q (.str (Txt.join sep ys)) H
theorem mt_join:MtR X "str.join" rJoin:=by
 intro pins s σ H x xs v us Q I rx rv h
 obtain ⟨sep,p,ys,rfl,rfl,hH,hs,hw,q⟩:=h
 obtain ⟨t,rfl⟩:=rx
 obtain ⟨u,rfl,ru⟩:=rv.one
 obtain rfl:u=Value.ref p:=ru
 obtain ⟨z,its,n,r,hl,e⟩:=I.lstM hH
 obtain ⟨l,e1,e2⟩:=vals_strs r
 subst e2
 exact SC.join (l:=l) ⟨_,e,rfl,_,rfl⟩ e1 (joinOk_of_weight hw hs) (fun t' k=>⟨.str _,H,I.tok _,⟨_,rfl⟩,q⟩)
end
end L2
namespace L2
open PySem PySem.Spec PyProof.Rows
structure Refs (Pr:Addr→Nat→Prop) (xs:List V) (n:Nat):Prop where
 len:xs.length=n
 at_:∀ i,i < n→∃ q,xs[i]?=some (.ref q)∧Pr q i
theorem Refs.nil {Pr:Addr→Nat→Prop}:Refs Pr [] 0:=⟨rfl,fun i h=>absurd h (Nat.not_lt_zero _)⟩
theorem Refs.mono {Pr Pr':Addr→Nat→Prop} {xs:List V} {n:Nat} (h:Refs Pr xs n) (m:∀ q i,i < n→Pr q i→Pr' q i):Refs Pr' xs n :=
 ⟨h.len,fun i hi=>let ⟨q,e,p⟩:=h.at_ i hi;⟨q,e,m q i hi p⟩⟩
end L2
namespace PySem
namespace F
end F
end PySem
namespace L2
open PySem PyProof.Rows
end L2
namespace Rl
def cellN (ns:List Int) (k:Nat):Int:=ns.getD k 0
def drawL (ns:List Int) (many:Nat) (top:Int):List Int:=(List.range many).map fun k=>1 + cellN ns (2 + k) % top
def insAt (xs:List Nat) (i y:Nat):List Nat:=xs.take i ++ y :: xs.drop i
def spotO (ns:List Int) (many k:Nat):Nat:=(cellN ns (2 + many + k) % ((k:Int) + 1)).toNat
def drawO (ns:List Int) (many:Nat):Nat→List Nat
 | 0=>[]
 | k + 1=>insAt (drawO ns many k) (spotO ns many k) k
theorem spotO_le (ns:List Int) (many k:Nat):spotO ns many k≤k∧((spotO ns many k:Nat):Int)=cellN ns (2 + many + k) % ((k:Int) + 1):=by
 unfold spotO
 have h1:0≤cellN ns (2 + many + k) % ((k:Int) + 1):=Int.emod_nonneg _ (by omega)
 have h2:cellN ns (2 + many + k) % ((k:Int) + 1) < (k:Int) + 1:=Int.emod_lt_of_pos _ (by omega)
 omega
theorem insAt_perm (xs:List Nat) (i y:Nat):(insAt xs i y).Perm (y :: xs):=by
 unfold insAt
 have h:(xs.take i ++ y :: xs.drop i).Perm (y :: (xs.take i ++ xs.drop i)):=List.perm_middle
 rwa [List.take_append_drop] at h
theorem J2p (ns:List Int) (many:Nat):∀ k,(drawO ns many k).Perm (List.range k)
 | 0=>List.Perm.refl _
 | k + 1=>by
  have h1:=insAt_perm (drawO ns many k) (spotO ns many k) k
  have h2:(k :: drawO ns many k).Perm (k :: List.range k):=(J2p ns many k).cons k
  have h3:(k :: List.range k).Perm (List.range (k + 1)):=by
   rw [List.range_succ]
   exact (List.perm_append_singleton k (List.range k)).symm
  exact h1.trans (h2.trans h3)
theorem drawO_len (ns:List Int) (many k:Nat):(drawO ns many k).length=k:=by
 rw [(J2p ns many k).length_eq,List.length_range]
theorem drawL_len (ns:List Int) (many:Nat) (top:Int):(drawL ns many top).length=many:=by simp [drawL]
theorem J3f {ns:List Int} {many:Nat} {top:Int} (ht:0 < top):∀ a∈drawL ns many top,1≤a∧a≤top:=fun a h=>by
 obtain ⟨k,_,rfl⟩:=List.mem_map.mp h
 have h1:=Int.emod_nonneg (cellN ns (2 + k)) (Int.ne_of_gt ht)
 have h2:=Int.emod_lt_of_pos (cellN ns (2 + k)) ht
 omega
theorem sum_le {b:Int}:∀ (xs:List Int),(∀ a∈xs,a≤b)→xs.sum≤(xs.length:Int) * b
 | [],_=>by simp
 | x :: xs,h=>by
  have h1:=h x List.mem_cons_self
  have h2:=sum_le xs fun a ha=>h a (List.mem_cons_of_mem _ ha)
  rw [List.sum_cons,List.length_cons]
  have e:(((xs.length + 1:Nat):Int)) * b=(xs.length:Int) * b + b:=by
   rw [Int.natCast_add,Int.add_mul];simp
  omega
theorem mul_top {n:Nat} {b:Int} (hn:n≤24) (hb:0≤b):(n:Int) * b≤24 * b:=Int.mul_le_mul_of_nonneg_right (by omega) hb
def sumsF (ls:List Int) (os:List Nat):Nat→List Int × Int
 | 0=>(List.replicate ls.length 0,0)
 | i + 1=>((sumsF ls os i).1.set (os.getD i 0) (sumsF ls os i).2,(sumsF ls os i).2 + ls.getD (os.getD i 0) 0)
theorem J30 (ls:List Int) (os:List Nat):∀ i,(sumsF ls os i).1.length=ls.length
 | 0=>by simp [sumsF]
 | i + 1=>by
  show ((sumsF ls os i).1.set _ _).length=_
  rw [List.length_set]
  exact J30 ls os i
def J3e (ls:List Int) (os:List Nat):List Int:=(sumsF ls os os.length).1
def natI (os:List Nat):List Int:=os.map fun (n:Nat)=>(n:Int)
end Rl
namespace Rl
def Jw (ls:List Int) (os:List Nat) (i:Nat):Int:=(sumsF ls os i).2
theorem J22 (ls:List Int) (os:List Nat):Jw ls os 0=0:=rfl
theorem Jv (ls:List Int) (os:List Nat) (i:Nat):Jw ls os (i + 1)=Jw ls os i + ls.getD (os.getD i 0) 0:=rfl
structure Ord (ls:List Int) (os:List Nat):Prop where
 pos:∀ a∈ls,1≤a
 perm:os.Perm (List.range ls.length)
theorem Ord.range {ls:List Int} {os:List Nat} (h:Ord ls os):Ord ls (List.range ls.length):=⟨h.pos,List.Perm.refl _⟩
theorem Ord.len {ls:List Int} {os:List Nat} (h:Ord ls os):os.length=ls.length:=by rw [h.perm.length_eq,List.length_range]
theorem Ord.nodup {ls:List Int} {os:List Nat} (h:Ord ls os):os.Nodup:=h.perm.nodup_iff.mpr List.nodup_range
theorem J28 {os:List Nat} {i:Nat} (h:i < os.length):os.getD i 0∈os:=by
 rw [List.getD_eq_getElem?_getD,List.getElem?_eq_getElem h];exact List.getElem_mem h
theorem getD_memI {ls:List Int} {i:Nat} (h:i < ls.length):ls.getD i 0∈ls:=by
 rw [List.getD_eq_getElem?_getD,List.getElem?_eq_getElem h];exact List.getElem_mem h
theorem Ord.lt {ls:List Int} {os:List Nat} (h:Ord ls os) {i:Nat} (hi:i < ls.length):os.getD i 0 < ls.length :=
 List.mem_range.mp (h.perm.mem_iff.mp (J28 (by rw [h.len];exact hi)))
theorem Ord.one {ls:List Int} {os:List Nat} (h:Ord ls os) {j:Nat} (hj:j < ls.length):1≤ls.getD j 0:=h.pos _ (getD_memI hj)
theorem Ord.inj {ls:List Int} {os:List Nat} (h:Ord ls os) {i j:Nat} (hi:i < ls.length) (hj:j < ls.length) (e:os.getD i 0=os.getD j 0):i=j:=by
 rw [List.getD_eq_getElem?_getD,List.getD_eq_getElem?_getD,List.getElem?_eq_getElem (by rw [h.len];exact hi),List.getElem?_eq_getElem (by rw [h.len];exact hj)] at e
 exact (List.getElem_inj h.nodup).mp e
theorem Ord.onto {ls:List Int} {os:List Nat} (h:Ord ls os) {j:Nat} (hj:j < ls.length):∃ i,i < ls.length∧os.getD i 0=j:=by
 obtain ⟨i,hi,e⟩:=List.getElem_of_mem (h.perm.mem_iff.mpr (List.mem_range.mpr hj))
 refine ⟨i,by rw [← h.len];exact hi,?_⟩
 rw [List.getD_eq_getElem?_getD,List.getElem?_eq_getElem hi];exact e
theorem Ord.step {ls:List Int} {os:List Nat} (h:Ord ls os) {i:Nat} (hi:i < ls.length):Jw ls os i < Jw ls os (i + 1):=by
 have:=h.one (h.lt hi)
 rw [Jv];lia
theorem Ord.mono {ls:List Int} {os:List Nat} (h:Ord ls os) {i:Nat}:∀ {k:Nat},i≤k→k≤ls.length→Jw ls os i≤Jw ls os k
 | 0,h1,_=>by rw [Nat.le_zero.mp h1];exact Int.le_refl _
 | k + 1,h1,h2=>by
  by_cases e:i=k + 1
  ·rw [e];exact Int.le_refl _
  ·have a:=h.mono (i:=i) (k:=k) (by lia) (by lia)
   have b:=h.step (i:=k) (by lia)
   lia
theorem set_get (f:List Int) (p q:Nat) (v:Int) (hp:p < f.length):(f.set p v).getD q 0=if q=p then v else f.getD q 0:=by
 rw [List.getD_eq_getElem?_getD,List.getD_eq_getElem?_getD]
 by_cases e:q=p
 ·subst e;rw [List.getElem?_set_self hp,if_pos rfl];rfl
 ·rw [List.getElem?_set_ne (Ne.symm e),if_neg e]
theorem Ord.at {ls:List Int} {os:List Nat} (h:Ord ls os) {i:Nat}:∀ {k:Nat},i < k→k≤ls.length→(sumsF ls os k).1.getD (os.getD i 0) 0=Jw ls os i
 | 0,h1,_=>absurd h1 (Nat.not_lt_zero _)
 | k + 1,h1,h2=>by
  show ((sumsF ls os k).1.set (os.getD k 0) (sumsF ls os k).2).getD (os.getD i 0) 0=_
  rw [set_get _ _ _ _ (by rw [J30];exact h.lt (by lia))]
  by_cases e:i=k
  ·subst e;rw [if_pos rfl];rfl
  ·rw [if_neg (fun q=>e (h.inj (by lia) (by lia) q))]
   exact h.at (by lia) (by lia)
theorem Ord.first {ls:List Int} {os:List Nat} (h:Ord ls os) {i:Nat} (hi:i < ls.length):(J3e ls os).getD (os.getD i 0) 0=Jw ls os i:=by
 unfold J3e
 rw [h.len]
 exact h.at hi (Nat.le_refl _)
theorem J3d (ls:List Int):(List.range ls.length).map (fun j=>ls.getD j 0)=ls:=by
 apply List.ext_getElem?
 intro k
 rw [List.getElem?_map]
 by_cases hk:k < ls.length
 ·rw [List.getElem?_range hk,List.getElem?_eq_getElem hk]
  show some (ls.getD k 0)=_
  rw [List.getD_eq_getElem?_getD,List.getElem?_eq_getElem hk];rfl
 ·rw [List.getElem?_eq_none (by simpa using hk),List.getElem?_eq_none (by lia)];rfl
theorem J23 (ls:List Int) (os:List Nat):∀ i,i≤os.length→Jw ls os i=((os.take i).map fun j=>ls.getD j 0).sum
 | 0,_=>by simp [J22]
 | i + 1,h=>by
  rw [Jv,J23 ls os i (by lia),List.take_succ,List.getElem?_eq_getElem (by lia)]
  simp only [Option.toList_some,List.map_append,List.map_cons,List.map_nil,List.sum_append,List.sum_cons,List.sum_nil]
  rw [List.getD_eq_getElem?_getD (l:=os),List.getElem?_eq_getElem (by lia)]
  simp
theorem perm_sum {xs ys:List Int} (h:xs.Perm ys):xs.sum=ys.sum:=by
 induction h with
 | nil=>rfl
 | cons x _ ih=>rw [List.sum_cons,List.sum_cons,ih]
 | swap x y l=>rw [List.sum_cons,List.sum_cons,List.sum_cons,List.sum_cons];lia
 | trans _ _ a b=>exact a.trans b
theorem Ord.whole {ls:List Int} {os:List Nat} (h:Ord ls os):Jw ls os ls.length=ls.sum:=by
 rw [J23 ls os _ (by rw [h.len];exact Nat.le_refl _),List.take_of_length_le (by rw [h.len];exact Nat.le_refl _)]
 have p:(os.map fun j=>ls.getD j 0).Perm ((List.range ls.length).map fun j=>ls.getD j 0):=h.perm.map _
 rw [perm_sum p,J3d]
def Lies (fs ls:List Int) (x:Int) (j:Nat):Prop:=j < ls.length∧fs.getD j 0≤x∧x < fs.getD j 0 + ls.getD j 0
theorem J1k {S:Nat→Int} {x:Int}:∀ (k:Nat),S 0≤x→x < S k→∃ i,i < k∧S i≤x∧x < S (i + 1)
 | 0,h0,h1=>by lia
 | k + 1,h0,h1=>by
  by_cases e:x < S k
  ·obtain ⟨i,hi,q⟩:=J1k k h0 e
   exact ⟨i,by lia,q⟩
  ·exact ⟨k,by lia,by lia,h1⟩
theorem Ord.lies {ls:List Int} {os:List Nat} (h:Ord ls os) {i:Nat} {x:Int} (hi:i < ls.length) (h1:Jw ls os i≤x) (h2:x < Jw ls os (i + 1)):Lies (J3e ls os) ls x (os.getD i 0):=by
 refine ⟨h.lt hi,?_,?_⟩
 ·rw [h.first hi];exact h1
 ·rw [h.first hi];rw [Jv] at h2;exact h2
theorem Ord.lies_of {ls:List Int} {os:List Nat} (h:Ord ls os) {j:Nat} {x:Int} (q:Lies (J3e ls os) ls x j):∃ i,i < ls.length∧os.getD i 0=j∧Jw ls os i≤x∧x < Jw ls os (i + 1):=by
 obtain ⟨hj,q1,q2⟩:=q
 obtain ⟨i,hi,e⟩:=h.onto hj
 subst e
 rw [h.first hi] at q1 q2
 exact ⟨i,hi,rfl,q1,by rw [Jv];exact q2⟩
theorem Ord.exists {ls:List Int} {os:List Nat} (h:Ord ls os) {x:Int} (h0:0≤x) (h1:x < ls.sum):∃ j,Lies (J3e ls os) ls x j:=by
 obtain ⟨i,hi,a,b⟩:=J1k (S:=Jw ls os) ls.length (by rw [J22];exact h0) (by rw [h.whole];exact h1)
 exact ⟨_,h.lies hi a b⟩
theorem Ord.unique {ls:List Int} {os:List Nat} (h:Ord ls os) {x:Int} {j k:Nat} (a:Lies (J3e ls os) ls x j) (b:Lies (J3e ls os) ls x k):j=k:=by
 obtain ⟨i,hi,rfl,a1,a2⟩:=h.lies_of a
 obtain ⟨i',hi',rfl,b1,b2⟩:=h.lies_of b
 have:i=i':=by
  by_cases e:i < i'
  ·have:=h.mono (i:=i + 1) (k:=i') e (by lia);lia
  ·by_cases e':i' < i
   ·have:=h.mono (i:=i' + 1) (k:=i) e' (by lia);lia
   ·lia
 rw [this]
def moveN (ls:List Int) (ts:List Bool) (j:Nat) (off:Int) (fs:List Int):Int:=if ts.getD j false=true then fs.getD j 0 + ls.getD j 0 - 1 - off else fs.getD j 0 + off
end Rl
namespace Rl
def lenOf (ls:List Int) (row:List Nat):Int:=(row.map fun j=>ls.getD j 0).sum
theorem lenOf_ahead (ls:List Int) (os:List Nat):Jw ls os os.length=lenOf ls os:=by
 rw [J23 ls os _ (Nat.le_refl _),List.take_length];rfl
structure Row (ls:List Int) (os:List Nat):Prop where
 nd:os.Nodup
 lt:∀ j∈os,j < ls.length
 pos:∀ j∈os,1≤ls.getD j 0
theorem Row.inj {ls:List Int} {os:List Nat} (h:Row ls os) {i j:Nat} (hi:i < os.length) (hj:j < os.length) (e:os.getD i 0=os.getD j 0):i=j:=by
 rw [List.getD_eq_getElem?_getD,List.getD_eq_getElem?_getD,List.getElem?_eq_getElem hi,List.getElem?_eq_getElem hj] at e
 exact (List.getElem_inj h.nd).mp e
theorem Row.at {ls:List Int} {os:List Nat} (h:Row ls os) {i:Nat}:∀ {k:Nat},i < k→k≤os.length→(sumsF ls os k).1.getD (os.getD i 0) 0=Jw ls os i
 | 0,h1,_=>absurd h1 (Nat.not_lt_zero _)
 | k + 1,h1,h2=>by
  show ((sumsF ls os k).1.set (os.getD k 0) (sumsF ls os k).2).getD (os.getD i 0) 0=_
  rw [set_get _ _ _ _ (by rw [J30];exact h.lt _ (J28 (by lia)))]
  by_cases e:i=k
  ·subst e;rw [if_pos rfl];rfl
  ·rw [if_neg (fun q=>e (h.inj (by lia) (by lia) q))]
   exact h.at (by lia) (by lia)
theorem Row.first {ls:List Int} {os:List Nat} (h:Row ls os) {i:Nat} (hi:i < os.length):(J3e ls os).getD (os.getD i 0) 0=Jw ls os i:=h.at hi (Nat.le_refl _)
theorem Row.step {ls:List Int} {os:List Nat} (h:Row ls os) {i:Nat} (hi:i < os.length):Jw ls os i < Jw ls os (i + 1):=by
 rw [Jv]
 have:=h.pos _ (J28 hi)
 lia
theorem Row.mono {ls:List Int} {os:List Nat} (h:Row ls os) {i:Nat}:∀ {k:Nat},i≤k→k≤os.length→Jw ls os i≤Jw ls os k
 | 0,h1,_=>by
  have e:i=0:=Nat.le_zero.mp h1
  rw [e]
  exact Int.le_refl _
 | k + 1,h1,h2=>by
  by_cases e:i=k + 1
  ·subst e;exact Int.le_refl _
  ·have a:=Row.mono h (i:=i) (k:=k) (by lia) (by lia)
   have b:=h.step (i:=k) (by lia)
   lia
def AtR (ls:List Int) (os:List Nat) (y:Int) (i:Nat):Prop:=i < os.length∧Jw ls os i≤y∧y < Jw ls os (i + 1)
theorem Row.exists {ls:List Int} {os:List Nat} (h:Row ls os) {y:Int} (h0:0≤y) (h1:y < lenOf ls os):∃ i,AtR ls os y i:=by
 rw [← lenOf_ahead] at h1
 obtain ⟨i,hi,a,b⟩:=J1k (S:=Jw ls os) os.length (by rw [J22];exact h0) h1
 exact ⟨i,hi,a,b⟩
theorem Row.unique {ls:List Int} {os:List Nat} (h:Row ls os) {y:Int} {i k:Nat} (a:AtR ls os y i) (b:AtR ls os y k):i=k:=by
 obtain ⟨a1,a2,a3⟩:=a
 obtain ⟨b1,b2,b3⟩:=b
 rcases Nat.lt_trichotomy i k with q | q | q
 ·have:=h.mono (i:=i + 1) (k:=k) (by lia) (by lia)
  lia
 ·exact q
 ·have:=h.mono (i:=k + 1) (k:=i) (by lia) (by lia)
  lia
structure Rst where
 top:List Nat
 bot:List Nat
 ls:List Int
 ts:List Bool
structure Rst.Ok (r:Rst):Prop where
 row:Row r.ls r.top
 perm:r.bot.Perm r.top
 zl:∀ j,j ∉ r.top→r.ls.getD j 0=0
 zt:∀ j,j ∉ r.top→r.ts.getD j false=false
 len:r.ts.length=r.ls.length
 few:r.ls.length≤24
def Rst.size (r:Rst):Int:=lenOf r.ls r.top
theorem Rst.Ok.rowB {r:Rst} (h:r.Ok):Row r.ls r.bot:=⟨h.perm.nodup_iff.mpr h.row.nd,fun j hj=>h.row.lt j (h.perm.mem_iff.mp hj),fun j hj=>h.row.pos j (h.perm.mem_iff.mp hj)⟩
def GoesTo (r:Rst) (y z:Int):Prop:=∃ i,AtR r.ls r.top y i∧z=moveN r.ls r.ts (r.top.getD i 0) (y - Jw r.ls r.top i) (J3e r.ls r.bot)
theorem mem_at {os:List Nat} {j:Nat} (h:j∈os):∃ k,k < os.length∧os.getD k 0=j:=by
 obtain ⟨k,hk,e⟩:=List.getElem_of_mem h
 exact ⟨k,hk,by rw [List.getD_eq_getElem?_getD,List.getElem?_eq_getElem hk];exact e⟩
theorem Rst.Ok.goes {r:Rst} (h:r.Ok) {y z:Int} (g:GoesTo r y z):∃ i k,AtR r.ls r.top y i∧AtR r.ls r.bot z k∧r.bot.getD k 0=r.top.getD i 0∧
  z - Jw r.ls r.bot k=(if r.ts.getD (r.top.getD i 0) false=true then r.ls.getD (r.top.getD i 0) 0 - 1 - (y - Jw r.ls r.top i) else y - Jw r.ls r.top i):=by
 obtain ⟨i,⟨i1,i2,i3⟩,rfl⟩:=g
 obtain ⟨k,hk,ek⟩:=mem_at (h.perm.mem_iff.mpr (J28 i1))
 have f:=h.rowB.first hk
 rw [ek] at f
 rw [Jv] at i3
 refine ⟨i,k,⟨i1,i2,by rw [Jv];exact i3⟩,?_,ek,?_⟩
 ·unfold moveN
  refine ⟨hk,?_,?_⟩
  ·rw [f];split <;> lia
  ·rw [Jv,ek,f];split <;> lia
 ·unfold moveN
  rw [f];split <;> lia
theorem Rst.Ok.inj {r:Rst} (h:r.Ok) {y y' z:Int} (a:GoesTo r y z) (b:GoesTo r y' z):y=y':=by
 obtain ⟨i,k,hi,hk,e1,o1⟩:=h.goes a
 obtain ⟨i',k',hi',hk',e2,o2⟩:=h.goes b
 obtain rfl:=h.rowB.unique hk hk'
 rw [e1] at e2
 obtain rfl:=h.row.inj hi.1 hi'.1 e2
 rw [o1] at o2
 split at o2 <;> lia
theorem Rst.Ok.there {r:Rst} (h:r.Ok) {y:Int} (h0:0≤y) (h1:y < r.size):∃ z,GoesTo r y z:=by
 obtain ⟨i,hi⟩:=h.row.exists h0 h1
 exact ⟨_,i,hi,rfl⟩
end Rl
namespace Rl
end Rl
namespace L2
open PySem PySem.Spec PyProof.Rows
section
variable {X:Cx}
theorem strs_vals:∀ (l:List (Str × Tok)),Vals ((l.map (·.1)).map V.str) (strValues l)
 | []=>.nil
 | p :: r=>.cons ⟨p.2,rfl⟩ (strs_vals r)
def rSplit:V→List V→Hp→VK→Prop:=fun x xs H Q=>∃ (z y:Str),x=.str z∧xs=[.str y]∧(y.length == 0)=false∧z.length + 2≤sizeLine∧∀ d,H d=none→Q (.ref d) (upd H d (.lst ((Txt.split z y).map V.str)))
theorem J3b:MtR X "str.split" rSplit:=by
 intro pins s σ H x xs v us Q I rx rv h
 obtain ⟨z,y,rfl,rfl,hy,hz,q⟩:=h
 obtain ⟨t,rfl⟩:=rx
 obtain ⟨u,rfl,ru⟩:=rv.one
 obtain ⟨t',rfl⟩:=ru
 have fin:∀ (l:List (Str × Tok)) (k:Nat),l.map (·.1)=Txt.split z y→EP X pins σ Q (.ref s.heap.objs.size) { s with heap:=s.heap.push { cls:=.type "list",data:=.seq (strValues l).toArray },toks:=k }:=fun l k e=>by
  refine ⟨.ref s.heap.objs.size,_,I.laid (t':=k) (o:=.lst ((Txt.split z y).map V.str)) (fun b ob q=>Heap.get?_push_of_some _ q) (Nat.le_refl _) ⟨?_,strValues l,0,?_,Heap.get?_push_size _ rfl⟩,rfl,q _ (I.hok.fresh (Nat.le_refl _))⟩
  ·rw [List.length_map]
   exact Nat.le_trans (split_le z y) hz
  ·rw [← e];exact strs_vals l
 have hn:(Builtin.Str.partsBetween z (Builtin.Str.occurrences z y 0 z.length (z.length + 1)) y.length).length≤sizeLine:=by
  have e1:=StrLaws.occ_length_le z y 0 z.length (z.length + 1)
  rw [length_partsBetween];omega
 cases h1:(decide (z.length < y.length) || decide (Builtin.Str.strKind z < Builtin.Str.strKind y))
 ·cases hf:(Builtin.Str.occurrences z y 0 z.length (z.length + 1)).isEmpty
  ·refine call_meets PySem.F.slot_str_split (typeIs_str _ _ _) PySem.F.entry_str_split (PySem.F.args_str_split_2 _ _) (meets_str_split_sep z y t t' h1 hy hf (by omega) hn) ?_
   show wants _ _ _ { s with toks:=_,heap:=s.heap.push { cls:=.type "list",data:=.seq (strsFrom s.toks (Builtin.Str.partsBetween z (Builtin.Str.occurrences z y 0 z.length (z.length + 1)) y.length)).toArray } }
   rw [strsFrom_eq]
   exact fin (numbered s.toks _) _ ((numbered_texts _ _).trans ((if_neg (ne_true_of_eq_false h1)).trans (if_neg (ne_true_of_eq_false hf))).symm)
  ·exact call_meets PySem.F.slot_str_split (typeIs_str _ _ _) PySem.F.entry_str_split (PySem.F.args_str_split_2 _ _) (meets_str_split_not_found z y t t' h1 hy hf)
    (fin [(z,t)] s.toks ((if_neg (ne_true_of_eq_false h1)).trans (if_pos hf)).symm)
 ·exact call_meets PySem.F.slot_str_split (typeIs_str _ _ _) PySem.F.entry_str_split (PySem.F.args_str_split_2 _ _) (meets_str_split_cannot_occur z y t t' h1)
   (fin [(z,t)] s.toks (if_pos h1).symm)
def rEnds:V→List V→Hp→VK→Prop:=fun x xs H Q=>∃ (z y:Str),x=.str z∧xs=[.str y]∧Q (.bl (0 + y.length≤z.length && Builtin.Str.subAt z y (z.length - y.length))) H
theorem mt_ends:MtR X "str.endswith" rEnds:=by
 intro pins s σ H x xs v us Q I rx rv h
 obtain ⟨z,y,rfl,rfl,q⟩:=h
 obtain ⟨t,rfl⟩:=rx
 obtain ⟨u,rfl,ru⟩:=rv.one
 obtain ⟨t',rfl⟩:=ru
 exact call_gives PySem.F.slot_str_endswith (typeIs_str _ _ _) PySem.F.entry_str_endswith (PySem.F.args_str_endswith_2 _ _) (gives_str_endswith z y t t') (show EP X pins σ Q (.bool _) s from ⟨.bl _,H,I,rfl,q⟩)
def rSlS:V→Option Int→Option Int→Hp→VK→Prop:=fun x lo hi H Q=>∃ z,x=.str z∧z.length≤sizeLine∧Q (.str (Txt.slice z lo hi)) H
theorem sl_str:SlR X rSlS:=by
 intro pins s σ H x v vl vu lo hi sl Q I rx hs pl pu h
 obtain ⟨z,rfl,hz,q⟩:=h
 obtain ⟨t,rfl⟩:=rx
 refine ⟨"str",_,PySem.F.slot_str_getitem.lookup,typeIs_str _ _ _,?_⟩
 obtain ⟨o,e1,e2,e3⟩:=hs
 have fin:∀ t' k,EP X pins σ Q (.str (Txt.slice z lo hi) t') { s with toks:=k }:=fun t' k=>⟨.str _,H,I.tok _,⟨_,rfl⟩,q⟩
 cases pl with
 | none=>cases pu with
  | none=>exact wpAny_getItem_str_slice (l:=none) (u:=none) (st:=none) ⟨o,e1,e2,e3⟩ rfl (post_val_or_str ⟨Nat.le_trans (Txt.slice_le z _ _) hz,fin⟩)
  | int j uj=>exact wpAny_getItem_str_slice (l:=none) (u:=some (j,uj)) (st:=none) ⟨o,e1,e2,e3⟩ rfl (post_val_or_str ⟨Nat.le_trans (Txt.slice_le z _ _) hz,fin⟩)
 | int i ui=>cases pu with
  | none=>exact wpAny_getItem_str_slice (l:=some (i,ui)) (u:=none) (st:=none) ⟨o,e1,e2,e3⟩ rfl (post_val_or_str ⟨Nat.le_trans (Txt.slice_le z _ _) hz,fin⟩)
  | int j uj=>exact wpAny_getItem_str_slice (l:=some (i,ui)) (u:=some (j,uj)) (st:=none) ⟨o,e1,e2,e3⟩ rfl (post_val_or_str ⟨Nat.le_trans (Txt.slice_le z _ _) hz,fin⟩)
end
def Itz (z:Str):It:=⟨fun i _=>i < z.cps.size,fun i H x H'=>H'=H∧∃ c,z.cps[i]?=some c∧x=.str ⟨#[c]⟩,fun i _=>i=z.cps.size⟩
theorem turn_str {P:Program} {w:World} {K:PySem.W.Frag} {tg:Expr} (z:Str) (t:Tok) (it:Addr) {n:String} (hn:["enumerate","zip","dict_itemiterator","dict_reverseitemiterator","odict_iterator","itertools.zip_longest","itertools.pairwise"].contains n=false)
  (W:∀ A':Around,A'.handled=none→Walks P w A' it [it] [it] z.cps.size (SignAt z) (fun i h=>h.IsStrIter it n z t i)) (S:∀ (A:Around) (i:Nat) (s:Shared) (Q:Value→Shared→Prop) (E:Value→Shared→Prop),s.heap.IsStrIter it n z t i→Q (.ref it) s→wpAny (model P w) A (pyIter (.ref it)) Q E s) :
  Turn P w K tg (Itz z) [it] it (fun i h=>h.IsStrIter it n z t i) where
 mem:=by simp
 obj:=fun i h st b hb=>by
  have e:b=it:=by simpa using hb
  subst e
  obtain ⟨o,e,c,d⟩:=st
  exact ⟨o,e,fun v z=>by rw [d] at z;cases z⟩
 keep:=fun i h h' st k=>let ⟨o,e,r⟩:=st;⟨o,k it (by simp) o e,r⟩
 item:=by
  intro X hP hw hK hc i pins s σ H E I hf st hg
  subst hP hw hK
  obtain ⟨f0,f1,f2,f3,f4,f5⟩:=hf it (by simp)
  refine (W X.A (I.ok.hd hc)).item i s _ _ hg st fun v h' tk hv st' kk=>?_
  obtain ⟨c,u,hcp,rfl⟩:=hv
  have I1:Inv X pins σ H { s with heap:=h',toks:=tk }:=I.turned (fun b o hb e=>kk b o (by simpa using hb) e) f0 f1 f3 f4 f5
  obtain ⟨o,e,c1,d⟩:=id st'
  exact ⟨_,rfl,go_of (s:={ s with heap:=h',toks:=tk }) e c1 d hn ⟨.str ⟨#[c]⟩,H,I1,⟨u,rfl⟩,⟨rfl,c,hcp,rfl⟩,st',fun b hb=>(hf b hb).1⟩⟩
 done:=by
  intro X hP hw hK hc i pins s σ H E I hf st hg
  subst hP hw hK
  obtain ⟨f0,f1,f2,f3,f4,f5⟩:=hf it (by simp)
  have hg:i=z.cps.size:=hg
  subst hg
  exact (W X.A (I.ok.hd hc)).done s _ _ st fun h' tk kk=>⟨rfl,I.turned (fun b o hb e=>kk b o (by simpa using hb) e) f0 f1 f3 f4 f5⟩
 self:=fun A i s Q E st h=>S A i s Q E st h
def iStr (tl:TE):TI:=fun σ H R=>tl σ H fun x H1=>∃ z,x=.str z∧R (Itz z) H1
theorem pi_str {X:Cx} {tg l:Expr} {tl:TE} (hl:PE X l tl):PI X tg l (iStr tl):=by
 intro pins s σ H R I h
 refine thn (hl pins s σ H _ I h) fun v s1 ⟨x,H1,I1,r1,q1⟩=>?_
 obtain ⟨z,e,q⟩:=q1
 subst e
 obtain ⟨t,rfl⟩:=r1
 have new:∀ (ob:Obj),∀ b∈[s1.heap.objs.size],FpOk X pins H1 b:=fun ob b hb=>by
  have e:b=s1.heap.objs.size:=by simpa using hb
  subst e
  exact I1.fpOk (Nat.le_refl _) (I1.hok.fresh (Nat.le_refl _))
 cases ha:z.cps.all (· < 128)
 ·exact wpAny_pyIter_wide ha ⟨s1.heap.objs.size,[s1.heap.objs.size],_,_,H1,rfl,I1.kept (t':=s1.toks) fun b o e=>Heap.get?_push_of_some _ e,turn_str z t _ (n:="str_iterator") (by decide) (fun A' hA=>Walks.strWide hA _ z t) (fun _ _ _ _ _ st h=>wpAny_pyIter_striter_wide st h),⟨_,Heap.get?_push_size _ rfl,rfl,rfl⟩,new default,q⟩
 ·exact wpAny_pyIter_ascii ha ⟨s1.heap.objs.size,[s1.heap.objs.size],_,_,H1,rfl,I1.kept (t':=s1.toks) fun b o e=>Heap.get?_push_of_some _ e,turn_str z t _ (n:="str_ascii_iterator") (by decide) (fun A' hA=>Walks.strAscii hA _ z t) (fun _ _ _ _ _ st h=>wpAny_pyIter_striter_ascii st h),⟨_,Heap.get?_push_size _ rfl,rfl,rfl⟩,new default,q⟩
section
variable {H1:Hp} {tc:TT} {te:TE} {σ:St} {js:List Nat} {Q:VK} {d:Addr}
theorem lc_str (z:Str) (G:Nat→Bool) (F:Nat→V) (hn:z.length≤1000) (hd:H1 d=none)
  (hs:∀ c∈z.cps.toList,∀ H Qt,Same H1 H→(∀ H',Same H H'→Qt (G c) H')→tc (some (.str ⟨#[c]⟩) :: capv σ js) H Qt)
  (he:∀ c∈z.cps.toList,∀ H Qe,G c=true→Same H1 H→(∀ H',Same H H'→Qe (F c) H')→te (some (.str ⟨#[c]⟩) :: capv σ js) H Qe)
  (hq:∀ H',Same H1 H'→H' d=some (.lst ((z.cps.toList.filter G).map F))→Q (.ref d) H'):LCW (Itz z) tc te σ js Q H1 d:=by
 have hl:z.cps.toList.length=z.cps.size:=Array.length_toList
 have hn:z.cps.size≤1000:=hn
 refine lc_seq (fun c:Nat=>V.str ⟨#[c]⟩) z.cps.toList G F (by rw [hl];exact hn) hd (fun i H hi s=>by rw [hl] at hi;exact hi) (fun H s=>hl) (fun i H v H' hi s y=>?_) hs he hq
 obtain ⟨e,c,hc,rfl⟩:=y
 refine ⟨e,?_⟩
 rw [List.getElem?_map]
 have:z.cps.toList[i]?=some c:=by simpa using hc
 rw [this];rfl
end
end L2
namespace L2
open PySem PySem.Spec PyProof.Rows
section
variable {X:Cx}
theorem J1r:OpR X (binaryOp .Mult) (fun x y H Q=>∃ (z:Str) (n:Int),x=.str z∧y=.int n∧(-1≤n∧n≤10000)∧z.length≤10∧Q (.str (Txt.mul z n)) H):=by
 intro pins s σ H x y v u Q I rx ry h
 obtain ⟨z,n,rfl,rfl,hn,hz,q⟩:=h
 obtain ⟨t,rfl⟩:=rx
 obtain ⟨t',rfl⟩:=ry
 refine SB.mul ⟨?_,fun h1 h2 h3=>?_,fun h1 h2=>?_⟩ fun t' k=>⟨.str (Txt.mul z n),H,I.tok _,⟨_,rfl⟩,q⟩
 ·rw [Bool.or_eq_false_iff]
  exact ⟨decide_eq_false (by omega),decide_eq_false (by omega)⟩
 ·have h4:(11:Int)≤(2 ^ 63 - 1) / n:=(Int.le_ediv_iff_mul_le (by omega)).mpr (by omega)
  omega
 ·have h4:z.length * n.toNat≤10 * 10000:=Nat.mul_le_mul hz (by omega)
  exact decide_eq_false (by rw [sizeLine_eq];omega)
def rUpper:V→List V→Hp→VK→Prop:=fun x xs H Q=>∃ z:Str,x=.str z∧xs=[]∧(Txt.upper z).length≤1000∧Q (.str (Txt.upper z)) H
theorem mt_upper:MtR X "str.upper" rUpper:=by
 intro pins s σ H x xs v us Q I rx rv h
 obtain ⟨z,rfl,rfl,hz,q⟩:=h
 obtain ⟨t,rfl⟩:=rx
 cases rv
 exact call_gives PySem.F.slot_str_upper (typeIs_str _ _ _) PySem.F.entry_str_upper (PySem.F.args_str_upper_1 _) (gives_str_upper z t (decide_eq_false (by rw [sizeLine_eq];show ¬ (Txt.upper z).length > _;omega))) (show _∧EP X pins σ Q (.str (Txt.upper z) _) _ from ⟨Nat.le_trans hz (by rw [sizeLine_eq];decide),.str _,H,I.tok _,⟨_,rfl⟩,q⟩)
end
end L2
namespace Rl
open PySem
theorem J3v {c:Nat}:∀ {a a' b b':List Nat},c ∉ a→c ∉ a'→a ++ c :: b=a' ++ c :: b'→a=a'∧b=b'
 | [],[],_,_,_,_,e=>⟨rfl,(List.cons.inj e).2⟩
 | [],y :: ys,_,_,_,h',e=>absurd (List.mem_cons.mpr (.inl (List.cons.inj e).1)) h'
 | x :: xs,[],_,_,h,_,e=>absurd (List.mem_cons.mpr (.inl (List.cons.inj e).1.symm)) h
 | x :: xs,y :: ys,_,_,h,h',e=>by
  obtain ⟨e1,e2⟩:=List.cons.inj e
  obtain ⟨q1,q2⟩:=J3v (fun m=>h (List.mem_cons_of_mem _ m)) (fun m=>h' (List.mem_cons_of_mem _ m)) e2
  exact ⟨by rw [e1,q1],q2⟩
theorem J9 (a b:Str):(a ++ b).cps.toList=a.cps.toList ++ b.cps.toList:=by
 rw [Str.cps_append,Array.toList_append]
theorem Jy {a b:Str} (h:a.cps.toList=b.cps.toList):a=b:=Str.ext' (Array.toList_inj.mp h)
theorem J1t (c:Nat) (x y:Str) (r:List Str):(Str.join ⟨#[c]⟩ (x :: y :: r)).cps.toList=x.cps.toList ++ c :: (Str.join ⟨#[c]⟩ (y :: r)).cps.toList:=by
 show (x ++ ⟨#[c]⟩ ++ Str.join ⟨#[c]⟩ (y :: r)).cps.toList=_
 rw [J9,J9,List.append_assoc];rfl
theorem join_inj (c:Nat):∀ {ps qs:List Str},ps≠[]→qs≠[]→(∀ p∈ps,c ∉ p.cps.toList)→(∀ p∈qs,c ∉ p.cps.toList)→Str.join ⟨#[c]⟩ ps=Str.join ⟨#[c]⟩ qs→ps=qs
 | [],_,h,_,_,_,_=>absurd rfl h
 | _ :: _,[],_,h,_,_,_=>absurd rfl h
 | [x],[y],_,_,_,_,e=>by rw [show x=y from e]
 | [x],y :: z :: r,_,_,hx,_,e=>by
  have e1:=congrArg (fun s=>s.cps.toList) e
  rw [J1t] at e1
  have e1:x.cps.toList=y.cps.toList ++ c :: (Str.join ⟨#[c]⟩ (z :: r)).cps.toList:=e1
  exact absurd (by rw [e1];exact List.mem_append_right _ (List.mem_cons_self ..)) (hx x (List.mem_cons_self ..))
 | x :: y :: r,[z],_,_,_,hz,e=>by
  have e1:=congrArg (fun s=>s.cps.toList) e
  rw [J1t] at e1
  have e1:x.cps.toList ++ c :: (Str.join ⟨#[c]⟩ (y :: r)).cps.toList=z.cps.toList:=e1
  exact absurd (by rw [← e1];exact List.mem_append_right _ (List.mem_cons_self ..)) (hz z (List.mem_cons_self ..))
 | x :: y :: r,x' :: y' :: r',_,_,h,h',e=>by
  have e1:=congrArg (fun s=>s.cps.toList) e
  rw [J1t,J1t] at e1
  obtain ⟨q1,q2⟩:=J3v (h x (List.mem_cons_self ..)) (h' x' (List.mem_cons_self ..)) e1
  have:=join_inj c (List.cons_ne_nil y r) (List.cons_ne_nil y' r') (fun p hp=>h p (List.mem_cons_of_mem _ hp)) (fun p hp=>h' p (List.mem_cons_of_mem _ hp)) (Jy q2)
  rw [Jy q1,this]
theorem J2b (c:Nat) {ps:List Str} (h:ps≠[]) (hf:∀ p∈ps,c ∉ p.cps.toList):Txt.split (Txt.join ⟨#[c]⟩ ps) ⟨#[c]⟩=ps:=by
 have e:Txt.join ⟨#[c]⟩ ps=Str.join ⟨#[c]⟩ ps:=StrLaws.glued_eq_join ..
 rw [e]
 refine join_inj c (fun q=>?_) h (StrLaws.split_free _ c) hf (StrLaws.join_split _ _)
 have:=PyProof.Rows.split_pos (Str.join ⟨#[c]⟩ ps) ⟨#[c]⟩
 rw [q] at this
 exact absurd this (by decide)
theorem J39 {n:Int} (h:0≤n):(Str.ofString (toString n)).cps.toList=(Nat.toDigits 10 n.toNat).map Char.toNat:=by
 obtain ⟨m,rfl⟩:=Int.eq_ofNat_of_zero_le h
 exact PySem.W.KIN.signs_num m
theorem J1a {n:Int} (h:0≤n):∀ c∈(Str.ofString (toString n)).cps.toList,48≤c∧c≤57:=by
 intro c hc
 rw [J39 h] at hc
 obtain ⟨ch,hch,e⟩:=List.mem_map.mp hc
 have r:=PyProof.Rows.digit_range (Nat.isDigit_of_mem_toDigits (by decide) (by decide) hch)
 rw [← e];exact r
theorem digits_ne (m:Nat):Nat.toDigits 10 m≠[]:=by
 intro e
 have h:=PySem.toDigits_len_ge 10 m
 rw [e] at h
 exact absurd h (by decide)
theorem num_ne {n:Int} (h:0≤n):(Str.ofString (toString n)).cps.toList≠[]:=by
 rw [J39 h]
 intro e
 exact digits_ne _ (List.map_eq_nil_iff.mp e)
theorem digit_zero:∀ d:Nat,d < 10→d≠0→(Nat.digitChar d).toNat≠48:=by decide
theorem head_digit (m:Nat):m≠0→∃ c r,Nat.toDigits 10 m=c :: r∧c.toNat≠48:=by
 induction m using Nat.strongRecOn with
 | _ m ih =>
  intro h0
  by_cases h:m < 10
  ·exact ⟨_,[],Nat.toDigits_of_lt_base h,digit_zero m h h0⟩
  ·have hm:m % 10 < 10:=Nat.mod_lt m (by decide)
   have t:Nat.toDigits 10 (m / 10) ++ Nat.toDigits 10 (m % 10)=Nat.toDigits 10 (10 * (m / 10) + m % 10):=Nat.toDigits_append_toDigits (by decide) (by omega) hm
   rw [Nat.div_add_mod] at t
   obtain ⟨c,r,e,q⟩:=ih (m / 10) (by omega) (by omega)
   exact ⟨c,r ++ Nat.toDigits 10 (m % 10),by rw [← t,e];rfl,q⟩
end Rl
namespace Rl
open PySem
theorem J32 (z:Str) (c:Nat):Txt.split z ⟨#[c]⟩≠[]:=fun q=>by
 have:=PyProof.Rows.split_pos z ⟨#[c]⟩
 rw [q] at this
 exact absurd this (by decide)
theorem join_app (c:Nat):∀ {ps qs:List Str},ps≠[]→qs≠[]→Str.join ⟨#[c]⟩ (ps ++ qs)=Str.join ⟨#[c]⟩ ps ++ ⟨#[c]⟩ ++ Str.join ⟨#[c]⟩ qs
 | [],_,h,_=>absurd rfl h
 | _ :: _,[],_,h=>absurd rfl h
 | [x],y :: r,_,_=>rfl
 | x :: y :: r,q :: s,_,h=>by
  show x ++ ⟨#[c]⟩ ++ Str.join ⟨#[c]⟩ ((y :: r) ++ (q :: s))=x ++ ⟨#[c]⟩ ++ Str.join ⟨#[c]⟩ (y :: r) ++ ⟨#[c]⟩ ++ Str.join ⟨#[c]⟩ (q :: s)
  rw [join_app c (List.cons_ne_nil y r) h]
  refine Jy ?_
  simp only [J9,List.append_assoc]
theorem J1m (c:Nat) (a b:Str):Txt.split (a ++ ⟨#[c]⟩ ++ b) ⟨#[c]⟩=Txt.split a ⟨#[c]⟩ ++ Txt.split b ⟨#[c]⟩:=by
 have ea:Str.join ⟨#[c]⟩ (Txt.split a ⟨#[c]⟩)=a:=StrLaws.join_split _ _
 have eb:Str.join ⟨#[c]⟩ (Txt.split b ⟨#[c]⟩)=b:=StrLaws.join_split _ _
 have e:=join_app c (J32 a c) (J32 b c)
 rw [ea,eb] at e
 have e2:Txt.join ⟨#[c]⟩ (Txt.split a ⟨#[c]⟩ ++ Txt.split b ⟨#[c]⟩)=Str.join ⟨#[c]⟩ (Txt.split a ⟨#[c]⟩ ++ Txt.split b ⟨#[c]⟩):=StrLaws.glued_eq_join ..
 rw [← e,← e2]
 refine J2b c (fun q=>J32 a c (List.append_eq_nil_iff.mp q).1) fun p hp=>?_
 rcases List.mem_append.mp hp with q | q
 ·exact StrLaws.split_free _ c p q
 ·exact StrLaws.split_free _ c p q
theorem J12 (c:Nat) {z:Str} (h:c ∉ z.cps.toList):Txt.split z ⟨#[c]⟩=[z]:=by
 have e:=J2b c (ps:=[z]) (List.cons_ne_nil _ _) (fun p hp=>by rw [List.mem_singleton.mp hp];exact h)
 have e2:Txt.join ⟨#[c]⟩ [z]=z:=StrLaws.glued_eq_join ..
 rw [e2] at e
 exact e
theorem J1v (c:Nat):∀ {ws:List Str},ws≠[]→Txt.split (Txt.join ⟨#[c]⟩ ws) ⟨#[c]⟩=ws.flatMap (fun w=>Txt.split w ⟨#[c]⟩)
 | [],h=>absurd rfl h
 | [x],_=>by
  have e2:Txt.join ⟨#[c]⟩ [x]=x:=StrLaws.glued_eq_join ..
  rw [e2,List.flatMap_cons,List.flatMap_nil,List.append_nil]
 | x :: y :: r,_=>by
  have e2:Txt.join ⟨#[c]⟩ (x :: y :: r)=x ++ ⟨#[c]⟩ ++ Txt.join ⟨#[c]⟩ (y :: r):=by
   have h1:Txt.join ⟨#[c]⟩ (x :: y :: r)=Str.join ⟨#[c]⟩ (x :: y :: r):=StrLaws.glued_eq_join ..
   have h2:Txt.join ⟨#[c]⟩ (y :: r)=Str.join ⟨#[c]⟩ (y :: r):=StrLaws.glued_eq_join ..
   rw [h1,h2];rfl
  rw [e2,J1m,J1v c (List.cons_ne_nil y r)];rfl
theorem mul_signs (d:Nat):∀ n:Nat,(Txt.mul ⟨#[d]⟩ n).cps.toList=List.replicate n d
 | 0=>rfl
 | 1=>rfl
 | n + 2=>by
  have h1:¬ (((n + 2:Nat):Int) < 1):=by omega
  have h2:((((n + 2:Nat):Int) == 1) || ((⟨#[d]⟩:Str).length == 0))=false:=by
   rw [Bool.or_eq_false_iff]
   refine ⟨beq_eq_false_iff_ne.mpr (by omega),rfl⟩
  unfold Txt.mul
  rw [if_neg h1,if_neg (by rw [h2];decide)]
  show ((List.replicate ((n + 2:Nat):Int).toNat (#[d]:Array Nat)).foldl (· ++ ·) #[]).toList=_
  rw [Int.toNat_natCast]
  have g:∀ (m:Nat) (acc:Array Nat),((List.replicate m (#[d]:Array Nat)).foldl (· ++ ·) acc).toList=acc.toList ++ List.replicate m d:=by
   intro m
   induction m with
   | zero=>intro acc;simp
   | succ m ih =>
    intro acc
    rw [List.replicate_succ,List.foldl_cons,ih,Array.toList_append,List.replicate_succ]
    simp
  rw [g];rfl
end Rl
namespace R09
open PySem L2 Rl
def top (i:Nat):Stmt:=PySem.Challenge.pw_relaid_k09_rows_refused.main.body.getD i (.Pass ⟨0,0,0,0⟩)
abbrev sIsNum:Stmt:=top 23
abbrev sNoT:Stmt:=top 24
abbrev J2v:Stmt:=top 25
abbrev J1y:Stmt:=top 26
abbrev J1x:Stmt:=top 27
abbrev sRead:Stmt:=top 28
abbrev sCell:Stmt:=top 30
abbrev sDrawn:Stmt:=top 31
abbrev sRows:Stmt:=top 32
abbrev sSign:Stmt:=top 33
abbrev sWordL:Stmt:=top 34
abbrev J1w:Stmt:=top 35
abbrev sAlone:Stmt:=top 36
abbrev sTextL:Stmt:=top 37
abbrev sLaw:Stmt:=top 38
abbrev sBInit:Stmt:=inClass (top 6) 0
abbrev iV (ns:List Int):List V:=ns.map V.int
abbrev nV (os:List Nat):List V:=(natI os).map V.int
abbrev bV (bs:List Bool):List V:=bs.map V.bl
def SqH (H:Hp) (p:Addr) (xs:List V):Prop:=H p=some (.lst xs)∨H p=some (.tup xs)
theorem Jc {H:Hp} {l:Addr} {o:HO} (h:H l=none):Same H (upd H l o):=fun b u e=>by rw [Jf (Jd e h)];exact e
theorem iteD {c A B:Prop} [Decidable c] (hc:¬ c) (h:B):if decide c=true then A else B:=by
 rw [decide_eq_false hc];exact iteF h
theorem iteDT {c A B:Prop} [Decidable c] (hc:c) (h:A):if decide c=true then A else B:=by
 rw [decide_eq_true hc];exact iteT h
theorem iteBT {c:Bool} {A B:Prop} (h:c=true) (q:A):if c=true then A else B:=by rw [if_pos h];exact q
theorem iteBF {c:Bool} {A B:Prop} (h:¬ c=true) (q:B):if c=true then A else B:=by rw [if_neg h];exact q
theorem iteND {c A B:Prop} [Decidable c] (hc:¬ c) (h:A):if (!decide c)=true then A else B:=by
 rw [decide_eq_false hc];exact iteT h
theorem Jg {i j:Int} (h:i≠j):¬ V.int i=V.int j:=fun e=>h (V.int.inj e)
theorem J24 {n o:Nat} (h:o < n):ixN n (o:Int)=some o:=by
 unfold ixN
 rw [if_pos (by omega),if_pos (by omega)]
 simp
theorem iV_get {ns:List Int} {j:Nat} (h:j < ns.length):(iV ns)[j]?=some (V.int (ns.getD j 0)):=by
 rw [List.getElem?_map,List.getElem?_eq_getElem h,List.getD_eq_getElem?_getD,List.getElem?_eq_getElem h];rfl
theorem iV_set (ns:List Int) (j:Nat) (z:Int):(iV ns).set j (V.int z)=iV (ns.set j z):=by
 show (ns.map V.int).set j (V.int z)=(ns.set j z).map V.int
 rw [List.map_set]
def KeepX (x:Addr) (H H':Hp):Prop:=∀ b o,H b=some o→b≠x→H' b=some o
theorem KeepX.trans {x:Addr} {H H1 H2:Hp} (a:KeepX x H H1) (b:KeepX x H1 H2):KeepX x H H2:=fun c o e n=>b c o (a c o e n) n
theorem KeepX.upd {x:Addr} {H:Hp} {o:HO}:KeepX x H (upd H x o):=fun b u e n=>by rw [Jf n];exact e
theorem SqH.ne {H:Hp} {p x C dx:Addr} {xs:List V} {fs:List (Str × V)} (h:SqH H p xs) (hx:H x=some (.ins C dx fs)):p≠x:=h.elim (fun h=>ne_of h hx (by intro z;cases z)) fun h=>ne_of h hx (by intro z;cases z)
theorem bV_get {ts:List Bool} {j:Nat} (h:j < ts.length):(bV ts)[j]?=some (V.bl (ts.getD j false)):=by
 rw [List.getElem?_map,List.getElem?_eq_getElem h,List.getD_eq_getElem?_getD,List.getElem?_eq_getElem h];rfl
structure TxtR (mg:Str→Option Value):Prop where
 len:mg "len"=none
 sum:mg "sum"=none
 tuple:mg "tuple"=none
 list:mg "list"=none
 range:mg "range"=none
theorem nV_eq (row:List Nat):nV row=row.map fun (j:Nat)=>V.int (j:Int):=by
 show (row.map fun (n:Nat)=>(n:Int)).map V.int=_
 rw [List.map_map];rfl
theorem len_nV (row:List Nat):(nV row).length=row.length:=by rw [nV_eq,List.length_map]
theorem KeepX.ins {x p:Addr} {H H':Hp} {xs:List V} (k:KeepX x H H') (h:H p=some (.tup xs)) {C dx:Addr} {fs:List (Str × V)} (hx:H x=some (.ins C dx fs)):H' p=some (.tup xs):=k _ _ h (ne_of h hx (by intro z;cases z))
end R09
namespace R09
open PySem L2 Rl
structure Good (ls:List Int) (os:List Nat):Prop where
 lo:1≤ls.length
 hi:ls.length≤24
 pos:∀ a∈ls,1≤a
 sum:ls.sum≤10 ^ 30
 perm:os.Perm (List.range ls.length)
theorem Good.olen {ls:List Int} {os:List Nat} (g:Good ls os):os.length=ls.length:=by rw [g.perm.length_eq,List.length_range]
theorem Good.olt {ls:List Int} {os:List Nat} (g:Good ls os):∀ o∈os,o < ls.length:=fun o h=>List.mem_range.mp (g.perm.mem_iff.mp h)
structure Txt (K:PySem.W.Frag) (mg:Str→Option Value):Prop where
 len:mg "len"=none
 min:mg "min"=none
 sum:mg "sum"=none
 sorted:mg "sorted"=none
 list:mg "list"=none
 range:mg "range"=none
 tuple:mg "tuple"=none
 most:∃ t,mg "MOST_PIECES"=some (.int 24 t)
section
variable {P:Program} {w:World} {K:PySem.W.Frag} {mg:Str→Option Value} {base:Heap}
def tCut (t:TS):TS:=fun D σ H=>∃ post:St→Hp→Prop,t { D with nx:=post } σ H∧∀ σ' H',post σ' H'→D.nx σ' H'
theorem J2k {X:Cx} {st:Stmt} {t:TS} (h:PS X st t):PS X st (tCut t):=by
 intro pins s σ H D I ⟨post,q,m⟩
 refine thn (h pins s σ H _ I q) fun f s' z=>?_
 cases f with
 | next=>obtain ⟨σ',H',I',z⟩:=z;exact ⟨σ',H',I',m σ' H' z⟩
 | brk=>exact z
 | cont=>exact z
 | ret u=>exact z
structure FunD (K:PySem.W.Frag) (x qual:Str) (st:Stmt) (f:Addr) (fd:FuncData) (TD:Addr):Prop where
 ex:∃ (oc:Value) (od:Option Addr) (kV doc pm:Value) (an:Option Addr) (cdv ct:Value) (osl:Array (Option Value)),
  fd=PySem.W.fnOf x qual (Js st) (Jl st) (J7 st) (.ref TD) kV doc pm an cdv ct∧K.lookup f=some ⟨oc,od,.func fd,osl⟩∧PySem.W.codeIn K cdv qual=true
 kp:PySem.W.keepIn K (.ref f)=true
theorem FunD.ok {x qual:Str} {st:Stmt} {f TD:Addr} {fd:FuncData} {N ps:List Str} {k:Nat} {sp:Sp} (F:FunD K x qual st f fd TD) (S:FnScope N ps (J7 st)) (len:∀ vs H Q E,sp vs H Q E→vs.length=ps.length)
  (hbody:∀ (cdv:Value) (A:Around) (outer:List Env) (s:Shared) (H:Hp) (vs:List V) (Q:VK) (E:XK),Room k (A.deeper (PyProof.Rows.envOfC qual (J7 st) s.heap.objs.size f cdv))→sp vs H Q E→
   ∃ t,PSs (cxOf CX0 P w K mg base N qual (J7 st) f cdv A outer s H E).nox (Jl st) t∧t { nx:=fun _ H'=>Q .non H',rt:=Q } (start N vs) H):FnOk P w K mg base CX0 (k + 1) f fd ps sp:=by
 obtain ⟨oc,od,kV,doc,pm,an,cdv,ct,osl,rfl,lk,hcd⟩:=F.ex
 refine fn_of lk hcd S len fun A outer s H vs Q E hr hsp=>?_
 obtain ⟨t,h,q⟩:=hbody cdv A outer s H vs Q E hr hsp
 exact ⟨t,h.nox,q⟩
end
end R09
namespace R09
open PySem L2 Rl
section
variable {P:Program} {w:World} {K:PySem.W.Frag} {mg:Str→Option Value} {base:Heap}
def numS (i:Int):Str:=Str.ofString (toString i)
theorem J44 {i:Int} (h:i.natAbs < 10 ^ 40):(numS i).length≤41:=by
 unfold numS
 rw [ofString_length]
 exact int_text_length_le10 (by decide) h
theorem log_small {i:Int} (h:i.natAbs < 10 ^ 40):i.natAbs.log2 < 1920:=by
 by_cases hz:i.natAbs=0
 ·rw [hz];decide
 ·refine (Nat.log2_lt hz).mpr (Nat.lt_trans h ?_)
  decide +kernel
theorem J18 {B:Nat}:∀ {ys:List Str},(∀ y∈ys,y.length≤B)→(ys.map (·.length)).sum≤ys.length * B
 | [],_=>Nat.zero_le _
 | y :: ys,h=>by
  have h1:=h y (List.mem_cons_self ..)
  have h2:=J18 (ys:=ys) fun z hz=>h z (List.mem_cons_of_mem _ hz)
  rw [List.map_cons,List.sum_cons,List.length_cons,Nat.succ_mul]
  omega
theorem J4a {B:Nat} {sep:Str} {ys:List Str} (h:∀ y∈ys,y.length≤B):(Txt.join sep ys).length≤ys.length * B + ys.length * sep.length:=by
 show (Builtin.Str.glued sep ys).length≤_
 rw [StrLaws.glued_eq_join]
 exact Nat.le_trans (StrLaws.join_length_le sep ys) (Nat.add_le_add_right (J18 h) _)
end
end R09
namespace R09
open PySem L2 Rl
section
variable {P:Program} {w:World} {K:PySem.W.Frag} {mg:Str→Option Value} {base:Heap}
def digB (c:Nat):Bool:=!(Builtin.Str.occurrences (Str.ofString "0123456789") ⟨#[c]⟩ 0 (Str.ofString "0123456789").length 1).isEmpty
def numB (z:Str):Bool:=if z=Str.ofString "" then false else if 31 < z.length then false else if z.cps.getD 0 0=48∧z≠Str.ofString "0" then false else z.cps.toList.all digB
def endB (z:Str):Bool:=(0 + (Str.ofString "-").length≤z.length && Builtin.Str.subAt z (Str.ofString "-") (z.length - (Str.ofString "-").length))
def noT (z:Str):Str:=if endB z=true then Txt.slice z none (some (-1)) else z
def spIsNum:Sp:=fun vs H Q _=>∃ z:Str,vs=[.str z,.int 31]∧z.length≤sizeLine∧∀ H',Same H H'→Q (.bl (numB z)) H'
def spNoT:Sp:=fun vs H Q _=>∃ z:Str,vs=[.str z]∧z.length≤sizeLine∧Q (.str (noT z)) H
abbrev sp1:Str:=Str.ofString " "
abbrev nl1:Str:=Str.ofString "\n"
def J1d (z:Str):Bool:=decide ((Txt.split z sp1).headD Str.empty=Str.ofString "pieces") && ((Txt.split z sp1).drop 1).all numB
def J17 (z:Str):Bool:=decide ((Txt.split z sp1).headD Str.empty=Str.ofString "laid") && ((Txt.split z sp1).drop 1).all fun y=>numB (noT y)
def spLenRow:Sp:=fun vs H Q _=>∃ z:Str,vs=[.str z]∧z.length≤100000∧(Txt.split z sp1).length≤1000∧∀ H',Same H H'→Q (.bl (J1d z)) H'
def spLaidRow:Sp:=fun vs H Q _=>∃ z:Str,vs=[.str z]∧z.length≤100000∧(Txt.split z sp1).length≤1000∧∀ H',Same H H'→Q (.bl (J17 z)) H'
theorem cut_tail (x:V) (xs:List V):cutV (x :: xs) (some 1) none=xs:=by
 unfold cutV
 have e:HT.sIx (x :: xs).length 0 (some 1)=1:=by
  show (if (1:Int) < 0 then ((1:Int) + ((x :: xs).length:Int)).toNat else min (1:Int).toNat (x :: xs).length)=_
  rw [if_neg (by decide),List.length_cons]
  show min 1 (xs.length + 1)=1
  omega
 rw [e,HT.sIx_none]
 show xs.take (xs.length + 1 - 1)=xs
 rw [Nat.add_sub_cancel,List.take_length]
theorem noT_len (z:Str):(noT z).length≤z.length:=by
 unfold noT
 split
 ·exact Txt.slice_le ..
 ·exact Nat.le_refl _
theorem sign_ne {c:Nat}:(⟨#[c]⟩:Str)=Str.ofString "0"↔c=48:=by
 have e:Str.ofString "0"=⟨#[48]⟩:=by decide +kernel
 rw [e]
 constructor
 ·intro h
  have:=congrArg (fun s=>s.cps.toList) h
  simpa using this
 ·intro h;rw [h]
theorem empty_iff (z:Str):z=Str.ofString ""↔z.cps.toList=[]:=by
 have e:Str.ofString ""=⟨#[]⟩:=by decide +kernel
 rw [e]
 exact ⟨fun h=>by rw [h],fun h=>Jy h⟩
theorem scIsNum:FnScope ["word","figures"] ["word","figures"] (J7 sIsNum):=⟨rfl,rfl,rfl,by decide +kernel,rfl,by decide +kernel,by decide +kernel⟩
theorem ok_isNum {f   : Addr} {fd  : FuncData}  (F : Fun K "is_number" "is_number" sIsNum f fd) (T : TxtR mg) (hall : mg "all" = none)
 :
    FnOk P w K mg base CX0 1 f fd ["word", "figures"] spIsNum := by
  refine F.ok scIsNum (fun vs H Q E h => ?_) (fun cdv A outer s H vs Q E hr h => ?_)
  · obtain ⟨z, rfl, _⟩ := h
    rfl
  · obtain ⟨z, rfl, hz, k⟩ := h
    refine ⟨_, (J2 (ps_if (PW.pt (pw_or (Jk op_eq (pv 0) Je (Jn _)) (pw_or1 (Jk op_gt (Jb J2s (by rfl) T.len PySem.boot_len (J0 (pv 0) J4)) (pv 1) (Jn _))))) (J8 (Jz pe_bl)) Jm)
      (J2 (J2k (ps_if (PW.pt (pw_and (Jk op_eq (pe_ix ix_str (pv 0) J1 (fun _ _ => rfl)) Je (Jn _)) (pw_and1 (Jk op_ne (pv 0) Je (Jn _))))) (J8 (Jz pe_bl)) Jm))
      (J8 (Jz (Jb (J4b rfl) (by rfl) hall PyProof.Rows.boot_all (J0 (pe_lc (caps := []) (js := []) rfl (pi_str (pv 0)) rfl (fun _ _ _ _ => J2x) (fun C fp s H => (J1p op_in_str (pv 0) Je rfl)) (by decide +kernel) (by decide +kernel) (by decide +kernel) (by intro p hp; cases hp)) J4)))))), ?_⟩
    refine ⟨_, rfl, rfl, _, rfl, ?_⟩
    by_cases c1 : z = Str.ofString ""
    · refine iteDT (by rw [c1]) (iteT ?_)
      have := k H (Same.refl _)
      unfold numB at this
      rw [if_pos c1] at this
      exact this
    refine iteD (fun e => c1 (V.str.inj e)) ?_
    refine ⟨_, rfl, z, rfl, hz, _, rfl, _, _, rfl, rfl, _, rfl, ?_⟩
    by_cases c2 : 31 < z.length
    · refine iteDT (by show (31 : Int) < _; omega) ?_
      have := k H (Same.refl _)
      unfold numB at this
      rw [if_neg c1, if_pos c2] at this
      exact this
    refine iteD (by show ¬ (31 : Int) < _; omega) ?_
    have ne : z.cps.toList ≠ [] := fun e => c1 ((empty_iff z).mpr e)
    obtain ⟨c, r, hc⟩ := List.exists_cons_of_ne_nil ne
    have h0 : z.cps.getD 0 0 = c := by
      have e : z.cps.toList[0]? = some c := by rw [hc]; rfl
      rw [Array.getElem?_toList] at e
      rw [Array.getD_eq_getD_getElem?, e]; rfl
    refine ⟨fun σ' H' => σ' = [some (V.str z), some (V.int 31)] ∧ H = H' ∧ ¬ (z.cps.getD 0 0 = 48 ∧ z ≠ Str.ofString "0"), ?_, ?_⟩
    · refine ⟨_, rfl, z, _, c, rfl, rfl, hz, Ji (j := 0) (by rw [hc]; rfl), rfl, _, rfl, ?_⟩
      by_cases c3 : c = 48
      · refine iteDT (by rw [sign_ne.mpr c3]) ?_
        refine ⟨_, rfl, rfl, _, rfl, ?_⟩
        by_cases c4 : z = Str.ofString "0"
        · exact iteNS (by rw [c4]) ⟨rfl, rfl, fun q => q.2 c4⟩
        · refine iteND (fun e => c4 (V.str.inj e)) ?_
          have := k H (Same.refl _)
          unfold numB at this
          rw [if_neg c1, if_neg c2, if_pos ⟨h0.trans c3, c4⟩] at this
          exact this
      · exact iteD (fun e => c3 (sign_ne.mp (V.str.inj e))) (iteF ⟨rfl, rfl, fun q => c3 (h0.symm.trans q.1)⟩)
    rintro σ _ ⟨rfl, rfl, c5⟩
    refine ⟨_, rfl, z, rfl, fun d hd => lc_str z (fun _ => true) (fun c => V.bl (digB c)) (by omega) hd (fun _ _ H _ _ q => q H (Same.refl _)) (fun c hc H2 Qe _ s2 q => ?_) (fun H2 s2 hd2 => ?_)⟩
    · exact ⟨_, rfl, _, _, rfl, rfl, q H2 (Same.refl _)⟩
    rw [J15] at hd2
    refine ⟨d, z.cps.toList.map digB, rfl, SqL.of (by rw [hd2, List.map_map]; rfl), ?_⟩
    have := k H2 s2
    unfold numB at this
    rw [if_neg c1, if_neg c2, if_neg c5] at this
    rw [List.all_map]
    exact this
theorem scNoT:FnScope ["word"] ["word"] (J7 sNoT):=⟨rfl,rfl,rfl,by decide +kernel,rfl,by decide +kernel,by decide +kernel⟩
theorem ok_noT {f   : Addr} {fd  : FuncData}  (F : Fun K "without_turn" "without_turn" sNoT f fd) 
 :
    FnOk P w K mg base CX0 1 f fd ["word"] spNoT := by
  refine F.ok scNoT (fun vs H Q E h => ?_) (fun cdv A outer s H vs Q E hr h => ?_)
  · obtain ⟨z, rfl, _⟩ := h
    rfl
  · obtain ⟨z, rfl, hz, k⟩ := h
    refine ⟨_, (J8 (Jz (pe_ifExp (J2i (pe_bm PySem.F.plainAttrs_str PySem.F.slot_str_endswith PySem.F.type_str_endswith mt_ends (pv 0) (J0 Je J4))) (J37 sl_str (pv 0) po_none (po_some (pe_un un_neg J1))) (pv 0)))), ?_⟩
    refine ⟨_, rfl, rfl, z, _, rfl, rfl, _, rfl, ?_⟩
    unfold noT at k
    by_cases c : endB z = true
    · rw [if_pos c] at k
      exact iteBT c ⟨_, rfl, _, rfl, _, rfl, z, rfl, hz, k⟩
    · rw [if_neg c] at k
      exact iteBF c ⟨_, rfl, k⟩
theorem scLenRow:FnScope ["row","words"] ["row"] (J7 J2v):=⟨rfl,rfl,rfl,by decide +kernel,rfl,by decide +kernel,by decide +kernel⟩
theorem ok_lenRow {f fIN :Addr} {fd fdIN:FuncData}  (F:Fun K "is_length_row" "is_length_row" J2v f fd) (T:TxtR mg) (hall:mg "all"=none) (h31:∃ t,mg "MOST_FIGURES"=some (.int 31 t))
  (GIN:FnOk P w K mg base CX0 1 fIN fdIN ["word","figures"] spIsNum) (bIN:Binds K fdIN ["word","figures"] []) (mIN:mg "is_number"=some (.ref fIN)) (kIN:PySem.W.keepIn K (.ref fIN)=true) :
  FnOk P w K mg base CX0 2 f fd ["row"] spLenRow:=by
 refine F.ok scLenRow (fun vs H Q E h=>?_) (fun cdv A outer s H vs Q E hr h=>?_)
 ·obtain ⟨z,rfl,_⟩:=h
  rfl
 ·obtain ⟨z,rfl,hz,hn,k⟩:=h
  have hr1:Room 1 _:=hr.mono (by decide)
  obtain ⟨t31,h31⟩:=h31
  refine ⟨_,(J2 (Jp (i:=1) scLenRow.nd rfl (Or.inl rfl) (pe_bm PySem.F.plainAttrs_str PySem.F.slot_str_split PySem.F.type_str_split J3b (pv 0) (J0 Je J4)))
   (J8 (Jz (pe_and (J1p op_eq (pe_ix Jj (pv 1) J1 (fun _ _=>rfl)) Je (Jn _)) (pe_one (Jb (J4b rfl) (by rfl) hall PyProof.Rows.boot_all (J0 (pe_lc (caps:=[]) (js:=[]) rfl (pi_list (J37 sl_list (pv 1) (po_some J1) po_none)) rfl (fun _ _ _ _=>J2x) (fun C fp s H=>(Jr GIN hr1 rfl mIN kIN bIN .nil pass0 (J0 (pv 0) (J0 (J10 (v:=.int 31) rfl h31 ⟨_,rfl⟩) J4)))) (by decide +kernel) (by decide +kernel) (by decide +kernel) (by intro p hp;cases hp)) J4))))))),?_⟩
  refine ⟨_,rfl,rfl,z,_,rfl,rfl,(by decide +kernel),(by rw [sizeLine_eq];omega),fun d hd=>?_⟩
  have s1:=Jc (o:=.lst ((Txt.split z sp1).map V.str)) hd
  have hd1:upd H d (.lst ((Txt.split z sp1).map V.str)) d=some (.lst ((Txt.split z sp1).map V.str)):=J3
  generalize upd H d (.lst ((Txt.split z sp1).map V.str))=H1 at *
  have short:∀ y∈Txt.split z sp1,y.length≤sizeLine:=fun y hy=>Nat.le_trans (PyProof.Rows.part_short hy) (by rw [sizeLine_eq];omega)
  obtain ⟨y,ys,hys⟩:∃ y ys,Txt.split z sp1=y :: ys:=List.exists_cons_of_ne_nil (fun e=>by
   have:=PyProof.Rows.split_pos z sp1
   rw [e] at this
   exact absurd this (by decide))
  unfold J1d at k
  rw [hys] at k hd1 short hn
  refine ⟨_,rfl,d,_,_,_,rfl,rfl,SqL.of hd1,Ji (j:=0) rfl,rfl,_,rfl,?_⟩
  by_cases c:y=Str.ofString "pieces"
  ·refine iteDT (by rw [c]) ?_
   refine ⟨_,rfl,_,rfl,d,_,rfl,SqL.of hd1,fun l hl=>?_⟩
   rw [List.map_cons,cut_tail]
   have s2:=Jc (o:=.lst (ys.map V.str)) hl
   have hl1:upd H1 l (.lst (ys.map V.str)) l=some (.lst (ys.map V.str)):=J3
   generalize upd H1 l (.lst (ys.map V.str))=H2 at *
   refine ⟨l,rfl,⟨_,SqL.of hl1⟩,fun e he=>lc_lst V.str ys (fun _=>true) (fun y=>V.bl (numB y)) (SqL.of hl1) (Nat.le_trans (Nat.le_succ _) hn) he (fun _ _ H _ _ q=>q H (Same.refl _)) (fun v hv H3 Qe _ s3 q=>?_) (fun H3 s3 hd3=>?_)⟩
   ·have sv:=short v (List.mem_cons_of_mem _ hv)
    exact ⟨_,rfl,v,rfl,sv,fun H' s'=>q H' s'⟩
   rw [J15] at hd3
   refine ⟨e,ys.map (fun y=>numB y),rfl,SqL.of (by rw [hd3,List.map_map];rfl),?_⟩
   have:=k H3 ((s1.trans s2).trans s3)
   rw [show (y :: ys).headD Str.empty=y from rfl,decide_eq_true c,Bool.true_and] at this
   rw [List.all_map]
   exact this
  ·refine iteD (fun e=>c (V.str.inj e)) ?_
   have:=k H1 s1
   rw [show (y :: ys).headD Str.empty=y from rfl,decide_eq_false c,Bool.false_and] at this
   exact this
theorem scLaidRow:FnScope ["row","words"] ["row"] (J7 J1y):=⟨rfl,rfl,rfl,by decide +kernel,rfl,by decide +kernel,by decide +kernel⟩
theorem ok_laidRow {f fIN fNT :Addr} {fd fdIN fdNT:FuncData}  (F:Fun K "is_laid_row" "is_laid_row" J1y f fd) (T:TxtR mg) (hall:mg "all"=none) (h31:∃ t,mg "MOST_FIGURES"=some (.int 31 t))
  (GIN:FnOk P w K mg base CX0 1 fIN fdIN ["word","figures"] spIsNum) (bIN:Binds K fdIN ["word","figures"] []) (mIN:mg "is_number"=some (.ref fIN)) (kIN:PySem.W.keepIn K (.ref fIN)=true)
  (GNT:FnOk P w K mg base CX0 1 fNT fdNT ["word"] spNoT) (bNT:Binds K fdNT ["word"] []) (mNT:mg "without_turn"=some (.ref fNT)) (kNT:PySem.W.keepIn K (.ref fNT)=true) :
  FnOk P w K mg base CX0 2 f fd ["row"] spLaidRow:=by
 refine F.ok scLaidRow (fun vs H Q E h=>?_) (fun cdv A outer s H vs Q E hr h=>?_)
 ·obtain ⟨z,rfl,_⟩:=h
  rfl
 ·obtain ⟨z,rfl,hz,hn,k⟩:=h
  have hr1:Room 1 _:=hr.mono (by decide)
  obtain ⟨t31,h31⟩:=h31
  refine ⟨_,(J2 (Jp (i:=1) scLaidRow.nd rfl (Or.inl rfl) (pe_bm PySem.F.plainAttrs_str PySem.F.slot_str_split PySem.F.type_str_split J3b (pv 0) (J0 Je J4)))
   (J8 (Jz (pe_and (J1p op_eq (pe_ix Jj (pv 1) J1 (fun _ _=>rfl)) Je (Jn _)) (pe_one (Jb (J4b rfl) (by rfl) hall PyProof.Rows.boot_all (J0 (pe_lc (caps:=[]) (js:=[]) rfl (pi_list (J37 sl_list (pv 1) (po_some J1) po_none)) rfl (fun _ _ _ _=>J2x) (fun C fp s H=>(Jr GIN hr1 rfl mIN kIN bIN .nil pass0 (J0 (Jr GNT hr1 rfl mNT kNT bNT .nil pass0 (J0 (pv 0) J4)) (J0 (J10 (v:=.int 31) rfl h31 ⟨_,rfl⟩) J4)))) (by decide +kernel) (by decide +kernel) (by decide +kernel) (by intro p hp;cases hp)) J4))))))),?_⟩
  refine ⟨_,rfl,rfl,z,_,rfl,rfl,(by decide +kernel),(by rw [sizeLine_eq];omega),fun d hd=>?_⟩
  have s1:=Jc (o:=.lst ((Txt.split z sp1).map V.str)) hd
  have hd1:upd H d (.lst ((Txt.split z sp1).map V.str)) d=some (.lst ((Txt.split z sp1).map V.str)):=J3
  generalize upd H d (.lst ((Txt.split z sp1).map V.str))=H1 at *
  have short:∀ y∈Txt.split z sp1,y.length≤sizeLine:=fun y hy=>Nat.le_trans (PyProof.Rows.part_short hy) (by rw [sizeLine_eq];omega)
  obtain ⟨y,ys,hys⟩:∃ y ys,Txt.split z sp1=y :: ys:=List.exists_cons_of_ne_nil (fun e=>by
   have:=PyProof.Rows.split_pos z sp1
   rw [e] at this
   exact absurd this (by decide))
  unfold J17 at k
  rw [hys] at k hd1 short hn
  refine ⟨_,rfl,d,_,_,_,rfl,rfl,SqL.of hd1,Ji (j:=0) rfl,rfl,_,rfl,?_⟩
  by_cases c:y=Str.ofString "laid"
  ·refine iteDT (by rw [c]) ?_
   refine ⟨_,rfl,_,rfl,d,_,rfl,SqL.of hd1,fun l hl=>?_⟩
   rw [List.map_cons,cut_tail]
   have s2:=Jc (o:=.lst (ys.map V.str)) hl
   have hl1:upd H1 l (.lst (ys.map V.str)) l=some (.lst (ys.map V.str)):=J3
   generalize upd H1 l (.lst (ys.map V.str))=H2 at *
   refine ⟨l,rfl,⟨_,SqL.of hl1⟩,fun e he=>lc_lst V.str ys (fun _=>true) (fun y=>V.bl (numB (noT y))) (SqL.of hl1) (Nat.le_trans (Nat.le_succ _) hn) he (fun _ _ H _ _ q=>q H (Same.refl _)) (fun v hv H3 Qe _ s3 q=>?_) (fun H3 s3 hd3=>?_)⟩
   ·have sv:=short v (List.mem_cons_of_mem _ hv)
    exact ⟨_,rfl,v,rfl,sv,noT v,rfl,Nat.le_trans (noT_len v) sv,fun H' s'=>q H' s'⟩
   rw [J15] at hd3
   refine ⟨e,ys.map (fun y=>numB (noT y)),rfl,SqL.of (by rw [hd3,List.map_map];rfl),?_⟩
   have:=k H3 ((s1.trans s2).trans s3)
   rw [show (y :: ys).headD Str.empty=y from rfl,decide_eq_true c,Bool.true_and] at this
   rw [List.all_map]
   exact this
  ·refine iteD (fun e=>c (V.str.inj e)) ?_
   have:=k H1 s1
   rw [show (y :: ys).headD Str.empty=y from rfl,decide_eq_false c,Bool.false_and] at this
   exact this
end
end R09
namespace R09
open PySem L2 Rl
section
variable {P:Program} {w:World} {K:PySem.W.Frag} {mg:Str→Option Value} {base:Heap}
def spBInit (CB:Addr):Sp:=spXInit CB "at"
def w1B (zs:List Str):Bool:=decide (zs.length < 2) || !J1d (zs.getD 0 Str.empty)
def w2B (zs:List Str):Bool:=decide (zs.length < 3) || !J17 (zs.getD 1 Str.empty)
def w3B (zs:List Str):Bool:=decide (3 < zs.length) || !decide (zs.getD 2 Str.empty=Str.ofString "")
def wrongN (zs:List Str):Nat:=if w1B zs=true then 1 else if w2B zs=true then 2 else 3
structure RowsE (zs:List Str):Prop where
 l:∀ z∈zs,z.length≤100000
 n:∀ z∈zs,(Txt.split z sp1).length≤1000
 some:w1B zs=true∨w2B zs=true∨w3B zs=true
def spRefE (K:PySem.W.Frag) (CB:Addr):Sp:=fun vs H Q E=>∃ (p:Addr) (zs:List Str),vs=[.ref p]∧SqL K H p (zs.map V.str)∧RowsE zs∧∀ H' dx,Same H H'→H' dx=some (.xd [("at",.int (wrongN zs:Nat))])→E (.ref CB) (some dx) H'
def spReadE (CB:Addr):Sp:=fun vs H Q E=>∃ z:Str,vs=[.str z]∧z.length≤100000∧RowsE (Txt.split z nl1)∧∀ H' dx,Same H H'→H' dx=some (.xd [("at",.int (wrongN (Txt.split z nl1):Nat))])→E (.ref CB) (some dx) H'
structure TxtE (K:PySem.W.Frag) (mg:Str→Option Value) (CB fB:Addr):Prop where
 mg:mg "BadText"=some (.ref CB)
 ex:excInI K CB bmV "ValueError.__new__" fB=true
 fn:PySem.W.isFn K (.ref fB)=true
theorem J3l {zs:List Str} {j:Nat} (h:j < zs.length):(zs.map V.str)[j]?=some (V.str (zs.getD j Str.empty)):=by
 rw [List.getElem?_map,List.getD_eq_getElem?_getD,List.getElem?_eq_getElem h];rfl
theorem J20 {zs:List Str} {j:Nat} (h:j < zs.length):zs.getD j Str.empty∈zs:=by
 rw [List.getD_eq_getElem?_getD,List.getElem?_eq_getElem h]
 exact List.getElem_mem h
theorem scBInit:FnScope ["self","at"] ["self","at"] (J7 sBInit):=⟨rfl,rfl,rfl,by decide +kernel,rfl,by decide +kernel,by decide +kernel⟩
theorem ok_BInit {f   : Addr} {fd  : FuncData} {CB : Addr} (F : Fun K "__init__" "BadText.__init__" sBInit f fd) (XN : XNew K CB "at")
 :
    FnOk P w K mg base CX0 1 f fd ["self", "at"] (spBInit CB) := by
  refine F.ok scBInit (fun vs H Q E h => ?_) (fun cdv A outer s H vs Q E hr h => ?_)
  · obtain ⟨a, t, y, rfl, _⟩ := h
    rfl
  · obtain ⟨a, t, y, rfl, he, k⟩ := h
    refine ⟨_, (J8 (ps_fldN (pv 0) (pv 1) rfl)), ?_⟩
    refine ⟨_, rfl, _, rfl, a, CB, t, rfl, he, XN, fun dx hdx => ?_⟩
    exact k dx hdx
theorem scRefRows:FnScope ["rows"] ["rows"] (J7 J1x):=⟨rfl,rfl,rfl,by decide +kernel,rfl,by decide +kernel,by decide +kernel⟩
theorem ok_refE {f fLR fDR CB fB:Addr} {fd fdLR fdDR:FuncData} {fdB:FuncData} (F:Fun K "refuse_rows" "refuse_rows" J1x f fd) (T:TxtR mg) (TE:TxtE K mg CB fB) (GB:FnOk P w K mg base CX0 1 fB fdB ["self","at"] (spBInit CB)) (bB:Binds K fdB ["self","at"] [])
  (GLR:FnOk P w K mg base CX0 2 fLR fdLR ["row"] spLenRow) (bLR:Binds K fdLR ["row"] []) (mLR:mg "is_length_row"=some (.ref fLR)) (kLR:PySem.W.keepIn K (.ref fLR)=true)
  (GDR:FnOk P w K mg base CX0 2 fDR fdDR ["row"] spLaidRow) (bDR:Binds K fdDR ["row"] []) (mDR:mg "is_laid_row"=some (.ref fDR)) (kDR:PySem.W.keepIn K (.ref fDR)=true) :
  FnOk P w K mg base (Exc2 P w) 3 f fd ["rows"] (spRefE K CB):=by
 refine F.okX2 scRefRows (fun vs H Q E h=>?_) (fun cdv A outer s H vs Q E hr h=>?_)
 ·obtain ⟨p,zs,rfl,_⟩:=h
  rfl
 ·obtain ⟨p,zs,rfl,hS,RE,k⟩:=h
  have hr2:Room 2 _:=hr.mono (by decide)
  refine ⟨_,(J2 (ps_if (PW.pt (pw_or (Jk op_lt (Jb Jo (by rfl) T.len PySem.boot_len (J0 (pv 0) J4)) J1 (Jn _)) (pw_or1 (J40 (J2i (Jr GLR hr2 rfl mLR kLR bLR .nil pass0 (J0 (pe_ix Jj (pv 0) J1 (fun _ _=>rfl)) J4))))))) (J8 (J36 rfl TE.mg TE.ex TE.fn GB hr2 bB)) Jm)
   (J2 (ps_if (PW.pt (pw_or (Jk op_lt (Jb Jo (by rfl) T.len PySem.boot_len (J0 (pv 0) J4)) J1 (Jn _)) (pw_or1 (J40 (J2i (Jr GDR hr2 rfl mDR kDR bDR .nil pass0 (J0 (pe_ix Jj (pv 0) J1 (fun _ _=>rfl)) J4))))))) (J8 (J36 rfl TE.mg TE.ex TE.fn GB hr2 bB)) Jm)
   (J8 (ps_if (PW.pt (pw_or (Jk op_gt (Jb Jo (by rfl) T.len PySem.boot_len (J0 (pv 0) J4)) J1 (Jn _)) (pw_or1 (Jk op_ne (pe_ix Jj (pv 0) J1 (fun _ _=>rfl)) Je (Jn _))))) (J8 (J36 rfl TE.mg TE.ex TE.fn GB hr2 bB)) Jm)))),?_⟩
  have R0:=RE
  obtain ⟨hl,hn,hs⟩:=RE
  have ll:(zs.map V.str).length=zs.length:=List.length_map ..
  have raise1:∀ (i:Nat) (Hx:Hp),Same H Hx→wrongN zs=i→∀ dx,Hx dx=none→E (.ref CB) (some dx) (upd Hx dx (.xd [("at",.int (i:Nat))])):=fun i Hx s e dx h=>k _ dx (s.trans (Jc h)) (by rw [e];exact J3)
  refine ⟨_,rfl,p,_,rfl,.inl hS,_,_,rfl,rfl,_,rfl,?_⟩
  by_cases c1:zs.length < 2
  ·refine iteDT (by rw [ll];show ((zs.length:Nat):Int) < 2;omega) ?_
   refine raise1 1 H (Same.refl _) ?_
   unfold wrongN w1B
   rw [decide_eq_true c1,Bool.true_or,if_pos rfl]
  refine iteD (by rw [ll];show ¬ ((zs.length:Nat):Int) < 2;omega) ?_
  refine ⟨_,rfl,p,_,_,_,rfl,rfl,hS,Ji (J3l (j:=0) (by omega)),_,rfl,hl _ (J20 (by omega)),hn _ (J20 (by omega)),fun H1 s1=>⟨_,rfl,?_⟩⟩
  have hS1:=s1.seq hS
  cases b0:J1d (zs.getD 0 Str.empty) with
  | false =>
   refine iteT ?_
   refine raise1 1 H1 s1 ?_
   unfold wrongN w1B
   rw [b0,Bool.not_false,Bool.or_true,if_pos rfl]
  | true =>
  refine iteF ?_
  have w1:w1B zs=false:=by
   unfold w1B
   rw [b0,Bool.not_true,Bool.or_false,decide_eq_false c1]
  refine ⟨_,rfl,p,_,rfl,.inl hS1,_,_,rfl,rfl,_,rfl,?_⟩
  by_cases c2:zs.length < 3
  ·refine iteDT (by rw [ll];show ((zs.length:Nat):Int) < 3;omega) ?_
   refine raise1 2 H1 s1 ?_
   unfold wrongN w2B
   rw [w1,if_neg Bool.false_ne_true,decide_eq_true c2,Bool.true_or,if_pos rfl]
  refine iteD (by rw [ll];show ¬ ((zs.length:Nat):Int) < 3;omega) ?_
  refine ⟨_,rfl,p,_,_,_,rfl,rfl,hS1,Ji (J3l (j:=1) (by omega)),_,rfl,hl _ (J20 (by omega)),hn _ (J20 (by omega)),fun H2 s2=>⟨_,rfl,?_⟩⟩
  have hS2:=s2.seq hS1
  cases b1:J17 (zs.getD 1 Str.empty) with
  | false =>
   refine iteT ?_
   refine raise1 2 H2 (s1.trans s2) ?_
   unfold wrongN w2B
   rw [w1,if_neg Bool.false_ne_true,b1,Bool.not_false,Bool.or_true,if_pos rfl]
  | true =>
  refine iteF ?_
  have w2:w2B zs=false:=by
   unfold w2B
   rw [b1,Bool.not_true,Bool.or_false,decide_eq_false c2]
  have e3:wrongN zs=3:=by
   unfold wrongN
   rw [w1,w2,if_neg Bool.false_ne_true,if_neg Bool.false_ne_true]
  have w3:w3B zs=true:=by
   rcases hs with q | q | q
   ·rw [w1] at q;cases q
   ·rw [w2] at q;cases q
   ·exact q
  refine ⟨_,rfl,p,_,rfl,.inl hS2,_,_,rfl,rfl,_,rfl,?_⟩
  by_cases c3:3 < zs.length
  ·refine iteDT (by rw [ll];show (3:Int) < ((zs.length:Nat):Int);omega) ?_
   exact raise1 3 H2 (s1.trans s2) e3
  refine iteD (by rw [ll];show ¬ (3:Int) < ((zs.length:Nat):Int);omega) ?_
  refine ⟨_,rfl,p,_,_,_,rfl,rfl,hS2,Ji (J3l (j:=2) (by omega)),rfl,_,rfl,?_⟩
  unfold w3B at w3
  rw [decide_eq_false c3,Bool.false_or] at w3
  have c4:zs.getD 2 Str.empty≠Str.ofString "":=fun e=>by rw [decide_eq_true e] at w3;cases w3
  exact iteND (fun e=>c4 (V.str.inj e)) (raise1 3 H2 (s1.trans s2) e3)
theorem scRead:FnScope ["text","rows","lengths","words","order","turned"] ["text"] (J7 sRead):=⟨rfl,rfl,rfl,by decide +kernel,rfl,by decide +kernel,by decide +kernel⟩
theorem ok_readE {f fRR CB:Addr} {fd fdRR:FuncData}  (F:Fun K "read" "read" sRead f fd)
  (GRR:FnOk P w K mg base (Exc2 P w) 3 fRR fdRR ["rows"] (spRefE K CB)) (bRR:Binds K fdRR ["rows"] []) (mRR:mg "refuse_rows"=some (.ref fRR)) (kRR:PySem.W.keepIn K (.ref fRR)=true) :
  FnOk P w K mg base (Exc2 P w) 4 f fd ["text"] (spReadE CB):=by
 refine F.okX2 scRead (fun vs H Q E h=>?_) (fun cdv A outer s H vs Q E hr h=>?_)
 ·obtain ⟨z,rfl,_⟩:=h
  rfl
 ·obtain ⟨z,rfl,hz,RE,k⟩:=h
  have hr3:Room 3 _:=hr.mono (by decide)
  refine ⟨_,(J2 (Jp (i:=1) scRead.nd rfl (Or.inl rfl) (pe_bm PySem.F.plainAttrs_str PySem.F.slot_str_split PySem.F.type_str_split J3b (pv 0) (J0 Je J4)))
   (J2 (ps_expr (Jr GRR hr3 rfl mRR kRR bRR .nil pass2 (J0 (pv 1) J4)))
   (J2 J2j
   (J2 J2j
   (J2 J2j
   (J2 J2j
   (J8 J2j))))))),?_⟩
  refine ⟨_,rfl,rfl,z,_,rfl,rfl,(by decide +kernel),(by rw [sizeLine_eq];omega),fun d hd=>?_⟩
  have s1:=Jc (o:=.lst ((Txt.split z nl1).map V.str)) hd
  have hd1:upd H d (.lst ((Txt.split z nl1).map V.str)) d=some (.lst ((Txt.split z nl1).map V.str)):=J3
  exact ⟨_,rfl,d,Txt.split z nl1,rfl,SqL.of hd1,RE,fun H' dx s' e=>k H' dx (s1.trans s') e⟩
end
section
theorem J33:sp1=⟨#[32]⟩:=by decide +kernel
theorem nl1_eq:nl1=⟨#[10]⟩:=by decide +kernel
theorem J1f:Str.ofString "-"=⟨#[45]⟩:=by decide +kernel
theorem J3m (x:Str) (c:Nat):Txt.slice (x ++ ⟨#[c]⟩) none (some (-1))=x:=by
 have hl:(x ++ ⟨#[c]⟩:Str).length=x.length + 1:=by rw [strLen_append];rfl
 have lx:x.cps.toList.length=x.length:=Array.length_toList
 have e1:Txt.slice (x ++ ⟨#[c]⟩) none (some (-1))=StrLaws.sliceText (x ++ ⟨#[c]⟩) (some ((0:Nat):Int)) (some ((x.length:Nat):Int)):=by
  unfold Txt.slice StrLaws.sliceText
  rw [StrLaws.sliceIdx_none_lo,StrLaws.sliceIdx_neg_hi _ _ (by decide) (by rw [hl];omega)]
  have e2:(-1 + (((x ++ ⟨#[c]⟩:Str).length:Nat):Int))=((x.length:Nat):Int):=by rw [hl];omega
  rw [e2];rfl
 rw [e1,StrLaws.sliceText_nat _ (Nat.zero_le _) (by rw [hl];omega)]
 refine Jy ?_
 show ((((x ++ ⟨#[c]⟩:Str).cps.toList.drop 0).take (x.length - 0)).toArray).toList=_
 rw [J9,List.drop_zero,Nat.sub_zero,← lx]
 show List.take x.cps.toList.length (x.cps.toList ++ _)=_
 exact List.take_left
theorem endB_iff {z:Str} (h:endB z=true):45∈z.cps.toList:=by
 unfold endB at h
 rw [Bool.and_eq_true] at h
 have h2:=h.2
 rw [StrLaws.subAt_eq,J1f] at h2
 have h3:=eq_of_beq h2
 have h4:45∈List.take (⟨#[45]⟩:Str).length (List.drop (z.length - (⟨#[45]⟩:Str).length) z.cps.toList):=by rw [h3];exact List.mem_singleton.mpr rfl
 exact List.mem_of_mem_drop (List.mem_of_mem_take h4)
theorem endB_dash (x:Str):endB (x ++ Str.ofString "-")=true:=by
 have:=PySem.W.KT.ends_app x (Str.ofString "-")
 unfold Txt.endswith at this
 unfold endB
 exact this
def wordB (o:Int) (b:Bool):Str:=if b=true then numS o ++ Str.ofString "-" else numS o
theorem numS_free {n:Int} (h:0≤n) {c:Nat} (hc:c < 48):c ∉ (numS n).cps.toList:=fun m=>by
 have:=J1a h c m
 omega
theorem noT_wordB {o:Int} (h:0≤o) (b:Bool):noT (wordB o b)=numS o:=by
 unfold noT wordB
 cases b with
 | true =>
  rw [if_pos (show true=true from rfl),if_pos (endB_dash _),J1f]
  exact J3m _ _
 | false =>
  rw [if_neg (show ¬ false=true by decide),if_neg (fun q=>numS_free h (by decide) (endB_iff q))]
theorem wordB_signs {o:Int} (h:0≤o) (b:Bool) {c:Nat} (hc:c∈(wordB o b).cps.toList):45≤c:=by
 unfold wordB at hc
 split at hc
 ·rw [J9,J1f] at hc
  rcases List.mem_append.mp hc with q | q
  ·have:=J1a h c q;omega
  ·have:c=45:=List.mem_singleton.mp q
   omega
 ·have:=J1a h c hc;omega
theorem digB_digit:∀ c:Nat,c < 58→48≤c→digB c=true:=by decide +kernel
theorem numB_num {n:Int} (h:0≤n) (h1:n < 10 ^ 31):numB (numS n)=true:=by
 have hl:(numS n).length≤31:=PyProof.Rows.toString_length_le h (by decide) h1
 have hd:∀ c∈(numS n).cps.toList,48≤c∧c≤57:=J1a h
 have hne:(numS n).cps.toList≠[]:=num_ne h
 have h0:¬ numS n=Str.ofString "":=fun e=>hne ((empty_iff _).mp e)
 unfold numB
 rw [if_neg h0,if_neg (by omega),if_neg,List.all_eq_true]
 ·intro c hc
  have:=hd c hc
  exact digB_digit c (by omega) this.1
 ·rintro ⟨q1,q2⟩
  by_cases c0:n=0
  ·subst c0;exact q2 rfl
  ·obtain ⟨c,r,e,q⟩:=head_digit n.toNat (by omega)
   have e1:=J39 h
   rw [e] at e1
   have e2:(numS n).cps.toList[0]?=some c.toNat:=by
    show (Str.ofString (toString n)).cps.toList[0]?=_
    rw [e1];rfl
   rw [Array.getElem?_toList] at e2
   rw [Array.getD_eq_getD_getElem?,e2] at q1
   exact q q1
theorem join_mem {c:Nat} {s:Str}:∀ {ps:List Str},c∈(Str.join s ps).cps.toList→c∈s.cps.toList∨∃ p∈ps,c∈p.cps.toList
 | [],h=>absurd (show c∈([]:List Nat) from h) (by simp)
 | [x],h=>.inr ⟨x,List.mem_cons_self ..,h⟩
 | x :: y :: r,h=>by
  have h:c∈(x ++ s ++ Str.join s (y :: r)).cps.toList:=h
  rw [J9,J9] at h
  rcases List.mem_append.mp h with q | q
  ·rcases List.mem_append.mp q with q | q
   ·exact .inr ⟨x,List.mem_cons_self ..,q⟩
   ·exact .inl q
  ·rcases join_mem q with q | ⟨p,hp,hc⟩
   ·exact .inl q
   ·exact .inr ⟨p,List.mem_cons_of_mem _ hp,hc⟩
theorem row_split {a:Str} {ws:List Str} (ha:32 ∉ a.cps.toList) (hw:∀ y∈ws,32 ∉ y.cps.toList):Txt.split (Txt.join sp1 (a :: ws)) sp1=a :: ws:=by
 rw [J33]
 refine J2b 32 (List.cons_ne_nil _ _) fun p hp=>?_
 rcases List.mem_cons.mp hp with rfl | hp
 ·exact ha
 ·exact hw p hp
theorem pieces_free:(32 ∉ (Str.ofString "pieces").cps.toList)∧10 ∉ (Str.ofString "pieces").cps.toList:=by decide +kernel
theorem laid_free:(32 ∉ (Str.ofString "laid").cps.toList)∧10 ∉ (Str.ofString "laid").cps.toList:=by decide +kernel
def rowB (ps:List (Int × Bool)):Str:=Txt.join sp1 (Str.ofString "laid" :: ps.map fun p=>wordB p.1 p.2)
end
end R09
namespace R09
open PySem L2 Rl
section
def signT:Str:=Str.ofString " !\"#$&'()*+,./:;<=>?@ABCDEFGHIJKLMNOPQRSTUVWXYZ[\\]^_`abcdefghijklmnopqrstuvwxyz{|}~"
theorem digB_no:∀ c:Nat,c < 128→(c < 48∨57 < c)→digB c=false:=by decide +kernel
theorem sign_ok:∀ c∈signT.cps.toList,c < 128∧(c < 48∨57 < c)∧c≠45∧c≠10:=by decide +kernel
theorem J2n:∀ c∈signT.cps.toList,(Txt.split (⟨#[c]⟩ ++ Str.ofString "pieces") sp1).headD Str.empty≠Str.ofString "pieces"∧(Txt.split (⟨#[c]⟩ ++ Str.ofString "pieces") sp1).headD Str.empty≠Str.ofString "laid":=by decide +kernel
theorem J2o:∀ c∈signT.cps.toList,(Txt.split (⟨#[c]⟩ ++ Str.ofString "laid") sp1).headD Str.empty≠Str.ofString "pieces"∧(Txt.split (⟨#[c]⟩ ++ Str.ofString "laid") sp1).headD Str.empty≠Str.ofString "laid":=by decide +kernel
def hdW (b:Bool):Str:=if b=true then Str.ofString "pieces" else Str.ofString "laid"
def wOk (b:Bool) (z:Str):Bool:=if b=true then numB z else numB (noT z)
def rowOk (b:Bool) (z:Str):Bool:=if b=true then J1d z else J17 z
theorem J2g (b:Bool) (z:Str):rowOk b z=(decide ((Txt.split z sp1).headD Str.empty=hdW b) && ((Txt.split z sp1).drop 1).all (wOk b)):=by
 cases b <;> rfl
theorem J1j {z:Str} {c:Nat} (h:c∈z.cps.toList) (hd:digB c=false):numB z=false:=by
 unfold numB
 split
 ·rfl
 split
 ·rfl
 split
 ·rfl
 rw [List.all_eq_false]
 exact ⟨c,h,by rw [hd];decide⟩
theorem J1s:numB (Str.ofString "")=false:=by decide +kernel
theorem noT_empty:noT (Str.ofString "")=Str.ofString "":=by decide +kernel
theorem endB_ex {z:Str} (h:endB z=true):∃ x:Str,z=x ++ Str.ofString "-":=by
 unfold endB at h
 rw [Bool.and_eq_true] at h
 have h2:=h.2
 rw [StrLaws.subAt_eq,J1f] at h2
 have h3:=eq_of_beq h2
 have h1:0 + (Str.ofString "-").length≤z.length:=of_decide_eq_true h.1
 rw [J1f] at h1
 have l1:(⟨#[45]⟩:Str).length=1:=rfl
 rw [l1] at h1 h3
 have lz:z.cps.toList.length=z.length:=Array.length_toList
 have ld:(z.cps.toList.drop (z.length - 1)).length=1:=by rw [List.length_drop,lz];omega
 rw [List.take_of_length_le (by omega)] at h3
 refine ⟨⟨(z.cps.toList.take (z.length - 1)).toArray⟩,Jy ?_⟩
 rw [J9,J1f]
 conv=>lhs;rw [← List.take_append_drop (z.length - 1) z.cps.toList,h3]
theorem num_last {n:Int} (h:0≤n):∃ l d,(numS n).cps.toList=l ++ [d]∧48≤d∧d≤57:=by
 obtain ⟨l,d,e⟩:∃ l d,(numS n).cps.toList=l ++ [d]:=by
  have hne:(numS n).cps.toList≠[]:=num_ne h
  exact ⟨_,_,(List.dropLast_concat_getLast hne).symm⟩
 refine ⟨l,d,e,J1a h d ?_⟩
 show d∈(numS n).cps.toList
 rw [e]
 exact List.mem_append_right _ (List.mem_singleton.mpr rfl)
theorem endB_not {z:Str} {l:List Nat} {d:Nat} (e:z.cps.toList=l ++ [d]) (hd:d≠45):¬ endB z=true:=fun q=>by
 obtain ⟨x,hx⟩:=endB_ex q
 rw [hx,J9,J1f] at e
 have:=(List.append_inj' e rfl).2
 exact hd (List.cons.inj this).1.symm
theorem J46 (x:Str):noT (x ++ Str.ofString "-")=x:=by
 unfold noT
 rw [if_pos (endB_dash x),J1f]
 exact J3m _ _
theorem Jt (a b c:Str):a ++ (b ++ c)=a ++ b ++ c:=Jy (by simp only [J9,List.append_assoc])
theorem noT_pre (a:Str) {n:Int} (h:0≤n) (t:Bool):noT (a ++ wordB n t)=a ++ numS n:=by
 unfold wordB
 cases t with
 | true =>
  rw [if_pos rfl,Jt]
  exact J46 _
 | false =>
  rw [if_neg Bool.false_ne_true]
  obtain ⟨l,d,e,h1,h2⟩:=num_last h
  unfold noT
  rw [if_neg (endB_not (l:=a.cps.toList ++ l) (d:=d) (by rw [J9,e,List.append_assoc]) (by omega))]
theorem noT_sign (x:Str) {c:Nat} (h:c≠45):noT (x ++ ⟨#[c]⟩)=x ++ ⟨#[c]⟩:=by
 unfold noT
 rw [if_neg (endB_not (l:=x.cps.toList) (d:=c) (by rw [J9]) h)]
def GW (b:Bool) (w:Str):Prop:=∃ (n:Int) (t:Bool),0≤n∧n < 10 ^ 29∧w=wordB n t∧(b=true→t=false)
structure BW (b:Bool) (y:Str):Prop where
 bad:∃ p∈Txt.split y sp1,wOk b p=false
 nl:10 ∉ y.cps.toList
 len:y.length≤34
theorem J3w {b:Bool} {p:Str} (h1:numB p=false) (h2:numB (noT p)=false):wOk b p=false:=by
 cases b
 ·exact h2
 ·exact h1
theorem GW.len {b:Bool} {w:Str} (g:GW b w):w.length≤30:=by
 obtain ⟨n,t,h0,h1,rfl,_⟩:=g
 have hl:(numS n).length≤29:=PyProof.Rows.toString_length_le h0 (by decide) h1
 have h2:(Str.ofString "-").length=1:=by decide +kernel
 unfold wordB
 split
 ·rw [strLen_append];omega
 ·omega
theorem GW.free {b:Bool} {w:Str} (g:GW b w) {c:Nat} (hc:c < 45):c ∉ w.cps.toList:=by
 obtain ⟨n,t,h0,h1,rfl,_⟩:=g
 exact fun m=>by have:=wordB_signs h0 t m;omega
theorem GW.ok {b:Bool} {w:Str} (g:GW b w):wOk b w=true:=by
 obtain ⟨n,t,h0,h1,rfl,h2⟩:=g
 have e:(10:Int) ^ 29 < 10 ^ 31:=by decide
 cases b with
 | true =>
  rw [h2 rfl]
  exact numB_num h0 (by omega)
 | false =>
  show numB (noT (wordB n t))=true
  rw [noT_wordB h0]
  exact numB_num h0 (by omega)
theorem GW.ne {b:Bool} {w:Str} (g:GW b w):w.cps.toList≠[]:=by
 obtain ⟨n,t,h0,h1,rfl,_⟩:=g
 have:=num_ne h0
 unfold wordB
 split
 ·rw [J9]
  exact fun q=>this (List.append_eq_nil_iff.mp q).1
 ·exact this
theorem split_w {z:Str} (h:32 ∉ z.cps.toList):Txt.split z sp1=[z]:=by rw [J33];exact J12 32 h
theorem J1q {b:Bool} {z:Str} (h:32 ∉ z.cps.toList) (h1:numB z=false) (h2:numB (noT z)=false):∃ p∈Txt.split z sp1,wOk b p=false:=by
 rw [split_w h]
 exact ⟨z,List.mem_singleton.mpr rfl,J3w h1 h2⟩
theorem BW.ahead {b:Bool} {w:Str} {c:Nat} (g:GW b w) (hc:c < 128) (hd:c < 48∨57 < c) (hn:c≠10):BW b (⟨#[c]⟩ ++ w):=by
 have g0:=g
 have hne:=g.ne
 have hlen:=g.len
 have h32:=g.free (c:=32) (by decide)
 have h10:=g.free (c:=10) (by decide)
 have l1:(⟨#[c]⟩:Str).length=1:=rfl
 have sg:(⟨#[c]⟩ ++ w:Str).cps.toList=c :: w.cps.toList:=by rw [J9];rfl
 refine ⟨?_,?_,by rw [strLen_append];omega⟩
 ·by_cases c1:c=32
  ·subst c1
   have e:(⟨#[32]⟩ ++ w:Str)=Str.ofString "" ++ ⟨#[32]⟩ ++ w:=Jy (by rw [J9,J9,J9];rfl)
   rw [e,J33,J1m]
   refine ⟨Str.ofString "",List.mem_append_left _ ?_,J3w J1s (by rw [noT_empty];exact J1s)⟩
   rw [J12 32 (by decide +kernel)]
   exact List.mem_singleton.mpr rfl
  ·refine J1q (by rw [sg];intro q;rcases List.mem_cons.mp q with q | q;exact c1 q.symm;exact h32 q) (J1j (c:=c) (by rw [sg];exact List.mem_cons_self ..) (digB_no c hc hd)) ?_
   obtain ⟨n,t,h0,h1,rfl,_⟩:=g0
   rw [noT_pre _ h0]
   exact J1j (c:=c) (by rw [J9];exact List.mem_append_left _ (List.mem_singleton.mpr rfl)) (digB_no c hc hd)
 ·rw [sg]
  intro q
  rcases List.mem_cons.mp q with q | q
  ·exact hn q.symm
  ·exact h10 q
theorem BW.behind {b:Bool} {w:Str} {c:Nat} (g:GW b w) (hc:c < 128) (hd:c < 48∨57 < c) (hn:c≠10) (h45:c≠45):BW b (w ++ ⟨#[c]⟩):=by
 have hlen:=g.len
 have h32:=g.free (c:=32) (by decide)
 have h10:=g.free (c:=10) (by decide)
 have l1:(⟨#[c]⟩:Str).length=1:=rfl
 have sg:(w ++ ⟨#[c]⟩:Str).cps.toList=w.cps.toList ++ [c]:=by rw [J9]
 have mc:c∈(w ++ ⟨#[c]⟩:Str).cps.toList:=by rw [sg];exact List.mem_append_right _ (List.mem_singleton.mpr rfl)
 refine ⟨?_,?_,by rw [strLen_append];omega⟩
 ·by_cases c1:c=32
  ·subst c1
   have e:(w ++ ⟨#[32]⟩:Str)=w ++ ⟨#[32]⟩ ++ Str.ofString "":=Jy (by rw [J9 (w ++ ⟨#[32]⟩)];exact (List.append_nil _).symm)
   rw [e,J33,J1m]
   refine ⟨Str.ofString "",List.mem_append_right _ ?_,J3w J1s (by rw [noT_empty];exact J1s)⟩
   rw [J12 32 (by decide +kernel)]
   exact List.mem_singleton.mpr rfl
  ·refine J1q (by rw [sg];intro q;rcases List.mem_append.mp q with q | q;exact h32 q;exact c1 (List.mem_singleton.mp q).symm) (J1j mc (digB_no c hc hd)) ?_
   rw [noT_sign _ h45]
   exact J1j mc (digB_no c hc hd)
 ·rw [sg]
  intro q
  rcases List.mem_append.mp q with q | q
  ·exact h10 q
  ·exact hn (List.mem_singleton.mp q).symm
theorem J3j:Str.ofString "0"=⟨#[48]⟩:=by decide +kernel
theorem numB_zero {x:Str} (h:x.cps.toList≠[]):numB (Str.ofString "0" ++ x)=false:=by
 have l0:(Str.ofString "0").length=1:=by decide +kernel
 have lx:0 < x.length:=by
  have:x.cps.toList.length=x.length:=Array.length_toList
  rw [← this]
  exact List.length_pos_iff.mpr h
 unfold numB
 split
 ·rfl
 split
 ·rfl
 rw [if_pos]
 refine ⟨?_,fun q=>?_⟩
 ·have e:(Str.ofString "0" ++ x).cps.toList[0]?=some 48:=by rw [J9,J3j];rfl
  rw [Array.getElem?_toList] at e
  rw [Array.getD_eq_getD_getElem?,e];rfl
 ·have:=congrArg Str.length q
  rw [strLen_append,l0] at this
  omega
theorem BW.zero {b:Bool} {w:Str} (g:GW b w):BW b (Str.ofString "0" ++ w):=by
 have hlen:=g.len
 have hne:=g.ne
 have h32:=g.free (c:=32) (by decide)
 have h10:=g.free (c:=10) (by decide)
 have l0:(Str.ofString "0").length=1:=by decide +kernel
 refine ⟨J1q (fun q=>?_) (numB_zero hne) ?_,fun q=>?_,by rw [strLen_append];omega⟩
 ·rw [J9,J3j] at q
  rcases List.mem_append.mp q with q | q
  ·exact absurd (List.mem_singleton.mp q) (by decide)
  ·exact h32 q
 ·obtain ⟨n,t,h0,h1,rfl,_⟩:=g
  rw [noT_pre _ h0]
  exact numB_zero (num_ne h0)
 ·rw [J9,J3j] at q
  rcases List.mem_append.mp q with q | q
  ·exact absurd (List.mem_singleton.mp q) (by decide)
  ·exact h10 q
theorem dd_eq:Str.ofString "--"=Str.ofString "-" ++ Str.ofString "-":=by decide +kernel
theorem dash_no:digB 45=false:=by decide +kernel
theorem BW.dashes {b:Bool} {w:Str} (g:GW b w):BW b (w ++ Str.ofString "--"):=by
 have hlen:=g.len
 have h32:=g.free (c:=32) (by decide)
 have h10:=g.free (c:=10) (by decide)
 have l2:(Str.ofString "--").length=2:=by decide +kernel
 have sg:(w ++ Str.ofString "--").cps.toList=w.cps.toList ++ [45,45]:=by
  rw [J9]
  exact congrArg _ (by decide +kernel)
 have m1:45∈(w ++ Str.ofString "-").cps.toList:=by rw [J9,J1f];exact List.mem_append_right _ (List.mem_singleton.mpr rfl)
 refine ⟨J1q (fun q=>?_) (J1j (c:=45) (by rw [sg];exact List.mem_append_right _ (List.mem_cons_self ..)) dash_no) ?_,fun q=>?_,by rw [strLen_append];omega⟩
 ·rw [sg] at q
  rcases List.mem_append.mp q with q | q
  ·exact h32 q
  ·exact absurd q (by decide)
 ·rw [dd_eq,Jt,J46]
  exact J1j m1 dash_no
 ·rw [sg] at q
  rcases List.mem_append.mp q with q | q
  ·exact h10 q
  ·exact absurd q (by decide)
theorem BW.dash {w:Str} (g:GW true w):BW true (w ++ Str.ofString "-"):=by
 have hlen:=g.len
 have h32:=g.free (c:=32) (by decide)
 have h10:=g.free (c:=10) (by decide)
 have l2:(Str.ofString "-").length=1:=by decide +kernel
 have sg:(w ++ Str.ofString "-").cps.toList=w.cps.toList ++ [45]:=by rw [J9,J1f]
 have f:32 ∉ (w ++ Str.ofString "-").cps.toList:=fun q=>by
  rw [sg] at q
  rcases List.mem_append.mp q with q | q
  ·exact h32 q
  ·exact absurd q (by decide)
 refine ⟨⟨_,by rw [split_w f];exact List.mem_singleton.mpr rfl,(J1j (c:=45) (by rw [sg];exact List.mem_append_right _ (List.mem_singleton.mpr rfl)) dash_no:numB _=false)⟩,fun q=>?_,by rw [strLen_append];omega⟩
 rw [sg] at q
 rcases List.mem_append.mp q with q | q
 ·exact h10 q
 ·exact absurd q (by decide)
def toldW:List Str:=[Str.ofString "",Str.ofString "1_0",Str.ofString "1" ++ Txt.mul (Str.ofString "0") 31,Str.ofString "-",Str.ofString "1-1",Str.ofString "1.0"]
theorem told_ok:∀ y∈toldW,32 ∉ y.cps.toList∧10 ∉ y.cps.toList∧y.length≤34∧numB y=false∧numB (noT y)=false:=by decide +kernel
theorem BW.told {b:Bool} {y:Str} (h:y∈toldW):BW b y:=by
 obtain ⟨h1,h2,h3,h4,h5⟩:=told_ok y h
 exact ⟨J1q h1 h4 h5,h2,h3⟩
theorem GW.seven (b:Bool):GW b (Str.ofString "7"):=⟨7,false,by decide,by decide,by decide +kernel,fun _=>rfl⟩
structure BH (y:Str):Prop where
 hd:∀ b,(Txt.split y sp1).headD Str.empty≠hdW b
 nl:10 ∉ y.cps.toList
 len:y.length≤34
structure RowF (b:Bool) (z:Str) (ok:Bool):Prop where
 ok:rowOk b z=ok
 no:b=false→J1d z=false
 nl:10 ∉ z.cps.toList
 len:z.length≤950
theorem headD_app {a b:List Str} (h:a≠[]):(a ++ b).headD Str.empty=a.headD Str.empty:=by
 cases a with
 | nil=>exact absurd rfl h
 | cons x r=>rfl
theorem row_len {ws:List Str} (h:∀ w∈ws,w.length≤34) (n:ws.length≤27):(Txt.join sp1 ws).length≤950:=by
 have c1:sp1.length=1:=by decide +kernel
 have h1:=J4a (B:=34) (sep:=sp1) h
 rw [c1] at h1
 have:ws.length * 34≤27 * 34:=Nat.mul_le_mul_right _ n
 omega
theorem row_nl {ws:List Str} (h:∀ w∈ws,10 ∉ w.cps.toList):10 ∉ (Txt.join sp1 ws).cps.toList:=by
 intro q
 have e:Txt.join sp1 ws=Str.join sp1 ws:=StrLaws.glued_eq_join ..
 rw [e] at q
 rcases join_mem q with q | ⟨p,hp,q⟩
 ·rw [J33] at q
  exact absurd (List.mem_singleton.mp q) (by decide)
 ·exact h p hp q
theorem J1e (b:Bool):32 ∉ (hdW b).cps.toList∧10 ∉ (hdW b).cps.toList∧(hdW b).length≤34:=by
 cases b
 ·exact ⟨laid_free.1,laid_free.2,by decide +kernel⟩
 ·exact ⟨pieces_free.1,pieces_free.2,by decide +kernel⟩
structure Rw (b:Bool) (z:Str) (ws:List Str):Prop where
 eq:z=Txt.join sp1 (hdW b :: ws)
 gw:∀ w∈ws,GW b w
 n:ws.length≤25
theorem Rw.split {b:Bool} {z:Str} {ws:List Str} (r:Rw b z ws):Txt.split z sp1=hdW b :: ws:=by
 rw [r.eq]
 exact row_split (J1e b).1 fun y hy=>(r.gw y hy).free (by decide)
theorem J2y:Str.ofString "laid"≠Str.ofString "pieces":=by decide +kernel
theorem Rw.row {b:Bool} {z:Str} {ws:List Str} (r:Rw b z ws):RowF b z true:=by
 refine ⟨?_,fun h=>?_,?_,?_⟩
 ·rw [J2g,r.split]
  show (decide (hdW b=hdW b) && ws.all (wOk b))=true
  rw [decide_eq_true rfl,Bool.true_and,List.all_eq_true]
  exact fun w hw=>(r.gw w hw).ok
 ·subst h
  show (decide ((Txt.split z sp1).headD Str.empty=Str.ofString "pieces") && _)=false
  rw [r.split,show (hdW false :: ws).headD Str.empty=Str.ofString "laid" from rfl,decide_eq_false J2y,Bool.false_and]
 ·rw [r.eq]
  refine row_nl fun w hw=>?_
  rcases List.mem_cons.mp hw with rfl | hw
  ·exact (J1e b).2.1
  ·exact (r.gw w hw).free (by decide)
 ·rw [r.eq]
  refine row_len (fun w hw=>?_) (by rw [List.length_cons];have:=r.n;omega)
  rcases List.mem_cons.mp hw with rfl | hw
  ·exact (J1e b).2.2
  ·exact Nat.le_trans (r.gw w hw).len (by decide)
theorem spoil_head {b:Bool} {y:Str} {ws:List Str} (h:BH y) (g:∀ w∈ws,GW b w) (n:ws.length≤25):RowF b (Txt.join sp1 (y :: ws)) false:=by
 have e:(Txt.split (Txt.join sp1 (y :: ws)) sp1).headD Str.empty=(Txt.split y sp1).headD Str.empty:=by
  rw [J33,J1v 32 (List.cons_ne_nil _ _),List.flatMap_cons]
  exact headD_app (J32 _ _)
 refine ⟨?_,fun h'=>?_,row_nl fun w hw=>?_,row_len (fun w hw=>?_) (by rw [List.length_cons];omega)⟩
 ·rw [J2g,e,decide_eq_false (h.hd b),Bool.false_and]
 ·have:=J2g true (Txt.join sp1 (y :: ws))
  rw [e,decide_eq_false (h.hd true),Bool.false_and] at this
  exact this
 ·rcases List.mem_cons.mp hw with rfl | hw
  ·exact h.nl
  ·exact (g w hw).free (by decide)
 ·rcases List.mem_cons.mp hw with rfl | hw
  ·exact h.len
  ·exact Nat.le_trans (g w hw).len (by decide)
theorem spoil_word {b:Bool} {y:Str} {ws:List Str} (hm:y∈ws) (h:BW b y) (g:∀ w∈ws,w=y∨GW b w) (n:ws.length≤26):RowF b (Txt.join sp1 (hdW b :: ws)) false:=by
 have e:Txt.split (Txt.join sp1 (hdW b :: ws)) sp1=hdW b :: ws.flatMap (fun w=>Txt.split w sp1):=by
  rw [J33,J1v 32 (List.cons_ne_nil _ _),List.flatMap_cons,J12 32 (J1e b).1];rfl
 refine ⟨?_,fun h'=>?_,row_nl fun w hw=>?_,row_len (fun w hw=>?_) (by rw [List.length_cons];omega)⟩
 ·rw [J2g,e]
  show (_ && (ws.flatMap (fun w=>Txt.split w sp1)).all (wOk b))=false
  obtain ⟨p,hp,q⟩:=h.bad
  have:(ws.flatMap (fun w=>Txt.split w sp1)).all (wOk b)=false:=by
   rw [List.all_eq_false]
   exact ⟨p,List.mem_flatMap.mpr ⟨y,hm,hp⟩,by rw [q];decide⟩
  rw [this,Bool.and_false]
 ·subst h'
  have:=J2g true (Txt.join sp1 (hdW false :: ws))
  rw [e,show (hdW false :: ws.flatMap (fun w=>Txt.split w sp1)).headD Str.empty=Str.ofString "laid" from rfl,show hdW true=Str.ofString "pieces" from rfl,decide_eq_false J2y,Bool.false_and] at this
  exact this
 ·rcases List.mem_cons.mp hw with rfl | hw
  ·exact (J1e b).2.1
  ·rcases g w hw with rfl | g
   ·exact h.nl
   ·exact g.free (by decide)
 ·rcases List.mem_cons.mp hw with rfl | hw
  ·exact (J1e b).2.2
  ·rcases g w hw with rfl | g
   ·exact h.len
   ·exact Nat.le_trans g.len (by decide)
theorem head_sign {b:Bool} {c:Nat} (h:c∈signT.cps.toList):BH (⟨#[c]⟩ ++ hdW b):=by
 have h1:=sign_ok c h
 refine ⟨fun b'=>?_,fun q=>?_,?_⟩
 ·cases b <;> cases b'
  ·exact (J2o c h).2
  ·exact (J2o c h).1
  ·exact (J2n c h).2
  ·exact (J2n c h).1
 ·rw [J9] at q
  rcases List.mem_append.mp q with q | q
  ·exact h1.2.2.2 (List.mem_singleton.mp q).symm
  ·exact (J1e b).2.1 q
 ·rw [strLen_append]
  have:(⟨#[c]⟩:Str).length=1:=rfl
  have:(hdW b).length≤6:=by cases b <;> decide +kernel
  omega
def headM (w:Str):List Str:=[w ++ Str.ofString "-",w ++ Str.ofString "s",w ++ Str.ofString "0",Txt.upper w,Txt.slice w none (some (-1)),Str.ofString "",Str.ofString "laids",Str.ofString "Pieces"]
theorem headM_ok:∀ b:Bool,∀ y∈headM (hdW b),(∀ b':Bool,(Txt.split y sp1).headD Str.empty≠hdW b')∧10 ∉ y.cps.toList∧y.length≤34:=by decide +kernel
theorem head_menu {b:Bool} {y:Str} (h:y∈headM (hdW b)):BH y:=by
 obtain ⟨h1,h2,h3⟩:=headM_ok b y h
 exact ⟨h1,h2,h3⟩
end
end R09
namespace R09
open PySem L2 Rl
section
variable {P:Program} {w:World} {K:PySem.W.Frag} {mg:Str→Option Value} {base:Heap}
def spSign:Sp:=fun vs H Q _=>∃ cell:Int,vs=[.int cell]∧∀ c∈signT.cps.toList,Q (.str ⟨#[c]⟩) H
theorem scSign:FnScope ["cell","some"] ["cell"] (J7 sSign):=⟨rfl,rfl,rfl,by decide +kernel,rfl,by decide +kernel,by decide +kernel⟩
theorem ok_sign {f   : Addr} {fd  : FuncData}  (F : Fun K "_law_sign" "_law_sign" sSign f fd) (T : TxtR mg)
 :
    FnOk P w K mg base CX0 1 f fd ["cell"] spSign := by
  refine F.ok scSign (fun vs H Q E h => ?_) (fun cdv A outer s H vs Q E hr h => ?_)
  · obtain ⟨cell, rfl, _⟩ := h
    rfl
  · obtain ⟨cell, rfl, k⟩ := h
    refine ⟨_, (J2 (Jp (i := 1) scSign.nd rfl (Or.inl rfl) Je)
      (J8 (Jz (pe_ix ix_str (pv 1) (pe_op J11 (pv 0) (Jb J2s (by rfl) T.len PySem.boot_len (J0 (pv 1) J4))) (fun _ _ => rfl))))), ?_⟩
    have ls : signT.length = 83 := by decide +kernel
    have lz : signT.length ≤ sizeLine := by rw [ls, sizeLine_eq]; decide
    have lt : signT.cps.toList.length = signT.length := Array.length_toList
    have m0 : 0 ≤ cell % (signT.length : Nat) := Int.emod_nonneg _ (by omega)
    have m1 : cell % (signT.length : Nat) < (signT.length : Nat) := Int.emod_lt_of_pos _ (by omega)
    obtain ⟨j, hj⟩ : ∃ j : Nat, (j : Int) = cell % (signT.length : Nat) := ⟨(cell % (signT.length : Nat)).toNat, by omega⟩
    have jl : j < signT.cps.toList.length := by rw [lt]; omega
    refine ⟨_, rfl, _, rfl, _, rfl, signT, rfl, lz, _, _, rfl, rfl, (by omega), signT, _, signT.cps.toList[j], rfl, rfl, lz, ?_, k _ (List.getElem_mem jl)⟩
    rw [← hj]
    exact Ji (List.getElem?_eq_getElem jl)
theorem plus_eq:Str.ofString "+"=⟨#[43]⟩:=by decide +kernel
def spWordL:Sp:=fun vs H Q _=>∃ (w:Str) (cell:Int) (b:Bool),vs=[.str w,.int cell,.bl b]∧GW b w∧∀ y H',Same H H'→BW b y→Q (.str y) H'
theorem scWordL:FnScope ["word","cell","lengths","sign","menu"] ["word","cell","lengths"] (J7 sWordL):=⟨rfl,rfl,rfl,by decide +kernel,rfl,by decide +kernel,by decide +kernel⟩
theorem ok_wordL {f fSG :Addr} {fd fdSG:FuncData}  (F:Fun K "_law_word" "_law_word" sWordL f fd)
  (GSG:FnOk P w K mg base CX0 1 fSG fdSG ["cell"] spSign) (bSG:Binds K fdSG ["cell"] []) (mSG:mg "_law_sign"=some (.ref fSG)) (kSG:PySem.W.keepIn K (.ref fSG)=true) :
  FnOk P w K mg base CX0 2 f fd ["word","cell","lengths"] spWordL:=by
 refine F.ok scWordL (fun vs H Q E h=>?_) (fun cdv A outer s H vs Q E hr h=>?_)
 ·obtain ⟨w,cell,b,rfl,_⟩:=h
  rfl
 ·obtain ⟨w,cell,b,rfl,g,k⟩:=h
  have hr1:Room 1 _:=hr.mono (by decide)
  refine ⟨_,(J2 (Jp (i:=3) scWordL.nd rfl (Or.inl rfl) (Jr GSG hr1 rfl mSG kSG bSG .nil pass0 (J0 (pe_op J13 (pv 1) J1) J4)))
   (J2 (J2k (ps_if (PW.pt (pw_and (J2i (pv 2)) (pw_and1 (Jk op_eq (pe_op J11 (pe_op J13 (pv 1) J1) J1) J1 (Jn _))))) (J8 (Jz (pe_op J6 (pv 0) Je))) Jm))
   (J2 (Jp (i:=4) scWordL.nd rfl (Or.inl rfl) (J1z (J0 (pe_op J6 Je (pv 0)) (J0 (pe_op J6 (pv 3) (pv 0)) (J0 (pe_op J6 (pv 0) (pv 3)) (J0 (pe_op J6 Je (pv 0)) (J0 (pe_op J6 (pv 0) Je) (J0 Je (J0 Je (J0 (pe_op J6 Je (pv 0)) (J0 (pe_op J6 Je (pe_op J1r Je J1)) (J0 Je J4))))))))))))
   (J2 (Jp (i:=4) scWordL.nd rfl (Or.inl rfl) (pe_op op_cat (pv 4) (J1z (J0 Je (J0 Je J4)))))
   (J8 (Jz (pe_ix Jj (pv 4) (pe_op J11 (pv 1) J1) (fun _ _=>rfl)))))))),?_⟩
  have hlen:=g.len
  have la:∀ x y:Str,x.length≤32→y.length≤32→x.length + y.length≤sizeLine:=fun x y h1 h2=>by rw [sizeLine_eq];omega
  have c0:(Str.ofString "0").length=1:=by decide +kernel
  have c1:(Str.ofString "-").length=1:=by decide +kernel
  have c2:(Str.ofString "--").length=2:=by decide +kernel
  have c3:(Str.ofString "+").length=1:=by decide +kernel
  have c4:(Str.ofString "1").length=1:=by decide +kernel
  have c5:(Txt.mul (Str.ofString "0") 31).length=31:=by decide +kernel
  have hl:w.length≤32:=by omega
  have mh:0≤cell % 12:=Int.emod_nonneg _ (by decide)
  have ml:cell % 12 < 12:=Int.emod_lt_of_pos _ (by decide)
  refine ⟨_,rfl,_,_,rfl,rfl,⟨by decide,by decide⟩,_,rfl,fun c hc=>?_⟩
  obtain ⟨q1,q2,q3,q4⟩:=sign_ok c hc
  have lc:(⟨#[c]⟩:Str).length≤32:=by show 1≤32;decide
  refine ⟨fun σ' H'=>σ'=[some (.str w),some (.int cell),some (.bl b),some (.str ⟨#[c]⟩),none]∧H=H',?_,?_⟩
  ·refine ⟨_,rfl,_,rfl,?_⟩
   cases b with
   | false=>exact iteF (iteF ⟨rfl,rfl⟩)
   | true =>
    refine iteT ⟨_,rfl,_,_,rfl,rfl,⟨by decide,by decide⟩,_,_,rfl,rfl,(by show (0:Int) < 4;decide),rfl,_,rfl,?_⟩
    by_cases c6:cell / 12 % 4=0
    ·exact iteDT (congrArg V.int c6) ⟨_,rfl,_,_,rfl,rfl,la _ _ hl (by rw [c1];decide),k _ _ (Same.refl _) (BW.dash g)⟩
    ·exact iteD (fun e=>c6 (V.int.inj e)) ⟨rfl,rfl⟩
  rintro σ _ ⟨rfl,rfl⟩
  refine ⟨_,rfl,_,_,rfl,rfl,la _ _ (by rw [c0];decide) hl,_,rfl,_,rfl,_,_,rfl,rfl,la _ _ lc hl,_,rfl,_,rfl,_,_,rfl,rfl,la _ _ hl lc,_,rfl,_,_,rfl,rfl,la _ _ (by rw [c1];decide) hl,_,rfl,_,_,rfl,rfl,la _ _ hl (by rw [c2];decide),_,rfl,_,_,rfl,rfl,la _ _ (by rw [c3];decide) hl,_,_,rfl,rfl,⟨by decide,by decide⟩,(by rw [c0];decide),_,_,rfl,rfl,la _ _ (by rw [c4];decide) (by rw [c5];decide),(by show 10≤sizeLine;decide),fun m1 hm1=>?_⟩
  generalize hL:[V.str (Str.ofString "0" ++ w),V.str (⟨#[c]⟩ ++ w),V.str (w ++ ⟨#[c]⟩),V.str (Str.ofString "-" ++ w),V.str (w ++ Str.ofString "--"),V.str (Str.ofString ""),V.str (Str.ofString "1_0"),V.str (Str.ofString "+" ++ w),V.str (Str.ofString "1" ++ Txt.mul (Str.ofString "0") 31),V.str (Str.ofString "-")]=L1
  have s1:=Jc (o:=.lst L1) hm1
  have h1:upd H m1 (.lst L1) m1=some (.lst L1):=J3
  generalize upd H m1 (.lst L1)=H1 at *
  refine ⟨_,rfl,(by show 2≤sizeLine;decide),fun m2 hm2=>?_⟩
  have s2:=Jc (o:=.lst [V.str (Str.ofString "1-1"),V.str (Str.ofString "1.0")]) hm2
  refine ⟨m1,m2,_,_,rfl,rfl,s2 _ _ h1,J3,(by rw [← hL];show 12≤sizeLine;decide),fun m3 hm3=>?_⟩
  have s3:=(s1.trans s2).trans (Jc (o:=.lst (L1 ++ [V.str (Str.ofString "1-1"),V.str (Str.ofString "1.0")])) hm3)
  have pick:∃ y,atI (L1 ++ [V.str (Str.ofString "1-1"),V.str (Str.ofString "1.0")]) (cell % 12)=some (V.str y)∧BW b y:=by
   subst hL
   have cs:cell % 12=0∨cell % 12=1∨cell % 12=2∨cell % 12=3∨cell % 12=4∨cell % 12=5∨cell % 12=6∨cell % 12=7∨cell % 12=8∨cell % 12=9∨cell % 12=10∨cell % 12=11:=by omega
   rcases cs with e | e | e | e | e | e | e | e | e | e | e | e
   ·rw [e];exact ⟨_,rfl,BW.zero g⟩
   ·rw [e];exact ⟨_,rfl,BW.ahead g q1 q2 q4⟩
   ·rw [e];exact ⟨_,rfl,BW.behind g q1 q2 q4 q3⟩
   ·rw [e];exact ⟨_,rfl,(by rw [J1f];exact BW.ahead g (by decide) (by decide) (by decide))⟩
   ·rw [e];exact ⟨_,rfl,BW.dashes g⟩
   ·rw [e];exact ⟨_,rfl,BW.told (by decide +kernel)⟩
   ·rw [e];exact ⟨_,rfl,BW.told (by decide +kernel)⟩
   ·rw [e];exact ⟨_,rfl,(by rw [plus_eq];exact BW.ahead g (by decide) (by decide) (by decide))⟩
   ·rw [e];exact ⟨_,rfl,BW.told (by decide +kernel)⟩
   ·rw [e];exact ⟨_,rfl,BW.told (by decide +kernel)⟩
   ·rw [e];exact ⟨_,rfl,BW.told (by decide +kernel)⟩
   ·rw [e];exact ⟨_,rfl,BW.told (by decide +kernel)⟩
  obtain ⟨y,hat,hy⟩:=pick
  exact ⟨_,rfl,_,rfl,_,_,rfl,rfl,(by show (0:Int) < 12;decide),m3,_,_,_,rfl,rfl,SqL.of J3,hat,k _ _ s3 hy⟩
end
end R09
namespace R09
open PySem L2 Rl
section
variable {P:Program} {w:World} {K:PySem.W.Frag} {mg:Str→Option Value} {base:Heap}
structure Us (b:Bool) (us:List Str):Prop where
 row:RowF b (Txt.join sp1 us) false
 len:∀ u∈us,u.length≤34
 n:us.length≤27
theorem Us.head {b:Bool} {y:Str} {ws:List Str} (h:BH y) (g:∀ w∈ws,GW b w) (n:ws.length≤25):Us b (y :: ws) :=
 ⟨spoil_head h g n,fun u hu=>(List.mem_cons.mp hu).elim (fun e=>by rw [e];exact h.len) fun hu=>Nat.le_trans (g u hu).len (by decide),by rw [List.length_cons];omega⟩
theorem Us.word {b:Bool} {y:Str} {ws:List Str} (hm:y∈ws) (h:BW b y) (g:∀ w∈ws,w=y∨GW b w) (n:ws.length≤26):Us b (hdW b :: ws) :=
 ⟨spoil_word hm h g n,fun u hu=>(List.mem_cons.mp hu).elim (fun e=>by rw [e];exact (J1e b).2.2) fun hu=>(g u hu).elim (fun e=>by rw [e];exact h.len) fun q=>Nat.le_trans q.len (by decide),by rw [List.length_cons];omega⟩
def spSpoiled:Sp:=fun vs H Q _=>∃ (z:Str) (ws:List Str) (cell:Int) (b:Bool),vs=[.str z,.int cell,.bl b]∧Rw b z ws∧∀ y H',Same H H'→RowF b y false→Q (.str y) H'
theorem scSpoiled:FnScope ["row","cell","lengths","words","way","menu","at"] ["row","cell","lengths"] (J7 J1w):=⟨rfl,rfl,rfl,by decide +kernel,rfl,by decide +kernel,by decide +kernel⟩
theorem ok_spoiled {f fSG fWO :Addr} {fd fdSG fdWO:FuncData}  (F:Fun K "_law_spoiled" "_law_spoiled" J1w f fd) (T:TxtR mg)
  (GSG:FnOk P w K mg base CX0 1 fSG fdSG ["cell"] spSign) (bSG:Binds K fdSG ["cell"] []) (mSG:mg "_law_sign"=some (.ref fSG)) (kSG:PySem.W.keepIn K (.ref fSG)=true)
  (GWO:FnOk P w K mg base CX0 2 fWO fdWO ["word","cell","lengths"] spWordL) (bWO:Binds K fdWO ["word","cell","lengths"] []) (mWO:mg "_law_word"=some (.ref fWO)) (kWO:PySem.W.keepIn K (.ref fWO)=true) :
  FnOk P w K mg base CX0 3 f fd ["row","cell","lengths"] spSpoiled:=by
 refine F.ok scSpoiled (fun vs H Q E h=>?_) (fun cdv A outer s H vs Q E hr h=>?_)
 ·obtain ⟨z,ws,cell,b,rfl,_⟩:=h
  rfl
 ·obtain ⟨z,ws,cell,b,rfl,r,k⟩:=h
  have hr1:Room 1 _:=hr.mono (by decide)
  have hr2:Room 2 _:=hr.mono (by decide)
  refine ⟨_,(J2 (Jp (i:=3) scSpoiled.nd rfl (Or.inl rfl) (pe_bm PySem.F.plainAttrs_str PySem.F.slot_str_split PySem.F.type_str_split J3b (pv 0) (J0 Je J4)))
   (J2 (Jp (i:=4) scSpoiled.nd rfl (Or.inl rfl) (pe_op J11 (pv 1) J1))
   (J2 (Jp (i:=1) scSpoiled.nd rfl (Or.inl rfl) (pe_op J13 (pv 1) J1))
   (J2 (J2k (ps_if (Jk op_eq (pv 4) J1 (Jn _)) (J8 (J3r (pe_op J6 (Jr GSG hr1 rfl mSG kSG bSG .nil pass0 (J0 (pv 1) J4)) (pe_ix Jj (pv 3) J1 (fun _ _=>rfl))) (J42 (pv 3) J1 J1h))) (J8 (ps_if (Jk op_eq (pv 4) J1 (Jn _)) (J2 (Jp (i:=5) scSpoiled.nd rfl (Or.inl rfl) (J1z (J0 (pe_op J6 (pe_ix Jj (pv 3) J1 (fun _ _=>rfl)) Je) (J0 (pe_op J6 (pe_ix Jj (pv 3) J1 (fun _ _=>rfl)) Je) (J0 (pe_op J6 (pe_ix Jj (pv 3) J1 (fun _ _=>rfl)) Je) (J0 (pe_bm0 PySem.F.plainAttrs_str PySem.F.slot_str_upper PySem.F.type_str_upper mt_upper (pe_ix Jj (pv 3) J1 (fun _ _=>rfl))) (J0 (J37 sl_str (pe_ix Jj (pv 3) J1 (fun _ _=>rfl)) po_none (po_some (pe_un un_neg J1))) (J0 Je (J0 Je (J0 Je J4))))))))))
     (J8 (J3r (pe_ix Jj (pv 5) (pe_op J11 (pv 1) J1) (fun _ _=>rfl)) (J42 (pv 3) J1 J1h)))) (J8 (ps_if (Jk op_eq (pv 4) J1 (Jn _)) (J8 (ps_expr (pe_bm PySem.F.plainAttrs_list PySem.F.slot_list_insert PySem.F.type_list_insert mt_insert (pv 3) (J0 (pe_op J2m J1 (pe_op J11 (pe_op J13 (pv 1) J1) (Jb Jo (by rfl) T.len PySem.boot_len (J0 (pv 3) J4)))) (J0 (Jr GWO hr2 rfl mWO kWO bWO .nil pass0 (J0 Je (J0 (pv 1) (J0 (pv 2) J4)))) J4))))) (J8 (ps_if (Jk op_eq (Jb Jo (by rfl) T.len PySem.boot_len (J0 (pv 3) J4)) J1 (Jn _)) (J8 (ps_expr (pe_bm PySem.F.plainAttrs_list PySem.F.slot_list_append PySem.F.type_list_append J3c (pv 3) (J0 (Jr GWO hr2 rfl mWO kWO bWO .nil pass0 (J0 Je (J0 (pv 1) (J0 (pv 2) J4)))) J4)))) (J2 (Jp (i:=6) scSpoiled.nd rfl (Or.inl rfl) (pe_op J2m J1 (pe_op J11 (pe_op J13 (pv 1) J1) (pe_op op_sub (Jb Jo (by rfl) T.len PySem.boot_len (J0 (pv 3) J4)) J1))))
       (J8 (J3r (Jr GWO hr2 rfl mWO kWO bWO .nil pass0 (J0 (pe_ix Jj (pv 3) (pv 6) (fun _ _=>rfl)) (J0 (pv 1) (J0 (pv 2) J4)))) (J42 (pv 3) (pv 6) J1h))))))))))))
   (J8 (Jz (pe_bm PySem.F.plainAttrs_str PySem.F.slot_str_join PySem.F.type_str_join mt_join Je (J0 (pv 3) J4)))))))),?_⟩
  have hsp:=r.split
  have z0:=r.row.len
  have rn:=r.n
  have gw:=r.gw
  refine ⟨_,rfl,rfl,z,_,rfl,rfl,(by decide +kernel),(by rw [sizeLine_eq];omega),fun d hd=>?_⟩
  rw [show Txt.split z (Str.ofString " ")=hdW b :: ws from hsp]
  have s1:=Jc (o:=.lst ((hdW b :: ws).map V.str)) hd
  have h1:upd H d (.lst ((hdW b :: ws).map V.str)) d=some (.lst ((hdW b :: ws).map V.str)):=J3
  have up:∀ (Hx:Hp) (o:HO),Same H Hx→Same H (upd Hx d o):=fun Hx o sx c u e=>by rw [Jf (Jd e hd)];exact sx _ _ e
  generalize upd H d (.lst ((hdW b :: ws).map V.str))=H1 at *
  refine ⟨_,rfl,_,_,rfl,rfl,(by show (0:Int) < 4;decide),_,rfl,_,_,rfl,rfl,⟨by decide,by decide⟩,?_⟩
  have m0:0≤cell % 4:=Int.emod_nonneg _ (by decide)
  have m1:cell % 4 < 4:=Int.emod_lt_of_pos _ (by decide)
  have hl:(hdW b).length≤6:=by cases b <;> decide +kernel
  have lw:((hdW b :: ws).map V.str).length=ws.length + 1:=by rw [List.length_map,List.length_cons]
  refine ⟨fun σ' H'=>∃ m a us,σ'=[some (.str z),some (.int (cell / 4)),some (.bl b),some (.ref d),some (.int (cell % 4)),m,a]∧Same H H'∧H' d=some (.lst (us.map V.str))∧Us b us,?_,?_⟩
  ·have ways:cell % 4=0∨cell % 4=1∨cell % 4=2∨cell % 4=3:=by omega
   rcases ways with e | e | e | e
   ·refine ⟨_,rfl,rfl,_,rfl,iteDT (congrArg V.int e) ?_⟩
    refine ⟨_,rfl,_,rfl,fun c hc=>?_⟩
    have lc:(⟨#[c]⟩:Str).length=1:=rfl
    refine ⟨_,rfl,d,_,_,_,rfl,rfl,SqL.of h1,Ji (j:=0) rfl,_,_,rfl,rfl,(by rw [lc,sizeLine_eq];omega),?_⟩
    refine ⟨_,rfl,d,_,_,0,rfl,rfl,h1,J24 (o:=0) (by rw [lw];omega),?_⟩
    exact ⟨none,none,(⟨#[c]⟩ ++ hdW b) :: ws,rfl,up _ _ s1,J3,Us.head (head_sign hc) gw rn⟩
   ·refine ⟨_,rfl,rfl,_,rfl,iteD (fun q=>by have:=V.int.inj q;omega) ?_⟩
    refine ⟨_,rfl,rfl,_,rfl,iteDT (congrArg V.int e) ?_⟩
    have W0:∀ Hx:Hp,Hx d=some (.lst ((hdW b :: ws).map V.str))→SqL K Hx d ((hdW b :: ws).map V.str):=fun Hx h=>SqL.of h
    have ld:∀ s:Str,s.length≤1→(hdW b).length + s.length≤sizeLine:=fun s h=>by rw [sizeLine_eq];omega
    have lu:(Txt.upper (hdW b)).length≤1000:=by cases b <;> decide +kernel
    refine ⟨_,rfl,d,_,_,_,rfl,rfl,W0 _ h1,Ji (j:=0) rfl,_,_,rfl,rfl,ld _ (by decide +kernel),_,rfl,d,_,_,_,rfl,rfl,W0 _ h1,Ji (j:=0) rfl,_,_,rfl,rfl,ld _ (by decide +kernel),_,rfl,d,_,_,_,rfl,rfl,W0 _ h1,Ji (j:=0) rfl,_,_,rfl,rfl,ld _ (by decide +kernel),_,rfl,d,_,_,_,rfl,rfl,W0 _ h1,Ji (j:=0) rfl,rfl,hdW b,rfl,rfl,lu,_,rfl,d,_,_,_,rfl,rfl,W0 _ h1,Ji (j:=0) rfl,_,rfl,_,rfl,hdW b,rfl,(by rw [sizeLine_eq];omega),(by show 8≤sizeLine;decide),fun mm hmm=>?_⟩
    have s2:=Jc (o:=.lst ((headM (hdW b)).map V.str)) hmm
    have x0:0≤cell / 4 % 8:=Int.emod_nonneg _ (by decide)
    have x1:cell / 4 % 8 < 8:=Int.emod_lt_of_pos _ (by decide)
    obtain ⟨j,hj⟩:∃ j:Nat,(j:Int)=cell / 4 % 8:=⟨(cell / 4 % 8).toNat,by omega⟩
    have jl:j < (headM (hdW b)).length:=by show j < 8;omega
    refine ⟨_,rfl,_,rfl,_,_,rfl,rfl,(by show (0:Int) < 8;decide),mm,(headM (hdW b)).map V.str,_,_,rfl,rfl,SqL.of J3,(by rw [← hj];exact Ji (J3l jl)),?_⟩
    refine ⟨_,rfl,d,_,_,0,rfl,rfl,s2 _ _ h1,J24 (o:=0) (by rw [lw];omega),?_⟩
    exact ⟨_,none,(headM (hdW b)).getD j Str.empty :: ws,rfl,up _ _ (s1.trans s2),J3,Us.head (head_menu (J20 jl)) gw rn⟩
   ·refine ⟨_,rfl,rfl,_,rfl,iteD (fun q=>by have:=V.int.inj q;omega) ?_⟩
    refine ⟨_,rfl,rfl,_,rfl,iteD (fun q=>by have:=V.int.inj q;omega) ?_⟩
    refine ⟨_,rfl,rfl,_,rfl,iteDT (congrArg V.int e) ?_⟩
    have x0:0≤cell / 4 / 12 % (((hdW b :: ws).map V.str).length:Nat):=Int.emod_nonneg _ (by rw [lw];omega)
    have x1:cell / 4 / 12 % (((hdW b :: ws).map V.str).length:Nat) < (((hdW b :: ws).map V.str).length:Nat):=Int.emod_lt_of_pos _ (by rw [lw];omega)
    obtain ⟨j,hj⟩:∃ j:Nat,1 + cell / 4 / 12 % (((hdW b :: ws).map V.str).length:Nat)=((j + 1:Nat):Int):=⟨(cell / 4 / 12 % (((hdW b :: ws).map V.str).length:Nat)).toNat,by omega⟩
    have jl:j≤ws.length:=by rw [lw] at x1 hj;omega
    refine ⟨_,rfl,.inl ⟨rfl,_,SqL.of h1⟩,_,rfl,_,_,rfl,rfl,⟨by decide,by decide⟩,_,rfl,d,_,rfl,.inl (SqL.of h1),_,_,rfl,rfl,(by rw [lw];omega),_,_,rfl,rfl,_,rfl,_,rfl,_,_,b,rfl,GW.seven b,fun y H2 s2 hy=>?_⟩
    refine ⟨d,_,j + 1,V.str y,rfl,(by rw [← hj]),s2 _ _ h1,(by rw [lw];omega),(by rw [lw,sizeLine_eq];omega),?_⟩
    have el:((hdW b :: ws).map V.str).take (j + 1) ++ V.str y :: ((hdW b :: ws).map V.str).drop (j + 1)=(hdW b :: (ws.take j ++ y :: ws.drop j)).map V.str:=by
     rw [List.map_cons,List.map_cons,List.take_succ_cons,List.drop_succ_cons,List.map_append,List.map_cons,List.map_take,List.map_drop,List.cons_append]
    refine ⟨none,none,hdW b :: (ws.take j ++ y :: ws.drop j),rfl,up _ _ (s1.trans s2),(by rw [J3,el]),Us.word (List.mem_append_right _ (List.mem_cons_self ..)) hy (fun u hu=>?_) ?_⟩
    ·rcases List.mem_append.mp hu with q | q
     ·exact .inr (gw u (List.mem_of_mem_take q))
     ·rcases List.mem_cons.mp q with q | q
      ·exact .inl q
      ·exact .inr (gw u (List.mem_of_mem_drop q))
    ·rw [List.length_append,List.length_cons,List.length_take,List.length_drop];omega
   ·refine ⟨_,rfl,rfl,_,rfl,iteD (fun q=>by have:=V.int.inj q;omega) ?_⟩
    refine ⟨_,rfl,rfl,_,rfl,iteD (fun q=>by have:=V.int.inj q;omega) ?_⟩
    refine ⟨_,rfl,rfl,_,rfl,iteD (fun q=>by have:=V.int.inj q;omega) ?_⟩
    refine ⟨_,rfl,d,_,rfl,.inl (SqL.of h1),rfl,_,rfl,?_⟩
    by_cases c0:ws=[]
    ·subst c0
     refine iteDT rfl ?_
     refine ⟨_,rfl,.inl ⟨rfl,_,SqL.of h1⟩,_,rfl,_,rfl,_,_,b,rfl,GW.seven b,fun y H2 s2 hy=>?_⟩
     refine ⟨d,_,V.str y,rfl,rfl,s2 _ _ h1,(by show 1 < sizeLine;decide),?_⟩
     refine ⟨none,none,[hdW b,y],rfl,up _ _ (s1.trans s2),J3,Us.word (List.mem_cons_self ..) hy (fun u hu=>.inl (List.mem_singleton.mp hu)) (by show 1≤26;decide)⟩
    ·have wl:0 < ws.length:=List.length_pos_iff.mpr c0
     refine iteD (fun q=>by have:=V.int.inj q;rw [lw] at this;omega) ?_
     have x0:0≤cell / 4 / 12 % ((((hdW b :: ws).map V.str).length:Nat) - 1):=Int.emod_nonneg _ (by rw [lw];omega)
     have x1:cell / 4 / 12 % ((((hdW b :: ws).map V.str).length:Nat) - 1) < (((hdW b :: ws).map V.str).length:Nat) - 1:=Int.emod_lt_of_pos _ (by rw [lw];omega)
     obtain ⟨j,hj⟩:∃ j:Nat,1 + cell / 4 / 12 % ((((hdW b :: ws).map V.str).length:Nat) - 1)=((j + 1:Nat):Int):=⟨(cell / 4 / 12 % ((((hdW b :: ws).map V.str).length:Nat) - 1)).toNat,by omega⟩
     have jl:j < ws.length:=by rw [lw] at x1 hj;omega
     refine ⟨_,rfl,_,_,rfl,rfl,⟨by decide,by decide⟩,_,rfl,d,_,rfl,.inl (SqL.of h1),_,_,rfl,rfl,_,_,rfl,rfl,(by rw [lw];omega),_,_,rfl,rfl,?_⟩
     have hw:ws.getD j Str.empty∈ws:=J20 jl
     refine ⟨_,rfl,_,rfl,d,_,_,V.str (ws.getD j Str.empty),rfl,rfl,SqL.of h1,(by show atI _ (1 + cell / 4 / 12 % ((((hdW b :: ws).map V.str).length:Nat) - 1))=_;rw [hj];exact Ji (J3l (zs:=hdW b :: ws) (j:=j + 1) (by rw [List.length_cons];omega))),_,rfl,_,rfl,_,_,b,rfl,gw _ hw,fun y H2 s2 hy=>?_⟩
     refine ⟨_,rfl,_,rfl,d,_,_,j + 1,rfl,rfl,s2 _ _ h1,(by show ixN _ (1 + cell / 4 / 12 % ((((hdW b :: ws).map V.str).length:Nat) - 1))=_;rw [hj];exact J24 (by rw [lw];omega)),?_⟩
     have el:((hdW b :: ws).map V.str).set (j + 1) (V.str y)=(hdW b :: ws.set j y).map V.str:=by
      rw [List.map_cons,List.map_cons,List.set_cons_succ,List.map_set]
     refine ⟨none,_,hdW b :: ws.set j y,rfl,up _ _ (s1.trans s2),(by rw [J3,el]),Us.word (List.mem_set jl y) hy (fun u hu=>?_) (by rw [List.length_set];omega)⟩
     rcases List.mem_or_eq_of_mem_set hu with q | q
     ·exact .inr (gw u q)
     ·exact .inl q
  rintro σ H2 ⟨m,a,us,rfl,s2,h2,U⟩
  have sL:=J18 U.len
  have bL:us.length * 34≤27 * 34:=Nat.mul_le_mul_right _ U.n
  have un:=U.n
  refine ⟨rfl,_,rfl,Str.ofString " ",d,us,rfl,rfl,h2,(by decide +kernel),by omega,k _ _ s2 U.row⟩
end
end R09
namespace R09
open PySem L2 Rl
section
structure TxE (z:Str) (n:Nat):Prop where
 len:z.length≤100000
 rows:RowsE (Txt.split z nl1)
 at_:wrongN (Txt.split z nl1)=n
theorem J1i {p:Str} (h:p.length≤950):(Txt.split p sp1).length≤1000:=Nat.le_trans (PyProof.Rows.split_le p sp1) (by omega)
theorem J29 (a b:Str) (t:List Str):w1B (a :: b :: t)=!J1d a:=by
 unfold w1B
 rw [decide_eq_false (by rw [List.length_cons,List.length_cons];omega),Bool.false_or];rfl
theorem w2_two (a b:Str):w2B [a,b]=true:=rfl
theorem w1_one (a:Str):w1B [a]=true:=rfl
theorem J3k (a b c:Str) (t:List Str):w2B (a :: b :: c :: t)=!J17 b:=by
 unfold w2B
 rw [decide_eq_false (by rw [List.length_cons,List.length_cons,List.length_cons];omega),Bool.false_or];rfl
theorem w3_more (a b c d:Str) (t:List Str):w3B (a :: b :: c :: d :: t)=true:=by
 unfold w3B
 rw [decide_eq_true (by rw [List.length_cons,List.length_cons,List.length_cons,List.length_cons];omega),Bool.true_or]
theorem w3_last (a b c:Str) (h:c≠Str.ofString ""):w3B [a,b,c]=true:=by
 unfold w3B
 rw [show [a,b,c].getD 2 Str.empty=c from rfl,decide_eq_false h,Bool.not_false,Bool.or_true]
theorem TxE.one {z:Str} {zs:List Str} (hz:z.length≤100000) (e:Txt.split z nl1=zs) (hp:∀ p∈zs,p.length≤950) (h:w1B zs=true):TxE z 1:=by
 subst e
 refine ⟨hz,⟨fun p h=>Nat.le_trans (hp p h) (by decide),fun p h=>J1i (hp p h),.inl h⟩,?_⟩
 unfold wrongN
 rw [if_pos h]
theorem TxE.two {z:Str} {zs:List Str} (hz:z.length≤100000) (e:Txt.split z nl1=zs) (hp:∀ p∈zs,p.length≤950) (h1:w1B zs=false) (h:w2B zs=true):TxE z 2:=by
 subst e
 refine ⟨hz,⟨fun p h=>Nat.le_trans (hp p h) (by decide),fun p h=>J1i (hp p h),.inr (.inl h)⟩,?_⟩
 unfold wrongN
 rw [h1,if_neg Bool.false_ne_true,if_pos h]
theorem TxE.three {z:Str} {zs:List Str} (hz:z.length≤100000) (e:Txt.split z nl1=zs) (hp:∀ p∈zs,p.length≤950) (h1:w1B zs=false) (h2:w2B zs=false) (h:w3B zs=true):TxE z 3:=by
 subst e
 refine ⟨hz,⟨fun p h=>Nat.le_trans (hp p h) (by decide),fun p h=>J1i (hp p h),.inr (.inr h)⟩,?_⟩
 unfold wrongN
 rw [h1,h2,if_neg Bool.false_ne_true,if_neg Bool.false_ne_true]
theorem nl_row {r:Str} (h:10 ∉ r.cps.toList):Txt.split r nl1=[r]:=by rw [nl1_eq];exact J12 10 h
theorem J1b {r x:Str} (h:10 ∉ r.cps.toList):Txt.split (r ++ (nl1 ++ x)) nl1=r :: Txt.split x nl1:=by
 rw [Jt,nl1_eq,J1m,J12 10 h];rfl
theorem J3a {r:Str} (h:10 ∉ r.cps.toList):Txt.split (r ++ nl1) nl1=[r,Str.ofString ""]:=by
 have e:r ++ nl1=r ++ (nl1 ++ Str.ofString ""):=by rw [show nl1 ++ Str.ofString ""=nl1 by decide +kernel]
 rw [e,J1b h,nl_row (by decide +kernel)]
theorem J47 (x:Str):Txt.split (nl1 ++ x) nl1=Str.ofString "" :: Txt.split x nl1:=by
 have e:nl1 ++ x=Str.ofString "" ++ (nl1 ++ x):=Jy (by rw [J9 (Str.ofString "")];rfl)
 rw [e,J1b (by decide +kernel)]
theorem nlnl:Str.ofString "\n\n"=nl1 ++ nl1:=by decide +kernel
theorem Jx:(Str.ofString "").length≤950:=by decide +kernel
theorem J49:J1d (Str.ofString "")=false:=by decide +kernel
theorem J3t:J17 (Str.ofString "")=false:=by decide +kernel
section
variable {r0 r1:Str} {b0 b1:Bool}
theorem two_le (f0:RowF true r0 (!b0)) (f1:RowF false r1 (!b1)):r0.length≤950∧r1.length≤950∧nl1.length=1:=⟨f0.len,f1.len,by decide +kernel⟩
def firstOf (b0:Bool):Nat:=if b0=true then 1 else 2
theorem len0 (f0:RowF true r0 (!b0)):J1d r0=!b0:=f0.ok
theorem laid1 (f1:RowF false r1 (!b1)):J17 r1=!b1:=f1.ok
theorem J2a {z:Str} {a:Str} {t:List Str} (f0:RowF true r0 (!b0)) (hz:z.length≤100000) (e:Txt.split z nl1=r0 :: a :: t) (hp:∀ p∈a :: t,p.length≤950) (h2:b0=false→w2B (r0 :: a :: t)=true):TxE z (firstOf b0):=by
 have hp':∀ p∈r0 :: a :: t,p.length≤950:=fun p q=>(List.mem_cons.mp q).elim (fun e=>by rw [e];exact f0.len) (hp p)
 cases b0 with
 | true=>exact .one hz e hp' (by rw [J29,len0 f0];rfl)
 | false=>exact .two hz e hp' (by rw [J29,len0 f0];rfl) (h2 rfl)
theorem tx0 (f0:RowF true r0 (!b0)) (f1:RowF false r1 (!b1)) (h:b0=true∨b1=true):TxE (r0 ++ nl1 ++ (r1 ++ nl1)) (firstOf b0):=by
 obtain ⟨l0,l1,ln⟩:=two_le f0 f1
 refine J2a (a:=r1) (t:=[Str.ofString ""]) f0 (by simp only [strLen_append];omega) (by rw [← Jt,J1b f0.nl,J3a f1.nl]) (fun p hp=>?_) fun h0=>?_
 ·simp only [List.mem_cons,List.not_mem_nil,or_false] at hp
  rcases hp with rfl | rfl
  ·exact l1
  ·exact Jx
 ·rw [J3k,laid1 f1]
  rcases h with h | h
  ·rw [h] at h0;cases h0
  ·rw [h];rfl
theorem tx1 (f0:RowF true r0 (!b0)):TxE (r0 ++ nl1) (firstOf b0):=by
 have l0:=f0.len
 have ln:nl1.length=1:=by decide +kernel
 refine J2a (a:=Str.ofString "") (t:=[]) f0 (by simp only [strLen_append];omega) (J3a f0.nl) (fun p hp=>?_) fun h0=>w2_two _ _
 rw [List.mem_singleton.mp hp];exact Jx
theorem tx2 (f0:RowF true r0 (!b0)):TxE r0 1:=by
 have l0:=f0.len
 exact .one (by omega) (nl_row f0.nl) (fun p hp=>by rw [List.mem_singleton.mp hp];exact l0) (w1_one _)
theorem tx3 (f0:RowF true r0 (!b0)) (f1:RowF false r1 (!b1)):TxE (r0 ++ nl1 ++ r1) (firstOf b0):=by
 obtain ⟨l0,l1,ln⟩:=two_le f0 f1
 refine J2a (a:=r1) (t:=[]) f0 (by simp only [strLen_append];omega) (by rw [← Jt,J1b f0.nl,nl_row f1.nl]) (fun p hp=>?_) fun h0=>w2_two _ _
 rw [List.mem_singleton.mp hp];exact l1
structure Tail (x:Str):Prop where
 len:x.length≤1000
 ex:∃ c t,Txt.split x nl1=c :: t∧(∀ p∈c :: t,p.length≤950)∧(t≠[]∨c≠Str.ofString "")
theorem tx4 {x:Str} (f0:RowF true r0 (!b0)) (f1:RowF false r1 (!b1)) (hx:Tail x):TxE (r0 ++ nl1 ++ (r1 ++ nl1) ++ x) (if b0=false∧b1=false then 3 else firstOf b0):=by
 obtain ⟨l0,l1,ln⟩:=two_le f0 f1
 obtain ⟨lx,c,t,ex,hp,hc⟩:=hx
 have hz:(r0 ++ nl1 ++ (r1 ++ nl1) ++ x).length≤100000:=by simp only [strLen_append];omega
 have e:Txt.split (r0 ++ nl1 ++ (r1 ++ nl1) ++ x) nl1=r0 :: r1 :: c :: t:=by
  have e1:r0 ++ nl1 ++ (r1 ++ nl1) ++ x=r0 ++ (nl1 ++ (r1 ++ (nl1 ++ x))):=by simp only [Jt]
  rw [e1,J1b f0.nl,J1b f1.nl,ex]
 have hp1:∀ p∈r1 :: c :: t,p.length≤950:=fun p q=>(List.mem_cons.mp q).elim (fun e=>by rw [e];exact l1) (hp p)
 have hp2:∀ p∈r0 :: r1 :: c :: t,p.length≤950:=fun p q=>(List.mem_cons.mp q).elim (fun e=>by rw [e];exact l0) (hp1 p)
 by_cases h:b0=false∧b1=false
 ·rw [if_pos h]
  obtain ⟨rfl,rfl⟩:=h
  refine .three hz e hp2 (by rw [J29,len0 f0];rfl) (by rw [J3k,laid1 f1];rfl) ?_
  cases t with
  | nil =>
   rcases hc with q | q
   ·exact absurd rfl q
   ·exact w3_last _ _ _ q
  | cons y u=>exact w3_more _ _ _ _ _
 ·rw [if_neg h]
  refine J2a f0 hz e hp1 fun h0=>?_
  rw [J3k,laid1 f1]
  cases b1 with
  | true=>rfl
  | false=>exact absurd ⟨h0,rfl⟩ h
theorem tx5:TxE (Str.ofString "") 1 :=
 .one (by decide +kernel) (nl_row (by decide +kernel)) (fun p hp=>by rw [List.mem_singleton.mp hp];exact Jx) (w1_one _)
theorem tx6 (f0:RowF true r0 (!b0)) (f1:RowF false r1 (!b1)):TxE (r1 ++ nl1 ++ (r0 ++ nl1)) 1:=by
 obtain ⟨l0,l1,ln⟩:=two_le f0 f1
 refine .one (zs:=[r1,r0,Str.ofString ""]) (by simp only [strLen_append];omega) (by rw [← Jt,J1b f1.nl,J3a f0.nl]) (fun p hp=>?_) (by rw [J29,f1.no rfl];rfl)
 simp only [List.mem_cons,List.not_mem_nil,or_false] at hp
 rcases hp with rfl | rfl | rfl
 ·exact l1
 ·exact l0
 ·exact Jx
theorem tx7 (f0:RowF true r0 (!b0)) (f1:RowF false r1 (!b1)):TxE (nl1 ++ (r0 ++ nl1) ++ (r1 ++ nl1)) 1:=by
 obtain ⟨l0,l1,ln⟩:=two_le f0 f1
 refine .one (zs:=[Str.ofString "",r0,r1,Str.ofString ""]) (by simp only [strLen_append];omega) ?_ (fun p hp=>?_) (by rw [J29,J49];rfl)
 ·have e1:nl1 ++ (r0 ++ nl1) ++ (r1 ++ nl1)=nl1 ++ (r0 ++ (nl1 ++ (r1 ++ nl1))):=by simp only [Jt]
  rw [e1,J47,J1b f0.nl,J3a f1.nl]
 simp only [List.mem_cons,List.not_mem_nil,or_false] at hp
 rcases hp with rfl | rfl | rfl | rfl
 ·exact Jx
 ·exact l0
 ·exact l1
 ·exact Jx
theorem tx8 (f0:RowF true r0 (!b0)) (f1:RowF false r1 (!b1)):TxE (r0 ++ nl1 ++ nl1 ++ (r1 ++ nl1)) (firstOf b0):=by
 obtain ⟨l0,l1,ln⟩:=two_le f0 f1
 refine J2a (a:=Str.ofString "") (t:=[r1,Str.ofString ""]) f0 (by simp only [strLen_append];omega) ?_ (fun p hp=>?_) fun h0=>by rw [J3k,J3t];rfl
 ·have e1:r0 ++ nl1 ++ nl1 ++ (r1 ++ nl1)=r0 ++ (nl1 ++ (nl1 ++ (r1 ++ nl1))):=by simp only [Jt]
  rw [e1,J1b f0.nl,J47,J3a f1.nl]
 simp only [List.mem_cons,List.not_mem_nil,or_false] at hp
 rcases hp with rfl | rfl | rfl
 ·exact Jx
 ·exact l1
 ·exact Jx
theorem Tail.row {r:Str} (h:10 ∉ r.cps.toList) (l:r.length≤950):Tail (r ++ nl1):=by
 have ln:nl1.length=1:=by decide +kernel
 refine ⟨by rw [strLen_append];omega,r,[Str.ofString ""],J3a h,fun p hp=>?_,.inl (List.cons_ne_nil _ _)⟩
 simp only [List.mem_cons,List.not_mem_nil,or_false] at hp
 rcases hp with rfl | rfl
 ·exact l
 ·exact Jx
theorem Tail.sign {c:Nat} (h:c≠10):Tail ⟨#[c]⟩:=by
 refine ⟨by show 1≤1000;decide,⟨#[c]⟩,[],nl_row (fun q=>h (List.mem_singleton.mp q).symm),fun p hp=>by rw [List.mem_singleton.mp hp];show 1≤950;decide,.inr fun q=>?_⟩
 have:=congrArg Str.length q
 exact absurd this (by rw [show (Str.ofString "").length=0 by decide +kernel];show ¬ 1=0;decide)
theorem Tail.nl:Tail nl1:=by
 have e:nl1=Str.ofString "" ++ nl1:=by decide +kernel
 rw [e]
 exact Tail.row (by decide +kernel) Jx
theorem Tail.nl2:Tail (Str.ofString "\n\n"):=by
 rw [nlnl]
 refine ⟨by decide +kernel,Str.ofString "",[Str.ofString "",Str.ofString ""],?_,fun p hp=>?_,.inl (List.cons_ne_nil _ _)⟩
 ·have e:nl1=Str.ofString "" ++ nl1:=by decide +kernel
  have e2:Txt.split nl1 nl1=[Str.ofString "",Str.ofString ""]:=by
   conv=>lhs;arg 1;rw [e]
   exact J3a (by decide +kernel)
  rw [J47,e2]
 simp only [List.mem_cons,List.not_mem_nil,or_false] at hp
 rcases hp with rfl | rfl | rfl <;> exact Jx
end
theorem big_signs:(Str.ofString "1" ++ Txt.mul (Str.ofString "0") 4400).cps.toList=49 :: List.replicate 4400 48:=by
 rw [J9,J3j,show ((4400:Int))=((4400:Nat):Int) from rfl,mul_signs,show (Str.ofString "1")=⟨#[49]⟩ by decide +kernel];rfl
def bigS:Str:=Str.ofString "1" ++ Txt.mul (Str.ofString "0") 4400
theorem big_len:bigS.length=4401:=by
 have:bigS.cps.toList.length=bigS.length:=Array.length_toList
 rw [← this]
 unfold bigS
 rw [big_signs,List.length_cons,List.length_replicate]
theorem J3i {c:Nat} (h:c < 48):c ∉ bigS.cps.toList:=by
 unfold bigS
 rw [big_signs]
 intro q
 rcases List.mem_cons.mp q with q | q
 ·omega
 ·have:=List.eq_of_mem_replicate q
  omega
theorem numB_big {z:Str} (h:31 < z.length):numB z=false:=by
 unfold numB
 by_cases c:z=Str.ofString ""
 ·rw [if_pos c]
 ·rw [if_neg c,if_pos h]
theorem pieces1:Str.ofString "pieces 1"=Str.ofString "pieces" ++ (sp1 ++ Str.ofString "1"):=by decide +kernel
theorem nl_laid:Str.ofString "\nlaid 0\n"=nl1 ++ (Str.ofString "laid 0" ++ nl1):=by decide +kernel
theorem pieces_nl:Str.ofString "pieces 1\nlaid 1"=Str.ofString "pieces 1" ++ (nl1 ++ (Str.ofString "laid" ++ (sp1 ++ Str.ofString "1"))):=by decide +kernel
theorem dash_nl:Str.ofString "-\n"=Str.ofString "-" ++ nl1:=by decide +kernel
theorem big_row {a x:Str} (ha:32 ∉ a.cps.toList) (hx:32 ∉ x.cps.toList):Txt.split (a ++ (sp1 ++ x)) sp1=[a,x]:=by
 rw [Jt,J33,J1m,J12 32 ha,J12 32 hx];rfl
theorem J21 {c:Nat} {a b:Str} (ha:c ∉ a.cps.toList) (hb:c ∉ b.cps.toList):c ∉ (a ++ b).cps.toList:=fun q=>by
 rw [J9] at q
 exact (List.mem_append.mp q).elim ha hb
theorem txBig1:TxE (Str.ofString "pieces 1" ++ Txt.mul (Str.ofString "0") 4400 ++ Str.ofString "\nlaid 0\n") 1:=by
 have e:Str.ofString "pieces 1" ++ Txt.mul (Str.ofString "0") 4400 ++ Str.ofString "\nlaid 0\n"=(Str.ofString "pieces" ++ (sp1 ++ bigS)) ++ (nl1 ++ (Str.ofString "laid 0" ++ nl1)):=by
  rw [pieces1,nl_laid]
  unfold bigS
  simp only [Jt]
 have f32:=J3i (c:=32) (by decide)
 have f10:=J3i (c:=10) (by decide)
 have s1:Txt.split (Str.ofString "pieces" ++ (sp1 ++ bigS)) sp1=[Str.ofString "pieces",bigS]:=big_row pieces_free.1 f32
 have n1:10 ∉ (Str.ofString "pieces" ++ (sp1 ++ bigS)).cps.toList:=J21 pieces_free.2 (J21 (by decide +kernel) f10)
 have es:Txt.split ((Str.ofString "pieces" ++ (sp1 ++ bigS)) ++ (nl1 ++ (Str.ofString "laid 0" ++ nl1))) nl1=[Str.ofString "pieces" ++ (sp1 ++ bigS),Str.ofString "laid 0",Str.ofString ""]:=by
  rw [J1b n1,J3a (by decide +kernel)]
 have bl:=big_len
 have c1:(Str.ofString "pieces").length=6:=by decide +kernel
 have c2:sp1.length=1:=by decide +kernel
 have c3:(Str.ofString "laid 0").length=6:=by decide +kernel
 have c4:nl1.length=1:=by decide +kernel
 have c5:(Str.ofString "").length=0:=by decide +kernel
 have hw:w1B [Str.ofString "pieces" ++ (sp1 ++ bigS),Str.ofString "laid 0",Str.ofString ""]=true:=by
  rw [J29]
  unfold J1d
  rw [s1]
  show (!(_ && ([bigS]).all numB))=true
  rw [List.all_cons,numB_big (by omega),Bool.false_and,Bool.and_false];rfl
 rw [e]
 refine ⟨by simp only [strLen_append];omega,?_,?_⟩
 ·rw [es]
  refine ⟨fun p hp=>?_,fun p hp=>?_,.inl hw⟩
  ·simp only [List.mem_cons,List.not_mem_nil,or_false] at hp
   rcases hp with rfl | rfl | rfl
   ·simp only [strLen_append];omega
   ·omega
   ·omega
  ·simp only [List.mem_cons,List.not_mem_nil,or_false] at hp
   rcases hp with rfl | rfl | rfl
   ·rw [s1];decide
   ·exact J1i (by omega)
   ·exact J1i (by omega)
 ·rw [es]
  unfold wrongN
  rw [if_pos hw]
theorem txBig2:TxE (Str.ofString "pieces 1\nlaid 1" ++ Txt.mul (Str.ofString "0") 4400 ++ Str.ofString "-\n") 2:=by
 have e:Str.ofString "pieces 1\nlaid 1" ++ Txt.mul (Str.ofString "0") 4400 ++ Str.ofString "-\n"=Str.ofString "pieces 1" ++ (nl1 ++ ((Str.ofString "laid" ++ (sp1 ++ (bigS ++ Str.ofString "-"))) ++ nl1)):=by
  rw [pieces_nl,dash_nl]
  unfold bigS
  simp only [Jt]
 have f32:32 ∉ (bigS ++ Str.ofString "-").cps.toList:=J21 (J3i (c:=32) (by decide)) (by decide +kernel)
 have f10:10 ∉ (bigS ++ Str.ofString "-").cps.toList:=J21 (J3i (c:=10) (by decide)) (by decide +kernel)
 have s1:Txt.split (Str.ofString "laid" ++ (sp1 ++ (bigS ++ Str.ofString "-"))) sp1=[Str.ofString "laid",bigS ++ Str.ofString "-"]:=big_row laid_free.1 f32
 have n1:10 ∉ (Str.ofString "laid" ++ (sp1 ++ (bigS ++ Str.ofString "-"))).cps.toList:=J21 laid_free.2 (J21 (by decide +kernel) f10)
 have es:Txt.split (Str.ofString "pieces 1" ++ (nl1 ++ ((Str.ofString "laid" ++ (sp1 ++ (bigS ++ Str.ofString "-"))) ++ nl1))) nl1=[Str.ofString "pieces 1",Str.ofString "laid" ++ (sp1 ++ (bigS ++ Str.ofString "-")),Str.ofString ""]:=by
  rw [J1b (by decide +kernel),J3a n1]
 have bl:=big_len
 have c0:(Str.ofString "-").length=1:=by decide +kernel
 have c1:(Str.ofString "pieces 1").length=8:=by decide +kernel
 have c2:sp1.length=1:=by decide +kernel
 have c3:(Str.ofString "laid").length=4:=by decide +kernel
 have c4:nl1.length=1:=by decide +kernel
 have c5:(Str.ofString "").length=0:=by decide +kernel
 have h1:w1B [Str.ofString "pieces 1",Str.ofString "laid" ++ (sp1 ++ (bigS ++ Str.ofString "-")),Str.ofString ""]=false:=by
  rw [J29,show J1d (Str.ofString "pieces 1")=true by decide +kernel];rfl
 have hw:w2B [Str.ofString "pieces 1",Str.ofString "laid" ++ (sp1 ++ (bigS ++ Str.ofString "-")),Str.ofString ""]=true:=by
  rw [J3k]
  unfold J17
  rw [s1]
  show (!(_ && ([bigS ++ Str.ofString "-"]).all fun y=>numB (noT y)))=true
  rw [List.all_cons,J46,numB_big (by omega),Bool.false_and,Bool.and_false];rfl
 rw [e]
 refine ⟨by simp only [strLen_append];omega,?_,?_⟩
 ·rw [es]
  refine ⟨fun p hp=>?_,fun p hp=>?_,.inr (.inl hw)⟩
  ·simp only [List.mem_cons,List.not_mem_nil,or_false] at hp
   rcases hp with rfl | rfl | rfl
   ·omega
   ·simp only [strLen_append];omega
   ·omega
  ·simp only [List.mem_cons,List.not_mem_nil,or_false] at hp
   rcases hp with rfl | rfl | rfl
   ·exact J1i (by omega)
   ·rw [s1];decide
   ·exact J1i (by omega)
 ·rw [es]
  unfold wrongN
  rw [h1,if_neg Bool.false_ne_true,if_pos hw]
theorem ones0:Rw true (Str.ofString "pieces" ++ Txt.mul (Str.ofString " 1") 0) []:=⟨by decide +kernel,fun w hw=>(List.not_mem_nil hw).elim,by decide⟩
theorem ones25:Rw true (Str.ofString "pieces" ++ Txt.mul (Str.ofString " 1") 25) (List.replicate 25 (Str.ofString "1")) :=
 ⟨by decide +kernel,fun w hw=>by rw [List.eq_of_mem_replicate hw];exact ⟨1,false,by decide,by decide,by decide +kernel,fun _=>rfl⟩,by decide⟩
end
end R09
namespace R09
open PySem L2 Rl
section
variable {P:Program} {w:World} {K:PySem.W.Frag} {mg:Str→Option Value} {base:Heap}
def spTextL:Sp:=fun vs H Q _=>∃ (p q:Addr) (r0 r1:Str) (b0 b1:Bool) (mk:Nat) (cell:Int),vs=[.ref p,.int mk,.ref q,.int cell]∧H p=some (.lst [.str r0,.str r1])∧H q=some (.lst [.bl b0,.bl b1])∧RowF true r0 (!b0)∧RowF false r1 (!b1)∧mk≤8∧(mk=0→b0=true∨b1=true)∧
 ∀ a z (n:Nat) H',Same H H'→H' a=some (.tup [.str z,.int n])→TxE z n→Q (.ref a) H'
theorem scTextL:FnScope ["rows","make","wrong","cell","one","two","first"] ["rows","make","wrong","cell"] (J7 sTextL):=⟨rfl,rfl,rfl,by decide +kernel,rfl,by decide +kernel,by decide +kernel⟩
theorem ok_textL {f fSG :Addr} {fd fdSG:FuncData}  (F:Fun K "_law_text" "_law_text" sTextL f fd)
  (GSG:FnOk P w K mg base CX0 1 fSG fdSG ["cell"] spSign) (bSG:Binds K fdSG ["cell"] []) (mSG:mg "_law_sign"=some (.ref fSG)) (kSG:PySem.W.keepIn K (.ref fSG)=true) :
  FnOk P w K mg base CX0 2 f fd ["rows","make","wrong","cell"] spTextL:=by
 refine F.ok scTextL (fun vs H Q E h=>?_) (fun cdv A outer s H vs Q E hr h=>?_)
 ·obtain ⟨p,q,r0,r1,b0,b1,mk,cell,rfl,_⟩:=h
  rfl
 ·obtain ⟨p,q,r0,r1,b0,b1,mk,cell,rfl,hp,hq,f0,f1,hm8,hm,k⟩:=h
  have hr1:Room 1 _:=hr.mono (by decide)
  refine ⟨_,(J2 (Jp (i:=4) scTextL.nd rfl (Or.inl rfl) (pe_op J6 (pe_ix Jj (pv 0) J1 (fun _ _=>rfl)) Je))
   (J2 (Jp (i:=5) scTextL.nd rfl (Or.inl rfl) (pe_op J6 (pe_ix Jj (pv 0) J1 (fun _ _=>rfl)) Je))
   (J2 (Jp (i:=6) scTextL.nd rfl (Or.inl rfl) J1)
   (J2 (J2k (ps_if (J2i (pe_ix Jj (pv 2) J1 (fun _ _=>rfl))) (J8 (Jp (i:=6) scTextL.nd rfl (Or.inl rfl) J1)) Jm))
   (J2 (ps_if (Jk op_eq (pv 1) J1 (Jn _)) (J8 (Jz (J25 (J0 (pv 4) (J0 (pv 6) J4))))) Jm)
   (J2 (ps_if (Jk op_eq (pv 1) J1 (Jn _)) (J8 (Jz (J25 (J0 (pe_ix Jj (pv 0) J1 (fun _ _=>rfl)) (J0 J1 J4))))) Jm)
   (J2 (ps_if (Jk op_eq (pv 1) J1 (Jn _)) (J8 (Jz (J25 (J0 (pe_op J6 (pv 4) (pe_ix Jj (pv 0) J1 (fun _ _=>rfl))) (J0 (pv 6) J4))))) Jm)
   (J2 (ps_if (Jk op_eq (pv 1) J1 (Jn _)) (J2 (J2k (ps_if (PW.pt (pw_and (J40 (J2i (pe_ix Jj (pv 2) J1 (fun _ _=>rfl)))) (pw_and1 (J40 (J2i (pe_ix Jj (pv 2) J1 (fun _ _=>rfl))))))) (J8 (Jp (i:=6) scTextL.nd rfl (Or.inl rfl) J1)) Jm))
    (J8 (Jz (J25 (J0 (pe_op J6 (pe_op J6 (pv 4) (pv 5)) (pe_ix Jj (J1z (J0 Je (J0 (pv 5) (J0 (pv 4) (J0 Je (J0 (Jr GSG hr1 rfl mSG kSG bSG .nil pass0 (J0 (pv 3) J4)) (J0 Je J4))))))) (pe_op J11 (pv 3) J1) (fun _ _=>rfl))) (J0 (pv 6) J4)))))) Jm)
   (J2 (ps_if (Jk op_eq (pv 1) J1 (Jn _)) (J8 (Jz (J25 (J0 Je (J0 J1 J4))))) Jm)
   (J2 (ps_if (Jk op_eq (pv 1) J1 (Jn _)) (J8 (Jz (J25 (J0 (pe_op J6 (pv 5) (pv 4)) (J0 J1 J4))))) Jm)
   (J2 (ps_if (Jk op_eq (pv 1) J1 (Jn _)) (J8 (Jz (J25 (J0 (pe_op J6 (pe_op J6 Je (pv 4)) (pv 5)) (J0 J1 J4))))) Jm)
   (J2 (ps_if (Jk op_eq (pv 1) J1 (Jn _)) (J8 (Jz (J25 (J0 (pe_op J6 (pe_op J6 (pv 4) Je) (pv 5)) (J0 (pv 6) J4))))) Jm)
   (J8 (Jz (J25 (J0 (pe_op J6 (pv 4) (pv 5)) (J0 (pv 6) J4))))))))))))))))),?_⟩
  have l0:=f0.len
  have l1:=f1.len
  have ln:nl1.length=1:=by decide +kernel
  have la:∀ x y:Str,x.length≤10000→y.length≤10000→x.length + y.length≤sizeLine:=fun x y h1 h2=>by rw [sizeLine_eq];omega
  have z2:2≤sizeLine:=by rw [sizeLine_eq];decide
  have lo:(r0 ++ nl1).length≤10000:=by rw [strLen_append,ln];omega
  have lt:(r1 ++ nl1).length≤10000:=by rw [strLen_append,ln];omega
  have lot:(r0 ++ nl1 ++ (r1 ++ nl1)).length≤10000:=by simp only [strLen_append,ln];omega
  have l0':r0.length≤10000:=by omega
  have l1':r1.length≤10000:=by omega
  have ln':nl1.length≤10000:=by rw [ln];decide
  refine ⟨_,rfl,p,_,_,_,rfl,rfl,SqL.of hp,Ji (j:=0) rfl,_,_,rfl,rfl,la _ _ l0' ln',?_⟩
  refine ⟨_,rfl,p,_,_,_,rfl,rfl,SqL.of hp,Ji (j:=1) rfl,_,_,rfl,rfl,la _ _ l1' ln',?_⟩
  refine ⟨fun σ' H'=>σ'=[some (.ref p),some (.int mk),some (.ref q),some (.int cell),some (.str (r0 ++ nl1)),some (.str (r1 ++ nl1)),some (.int (firstOf b0:Nat))]∧H=H',?_,?_⟩
  ·refine ⟨_,rfl,q,_,_,_,rfl,rfl,SqL.of hq,Ji (j:=0) rfl,_,rfl,?_⟩
   cases b0 with
   | true=>exact iteT ⟨rfl,rfl⟩
   | false=>exact iteF ⟨rfl,rfl⟩
  rintro σ _ ⟨rfl,rfl⟩
  have fin:∀ (z:Str) (n:Nat) (Hx:Hp) (a:Addr),Same H Hx→Hx a=none→TxE z n→Q (.ref a) (upd Hx a (.tup [.str z,.int n])):=fun z n Hx a s h T=>k a z n _ (s.trans (Jc h)) J3 T
  have ms:mk=0∨mk=1∨mk=2∨mk=3∨mk=4∨mk=5∨mk=6∨mk=7∨mk=8:=by omega
  rcases ms with rfl | rfl | rfl | rfl | rfl | rfl | rfl | rfl | rfl
  ·refine ⟨_,rfl,rfl,_,rfl,iteD (Jg (by decide)) ?_⟩
   refine ⟨_,rfl,rfl,_,rfl,iteD (Jg (by decide)) ?_⟩
   refine ⟨_,rfl,rfl,_,rfl,iteD (Jg (by decide)) ?_⟩
   refine ⟨_,rfl,rfl,_,rfl,iteD (Jg (by decide)) ?_⟩
   refine ⟨_,rfl,rfl,_,rfl,iteD (Jg (by decide)) ?_⟩
   refine ⟨_,rfl,rfl,_,rfl,iteD (Jg (by decide)) ?_⟩
   refine ⟨_,rfl,rfl,_,rfl,iteD (Jg (by decide)) ?_⟩
   refine ⟨_,rfl,rfl,_,rfl,iteD (Jg (by decide)) ?_⟩
   exact ⟨_,rfl,_,rfl,_,_,rfl,rfl,la _ _ lo lt,_,rfl,z2,fun a ha=>fin _ _ H a (Same.refl _) ha (tx0 f0 f1 (hm rfl))⟩
  ·refine ⟨_,rfl,rfl,_,rfl,iteDT rfl ?_⟩
   exact ⟨_,rfl,_,rfl,z2,fun a ha=>fin _ _ H a (Same.refl _) ha (tx1 f0)⟩
  ·refine ⟨_,rfl,rfl,_,rfl,iteD (Jg (by decide)) ?_⟩
   refine ⟨_,rfl,rfl,_,rfl,iteDT rfl ?_⟩
   exact ⟨_,rfl,p,_,_,_,rfl,rfl,SqL.of hp,Ji (j:=0) rfl,z2,fun a ha=>fin _ 1 H a (Same.refl _) ha (tx2 f0)⟩
  ·refine ⟨_,rfl,rfl,_,rfl,iteD (Jg (by decide)) ?_⟩
   refine ⟨_,rfl,rfl,_,rfl,iteD (Jg (by decide)) ?_⟩
   refine ⟨_,rfl,rfl,_,rfl,iteDT rfl ?_⟩
   exact ⟨_,rfl,_,rfl,p,_,_,_,rfl,rfl,SqL.of hp,Ji (j:=1) rfl,_,_,rfl,rfl,la _ _ lo l1',_,rfl,z2,fun a ha=>fin _ _ H a (Same.refl _) ha (tx3 f0 f1)⟩
  ·refine ⟨_,rfl,rfl,_,rfl,iteD (Jg (by decide)) ?_⟩
   refine ⟨_,rfl,rfl,_,rfl,iteD (Jg (by decide)) ?_⟩
   refine ⟨_,rfl,rfl,_,rfl,iteD (Jg (by decide)) ?_⟩
   refine ⟨_,rfl,rfl,_,rfl,iteDT rfl ?_⟩
   refine ⟨fun σ' H'=>σ'=[some (.ref p),some (.int (4:Nat)),some (.ref q),some (.int cell),some (.str (r0 ++ nl1)),some (.str (r1 ++ nl1)),some (.int ((if b0=false∧b1=false then 3 else firstOf b0:Nat):Int))]∧H=H',?_,?_⟩
   ·refine ⟨_,rfl,q,_,_,_,rfl,rfl,SqL.of hq,Ji (j:=0) rfl,_,rfl,?_⟩
    cases b0 with
    | true=>exact iteF (iteF ⟨rfl,rfl⟩)
    | false =>
     refine iteT ⟨_,rfl,q,_,_,_,rfl,rfl,SqL.of hq,Ji (j:=1) rfl,_,rfl,?_⟩
     cases b1 with
     | true=>exact iteF ⟨rfl,rfl⟩
     | false=>exact iteT ⟨rfl,rfl⟩
   rintro σ _ ⟨rfl,rfl⟩
   have x0:0≤cell % 6:=Int.emod_nonneg _ (by decide)
   have x1:cell % 6 < 6:=Int.emod_lt_of_pos _ (by decide)
   refine ⟨_,rfl,_,rfl,_,_,rfl,rfl,la _ _ lo lt,_,rfl,_,rfl,_,rfl,_,rfl,fun c hc=>⟨(by show 6≤sizeLine;decide),fun m hm'=>?_⟩⟩
   have pick:∃ x,atI [V.str nl1,V.str (r1 ++ nl1),V.str (r0 ++ nl1),V.str (Str.ofString " "),V.str ⟨#[c]⟩,V.str (Str.ofString "\n\n")] (cell % 6)=some (V.str x)∧Tail x:=by
    have cs:cell % 6=0∨cell % 6=1∨cell % 6=2∨cell % 6=3∨cell % 6=4∨cell % 6=5:=by omega
    rcases cs with e | e | e | e | e | e
    ·rw [e];exact ⟨_,rfl,Tail.nl⟩
    ·rw [e];exact ⟨_,rfl,Tail.row f1.nl l1⟩
    ·rw [e];exact ⟨_,rfl,Tail.row f0.nl l0⟩
    ·rw [e];exact ⟨_,rfl,by rw [show Str.ofString " "=⟨#[32]⟩ from J33];exact Tail.sign (by decide)⟩
    ·rw [e];exact ⟨_,rfl,Tail.sign (sign_ok c hc).2.2.2⟩
    ·rw [e];exact ⟨_,rfl,Tail.nl2⟩
   obtain ⟨x,hat,hx⟩:=pick
   have lx:=hx.len
   exact ⟨_,rfl,_,_,rfl,rfl,(by show (0:Int) < 6;decide),m,_,_,_,rfl,rfl,SqL.of J3,hat,_,_,rfl,rfl,la _ _ lot (by omega),_,rfl,z2,fun a ha=>fin _ _ _ a (Jc hm') ha (tx4 f0 f1 hx)⟩
  ·refine ⟨_,rfl,rfl,_,rfl,iteD (Jg (by decide)) ?_⟩
   refine ⟨_,rfl,rfl,_,rfl,iteD (Jg (by decide)) ?_⟩
   refine ⟨_,rfl,rfl,_,rfl,iteD (Jg (by decide)) ?_⟩
   refine ⟨_,rfl,rfl,_,rfl,iteD (Jg (by decide)) ?_⟩
   refine ⟨_,rfl,rfl,_,rfl,iteDT rfl ?_⟩
   exact ⟨z2,fun a ha=>fin _ 1 H a (Same.refl _) ha tx5⟩
  ·refine ⟨_,rfl,rfl,_,rfl,iteD (Jg (by decide)) ?_⟩
   refine ⟨_,rfl,rfl,_,rfl,iteD (Jg (by decide)) ?_⟩
   refine ⟨_,rfl,rfl,_,rfl,iteD (Jg (by decide)) ?_⟩
   refine ⟨_,rfl,rfl,_,rfl,iteD (Jg (by decide)) ?_⟩
   refine ⟨_,rfl,rfl,_,rfl,iteD (Jg (by decide)) ?_⟩
   refine ⟨_,rfl,rfl,_,rfl,iteDT rfl ?_⟩
   exact ⟨_,rfl,_,rfl,_,_,rfl,rfl,la _ _ lt lo,z2,fun a ha=>fin _ 1 H a (Same.refl _) ha (tx6 f0 f1)⟩
  ·refine ⟨_,rfl,rfl,_,rfl,iteD (Jg (by decide)) ?_⟩
   refine ⟨_,rfl,rfl,_,rfl,iteD (Jg (by decide)) ?_⟩
   refine ⟨_,rfl,rfl,_,rfl,iteD (Jg (by decide)) ?_⟩
   refine ⟨_,rfl,rfl,_,rfl,iteD (Jg (by decide)) ?_⟩
   refine ⟨_,rfl,rfl,_,rfl,iteD (Jg (by decide)) ?_⟩
   refine ⟨_,rfl,rfl,_,rfl,iteD (Jg (by decide)) ?_⟩
   refine ⟨_,rfl,rfl,_,rfl,iteDT rfl ?_⟩
   exact ⟨_,rfl,_,_,rfl,rfl,la _ _ ln' lo,_,rfl,_,_,rfl,rfl,la _ _ (by simp only [strLen_append,ln];omega) lt,z2,fun a ha=>fin _ 1 H a (Same.refl _) ha (tx7 f0 f1)⟩
  ·refine ⟨_,rfl,rfl,_,rfl,iteD (Jg (by decide)) ?_⟩
   refine ⟨_,rfl,rfl,_,rfl,iteD (Jg (by decide)) ?_⟩
   refine ⟨_,rfl,rfl,_,rfl,iteD (Jg (by decide)) ?_⟩
   refine ⟨_,rfl,rfl,_,rfl,iteD (Jg (by decide)) ?_⟩
   refine ⟨_,rfl,rfl,_,rfl,iteD (Jg (by decide)) ?_⟩
   refine ⟨_,rfl,rfl,_,rfl,iteD (Jg (by decide)) ?_⟩
   refine ⟨_,rfl,rfl,_,rfl,iteD (Jg (by decide)) ?_⟩
   refine ⟨_,rfl,rfl,_,rfl,iteDT rfl ?_⟩
   exact ⟨_,rfl,_,_,rfl,rfl,la _ _ lo ln',_,rfl,_,_,rfl,rfl,la _ _ (by simp only [strLen_append,ln];omega) lt,_,rfl,z2,fun a ha=>fin _ _ H a (Same.refl _) ha (tx8 f0 f1)⟩
end
end R09
namespace R09
open PySem L2 Rl
section
variable {P:Program} {w:World} {K:PySem.W.Frag} {mg:Str→Option Value} {base:Heap}
def spCell (K:PySem.W.Frag):Sp:=fun vs H Q _=>∃ (a:Addr) (ns:List Int) (j:Nat),vs=[.ref a,.int j]∧SqL K H a (iV ns)∧Q (.int (cellN ns j)) H
theorem scCell:FnScope ["script","k"] ["script","k"] (J7 sCell):=⟨rfl,rfl,rfl,by decide +kernel,rfl,by decide +kernel,by decide +kernel⟩
theorem ok_cell {f:Addr} {fd:FuncData} (F:Fun K "_law_cell" "_law_cell" sCell f fd) (T:TxtR mg):FnOk P w K mg base CX0 1 f fd ["script","k"] (spCell K):=by
 refine F.ok scCell (fun vs H Q E h=>?_) (fun cdv A outer s H vs Q E hr h=>?_)
 ·obtain ⟨a,ns,j,rfl,_⟩:=h
  rfl
 ·obtain ⟨a,ns,j,rfl,hS,k⟩:=h
  refine ⟨_,J2 (ps_if (Jk op_lt (pv 1) (Jb Jo (by rfl) T.len PySem.boot_len (J0 (pv 0) J4)) (Jn _)) (J8 (Jz (pe_ix Jj (pv 0) (pv 1) (fun _ _=>rfl)))) Jm) (J8 (Jz J1)),?_⟩
  refine ⟨_,rfl,_,rfl,a,_,rfl,.inl hS,_,_,rfl,rfl,_,rfl,?_⟩
  have hl:(iV ns).length=ns.length:=List.length_map ..
  by_cases hj:j < ns.length
  ·refine iteDT (by rw [hl];omega) ?_
   exact ⟨_,rfl,_,rfl,a,_,_,_,rfl,rfl,hS,Ji (iV_get hj),k⟩
  ·refine iteD (by rw [hl];omega) ?_
   have e:cellN ns j=0:=by
    unfold cellN
    rw [List.getD_eq_getElem?_getD,List.getElem?_eq_none (by omega)];rfl
   rw [e] at k
   exact k
end
section
def bitsN (ns:List Int):Int:=cellN ns 1 % (1 * 2 ^ (24:Int).toNat)
def turnB (ns:List Int) (k:Nat):Bool:=decide (V.int (Builtin.bitAnd (bitsN ns / 2 ^ k) 1)=V.int 1)
def drawT (ns:List Int) (many:Nat):List Bool:=(List.range many).map (turnB ns)
theorem drawT_len (ns:List Int) (many:Nat):(drawT ns many).length=many:=by simp [drawT]
structure DrawnAt (H:Hp) (p:Addr) (ls:List Int) (os:List Nat) (ts:List Bool):Prop where
 ex:∃ l o t:Addr,H p=some (.tup [.ref l,.ref o,.ref t])∧H l=some (.lst (iV ls))∧H o=some (.lst (nV os))∧H t=some (.lst (bV ts))
theorem DrawnAt.same {H H':Hp} {p:Addr} {ls:List Int} {os:List Nat} {ts:List Bool} (h:DrawnAt H p ls os ts) (s:Same H H'):DrawnAt H' p ls os ts:=by
 obtain ⟨l,o,t,h0,h1,h2,h3⟩:=h.ex
 exact ⟨l,o,t,s _ _ h0,s _ _ h1,s _ _ h2,s _ _ h3⟩
theorem insV (os:List Nat) (i y:Nat):(nV os).take i ++ V.int (y:Int) :: (nV os).drop i=nV (insAt os i y):=by
 show ((os.map fun (n:Nat)=>(n:Int)).map V.int).take i ++ V.int (y:Int) :: ((os.map fun (n:Nat)=>(n:Int)).map V.int).drop i=((insAt os i y).map fun (n:Nat)=>(n:Int)).map V.int
 unfold insAt
 simp only [List.map_append,List.map_cons,List.map_take,List.map_drop]
end
section
variable {P:Program} {w:World} {K:PySem.W.Frag} {mg:Str→Option Value} {base:Heap}
theorem J2q (ns:List Int) (m j:Nat):cellN (ns.drop m) j=cellN ns (m + j):=by
 unfold cellN
 rw [List.getD_eq_getElem?_getD,List.getD_eq_getElem?_getD,List.getElem?_drop]
def spDrawnF (K:PySem.W.Frag):Sp:=fun vs H Q _=>∃ (a:Addr) (ns:List Int) (m many:Nat) (top:Int),vs=[.ref a,.int ((m + 1:Nat):Int),.int many,.int top]∧SqL K H a (iV ns)∧1≤many∧many≤24∧0 < top∧
 ∀ p l o t H',Same H H'→H l=none→o≠l→t≠l→H' p=some (.tup [.ref l,.ref o,.ref t])→H' l=some (.lst (iV (drawL (ns.drop m) many top)))→H' o=some (.lst (nV (drawO (ns.drop m) many many)))→H' t=some (.lst (bV (drawT (ns.drop m) many)))→Q (.ref p) H'
theorem scDrawnF:FnScope ["script","at","many","top","lengths","order","k","bits"] ["script","at","many","top"] (J7 sDrawn):=⟨rfl,rfl,rfl,by decide +kernel,rfl,by decide +kernel,by decide +kernel⟩
theorem ok_drawnF {f fc:Addr} {fd fdc:FuncData} (F:Fun K "_law_drawn" "_law_drawn" sDrawn f fd) (T:TxtR mg) (GC:FnOk P w K mg base CX0 1 fc fdc ["script","k"] (spCell K)) (bC:Binds K fdc ["script","k"] []) (mC:mg "_law_cell"=some (.ref fc)) (kC:PySem.W.keepIn K (.ref fc)=true) :
  FnOk P w K mg base CX0 2 f fd ["script","at","many","top"] (spDrawnF K):=by
 refine F.ok scDrawnF (fun vs H Q E h=>?_) (fun cdv A outer s H vs Q E hr h=>?_)
 ·obtain ⟨a,ns,m,many,top,rfl,_⟩:=h
  rfl
 ·obtain ⟨a,ns,m,many,top,rfl,hS,h1,h2,h3,k⟩:=h
  refine ⟨_,J2 (ps_compB (i:=4) ["script","at","top"] [0,1,3] scDrawnF.nd rfl (Or.inl rfl) rfl (J27 rfl T.range (J0 (pv 2) J4)) rfl
    (fun C fp s H=>pe_op J2m J1 (pe_op J11 (Jr GC hr rfl mC kC bC .nil pass0 (J0 (pv 1) (J0 (pe_op J2m (pe_op J2m (pv 2) J1) (pv 0)) J4))) (pv 3)))
    (by decide +kernel) (by decide +kernel) (by decide +kernel) (by intro p hp;simp only [List.mem_cons,List.not_mem_nil,or_false] at hp;rcases hp with rfl | rfl | rfl <;> rfl))
   (J2 (Jp (i:=5) scDrawnF.nd rfl (Or.inl rfl) (J1z J4))
   (J2 (ps_for PassesOwn.never rfl (J27 rfl T.range (J0 (pv 2) J4)) (J2l (i:=6) scDrawnF.nd rfl (Or.inl rfl))
    (J8 (ps_expr (pe_bm PySem.F.plainAttrs_list PySem.F.slot_list_insert PySem.F.type_list_insert mt_insert (pv 5)
     (J0 (pe_op J11 (Jr GC hr rfl mC kC bC .nil pass0 (J0 (pv 0) (J0 (pe_op J2m (pe_op J2m (pe_op J2m (pv 1) J1) (pv 2)) (pv 6)) J4))) (pe_op J2m (pv 6) J1)) (J0 (pv 6) J4))))))
   (J2 (Jp (i:=7) scDrawnF.nd rfl (Or.inr rfl) (pe_op J11 (Jr GC hr rfl mC kC bC .nil pass0 (J0 (pv 0) (J0 (pv 1) J4))) (pe_op op_shl J1 J1)))
   (J8 (Jz (J25 (J0 (pv 4) (J0 (pv 5) (J0
    (pe_lc (caps:=["bits"]) (js:=[7]) rfl (J27 rfl T.range (J0 (pv 2) J4)) rfl (fun _ _ _ _=>J2x)
     (fun C fp s H=>J1p op_eq (pe_op op_and (pe_op op_shr (pv 1) (pv 0)) J1) J1 (Jn _))
     (by decide +kernel) (by decide +kernel) (by decide +kernel) (by intro p hp;simp only [List.mem_cons,List.not_mem_nil,or_false] at hp;rcases hp with rfl;rfl)) J4))))))))),?_⟩
  refine ⟨_,rfl,(many:Int),rfl,by omega,by omega,0,many,fun k=>V.int (1 + cellN ns (m + (2 + k)) % top),rfl,by omega,?_,fun d hd=>?_⟩
  ·rintro d H2 j hd hj rfl
   have e:(((m + 1:Nat):Int) + 1 + (0 + (j:Int)))=((m + (2 + j):Nat):Int):=by omega
   exact ⟨_,rfl,_,rfl,_,_,rfl,rfl,_,rfl,_,_,rfl,rfl,a,ns,m + (2 + j),(by rw [← e];rfl),(Jc hd).seq hS,_,rfl,_,_,rfl,rfl,h3,_,_,rfl,rfl,rfl,rfl⟩
  have eL:(List.range many).map (fun k=>V.int (1 + cellN ns (m + (2 + k)) % top))=iV (drawL (ns.drop m) many top):=by
   show _=(drawL (ns.drop m) many top).map V.int
   unfold drawL
   rw [List.map_map]
   refine List.map_congr_left fun k _=>?_
   show _=V.int (1 + cellN (ns.drop m) (2 + k) % top)
   rw [J2q]
  rw [eL]
  have s1:Same H (upd H d (.lst (iV (drawL (ns.drop m) many top)))):=Jc hd
  generalize hH1:upd H d (.lst (iV (drawL (ns.drop m) many top)))=H1 at s1
  have hd1:H1 d=some (.lst (iV (drawL (ns.drop m) many top))):=by rw [← hH1];exact J3
  refine ⟨Nat.zero_le _,fun ol hol=>?_⟩
  refine ⟨_,rfl,(many:Int),rfl,by omega,by omega,for_range (lo:=0) (n:=many) (fun i σ H2=>∃ v,σ=[some (.ref a),some (.int ((m + 1:Nat):Int)),some (.int many),some (.int top),some (.ref d),some (.ref ol),v,none]∧H2 ol=some (.lst (nV (drawO (ns.drop m) many i)))∧Same H1 H2)
   ⟨none,rfl,J3,Jc hol⟩ ?_ ?_⟩
  ·rintro i σ H2 hi ⟨v,rfl,ho,s2⟩
   rw [Int.zero_add]
   obtain ⟨q1,q2⟩:=spotO_le (ns.drop m) many i
   have e:(((m + 1:Nat):Int) + 1 + (many:Int) + (i:Int))=((m + (2 + many + i):Nat):Int):=by omega
   rw [J2q] at q2
   have hlen:(nV (drawO (ns.drop m) many i)).length=i:=by rw [len_nV,drawO_len]
   refine ⟨_,rfl,.inl ⟨rfl,_,SqL.of ho⟩,_,rfl,_,rfl,_,_,rfl,rfl,_,rfl,_,_,rfl,rfl,_,rfl,_,_,rfl,rfl,a,ns,m + (2 + many + i),(by rw [← e];rfl),(s1.trans s2).seq hS,_,rfl,_,_,rfl,rfl,_,_,rfl,rfl,(by omega),_,rfl,
    ol,_,spotO (ns.drop m) many i,V.int (i:Int),rfl,(by rw [q2]),ho,(by rw [hlen];exact q1),(by rw [hlen];exact J34 (by omega)),?_⟩
   refine ⟨_,rfl,?_,fun b o z=>?_⟩
   ·rw [J3,insV];rfl
   ·rw [Jf (Jd z hol)]
    exact s2 _ _ z
  ·rintro σ H2 ⟨v,rfl,ho,s2⟩
   have s3:=s1.trans s2
   refine ⟨_,rfl,_,rfl,a,ns,m + 1,rfl,s3.seq hS,_,_,rfl,rfl,⟨by decide,by decide,by decide⟩,_,_,rfl,rfl,(by show (0:Int) < 1 * 2 ^ 24;decide),?_⟩
   refine ⟨_,rfl,_,rfl,_,rfl,(many:Int),rfl,by omega,by omega,fun tl htl=>lc_rng 0 many (fun _=>true) (fun k=>V.bl (turnB (ns.drop m) k)) (by omega) htl (fun _ _ H _ _ q=>q H (Same.refl _)) (fun j hj H3 Qe _ s3' q=>?_) (fun H3 s3' htl'=>?_)⟩
   ·have e:(0 + (j:Int)).toNat=j:=by omega
    refine ⟨_,rfl,_,rfl,_,_,rfl,rfl,(by omega),_,_,rfl,rfl,rfl,?_⟩
    have:=q H3 (Same.refl _)
    unfold turnB bitsN at this
    rw [J2q] at this
    rw [e]
    exact this
   rw [J15] at htl'
   have eT:(List.range many).map (fun k=>V.bl (turnB (ns.drop m) k))=bV (drawT (ns.drop m) many):=by
    show _=(drawT (ns.drop m) many).map V.bl
    unfold drawT
    rw [List.map_map];rfl
   rw [eT] at htl'
   refine ⟨(by show 3≤sizeLine;rw [sizeLine_eq];decide),fun p hp=>?_⟩
   have s4:=s3'.trans (Jc (o:=.tup [.ref d,.ref ol,.ref tl]) hp)
   exact k p d ol tl _ (s3.trans s4) hd (Ne.symm (Jd hd1 hol)) (Ne.symm (Jd (s2 _ _ hd1) htl)) J3 (s4 _ _ (s2 _ _ hd1)) (s4 _ _ ho) (Jc hp _ _ htl')
end
section
theorem menu {m:Int} (h0:0≤m) (h1:m < 3):∃ top:Int,atI [V.int 7,V.int (10 ^ (28:Int).toNat),V.int 1000] m=some (V.int top)∧0 < top∧top≤10 ^ 28:=by
 have h:m=0∨m=1∨m=2:=by omega
 rcases h with rfl | rfl | rfl
 ·exact ⟨7,rfl,by decide,by decide⟩
 ·exact ⟨10 ^ (28:Int).toNat,rfl,by decide,by decide⟩
 ·exact ⟨1000,rfl,by decide,by decide⟩
theorem drawn_good (ns:List Int) {many:Nat} {top:Int} (h1:1≤many) (h2:many≤24) (h3:0 < top) (h4:top≤10 ^ 28):Good (drawL ns many top) (drawO ns many many):=by
 have hl:=drawL_len ns many top
 refine ⟨by omega,by omega,fun a ha=>(J3f h3 a ha).1,?_,by rw [hl];exact J2p ns many many⟩
 have e1:=sum_le (drawL ns many top) fun a ha=>(J3f h3 a ha).2
 rw [hl] at e1
 have e2:=mul_top h2 (Int.le_of_lt h3)
 have e3:(24:Int) * top≤10 ^ 30:=by
  have:(24:Int) * top≤24 * 10 ^ 28:=by omega
  have:(24:Int) * 10 ^ 28≤10 ^ 30:=by decide
  omega
 omega
end
section
variable {P:Program} {w:World} {K:PySem.W.Frag} {mg:Str→Option Value} {base:Heap}
theorem app_empty (x:Str):x ++ Str.ofString ""=x:=by
 have e:Str.ofString ""=Str.empty:=by decide +kernel
 rw [e]
 exact Str.ext' (by rw [Str.cps_append];exact Array.append_empty)
theorem word_B (z:Int) (b:Bool):numS z ++ (if b=true then Str.ofString "-" else Str.ofString "")=wordB z b:=by
 unfold wordB
 cases b with
 | true=>rfl
 | false=>exact app_empty _
structure Row9 (ls:List Int) (os:List Nat) (ts:List Bool):Prop where
 l0:1≤ls.length
 l1:ls.length≤24
 b:∀ l∈ls,0≤l∧l≤10 ^ 28
 o:∀ o∈os,o < ts.length
 o0:1≤os.length
 o1:os.length≤24
 tn:ts.length≤24
theorem Row9.small {ls:List Int} {os:List Nat} {ts:List Bool} (g:Row9 ls os ts) (l:Int) (h:l∈ls):l.natAbs < 10 ^ 40:=by
 have:=g.b l h
 have e:(10:Int) ^ 28 < 10 ^ 40:=by decide
 omega
theorem J3u {a:Str} {x:Str} {ws:List Str} (h:a=x ++ sp1):ws≠[]→a ++ Txt.join sp1 ws=Txt.join sp1 (x :: ws):=by
 intro hw
 cases ws with
 | nil=>exact absurd rfl hw
 | cons y r =>
  have h1:Txt.join sp1 (x :: y :: r)=Str.join sp1 (x :: y :: r):=StrLaws.glued_eq_join ..
  have h2:Txt.join sp1 (y :: r)=Str.join sp1 (y :: r):=StrLaws.glued_eq_join ..
  rw [h1,h2,h];rfl
def lawL (ls:List Int):Str:=Str.ofString "pieces " ++ Txt.join (Str.ofString " ") (ls.map numS)
def lawW (ts:List Bool) (o:Nat):Str:=numS o ++ (if ts.getD o false=true then Str.ofString "-" else Str.ofString "")
def lawO (os:List Nat) (ts:List Bool):Str:=Str.ofString "laid " ++ Txt.join (Str.ofString " ") (os.map (lawW ts))
theorem lawW_len (ts:List Bool) {o:Nat} (h:o < 24):(lawW ts o).length≤42:=by
 have h1:=J44 (i:=(o:Int)) (by omega)
 have h2:(Str.ofString "-").length=1:=by decide +kernel
 have h3:(Str.ofString "").length=0:=by decide +kernel
 unfold lawW
 rw [strLen_append]
 split <;> omega
theorem lawL_rw {ls:List Int} {os:List Nat} {ts:List Bool} (g:Row9 ls os ts):Rw true (lawL ls) (ls.map numS):=by
 have e:(10:Int) ^ 28 < 10 ^ 29:=by decide
 refine ⟨?_,fun w hw=>?_,by rw [List.length_map];have:=g.l1;omega⟩
 ·exact J3u (by decide +kernel) (fun q=>by have h3:=congrArg List.length q;rw [List.length_map] at h3;have h4:([]:List Str).length=0:=rfl;have:=g.l0;omega)
 ·obtain ⟨l,hl,rfl⟩:=List.mem_map.mp hw
  have:=g.b l hl
  exact ⟨l,false,this.1,by omega,rfl,fun _=>rfl⟩
theorem lawO_rw {ls:List Int} {os:List Nat} {ts:List Bool} (g:Row9 ls os ts):Rw false (lawO os ts) (os.map (lawW ts)):=by
 refine ⟨?_,fun w hw=>?_,by rw [List.length_map];have:=g.o1;omega⟩
 ·exact J3u (by decide +kernel) (fun q=>by have h3:=congrArg List.length q;rw [List.length_map] at h3;have h4:([]:List Str).length=0:=rfl;have:=g.o0;omega)
 ·obtain ⟨o,ho,rfl⟩:=List.mem_map.mp hw
  have h1:=g.o o ho
  have h2:=g.tn
  have e:(24:Int) < 10 ^ 29:=by decide
  exact ⟨(o:Int),ts.getD o false,by omega,by omega,word_B _ _,fun q=>Bool.noConfusion q⟩
def spRows9:Sp:=fun vs H Q _=>∃ (p:Addr) (ls:List Int) (os:List Nat) (ts:List Bool),vs=[.ref p]∧DrawnAt H p ls os ts∧Row9 ls os ts∧∀ q z0 z1 H',Same H H'→H' q=some (.lst [.str z0,.str z1])→Rw true z0 (ls.map numS)→Rw false z1 (os.map (lawW ts))→Q (.ref q) H'
theorem scRows:FnScope ["drawn","lengths","order","turned","laid"] ["drawn"] (J7 sRows):=⟨rfl,rfl,rfl,by decide +kernel,rfl,by decide +kernel,by decide +kernel⟩
theorem ok_rows9 {f:Addr} {fd:FuncData} (F:Fun K "_law_rows" "_law_rows" sRows f fd) (hstr:mg "str"=none) (hint:mg "int"=none):FnOk P w K mg base CX0 1 f fd ["drawn"] spRows9:=by
 refine F.ok scRows (fun vs H Q E h=>?_) (fun cdv A outer s H vs Q E hr h=>?_)
 ·obtain ⟨p,ls,os,ts,rfl,_⟩:=h
  rfl
 ·obtain ⟨p,ls,os,ts,rfl,D,g,k⟩:=h
  obtain ⟨l,o,t,h0,h1,h2,h3⟩:=D.ex
  have c1:(Str.ofString " ").length=1:=by decide +kernel
  have c2:(Str.ofString "pieces ").length=7:=by decide +kernel
  have c3:(Str.ofString "laid ").length=5:=by decide +kernel
  have c4:(Str.ofString "-").length=1:=by decide +kernel
  have c5:(Str.ofString "").length=0:=by decide +kernel
  have hlo:=g.l0
  have hhi:=g.l1
  refine ⟨_,J2 (J3r (pv 0) (pg_tup rfl (J41 (J2l (i:=1) scRows.nd rfl (Or.inl rfl)) (J41 (J2l (i:=2) scRows.nd rfl (Or.inl rfl)) (J41 (J2l (i:=3) scRows.nd rfl (Or.inr rfl)) pgs_nil)))))
   (J2 (ps_lc (i:=4) (caps:=["turned"]) (js:=[3]) scRows.nd rfl (Or.inl rfl) rfl (pi_list (pv 2)) rfl (fun _ _ _ _=>J2x)
    (fun C fp s H=>pe_op J6 (J38 J2r (by rfl) hstr PyProof.Rows.boot_str (J0 (pv 0) J4))
     (pe_ixr (ix_listK K) (J1z (J0 Je (J0 Je J4))) (J38 call_int1 (by rfl) hint PyProof.Rows.boot_int (J0 (pe_ixr (ix_listK K) (pv 1) (pv 0)) J4))))
    (by decide +kernel) (by decide +kernel) (by decide +kernel) (by intro p hp;simp only [List.mem_cons,List.not_mem_nil,or_false] at hp;rcases hp with rfl;rfl))
   (J8 (Jz (J1z (J0 (pe_op J6 Je (pe_bm PySem.F.plainAttrs_str PySem.F.slot_str_join PySem.F.type_str_join mt_join Je (J0
     (pe_lc (caps:=[]) (js:=[]) rfl (pi_list (pv 1)) rfl (fun _ _ _ _=>J2x) (fun C fp s H=>J38 J2r (by rfl) hstr PyProof.Rows.boot_str (J0 (pv 0) J4)) (by decide +kernel) (by decide +kernel) (by decide +kernel) (by intro p hp;cases hp)) J4)))
    (J0 (pe_op J6 Je (pe_bm PySem.F.plainAttrs_str PySem.F.slot_str_join PySem.F.type_str_join mt_join Je (J0 (pv 4) J4))) J4)))))),?_⟩
  have mL:∀ y∈ls.map numS,y.length≤41:=fun y hy=>by
   obtain ⟨l,hl,rfl⟩:=List.mem_map.mp hy
   exact J44 (g.small l hl)
  have nL:(ls.map numS).length≤24:=by rw [List.length_map];exact hhi
  have mO:∀ y∈os.map (lawW ts),y.length≤42:=fun y hy=>by
   obtain ⟨o,ho,rfl⟩:=List.mem_map.mp hy
   exact lawW_len ts (by have:=g.o o ho;have:=g.tn;omega)
  have nO:(os.map (lawW ts)).length≤24:=by rw [List.length_map];exact g.o1
  refine ⟨_,rfl,p,_,rfl,SqT.of h0,rfl,_,_,rfl,_,_,rfl,_,_,rfl,rfl,?_⟩
  refine ⟨_,rfl,o,rfl,⟨_,SqL.of h2⟩,fun d hd=>lc_lst (fun o:Nat=>V.int (o:Int)) os (fun _=>true) (fun o=>V.str (lawW ts o)) (by rw [← nV_eq];exact SqL.of h2) (by have:=g.o1;omega) hd (fun _ _ H _ _ q=>q H (Same.refl _)) (fun x hx H2 Qe _ s2 q=>?_) (fun H2 s2 hd2=>?_)⟩
  ·have hlt:=g.o x hx
   have htn:=g.tn
   have hs:((x:Nat):Int).natAbs.log2 < 1920:=log_small (by omega)
   have hl:=J44 (i:=(x:Int)) (by omega)
   refine ⟨_,rfl,_,rfl,hs,(by show 2≤sizeLine;rw [sizeLine_eq];decide),fun b hb=>?_⟩
   have sb:=Jc (o:=.lst [.str (Str.ofString ""),.str (Str.ofString "-")]) hb
   refine ⟨_,rfl,_,rfl,t,_,_,_,rfl,rfl,SqL.of (sb _ _ (s2 _ _ h3)),Ji (bV_get (by omega)),.inr ⟨_,rfl,?_⟩⟩
   have hq:=q _ sb
   unfold lawW at hq
   by_cases c:ts.getD x false=true
   ·rw [c] at hq ⊢
    refine ⟨b,_,_,_,rfl,rfl,SqL.of J3,rfl,_,_,rfl,rfl,?_,hq⟩
    show (numS x).length + (Str.ofString "-").length≤sizeLine
    rw [c4,sizeLine_eq];omega
   ·have c':ts.getD x false=false:=by simpa using c
    rw [c'] at hq ⊢
    refine ⟨b,_,_,_,rfl,rfl,SqL.of J3,rfl,_,_,rfl,rfl,?_,hq⟩
    show (numS x).length + (Str.ofString "").length≤sizeLine
    rw [c5,sizeLine_eq];omega
  rw [J15] at hd2
  have hd2':H2 d=some (.lst ((os.map (lawW ts)).map V.str)):=by rw [hd2,List.map_map];rfl
  refine ⟨rfl,_,rfl,l,rfl,⟨_,SqL.of (s2 _ _ h1)⟩,fun d1 hd1=>lc_lst V.int ls (fun _=>true) (fun l=>V.str (numS l)) (SqL.of (s2 _ _ h1)) (by omega) hd1 (fun _ _ H _ _ q=>q H (Same.refl _)) (fun x hx H3 Qe _ s3 q=>?_) (fun H3 s3 hd3=>?_)⟩
  ·exact ⟨_,rfl,x,rfl,log_small (g.small x hx),q H3 (Same.refl _)⟩
  rw [J15] at hd3
  have hd3':H3 d1=some (.lst ((ls.map numS).map V.str)):=by rw [hd3,List.map_map];rfl
  have lL:=J4a (sep:=Str.ofString " ") mL
  have lO:=J4a (sep:=Str.ofString " ") mO
  have bL:(ls.map numS).length * 41≤24 * 41:=Nat.mul_le_mul_right _ nL
  have bO:(os.map (lawW ts)).length * 42≤24 * 42:=Nat.mul_le_mul_right _ nO
  rw [c1] at lL lO
  have sL:=J18 mL
  have sO:=J18 mO
  refine ⟨Str.ofString " ",d1,ls.map numS,rfl,rfl,hd3',by omega,by omega,_,_,rfl,rfl,(by rw [c2,sizeLine_eq];omega),?_⟩
  refine ⟨rfl,_,rfl,Str.ofString " ",d,os.map (lawW ts),rfl,rfl,s3 _ _ hd2',by omega,by omega,_,_,rfl,rfl,(by rw [c3,sizeLine_eq];omega),?_⟩
  refine ⟨(by show 2≤sizeLine;rw [sizeLine_eq];decide),fun q hq=>?_⟩
  exact k q _ _ _ (s2.trans (s3.trans (Jc hq))) J3 (lawL_rw g) (lawO_rw g)
end
end R09
namespace R09
open PySem L2 Rl
section
variable {P:Program} {w:World} {K:PySem.W.Frag} {mg:Str→Option Value} {base:Heap}
def kinds11:List Str:=["BadLengths","BadOrder","BadTurned","Outside","BadText","TooMany","Unlike","BadAddress","BadArches","Loose","BadRow"]
structure AloneK (K:PySem.W.Frag) (C CL:Addr) (cs:Nat→Addr) (bs:Nat→Bool):Prop where
 w:XCls K C
 k:∀ i,i < 11→PySem.W.kitOne K (.ref C) (.ref (cs i))=some (bs i)
 kl:PySem.W.kitOne K (.ref C) (.ref CL)=some true
 kv:PySem.W.kitOne K (.ref C) (.type "ValueError")=some true
 one:((List.range 11).map bs).count true=1
structure TxtA (mg:Str→Option Value) (CL:Addr) (cs:Nat→Addr):Prop where
 mc:∀ i,i < 11→mg (kinds11.getD i "")=some (.ref (cs i))
 ml:mg "LineError"=some (.ref CL)
 mv:mg "ValueError"=none
 isi:mg "isinstance"=none
theorem boot_VE:bootBuiltins "ValueError"=some (.type "ValueError"):=by boot_by_name
def spAlone2 (K:PySem.W.Frag) (CL:Addr) (cs:Nat→Addr):Sp:=fun vs H Q _=>∃ (ea C:Addr) (od:Option Addr) (bs:Nat→Bool),vs=[.ref ea]∧H ea=some (excX ea (.ref C) od)∧AloneK K C CL cs bs∧∀ H',Same H H'→Q (.bl true) H'
theorem scAlone:FnScope ["e","kinds"] ["e"] (J7 sAlone):=⟨rfl,rfl,rfl,by decide +kernel,rfl,by decide +kernel,by decide +kernel⟩
theorem ok_alone2 {f CL:Addr} {cs:Nat→Addr} {fd:FuncData} (F:Fun K "_law_alone" "_law_alone" sAlone f fd) (TA:TxtA mg CL cs):FnOk P w K mg base CX0 1 f fd ["e"] (spAlone2 K CL cs):=by
 refine F.ok scAlone (fun vs H Q E h=>?_) (fun cdv A outer s H vs Q E hr h=>?_)
 ·obtain ⟨ea,C,od,bs,rfl,_⟩:=h
  rfl
 ·obtain ⟨ea,C,od,bs,rfl,he,A,k⟩:=h
  have hisi:=TA.isi
  have g0:mg "BadLengths"=some (.ref (cs 0)):=TA.mc 0 (by decide)
  have q0:=A.k 0 (by decide)
  have g1:mg "BadOrder"=some (.ref (cs 1)):=TA.mc 1 (by decide)
  have q1:=A.k 1 (by decide)
  have g2:mg "BadTurned"=some (.ref (cs 2)):=TA.mc 2 (by decide)
  have q2:=A.k 2 (by decide)
  have g3:mg "Outside"=some (.ref (cs 3)):=TA.mc 3 (by decide)
  have q3:=A.k 3 (by decide)
  have g4:mg "BadText"=some (.ref (cs 4)):=TA.mc 4 (by decide)
  have q4:=A.k 4 (by decide)
  have g5:mg "TooMany"=some (.ref (cs 5)):=TA.mc 5 (by decide)
  have q5:=A.k 5 (by decide)
  have g6:mg "Unlike"=some (.ref (cs 6)):=TA.mc 6 (by decide)
  have q6:=A.k 6 (by decide)
  have g7:mg "BadAddress"=some (.ref (cs 7)):=TA.mc 7 (by decide)
  have q7:=A.k 7 (by decide)
  have g8:mg "BadArches"=some (.ref (cs 8)):=TA.mc 8 (by decide)
  have q8:=A.k 8 (by decide)
  have g9:mg "Loose"=some (.ref (cs 9)):=TA.mc 9 (by decide)
  have q9:=A.k 9 (by decide)
  have g10:mg "BadRow"=some (.ref (cs 10)):=TA.mc 10 (by decide)
  have q10:=A.k 10 (by decide)
  refine ⟨_,J2 (Jp (i:=1) scAlone.nd rfl (Or.inl rfl) (J1z (J0 (Jb (Jh rfl) (by rfl) hisi PyProof.Rows.boot_isinstance (J0 (pv 0) (J0 (J10 (v:=.ref (cs 0)) rfl g0 rfl) J4))) (J0 (Jb (Jh rfl) (by rfl) hisi PyProof.Rows.boot_isinstance (J0 (pv 0) (J0 (J10 (v:=.ref (cs 1)) rfl g1 rfl) J4))) (J0 (Jb (Jh rfl) (by rfl) hisi PyProof.Rows.boot_isinstance (J0 (pv 0) (J0 (J10 (v:=.ref (cs 2)) rfl g2 rfl) J4))) (J0 (Jb (Jh rfl) (by rfl) hisi PyProof.Rows.boot_isinstance (J0 (pv 0) (J0 (J10 (v:=.ref (cs 3)) rfl g3 rfl) J4))) J4))))))
   (J2 (Jp (i:=1) scAlone.nd rfl (Or.inl rfl) (pe_op op_cat (pv 1) (J1z (J0 (Jb (Jh rfl) (by rfl) hisi PyProof.Rows.boot_isinstance (J0 (pv 0) (J0 (J10 (v:=.ref (cs 4)) rfl g4 rfl) J4))) (J0 (Jb (Jh rfl) (by rfl) hisi PyProof.Rows.boot_isinstance (J0 (pv 0) (J0 (J10 (v:=.ref (cs 5)) rfl g5 rfl) J4))) (J0 (Jb (Jh rfl) (by rfl) hisi PyProof.Rows.boot_isinstance (J0 (pv 0) (J0 (J10 (v:=.ref (cs 6)) rfl g6 rfl) J4))) (J0 (Jb (Jh rfl) (by rfl) hisi PyProof.Rows.boot_isinstance (J0 (pv 0) (J0 (J10 (v:=.ref (cs 7)) rfl g7 rfl) J4))) J4)))))))
   (J2 (Jp (i:=1) scAlone.nd rfl (Or.inl rfl) (pe_op op_cat (pv 1) (J1z (J0 (Jb (Jh rfl) (by rfl) hisi PyProof.Rows.boot_isinstance (J0 (pv 0) (J0 (J10 (v:=.ref (cs 8)) rfl g8 rfl) J4))) (J0 (Jb (Jh rfl) (by rfl) hisi PyProof.Rows.boot_isinstance (J0 (pv 0) (J0 (J10 (v:=.ref (cs 9)) rfl g9 rfl) J4))) (J0 (Jb (Jh rfl) (by rfl) hisi PyProof.Rows.boot_isinstance (J0 (pv 0) (J0 (J10 (v:=.ref (cs 10)) rfl g10 rfl) J4))) J4))))))
   (J8 (Jz (pe_and (J1p op_eq (pe_bm PySem.F.plainAttrs_list PySem.F.slot_list_count PySem.F.type_list_count mt_countB (pv 1) (J0 pe_bl J4)) J1 (Jn _))
    (pe_and (Jb (Jh rfl) (by rfl) hisi PyProof.Rows.boot_isinstance (J0 (pv 0) (J0 (J10 (v:=.ref CL) rfl TA.ml rfl) J4)))
    (pe_one (Jb (Jh rfl) (by rfl) hisi PyProof.Rows.boot_isinstance (J0 (pv 0) (J0 (pe_bltn (v:=.ty "ValueError") rfl TA.mv boot_VE rfl) J4)))))))))),?_⟩
  refine ⟨_,rfl,ea,C,od,.ref (cs 0),_,bs 0,rfl,rfl,fun v h=>h,he,A.w,q0,_,rfl,ea,C,od,.ref (cs 1),_,bs 1,rfl,rfl,fun v h=>h,he,A.w,q1,_,rfl,ea,C,od,.ref (cs 2),_,bs 2,rfl,rfl,fun v h=>h,he,A.w,q2,_,rfl,ea,C,od,.ref (cs 3),_,bs 3,rfl,rfl,fun v h=>h,he,A.w,q3,(by show 4≤sizeLine;decide),fun l1 h1=>?_⟩
  have s1:=Jc (o:=.lst [V.bl (bs 0),V.bl (bs 1),V.bl (bs 2),V.bl (bs 3)]) h1
  have he1:=s1 _ _ he
  refine ⟨_,rfl,_,rfl,ea,C,od,.ref (cs 4),_,bs 4,rfl,rfl,fun v h=>h,he1,A.w,q4,_,rfl,ea,C,od,.ref (cs 5),_,bs 5,rfl,rfl,fun v h=>h,he1,A.w,q5,_,rfl,ea,C,od,.ref (cs 6),_,bs 6,rfl,rfl,fun v h=>h,he1,A.w,q6,_,rfl,ea,C,od,.ref (cs 7),_,bs 7,rfl,rfl,fun v h=>h,he1,A.w,q7,(by show 4≤sizeLine;decide),fun l2 h2=>?_⟩
  have s2:=Jc (o:=.lst [V.bl (bs 4),V.bl (bs 5),V.bl (bs 6),V.bl (bs 7)]) h2
  refine ⟨l1,l2,_,_,rfl,rfl,s2 _ _ J3,J3,(by show 8≤sizeLine;decide),fun l3 h3=>?_⟩
  have s3:=Jc (o:=.lst [V.bl (bs 0),V.bl (bs 1),V.bl (bs 2),V.bl (bs 3),V.bl (bs 4),V.bl (bs 5),V.bl (bs 6),V.bl (bs 7)]) h3
  have he3:=s3 _ _ (s2 _ _ he1)
  refine ⟨_,rfl,_,rfl,ea,C,od,.ref (cs 8),_,bs 8,rfl,rfl,fun v h=>h,he3,A.w,q8,_,rfl,ea,C,od,.ref (cs 9),_,bs 9,rfl,rfl,fun v h=>h,he3,A.w,q9,_,rfl,ea,C,od,.ref (cs 10),_,bs 10,rfl,rfl,fun v h=>h,he3,A.w,q10,(by show 3≤sizeLine;decide),fun l4 h4=>?_⟩
  have s4:=Jc (o:=.lst [V.bl (bs 8),V.bl (bs 9),V.bl (bs 10)]) h4
  refine ⟨l3,l4,_,_,rfl,rfl,s4 _ _ J3,J3,(by show 11≤sizeLine;decide),fun l5 h5=>?_⟩
  have s5:=Jc (o:=.lst (((List.range 11).map bs).map V.bl)) h5
  have he5:=s5 _ _ (s4 _ _ he3)
  have e11:HO.lst ([V.bl (bs 0),V.bl (bs 1),V.bl (bs 2),V.bl (bs 3)] ++ [V.bl (bs 4),V.bl (bs 5),V.bl (bs 6),V.bl (bs 7)] ++ [V.bl (bs 8),V.bl (bs 9),V.bl (bs 10)])=HO.lst (((List.range 11).map bs).map V.bl):=rfl
  refine ⟨_,rfl,.inl ⟨rfl,_,SqL.of J3⟩,l5,(List.range 11).map bs,rfl,rfl,J3,rfl,true,?_,iteT ?_⟩
  ·rw [A.one];rfl
  refine ⟨_,rfl,ea,C,od,.ref CL,_,true,rfl,rfl,fun v h=>h,he5,A.w,A.kl,true,rfl,iteT ?_⟩
  exact ⟨_,rfl,ea,C,od,.ty "ValueError",.type "ValueError",true,rfl,rfl,fun v h=>h,he5,A.w,A.kv,k _ ((s1.trans s2).trans (s3.trans (s4.trans s5)))⟩
end
end R09
namespace R09
open PySem L2 Rl
section
variable {P:Program} {w:World} {K:PySem.W.Frag} {mg:Str→Option Value} {base:Heap}
structure Tx9 (K:PySem.W.Frag) (mg:Str→Option Value) (CL CB:Addr) (cs:Nat→Addr):Prop where
 isi:mg "isinstance"=none
 int:mg "int"=none
 bool:mg "bool"=none
 max:mg "max"=none
 kib:PySem.W.kitOne K (.type "int") (.type "bool")=some false
 ml:mg "LineError"=some (.ref CL)
 mb:mg "BadText"=some (.ref CB)
 x:PySem.W.exmOne K (.ref CB) (.ref CL)=some true
 f:XFld K CB "at"
 kb:PySem.W.kitOne K (.ref CB) (.ref CB)=some true
 al:∃ bs,AloneK K CB CL cs bs
def spLaw (K:PySem.W.Frag):Sp:=fun vs H Q _=>∃ (a:Addr) (ns:List Int),vs=[.ref a]∧SqL K H a (ns.map V.int)∧ns.length≤63∧∀ H',Q (.bl true) H'
theorem none_same {H H':Hp} (s:Same H H') {l:Addr} (h:H' l=none):H l=none:=by
 cases e:H l with
 | none=>rfl
 | some u=>rw [s _ _ e] at h;cases h
theorem scLaw:FnScope ["script","first","drawn","cell","make","wrong","rows","k","told","found","e"] ["script"] (J7 sLaw):=⟨rfl,rfl,rfl,by decide +kernel,rfl,by decide +kernel,by decide +kernel⟩
theorem ok_law {f fC fD fRO fSP fTX fRd fAL CL CB:Addr} {fd fdC fdD fdRO fdSP fdTX fdRd fdAL:FuncData} {cs:Nat→Addr} (F:Fun K "law" "law" sLaw f fd) (T:TxtR mg) (TX:Tx9 K mg CL CB cs)
  (GC:FnOk P w K mg base CX0 1 fC fdC ["script","k"] (spCell K)) (bC:Binds K fdC ["script","k"] []) (mC:mg "_law_cell"=some (.ref fC)) (kC:PySem.W.keepIn K (.ref fC)=true)
  (GD:FnOk P w K mg base CX0 2 fD fdD ["script","at","many","top"] (spDrawnF K)) (bD:Binds K fdD ["script","at","many","top"] []) (mD:mg "_law_drawn"=some (.ref fD)) (kD:PySem.W.keepIn K (.ref fD)=true)
  (GRO:FnOk P w K mg base CX0 1 fRO fdRO ["drawn"] spRows9) (bRO:Binds K fdRO ["drawn"] []) (mRO:mg "_law_rows"=some (.ref fRO)) (kRO:PySem.W.keepIn K (.ref fRO)=true)
  (GSP:FnOk P w K mg base CX0 3 fSP fdSP ["row","cell","lengths"] spSpoiled) (bSP:Binds K fdSP ["row","cell","lengths"] []) (mSP:mg "_law_spoiled"=some (.ref fSP)) (kSP:PySem.W.keepIn K (.ref fSP)=true)
  (GTX:FnOk P w K mg base CX0 2 fTX fdTX ["rows","make","wrong","cell"] spTextL) (bTX:Binds K fdTX ["rows","make","wrong","cell"] []) (mTX:mg "_law_text"=some (.ref fTX)) (kTX:PySem.W.keepIn K (.ref fTX)=true)
  (GRd:FnOk P w K mg base (Exc2 P w) 4 fRd fdRd ["text"] (spReadE CB)) (bRd:Binds K fdRd ["text"] []) (mRd:mg "read"=some (.ref fRd)) (kRd:PySem.W.keepIn K (.ref fRd)=true)
  (GAL:FnOk P w K mg base CX0 1 fAL fdAL ["e"] (spAlone2 K CL cs)) (bAL:Binds K fdAL ["e"] []) (mAL:mg "_law_alone"=some (.ref fAL)) (kAL:PySem.W.keepIn K (.ref fAL)=true) :
  FnOk P w K mg base CX0 6 f fd ["script"] (spLaw K):=by
 refine F.ok scLaw (fun vs H Q E h=>?_) (fun cdv A outer s H vs Q E hr h=>?_)
 ·obtain ⟨a,ns,rfl,_⟩:=h
  rfl
 ·obtain ⟨a,ns,rfl,hS,hlen,k⟩:=h
  have hr1:Room 1 _:=hr.mono (by decide)
  have hr2:Room 2 _:=hr.mono (by decide)
  have hr3:Room 3 _:=hr.mono (by decide)
  have hr4:Room 4 _:=hr.mono (by decide)
  have hisi:=TX.isi
  have hint:=TX.int
  have hbool:=TX.bool
  have hmax:=TX.max
  refine ⟨_,(J2 (Jp (i:=1) scLaw.nd rfl (Or.inl rfl) (Jr GC hr1 rfl mC kC bC .nil pass0 (J0 (pv 0) (J0 J1 J4))))
   (J2 (Jp (i:=2) scLaw.nd rfl (Or.inl rfl) (Jr GD hr2 rfl mD kD bD .nil pass0 (J0 (pv 0) (J0 J1 (J0 (pe_op J2m J1 (pe_op J11 (pv 1) J1)) (J0 (pe_ix Jj (J1z (J0 J1 (J0 (pe_op op_pow J1 J1) (J0 J1 J4)))) (pe_op J11 (pe_op J13 (pv 1) J1) J1) (fun _ _=>rfl)) J4))))))
   (J2 (J2k (ps_if (Jk op_eq (pe_op J11 (pe_op J13 (pv 1) J1) J1) J1 (Jn _)) (J8 (J3r J1 (J42 (pe_ix ix_tup (pv 2) J1 (fun _ _=>rfl)) (pe_op J11 (pe_op J13 (pv 1) J1) (Jb Jo (by rfl) T.len PySem.boot_len (J0 (pe_ix ix_tup (pv 2) J1 (fun _ _=>rfl)) J4))) J1h))) Jm))
   (J2 (Jp (i:=3) scLaw.nd rfl (Or.inl rfl) (Jr GC hr1 rfl mC kC bC .nil pass0 (J0 (pv 0) (J0 J1 J4))))
   (J2 (Jp (i:=4) scLaw.nd rfl (Or.inl rfl) (Jb (call_max2 rfl) (by rfl) hmax PyProof.Rows.boot_max (J0 J1 (J0 (pe_op op_sub (pe_op J11 (pv 3) J1) J1) J4))))
   (J2 (Jp (i:=5) scLaw.nd rfl (Or.inl rfl) (J1z (J0 (J1p op_eq (pe_op J11 (pe_op J13 (pv 3) J1) J1) J1 (Jn _)) (J0 (J1p op_eq (pe_op J11 (pe_op J13 (pv 3) J1) J1) J1 (Jn _)) J4))))
   (J2 (J2k (ps_if (PW.pt (pw_and (Jk op_eq (pv 4) J1 (Jn _)) (pw_and1 (J40 (J2i (pe_ix Jj (pv 5) J1 (fun _ _=>rfl))))))) (J8 (J3r pe_bl (J42 (pv 5) J1 J1h))) Jm))
   (J2 (Jp (i:=6) scLaw.nd rfl (Or.inl rfl) (Jr GRO hr1 rfl mRO kRO bRO .nil pass0 (J0 (pv 2) J4)))
   (J2 (J2k (ps_if (Jk op_eq (pe_op J11 (pe_op J13 (pv 1) J1) J1) J1 (Jn _)) (J8 (J3r (pe_op J6 Je (pe_op J1r Je (pe_ix Jj (J1z (J0 J1 (J0 J1 J4))) (pe_op J11 (pe_op J13 (pv 1) J1) J1) (fun _ _=>rfl)))) (J42 (pv 6) J1 J1h))) Jm))
   (J2 (Jp (i:=3) scLaw.nd rfl (Or.inl rfl) (pe_op J11 (pe_op J13 (pv 3) J1) (pe_op op_pow J1 J1)))
   (J2 (J2k (ps_for PassesOwn.never rfl (J27 rfl T.range (J0 J1 J4)) (J2l (i:=7) scLaw.nd rfl (Or.inl rfl))
    (J8 (ps_if (J2i (pe_ix Jj (pv 5) (pv 7) (fun _ _=>rfl))) (J8 (J3r (Jr GSP hr3 rfl mSP kSP bSP .nil pass0 (J0 (pe_ix Jj (pv 6) (pv 7) (fun _ _=>rfl)) (J0 (pe_op J13 (pv 3) (pe_op J2m J1 (pe_op op_mul J1 (pv 7)))) (J0 (J1p op_eq (pv 7) J1 (Jn _)) J4)))) (J42 (pv 6) (pv 7) J1h))) Jm))))
   (J2 (Jp (i:=8) scLaw.nd rfl (Or.inl rfl) (Jr GTX hr2 rfl mTX kTX bTX .nil pass0 (J0 (pv 6) (J0 (pv 4) (J0 (pv 5) (J0 (pv 3) J4))))))
   (J2 (J2k (ps_if (Jk op_eq (pe_op J11 (pv 1) J1) J1 (Jn _)) (J8 (Jp (i:=8) scLaw.nd rfl (Or.inl rfl) (J25 (J0 (pe_op J6 (pe_op J6 Je (pe_op J1r Je J1)) Je) (J0 J1 J4))))) (J8 (ps_if (Jk op_eq (pe_op J11 (pv 1) J1) J1 (Jn _)) (J8 (Jp (i:=8) scLaw.nd rfl (Or.inl rfl) (J25 (J0 (pe_op J6 (pe_op J6 Je (pe_op J1r Je J1)) Je) (J0 J1 J4))))) Jm))))
   (J2 (Jp (i:=9) scLaw.nd rfl (Or.inl rfl) pe_non)
   (J2 (J2k (ps_tryc2 (i:=10) GRd hr4 rfl mRd kRd bRd .nil (J0 (pe_ix ix_tup (pv 8) J1 (fun _ _=>rfl)) J4) rfl rfl rfl TX.ml scLaw.nd rfl rfl (fun ea=>J8 (Jp (i:=9) scLaw.nd rfl (Or.inl rfl) (pv 10)))))
   (J2 (ps_if (PW.pt (pw_or (J40 (J2i (Jb (Jh rfl) (by rfl) TX.isi PyProof.Rows.boot_isinstance (J0 (pv 9) (J0 (J10 (v:=.ref CB) rfl TX.mb rfl) J4))))) (pw_or1 (J40 (J2i (Jr GAL hr1 rfl mAL kAL bAL .nil pass0 (J0 (pv 9) J4))))))) (J8 (Jz pe_bl)) Jm)
   (J8 (Jz (pe_and (Jb (J2z rfl) (by rfl) hisi PyProof.Rows.boot_isinstance (J0 (pe_fldX (pv 9) rfl) (J0 (pe_bltn (v:=.ty "int") rfl hint PyProof.Rows.boot_int rfl) J4))) (pe_and (pe_not (Jb (J2z rfl) (by rfl) hisi PyProof.Rows.boot_isinstance (J0 (pe_fldX (pv 9) rfl) (J0 (pe_bltn (v:=.ty "bool") rfl hbool PyProof.Rows.boot_bool rfl) J4)))) (pe_one (J1p op_eq (pe_fldX (pv 9) rfl) (pe_ix ix_tup (pv 8) J1 (fun _ _=>rfl)) (Jn _))))))))))))))))))))))),?_⟩
  refine ⟨_,rfl,a,ns,0,rfl,hS,?_⟩
  have m0:0≤cellN ns 0 / 24 % 3:=Int.emod_nonneg _ (by decide)
  have m1:cellN ns 0 / 24 % 3 < 3:=Int.emod_lt_of_pos _ (by decide)
  obtain ⟨top,hat,t0,t1⟩:=menu m0 m1
  have a0:0≤cellN ns 0 % 24:=Int.emod_nonneg _ (by decide)
  have a1:cellN ns 0 % 24 < 24:=Int.emod_lt_of_pos _ (by decide)
  obtain ⟨many,hm⟩:∃ many:Nat,(many:Int)=1 + cellN ns 0 % 24:=⟨(1 + cellN ns 0 % 24).toNat,by omega⟩
  have y1:1≤many:=by omega
  have y2:many≤24:=by omega
  refine ⟨_,rfl,_,rfl,_,_,rfl,rfl,(by show (0:Int) < 24;decide),_,_,rfl,rfl,_,_,rfl,rfl,⟨by decide,by decide,by decide⟩,(by show 3≤sizeLine;decide),fun me hme=>⟨_,rfl,_,_,rfl,rfl,⟨by decide,by decide⟩,_,_,rfl,rfl,(by show (0:Int) < 3;decide),me,_,_,V.int top,rfl,rfl,SqL.of J3,hat,?_⟩⟩
  have s1:Same H (upd H me (.lst [V.int 7,V.int (10 ^ (28:Int).toNat),V.int 1000])):=Jc hme
  generalize (upd H me (.lst [V.int 7,V.int (10 ^ (28:Int).toNat),V.int 1000]))=H1 at s1
  clear hat
  refine ⟨a,ns,1,many,top,(by rw [hm];rfl),s1.seq hS,y1,y2,t0,fun p l o t H2 s2 hl hol htl h0 h1 h2 h3=>?_⟩
  have g:=drawn_good (ns.drop 1) y1 y2 t0 t1
  have hb:∀ a∈drawL (ns.drop 1) many top,0≤a∧a≤10 ^ 28:=fun a ha=>by
   have:=J3f t0 a ha
   omega
  have hts:(drawT (ns.drop 1) many).length=(drawL (ns.drop 1) many top).length:=by rw [drawT_len,drawL_len]
  generalize drawL (ns.drop 1) many top=ls at *
  generalize drawO (ns.drop 1) many many=os at *
  generalize drawT (ns.drop 1) many=ts at *
  clear m0 m1 a0 a1 t0 t1 hm y1 y2
  have s2:=s1.trans s2
  have hl:=none_same s1 hl
  clear s1
  have glo:=g.lo
  have ghi:=g.hi
  have R9:Row9 ls os ts:=⟨glo,ghi,hb,fun x hx=>by rw [hts];exact g.olt x hx,by rw [g.olen];exact glo,by rw [g.olen];exact ghi,by rw [hts];exact ghi⟩
  have hlen:(iV ls).length=ls.length:=List.length_map ..
  refine ⟨fun σ' H'=>∃ ls',σ'=[some (.ref a),some (.int (cellN ns 0)),some (.ref p),none,none,none,none,none,none,none,none]∧Same H H'∧DrawnAt H' p ls' os ts∧Row9 ls' os ts,?_,?_⟩
  ·refine ⟨_,rfl,_,_,rfl,rfl,⟨by decide,by decide⟩,_,_,rfl,rfl,(by show (0:Int) < 3;decide),rfl,_,rfl,?_⟩
   by_cases c:cellN ns 0 / 72 % 3=1
   ·refine iteDT (congrArg V.int c) ?_
    have x0:0≤cellN ns 0 / 216 % ((iV ls).length:Nat):=Int.emod_nonneg _ (by omega)
    have x1:cellN ns 0 / 216 % ((iV ls).length:Nat) < ((iV ls).length:Nat):=Int.emod_lt_of_pos _ (by omega)
    obtain ⟨j,hj⟩:∃ j:Nat,cellN ns 0 / 216 % ((iV ls).length:Nat)=(j:Int):=⟨(cellN ns 0 / 216 % ((iV ls).length:Nat)).toNat,by omega⟩
    have jl:j < ls.length:=by omega
    refine ⟨_,rfl,p,_,_,_,rfl,rfl,SqT.of h0,Ji (j:=0) rfl,_,rfl,_,_,rfl,rfl,⟨by decide,by decide⟩,_,rfl,p,_,_,_,rfl,rfl,SqT.of h0,Ji (j:=0) rfl,l,_,rfl,.inl (SqL.of h1),_,_,rfl,rfl,(by omega),l,_,_,j,rfl,rfl,h1,(by rw [hj];exact J24 (by rw [hlen];exact jl)),?_⟩
    have np:p≠l:=fun e=>by rw [e,h1] at h0;cases h0
    refine ⟨ls.set j 0,rfl,fun b u e=>by rw [Jf (Jd e hl)];exact s2 _ _ e,⟨l,o,t,by rw [Jf np];exact h0,by rw [J3,iV_set],by rw [Jf hol];exact h2,by rw [Jf htl];exact h3⟩,?_⟩
    refine ⟨by rw [List.length_set];exact glo,by rw [List.length_set];exact ghi,fun x hx=>?_,R9.o,R9.o0,R9.o1,R9.tn⟩
    rcases List.mem_or_eq_of_mem_set hx with q | q
    ·exact hb x q
    ·rw [q];decide
   ·exact iteD (fun e=>c (V.int.inj e)) ⟨ls,rfl,s2,⟨l,o,t,h0,h1,h2,h3⟩,R9⟩
  clear h0 h1 h2 h3 hl hol htl s2 R9 hlen g glo ghi hb hts
  rintro σ H3 ⟨ls',rfl,s3,D,R9⟩
  refine ⟨_,rfl,a,ns,1,rfl,s3.seq hS,?_⟩
  clear hS s3
  generalize cellN ns 0=first
  generalize cellN ns 1=cell
  have x0:0≤cell % 16:=Int.emod_nonneg _ (by decide)
  have x1:cell % 16 < 16:=Int.emod_lt_of_pos _ (by decide)
  obtain ⟨mk,hmk,mk8⟩:∃ mk:Nat,(if cell % 16 - 7 > 0 then cell % 16 - 7 else 0)=(mk:Int)∧mk≤8:=by
   by_cases c:cell % 16 - 7 > 0
   ·rw [if_pos c];exact ⟨(cell % 16 - 7).toNat,by omega,by omega⟩
   ·rw [if_neg c];exact ⟨0,rfl,by decide⟩
  refine ⟨_,rfl,_,_,rfl,rfl,(by show (0:Int) < 16;decide),_,_,rfl,rfl,_,_,rfl,?_⟩
  refine ⟨_,rfl,_,_,rfl,rfl,⟨by decide,by decide⟩,_,_,rfl,rfl,(by show (0:Int) < 2;decide),rfl,_,rfl,_,_,rfl,rfl,⟨by decide,by decide⟩,_,_,rfl,rfl,(by show (0:Int) < 2;decide),rfl,(by show 2≤sizeLine;decide),fun wr hwr=>?_⟩
  generalize hb0:decide (V.int (cell / 16 % 2)=V.int 1)=b0
  generalize hb1:decide (V.int (cell / 32 % 2)=V.int 1)=b1
  rw [hmk]
  clear hb0 hb1 hmk x0 x1
  have s4:=Jc (o:=.lst [V.bl b0,V.bl b1]) hwr
  have h4:upd H3 wr (.lst [V.bl b0,V.bl b1]) wr=some (.lst [V.bl b0,V.bl b1]):=J3
  have up4:∀ o:HO,Same H3 (upd (upd H3 wr (.lst [V.bl b0,V.bl b1])) wr o):=fun o b u e=>by rw [Jf (Jd e hwr)];exact s4 _ _ e
  generalize upd H3 wr (.lst [V.bl b0,V.bl b1])=H4 at *
  refine ⟨fun σ' H'=>∃ b0',σ'=[some (.ref a),some (.int first),some (.ref p),some (.int cell),some (.int mk),some (.ref wr),none,none,none,none,none]∧Same H3 H'∧H' wr=some (.lst [V.bl b0',V.bl b1])∧(mk=0→b0'=true∨b1=true),?_,?_⟩
  ·refine ⟨_,rfl,rfl,_,rfl,?_⟩
   by_cases c:mk=0
   ·refine iteDT (by rw [c];rfl) ⟨_,rfl,wr,_,_,_,rfl,rfl,SqL.of h4,Ji (j:=1) rfl,_,rfl,?_⟩
    cases b1 with
    | true=>exact iteF ⟨b0,rfl,s4,h4,fun _=>.inr rfl⟩
    | false =>
     refine iteT ⟨_,rfl,wr,_,_,0,rfl,rfl,h4,J24 (o:=0) (by show 0 < 2;decide),?_⟩
     exact ⟨true,rfl,up4 _,J3,fun _=>.inl rfl⟩
   ·exact iteD (fun e=>c (by have:=V.int.inj e;omega)) (iteF ⟨b0,rfl,s4,h4,fun z=>absurd z c⟩)
  rintro σ H5 ⟨b0',rfl,s5,h5,hm0⟩
  clear s4 h4 up4 hwr
  refine ⟨_,rfl,p,ls',os,ts,rfl,D.same s5,R9,fun ro z0 z1 H6 s6 hro r0 r1=>?_⟩
  have hwr6:=s6 _ _ h5
  clear D s5 s6 h5 R9
  have nr:wr≠ro:=fun e=>by rw [e,hro] at hwr6;cases hwr6
  generalize hws:os.map (lawW ts)=ws1 at r1
  generalize hws0:ls'.map numS=ws0 at r0
  clear hws hws0
  refine ⟨fun σ' H'=>∃ z0 ws0,σ'=[some (.ref a),some (.int first),some (.ref p),some (.int cell),some (.int mk),some (.ref wr),some (.ref ro),none,none,none,none]∧H' ro=some (.lst [.str z0,.str z1])∧H' wr=some (.lst [V.bl b0',V.bl b1])∧Rw true z0 ws0,?_,?_⟩
  ·refine ⟨_,rfl,_,_,rfl,rfl,⟨by decide,by decide⟩,_,_,rfl,rfl,(by show (0:Int) < 3;decide),rfl,_,rfl,?_⟩
   by_cases c:first / 72 % 3=2
   ·refine iteDT (congrArg V.int c) ⟨(by show 2≤sizeLine;decide),fun l2 hl2=>?_⟩
    have q2:=Jc (o:=.lst [V.int 0,V.int 25]) hl2
    have x0:0≤first / 216 % 2:=Int.emod_nonneg _ (by decide)
    have x1:first / 216 % 2 < 2:=Int.emod_lt_of_pos _ (by decide)
    have c1:(Str.ofString " 1").length≤10:=by decide +kernel
    have c2:(Str.ofString "pieces").length=6:=by decide +kernel
    have pick:∃ (n:Int) (ws:List Str),atI [V.int 0,V.int 25] (first / 216 % 2)=some (V.int n)∧(-1≤n∧n≤10000)∧(Txt.mul (Str.ofString " 1") n).length≤50∧Rw true (Str.ofString "pieces" ++ Txt.mul (Str.ofString " 1") n) ws:=by
     have cs:first / 216 % 2=0∨first / 216 % 2=1:=by omega
     rcases cs with e | e
     ·rw [e];exact ⟨0,_,rfl,by decide,by decide +kernel,ones0⟩
     ·rw [e];exact ⟨25,_,rfl,by decide,by decide +kernel,ones25⟩
    obtain ⟨n,ws,hat,hn,hnl,rw1⟩:=pick
    refine ⟨_,rfl,_,_,rfl,rfl,⟨by decide,by decide⟩,_,_,rfl,rfl,(by show (0:Int) < 2;decide),l2,_,_,_,rfl,rfl,SqL.of J3,hat,_,_,rfl,rfl,hn,c1,_,_,rfl,rfl,(by rw [c2,sizeLine_eq];omega),?_⟩
    refine ⟨_,rfl,ro,_,_,0,rfl,rfl,q2 _ _ hro,J24 (o:=0) (by show 0 < 2;decide),?_⟩
    exact ⟨_,ws,rfl,J3,by rw [Jf nr];exact q2 _ _ hwr6,rw1⟩
   ·exact iteD (fun e=>c (V.int.inj e)) ⟨z0,ws0,rfl,hro,hwr6,r0⟩
  clear hro hwr6 r0
  rintro σ H7 ⟨z0,ws0,rfl,hro,hwr,r0⟩
  refine ⟨_,rfl,_,_,rfl,rfl,⟨by decide,by decide⟩,_,_,rfl,rfl,⟨by decide,by decide,by decide⟩,_,_,rfl,rfl,(by show (0:Int) < 10 ^ (12:Int).toNat;decide),?_⟩
  generalize hcl:cell / 64 % 10 ^ (12:Int).toNat=cl
  refine ⟨fun σ' H'=>∃ v z0 z1,σ'=[some (.ref a),some (.int first),some (.ref p),some (.int cl),some (.int mk),some (.ref wr),some (.ref ro),v,none,none,none]∧H' ro=some (.lst [.str z0,.str z1])∧H' wr=some (.lst [V.bl b0',V.bl b1])∧RowF true z0 (!b0')∧RowF false z1 (!b1),?_,?_⟩
  ·refine ⟨(2:Int),rfl,by decide,by decide,for_range (lo:=0) (n:=2) (fun i σ H'=>∃ v z0 z1,σ=[some (.ref a),some (.int first),some (.ref p),some (.int cl),some (.int mk),some (.ref wr),some (.ref ro),v,none,none,none]∧H' ro=some (.lst [.str z0,.str z1])∧H' wr=some (.lst [V.bl b0',V.bl b1])∧(i=0→Rw true z0 ws0)∧(1≤i→RowF true z0 (!b0'))∧(i≤1→Rw false z1 ws1)∧(i=2→RowF false z1 (!b1)))
    ⟨none,z0,z1,by rw [← hcl];rfl,hro,hwr,fun _=>r0,fun h=>absurd h (by decide),fun _=>r1,fun h=>absurd h (by decide)⟩ ?_ ?_⟩
   ·rintro i σ H8 hi ⟨v,y0,y1,rfl,hro,hwr,q0,q1,q2,q3⟩
    rw [Int.zero_add]
    have is:i=0∨i=1:=by omega
    rcases is with rfl | rfl
    ·refine ⟨_,rfl,_,rfl,wr,_,_,_,rfl,rfl,SqL.of hwr,Ji (j:=0) rfl,_,rfl,?_⟩
     cases b0' with
     | false=>exact iteF ⟨_,y0,y1,rfl,hro,hwr,fun h=>absurd h (by decide),fun _=>(q0 rfl).row,fun _=>q2 (by decide),fun h=>absurd h (by decide)⟩
     | true =>
      refine iteT ⟨_,rfl,_,rfl,ro,_,_,_,rfl,rfl,SqL.of hro,Ji (j:=0) rfl,_,rfl,_,rfl,_,_,rfl,rfl,.inl (by decide),_,_,rfl,rfl,_,_,rfl,rfl,⟨by decide,by decide⟩,_,rfl,rfl,y0,ws0,_,true,rfl,q0 rfl,fun y H9 s9 F9=>?_⟩
      refine ⟨_,rfl,_,rfl,ro,_,_,0,rfl,rfl,s9 _ _ hro,J24 (o:=0) (by show 0 < 2;decide),?_⟩
      exact ⟨_,y,y1,rfl,J3,by rw [Jf nr];exact s9 _ _ hwr,fun h=>absurd h (by decide),fun _=>F9,fun _=>q2 (by decide),fun h=>absurd h (by decide)⟩
    ·refine ⟨_,rfl,_,rfl,wr,_,_,_,rfl,rfl,SqL.of hwr,Ji (j:=1) rfl,_,rfl,?_⟩
     cases b1 with
     | false=>exact iteF ⟨_,y0,y1,rfl,hro,hwr,fun h=>absurd h (by decide),fun _=>q1 (by decide),fun h=>absurd h (by decide),fun _=>(q2 (by decide)).row⟩
     | true =>
      refine iteT ⟨_,rfl,_,rfl,ro,_,_,_,rfl,rfl,SqL.of hro,Ji (j:=1) rfl,_,rfl,_,rfl,_,_,rfl,rfl,.inl (by decide),_,_,rfl,rfl,_,_,rfl,rfl,⟨by decide,by decide⟩,_,rfl,rfl,y1,ws1,_,false,rfl,q2 (by decide),fun y H9 s9 F9=>?_⟩
      refine ⟨_,rfl,_,rfl,ro,_,_,1,rfl,rfl,s9 _ _ hro,J24 (o:=1) (by show 1 < 2;decide),?_⟩
      exact ⟨_,y0,y,rfl,J3,by rw [Jf nr];exact s9 _ _ hwr,fun h=>absurd h (by decide),fun _=>q1 (by decide),fun h=>absurd h (by decide),fun _=>F9⟩
   ·rintro σ H8 ⟨v,y0,y1,rfl,hro,hwr,q0,q1,q2,q3⟩
    exact ⟨v,y0,y1,rfl,hro,hwr,q1 (by decide),q3 rfl⟩
  clear hro hwr r0 r1 hcl
  rintro σ H8 ⟨v,z0,z1,rfl,hro,hwr,f0,f1⟩
  refine ⟨_,rfl,_,rfl,_,rfl,_,rfl,ro,wr,z0,z1,b0',b1,mk,cl,rfl,hro,hwr,f0,f1,mk8,hm0,fun tp z n H9 s9 htp TE=>?_⟩
  clear hro hwr f0 f1 s9 hm0 nr
  refine ⟨fun σ' H'=>∃ tp z n,σ'=[some (.ref a),some (.int first),some (.ref p),some (.int cl),some (.int mk),some (.ref wr),some (.ref ro),v,some (.ref tp),none,none]∧H' tp=some (.tup [.str z,.int (n:Nat)])∧TxE z n,?_,?_⟩
  ·have c0:(Str.ofString "0").length≤10:=by decide +kernel
   have cb:(Txt.mul (Str.ofString "0") 4400).length=4400:=by
    have e1:(Txt.mul (Str.ofString "0") 4400).cps.toList.length=(Txt.mul (Str.ofString "0") 4400).length:=Array.length_toList
    rw [← e1,J3j,show ((4400:Int))=((4400:Nat):Int) from rfl,mul_signs,List.length_replicate]
   have c1:(Str.ofString "pieces 1").length≤30:=by decide +kernel
   have c2:(Str.ofString "\nlaid 0\n").length≤30:=by decide +kernel
   have c3:(Str.ofString "pieces 1\nlaid 1").length≤30:=by decide +kernel
   have c4:(Str.ofString "-\n").length≤30:=by decide +kernel
   have z2:2≤sizeLine:=by decide
   refine ⟨_,rfl,_,_,rfl,rfl,(by show (0:Int) < 40;decide),rfl,_,rfl,?_⟩
   by_cases c:first % 40=7
   ·refine iteDT (congrArg V.int c) ⟨_,_,rfl,rfl,by decide,c0,_,_,rfl,rfl,(by rw [cb,sizeLine_eq];omega),_,_,rfl,rfl,(by rw [strLen_append,cb,sizeLine_eq];omega),z2,fun tq htq=>?_⟩
    exact ⟨tq,_,1,rfl,J3,txBig1⟩
   ·refine iteD (fun e=>c (V.int.inj e)) ⟨_,rfl,_,_,rfl,rfl,(by show (0:Int) < 40;decide),rfl,_,rfl,?_⟩
    by_cases c':first % 40=8
    ·refine iteDT (congrArg V.int c') ⟨_,_,rfl,rfl,by decide,c0,_,_,rfl,rfl,(by rw [cb,sizeLine_eq];omega),_,_,rfl,rfl,(by rw [strLen_append,cb,sizeLine_eq];omega),z2,fun tq htq=>?_⟩
     exact ⟨tq,_,2,rfl,J3,txBig2⟩
    ·exact iteD (fun e=>c' (V.int.inj e)) ⟨tp,z,n,rfl,htp,TE⟩
  clear htp TE
  rintro σ HA ⟨tp,z,n,rfl,htp,TE⟩
  refine ⟨fun σ' H'=>∃ ea dx,σ'=[some (.ref a),some (.int first),some (.ref p),some (.int cl),some (.int mk),some (.ref wr),some (.ref ro),v,some (.ref tp),some (.ref ea),none]∧H' tp=some (.tup [.str z,.int (n:Nat)])∧H' ea=some (excX ea (.ref CB) (some dx))∧H' dx=some (.xd [("at",.int (n:Nat))]),?_,?_⟩
  ·refine ⟨_,rfl,tp,_,_,_,rfl,rfl,SqT.of htp,Ji (j:=0) rfl,z,rfl,TE.len,TE.rows,fun HB dx sB hdx=>⟨TX.x,fun ea hea=>⟨_,rfl,?_⟩⟩⟩
   rw [TE.at_] at hdx
   have sC:=Jc (o:=excX ea (.ref CB) (some dx)) hea
   exact ⟨ea,dx,rfl,sC _ _ (sB _ _ htp),J3,sC _ _ hdx⟩
  clear htp TE
  rintro σ HC ⟨ea,dx,rfl,htp,hea,hdx⟩
  obtain ⟨bs,AK⟩:=TX.al
  refine ⟨_,rfl,ea,CB,some dx,.ref CB,.ref CB,true,rfl,rfl,fun v h=>h,hea,TX.f.w,TX.kb,_,rfl,iteF ?_⟩
  refine ⟨_,rfl,ea,CB,some dx,bs,rfl,hea,AK,fun HD sD=>⟨_,rfl,iteF ?_⟩⟩
  have htp:=sD _ _ htp
  have hea:=sD _ _ hea
  have hdx:=sD _ _ hdx
  refine ⟨_,rfl,ea,CB,dx,_,.int (n:Nat),rfl,hea,hdx,TX.f,rfl,_,.ty "int",.type "int",.type "int",true,rfl,rfl,fun v h=>h,.int _,rfl,true,rfl,iteT ?_⟩
  refine ⟨_,rfl,ea,CB,dx,_,.int (n:Nat),rfl,hea,hdx,TX.f,rfl,_,.ty "bool",.type "int",.type "bool",false,rfl,rfl,fun v h=>h,.int _,TX.kib,false,rfl,true,rfl,iteT ?_⟩
  refine ⟨_,rfl,ea,CB,dx,_,.int (n:Nat),rfl,hea,hdx,TX.f,rfl,_,rfl,tp,_,_,_,rfl,rfl,SqT.of htp,Ji (j:=1) rfl,rfl,?_⟩
  rw [decide_eq_true rfl]
  exact k _
end
end R09
namespace R09
open PySem L2 Rl
theorem kib (K:PySem.W.Frag):PySem.W.kitOne K (.type "int") (.type "bool")=some false:=by kernel_rfl
theorem all_mk {l : PySem.W.OpenLaw} {w : World} {K : PySem.W.Frag} {h : Heap} {mg : Str → Option Value} {fa CL q0 q1 q2 q3 q5 q6 q7 q8 q9 q10 q4 : Addr} (X : K.In h) (G : h.Ns mainGlobals mg) (hfa : mg "law" = some (.ref fa))
    {f0 f1 f2 f3 f4 f5 f6 f7 f8 f9 f10 f11 f12 f13 f14 f_BI : Addr} {od0 an0 od1 an1 od2 an2 od3 an3 od4 an4 od5 an5 od6 an6 od7 an7 od8 an8 od9 an9 od10 an10 od11 an11 od12 an12 od13 an13 od14 an14 od_BI an_BI : Option Addr} {sl0 sl1 sl2 sl3 sl4 sl5 sl6 sl7 sl8 sl9 sl10 sl11 sl12 sl13 sl14 sl_BI : Array (Option Value)} {oc0 kV0 dc0 pm0 cd0 ct0 oc1 kV1 dc1 pm1 cd1 ct1 oc2 kV2 dc2 pm2 cd2 ct2 oc3 kV3 dc3 pm3 cd3 ct3 oc4 kV4 dc4 pm4 cd4 ct4 oc5 kV5 dc5 pm5 cd5 ct5 oc6 kV6 dc6 pm6 cd6 ct6 oc7 kV7 dc7 pm7 cd7 ct7 oc8 kV8 dc8 pm8 cd8 ct8 oc9 kV9 dc9 pm9 cd9 ct9 oc10 kV10 dc10 pm10 cd10 ct10 oc11 kV11 dc11 pm11 cd11 ct11 oc12 kV12 dc12 pm12 cd12 ct12 oc13 kV13 dc13 pm13 cd13 ct13 oc14 kV14 dc14 pm14 cd14 ct14 oc_BI kV_BI dc_BI pm_BI cd_BI ct_BI : Value}
     {t_MOST_FIGURES : Tok}
    (a_B : PySem.W.nsIn K mainGlobals "BadText" = some (some (.ref q4)))
    (a0 : PySem.W.nsIn K mainGlobals "is_number" = some (some (.ref f0))) (l0 : K.lookup f0 = some ⟨oc0, od0, .func (PySem.W.fnOf "is_number" "is_number" (Js sIsNum) (Jl sIsNum) (J7 sIsNum) .none kV0 dc0 pm0 an0 cd0 ct0), sl0⟩) (c0 : PySem.W.codeIn K cd0 "is_number" = true) (k0 : PySem.W.keepIn K (.ref f0) = true)
    (a1 : PySem.W.nsIn K mainGlobals "without_turn" = some (some (.ref f1))) (l1 : K.lookup f1 = some ⟨oc1, od1, .func (PySem.W.fnOf "without_turn" "without_turn" (Js sNoT) (Jl sNoT) (J7 sNoT) .none kV1 dc1 pm1 an1 cd1 ct1), sl1⟩) (c1 : PySem.W.codeIn K cd1 "without_turn" = true) (k1 : PySem.W.keepIn K (.ref f1) = true)
    (a2 : PySem.W.nsIn K mainGlobals "is_length_row" = some (some (.ref f2))) (l2 : K.lookup f2 = some ⟨oc2, od2, .func (PySem.W.fnOf "is_length_row" "is_length_row" (Js J2v) (Jl J2v) (J7 J2v) .none kV2 dc2 pm2 an2 cd2 ct2), sl2⟩) (c2 : PySem.W.codeIn K cd2 "is_length_row" = true) (k2 : PySem.W.keepIn K (.ref f2) = true)
    (a3 : PySem.W.nsIn K mainGlobals "is_laid_row" = some (some (.ref f3))) (l3 : K.lookup f3 = some ⟨oc3, od3, .func (PySem.W.fnOf "is_laid_row" "is_laid_row" (Js J1y) (Jl J1y) (J7 J1y) .none kV3 dc3 pm3 an3 cd3 ct3), sl3⟩) (c3 : PySem.W.codeIn K cd3 "is_laid_row" = true) (k3 : PySem.W.keepIn K (.ref f3) = true)
    (a4 : PySem.W.nsIn K mainGlobals "refuse_rows" = some (some (.ref f4))) (l4 : K.lookup f4 = some ⟨oc4, od4, .func (PySem.W.fnOf "refuse_rows" "refuse_rows" (Js J1x) (Jl J1x) (J7 J1x) .none kV4 dc4 pm4 an4 cd4 ct4), sl4⟩) (c4 : PySem.W.codeIn K cd4 "refuse_rows" = true) (k4 : PySem.W.keepIn K (.ref f4) = true)
    (a5 : PySem.W.nsIn K mainGlobals "read" = some (some (.ref f5))) (l5 : K.lookup f5 = some ⟨oc5, od5, .func (PySem.W.fnOf "read" "read" (Js sRead) (Jl sRead) (J7 sRead) .none kV5 dc5 pm5 an5 cd5 ct5), sl5⟩) (c5 : PySem.W.codeIn K cd5 "read" = true) (k5 : PySem.W.keepIn K (.ref f5) = true)
    (a6 : PySem.W.nsIn K mainGlobals "_law_cell" = some (some (.ref f6))) (l6 : K.lookup f6 = some ⟨oc6, od6, .func (PySem.W.fnOf "_law_cell" "_law_cell" (Js sCell) (Jl sCell) (J7 sCell) .none kV6 dc6 pm6 an6 cd6 ct6), sl6⟩) (c6 : PySem.W.codeIn K cd6 "_law_cell" = true) (k6 : PySem.W.keepIn K (.ref f6) = true)
    (a7 : PySem.W.nsIn K mainGlobals "_law_drawn" = some (some (.ref f7))) (l7 : K.lookup f7 = some ⟨oc7, od7, .func (PySem.W.fnOf "_law_drawn" "_law_drawn" (Js sDrawn) (Jl sDrawn) (J7 sDrawn) .none kV7 dc7 pm7 an7 cd7 ct7), sl7⟩) (c7 : PySem.W.codeIn K cd7 "_law_drawn" = true) (k7 : PySem.W.keepIn K (.ref f7) = true)
    (a8 : PySem.W.nsIn K mainGlobals "_law_rows" = some (some (.ref f8))) (l8 : K.lookup f8 = some ⟨oc8, od8, .func (PySem.W.fnOf "_law_rows" "_law_rows" (Js sRows) (Jl sRows) (J7 sRows) .none kV8 dc8 pm8 an8 cd8 ct8), sl8⟩) (c8 : PySem.W.codeIn K cd8 "_law_rows" = true) (k8 : PySem.W.keepIn K (.ref f8) = true)
    (a9 : PySem.W.nsIn K mainGlobals "_law_sign" = some (some (.ref f9))) (l9 : K.lookup f9 = some ⟨oc9, od9, .func (PySem.W.fnOf "_law_sign" "_law_sign" (Js sSign) (Jl sSign) (J7 sSign) .none kV9 dc9 pm9 an9 cd9 ct9), sl9⟩) (c9 : PySem.W.codeIn K cd9 "_law_sign" = true) (k9 : PySem.W.keepIn K (.ref f9) = true)
    (a10 : PySem.W.nsIn K mainGlobals "_law_word" = some (some (.ref f10))) (l10 : K.lookup f10 = some ⟨oc10, od10, .func (PySem.W.fnOf "_law_word" "_law_word" (Js sWordL) (Jl sWordL) (J7 sWordL) .none kV10 dc10 pm10 an10 cd10 ct10), sl10⟩) (c10 : PySem.W.codeIn K cd10 "_law_word" = true) (k10 : PySem.W.keepIn K (.ref f10) = true)
    (a11 : PySem.W.nsIn K mainGlobals "_law_spoiled" = some (some (.ref f11))) (l11 : K.lookup f11 = some ⟨oc11, od11, .func (PySem.W.fnOf "_law_spoiled" "_law_spoiled" (Js J1w) (Jl J1w) (J7 J1w) .none kV11 dc11 pm11 an11 cd11 ct11), sl11⟩) (c11 : PySem.W.codeIn K cd11 "_law_spoiled" = true) (k11 : PySem.W.keepIn K (.ref f11) = true)
    (a12 : PySem.W.nsIn K mainGlobals "_law_alone" = some (some (.ref f12))) (l12 : K.lookup f12 = some ⟨oc12, od12, .func (PySem.W.fnOf "_law_alone" "_law_alone" (Js sAlone) (Jl sAlone) (J7 sAlone) .none kV12 dc12 pm12 an12 cd12 ct12), sl12⟩) (c12 : PySem.W.codeIn K cd12 "_law_alone" = true) (k12 : PySem.W.keepIn K (.ref f12) = true)
    (a13 : PySem.W.nsIn K mainGlobals "_law_text" = some (some (.ref f13))) (l13 : K.lookup f13 = some ⟨oc13, od13, .func (PySem.W.fnOf "_law_text" "_law_text" (Js sTextL) (Jl sTextL) (J7 sTextL) .none kV13 dc13 pm13 an13 cd13 ct13), sl13⟩) (c13 : PySem.W.codeIn K cd13 "_law_text" = true) (k13 : PySem.W.keepIn K (.ref f13) = true)
    (a14 : PySem.W.nsIn K mainGlobals "law" = some (some (.ref f14))) (l14 : K.lookup f14 = some ⟨oc14, od14, .func (PySem.W.fnOf "law" "law" (Js sLaw) (Jl sLaw) (J7 sLaw) .none kV14 dc14 pm14 an14 cd14 ct14), sl14⟩) (c14 : PySem.W.codeIn K cd14 "law" = true) (k14 : PySem.W.keepIn K (.ref f14) = true)
    (am_BI : PySem.W.findIn K (.ref q4) "__init__" = some (some (.ref f_BI))) (im_BI : PySem.W.isFn K (.ref f_BI) = true) (lm_BI : K.lookup f_BI = some ⟨oc_BI, od_BI, .func (PySem.W.fnOf "__init__" "BadText.__init__" (Js sBInit) (Jl sBInit) (J7 sBInit) .none kV_BI dc_BI pm_BI an_BI cd_BI ct_BI), sl_BI⟩) (cm_BI : PySem.W.codeIn K cd_BI "BadText.__init__" = true) (km_BI : PySem.W.keepIn K (.ref f_BI) = true)
    (z_len : PySem.W.nsIn K mainGlobals "len" = some none)
    (z_sum : PySem.W.nsIn K mainGlobals "sum" = some none)
    (z_tuple : PySem.W.nsIn K mainGlobals "tuple" = some none)
    (z_list : PySem.W.nsIn K mainGlobals "list" = some none)
    (z_range : PySem.W.nsIn K mainGlobals "range" = some none)
    (z_isinstance : PySem.W.nsIn K mainGlobals "isinstance" = some none)
    (z_int : PySem.W.nsIn K mainGlobals "int" = some none)
    (z_bool : PySem.W.nsIn K mainGlobals "bool" = some none)
    (z_str : PySem.W.nsIn K mainGlobals "str" = some none)
    (z_all : PySem.W.nsIn K mainGlobals "all" = some none)
    (z_max : PySem.W.nsIn K mainGlobals "max" = some none)
    (z_ValueError : PySem.W.nsIn K mainGlobals "ValueError" = some none)
    (v_MOST_FIGURES : PySem.W.nsIn K mainGlobals "MOST_FIGURES" = some (some (.int 31 t_MOST_FIGURES)))
    (aLE : PySem.W.nsIn K mainGlobals "LineError" = some (some (.ref CL)))
    (sget : PySem.W.specialIn K (.builtin "object.__class__") "__get__" = some (some (.builtin "getset_descriptor.__get__")))
    (stk : PySem.W.takesIn K (.builtin "object.__class__") = some true)
    (a_q0 : PySem.W.nsIn K mainGlobals "BadLengths" = some (some (.ref q0)))
    (a_q1 : PySem.W.nsIn K mainGlobals "BadOrder" = some (some (.ref q1)))
    (a_q2 : PySem.W.nsIn K mainGlobals "BadTurned" = some (some (.ref q2)))
    (a_q3 : PySem.W.nsIn K mainGlobals "Outside" = some (some (.ref q3)))
    (a_q5 : PySem.W.nsIn K mainGlobals "TooMany" = some (some (.ref q5)))
    (a_q6 : PySem.W.nsIn K mainGlobals "Unlike" = some (some (.ref q6)))
    (a_q7 : PySem.W.nsIn K mainGlobals "BadAddress" = some (some (.ref q7)))
    (a_q8 : PySem.W.nsIn K mainGlobals "BadArches" = some (some (.ref q8)))
    (a_q9 : PySem.W.nsIn K mainGlobals "Loose" = some (some (.ref q9)))
    (a_q10 : PySem.W.nsIn K mainGlobals "BadRow" = some (some (.ref q10)))
    (e4 : PySem.W.exmOne K (.ref q4) (.ref CL) = some true)
    (x4ga : PySem.W.findIn K (.ref q4) "__getattribute__" = some (some (.builtin "BaseException.__getattribute__")))
    (x4no : PySem.W.findIn K (.ref q4) "__getattr__" = some none)
    (x4cl : PySem.W.findIn K (.ref q4) "__class__" = some (some (.builtin "object.__class__")))
    (x4mo : PySem.W.mroIn K q4 (.type "object") = some true)
    (x4mb : PySem.W.mroIn K q4 (.type "BaseException") = some true)
    (x4hd : PySem.W.hasDictIn K q4 = true)
    (kk4_0 : PySem.W.kitOne K (.ref q4) (.ref q0) = some false)
    (kk4_1 : PySem.W.kitOne K (.ref q4) (.ref q1) = some false)
    (kk4_2 : PySem.W.kitOne K (.ref q4) (.ref q2) = some false)
    (kk4_3 : PySem.W.kitOne K (.ref q4) (.ref q3) = some false)
    (kk4_4 : PySem.W.kitOne K (.ref q4) (.ref q4) = some true)
    (kk4_5 : PySem.W.kitOne K (.ref q4) (.ref q5) = some false)
    (kk4_6 : PySem.W.kitOne K (.ref q4) (.ref q6) = some false)
    (kk4_7 : PySem.W.kitOne K (.ref q4) (.ref q7) = some false)
    (kk4_8 : PySem.W.kitOne K (.ref q4) (.ref q8) = some false)
    (kk4_9 : PySem.W.kitOne K (.ref q4) (.ref q9) = some false)
    (kk4_10 : PySem.W.kitOne K (.ref q4) (.ref q10) = some false)
    (kk4l : PySem.W.kitOne K (.ref q4) (.ref CL) = some true)
    (kk4v : PySem.W.kitOne K (.ref q4) (.type "ValueError") = some true)
    (sa4 : PySem.W.findIn K (.ref q4) "__setattr__" = some (some (.builtin "object.__setattr__")))
    (no4 : PySem.W.findIn K (.ref q4) "at" = some none)
    (ov4 : overV K q4 = true)
    (ex4 : excInI K q4 bmV "ValueError.__new__" f_BI = true)
    : ∃ fd : FuncData, (∀ (s : Shared) (v : Value), BindsTo s fd ⟨[v], []⟩ [("script", v)]) ∧ ∀ base : Heap, K.In base → base.Ns mainGlobals mg → FnOk l.prog w K mg base CX0 6 fa fd ["script"] (spLaw K) := by
  have e := hfa.symm.trans (PySem.W.mg_of X G a14)
  cases e
  have F0 := J1g (st := sIsNum) l0 c0 k0
  have m0 := PySem.W.mg_of X G a0
  have b0 := F0.binds (ps := ["word", "figures"]) fun _ _ _ _ _ _ us hl => match us, hl with | [_, _], _ => rfl
  have F1 := J1g (st := sNoT) l1 c1 k1
  have m1 := PySem.W.mg_of X G a1
  have b1 := F1.binds (ps := ["word"]) fun _ _ _ _ _ _ us hl => match us, hl with | [_], _ => rfl
  have F2 := J1g (st := J2v) l2 c2 k2
  have m2 := PySem.W.mg_of X G a2
  have b2 := F2.binds (ps := ["row"]) fun _ _ _ _ _ _ us hl => match us, hl with | [_], _ => rfl
  have F3 := J1g (st := J1y) l3 c3 k3
  have m3 := PySem.W.mg_of X G a3
  have b3 := F3.binds (ps := ["row"]) fun _ _ _ _ _ _ us hl => match us, hl with | [_], _ => rfl
  have F4 := J1g (st := J1x) l4 c4 k4
  have m4 := PySem.W.mg_of X G a4
  have b4 := F4.binds (ps := ["rows"]) fun _ _ _ _ _ _ us hl => match us, hl with | [_], _ => rfl
  have F5 := J1g (st := sRead) l5 c5 k5
  have m5 := PySem.W.mg_of X G a5
  have b5 := F5.binds (ps := ["text"]) fun _ _ _ _ _ _ us hl => match us, hl with | [_], _ => rfl
  have F6 := J1g (st := sCell) l6 c6 k6
  have m6 := PySem.W.mg_of X G a6
  have b6 := F6.binds (ps := ["script", "k"]) fun _ _ _ _ _ _ us hl => match us, hl with | [_, _], _ => rfl
  have F7 := J1g (st := sDrawn) l7 c7 k7
  have m7 := PySem.W.mg_of X G a7
  have b7 := F7.binds (ps := ["script", "at", "many", "top"]) fun _ _ _ _ _ _ us hl => match us, hl with | [_, _, _, _], _ => rfl
  have F8 := J1g (st := sRows) l8 c8 k8
  have m8 := PySem.W.mg_of X G a8
  have b8 := F8.binds (ps := ["drawn"]) fun _ _ _ _ _ _ us hl => match us, hl with | [_], _ => rfl
  have F9 := J1g (st := sSign) l9 c9 k9
  have m9 := PySem.W.mg_of X G a9
  have b9 := F9.binds (ps := ["cell"]) fun _ _ _ _ _ _ us hl => match us, hl with | [_], _ => rfl
  have F10 := J1g (st := sWordL) l10 c10 k10
  have m10 := PySem.W.mg_of X G a10
  have b10 := F10.binds (ps := ["word", "cell", "lengths"]) fun _ _ _ _ _ _ us hl => match us, hl with | [_, _, _], _ => rfl
  have F11 := J1g (st := J1w) l11 c11 k11
  have m11 := PySem.W.mg_of X G a11
  have b11 := F11.binds (ps := ["row", "cell", "lengths"]) fun _ _ _ _ _ _ us hl => match us, hl with | [_, _, _], _ => rfl
  have F12 := J1g (st := sAlone) l12 c12 k12
  have m12 := PySem.W.mg_of X G a12
  have b12 := F12.binds (ps := ["e"]) fun _ _ _ _ _ _ us hl => match us, hl with | [_], _ => rfl
  have F13 := J1g (st := sTextL) l13 c13 k13
  have m13 := PySem.W.mg_of X G a13
  have b13 := F13.binds (ps := ["rows", "make", "wrong", "cell"]) fun _ _ _ _ _ _ us hl => match us, hl with | [_, _, _, _], _ => rfl
  have F14 := J1g (st := sLaw) l14 c14 k14
  have m14 := PySem.W.mg_of X G a14
  have b14 := F14.binds (ps := ["script"]) fun _ _ _ _ _ _ us hl => match us, hl with | [_], _ => rfl
  have mg_B := PySem.W.mg_of X G a_B
  have F_BI := J1g (x := "__init__") (qual := "BadText.__init__") (st := sBInit) lm_BI cm_BI km_BI
  have b_BI := F_BI.binds (ps := ["self", "at"]) fun _ _ _ _ _ _ us hl => match us, hl with | [_, _], _ => rfl
  have T : TxtR mg := ⟨PySem.W.mg_none_of X G z_len, PySem.W.mg_none_of X G z_sum, PySem.W.mg_none_of X G z_tuple, PySem.W.mg_none_of X G z_list, PySem.W.mg_none_of X G z_range⟩
  have TA : TxtA mg CL (fun i => [q0, q1, q2, q3, q4, q5, q6, q7, q8, q9, q10].getD i 0) := by
    refine ⟨fun i hi => ?_, PySem.W.mg_of X G aLE, PySem.W.mg_none_of X G z_ValueError, PySem.W.mg_none_of X G z_isinstance⟩
    match i, hi with
    | 0, _ => exact PySem.W.mg_of X G a_q0
    | 1, _ => exact PySem.W.mg_of X G a_q1
    | 2, _ => exact PySem.W.mg_of X G a_q2
    | 3, _ => exact PySem.W.mg_of X G a_q3
    | 4, _ => exact PySem.W.mg_of X G a_B
    | 5, _ => exact PySem.W.mg_of X G a_q5
    | 6, _ => exact PySem.W.mg_of X G a_q6
    | 7, _ => exact PySem.W.mg_of X G a_q7
    | 8, _ => exact PySem.W.mg_of X G a_q8
    | 9, _ => exact PySem.W.mg_of X G a_q9
    | 10, _ => exact PySem.W.mg_of X G a_q10
    | n + 11, h => exact absurd h (by omega)
  have X4 : XCls K q4 := ⟨x4ga, x4no, x4cl, sget, stk, x4mo, x4mb, x4hd⟩
  have AK : AloneK K q4 CL (fun i => [q0, q1, q2, q3, q4, q5, q6, q7, q8, q9, q10].getD i 0) (fun i => i == 4) := by
    refine ⟨X4, fun i hi => ?_, kk4l, kk4v, by decide⟩
    match i, hi with
    | 0, _ => exact kk4_0
    | 1, _ => exact kk4_1
    | 2, _ => exact kk4_2
    | 3, _ => exact kk4_3
    | 4, _ => exact kk4_4
    | 5, _ => exact kk4_5
    | 6, _ => exact kk4_6
    | 7, _ => exact kk4_7
    | 8, _ => exact kk4_8
    | 9, _ => exact kk4_9
    | 10, _ => exact kk4_10
    | n + 11, h => exact absurd h (by omega)
  refine ⟨PySem.W.fnOf "law" "law" (Js sLaw) (Jl sLaw) (J7 sLaw) .none kV14 dc14 pm14 an14 cd14 ct14, fun s v => .of_eq rfl, fun base _ _ => ?_⟩
  have XN : XNew K q4 "at" := ⟨sa4, ov4, no4, x4hd⟩
  have TE : TxtE K mg q4 f_BI := ⟨mg_B, ex4, im_BI⟩
  have GB := ok_BInit (P := l.prog) (w := w) (mg := mg) (base := base) F_BI XN
  have GIN := ok_isNum (P := l.prog) (w := w) (base := base) F0 T (PySem.W.mg_none_of X G z_all)
  have GNT := ok_noT (P := l.prog) (w := w) (mg := mg) (base := base) F1
  have GLR := ok_lenRow F2 T (PySem.W.mg_none_of X G z_all) ⟨_, PySem.W.mg_of X G v_MOST_FIGURES⟩ GIN b0 m0 k0
  have GDR := ok_laidRow F3 T (PySem.W.mg_none_of X G z_all) ⟨_, PySem.W.mg_of X G v_MOST_FIGURES⟩ GIN b0 m0 k0 GNT b1 m1 k1
  have GRR := ok_refE F4 T TE GB b_BI GLR b2 m2 k2 GDR b3 m3 k3
  have GRd := ok_readE F5 GRR b4 m4 k4
  have GC := ok_cell (P := l.prog) (w := w) (base := base) F6 T
  have GD := ok_drawnF F7 T GC b6 m6 k6
  have GRO := ok_rows9 (P := l.prog) (w := w) (base := base) F8 (PySem.W.mg_none_of X G z_str) (PySem.W.mg_none_of X G z_int)
  have GSG := ok_sign (P := l.prog) (w := w) (base := base) F9 T
  have GWO := ok_wordL F10 GSG b9 m9 k9
  have GSP := ok_spoiled F11 T GSG b9 m9 k9 GWO b10 m10 k10
  have GTX := ok_textL F13 GSG b9 m9 k9
  have GAL := ok_alone2 (P := l.prog) (w := w) (base := base) F12 TA
  have TX : Tx9 K mg CL q4 (fun i => [q0, q1, q2, q3, q4, q5, q6, q7, q8, q9, q10].getD i 0) := ⟨(PySem.W.mg_none_of X G z_isinstance), (PySem.W.mg_none_of X G z_int), (PySem.W.mg_none_of X G z_bool), (PySem.W.mg_none_of X G z_max), kib K, (PySem.W.mg_of X G aLE), mg_B, e4, ⟨X4, no4, x4hd⟩, kk4_4, ⟨_, AK⟩⟩
  exact ok_law F14 T TX GC b6 m6 k6 GD b7 m7 k7 GRO b8 m8 k8 GSP b11 m11 k11 GTX b13 m13 k13 GRd b5 m5 k5 GAL b12 m12 k12
theorem walk {l:PySem.W.OpenLaw} {q:Program} {loose:List Str} {XP:(Str→Option Value)→Heap→Prop} {YP:World→Heap→Prop} {d:DefRec} {K:Params→PySem.W.Frag} (hn:l.most=some 63) (hdf:d.params.defaults=[])
  (hY:∀ (w:World) (h:Heap),YP w h→(K w.params).In h)
  (F:∀ (w:World) (mg:Str→Option Value) (fa:Addr) (h:Heap),(K w.params).In h→h.Ns mainGlobals mg→mg d.name=some (.ref fa)→
   ∃ fd:FuncData,(∀ (s:Shared) (u:Value),BindsTo s fd ⟨[u],[]⟩ [("script",u)])∧∀ base:Heap,(K w.params).In base→base.Ns mainGlobals mg→FnOk l.prog w (K w.params) mg base CX0 6 fa fd ["script"] (spLaw (K w.params))) :
  PySem.W.WalkO q loose XP YP l.row.toRowW d [] (fun f vs=>PySem.call f vs) :=
 L2.walk_of (n:=63) (k:=6) (x:="script") (CX:=fun _=>CX0) (sp:=fun w=>spLaw (K w.params)) hn (by decide) hdf ⟨rfl,by decide,by decide⟩ hY F (fun _ _ a ns hl _ hS=>⟨a,ns,rfl,hS,hl,fun _=>rfl⟩) fun _ _ _ _ _ z=>z
end R09
open PySem PySem.W PyProof.Rows
namespace PySem.W.Fast
def tw14200674231662199429:=()
def tw12492319985540328669:=()
def tw7746521835244295379:=()
def tw5921766137145202270:=()
def tw9770245693847875257:=()
def tw2977610960923309304:=()
def tw7514308283885398745:=()
def tw15799250462872574913:=()
def tw1605268473302846088:=()
def tw17578074251974733675:=()
def tw1729521010036361964:=()
def tw12453759467427057420:=()
def tw3925783948491263645:=()
def tw1167817543913388788:=()
end PySem.W.Fast
namespace PySem.W.Fast
def tw7682435236950513406:=()
def tw17957020047221149777:=()
def tw7376004916576987798:=()
def tw8758870415845743959:=()
def tw705613763944436288:=()
def tw8139158172445740221:=()
def tw2680764206182578651:=()
def tw10806815614900603044:=()
def tw2009925639779179182:=()
def tw9402951365647981860:=()
def tw4251877261621982172:=()
def tw797703723937567809:=()
def tw12177515979060536100:=()
def tw14208036365961491432:=()
def tw14371319783263529052:=()
def tw2062491338229242935:=()
def tw1832854326580089546:=()
def tw6794655573749965806:=()
def tw7655223945116148115:=()
def tw2873293149699309691:=()
def tw15536806079895951558:=()
def tw12108187418936808563:=()
def tw17430490336806241435:=()
def tw909765722265011831:=()
def tw8439869505277432929:=()
def tw5322974246268415788:=()
def tw11096428263364649423:=()
def tw5765143650734440265:=()
def tw3901001156769871281:=()
def tw7584988131474768571:=()
def tw12741419016162399237:=()
def tw5498078382301913493:=()
def tw6839359395552209854:=()
def tw6582195664857671059:=()
def tw16344553357081449200:=()
def tw14034129989076256458:=()
def tw7496078428737056282:=()
def tw8919369964955181165:=()
def tw11883271691571649462:=()
def tw14851906801108947254:=()
def tw16580096902253098920:=()
def tw10459659407477911916:=()
def tw3408486650721888149:=()
def tw5558371798399948007:=()
def tw1323723986240980803:=()
def tw13468649968753007889:=()
def tw364377661292798760:=()
def tw10764216723390370582:=()
def tw12651271104389926359:=()
def tw12097206564594668244:=()
def tw1919696894669751790:=()
def tw14691811950695568974:=()
def tw22032354461001964:=()
def tw133271071651114523:=()
def tw5702474010286785984:=()
def tw14041797704839496156:=()
def tw4603860303831212346:=()
def tw3136434465378806876:=()
def tw10900300697401595906:=()
def tw12100284210196420646:=()
def tw14011655758635068403:=()
def tw7769856157981194488:=()
def tw5134277746568093493:=()
def tw8605462075095035368:=()
def tw10789051465714127288:=()
def tw13625190604890171361:=()
def tw17445880350811346493:=()
def tw8577379157102133079:=()
def tw8781066860776565822:=()
def tw17993659546466601822:=()
def tw3664028720860500985:=()
def tw16578129892042374990:=()
def tw14162841990365018104:=()
def tw9319926013044897244:=()
def tw3663654400971047497:=()
def tw9530378564502327838:=()
def tw11553900090673564860:=()
def tw13427656580102988467:=()
def tw4230862922032515572:=()
def tw14818408472084289131:=()
def tw15252749685223893465:=()
def tw2886318184366718806:=()
def tw9663423764029393890:=()
def tw5394793562022338619:=()
def tw4342769513159170959:=()
def tw3259968171580645906:=()
def tw13389053980590354921:=()
def tw3506054128314366632:=()
def tw14387095187901183202:=()
def tw6973937885535750443:=()
def tw12647072165447976719:=()
def tw11376187842220203374:=()
def tw14510934611537400504:=()
def tw11479157599641153010:=()
def tw2990408923644149609:=()
def tw13495687174694050389:=()
def tw477834322732426751:=()
def tw10965512243841980507:=()
def tw17618211924500259977:=()
def tw4115590283838291016:=()
def tw17447673251965986979:=()
def tw11701082074469980840:=()
def tw2017574265808923100:=()
def tw10389797779958570141:=()
def tw4192047412385319086:=()
def tw9776904498839879186:=()
def tw9527045662208435353:=()
def tw3682122759612651953:=()
def tw5412578077048721330:=()
def tw15018244922642990977:=()
def tw12827011264147021142:=()
def tw4384665835143031238:=()
def tw13650445950880687704:=()
def tw8286162439425076331:=()
def tw1432057864760675307:=()
def tw12222282585287916122:=()
def tw13767990051928690594:=()
def tw10980569356058413707:=()
def tw14800735381315159509:=()
def tw16543553266156385820:=()
def tw17040301091481671772:=()
def tw5347146022082963690:=()
def tw7188821365497503021:=()
def tw8825590139824834925:=()
def tw3171353159505155027:=()
def tw5300348146464822175:=()
def tw4513181540644512666:=()
def tw9386123472211653990:=()
def tw15728788821938381494:=()
def tw13997214624576175055:=()
def tw531639843215110983:=()
def tw107987454452220287:=()
def tw14874470073432095731:=()
def tw17474613239016581891:=()
def tw8039422152743292513:=()
def tw10090453497198475160:=()
def tw15413420838829726899:=()
def tw3631135124127913485:=()
def tw11235070841874346940:=()
def tw6074524473969923189:=()
def tw1674131275970977593:=()
def tw10647049120632551439:=()
def tw10878276495137340975:=()
def tw12190401796714210505:=()
def tw6713925726541479387:=()
def tw12845289379514778314:=()
def tw4290711677339020343:=()
def tw8692184764332199144:=()
def tw14490533968515987586:=()
def tw2609688864876141593:=()
def tw3335062147219369544:=()
def tw7859640492399256400:=()
def tw6457553863386909378:=()
def tw12910046868005597640:=()
def tw3293780289094724583:=()
def tw11366791015858276095:=()
def tw12618062972256705709:=()
def tw8368706395676866511:=()
def tw17818661563200836791:=()
def tw1628846599701527714:=()
def tw216070961509372209:=()
def tw13025124951353351488:=()
def tw8753019574785219560:=()
def tw2508808820109815514:=()
def tw12535354943217562214:=()
def tw8994834225502162546:=()
def tw3176430349888263778:=()
def tw8500183706694720013:=()
def tw10940473944818227766:=()
def tw17132907943364807002:=()
def tw341260415250437115:=()
def tw5409562324578270741:=()
end PySem.W.Fast
set_option maxRecDepth 100000 in
set_option maxHeartbeats 0 in
theorem PySem.Challenge.cw_relaid_k09_rows_refused_holds : PySem.Challenge.rw_relaid_k09_rows_refused.Holds := by
  w_on; o_law; k_head; (case hw => w_witness2)
  k_fill
  refine R09.walk (l := PySem.Challenge.rw_relaid_k09_rows_refused) rfl rfl (fun w h Y => PySem.W.kIn_of Y) ?F
  case F =>
    intro w mg fa h KX G hmg
    refine' R09.all_mk KX G hmg ?a_B ?a0 ?l0 ?c0 ?k0 ?a1 ?l1 ?c1 ?k1 ?a2 ?l2 ?c2 ?k2 ?a3 ?l3 ?c3 ?k3 ?a4 ?l4 ?c4 ?k4 ?a5 ?l5 ?c5 ?k5 ?a6 ?l6 ?c6 ?k6 ?a7 ?l7 ?c7 ?k7 ?a8 ?l8 ?c8 ?k8 ?a9 ?l9 ?c9 ?k9 ?a10 ?l10 ?c10 ?k10 ?a11 ?l11 ?c11 ?k11 ?a12 ?l12 ?c12 ?k12 ?a13 ?l13 ?c13 ?k13 ?a14 ?l14 ?c14 ?k14 ?am_BI ?im_BI ?lm_BI ?cm_BI ?km_BI ?z_len ?z_sum ?z_tuple ?z_list ?z_range ?z_isinstance ?z_int ?z_bool ?z_str ?z_all ?z_max ?z_ValueError ?v_MOST_FIGURES ?aLE ?sget ?stk ?a_q0 ?a_q1 ?a_q2 ?a_q3 ?a_q5 ?a_q6 ?a_q7 ?a_q8 ?a_q9 ?a_q10 ?e4 ?x4ga ?x4no ?x4cl ?x4mo ?x4mb ?x4hd ?kk4_0 ?kk4_1 ?kk4_2 ?kk4_3 ?kk4_4 ?kk4_5 ?kk4_6 ?kk4_7 ?kk4_8 ?kk4_9 ?kk4_10 ?kk4l ?kk4v ?sa4 ?no4 ?ov4 ?ex4
    (case a_B => k_is)
    (case a0 => k_is)
    (case l0 => k_is)
    (case c0 => k_is)
    (case k0 => k_is)
    (case a1 => k_is)
    (case l1 => k_is)
    (case c1 => k_is)
    (case k1 => k_is)
    (case a2 => k_is)
    (case l2 => k_is)
    (case c2 => k_is)
    (case k2 => k_is)
    (case a3 => k_is)
    (case l3 => k_is)
    (case c3 => k_is)
    (case k3 => k_is)
    (case a4 => k_is)
    (case l4 => k_is)
    (case c4 => k_is)
    (case k4 => k_is)
    (case a5 => k_is)
    (case l5 => k_is)
    (case c5 => k_is)
    (case k5 => k_is)
    (case a6 => k_is)
    (case l6 => k_is)
    (case c6 => k_is)
    (case k6 => k_is)
    (case a7 => k_is)
    (case l7 => k_is)
    (case c7 => k_is)
    (case k7 => k_is)
    (case a8 => k_is)
    (case l8 => k_is)
    (case c8 => k_is)
    (case k8 => k_is)
    (case a9 => k_is)
    (case l9 => k_is)
    (case c9 => k_is)
    (case k9 => k_is)
    (case a10 => k_is)
    (case l10 => k_is)
    (case c10 => k_is)
    (case k10 => k_is)
    (case a11 => k_is)
    (case l11 => k_is)
    (case c11 => k_is)
    (case k11 => k_is)
    (case a12 => k_is)
    (case l12 => k_is)
    (case c12 => k_is)
    (case k12 => k_is)
    (case a13 => k_is)
    (case l13 => k_is)
    (case c13 => k_is)
    (case k13 => k_is)
    (case a14 => k_is)
    (case l14 => k_is)
    (case c14 => k_is)
    (case k14 => k_is)
    (case am_BI => k_is)
    (case im_BI => k_is)
    (case lm_BI => k_is)
    (case cm_BI => k_is)
    (case km_BI => k_is)
    (case z_len => k_is)
    (case z_sum => k_is)
    (case z_tuple => k_is)
    (case z_list => k_is)
    (case z_range => k_is)
    (case z_isinstance => k_is)
    (case z_int => k_is)
    (case z_bool => k_is)
    (case z_str => k_is)
    (case z_all => k_is)
    (case z_max => k_is)
    (case z_ValueError => k_is)
    (case v_MOST_FIGURES => k_is)
    (case aLE => k_is)
    (case sget => k_is)
    (case stk => k_is)
    (case a_q0 => k_is)
    (case a_q1 => k_is)
    (case a_q2 => k_is)
    (case a_q3 => k_is)
    (case a_q5 => k_is)
    (case a_q6 => k_is)
    (case a_q7 => k_is)
    (case a_q8 => k_is)
    (case a_q9 => k_is)
    (case a_q10 => k_is)
    (case e4 => kts_exm)
    (case x4ga => k_is)
    (case x4no => k_is)
    (case x4cl => k_is)
    (case x4mo => k_is)
    (case x4mb => k_is)
    (case x4hd => k_is)
    (case kk4_0 => kit_is)
    (case kk4_1 => kit_is)
    (case kk4_2 => kit_is)
    (case kk4_3 => kit_is)
    (case kk4_4 => kit_is)
    (case kk4_5 => kit_is)
    (case kk4_6 => kit_is)
    (case kk4_7 => kit_is)
    (case kk4_8 => kit_is)
    (case kk4_9 => kit_is)
    (case kk4_10 => kit_is)
    (case kk4l => kit_is)
    (case kk4v => kit_is)
    (case sa4 => k_is)
    (case no4 => k_is)
    (case ov4 => kernel_rfl)
    (case ex4 => kernel_rfl)
#print axioms PySem.Challenge.cw_relaid_k09_rows_refused_holds
