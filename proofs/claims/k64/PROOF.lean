import PyProof.Rows.All
import Wide.All
import OpenK.AllK
import Wide.FinOn
import Lean
import PyProof.EqAt
import PyProof.EqKinds
import PyProof.TupleCall
import PySem.Challenge.RW_relaid_k64_corners_of_ends
open PySem.Heap (get?_push_of_some get?_push_size get?_update_other get?_update_self lt_size size_push)
open PySem.W (Frag codeIn excIn findIn fnOf hideAll instObj keepIn kia_one kitOne lookIn methodObj mg_none_of mg_of nsIn of_hideAll plainGet)
open List (any_eq_true append_nil countP_cons count_cons ext_getElem filter_append flatten_cons foldl getD_eq_getElem?_getD getElem?_append_left getElem?_append_right getElem?_eq_none getElem?_map getElem?_range getElem_idxOf getElem_map getElem_mem length_append length_cons length_drop length_dropLast length_map length_range length_take map_append map_congr_left map_cons map_map map_nil mem_append mem_append_left mem_append_right mem_cons mem_cons_of_mem mem_cons_self mem_filter mem_map mem_of_getElem? mem_range mem_singleton nodup_cons not_mem_nil of_mem_zip pairwise_map perm_ext_iff_of_nodup perm_middle range' range_succ replicate_succ size_toArray sum_cons zip_append)
open Array (getElem?_toList length_toList)
open PyProof.Rows (boot_isinstance boot_list boot_max boot_sorted boot_tuple callWith_builtin1 callWith_type1)
open PySem (boot_len mem_of_lookup)
set_option Elab.async false
set_option linter.all false
set_option maxRecDepth 100000
set_option maxHeartbeats 4000000
namespace L2
open PySem PySem.Spec PyProof.Rows
abbrev Key:=Sum Int Str
def keyIs:Key->Value->Bool
 | .inl k,v=>Value.isInt k v
 | .inr x,v=>Value.isStrOf x v
def keyH (w:World):Key->Int
 | .inl k=>hashInt k
 | .inr x=>hashStr w x
theorem Jf:∀ {k:Key} {v:Value},keyIs k v=true->(∃ i t,k=Sum.inl i/\v=Value.int i t)\/(∃ x t,k=Sum.inr x/\v=Value.str x t)
 | .inl i,v,h=>by
  obtain ⟨t,e⟩:=Value.isInt_shape (k:=i) (v:=v) h;exact .inl ⟨i,t,rfl,e⟩
 | .inr x,v,h=>by
  obtain ⟨t,e⟩:=Value.isStrOf_shape (x:=x) (v:=v) h;exact .inr ⟨x,t,rfl,e⟩
theorem key_ll (a b:Int):decide ((Sum.inl a:Key)=Sum.inl b)=(a == b):=by
 by_cases e:a=b
 ·subst e;simp
 ·have h:¬ (Sum.inl a:Key)=Sum.inl b:=fun q=>e (Sum.inl.inj q);rw [decide_eq_false h];exact (beq_eq_false_iff_ne.mpr e).symm
theorem key_rr (a b:Str):decide ((Sum.inr a:Key)=Sum.inr b)=decide (a=b):=by
 by_cases e:a=b
 ·subst e;simp
 ·have h:¬ (Sum.inr a:Key)=Sum.inr b:=fun q=>e (Sum.inr.inj q);rw [decide_eq_false h,decide_eq_false e]
theorem key_lr (a:Int) (b:Str):decide ((Sum.inl a:Key)=Sum.inr b)=false:=decide_eq_false (fun q=>nomatch q)
theorem key_rl (a:Str) (b:Int):decide ((Sum.inr a:Key)=Sum.inl b)=false:=decide_eq_false (fun q=>nomatch q)
def mixKind (prog:Program) (w:World):PySem.KeyKind prog w Key where
 is:=keyIs
 hash:=keyH w
 inj:=fun v a b ha hb=>by
  rcases Jf ha with ⟨i,t,rfl,rfl⟩ | ⟨x,t,rfl,rfl⟩
  ·rcases Jf hb with ⟨j,u,rfl,e⟩ | ⟨y,u,rfl,e⟩
   ·injection e with e1 _;rw [e1]
   ·exact nomatch e
  ·rcases Jf hb with ⟨j,u,rfl,e⟩ | ⟨y,u,rfl,e⟩
   ·exact nomatch e
   ·injection e with e1 _;rw [e1]
 byValue:=fun k v h=>by
  rcases Jf h with ⟨i,t,rfl,rfl⟩ | ⟨x,t,rfl,rfl⟩ <;> rfl
 pyHash:=fun hv h=>by
  rcases Jf hv with ⟨i,t,rfl,rfl⟩ | ⟨x,t,rfl,rfl⟩
  ·exact wpAny_pyHash_int h
  ·exact wpAny_pyHash_str h
 eqBool:=fun hu hv h=>by
  rcases Jf hu with ⟨i,t,rfl,rfl⟩ | ⟨x,t,rfl,rfl⟩
  ·rcases Jf hv with ⟨j,u,rfl,rfl⟩ | ⟨y,u,rfl,rfl⟩
   ·rw [key_ll] at h;exact wpAny_eqBool_int h
   ·rw [key_lr] at h;exact SeqAt.EqAt.int_str i t y u _ _ _ _ h
  ·rcases Jf hv with ⟨j,u,rfl,rfl⟩ | ⟨y,u,rfl,rfl⟩
   ·rw [key_rl] at h;exact SeqAt.EqAt.str_int x t j u _ _ _ _ h
   ·rw [key_rr] at h;exact wpAny_eqBool_str h
 «strs»:=fun k x t v h=>by
  rcases Jf h with ⟨i,u,rfl,e⟩ | ⟨y,u,rfl,e⟩
  ·exact nomatch e
  ·injection e with e1 _
   subst e1;cases v <;> rfl
end L2
namespace L2
open PySem PySem.Spec PyProof.Rows
inductive V where
 | non | bl (b:Bool) | int (i:Int) | str (x:Str) | byt (b:Array UInt8) | flt (b:UInt64) | ref (a:Addr) | ty (n:String)
 deriving DecidableEq
def RelV:V->Value->Prop
 | .non,u=>u=Value.none
 | .bl b,u=>u=Value.bool b
 | .int i,u=>∃ t,u=Value.int i t
 | .str x,u=>∃ t,u=Value.str x t
 | .byt b,u=>∃ t,u=Value.bytes b t
 | .flt b,u=>∃ t,u=Value.float b t
 | .ref a,u=>u=Value.ref a
 | .ty n,u=>u=Value.type n
abbrev Vals:List V->List Value->Prop:=Paired RelV
theorem Vals.length {xs:List V} {us:List Value} (r:Vals xs us):xs.length=us.length:=Paired.length r
theorem Vals.get:∀ {xs:List V} {us:List Value} {i:Nat} {x:V},Vals xs us->xs[i]?=some x->∃ u,us[i]?=some u/\RelV x u
 | _,_,_,_,.nil,e=>by simp at e
 | _,_,0,_,.cons r _,e=>by simp at e;subst e;exact ⟨_,rfl,r⟩
 | _,_,i + 1,x,.cons _ t,e=>by
  obtain ⟨u,h1,h2⟩:=Vals.get (i:=i) (x:=x) t (by simpa using e);exact ⟨u,by simpa using h1,h2⟩
theorem Vals.set {x:V} {u:Value} (r:RelV x u):∀ {xs:List V} {us:List Value} (i:Nat),Vals xs us->Vals (xs.set i x) (us.set i u)
 | _,_,_,.nil=>.nil
 | _,_,0,.cons _ t=>.cons r t
 | _,_,i + 1,.cons q t=>.cons q (Vals.set r i t)
theorem Vals.append:∀ {xs ys:List V} {us ws:List Value},Vals xs us->Vals ys ws->Vals (xs ++ ys) (us ++ ws)
 | _,_,_,_,.nil,s=>s
 | _,_,_,_,.cons r t,s=>.cons r (Vals.append t s)
theorem Vals.take:∀ {xs:List V} {us:List Value} (n:Nat),Vals xs us->Vals (xs.take n) (us.take n)
 | _,_,0,_=>.nil
 | _,_,_ + 1,.nil=>.nil
 | _,_,n + 1,.cons r t=>.cons r (Vals.take n t)
theorem Vals.drop:∀ {xs:List V} {us:List Value} (n:Nat),Vals xs us->Vals (xs.drop n) (us.drop n)
 | _,_,0,r=>r
 | _,_,_ + 1,.nil=>.nil
 | _,_,n + 1,.cons _ t=>Vals.drop n t
theorem Vals.none_of:∀ {xs:List V} {us:List Value} {i:Nat},Vals xs us->xs[i]?=none->us[i]?=none:=fun {xs us i} r e=>by
 have h1:=r.length;have h2:xs.length<=i:=List.getElem?_eq_none_iff.mp e;exact List.getElem?_eq_none_iff.mpr (by omega)
def RelO:Option V->Option Value->Prop
 | some v,some u=>RelV v u
 | none,none=>True
 | _,_=>False
def KV {κ:Type}:List (κ × V)->List (κ × Value)->Prop:=Paired fun (p:κ × V) (q:κ × Value)=>p.1=q.1/\RelV p.2 q.2
def kV:Key->V
 | .inl i=>.int i
 | .inr x=>.str x
inductive HO where
  | lst (xs:List V)
  | tup (xs:List V)
  | dK (kvs:List (Key × V)) | dT (kvs:List (List Key × V))
  | set (S:Int->Bool) (n:Nat)
  | ins (C dx:Addr) (fs:List (Str × V))
  | own (x:Addr)
  | xd (fs:List (Str × V))
  | met (f x:Addr)
  | rng (lo hi:Int)
  | frz (o:Obj) (u:HO)
  | tbl (ps:Array Value)
  | ext (φ:Heap->Prop)
abbrev Hp:=Addr->Option HO
def upd (H:Hp) (a:Addr) (o:HO):Hp:=fun b=>if b=a then some o else H b
theorem J0 {H:Hp} {a:Addr} {o:HO}:upd H a o a=some o:=by unfold upd;rw [if_pos rfl]
theorem Jb {H:Hp} {a b:Addr} {o:HO} (h:b≠a):upd H a o b=H b:=by unfold upd;rw [if_neg h]
theorem ne_of {H:Hp} {a b:Addr} {o u:HO} (h:H a=some o) (h':H b=some u) (d:o≠u):a≠b:=by
 intro e;subst e;rw [h] at h';exact d (Option.some.inj h')
theorem J3 {H:Hp} {a b:Addr} {o:HO} (h:H a=some o) (h':H b=none):a≠b:=by
 intro e;subst e;rw [h] at h';cases h'
section
variable (P:Program) (w:World)
def TupX (h:Heap) (a:Addr) (items:Array Value):Prop:=∃ o,h.get? a=some o/\(o.cls=.type "tuple"/\o.dict=none)/\∃ n,o.data=.seq items n
theorem TupX.tup {h:Heap} {a:Addr} {items:Array Value} (x:TupX h a items):IsTup h a items:=by obtain ⟨o,e,c,r⟩:=x;exact ⟨o,e,c.1,r⟩
theorem TupX.lt {h:Heap} {a:Addr} {items:Array Value} (x:TupX h a items):a < h.objs.size:=by obtain ⟨_,e,_⟩:=x;exact lt_size e
theorem TupX.new (h:Heap) (items:Array Value):TupX (h.push { cls:=.type "tuple",data:=.seq items }) h.objs.size items:=⟨_,get?_push_size _ rfl,⟨rfl,rfl⟩,_,rfl⟩
def ObjOk (H:Hp) (h:Heap) (a:Addr):HO->Prop
 | .lst xs=>xs.length<=sizeLine/\∃ (its:List Value) (n:Nat),Vals xs its/\h.get? a=some { cls:=.type "list",data:=.seq its.toArray n }
 | .tup xs=>xs.length<=sizeLine/\∃ its:List Value,Vals xs its/\TupX h a its.toArray
 | .dK kvs=>kvs.length<=sizeLine/\(a == sysModules)=false/\∃ vs,KV kvs vs/\h.DictOf (mixKind P w) a vs
 | .dT kvs=>kvs.length<=sizeLine/\(a == sysModules)=false/\∃ xs:List (List Key × Addr × Value),
   Paired (fun (p:List Key × V) (q:List Key × Addr × Value)=>p.1=q.1/\H q.2.1=some (.tup (p.1.map kV))/\RelV p.2 q.2.2) kvs xs/\
   ∃ o es ep,h.get? a=some o/\o.ExactDict/\o.data=.dict es ep/\es.toList=xs.map (entryOfKey (tupleKind (mixKind P w)))/\(xs.map (·.1)).Nodup
 | .set S n=>h.SetOf (intKind P w) a S n
 | .ins C dx fs=>H dx=some (.own a)/\fs.length<=1000/\dx≠a/\h.get? a=some (instObj C dx)/\
   ∃ mA,h.Ns1 dx mA/\(∀ f,RelO (fs.lookup f) (mA f))/\PySem.Within mA (fs.map (·.1))
 | .own _=>∃ o,h.get? a=some o
 | .xd fs=>∃ mA,h.Ns1 a mA/\∀ f,RelO (fs.lookup f) (mA f)
 | .rng lo hi=>∃ t u v,h.get? a=some { cls:=.type "range",data:=.fields #[.int lo t,.int hi u,.int 1 v] }
 | .frz o u=>h.get? a=some o/\ObjOk H h a u
 | .tbl ps=>h.get? a=some { cls:=.none,data:=.fields ps }
 | .met f x=>h.get? a=some (methodObj (.ref f) (.ref x))
 | .ext φ=>φ h/\(∃ o,h.get? a=some o)/\∀ h1 h2:Heap,φ h1->(∀ o,h1.get? a=some o->h2.get? a=some o)->φ h2
def HOk (H:Hp) (h:Heap):Prop:=∀ a o,H a=some o->ObjOk P w H h a o
end
section
variable {P:Program} {w:World} {H H':Hp} {h h':Heap} {a:Addr} {o:HO}
theorem ObjOk.lt (x:ObjOk P w H h a o):a < h.objs.size:=by
 cases o with
 | lst xs=>obtain ⟨_,_,_,_,e⟩:=x;exact lt_size e
 | tup xs=>obtain ⟨_,_,_,p⟩:=x;exact p.lt
 | dK kvs=>obtain ⟨_,_,_,_,o,_,_,e,_⟩:=x;exact lt_size e
 | dT kvs=>obtain ⟨_,_,_,_,o,_,_,e,_⟩:=x;exact lt_size e
 | set S n=>obtain ⟨o,_,_,_,e,_⟩:=x;exact lt_size e
 | ins C dx fs=>obtain ⟨_,_,_,e,_⟩:=x;exact lt_size e
 | own y=>obtain ⟨_,e⟩:=x;exact lt_size e
 | xd fs=>obtain ⟨_,⟨_,_,_,e,_⟩,_⟩:=x;exact lt_size e
 | rng lo hi=>obtain ⟨_,_,_,e⟩:=x;exact lt_size e
 | frz ob u=>obtain ⟨e,_⟩:=x;exact lt_size e
 | tbl ps=>exact lt_size (show h.get? a=some _ from x)
 | met f y=>exact lt_size (show h.get? a=some _ from x)
 | ext φ=>obtain ⟨_,⟨_,e⟩,_⟩:=x;exact lt_size e
theorem Paired.mapP {α β:Type} {F G:α->β->Prop}:∀ {l₁:List α} {l₂:List β},Paired F l₁ l₂->(∀ a b,F a b->G a b)->Paired G l₁ l₂
 | _,_,.nil,_=>.nil
 | _,_,.cons r t,f=>.cons (f _ _ r) (Paired.mapP t f)
theorem ObjOk.stay (x:ObjOk P w H h a o) (k:∀ b u,(b=a\/H b=some (.own a))->h.get? b=some u->h'.get? b=some u)
  (ho:∀ b,H b=some (.own a)->H' b=some (.own a)) (ht:∀ b xs,H b=some (.tup xs)->H' b=some (.tup xs)):ObjOk P w H' h' a o:=by
 induction o with
 | lst xs=>obtain ⟨z,its,n,r,e⟩:=x;exact ⟨z,its,n,r,k _ _ (.inl rfl) e⟩
 | tup xs=>obtain ⟨z,its,r,ob,e,c⟩:=x;exact ⟨z,its,r,ob,k _ _ (.inl rfl) e,c⟩
 | dK kvs=>obtain ⟨z,y,vs,r,ob,es,ep,e,c⟩:=x;exact ⟨z,y,vs,r,ob,es,ep,k _ _ (.inl rfl) e,c⟩
 | dT kvs =>
  obtain ⟨z,y,xs,r,ob,es,ep,e,c⟩:=x;exact ⟨z,y,xs,Paired.mapP r fun p q z=>⟨z.1,ht _ _ z.2.1,z.2.2⟩,ob,es,ep,k _ _ (.inl rfl) e,c⟩
 | set S n=>obtain ⟨ob,es,ep,t,e,c⟩:=x;exact ⟨ob,es,ep,t,k _ _ (.inl rfl) e,c⟩
 | ins C dx fs =>
  obtain ⟨d,z,ne,e,mA,⟨od,es,ep,e2,c⟩,r⟩:=x;exact ⟨ho _ d,z,ne,k _ _ (.inl rfl) e,mA,⟨od,es,ep,k _ _ (.inr d) e2,c⟩,r⟩
 | own y=>obtain ⟨ob,e⟩:=x;exact ⟨ob,k _ _ (.inl rfl) e⟩
 | xd fs=>obtain ⟨mA,⟨od,es,ep,e,c⟩,r⟩:=x;exact ⟨mA,⟨od,es,ep,k _ _ (.inl rfl) e,c⟩,r⟩
 | rng lo hi=>obtain ⟨t,u,v,e⟩:=x;exact ⟨t,u,v,k _ _ (.inl rfl) e⟩
 | frz ob u ih=>obtain ⟨e,q⟩:=x;exact ⟨k _ _ (.inl rfl) e,ih q⟩
 | tbl ps =>
  have e:h.get? a=some { cls:=.none,data:=.fields ps }:=x;show h'.get? a=some { cls:=.none,data:=.fields ps };exact k a _ (.inl rfl) e
 | met f y =>
  have e:h.get? a=some (methodObj (.ref f) (.ref y)):=x;show h'.get? a=some (methodObj (.ref f) (.ref y));exact k a _ (.inl rfl) e
 | ext φ=>obtain ⟨p,⟨o,e⟩,st⟩:=x;exact ⟨st _ _ p fun o q=>k _ _ (.inl rfl) q,⟨o,k _ _ (.inl rfl) e⟩,st⟩
theorem HOk.lt (x:HOk P w H h) (e:H a=some o):a < h.objs.size:=(x a o e).lt
theorem HOk.fresh (x:HOk P w H h) (e:h.objs.size<=a):H a=none:=by
 cases q:H a with
 | none=>rfl
 | some u=>exact absurd (Nat.lt_of_lt_of_le (x.lt q) e) (Nat.lt_irrefl _)
theorem HOk.kept (x:HOk P w H h) (k:∀ b u,h.get? b=some u->h'.get? b=some u):HOk P w H h':=fun a o e =>
 (x a o e).stay (fun b u _ q=>k b u q) (fun _ q=>q) fun _ _ q=>q
theorem HOk.laid (x:HOk P w H h) (k:∀ b u,h.get? b=some u->h'.get? b=some u) (hp:h.objs.size<=a) (new:ObjOk P w (upd H a o) h' a o):HOk P w (upd H a o) h':=fun b u e=>by
 have hn:=x.fresh hp;by_cases hb:b=a
 ·subst hb;rw [J0] at e;cases e;exact new
 ·rw [Jb hb] at e;exact (x b u e).stay (fun c v _ q=>k c v q) (fun c q=>by rw [Jb (J3 q hn)];exact q) fun c xs q=>by rw [Jb (J3 q hn)];exact q
end
def Rd (H:Hp) (a:Addr) (u:HO):Prop:=H a=some u\/∃ o,H a=some (.frz o u)
theorem Rd.ok {P:Program} {w:World} {H:Hp} {h:Heap} {a:Addr} {u:HO} (r:Rd H a u) (x:HOk P w H h):ObjOk P w H h a u:=by
 rcases r with r | ⟨o,r⟩
 ·exact x a u r
 ·obtain ⟨_,q⟩:=x a _ r;exact q
def Mut:Option HO->Prop
 | some (.lst _)=>True
 | some (.dK _)=>True
 | some (.dT _)=>True
 | some (.set _ _)=>True
 | some (.ins _ _ _)=>True
 | some (.ext _)=>True
 | _=>False
section
variable {P:Program} {w:World} {H:Hp} {h h':Heap} {x e:Addr} {o':HO}
theorem HOk.write (ok:HOk P w H h) (mu:Mut (H x)) (he:e=x\/H e=some (.own x)) (k:∀ b u,b≠e->h.get? b=some u->h'.get? b=some u) (heo:∃ u,h'.get? e=some u)
  (new:ObjOk P w (upd H x o') h' x o'):HOk P w (upd H x o') h':=fun b u q=>by
 have nown:∀ c y,H c=some (.own y)->c≠x:=fun c y r z=>by subst z;rw [r] at mu;exact mu
 have ntup:∀ c xs,H c=some (.tup xs)->c≠x:=fun c xs r z=>by subst z;rw [r] at mu;exact mu
 by_cases hb:b=x
 ·subst hb;rw [J0] at q;cases q;exact new
 ·rw [Jb hb] at q;by_cases hbe:b=e
  ·have q':H b=some (.own x):=by
    rcases he with z | z
    ·exact absurd (hbe.trans z) hb
    ·rw [hbe];exact z
   rw [q] at q';cases q';obtain ⟨v,hv⟩:=heo;exact ⟨v,by rw [hbe];exact hv⟩
  ·refine (ok b u q).stay (fun c v hc r=>k c v ?_ r) (fun c r=>by rw [Jb (nown c b r)];exact r) fun c xs r=>by rw [Jb (ntup c xs r)];exact r
   rcases hc with rfl | hc
   ·exact hbe
   ·rintro rfl;rcases he with z | z
    ·exact nown c b hc z
    ·rw [hc] at z;cases z;exact hb rfl
end
structure Un (fs ex:List Addr) (H H':Hp) (h h':Heap):Prop where
 keep:∀ b o,h.get? b=some o->H b=none->b ∉ fs->b ∉ ex->h'.get? b=some o
 slot:∀ b o,h.get? b=some o->H b=none->b∈fs->b ∉ ex->∃ sl,h'.get? b=some { o with slots:=sl }
 free:∀ b o,h.get? b=some o->H b=none->b ∉ ex->H' b=none
 there:∀ b o,h.get? b=some o->b ∉ ex->∃ o',h'.get? b=some o'
 tups:∀ b xs,H b=some (.tup xs)->H' b=some (.tup xs)
 frzs:∀ b o u,H b=some (.frz o u)->H' b=some (.frz o u)
 tbls:∀ b ps,H b=some (.tbl ps)->∃ more,H' b=some (.tbl (ps ++ more))
section
variable {fs fs' ex ex':List Addr} {H H1 H2:Hp} {h h1 h2 h':Heap} {a x e:Addr} {o:HO}
theorem Un.any (u:Un fs ex H H1 h h1) {b:Addr} {ob:Obj} (q:h.get? b=some ob) (n:H b=none) (hx:b ∉ ex):∃ sl,h1.get? b=some { ob with slots:=sl }:=by
 by_cases hb:b∈fs
 ·exact u.slot b ob q n hb hx
 ·exact ⟨ob.slots,u.keep b ob q n hb hx⟩
theorem Un.kept (k:∀ b u,h.get? b=some u->h'.get? b=some u):Un fs ex H H h h' :=
 ⟨fun b ob q _ _ _=>k b ob q,fun b ob q _ _ _=>⟨ob.slots,k b ob q⟩,fun _ _ _ n _=>n,fun b ob q _=>⟨ob,k b ob q⟩,fun _ _ q=>q,fun _ _ _ q=>q,fun _ ps q=>⟨#[],by rw [q];simp⟩⟩
theorem Un.refl:Un fs ex H H h h:=Un.kept fun _ _ q=>q
theorem Un.laid (k:∀ b u,h.get? b=some u->h'.get? b=some u) (hp:h.objs.size<=a) (hn:H a=none):Un fs ex H (upd H a o) h h' where
 keep:=fun b u q _ _ _=>k b u q
 slot:=fun b u q _ _ _=>⟨u.slots,k b u q⟩
 free:=fun b u q n _=>by rw [Jb (Nat.ne_of_lt (Nat.lt_of_lt_of_le (lt_size q) hp))];exact n
 there:=fun b u q _=>⟨u,k b u q⟩
 tups:=fun b xs q=>by rw [Jb (J3 q hn)];exact q
 frzs:=fun b u xs q=>by rw [Jb (J3 q hn)];exact q
 tbls:=fun b ps q=>⟨#[],by rw [Jb (J3 q hn),q];simp⟩
theorem Un.write (mu:Mut (H x)) (he:e=x\/H e=some (.own x)) (k:∀ b u,b≠e->h.get? b=some u->h'.get? b=some u) (heo:∃ u,h'.get? e=some u):Un fs ex H (upd H x o) h h':=by
 have hx:∀ b,H b=none->b≠x:=fun b n z=>by subst z;rw [n] at mu;exact mu
 have hb:∀ b,H b=none->b≠e:=fun b n z=>by
  subst z;rcases he with r | r
  ·exact hx b n r
  ·rw [n] at r;cases r
 have hm:∀ b u,H b=some u->¬ Mut (some u)->b≠x:=fun b u q nm z=>by subst z;rw [q] at mu;exact nm mu
 refine ⟨fun b u q n _ _=>k b u (hb b n) q,fun b u q n _ _=>⟨u.slots,k b u (hb b n) q⟩,fun b u q n _=>by rw [Jb (hx b n)];exact n,fun b u q _=>?_,
  fun b xs q=>by rw [Jb (hm b _ q fun z=>z)];exact q,fun b u xs q=>by rw [Jb (hm b _ q fun z=>z)];exact q,fun b ps q=>⟨#[],by rw [Jb (hm b _ q fun z=>z),q];simp⟩⟩
 by_cases hbe:b=e
 ·subst hbe;exact heo
 ·exact ⟨u,k b u hbe q⟩
end
def trk (h:Heap) (H:Hp):List Addr:=(List.range h.objs.size).filter fun a=>(H a).isSome
def hidT (h:Heap) (H:Hp):Heap:=hideAll h (trk h H)
theorem hidT_size (h:Heap) (H:Hp):(hidT h H).objs.size=h.objs.size:=PySem.W.hideAll_size _ _
theorem hidT_get {h:Heap} {H:Hp} {b:Addr} {o:Obj} (e:h.get? b=some o) (n:H b=none):(hidT h H).get? b=some o :=
 PySem.W.hideAll_get _ e fun hm=>by
  have q:(H b).isSome=true:=(mem_filter.mp hm).2;rw [n] at q;simp at q
theorem of_hidT {h:Heap} {H:Hp} {b:Addr} {o:Obj} (e:(hidT h H).get? b=some o):h.get? b=some o/\H b=none:=by
 have e':h.get? b=some o:=of_hideAll (trk h H) e;refine ⟨e',?_⟩
 cases q:H b with
 | none=>rfl
 | some x =>
  have hm:b∈trk h H:=mem_filter.mpr ⟨mem_range.mpr (lt_size e'),by simp [q]⟩;have z:(hidT h H).get? b=none:=PySem.W.hideAll_none (trk h H) hm;rw [z] at e;cases e
end L2
namespace L2
open PySem PySem.Spec PyProof.Rows
structure Mod (K:Frag) (mg:Str->Option Value) (base:Heap):Prop where
 kin:K.In base
 glob:base.Ns mainGlobals mg
 blt:∃ mb,base.Ns builtinsNs mb/\∀ x:Str,x≠"__name__"->mb x=bootBuiltins x
 nolimit:base.NoLimit
structure Cx where
 prog:Program
 w:World
 K:Frag
 mg:Str->Option Value
 base:Heap
 A:Around
 N:List Str
 s₀:Shared
 H₀:Hp
 env:Env
 outer:List Env
 stack:List Env
 ex:List Addr
 fn:Str->Bool
 calm:Bool
 pn:List (Addr × Obj)
 xe:Value->Shared->Prop
def frs (l:List Env):List Addr:=l.filterMap (·.frame)
abbrev Cx.fs (X:Cx):List Addr:=frs X.outer
def Vis (sc:Scope) (x:Str):Prop:=sc.names.lookup x=some .local\/sc.names.lookup x=some .cell\/sc.names.lookup x=some .free
def Loc (sc:Scope) (x:Str):Prop:=sc.names.lookup x=some .local\/sc.names.lookup x=some .cell
def Look (env:Env) (h:Heap) (m:Str->Option Value) (x:Str) (u:Value):Prop :=
 (env.kindOf x=some .local/\m x=some u)\/((env.kindOf x=some .cell\/env.kindOf x=some .free)/\∃ c,env.cells.lookup x=some c/\h.IsCell c (some u))
structure Cx.Ok (X:Cx):Prop where
 mod:Mod X.K X.mg X.base
 kind:X.env.scope.kind=.function
 glob:X.env.globals=mainGlobals
 blt:X.env.builtins=builtinsNs
 above:X.s₀.heap.objs.size<=X.env.locals
 inj:∀ x y c,X.env.cells.lookup x=some c->X.env.cells.lookup y=some c->x=y
 has:∀ x,(X.env.kindOf x=some .cell\/X.env.kindOf x=some .free)->∃ c,X.env.cells.lookup x=some c
 cab:∀ x c,X.fn x=true->X.env.cells.lookup x=some c->X.s₀.heap.objs.size<=c
 hd:X.calm=true->X.A.handled=none
 frames:X.A.frames=some X.stack
 stk:X.stack=X.outer\/(X.stack=X.env :: X.outer/\X.env.frame=some X.env.locals)
 exf:∀ b∈X.ex,b≠X.env.locals/\∀ x c,X.env.cells.lookup x=some c->c≠b
 bs:∀ b o,X.base.get? b=some o->X.s₀.heap.get? b=some o/\X.H₀ b=none
 bsz:X.base.objs.size<=X.s₀.heap.objs.size
 noex:∀ b o,X.base.get? b=some o->b ∉ X.ex
 exfs:∀ b∈X.ex,b ∉ X.fs
 funs:X.s₀.heap.FunFrames X.base X.outer
 frf:∀ b∈X.fs,X.H₀ b=none
structure Inv (X:Cx) (pins:List (Addr × Obj)) (σ:List (Option V)) (H:Hp) (s:Shared):Prop where
 ok:X.Ok
 os:s.os=X.s₀.os
 bare:AllBare s.gens
 base:Un X.fs X.ex X.H₀ H X.s₀.heap s.heap
 loc:∃ m,s.heap.Ns X.env.locals m/\∀ (i:Nat) (x:Str) (v:V),X.N[i]?=some x->σ[i]?=some (some v)->Vis X.env.scope x->∃ u,RelV v u/\Look X.env s.heap m x u
 cell:∀ x c,X.env.cells.lookup x=some c->∃ v,s.heap.IsCell c v
 free:H X.env.locals=none
 freeC:∀ x c,X.env.cells.lookup x=some c->H c=none
 pin:∀ p∈X.pn ++ pins,s.heap.get? p.1=some p.2/\H p.1=none/\p.1≠X.env.locals/\p.1 ∉ X.fs/\∀ v,p.2.data≠.cell v
 hok:HOk X.prog X.w H s.heap
 len:σ.length=X.N.length
section
variable {X:Cx} {pins:List (Addr × Obj)} {σ:List (Option V)} {H H':Hp} {s:Shared} {h':Heap}
theorem Cx.Ok.nofr (ok:X.Ok) {b:Addr} {o:Obj} (e:X.base.get? b=some o):b ∉ X.fs:=fun hb=>by
 have:=(ok.funs.mem hb).1;rw [e] at this;cases this
theorem Inv.bs (I:Inv X pins σ H s):∀ b o,X.base.get? b=some o->s.heap.get? b=some o/\H b=none:=fun b o e =>
 ⟨I.base.keep b o (I.ok.bs b o e).1 (I.ok.bs b o e).2 (I.ok.nofr e) (I.ok.noex b o e),I.base.free b o (I.ok.bs b o e).1 (I.ok.bs b o e).2 (I.ok.noex b o e)⟩
theorem Inv.bk (I:Inv X pins σ H s):∀ b o,X.base.get? b=some o->s.heap.get? b=some o:=fun b o e=>(I.bs b o e).1
theorem Inv.mod (I:Inv X pins σ H s):Mod X.K X.mg X.base:=I.ok.mod
theorem Inv.kIn (I:Inv X pins σ H s):X.K.In s.heap:=I.ok.mod.kin.keeps I.bk
theorem Inv.fr (I:Inv X pins σ H s):∃ m,Fr X.base X.env.locals s.heap m :=
 let ⟨m,hn,_⟩:=I.loc
 ⟨m,hn,I.bk,Nat.le_trans I.ok.bsz I.ok.above⟩
theorem Inv.lt (I:Inv X pins σ H s):X.env.locals < s.heap.objs.size:=by obtain ⟨_,hn,_⟩:=I.loc;exact hn.lt
theorem Inv.sz (I:Inv X pins σ H s):X.s₀.heap.objs.size<=s.heap.objs.size:=Nat.le_trans I.ok.above (Nat.le_of_lt I.lt)
theorem Inv.nofs (I:Inv X pins σ H s) {a:Addr} (h:s.heap.objs.size<=a):a ∉ X.fs:=fun hb=>by
 obtain ⟨_,o,ho,_⟩:=I.ok.funs.mem hb;exact absurd (Nat.lt_of_lt_of_le (lt_size ho) (Nat.le_trans I.sz h)) (Nat.lt_irrefl _)
theorem Inv.cne (I:Inv X pins σ H s):∀ x c,X.env.cells.lookup x=some c->c≠X.env.locals:=fun x c e z=>by
 obtain ⟨v,o,ho,hd⟩:=I.cell x c e;obtain ⟨m,⟨o',es,ep,ho',hd',_⟩,_⟩:=I.loc;rw [z,ho'] at ho;cases ho;rw [hd'] at hd;cases hd
theorem Inv.funs (I:Inv X pins σ H s):s.heap.FunFrames X.base X.outer:=by
 have all:∀ (l:List Env),(∀ b∈frs l,b∈X.fs)->X.s₀.heap.FunFrames X.base l->s.heap.FunFrames X.base l:=by
  intro l
  induction l with
  | nil=>intro _ _;trivial
  | cons env r ih =>
   intro hs hl;obtain ⟨hk,⟨L,o,hf,hn,ho,hd⟩,hr⟩:=hl;have hL:L∈X.fs:=hs L (by unfold frs;rw [List.filterMap_cons,hf];exact mem_cons_self);obtain ⟨sl,e⟩:=I.base.slot L o ho (I.ok.frf L hL) hL fun z=>I.ok.exfs L z hL;exact ⟨hk,⟨L,_,hf,hn,e,hd⟩,ih (fun b hb=>hs b (by unfold frs;rw [List.filterMap_cons,hf];exact mem_cons_of_mem _ hb)) hr⟩
 exact all X.outer (fun _ hb=>hb) I.ok.funs
theorem Inv.stack (I:Inv X pins σ H s):s.heap.FunFrames X.base X.stack:=by
 rcases I.ok.stk with e | ⟨e,hf⟩
 ·rw [e];exact I.funs
 ·rw [e];obtain ⟨m,hn,_⟩:=I.loc;refine .cons (by rw [I.ok.kind];decide) hf hn ?_ I.funs;exact Heap.get?_none_of_le (Nat.le_trans I.ok.bsz I.ok.above)
theorem Inv.stkSub (I:Inv X pins σ H s):∀ b∈frs X.stack,b∈X.env.locals :: X.fs:=fun b hb=>by
 rcases I.ok.stk with e | ⟨e,hf⟩
 ·rw [e] at hb;exact mem_cons_of_mem _ hb
 ·rw [e] at hb;unfold frs at hb;rw [List.filterMap_cons,hf] at hb;exact hb
theorem Inv.stkFree (I:Inv X pins σ H s):∀ b∈frs X.stack,H b=none:=fun b hb=>by
 rcases mem_cons.mp (I.stkSub b hb) with e | hb
 ·rw [e];exact I.free
 ·obtain ⟨_,o,ho,_⟩:=I.ok.funs.mem hb;exact I.base.free b o ho (I.ok.frf b hb) fun z=>I.ok.exfs b z hb
theorem Inv.step {g':Array GenState} {t':Nat} {d':Drawn} {ch:List Addr} (I:Inv X pins σ H s)
  (hch:∀ b∈ch,(b∈X.ex\/X.s₀.heap.objs.size<=b)/\b≠X.env.locals/\(∀ x c,X.env.cells.lookup x=some c->c≠b)/\∀ p∈X.pn ++ pins,p.1≠b)
  (keep:∀ b o,b≠X.env.locals->b ∉ X.fs->b ∉ ch->s.heap.get? b=some o->H b=none->h'.get? b=some o)
  (slot:∀ b o,b≠X.env.locals->b∈X.fs->b ∉ ch->s.heap.get? b=some o->H b=none->∃ sl,h'.get? b=some { o with slots:=sl }) (free:∀ b o,b ∉ ch->s.heap.get? b=some o->H b=none->H' b=none)
  (there:∀ b o,b ∉ ch->s.heap.get? b=some o->∃ o',h'.get? b=some o')
  (tups:∀ b xs,H b=some (.tup xs)->H' b=some (.tup xs)) (frzs:∀ b o u,H b=some (.frz o u)->H' b=some (.frz o u)) (tbls:∀ b ps,H b=some (.tbl ps)->∃ more,H' b=some (.tbl (ps ++ more)))
  (ns:∀ m,s.heap.Ns X.env.locals m->h'.Ns X.env.locals m) (hok:HOk X.prog X.w H' h') (hg:AllBare g') :
  Inv X pins σ H' { s with heap:=h',gens:=g',drawn:=d',toks:=t' }:=by
 have neL:∀ b o,X.s₀.heap.get? b=some o->b≠X.env.locals:=fun b o e=>Nat.ne_of_lt (Nat.lt_of_lt_of_le (lt_size e) I.ok.above);have neC:∀ b o,X.s₀.heap.get? b=some o->b ∉ X.ex->b ∉ ch:=fun b o e hx hb=>by
  rcases (hch b hb).1 with z | z
  ·exact hx z
  ·exact absurd (Nat.lt_of_lt_of_le (lt_size e) z) (Nat.lt_irrefl _)
 have cellK:∀ x c,X.env.cells.lookup x=some c->∀ v,s.heap.IsCell c v->h'.IsCell c v:=fun x c e v h9=>by
  obtain ⟨o,ho,hd⟩:=h9;have nch:c ∉ ch:=fun z=>(hch c z).2.2.1 x c e rfl;by_cases hc:c∈X.fs
  ·obtain ⟨sl,q⟩:=slot c o (I.cne x c e) hc nch ho (I.freeC x c e);exact ⟨_,q,hd⟩
  ·exact ⟨o,keep c o (I.cne x c e) hc nch ho (I.freeC x c e),hd⟩
 refine ⟨I.ok,I.os,hg,⟨fun b o e n hb hx=>?_,fun b o e n hb hx=>?_,fun b o e n hx=>?_,fun b o e hx=>?_,fun b xs e=>tups b xs (I.base.tups b xs e),fun b o xs e=>frzs b o xs (I.base.frzs b o xs e),fun b ps e=>?_⟩,?_,fun x c e=>?_,?_,fun x c e=>?_,fun p hp=>?_,hok,I.len⟩
 ·exact keep b o (neL b o e) hb (neC b o e hx) (I.base.keep b o e n hb hx) (I.base.free b o e n hx)
 ·obtain ⟨sl,e1⟩:=I.base.slot b o e n hb hx;obtain ⟨sl',e2⟩:=slot b _ (neL b o e) hb (neC b o e hx) e1 (I.base.free b o e n hx);exact ⟨sl',e2⟩
 ·obtain ⟨o',e1⟩:=I.base.there b o e hx;exact free b o' (neC b o e hx) e1 (I.base.free b o e n hx)
 ·obtain ⟨o',e1⟩:=I.base.there b o e hx;exact there b o' (neC b o e hx) e1
 ·obtain ⟨m1,e1⟩:=I.base.tbls b ps e;obtain ⟨m2,e2⟩:=tbls b _ e1;exact ⟨m1 ++ m2,by rw [e2,Array.append_assoc]⟩
 ·obtain ⟨m,hn,hl⟩:=I.loc;refine ⟨m,ns m hn,fun i x v e1 e2 e3=>?_⟩;obtain ⟨u,r,l⟩:=hl i x v e1 e2 e3;refine ⟨u,r,?_⟩;rcases l with l | ⟨k,c,e,z⟩
  ·exact .inl l
  ·exact .inr ⟨k,c,e,cellK x c e _ z⟩
 ·obtain ⟨v,z⟩:=I.cell x c e;exact ⟨v,cellK x c e v z⟩
 ·obtain ⟨m,⟨o,_,_,ho,_⟩,_⟩:=I.loc;exact free _ o (fun z=>(hch _ z).2.1 rfl) ho I.free
 ·obtain ⟨v,o,ho,hd⟩:=I.cell x c e;exact free c o (fun z=>(hch c z).2.2.1 x c e rfl) ho (I.freeC x c e)
 ·obtain ⟨e,n,ne,nf,d⟩:=I.pin p hp;have nch:p.1 ∉ ch:=fun z=>(hch p.1 z).2.2.2 p hp rfl;exact ⟨keep p.1 p.2 ne nf nch e n,free p.1 p.2 nch e n,ne,nf,d⟩
theorem Inv.un {t':Nat} (I:Inv X pins σ H s) (u:Un X.fs [] H H' s.heap h') (hok:HOk X.prog X.w H' h'):Inv X pins σ H' { s with heap:=h',toks:=t' }:=by
 obtain ⟨m,⟨o,es,ep,ho,r⟩,_⟩:=id I.loc;obtain ⟨sl,hL⟩:=u.any ho I.free (by simp);exact I.step (g':=s.gens) (d':=s.drawn) (ch:=[]) (fun _ z=>nomatch z) (fun b o _ hb _ e n=>u.keep b o e n hb (by simp)) (fun b o _ hb _ e n=>u.slot b o e n hb (by simp)) (fun b o _ e n=>u.free b o e n (by simp)) (fun b o _ e=>u.there b o e (by simp)) u.tups u.frzs u.tbls (fun m' hm=>by
  obtain ⟨o',es',ep',ho',r'⟩:=hm;rw [ho] at ho';cases ho';exact ⟨_,es',ep',hL,r'⟩) hok I.bare
theorem Inv.call {g':Array GenState} {t':Nat} {d':Drawn} {ch:List Addr} (I:Inv X pins σ H s) (u:Un (frs X.stack) ch H H' s.heap h') (hok:HOk X.prog X.w H' h') (hg:AllBare g')
  (hch:∀ b∈ch,(b∈X.ex\/X.s₀.heap.objs.size<=b)/\b≠X.env.locals/\(∀ x c,X.env.cells.lookup x=some c->c≠b)/\∀ p∈X.pn ++ pins,p.1≠b) :
  Inv X pins σ H' { s with heap:=h',gens:=g',drawn:=d',toks:=t' }:=by
 obtain ⟨m,⟨o,es,ep,ho,r⟩,_⟩:=id I.loc;obtain ⟨sl,hL⟩:=u.any ho I.free fun z=>(hch _ z).2.1 rfl;exact I.step (ch:=ch) hch (fun b o hL hb hc e n=>u.keep b o e n (fun z=>(mem_cons.mp (I.stkSub b z)).elim hL hb) hc) (fun b o _ _ hc e n=>u.any e n hc) (fun b o hc e n=>u.free b o e n hc) (fun b o hc e=>u.there b o e hc) u.tups u.frzs u.tbls (fun m' hm=>by
  obtain ⟨o',es',ep',ho',r'⟩:=hm;rw [ho] at ho';cases ho';exact ⟨_,es',ep',hL,r'⟩) hok hg
theorem Inv.turned {t':Nat} {it:Addr} (I:Inv X pins σ H s) (k:∀ b o,b≠it->s.heap.get? b=some o->h'.get? b=some o) (hn:H it=none) (hL:it≠X.env.locals)
  (h1:it∈X.ex\/X.s₀.heap.objs.size<=it) (h2:∀ x c,X.env.cells.lookup x=some c->c≠it) (h3:∀ p∈X.pn ++ pins,p.1≠it):Inv X pins σ H { s with heap:=h',toks:=t' }:=by
 have nit:∀ b u,H b=some u->b≠it:=fun b u e z=>by rw [z,hn] at e;cases e
 refine I.step (g':=s.gens) (d':=s.drawn) (ch:=[it]) (fun b hb=>?_) (fun b o _ _ hc e _=>k b o (fun z=>hc (by simp [z])) e) (fun b o _ _ hc e _=>⟨o.slots,k b o (fun z=>hc (by simp [z])) e⟩) (fun _ _ _ _ n=>n)
  (fun b o hc e=>⟨o,k b o (fun z=>hc (by simp [z])) e⟩) (fun _ _ e=>e) (fun _ _ _ e=>e) (fun b ps e=>⟨#[],by rw [e];simp⟩) (fun m hm=>?_) (fun b u e=>?_) I.bare
 ·have e:b=it:=by simpa using hb
  subst e;exact ⟨h1,hL,h2,h3⟩
 ·obtain ⟨o,es,ep,ho,r⟩:=hm;exact ⟨o,es,ep,k _ o (Ne.symm hL) ho,r⟩
 ·refine (I.hok b u e).stay (fun c v hc q=>k c v ?_ q) (fun _ q=>q) fun _ _ q=>q;rcases hc with z | z
  ·rw [z];exact nit b u e
  ·exact nit c _ z
theorem Inv.tok (I:Inv X pins σ H s) (t:Nat):Inv X pins σ H { s with toks:=t }:=I.un (h':=s.heap) (t':=t) Un.refl I.hok
theorem Inv.kept {t':Nat} (I:Inv X pins σ H s) (k:∀ b u,s.heap.get? b=some u->h'.get? b=some u):Inv X pins σ H { s with heap:=h',toks:=t' }:=I.un (Un.kept k) (I.hok.kept k)
theorem Inv.laid {a:Addr} {o:HO} {t':Nat} (I:Inv X pins σ H s) (k:∀ b u,s.heap.get? b=some u->h'.get? b=some u) (hp:s.heap.objs.size<=a) (new:ObjOk X.prog X.w (upd H a o) h' a o) :
  Inv X pins σ (upd H a o) { s with heap:=h',toks:=t' }:=I.un (Un.laid k hp (I.hok.fresh hp)) (I.hok.laid k hp new)
theorem Inv.write {x e:Addr} {o:HO} {t':Nat} (I:Inv X pins σ H s) (mu:Mut (H x)) (he:e=x\/H e=some (.own x)) (k:∀ b u,b≠e->s.heap.get? b=some u->h'.get? b=some u) (heo:∃ u,h'.get? e=some u)
  (new:ObjOk X.prog X.w (upd H x o) h' x o):Inv X pins σ (upd H x o) { s with heap:=h',toks:=t' }:=I.un (Un.write mu he k heo) (I.hok.write mu he k heo new)
theorem Inv.pins_of {pins':List (Addr × Obj)} (I:Inv X pins σ H s) (h:∀ p∈pins',s.heap.get? p.1=some p.2/\H p.1=none/\p.1≠X.env.locals/\p.1 ∉ X.fs/\∀ v,p.2.data≠.cell v):Inv X pins' σ H s :=
 ⟨I.ok,I.os,I.bare,I.base,I.loc,I.cell,I.free,I.freeC,fun p hp=>(mem_append.mp hp).elim (fun z=>I.pin p (mem_append_left _ z)) (h p),I.hok,I.len⟩
theorem nodup_ix {N:List Str} (hN:N.Nodup) {i j:Nat} {x:Str} (a:N[i]?=some x) (b:N[j]?=some x):i=j:=by
 obtain ⟨h1,e1⟩:=List.getElem?_eq_some_iff.mp a;obtain ⟨h2,e2⟩:=List.getElem?_eq_some_iff.mp b;exact (List.getElem_inj hN).mp (e1.trans e2.symm)
theorem store_ok2 {M:Model} {A:Around} {E:Value->Shared->Prop} {i:Nat} {x:Str} {v:V} {u:Value} {Q:Unit->Shared->Prop} (I:Inv X pins σ H s) (hN:X.N.Nodup) (hi:X.N[i]?=some x) (hx:Loc X.env.scope x) (r:RelV v u)
  (h:∀ s',Inv X pins (σ.set i (some v)) H s'->(∃ a,Heap.SameBut a s.heap s'.heap/\(a=X.env.locals\/X.env.cells.lookup x=some a))->Q () s') (hf:X.fn x=true\/X.env.scope.names.lookup x=some .local:=by first | exact .inl rfl | exact .inr rfl | assumption):wpAny M A (storeName X.env x u) Q E s:=by
 obtain ⟨m,hn,hl⟩:=id I.loc;have hcls:(X.env.scope.kind == .class || (X.env.scope.kind == .module && X.env.locals != X.env.globals))=false:=by rw [I.ok.kind];rfl
 have hiσ:i < σ.length:=by rw [I.len];exact (List.getElem?_eq_some_iff.mp hi).1
 have cne:=I.cne;have tracked:∀ {a:Addr} {h':Heap},(∃ o,s.heap.get? a=some o/\H a=none)->Heap.SameBut a s.heap h'->HOk X.prog X.w H h':=fun {a h'} ha hs b ob e=>by
  obtain ⟨_,_,hfree⟩:=ha;refine (I.hok b ob e).stay (fun c w' hc q=>(hs.2 c ?_).trans q) (fun _ q=>q) fun _ _ q=>q;rintro rfl;rcases hc with rfl | hc
  ·rw [hfree] at e;cases e
  ·rw [hfree] at hc;cases hc
 rcases hx with hk | hk
 ·refine wpAny_storeName_local hk hn (fun h' hn' hs=>?_) hcls;obtain ⟨oL,_,_,hoL,_⟩:=id hn;refine h _ ⟨I.ok,I.os,I.bare,⟨fun b o e n hb hx=>?_,fun b o e n hb hx=>?_,I.base.free,fun b o e hx=>?_,I.base.tups,I.base.frzs,I.base.tbls⟩,⟨_,hn',fun j y v' e1 e2 e3=>?_⟩,fun y c e=>?_,I.free,I.freeC,fun p hp=>?_,tracked ⟨oL,hoL,I.free⟩ hs,by simpa using I.len⟩ ⟨_,hs,.inl rfl⟩
  ·exact (hs.2 b (Nat.ne_of_lt (Nat.lt_of_lt_of_le (lt_size e) I.ok.above))).trans (I.base.keep b o e n hb hx)
  ·obtain ⟨sl,e1⟩:=I.base.slot b o e n hb hx;exact ⟨sl,(hs.2 b (Nat.ne_of_lt (Nat.lt_of_lt_of_le (lt_size e) I.ok.above))).trans e1⟩
  ·obtain ⟨o',e1⟩:=I.base.there b o e hx;exact ⟨o',(hs.2 b (Nat.ne_of_lt (Nat.lt_of_lt_of_le (lt_size e) I.ok.above))).trans e1⟩
  ·by_cases hj:j=i
   ·subst hj;rw [hi] at e1;cases e1;rw [List.getElem?_set_self hiσ] at e2;cases e2;exact ⟨u,r,.inl ⟨hk,by simp⟩⟩
   ·rw [List.getElem?_set_ne (Ne.symm hj)] at e2;obtain ⟨u',r',q⟩:=hl j y v' e1 e2 e3;refine ⟨u',r',?_⟩;rcases q with ⟨k,e⟩ | ⟨k,c,e,z⟩
    ·refine .inl ⟨k,?_⟩;have:y≠x:=fun e=>hj (nodup_ix hN e1 (e ▸ hi));simp [this,e]
    ·exact .inr ⟨k,c,e,z.sameBut hs (cne y c e)⟩
  ·obtain ⟨w',z⟩:=I.cell y c e;exact ⟨w',z.sameBut hs (cne y c e)⟩
  ·obtain ⟨e,n,ne,nf,d⟩:=I.pin p hp;exact ⟨(hs.2 p.1 ne).trans e,n,ne,nf,d⟩
 ·have hfn:X.fn x=true:=by
   rcases hf with z | z
   ·exact z
   ·rw [z] at hk;cases hk
  obtain ⟨c,hc⟩:=I.ok.has x (.inl hk);obtain ⟨w',z⟩:=I.cell x c hc;refine wpAny_storeName_cell I.ok.kind hk hc z (fun h' hc' hs=>?_);obtain ⟨oc,hoc,hocd⟩:=id z;refine h { s with heap:=h' } ⟨I.ok,I.os,I.bare,⟨fun b o e n hb hx=>?_,fun b o e n hb hx=>?_,I.base.free,fun b o e hx=>?_,I.base.tups,I.base.frzs,I.base.tbls⟩,⟨m,hn.sameBut hs (Ne.symm (cne x c hc)),fun j y v' e1 e2 e3=>?_⟩,fun y c' e=>?_,I.free,I.freeC,fun p hp=>?_,tracked ⟨oc,hoc,I.freeC x c hc⟩ hs,by simpa using I.len⟩ ⟨c,hs,.inr hc⟩
  ·exact (hs.2 b (Nat.ne_of_lt (Nat.lt_of_lt_of_le (lt_size e) (I.ok.cab x c hfn hc)))).trans (I.base.keep b o e n hb hx)
  ·obtain ⟨sl,e1⟩:=I.base.slot b o e n hb hx;exact ⟨sl,(hs.2 b (Nat.ne_of_lt (Nat.lt_of_lt_of_le (lt_size e) (I.ok.cab x c hfn hc)))).trans e1⟩
  ·obtain ⟨o',e1⟩:=I.base.there b o e hx;exact ⟨o',(hs.2 b (Nat.ne_of_lt (Nat.lt_of_lt_of_le (lt_size e) (I.ok.cab x c hfn hc)))).trans e1⟩
  ·by_cases hj:j=i
   ·subst hj;rw [hi] at e1;cases e1;rw [List.getElem?_set_self hiσ] at e2;cases e2;exact ⟨u,r,.inr ⟨.inl hk,c,hc,hc'⟩⟩
   ·rw [List.getElem?_set_ne (Ne.symm hj)] at e2;obtain ⟨u',r',q⟩:=hl j y v' e1 e2 e3;refine ⟨u',r',?_⟩;rcases q with q | ⟨k,c',e,z'⟩
    ·exact .inl q
    ·refine .inr ⟨k,c',e,z'.sameBut hs ?_⟩;rintro rfl;exact hj (nodup_ix hN e1 (I.ok.inj _ _ _ e hc ▸ hi))
  ·by_cases hcc:c'=c
   ·subst hcc;exact ⟨_,hc'⟩
   ·obtain ⟨w2,z2⟩:=I.cell y c' e;exact ⟨w2,z2.sameBut hs hcc⟩
  ·obtain ⟨e,n,ne,nf,d⟩:=I.pin p hp;refine ⟨(hs.2 p.1 ?_).trans e,n,ne,nf,d⟩;intro q;rw [q,hoc] at e;have q':oc=p.2:=Option.some.inj e;exact d w' (by rw [<- q'];exact hocd)
theorem J2z {M:Model} {A:Around} {E:Value->Shared->Prop} {i:Nat} {x:Str} {v:V} {u:Value} {Q:Unit->Shared->Prop} (I:Inv X pins σ H s) (hN:X.N.Nodup) (hi:X.N[i]?=some x) (hx:Loc X.env.scope x) (r:RelV v u)
  (h:∀ s',Inv X pins (σ.set i (some v)) H s'->Q () s') (hf:X.fn x=true\/X.env.scope.names.lookup x=some .local:=by first | exact .inl rfl | exact .inr rfl | assumption):wpAny M A (storeName X.env x u) Q E s :=
 store_ok2 I hN hi hx r (fun s' I' _=>h s' I') hf
theorem Inv.call' {s':Shared} {ch:List Addr} (I:Inv X pins σ H s) (ho:s'.os=s.os) (u:Un (frs X.stack) ch H H' s.heap s'.heap) (hok:HOk X.prog X.w H' s'.heap) (hg:AllBare s'.gens)
  (hch:∀ b∈ch,(b∈X.ex\/X.s₀.heap.objs.size<=b)/\b≠X.env.locals/\(∀ x c,X.env.cells.lookup x=some c->c≠b)/\∀ p∈X.pn ++ pins,p.1≠b):Inv X pins σ H' s':=by
 obtain ⟨h',g',d',t',o'⟩:=s';have e:o'=s.os:=ho;subst e;exact I.call (g':=g') (t':=t') (d':=d') u hok hg hch
end
abbrev XK:=Value->Option Addr->Hp->Prop
abbrev St:=List (Option V)
abbrev VK:=V->Hp->Prop
abbrev TE:=St->Hp->VK->Prop
abbrev TT:=St->Hp->(Bool->Hp->Prop)->Prop
abbrev TA:=St->Hp->(List V->Hp->Prop)->Prop
structure Ends where
 nx:St->Hp->Prop
 rt:VK
 bk:St->Hp->Prop:=fun _ _=>False
 ct:St->Hp->Prop:=fun _ _=>False
abbrev TS:=Ends->St->Hp->Prop
def EP (X:Cx) (pins:List (Addr × Obj)) (σ:St) (Q:VK) (u:Value) (s':Shared):Prop:=∃ v H',Inv X pins σ H' s'/\RelV v u/\Q v H'
def TP (X:Cx) (pins:List (Addr × Obj)) (σ:St) (Q:Bool->Hp->Prop) (b:Bool) (s':Shared):Prop:=∃ H',Inv X pins σ H' s'/\Q b H'
def AP (X:Cx) (pins:List (Addr × Obj)) (σ:St) (Q:List V->Hp->Prop) (us:List Value) (s':Shared):Prop:=∃ vs H',Inv X pins σ H' s'/\Vals vs us/\Q vs H'
def SP (X:Cx) (pins:List (Addr × Obj)) (D:Ends) (f:Flow) (s':Shared):Prop :=
 match f with
 | .next=>∃ σ' H',Inv X pins σ' H' s'/\D.nx σ' H'
 | .brk=>∃ σ' H',Inv X pins σ' H' s'/\D.bk σ' H'
 | .cont=>∃ σ' H',Inv X pins σ' H' s'/\D.ct σ' H'
 | .ret u=>∃ v σ' H',Inv X pins σ' H' s'/\RelV v u/\D.rt v H'
def PE (X:Cx) (e:Expr) (t:TE):Prop :=
 ∀ (pins:List (Addr × Obj)) (s:Shared) (σ:St) (H:Hp) (Q:VK),Inv X pins σ H s->t σ H Q->wpAny (model X.prog X.w) X.A (eval e X.env) (EP X pins σ Q) X.xe s
def PT (X:Cx) (e:Expr) (t:TT):Prop :=
 ∀ (pins:List (Addr × Obj)) (s:Shared) (σ:St) (H:Hp) (Q:Bool->Hp->Prop),Inv X pins σ H s->t σ H Q->wpAny (model X.prog X.w) X.A (isTrue e X.env (eval e X.env)) (TP X pins σ Q) X.xe s
def PW (X:Cx) (e:Expr) (t:TT):Prop :=
 ∀ (whole:Sem Value) (pins:List (Addr × Obj)) (s:Shared) (σ:St) (H:Hp) (Q:Bool->Hp->Prop),Inv X pins σ H s->t σ H Q->wpAny (model X.prog X.w) X.A (isTrue e X.env whole) (TP X pins σ Q) X.xe s
theorem PW.pt {X:Cx} {e:Expr} {t:TT} (h:PW X e t):PT X e t:=h _
def PA (X:Cx) (es:List Expr) (t:TA):Prop :=
 ∀ (pos:Pos) (pins:List (Addr × Obj)) (s:Shared) (σ:St) (H:Hp) (Q:List V->Hp->Prop),Inv X pins σ H s->t σ H Q->wpAny (model X.prog X.w) X.A (spliced (backTo pos (starEach es X.env))) (AP X pins σ Q) X.xe s
def PS (X:Cx) (st:Stmt) (t:TS):Prop :=
 ∀ (pins:List (Addr × Obj)) (s:Shared) (σ:St) (H:Hp) (D:Ends),Inv X pins σ H s->t D σ H->wpAny (model X.prog X.w) X.A (exec st X.env) (SP X pins D) X.xe s
def PSs (X:Cx) (st:List Stmt) (t:TS):Prop :=
 ∀ (pins:List (Addr × Obj)) (s:Shared) (σ:St) (H:Hp) (D:Ends),Inv X pins σ H s->t D σ H->wpAny (model X.prog X.w) X.A (execs st X.env) (SP X pins D) X.xe s
theorem thn {α:Type} {t:Sem α} {Q Q':α->Shared->Prop} {M:Model} {A:Around} {E:Value->Shared->Prop} {s:Shared} (h:wpAny M A t Q E s) (hQ:∀ a s,Q a s->Q' a s):wpAny M A t Q' E s:=wpAny_mono h hQ fun _ _ x=>x
end L2
namespace L2
open PySem PySem.Spec PyProof.Rows
section
variable {X:Cx}
def tVar (i:Nat):TE:=fun σ H Q=>∃ v,σ[i]?=some (some v)/\Q v H
def tC (v:V):TE:=fun _ H Q=>Q v H
theorem pe_var {i:Nat} {x:Str} {pos:Pos} (hN:X.N[i]?=some x) (hv:Vis X.env.scope x) (hd:(x == ("__debug__":Str))=false:=by decide) (hcd:(x == ("__classdict__":Str))=false:=by decide):PE X (.Name x pos) (tVar i):=by
 intro pins s σ H Q I h;obtain ⟨v,e,h⟩:=h;obtain ⟨m,hn,hl⟩:=I.loc;obtain ⟨u,r,l⟩:=hl i x v hN e hv;have fin:EP X pins σ Q u s:=⟨v,H,I,r,h⟩;rcases l with ⟨hk,hm⟩ | ⟨hk,c,hc,hcell⟩
 ·exact wpAny_Name (wpAny_loadName_local I.ok.kind hk hn hm fin) hd
 ·rcases hk with hk | hk
  ·exact wpAny_Name (wpAny_loadName_cell I.ok.kind hk hc hcell fin) hd
  ·exact wpAny_Name (wpAny_loadName_free I.ok.kind hk hc hcell fin hcd) hd
theorem J7 {i j pos}:PE X (.Constant (.int i) j pos) (tC (.int i)):=fun _ _ _ H _ I h=>wpAny_Constant_int ⟨.int i,H,I.tok _,⟨_,rfl⟩,h⟩
theorem pe_bl {b j pos}:PE X (.Constant (.bool b) j pos) (tC (.bl b)):=fun _ _ _ H _ I h=>Constant_bool ⟨.bl b,H,I,rfl,h⟩
theorem pe_non {j pos}:PE X (.Constant .none j pos) (tC .non):=fun _ _ _ H _ I h=>Constant_none ⟨.non,H,I,rfl,h⟩
theorem pe_str {x j pos}:PE X (.Constant (.str x) j pos) (tC (.str x)):=fun _ _ _ H _ I h=>Calls.Constant_str ⟨.str x,H,I.tok _,⟨_,rfl⟩,h⟩
def Gl (X:Cx) (x:Str):Prop:=X.env.kindOf x=some .globalImplicit
theorem ld_glob {E:Value->Shared->Prop} {pins:List (Addr × Obj)} {s:Shared} {σ:St} {H:Hp} {x:Str} {u:Value} {pos:Pos} {Q:Value->Shared->Prop} (I:Inv X pins σ H s) (hg:Gl X x) (hm:X.mg x=some u) (h:Q u s)
  (hd:(x == ("__debug__":Str))=false:=by decide):wpAny (model X.prog X.w) X.A (eval (.Name x pos) X.env) Q E s :=
 Calls.Name_function_global I.ok.kind hg (Calls.loadGlobal_global (by rw [I.ok.glob];exact I.mod.glob.keeps I.bk) hm h) hd
theorem J3f {E:Value->Shared->Prop} {pins:List (Addr × Obj)} {s:Shared} {σ:St} {H:Hp} {x:Str} {u:Value} {pos:Pos} {Q:Value->Shared->Prop} (I:Inv X pins σ H s) (hg:Gl X x) (hm:X.mg x=none) (hv:bootBuiltins x=some u) (h:Q u s)
  (hn:x≠"__name__":=by decide) (hd:(x == ("__debug__":Str))=false:=by decide):wpAny (model X.prog X.w) X.A (eval (.Name x pos) X.env) Q E s:=by
 obtain ⟨mb,h1,h2⟩:=I.mod.blt;exact Calls.Name_function_global I.ok.kind hg (Calls.loadGlobal_builtin (by rw [I.ok.glob];exact I.mod.glob.keeps I.bk) hm (by rw [I.ok.blt];exact h1.keeps I.bk) ((h2 x hn).trans hv) h) hd
theorem pe_glob {x:Str} {v:V} {u:Value} {pos:Pos} (hg:Gl X x) (hm:X.mg x=some u) (r:RelV v u) (hd:(x == ("__debug__":Str))=false:=by decide):PE X (.Name x pos) (tC v) :=
 fun _ _ _ H _ I h=>ld_glob I hg hm ⟨v,H,I,r,h⟩ hd
theorem pe_bltn {x:Str} {v:V} {u:Value} {pos:Pos} (hg:Gl X x) (hm:X.mg x=none) (hv:bootBuiltins x=some u) (r:RelV v u) (hn:x≠"__name__":=by decide) (hd:(x == ("__debug__":Str))=false:=by decide):PE X (.Name x pos) (tC v) :=
 fun _ _ _ H _ I h=>J3f I hg hm hv ⟨v,H,I,r,h⟩ hn hd
variable {a b:Expr} {ta tb:TE} {pos:Pos}
def tB (t:TE):TT:=fun σ H Q=>t σ H fun x H1=>∃ c,x=.bl c/\Q c H1
theorem J39 {e:Expr} {t:TE} (h:PE X e t) (he:∀ whole,isTrue e X.env whole=(do let v <- whole;standAt e.pos;holding [v] (truthy v)):=by intro _;rfl):PT X e (tB t):=by
 intro pins s σ H Q I hw;refine isTrue_plain (thn (h pins s σ H _ I hw) fun v s1 h9=>?_) (he _);obtain ⟨x,H1,I1,r1,q1⟩:=h9;obtain ⟨d,rfl,q⟩:=q1;cases r1;exact wpAny_truthy_bool ⟨H1,I1,q⟩
variable {tA tB':TT} {rest:List Expr}
def tAnd (t u:TT):TT:=fun σ H Q=>t σ H fun c H1=>if c=true then u σ H1 Q else Q false H1
def tOr (t u:TT):TT:=fun σ H Q=>t σ H fun c H1=>if c=true then Q true H1 else u σ H1 Q
def tNot (t:TT):TT:=fun σ H Q=>t σ H fun c H1=>Q (!c) H1
theorem pw_and1 (ha:PT X a tA):PW X (.BoolOp .And [a] pos) tA:=by
 intro wh pins s σ H Q I h;refine isTrue_and (thn (ha pins s σ H Q I h) fun c s1 e=>?_)
 cases c with
 | true=>exact isTrue_and_nil e
 | false=>exact e
theorem J38 (ha:PT X a tA):PW X (.BoolOp .Or [a] pos) tA:=by
 intro wh pins s σ H Q I h;refine isTrue_or (thn (ha pins s σ H Q I h) fun c s1 e=>?_)
 cases c with
 | false=>exact isTrue_or_nil e
 | true=>exact e
theorem pw_and (ha:PT X a tA) (hb:PW X (.BoolOp .And (b :: rest) pos) tB'):PW X (.BoolOp .And (a :: b :: rest) pos) (tAnd tA tB'):=by
 intro wh pins s σ H Q I h;refine isTrue_and (thn (ha pins s σ H _ I h) fun c s1 h9=>?_);obtain ⟨H1,I1,q1⟩:=h9
 cases c with
 | true=>exact hb wh pins s1 σ H1 Q I1 q1
 | false=>exact ⟨H1,I1,q1⟩
theorem pw_or (ha:PT X a tA) (hb:PW X (.BoolOp .Or (b :: rest) pos) tB'):PW X (.BoolOp .Or (a :: b :: rest) pos) (tOr tA tB'):=by
 intro wh pins s σ H Q I h;refine isTrue_or (thn (ha pins s σ H _ I h) fun c s1 h9=>?_);obtain ⟨H1,I1,q1⟩:=h9
 cases c with
 | true=>exact ⟨H1,I1,q1⟩
 | false=>exact hb wh pins s1 σ H1 Q I1 q1
theorem pt_not (ha:PT X a tA):PT X (.UnaryOp .Not a pos) (tNot tA):=by
 intro pins s σ H Q I h;exact isTrue_not (ha pins s σ H (fun c H1=>Q (!c) H1) I h)
def tAndV (ta tb:TE):TE:=fun σ H Q=>ta σ H fun x H1=>∃ c,x=.bl c/\if c=true then tb σ H1 Q else Q (.bl false) H1
theorem pe_one {op} {t:TE} (h:PE X a t):PE X (.BoolOp op [a] pos) t:=fun pins s σ H Q I hw=>BoolOp_one (h pins s σ H Q I hw)
theorem pe_and (ha:PE X a ta) (hb:PE X (.BoolOp .And (b :: rest) pos) tb):PE X (.BoolOp .And (a :: b :: rest) pos) (tAndV ta tb):=by
 intro pins s σ H Q I h;refine BoolOp_and (thn (ha pins s σ H _ I h) fun v s1 h9=>?_);obtain ⟨x,H1,I1,r1,q1⟩:=h9;obtain ⟨c,rfl,q1⟩:=q1;cases r1;refine wpAny_truthy_bool ?_
 cases c with
 | true=>exact hb pins s1 σ H1 Q I1 q1
 | false=>exact ⟨.bl false,H1,I1,rfl,q1⟩
def tIf (t:TT) (ta tb:TE):TE:=fun σ H Q=>t σ H fun c H1=>if c=true then ta σ H1 Q else tb σ H1 Q
theorem pe_ifExp {c:Expr} (hc:PT X c tA) (ha:PE X a ta) (hb:PE X b tb):PE X (.IfExp c a b pos) (tIf tA ta tb):=by
 intro pins s σ H Q I h;refine wpAny_IfExp (thn (hc pins s σ H _ I h) fun d s1 h9=>?_);obtain ⟨H1,I1,q1⟩:=h9
 cases d with
 | true=>exact ha pins s1 σ H1 Q I1 q1
 | false=>exact hb pins s1 σ H1 Q I1 q1
end
end L2
namespace L2
open PySem PySem.Spec PyProof.Rows
def SqL (K:Frag) (H:Hp) (a:Addr) (xs:List V):Prop :=
 Rd H a (.lst xs)\/
  ∃ (o:Obj) (its:Array Value) (n:Nat),K.lookup a=some o/\o.cls=.type "list"/\o.dict=none/\o.data=.seq its n/\its.size<=sizeLine/\Vals xs its.toList
def SqT (K:Frag) (H:Hp) (a:Addr) (xs:List V):Prop :=
 Rd H a (.tup xs)\/
  ∃ (o:Obj) (its:Array Value) (n:Nat),K.lookup a=some o/\o.cls=.type "tuple"/\o.data=.seq its n/\its.size<=sizeLine/\Vals xs its.toList
def absV:Value->Option V
 | .none=>some .non
 | .bool b=>some (.bl b)
 | .int i _=>some (.int i)
 | .str x _=>some (.str x)
 | .bytes b _=>some (.byt b)
 | .float b _=>some (.flt b)
 | .ref a=>some (.ref a)
 | .type n=>some (.ty n)
 | _=>none
theorem RelV.abs {x:V} {u:Value} (r:RelV x u):absV u=some x:=by
 cases x with
 | non=>cases r;rfl
 | bl _=>cases r;rfl
 | int _=>obtain ⟨t,rfl⟩:=r;rfl
 | str _=>obtain ⟨t,rfl⟩:=r;rfl
 | byt _=>obtain ⟨t,rfl⟩:=r;rfl
 | flt _=>obtain ⟨t,rfl⟩:=r;rfl
 | ref _=>cases r;rfl
 | ty _=>cases r;rfl
theorem RelV.inj {x y:V} {u:Value} (r:RelV x u) (q:RelV y u):x=y:=Option.some.inj (r.abs.symm.trans q.abs)
theorem Vals.inj:∀ {xs ys:List V} {us:List Value},Vals xs us->Vals ys us->xs=ys
 | _,_,_,.nil,.nil=>rfl
 | _,_,_,.cons r t,.cons r' t'=>by rw [r.inj r',Vals.inj t t']
section
variable {X:Cx} {pins:List (Addr × Obj)} {σ:St} {H:Hp} {s:Shared} {a:Addr} {xs ys:List V}
theorem SqL.of {K:Frag} (h:H a=some (.lst xs)):SqL K H a xs:=.inl (.inl h)
theorem SqT.of {K:Frag} (h:H a=some (.tup xs)):SqT K H a xs:=.inl (.inl h)
theorem Inv.list (I:Inv X pins σ H s) (h:SqL X.K H a xs):∃ its:List Value,Vals xs its/\PlainL s.heap a its.toArray/\xs.length<=sizeLine:=by
 rcases h with h | ⟨o,its,n,hk,hc,hd,hs,hz,r⟩
 ·obtain ⟨z,its,n,r,e⟩:=h.ok I.hok;exact ⟨its,r,⟨_,n,e,rfl,rfl,rfl⟩,z⟩
 ·refine ⟨its.toList,r,⟨o,n,I.kIn a o hk,hc,hd,by simpa using hs⟩,?_⟩;have e:=r.length;simp only [length_toList] at e;omega
theorem Inv.tuple (I:Inv X pins σ H s) (h:SqT X.K H a xs):∃ its:List Value,Vals xs its/\IsTup s.heap a its.toArray/\xs.length<=sizeLine:=by
 rcases h with h | ⟨o,its,n,hk,hc,hs,hz,r⟩
 ·obtain ⟨z,its,r,p⟩:=h.ok I.hok;exact ⟨its,r,p.tup,z⟩
 ·refine ⟨its.toList,r,⟨o,I.kIn a o hk,hc,n,by simpa using hs⟩,?_⟩;have e:=r.length;simp only [length_toList] at e;omega
theorem Inv.list_inj (I:Inv X pins σ H s) (h:SqL X.K H a xs) (h':SqL X.K H a ys):xs=ys:=by
 obtain ⟨its,r,⟨o,n,e,_,_,d⟩,_⟩:=I.list h;obtain ⟨its',r',⟨o',n',e',_,_,d'⟩,_⟩:=I.list h';rw [e] at e';cases e';rw [d] at d';injection d' with d1 _
 have:its=its':=by simpa using congrArg Array.toList d1
 subst this;exact r.inj r'
theorem Inv.tuple_inj (I:Inv X pins σ H s) (h:SqT X.K H a xs) (h':SqT X.K H a ys):xs=ys:=by
 obtain ⟨its,r,⟨o,e,_,n,d⟩,_⟩:=I.tuple h;obtain ⟨its',r',⟨o',e',_,n',d'⟩,_⟩:=I.tuple h';rw [e] at e';cases e';rw [d] at d';injection d' with d1 _
 have:its=its':=by simpa using congrArg Array.toList d1
 subst this;exact r.inj r'
end
abbrev Cx.wish (X:Cx) (E:Value->Shared->Prop):Cx:={ X with xe:=E }
abbrev Cx.nox (X:Cx):Cx:=X.wish fun _ _=>False
theorem Cx.Ok.wish {X:Cx} (ok:X.Ok) (E:Value->Shared->Prop):(X.wish E).Ok :=
 ⟨ok.mod,ok.kind,ok.glob,ok.blt,ok.above,ok.inj,ok.has,ok.cab,ok.hd,ok.frames,ok.stk,ok.exf,ok.bs,ok.bsz,ok.noex,ok.exfs,ok.funs,ok.frf⟩
theorem Cx.Ok.unwish {X:Cx} {E:Value->Shared->Prop} (ok:(X.wish E).Ok):X.Ok :=
 ⟨ok.mod,ok.kind,ok.glob,ok.blt,ok.above,ok.inj,ok.has,ok.cab,ok.hd,ok.frames,ok.stk,ok.exf,ok.bs,ok.bsz,ok.noex,ok.exfs,ok.funs,ok.frf⟩
section
variable {X:Cx} {pins:List (Addr × Obj)} {σ:St} {H:Hp} {s:Shared} {E:Value->Shared->Prop}
theorem Inv.wish (I:Inv X pins σ H s) (E:Value->Shared->Prop):Inv (X.wish E) pins σ H s:=⟨I.ok.wish E,I.os,I.bare,I.base,I.loc,I.cell,I.free,I.freeC,I.pin,I.hok,I.len⟩
theorem Inv.unwish (I:Inv (X.wish E) pins σ H s):Inv X pins σ H s:=⟨I.ok.unwish,I.os,I.bare,I.base,I.loc,I.cell,I.free,I.freeC,I.pin,I.hok,I.len⟩
theorem SP.unwish {D:Ends} {f:Flow} {s':Shared} (h:SP (X.wish E) pins D f s'):SP X pins D f s':=by
 cases f with
 | next=>obtain ⟨σ',H',I,q⟩:=h;exact ⟨σ',H',I.unwish,q⟩
 | brk=>obtain ⟨σ',H',I,q⟩:=h;exact ⟨σ',H',I.unwish,q⟩
 | cont=>obtain ⟨σ',H',I,q⟩:=h;exact ⟨σ',H',I.unwish,q⟩
 | ret u=>obtain ⟨v,σ',H',I,r,q⟩:=h;exact ⟨v,σ',H',I.unwish,r,q⟩
theorem PSs.nox {st:List Stmt} {t:TS} (h:PSs X.nox st t):PSs X st t:=fun pins s σ H D I hw =>
 wpAny_mono (h pins s σ H D (I.wish _) hw) (fun _ _ q=>q.unwish) fun _ _ z=>False.elim z
end
section
variable {X:Cx} {st:Stmt} {rest:List Stmt} {t u:TS} {e:Expr} {te:TE} {pos:Pos}
def tNext:TS:=fun D σ H=>D.nx σ H
def tSeq (t u:TS):TS:=fun D σ H=>t { D with nx:=u D } σ H
theorem Ju:PSs X [] tNext:=fun _ _ σ H _ I h=>wpAny_execs_nil ⟨σ,H,I,h⟩
theorem J2 (h1:PS X st t) (h2:PSs X rest u):PSs X (st :: rest) (tSeq t u):=by
 intro pins s σ H D I h;refine wpAny_execs_cons (thn (h1 pins s σ H { D with nx:=u D } I h) fun f s1 q=>?_)
 cases f with
 | next =>
  obtain ⟨σ',H',I',q⟩:=q;exact h2 pins s1 σ' H' D I' q
 | ret v=>exact q
 | brk=>exact q
 | cont=>exact q
theorem J9 (h1:PS X st t):PSs X [st] t:=by
 intro pins s σ H D I h;refine wpAny_execs_cons (thn (h1 pins s σ H D I h) fun f s1 q=>?_)
 cases f with
 | next=>exact wpAny_execs_nil q
 | ret v=>exact q
 | brk=>exact q
 | cont=>exact q
theorem Inv.quiet {pins:List (Addr × Obj)} {σ:St} {H:Hp} {s:Shared} (I:Inv X pins σ H s):interactive X.env=false:=by simp [interactive,I.ok.kind]
def tDrop (te:TE):TS:=fun D σ H=>te σ H fun _ H1=>D.nx σ H1
theorem J1b (he:PE X e te) (hs:swapsWith e none pos.line X.env=pure false:=by rfl):PS X (.Expr e pos) (tDrop te):=by
 intro pins s σ H D I h;exact wpAny_Expr_any (thn (he pins s σ H _ I h) fun v s1 h9=>by obtain ⟨x,H1,I1,r1,q1⟩:=h9;exact ⟨σ,H1,I1,q1⟩) I.quiet hs
def tRet (te:TE):TS:=fun D σ H=>te σ H D.rt
theorem Jn (he:PE X e te):PS X (.Return (some e) pos) (tRet te):=by
 intro pins s σ H D I h;exact wpAny_Return_some (thn (he pins s σ H _ I h) fun v s1 h9=>by obtain ⟨x,H1,I1,r1,q1⟩:=h9;exact ⟨x,σ,H1,I1,r1,q1⟩)
def tIfS (c:TT) (t u:TS):TS:=fun D σ H=>c σ H fun b H1=>if b=true then t D σ H1 else u D σ H1
theorem ps_if {c:Expr} {a b:List Stmt} {tc:TT} (hc:PT X c tc) (ha:PSs X a t) (hb:PSs X b u):PS X (.If c a b pos) (tIfS tc t u):=by
 intro pins s σ H D I h;refine wpAny_If (thn (hc pins s σ H _ I h) fun d s1 h9=>?_);obtain ⟨H1,I1,q1⟩:=h9
 cases d with
 | true=>exact ha pins s1 σ H1 D I1 q1
 | false=>exact hb pins s1 σ H1 D I1 q1
end
abbrev TG:=V->St->Hp->(St->Hp->Prop)->Prop
abbrev TGs:=List V->St->Hp->(St->Hp->Prop)->Prop
def PG (X:Cx) (target:Expr) (t:TG):Prop :=
 ∀ (pins:List (Addr × Obj)) (s:Shared) (σ:St) (H:Hp) (v:V) (u:Value) (Q:St->Hp->Prop),Inv X pins σ H s->RelV v u->t v σ H Q->
  wpAny (model X.prog X.w) X.A (assign target X.env u) (fun _ s'=>∃ σ' H',Inv X pins σ' H' s'/\Q σ' H') X.xe s
def PGs (X:Cx) (ts:List Expr) (t:TGs):Prop :=
 ∀ (pins:List (Addr × Obj)) (s:Shared) (σ:St) (H:Hp) (vs:List V) (us:List Value) (Q:St->Hp->Prop),Inv X pins σ H s->Vals vs us->t vs σ H Q->
  wpAny (model X.prog X.w) X.A (assignInOrder ((assignEach ts X.env).map (·.2)) us) (fun _ s'=>∃ σ' H',Inv X pins σ' H' s'/\Q σ' H') X.xe s
abbrev TSet:=V->V->V->Hp->(Hp->Prop)->Prop
def PSet (X:Cx) (t:TSet):Prop :=
 ∀ (pins:List (Addr × Obj)) (s:Shared) (σ:St) (H:Hp) (o i v:V) (ov iv u:Value) (Q:Hp->Prop),Inv X pins σ H s->RelV o ov->RelV i iv->RelV v u->t o i v H Q->
  wpAny (model X.prog X.w) X.A (setItem ov iv u) (fun _ s'=>∃ H',Inv X pins σ H' s'/\Q H') X.xe s
abbrev TIp:=V->V->Hp->VK->Prop
def PIp (X:Cx) (op:Operator) (t:TIp):Prop :=
 ∀ (pins:List (Addr × Obj)) (s:Shared) (σ:St) (H:Hp) (x y:V) (v u:Value) (Q:VK),Inv X pins σ H s->RelV x v->RelV y u->t x y H Q->
  wpAny (model X.prog X.w) X.A (inplaceOp op v u) (EP X pins σ Q) X.xe s
section
variable {X:Cx} {pos:Pos}
def gName (i:Nat):TG:=fun v σ H Q=>Q (σ.set i (some v)) H
theorem Jv {i:Nat} {x:Str} (hN:X.N.Nodup) (hi:X.N[i]?=some x) (hx:Loc X.env.scope x) (hf:X.fn x=true\/X.env.scope.names.lookup x=some .local:=by first | exact .inl rfl | exact .inr rfl | assumption):PG X (.Name x pos) (gName i):=by
 intro pins s σ H v u Q I r h;exact wpAny_assign_Name (J2z I hN hi hx r (fun s' I'=>⟨_,H,I',h⟩) hf)
def gNil:TGs:=fun vs σ H Q=>vs=[]/\Q σ H
def gCons (t:TG) (u:TGs):TGs:=fun vs σ H Q=>∃ v r,vs=v :: r/\t v σ H fun σ' H'=>u r σ' H' Q
theorem pgs_nil:PGs X [] gNil:=by
 intro pins s σ H vs us Q I r h;obtain ⟨e,h⟩:=h;subst e;cases r;exact assignInOrder_nil ⟨σ,H,I,h⟩
theorem J1f {e:Expr} {es:List Expr} {t:TG} {u:TGs} (h1:PG X e t) (h2:PGs X es u)
  (hs:(assignEach (e :: es) X.env).map (·.2)=assign e X.env :: (assignEach es X.env).map (·.2):=by rfl):PGs X (e :: es) (gCons t u):=by
 intro pins s σ H vs us Q I r h;obtain ⟨v,vr,e1,h⟩:=h;subst e1
 cases r with
 | cons r rr =>
  rw [hs];refine assignInOrder_cons (thn (h1 pins s σ H _ _ _ I r h) fun _ s1 h9=>?_);obtain ⟨σ1,H1,I1,q1⟩:=h9;exact h2 pins s1 σ1 H1 _ _ Q I1 rr q1
def gTup (K:Frag) (n:Nat) (t:TGs):TG:=fun v σ H Q=>∃ a xs,v=.ref a/\SqT K H a xs/\xs.length=n/\t xs σ H Q
theorem pg_tup {es:List Expr} {k:Nat} {t:TGs} {n:Nat} (hc:X.calm=true) (h:PGs X es t)
  (hn:(assignEach es X.env).length=n:=by rfl) (hst:(assignEach es X.env).findIdx? (·.1)=none:=by rfl):PG X (.Tuple es k pos) (gTup X.K n t):=by
 intro pins s σ H v u Q I r hw;obtain ⟨a,xs,e1,hq,hl,hw⟩:=hw;subst e1;cases r;obtain ⟨its,rv,ht,hz⟩:=I.tuple hq;refine assign_Tuple_tuple (I.ok.hd hc) ht (by simp [hn,<- hl,rv.length]) hst fun h' hx=>?_;have I1:Inv X pins σ H { s with heap:=h' }:=I.kept (t':=s.toks) fun b o e=>hx b o (Nat.ne_of_lt (lt_size e)) e;exact h pins _ σ H xs _ Q I1 (by simpa using rv) hw
def gSub (to ti:TE) (t:TSet):TG:=fun v σ H Q=>to σ H fun o H1=>ti σ H1 fun i H2=>t o i v H2 fun H3=>Q σ H3
theorem pg_sub {o i:Expr} {to ti:TE} {t:TSet} (ho:PE X o to) (hi:PE X i ti) (hs:PSet X t)
  (ha:∀ v,assign (.Subscript o i pos) X.env v=(do
   let ov <- holding [v] (eval o X.env);let iv <- holding [v,ov] (eval i X.env)
   standAt pos
   holding [v,ov,iv] (setItem ov iv v)
   release [v,ov,iv] []):=by intro _;rfl):PG X (.Subscript o i pos) (gSub to ti t):=by
 intro pins s σ H v u Q I r h;rw [ha];refine wpAny_bind (wpAny_holding (thn (ho pins s σ H _ I h) fun ov s1 h9=>?_));obtain ⟨x,H1,I1,r1,q1⟩:=h9;refine wpAny_bind (wpAny_holding (thn (hi pins s1 σ H1 _ I1 q1) fun iv s2 h9=>?_));obtain ⟨y,H2,I2,r2,q2⟩:=h9;refine wpAny_bind (wpAny_standAt (wpAny_bind (wpAny_holding (thn (hs pins s2 σ H2 x y v ov iv u _ I2 r1 r2 r q2) fun _ s3 h9=>?_))));obtain ⟨H3,I3,q3⟩:=h9;exact wpAny_release ⟨σ,H3,I3,q3⟩
def tAsg (te:TE) (g:TG):TS:=fun D σ H=>te σ H fun x H1=>g x σ H1 D.nx
theorem ps_asg {tg e:Expr} {te:TE} {g:TG} (he:PE X e te) (hg:PG X tg g) (hs:swapsWithSole [tg] e pos.line X.env=pure false:=by rfl) (hw:swappedStores [tg] e X.env=pure none:=by rfl)
  (h1:(assignEach [tg] X.env).map (·.2)=[assign tg X.env]:=by rfl):PS X (.Assign [tg] e pos) (tAsg te g):=by
 intro pins s σ H D I h;refine wpAny_Assign_stores (thn (he pins s σ H _ I h) fun v s1 h9=>?_) hs hw;obtain ⟨x,H1,I1,r1,q1⟩:=h9;rw [h1];exact thn (hg pins s1 σ H1 x v _ I1 r1 q1) fun _ s2 q=>q
theorem Jm {i:Nat} {x:Str} {e:Expr} {te:TE} {pos':Pos} (hN:X.N.Nodup) (hi:X.N[i]?=some x) (hx:Loc X.env.scope x) (he:PE X e te) (hs:swapsWith e (some (.Name x pos')) pos.line X.env=pure false:=by rfl) (hf:X.fn x=true\/X.env.scope.names.lookup x=some .local:=by first | exact .inl rfl | exact .inr rfl | assumption) :
  PS X (.Assign [.Name x pos'] e pos) (tAsg te (gName i)):=by
 intro pins s σ H D I h;refine wpAny_Assign_Name (thn (he pins s σ H _ I h) fun v s1 h9=>?_) hs;obtain ⟨y,H1,I1,r1,q1⟩:=h9;exact J2z I1 hN hi hx r1 (fun s2 I2=>⟨_,H1,I2,q1⟩) hf
def tAug (i:Nat) (te:TE) (ti:TIp):TS:=fun D σ H=>∃ x,σ[i]?=some (some x)/\te σ H fun y H1=>ti x y H1 fun z H2=>D.nx (σ.set i (some z)) H2
theorem ps_aug {i:Nat} {x:Str} {e:Expr} {te:TE} {op:Operator} {ti:TIp} {pos':Pos} (hN:X.N.Nodup) (hi:X.N[i]?=some x) (hx:Loc X.env.scope x) (he:PE X e te) (ho:PIp X op ti) (hf:X.fn x=true\/X.env.scope.names.lookup x=some .local:=by first | exact .inl rfl | exact .inr rfl | assumption) :
  PS X (.AugAssign (.Name x pos') op e pos) (tAug i te ti):=by
 intro pins s σ H D I h;obtain ⟨v,e1,h⟩:=h;obtain ⟨m,hn,hl⟩:=I.loc;have vis:Vis X.env.scope x:=by rcases hx with k | k;exact .inl k;exact .inr (.inl k)
 obtain ⟨u,r,l⟩:=hl i x v hi e1 vis;refine wpAny_AugAssign_Name ?_;have go:wpAny (model X.prog X.w) X.A (eval e X.env) (fun w s₂=>wpAny (model X.prog X.w) X.A (inplaceOp op u w) (fun r s₃=>wpAny (model X.prog X.w) X.A (storeName X.env x r) (fun _=>SP X pins D .next) X.xe s₃) X.xe s₂) X.xe s:=by
  refine thn (he pins s σ H _ I h) fun w s1 h9=>?_;obtain ⟨y,H1,I1,r1,q1⟩:=h9;refine thn (ho pins s1 σ H1 v y u w _ I1 r r1 q1) fun z s2 h9=>?_;obtain ⟨zv,H2,I2,r2,q2⟩:=h9;exact J2z I2 hN hi hx r2 (fun s3 I3=>⟨_,H2,I3,q2⟩) hf
 rcases l with ⟨hk,hm⟩ | ⟨hk,c,hc,hcell⟩
 ·exact wpAny_loadName_local I.ok.kind hk hn hm go
 ·rcases hk with hk | hk
  ·exact wpAny_loadName_cell I.ok.kind hk hc hcell go
  ·rcases hx with k | k
   ·have:X.env.scope.names.lookup x=some .free:=hk;rw [k] at this;cases this
   ·have:X.env.scope.names.lookup x=some .free:=hk;rw [k] at this;cases this
def ipI (f:Int->Int->Int):TIp:=fun x y H Q=>∃ i j,x=.int i/\y=.int j/\Q (.int (f i j)) H
theorem ip_add:PIp X .Add (ipI fun i j=>i + j):=by
 intro pins s σ H x y v u Q I r1 r2 h;obtain ⟨i,j,e1,e2,q⟩:=h;subst e1;subst e2;obtain ⟨t,rfl⟩:=r1;obtain ⟨t',rfl⟩:=r2;exact iadd_int ⟨.int _,H,I.tok _,⟨_,rfl⟩,q⟩
end
section
variable {X:Cx} {pos:Pos}
def tWhile (c:TT) (tb:TS):TS:=fun D σ H=>∃ W:Nat->St->Hp->Prop,(∃ m,W m σ H)/\∀ m σ H,W m σ H->
 c σ H fun b H1=>if b=true then ∃ N:St->Hp->Prop,(∀ σ' H',N σ' H'->∃ m',m' < m/\W m' σ' H')/\tb { D with nx:=N,ct:=N,bk:=D.nx } σ H1 else D.nx σ H1
theorem ps_while {c:Expr} {body:List Stmt} {tc:TT} {tb:TS} (hp:PassesOwn (model X.prog X.w) X.A X.env X.xe) (hc:PT X c tc) (hb:PSs X body tb):PS X (.While c body [] pos) (tWhile tc tb):=by
 intro pins s σ H D I h;obtain ⟨W,⟨m0,w0⟩,turn⟩:=h;refine wpAny_While (codeAny_whileLoop (fun n s'=>∃ σ' H',Inv X pins σ' H' s'/\W n σ' H') ?_ m0 ⟨σ,H,I,w0⟩);rintro n s1 ⟨σ1,H1,I1,w1⟩;refine wpAny_passesOwn hp (thn (hc pins s1 σ1 H1 _ I1 (turn n σ1 H1 w1)) fun b s2 h9=>?_);obtain ⟨H2,I2,q2⟩:=h9
 cases b with
 | true =>
  obtain ⟨N,hN,q2⟩:=q2;rw [if_pos rfl];refine wpAny_passesOwn hp (thn (hb pins s2 σ1 H2 _ I2 q2) fun f s3 q3=>?_)
  cases f with
  | next =>
   obtain ⟨σ3,H3,I3,n3⟩:=q3;obtain ⟨m',hm,w3⟩:=hN σ3 H3 n3;exact ⟨m',hm,σ3,H3,I3,w3⟩
  | cont =>
   obtain ⟨σ3,H3,I3,n3⟩:=q3;obtain ⟨m',hm,w3⟩:=hN σ3 H3 n3;exact ⟨m',hm,σ3,H3,I3,w3⟩
  | brk=>exact q3
  | ret v=>exact q3
 | false =>
  rw [if_neg Bool.false_ne_true];exact wpAny_execs_nil ⟨σ1,H2,I2,q2⟩
end
structure It where
 go:Nat->Hp->Prop
 yld:Nat->Hp->V->Hp->Prop
 stop:Nat->Hp->Prop
def FpOk (X:Cx) (pins:List (Addr × Obj)) (H:Hp) (b:Addr):Prop :=
 H b=none/\b≠X.env.locals/\b ∉ X.fs/\(b∈X.ex\/X.s₀.heap.objs.size<=b)/\(∀ x c,X.env.cells.lookup x=some c->c≠b)/\∀ p∈X.pn ++ pins,p.1≠b
theorem Inv.fpOk {X:Cx} {pins:List (Addr × Obj)} {σ:St} {H H':Hp} {s:Shared} {b:Addr} (I:Inv X pins σ H s) (hb:s.heap.objs.size<=b) (hn:H' b=none):FpOk X pins H' b:=by
 refine ⟨hn,Nat.ne_of_gt (Nat.lt_of_lt_of_le I.lt hb),I.nofs hb,.inr (Nat.le_trans I.sz hb),fun x c e z=>?_,fun p hp z=>?_⟩
 ·obtain ⟨v,q⟩:=I.cell x c e;exact absurd (Nat.lt_of_lt_of_le q.lt (by rw [z];exact hb)) (Nat.lt_irrefl _)
 ·exact absurd (Nat.lt_of_lt_of_le (lt_size (I.pin p hp).1) (by rw [z];exact hb)) (Nat.lt_irrefl _)
structure Turn (P:Program) (w:World) (K:Frag) (tg:Expr) (J:It) (fp:List Addr) (it:Addr) (tn:Nat->Heap->Prop):Prop where
 mem:it∈fp
 obj:∀ i h,tn i h->∀ b∈fp,∃ o,h.get? b=some o/\∀ v,o.data≠.cell v
 keep:∀ i h h',tn i h->(∀ b∈fp,∀ o,h.get? b=some o->h'.get? b=some o)->tn i h'
 item:∀ (X:Cx),X.prog=P->X.w=w->X.K=K->X.calm=true->∀ (i:Nat) (pins:List (Addr × Obj)) (s:Shared) (σ:St) (H:Hp) (E:Value->Shared->Prop),Inv X pins σ H s->(∀ b∈fp,FpOk X pins H b)->tn i s.heap->J.go i H->
  wpAny (model P w) X.A (pyNext (.ref it)) (fun r s1=>∃ u,r=some u/\
   wpAny (model P w) X.A (letOwnedTupleGo tg (.ref it) u) (fun _ s2=>∃ x H',Inv X pins σ H' s2/\RelV x u/\J.yld i H x H'/\tn (i + 1) s2.heap/\∀ b∈fp,H' b=none) E s1) E s
 done:∀ (X:Cx),X.prog=P->X.w=w->X.K=K->X.calm=true->∀ (i:Nat) (pins:List (Addr × Obj)) (s:Shared) (σ:St) (H:Hp) (E:Value->Shared->Prop),Inv X pins σ H s->(∀ b∈fp,FpOk X pins H b)->tn i s.heap->J.stop i H->
  wpAny (model P w) X.A (pyNext (.ref it)) (fun r s1=>r=none/\Inv X pins σ H s1) E s
 self:∀ (A:Around) (i:Nat) (s:Shared) (Q:Value->Shared->Prop) (E:Value->Shared->Prop),tn i s.heap->Q (.ref it) s->wpAny (model P w) A (pyIter (.ref it)) Q E s
abbrev TI:=St->Hp->(It->Hp->Prop)->Prop
def PIE (X:Cx) (pins:List (Addr × Obj)) (σ:St) (tg:Expr) (R:It->Hp->Prop) (itv:Value) (s2:Shared):Prop :=
 ∃ (it:Addr) (fp:List Addr) (tn:Nat->Heap->Prop) (J:It) (H':Hp),itv=.ref it/\Inv X pins σ H' s2/\Turn X.prog X.w X.K tg J fp it tn/\tn 0 s2.heap/\(∀ b∈fp,FpOk X pins H' b)/\R J H'
def PI (X:Cx) (tg iter:Expr) (wi:TI):Prop :=
 ∀ (pins:List (Addr × Obj)) (s:Shared) (σ:St) (H:Hp) (R:It->Hp->Prop),Inv X pins σ H s->wi σ H R->
  wpAny (model X.prog X.w) X.A (eval iter X.env) (fun v s1=>wpAny (model X.prog X.w) X.A (pyIter v) (PIE X pins σ tg R) X.xe s1) X.xe s
theorem go_of {M : Model} {A : Around} {E : Value -> Shared -> Prop} {s : Shared} {tg : Expr} {it : Addr} {u : Value} {o : Obj} {n : String} {vs : Array Value} {Q : Unit -> Shared -> Prop} (ho : s.heap.get? it = some o) (hc : o.cls = .type n) (hd : o.data = .fields vs)
    (hn : ["enumerate", "zip", "dict_itemiterator", "dict_reverseitemiterator", "odict_iterator", "itertools.zip_longest", "itertools.pairwise"].contains n = false) (hQ : Q () s) : wpAny M A (letOwnedTupleGo tg (.ref it) u) Q E s := by
  unfold letOwnedTupleGo;cases tg <;> first
    | exact wpAny_pure hQ
    | (cases u <;> first
        | exact wpAny_pure hQ
        | (refine wpAny_bind (wpAny_load ho ?_)
           rw [hc, hd];show wpAny M A (if (["enumerate", "zip", "dict_itemiterator", "dict_reverseitemiterator", "odict_iterator", "itertools.zip_longest", "itertools.pairwise"].contains n && vs[0]? == some (rawInt _)) = true then _ else _) Q E s;rw [if_neg (by intro h; rw [hn, Bool.false_and] at h; cases h)];exact wpAny_pure hQ))
def Itl (K:Frag) (a:Addr):It :=
 ⟨fun i H=>∃ xs x,SqL K H a xs/\xs[i]?=some x,fun i H x H'=>H'=H/\∀ xs,SqL K H a xs->xs[i]?=some x,fun i H=>∃ xs,SqL K H a xs/\xs.length<=i⟩
def Itr (lo:Int) (n:Nat):It:=⟨fun i _=>i < n,fun i H x H'=>H'=H/\x=.int (lo + i),fun i _=>n<=i⟩
theorem turn_list {P:Program} {w:World} {K:Frag} {tg:Expr} (a it:Addr):Turn P w K tg (Itl K a) [it] it (fun i h=>h.IsListIter it a i) where
 mem:=by simp
 obj:=fun i h st b hb=>by
  have e:b=it:=by simpa using hb
  subst e;obtain ⟨o,e,c,d⟩:=st;exact ⟨o,e,fun v z=>by rw [d] at z;cases z⟩
 keep:=fun i h h' st k=>st.at fun o e=>k it (by simp) o e
 item:=by
  intro X hP hw hK hc i pins s σ H E I hf st hg;subst hP hw hK;obtain ⟨xs,x,hq,hx⟩:=hg;obtain ⟨its,rv,p,hz⟩:=I.list hq;obtain ⟨u,hu,ru⟩:=rv.get hx;obtain ⟨f0,f1,f2,f3,f4,f5⟩:=hf it (by simp);refine wpAny_pyNext_list_item st p.isList (x:=u) (by simpa using hu) fun h' st' sb=>?_;have I1:Inv X pins σ H { s with heap:=h' }:=I.turned (t':=s.toks) (fun b o hb e=>(sb.2 b hb).trans e) f0 f1 f3 f4 f5;obtain ⟨o,e,c,d⟩:=id st';exact ⟨u,rfl,go_of (s:={ s with heap:=h' }) e c d (by decide) ⟨x,H,I1,ru,⟨rfl,fun ys hy=>by rw [I.list_inj hy hq];exact hx⟩,st',fun b hb=>(hf b hb).1⟩⟩
 done:=by
  intro X hP hw hK hc i pins s σ H E I hf st hg;subst hP hw hK;obtain ⟨xs,hq,hx⟩:=hg;obtain ⟨its,rv,p,hz⟩:=I.list hq;obtain ⟨f0,f1,f2,f3,f4,f5⟩:=hf it (by simp);have hl:=rv.length;exact wpAny_pyNext_list_end (I.ok.hd hc) st p.isList (by simp;omega) fun h' eb=>⟨rfl,I.turned (t':=s.toks) (fun b o hb e=>eb b o hb e) f0 f1 f3 f4 f5⟩
 self:=fun _ _ _ _ _ st h=>wpAny_pyIter_listiter st h
theorem turn_range {P:Program} {w:World} {K:Frag} {tg:Expr} (it:Addr) (lo:Int) (n:Nat):Turn P w K tg (Itr lo n) [it] it (fun i h=>IsRangeIter h it (lo + (i:Nat) * 1) ((n:Int) - (i:Nat)) 1) where
 mem:=by simp
 obj:=fun i h st b hb=>by
  have e:b=it:=by simpa using hb
  subst e;exact ⟨_,st,fun v z=>by
   have z':Data.fields _=Data.cell v:=z;cases z'⟩
 keep:=fun i h h' st k=>k it (by simp) _ st
 item:=by
  intro X hP hw hK hc i pins s σ H E I hf st hg;subst hP hw hK;obtain ⟨f0,f1,f2,f3,f4,f5⟩:=hf it (by simp);have W:=Walks.range (prog:=X.prog) (w:=X.w) (I.ok.hd hc) it lo 1 n;refine W.item i s _ _ hg st fun v h' tk hv st' kk=>?_;obtain ⟨t,rfl⟩:=hv;have I1:Inv X pins σ H { s with heap:=h',toks:=tk }:=I.turned (fun b o hb e=>kk b o (by simpa using hb) e) f0 f1 f3 f4 f5;refine ⟨_,rfl,go_of (s:={ s with heap:=h',toks:=tk }) (n:="range_iterator") st' rfl rfl (by decide) ⟨.int (lo + i),H,I1,⟨t,?_⟩,⟨rfl,rfl⟩,st',fun b hb=>(hf b hb).1⟩⟩;rw [Int.mul_one]
 done:=by
  intro X hP hw hK hc i pins s σ H E I hf st hg;subst hP hw hK;obtain ⟨f0,f1,f2,f3,f4,f5⟩:=hf it (by simp);exact wpAny_pyNext_range_end (I.ok.hd hc) st (by have:n<=i:=hg;omega) fun h' eb=>⟨rfl,I.turned (t':=s.toks) (fun b o hb e=>eb b o hb e) f0 f1 f3 f4 f5⟩
 self:=fun _ _ _ _ _ st h=>wpAny_pyIter_rangeiter st h
end L2
namespace L2
open PySem PySem.Spec PyProof.Rows
section
variable {X:Cx} {tg:Expr}
def iList (K:Frag) (tl:TE):TI:=fun σ H R=>tl σ H fun x H1=>∃ a,x=.ref a/\(∃ xs,SqL K H1 a xs)/\R (Itl K a) H1
theorem J2q {l:Expr} {tl:TE} (hl:PE X l tl):PI X tg l (iList X.K tl):=by
 intro pins s σ H R I h;refine thn (hl pins s σ H _ I h) fun v s1 h9=>?_;obtain ⟨x,H1,I1,r1,q1⟩:=h9;obtain ⟨a,e,⟨xs,hq⟩,q⟩:=q1;subst e;cases r1;obtain ⟨its,rv,p,hz⟩:=I1.list hq;refine wpAny_pyIter_list p.isList ?_;refine ⟨s1.heap.objs.size,[s1.heap.objs.size],_,_,H1,rfl,I1.kept (t':=s1.toks) fun b o e=>get?_push_of_some _ e,turn_list a _,⟨_,get?_push_size _ rfl,rfl,rfl⟩,fun b hb=>?_,q⟩;have e:b=s1.heap.objs.size:=by simpa using hb
 subst e;exact I1.fpOk (Nat.le_refl _) (I1.hok.fresh (Nat.le_refl _))
theorem range_it {pins:List (Addr × Obj)} {σ:St} {H:Hp} {s:Shared} {R:It->Hp->Prop} {E:Value->Shared->Prop} {lo hi:Int} {t u v:Tok} {tk:Nat} (I:Inv X pins σ H s) (h1:-(2 ^ 62)<=lo) (h2:lo < 2 ^ 62) (h3:-(2 ^ 62)<=hi) (h4:hi < 2 ^ 62)
  (q:R (Itr lo (hi - lo).toNat) H):wpAny (model X.prog X.w) X.A (pyIter (.ref s.heap.objs.size)) (PIE X pins σ tg R) E { s with heap:=s.heap.push { cls:=.type "range",data:=.fields #[.int lo t,.int hi u,.int 1 v] },toks:=tk }:=by
 refine wpAny_pyIter_range (IsRange.new ..) (small_one h1 h2 h3 h4) ?_;have I1:Inv X pins σ H { s with heap:=s.heap.push { cls:=.type "range",data:=.fields #[.int lo t,.int hi u,.int 1 v] },toks:=tk }:=I.kept fun b o e=>get?_push_of_some _ e;refine ⟨(s.heap.push { cls:=.type "range",data:=.fields #[.int lo t,.int hi u,.int 1 v] }).objs.size,[(s.heap.push { cls:=.type "range",data:=.fields #[.int lo t,.int hi u,.int 1 v] }).objs.size],_,_,H,rfl,
  I1.kept (t':=tk) fun b o e=>get?_push_of_some _ e,turn_range _ lo (hi - lo).toNat,?_,fun b hb=>?_,q⟩
 ·have e1:lo + ((0:Nat):Int) * 1=lo:=by simp
  have e2:(((hi - lo).toNat:Nat):Int) - ((0:Nat):Int)=Builtin.Range.rangeSize lo hi 1:=by rw [rangeSize_one];split <;> omega
  show IsRangeIter _ _ (lo + ((0:Nat):Int) * 1) ((((hi - lo).toNat:Nat):Int) - ((0:Nat):Int)) 1;rw [e1,e2];exact get?_push_size _ rfl
 ·have e:b=(s.heap.push { cls:=.type "range",data:=.fields #[.int lo t,.int hi u,.int 1 v] }).objs.size:=by simpa using hb
  subst e;exact I1.fpOk (Nat.le_refl _) (I1.hok.fresh (Nat.le_refl _))
def iRng1 (ta:TA):TI:=fun σ H R=>ta σ H fun vs H1=>∃ j:Int,vs=[.int j]/\-(2 ^ 62)<=j/\j < 2 ^ 62/\R (Itr 0 j.toNat) H1
theorem Jy {a:Expr} {ta:TA} {p pos:Pos} (hg:Gl X "range") (hm:X.mg "range"=none) (ha:PA X [a] ta) (hs:starEach [a] X.env=[(false,eval a X.env)]:=by rfl):PI X tg (.Call (.Name "range" p) [a] [] pos) (iRng1 ta):=by
 intro pins s σ H R I h;refine Call_ (J3f I hg hm boot_range (callWith_type1 (thn (ha pos pins s σ H _ I h) fun us s1 h9=>?_) hs rfl));obtain ⟨vs,H1,I1,r1,q1⟩:=h9;obtain ⟨j,e,q1,q2,q⟩:=q1;subst e
 cases r1 with
 | cons r rr =>
  cases rr;obtain ⟨t,rfl⟩:=r;exact call_range_1 (range_it I1 (by omega) (by omega) q1 q2 (by simpa using q))
def tFor (wi:TI) (g:TG) (tb:TS):TS:=fun D σ H=>wi σ H fun J H1=>∃ W:Nat->Nat->St->Hp->Prop,(∃ m,W 0 m σ H1)/\∀ i m σ H,W i m σ H->
 (J.stop i H/\D.nx σ H)\/(J.go i H/\∃ N:St->Hp->Prop,(∀ σ' H',N σ' H'->∃ m',m' < m/\W (i + 1) m' σ' H')/\∀ x H',J.yld i H x H'->g x σ H' fun σ2 H2=>tb { D with nx:=N,ct:=N,bk:=D.nx } σ2 H2)
def pinsAt (fp:List Addr) (h:Heap):List (Addr × Obj):=fp.filterMap fun b=>(h.get? b).map fun o=>(b,o)
theorem Jw {fp:List Addr} {h:Heap} {b:Addr} {o:Obj} (hb:b∈fp) (e:h.get? b=some o):(b,o)∈pinsAt fp h:=List.mem_filterMap.mpr ⟨b,hb,by rw [e];rfl⟩
theorem of_pinsAt {fp:List Addr} {h:Heap} {p:Addr × Obj} (hp:p∈pinsAt fp h):p.1∈fp/\h.get? p.1=some p.2:=by
 obtain ⟨b,hb,e⟩:=List.mem_filterMap.mp hp
 cases q:h.get? b with
 | none=>rw [q] at e;cases e
 | some o =>
  rw [q] at e;have e':(b,o)=p:=Option.some.inj e;subst e';exact ⟨hb,q⟩
theorem Inv.pinned {pins:List (Addr × Obj)} {σ:St} {H:Hp} {s:Shared} {fp:List Addr} (I:Inv X pins σ H s) (hf:∀ b∈fp,FpOk X pins H b) (ho:∀ b∈fp,∃ o,s.heap.get? b=some o/\∀ v,o.data≠.cell v):Inv X (pins ++ pinsAt fp s.heap) σ H s :=
 I.pins_of fun p hp=>(mem_append.mp hp).elim (fun z=>I.pin p (mem_append_right _ z)) fun z=>by
  obtain ⟨hb,e⟩:=of_pinsAt z;obtain ⟨f0,f1,f2,_⟩:=hf p.1 hb;obtain ⟨o,e',d⟩:=ho p.1 hb;rw [e] at e';cases e';exact ⟨e,f0,f1,f2,d⟩
theorem Inv.unpinned {pins pl:List (Addr × Obj)} {σ:St} {H:Hp} {s:Shared} (I:Inv X (pins ++ pl) σ H s):Inv X pins σ H s:=I.pins_of fun p hp=>I.pin p (mem_append_right _ (mem_append_left _ hp))
theorem J2o {iter:Expr} {body:List Stmt} {wi:TI} {g:TG} {tb:TS} {pos:Pos} (hp:PassesOwn (model X.prog X.w) X.A X.env X.xe) (hc:X.calm=true) (hi:PI X tg iter wi) (hg:PG X tg g) (hb:PSs X body tb)
  (hs:∀ x,foldedSetIterable iter X.env x=pure x:=by intro _;rfl):PS X (.For tg iter body [] pos) (tFor wi g tb):=by
 intro pins s σ H D I h;refine wpAny_For (thn (hi pins s σ H _ I h) fun v s1 h1=>thn h1 fun itv s2 h2=>?_) hs;obtain ⟨it,fp,tn,J,H2,e,I2,T,st2,f2,W,⟨m0,w0⟩,turn⟩:=h2;subst e;have stat:∀ {H':Hp},(∀ b∈fp,H' b=none)->∀ b∈fp,FpOk X pins H' b:=fun hn b hb=>⟨hn b hb,(f2 b hb).2⟩;refine codeAny_forLoop_any (fun n s'=>∃ i σ' H',Inv X pins σ' H' s'/\tn i s'.heap/\(∀ b∈fp,H' b=none)/\W i n σ' H') ?_ m0 ⟨0,σ,H2,I2,st2,fun b hb=>(f2 b hb).1,w0⟩;rintro n s3 ⟨i,σ3,H3,I3,st3,fr3,w3⟩;rcases turn i n σ3 H3 w3 with ⟨stop,qn⟩ | ⟨go,N,hN,step⟩
 ·refine wpAny_passesOwn hp (thn (T.done X rfl rfl rfl hc i pins s3 σ3 H3 X.xe I3 (stat fr3) st3 stop) fun r s4 h9=>?_);obtain ⟨hr,I4⟩:=h9;subst hr;exact wpAny_execs_nil ⟨σ3,H3,I4,qn⟩
 ·refine wpAny_passesOwn hp (thn (T.item X rfl rfl rfl hc i pins s3 σ3 H3 X.xe I3 (stat fr3) st3 go) fun r s4 h9=>?_);obtain ⟨u,hr,h4⟩:=h9;subst hr;refine wpAny_passesOwn hp (thn h4 fun _ s5 h9=>?_);obtain ⟨x,H5,I5,r5,y5,st5,fr5⟩:=h9;have I5':=I5.pinned (stat fr5) (T.obj _ _ st5);refine wpAny_passesOwn hp (thn (hg _ s5 σ3 H5 x u _ I5' r5 (step x H5 y5)) fun _ s6 h9=>?_);obtain ⟨σ6,H6,I6,q6⟩:=h9;refine wpAny_passesOwn hp (thn (hb _ s6 σ6 H6 _ I6 q6) fun f s7 q7=>?_);have again:∀ {σ7:St} {H7:Hp},Inv X (pins ++ pinsAt fp s5.heap) σ7 H7 s7->N σ7 H7->∃ m,m < n/\∃ i σ' H',Inv X pins σ' H' s7/\tn i s7.heap/\(∀ b∈fp,H' b=none)/\W i m σ' H':=fun {σ7 H7} I7 n7=>by
   obtain ⟨m',hm,w7⟩:=hN σ7 H7 n7;refine ⟨m',hm,i + 1,σ7,H7,I7.unpinned,T.keep _ _ _ st5 fun b hb o e=>(I7.pin (b,o) (mem_append_right _ (mem_append_right _ (Jw hb e)))).1,fun b hb=>?_,w7⟩;obtain ⟨o,e,d⟩:=T.obj _ _ st5 b hb;exact (I7.pin (b,o) (mem_append_right _ (mem_append_right _ (Jw hb e)))).2.1
  cases f with
  | next=>obtain ⟨σ7,H7,I7,n7⟩:=q7;exact again I7 n7
  | cont=>obtain ⟨σ7,H7,I7,n7⟩:=q7;exact again I7 n7
  | brk=>obtain ⟨σ7,H7,I7,q7⟩:=q7;exact ⟨σ7,H7,I7.unpinned,q7⟩
  | ret v=>obtain ⟨x7,σ7,H7,I7,r7,q7⟩:=q7;exact ⟨x7,σ7,H7,I7.unpinned,r7,q7⟩
end
theorem J3i {K:Frag} {a:Addr} {xs:List V} {g:TG} {tb:TS} {D:Ends} {σ:St} {H:Hp} (Pv:Nat->St->Hp->Prop) (h0:Pv 0 σ H) (hl:∀ i σ H,i<=xs.length->Pv i σ H->SqL K H a xs)
  (hs:∀ i x σ H,xs[i]?=some x->Pv i σ H->g x σ H fun σ2 H2=>tb { D with nx:=Pv (i + 1),ct:=Pv (i + 1),bk:=D.nx } σ2 H2) (hd:∀ σ H,Pv xs.length σ H->D.nx σ H) :
  ∃ W:Nat->Nat->St->Hp->Prop,(∃ m,W 0 m σ H)/\∀ i m σ H,W i m σ H->
   ((Itl K a).stop i H/\D.nx σ H)\/((Itl K a).go i H/\∃ N:St->Hp->Prop,(∀ σ' H',N σ' H'->∃ m',m' < m/\W (i + 1) m' σ' H')/\∀ x H',(Itl K a).yld i H x H'->g x σ H' fun σ2 H2=>tb { D with nx:=N,ct:=N,bk:=D.nx } σ2 H2):=by
 refine ⟨fun i m σ H=>m=xs.length - i/\i<=xs.length/\Pv i σ H,⟨xs.length,by simp,Nat.zero_le _,h0⟩,?_⟩;rintro i m σ H ⟨rfl,hi,p⟩;have q:=hl i σ H hi p;by_cases hlt:i < xs.length
 ·refine .inr ⟨⟨xs,xs[i],q,by simp [hlt]⟩,Pv (i + 1),fun σ' H' p'=>⟨xs.length - (i + 1),by omega,rfl,hlt,p'⟩,fun x H' y=>?_⟩;obtain ⟨e,y⟩:=y;subst e;exact hs i x σ _ (y xs q) p
 ·have e:i=xs.length:=by omega
  subst e;exact .inl ⟨⟨xs,q,Nat.le_refl _⟩,hd σ H p⟩
theorem J1c {lo:Int} {n:Nat} {g:TG} {tb:TS} {D:Ends} {σ:St} {H:Hp} (Pv:Nat->St->Hp->Prop) (h0:Pv 0 σ H)
  (hs:∀ i σ H,i < n->Pv i σ H->g (.int (lo + i)) σ H fun σ2 H2=>tb { D with nx:=Pv (i + 1),ct:=Pv (i + 1),bk:=D.nx } σ2 H2) (hd:∀ σ H,Pv n σ H->D.nx σ H) :
  ∃ W:Nat->Nat->St->Hp->Prop,(∃ m,W 0 m σ H)/\∀ i m σ H,W i m σ H->
   ((Itr lo n).stop i H/\D.nx σ H)\/((Itr lo n).go i H/\∃ N:St->Hp->Prop,(∀ σ' H',N σ' H'->∃ m',m' < m/\W (i + 1) m' σ' H')/\∀ x H',(Itr lo n).yld i H x H'->g x σ H' fun σ2 H2=>tb { D with nx:=N,ct:=N,bk:=D.nx } σ2 H2):=by
 refine ⟨fun i m σ H=>m=n - i/\i<=n/\Pv i σ H,⟨n,by simp,Nat.zero_le _,h0⟩,?_⟩;rintro i m σ H ⟨rfl,hi,p⟩;by_cases hlt:i < n
 ·refine .inr ⟨hlt,Pv (i + 1),fun σ' H' p'=>⟨n - (i + 1),by omega,rfl,hlt,p'⟩,fun x H' y=>?_⟩;obtain ⟨e,y⟩:=y;subst e y;exact hs i σ _ hlt p
 ·have e:i=n:=by omega
  subst e;exact .inl ⟨Nat.le_refl _,hd σ H p⟩
end L2
namespace L2
open PySem PySem.Spec PyProof.Rows
abbrev R2:=V->V->Hp->VK->Prop
def OpR (X:Cx) (f:Value->Value->Sem Value) (r:R2):Prop :=
 ∀ (pins:List (Addr × Obj)) (s:Shared) (σ:St) (H:Hp) (x y:V) (v u:Value) (Q:VK),Inv X pins σ H s->RelV x v->RelV y u->r x y H Q->
  wpAny (model X.prog X.w) X.A (f v u) (EP X pins σ Q) X.xe s
def UnR (X:Cx) (f:Value->Sem Value) (r:V->Hp->VK->Prop):Prop :=
 ∀ (pins:List (Addr × Obj)) (s:Shared) (σ:St) (H:Hp) (x:V) (v:Value) (Q:VK),Inv X pins σ H s->RelV x v->r x H Q->
  wpAny (model X.prog X.w) X.A (f v) (EP X pins σ Q) X.xe s
def CallR (X:Cx) (f:Value) (r:List V->Hp->VK->Prop):Prop :=
 ∀ (pins:List (Addr × Obj)) (s:Shared) (σ:St) (H:Hp) (xs:List V) (us:List Value) (Q:VK),Inv X pins σ H s->Vals xs us->r xs H Q->
  wpAny (model X.prog X.w) X.A (call f us) (EP X pins σ Q) X.xe s
def tOp (r:R2) (ta tb:TE):TE:=fun σ H Q=>ta σ H fun x H1=>tb σ H1 fun y H2=>r x y H2 Q
def tUn (r:V->Hp->VK->Prop) (ta:TE):TE:=fun σ H Q=>ta σ H fun x H1=>r x H1 Q
def rI (C:Int->Int->Prop) (g:Int->Int->V):R2:=fun x y H Q=>∃ i j,x=.int i/\y=.int j/\C i j/\Q (g i j) H
def rI0 (g:Int->Int->V):R2:=fun x y H Q=>∃ i j,x=.int i/\y=.int j/\Q (g i j) H
def rU (g:Int->V):V->Hp->VK->Prop:=fun x H Q=>∃ i,x=.int i/\Q (g i) H
section
variable {X:Cx} {a b c:Expr} {ta tb tc:TE} {pos:Pos}
theorem binT (ha:PE X a ta) (hb:PE X b tb) {pins:List (Addr × Obj)} {s:Shared} {σ:St} {H:Hp} {R:V->V->Hp->Prop} (I:Inv X pins σ H s)
  (h:ta σ H fun x H1=>tb σ H1 fun y H2=>R x y H2) {Q:Value->Shared->Prop} {f:Value->Value->Sem Value}
  (hf:∀ v u s2 x y H2,Inv X pins σ H2 s2->RelV x v->RelV y u->R x y H2->wpAny (model X.prog X.w) X.A (f v u) Q X.xe s2) :
  wpAny (model X.prog X.w) X.A (eval a X.env) (fun v s₁=>wpAny (model X.prog X.w) X.A (eval b X.env) (fun u s₂=>wpAny (model X.prog X.w) X.A (f v u) Q X.xe s₂) X.xe s₁) X.xe s:=by
 refine thn (ha pins s σ H _ I h) fun v s1 h9=>?_;obtain ⟨x,H1,I1,r1,q1⟩:=h9;refine thn (hb pins s1 σ H1 _ I1 q1) fun u s2 h9=>?_;obtain ⟨y,H2,I2,r2,q2⟩:=h9;exact hf v u s2 x y H2 I2 r1 r2 q2
theorem pe_op {op:Operator} {r:R2} (ho:OpR X (binaryOp op) r) (ha:PE X a ta) (hb:PE X b tb):PE X (.BinOp a op b pos) (tOp r ta tb):=by
 intro pins s σ H Q I h;exact wpAny_BinOp (binT ha hb I h fun v u s2 x y H2 I2 rx ry q=>ho pins s2 σ H2 x y v u Q I2 rx ry q)
theorem pe_un {op:UnaryOp} {r:V->Hp->VK->Prop} (ho:UnR X (unaryOp op) r) (ha:PE X a ta):PE X (.UnaryOp op a pos) (tUn r ta):=by
 intro pins s σ H Q I h;exact UnaryOp_ (thn (ha pins s σ H _ I h) fun v s1 h9=>by obtain ⟨x,H1,I1,r1,q1⟩:=h9;exact ho pins s1 σ H1 x v Q I1 r1 q1)
theorem opI {f:Value->Value->Sem Value} {C:Int->Int->Prop} {g:Int->Int->Int}
  (rule:∀ (i j:Int) (t u:Tok) (s:Shared) (Q:Value->Shared->Prop) (E:Value->Shared->Prop),C i j->Q (.int (g i j) s.toks) { s with toks:=s.toks + 1 }->wpAny (model X.prog X.w) X.A (f (.int i t) (.int j u)) Q E s) :
  OpR X f (rI C fun i j=>.int (g i j)):=by
 intro pins s σ H x y v u Q I rx ry h;obtain ⟨i,j,rfl,rfl,hc,q⟩:=h;obtain ⟨t,rfl⟩:=rx;obtain ⟨t',rfl⟩:=ry;exact rule i j t t' s _ _ hc ⟨.int (g i j),H,I.tok _,⟨_,rfl⟩,q⟩
theorem opI0 {f:Value->Value->Sem Value} {g:Int->Int->Int}
  (rule:∀ (i j:Int) (t u:Tok) (s:Shared) (Q:Value->Shared->Prop) (E:Value->Shared->Prop),Q (.int (g i j) s.toks) { s with toks:=s.toks + 1 }->wpAny (model X.prog X.w) X.A (f (.int i t) (.int j u)) Q E s) :
  OpR X f (rI0 fun i j=>.int (g i j)):=by
 intro pins s σ H x y v u Q I rx ry h;obtain ⟨i,j,rfl,rfl,q⟩:=h;obtain ⟨t,rfl⟩:=rx;obtain ⟨t',rfl⟩:=ry;exact rule i j t t' s _ _ ⟨.int (g i j),H,I.tok _,⟨_,rfl⟩,q⟩
theorem opB0 {f:Value->Value->Sem Value} {g:Int->Int->Bool}
  (rule:∀ (i j:Int) (t u:Tok) (s:Shared) (Q:Value->Shared->Prop) (E:Value->Shared->Prop),Q (.bool (g i j)) s->wpAny (model X.prog X.w) X.A (f (.int i t) (.int j u)) Q E s) :
  OpR X f (rI0 fun i j=>.bl (g i j)):=by
 intro pins s σ H x y v u Q I rx ry h;obtain ⟨i,j,rfl,rfl,q⟩:=h;obtain ⟨t,rfl⟩:=rx;obtain ⟨t',rfl⟩:=ry;exact rule i j t t' s _ _ ⟨.bl (g i j),H,I,rfl,q⟩
def CDiv (i j:Int):Prop:=0 < j/\j < 1073741824
def CMul (i j:Int):Prop:=(-(2 ^ 64) < i/\i < 2 ^ 64)\/(-(2 ^ 64) < j/\j < 2 ^ 64)
theorem CMul.ok {i j:Int} (h:CMul i j):IntMulOk i j:=by
 rcases h with ⟨h1,h2⟩ | ⟨h1,h2⟩
 ·exact .of_left (intBits_le_64 h1 h2)
 ·exact .of_right (intBits_le_64 h1 h2)
theorem J17:OpR X (binaryOp .Add) (rI0 fun i j=>.int (i + j)):=opI0 fun _ _ _ _ _ _ _ q=>add_int q
theorem J3b:OpR X (binaryOp .Sub) (rI0 fun i j=>.int (i - j)):=opI0 fun _ _ _ _ _ _ _ q=>sub_int q
theorem J16:OpR X (binaryOp .Mult) (rI CMul fun i j=>.int (i * j)):=opI fun _ _ _ _ _ _ _ hc q=>mul_int q hc.ok
theorem op_fdiv:OpR X (binaryOp .FloorDiv) (rI CDiv fun i j=>.int (i / j)):=opI fun i j _ _ _ _ _ hc q=>by
 have h1:(0:Int) < j:=hc.1;have h2:j < 1073741824:=hc.2;exact floordiv_int (by omega) (by rw [Int.fdiv_eq_ediv_of_nonneg i (by omega)];exact q) (.inl (PyProof.noPylong_small (by omega)))
theorem op_mod:OpR X (binaryOp .Mod) (rI (fun _ j=>0 < j) fun i j=>.int (i % j)):=opI fun i j _ _ _ _ _ hc q=>by
 have h1:(0:Int) < j:=hc;exact mod_int' (by omega) (by rw [Int.fmod_eq_emod_of_nonneg i (by omega)];exact q)
theorem unI {f:Value->Sem Value} {g:Int->Int}
  (rule:∀ (i:Int) (t:Tok) (s:Shared) (Q:Value->Shared->Prop) (E:Value->Shared->Prop),Q (.int (g i) s.toks) { s with toks:=s.toks + 1 }->wpAny (model X.prog X.w) X.A (f (.int i t)) Q E s) :
  UnR X f (rU fun i=>.int (g i)):=by
 intro pins s σ H x v Q I rx h;obtain ⟨i,rfl,q⟩:=h;obtain ⟨t,rfl⟩:=rx;exact rule i t s _ _ ⟨.int (g i),H,I.tok _,⟨_,rfl⟩,q⟩
theorem un_neg:UnR X (unaryOp .USub) (rU fun i=>.int (-i)):=unI fun _ _ _ _ _ q=>neg_int q
end
def scal:V->V->Bool
 | .non,.non=>true | .non,.int _=>true | .int _,.non=>true | .non,.bl _=>true | .bl _,.non=>true | .non,.str _=>true | .str _,.non=>true
 | .int _,.int _=>true | .bl _,.bl _=>true | .str _,.str _=>true | .byt _,.byt _=>true
 | .int _,.str _=>true | .str _,.int _=>true | .bl _,.str _=>true | .str _,.bl _=>true
 | _,_=>false
def rEq:R2:=fun x y H Q=>scal x y=true/\Q (.bl (decide (x=y))) H
def rNe:R2:=fun x y H Q=>scal x y=true/\Q (.bl (!decide (x=y))) H
theorem dec_int {i j:Int}:decide (V.int i=V.int j)=(i == j):=by
 rw [Bool.eq_iff_iff];simp
theorem dec_bl {i j:Bool}:decide (V.bl i=V.bl j)=(i == j):=by
 rw [Bool.eq_iff_iff];simp
theorem dec_str {i j:Str}:decide (V.str i=V.str j)=(i == j):=by
 rw [Bool.eq_iff_iff];simp
theorem dec_byt {i j:Array UInt8}:decide (V.byt i=V.byt j)=(i.toList == j.toList):=by
 rw [Bool.eq_iff_iff];cases i;cases j;simp
section
variable {X:Cx} {a b c:Expr} {ta tb tc:TE} {pos:Pos}
theorem Jh {pins:List (Addr × Obj)} {σ:St} {H:Hp} {s:Shared} {Q:VK} {k k':Bool} (I:Inv X pins σ H s) (q:Q (.bl k) H) (e:k=k'):EP X pins σ Q (.bool k') s:=by
 subst e;exact ⟨.bl k,H,I,rfl,q⟩
theorem op_eq:OpR X (compareOp .Eq) rEq:=by
 intro pins s σ H x y v u Q I rx ry h;obtain ⟨hs,q⟩:=h
 cases x with
 | non =>
  cases rx
  cases y with
  | non=>cases ry;exact PySem.EqNone.eq_none_none (Jh I q (by simp))
  | bl j=>cases ry;exact PySem.EqNone.eq_none_bool (Jh I q (by simp))
  | int j=>obtain ⟨t',rfl⟩:=ry;exact PySem.EqNone.eq_none_int (Jh I q (by simp))
  | str j=>obtain ⟨t',rfl⟩:=ry;exact PySem.EqNone.eq_none_str (Jh I q (by simp))
  | _=>exact absurd (show false=true from hs) Bool.false_ne_true
 | bl i =>
  cases rx
  cases y with
  | non=>cases ry;exact PySem.EqNone.eq_bool_none (Jh I q (by simp))
  | bl j=>cases ry;exact eq_bool (Jh I q dec_bl)
  | str j=>obtain ⟨t',rfl⟩:=ry;exact PySem.EqMixed.eq_bool_str (Jh I q (by simp))
  | _=>exact absurd (show false=true from hs) Bool.false_ne_true
 | int i =>
  obtain ⟨t,rfl⟩:=rx
  cases y with
  | non=>cases ry;exact PySem.EqNone.eq_int_none (Jh I q (by simp))
  | int j=>obtain ⟨t',rfl⟩:=ry;exact eq_int (Jh I q dec_int)
  | str j=>obtain ⟨t',rfl⟩:=ry;exact PySem.EqMixed.eq_int_str (Jh I q (by simp))
  | _=>exact absurd (show false=true from hs) Bool.false_ne_true
 | str i =>
  obtain ⟨t,rfl⟩:=rx
  cases y with
  | non=>cases ry;exact PySem.EqNone.eq_str_none (Jh I q (by simp))
  | bl j=>cases ry;exact PySem.EqMixed.eq_str_bool (Jh I q (by simp))
  | int j=>obtain ⟨t',rfl⟩:=ry;exact PySem.EqMixed.eq_str_int (Jh I q (by simp))
  | str j=>obtain ⟨t',rfl⟩:=ry;exact eq_str (Jh I q dec_str)
  | _=>exact absurd (show false=true from hs) Bool.false_ne_true
 | byt i =>
  obtain ⟨t,rfl⟩:=rx
  cases y with
  | byt j=>obtain ⟨t',rfl⟩:=ry;exact PySem.W.eq_bytes (Jh I q dec_byt)
  | _=>exact absurd (show false=true from hs) Bool.false_ne_true
 | _=>cases y <;> exact absurd (show false=true from hs) Bool.false_ne_true
theorem op_ne:OpR X (compareOp .NotEq) rNe:=by
 intro pins s σ H x y v u Q I rx ry h;obtain ⟨hs,q⟩:=h
 cases x with
 | non =>
  cases rx
  cases y with
  | non=>cases ry;exact PySem.EqNone.ne_none_none (Jh I q (by simp))
  | bl j=>cases ry;exact PySem.EqNone.ne_none_bool (Jh I q (by simp))
  | int j=>obtain ⟨t',rfl⟩:=ry;exact PySem.EqNone.ne_none_int (Jh I q (by simp))
  | str j=>obtain ⟨t',rfl⟩:=ry;exact PySem.EqNone.ne_none_str (Jh I q (by simp))
  | _=>exact absurd (show false=true from hs) Bool.false_ne_true
 | bl i =>
  cases rx
  cases y with
  | non=>cases ry;exact PySem.EqNone.ne_bool_none (Jh I q (by simp))
  | bl j=>cases ry;exact ne_bool (Jh I q (congrArg not dec_bl))
  | str j=>obtain ⟨t',rfl⟩:=ry;exact PySem.EqMixed.ne_bool_str (Jh I q (by simp))
  | _=>exact absurd (show false=true from hs) Bool.false_ne_true
 | int i =>
  obtain ⟨t,rfl⟩:=rx
  cases y with
  | non=>cases ry;exact PySem.EqNone.ne_int_none (Jh I q (by simp))
  | int j=>obtain ⟨t',rfl⟩:=ry;exact ne_int (Jh I q (congrArg not dec_int))
  | str j=>obtain ⟨t',rfl⟩:=ry;exact PySem.EqMixed.ne_int_str (Jh I q (by simp))
  | _=>exact absurd (show false=true from hs) Bool.false_ne_true
 | str i =>
  obtain ⟨t,rfl⟩:=rx
  cases y with
  | non=>cases ry;exact PySem.EqNone.ne_str_none (Jh I q (by simp))
  | bl j=>cases ry;exact PySem.EqMixed.ne_str_bool (Jh I q (by simp))
  | int j=>obtain ⟨t',rfl⟩:=ry;exact PySem.EqMixed.ne_str_int (Jh I q (by simp))
  | str j=>obtain ⟨t',rfl⟩:=ry;exact ne_str (Jh I q (congrArg not dec_str))
  | _=>exact absurd (show false=true from hs) Bool.false_ne_true
 | byt i =>
  obtain ⟨t,rfl⟩:=rx
  cases y with
  | byt j=>obtain ⟨t',rfl⟩:=ry;exact PySem.W.ne_bytes (Jh I q (congrArg not dec_byt))
  | _=>exact absurd (show false=true from hs) Bool.false_ne_true
 | _=>cases y <;> exact absurd (show false=true from hs) Bool.false_ne_true
theorem op_lt:OpR X (compareOp .Lt) (rI0 fun i j=>.bl (decide (i < j))):=opB0 fun _ _ _ _ _ _ _ q=>lt_int q
theorem op_gt:OpR X (compareOp .Gt) (rI0 fun i j=>.bl (decide (j < i))):=opB0 fun _ _ _ _ _ _ _ q=>gt_int q
theorem op_isN:OpR X (compareOp .Is) (fun x y H Q=>y=.non/\Q (.bl (decide (x=.non))) H):=by
 intro pins s σ H x y v u Q I rx ry h;obtain ⟨rfl,q⟩:=h;cases ry;refine is_none_gen (Jh I q ?_);cases x <;> first
  | (cases rx;rfl)
  | (obtain ⟨t,rfl⟩:=rx;rfl)
theorem Jq (b:Expr) {op:CmpOp} (h:op≠.In:=by decide) (h2:op≠.NotIn:=by decide):behindInMarks op b=false:=by
 have e1:(op == CmpOp.In)=false:=by cases op <;> first | rfl | exact absurd rfl h
 have e2:(op == CmpOp.NotIn)=false:=by cases op <;> first | rfl | exact absurd rfl h2
 cases b <;> simp [behindInMarks,e1,e2]
theorem pe_cmpR {op:CmpOp} {r:R2} (ho:OpR X (compareOp op) r) (ha:PE X a ta) (hb:PE X b tb) (hm:behindInMarks op b=false):PE X (.Compare a [op] [b] pos) (tOp r ta tb):=by
 intro pins s σ H Q I h;exact wpAny_Compare1 (binT ha hb I h fun v u s2 x y H2 I2 rx ry q=>ho pins s2 σ H2 x y v u Q I2 rx ry q) hm
def tTest (t:TE):TT:=fun σ H Q=>t σ H fun x H'=>∃ k,x=.bl k/\Q k H'
theorem Ji {op:CmpOp} {r:R2} (ho:OpR X (compareOp op) r) (ha:PE X a ta) (hb:PE X b tb) (hm:behindInMarks op b=false):PT X (.Compare a [op] [b] pos) (tTest (tOp r ta tb)):=by
 intro pins s σ H Q I h;refine wpAny_isTrue_Compare1 (thn (ha pins s σ H _ I h) fun v s1 h9=>?_) hm;obtain ⟨x,H1,I1,r1,q1⟩:=h9;refine thn (hb pins s1 σ H1 _ I1 q1) fun u s2 h9=>?_;obtain ⟨y,H2,I2,r2,q2⟩:=h9;refine thn (ho pins s2 σ H2 x y v u _ I2 r1 r2 q2) fun c s3 h9=>?_;obtain ⟨z,H3,I3,r3,k,e,q3⟩:=h9;subst e;cases r3;exact wpAny_truthy_bool ⟨H3,I3,q3⟩
theorem J3e:(sizeLine:Nat) < 2 ^ 63:=by rw [sizeLine_eq];decide
theorem vals1 {x:V} {us:List Value} (r:Vals [x] us):∃ u,us=[u]/\RelV x u:=by
 cases r with
 | cons r1 r2=>cases r2;exact ⟨_,rfl,r1⟩
theorem vals2 {x y:V} {us:List Value} (r:Vals [x,y] us):∃ u w',us=[u,w']/\RelV x u/\RelV y w':=by
 cases r with
 | cons r1 r2 =>
  cases r2 with
  | cons r3 r4=>cases r4;exact ⟨_,_,rfl,r1,r3⟩
theorem call_max2 (hc:X.calm=true):CallR X (.builtin "max") (fun xs H Q=>∃ i j,xs=[.int i,.int j]/\Q (.int (if j > i then j else i)) H):=by
 intro pins s σ H xs us Q I r h;obtain ⟨i,j,rfl,q⟩:=h;obtain ⟨u,w',rfl,⟨t,rfl⟩,⟨t',rfl⟩⟩:=vals2 r;refine max_two_ints (I.ok.hd hc) fun h' tk k=>⟨_,H,I.kept k,?_,q⟩;by_cases hj:j > i
 ·rw [if_pos hj,if_pos hj];exact ⟨_,rfl⟩
 ·rw [if_neg hj,if_neg hj];exact ⟨_,rfl⟩
theorem call_min2 (hc:X.calm=true):CallR X (.builtin "min") (fun xs H Q=>∃ i j,xs=[.int i,.int j]/\Q (.int (if j < i then j else i)) H):=by
 intro pins s σ H xs us Q I r h;obtain ⟨i,j,rfl,q⟩:=h;obtain ⟨u,w',rfl,⟨t,rfl⟩,⟨t',rfl⟩⟩:=vals2 r;refine min_two_ints (I.ok.hd hc) fun h' tk k=>⟨_,H,I.kept k,?_,q⟩;by_cases hj:j < i
 ·rw [if_pos hj,if_pos hj];exact ⟨_,rfl⟩
 ·rw [if_neg hj,if_neg hj];exact ⟨_,rfl⟩
end
end L2
namespace L2
open PySem PySem.Spec PyProof.Rows
structure ObjM (h:Heap) (x dx C:Addr) (mA:Str->Option Value):Prop where
 obj:h.get? x=some (instObj C dx)
 ns:h.Ns1 dx mA
 ne:dx≠x
theorem lookIn_ns {h:Heap} {dx:Addr} {mA:Str->Option Value} (n:h.Ns1 dx mA):∃ od,h.get? dx=some od/\∀ name,lookIn name od=some (mA name):=by
 obtain ⟨o,es,ep,ho,hd,hk,_,hm⟩:=n;refine ⟨o,ho,fun name=>?_⟩;have e:=hm name;unfold nsFind findBy at e;rw [<- Array.find?_toList] at e;unfold lookIn;rw [hd];dsimp only;split
 ·rename_i y q;rw [q] at e;exact congrArg some e
 ·rename_i q;rw [q] at e;have a:es.toList.any (·.refKey)=false:=by
   rw [List.any_eq_false];intro y hy;obtain ⟨z,t,hkey⟩:=hk y (Array.mem_toList_iff.mp hy);simp [DictEntry.refKey,hkey]
  have a':¬ es.toList.any (·.refKey)=true:=by rw [a];exact Bool.false_ne_true
  rw [if_neg a'];exact congrArg some e
theorem ObjM.look {h:Heap} {x dx C:Addr} {mA:Str->Option Value} (I:ObjM h x dx C mA):∃ od,PySem.W.InstAt h x (instObj C dx) C (some od)/\∀ name,lookIn name od=some (mA name) :=
 let ⟨od,ho,hl⟩:=lookIn_ns I.ns
 ⟨od,⟨I.obj,rfl,rfl,ho⟩,hl⟩
section
variable {P:Program} {w:World} {H H':Hp} {h h':Heap} {a C dx:Addr} {fs fs':List (Str × V)}
theorem ins_get (hok:HOk P w H h) (e:H a=some (.ins C dx fs)):∃ mA,ObjM h a dx C mA/\(∀ f,RelO (fs.lookup f) (mA f))/\PySem.Within mA (fs.map (·.1))/\fs.length<=1000/\H dx=some (.own a):=by
 obtain ⟨d,z,ne,ob,mA,n,r,q⟩:=(show ObjOk P w H h a (.ins C dx fs) from hok a _ e);exact ⟨mA,⟨ob,n,ne⟩,r,q,z,d⟩
end
structure Cls (K:Frag) (C:Addr):Prop where
 pg:plainGet K C Str.empty=true
 hd:PySem.W.hasDictIn K C=true
 po:PySem.W.plainOver K C=true
 sa:findIn K (.ref C) "__setattr__"=some (some (.builtin "object.__setattr__"))
theorem Cls.get {K:Frag} {C:Addr} (c:Cls K C) (f:Str):plainGet K C f=true:=c.pg
section
variable {X:Cx} {pins:List (Addr × Obj)} {σ:St} {H:Hp} {s:Shared} {A:Around} {E:Value->Shared->Prop} {Q:Value->Shared->Prop} {c:Value} {b:Bool}
inductive TyOf (K:Frag) (H:Hp):V->Value->Prop where
 | non:TyOf K H .non (.type "NoneType")
 | bl (x:Bool):TyOf K H (.bl x) (.type "bool")
 | int (i:Int):TyOf K H (.int i) (.type "int")
 | str (x:Str):TyOf K H (.str x) (.type "str")
 | flt (x:UInt64):TyOf K H (.flt x) (.type "float")
 | lst {a:Addr} {xs:List V} (e:H a=some (.lst xs)):TyOf K H (.ref a) (.type "list")
 | frz {a:Addr} {o:Obj} {xs:List V} (e:H a=some (.frz o (.lst xs))):TyOf K H (.ref a) (.type "list")
 | tup {a:Addr} {xs:List V} (e:H a=some (.tup xs)):TyOf K H (.ref a) (.type "tuple")
 | dK {a:Addr} {kvs:List (Key × V)} (e:H a=some (.dK kvs)):TyOf K H (.ref a) (.type "dict")
 | dT {a:Addr} {kvs:List (List Key × V)} (e:H a=some (.dT kvs)):TyOf K H (.ref a) (.type "dict")
 | ins {a C dx:Addr} {fs:List (Str × V)} (e:H a=some (.ins C dx fs)) (cl:Cls K C) (ha:findIn K (.ref C) "__class__"=some (some (.builtin "object.__class__")))
   (hn:PySem.W.specialIn K (.builtin "object.__class__") "__get__"=some (some (.builtin "getset_descriptor.__get__"))) (htk:PySem.W.takesIn K (.builtin "object.__class__")=some true)
   (hm:PySem.W.mroIn K C (.type "object")=some true):TyOf K H (.ref a) (.ref C)
theorem isinst_ok {x:V} {u t:Value} (I:Inv X pins σ H s) (rx:RelV x u) (ty:TyOf X.K H x t) (e:kitOne X.K t c=some b) (h:∀ tk,Q (.bool b) { s with toks:=tk }) :
  wpAny (model X.prog X.w) A (call (.builtin "isinstance") [u,c]) Q E s:=by
 cases ty with
 | non=>cases (show u=Value.none from rx);exact kia_one PySem.W.kitx_none I.kIn True.intro e (fun z=>nomatch z) h
 | bl y=>cases (show u=Value.bool y from rx);exact kia_one PySem.W.kitx_bool I.kIn True.intro e (fun z=>nomatch z) h
 | int i=>obtain ⟨t,q⟩:=(show ∃ t,u=Value.int i t from rx);cases q;exact kia_one PySem.W.kitx_int I.kIn True.intro e (fun z=>nomatch z) h
 | str y=>obtain ⟨t,q⟩:=(show ∃ t,u=Value.str y t from rx);cases q;exact kia_one PySem.W.kitx_str I.kIn True.intro e (fun z=>nomatch z) h
 | flt y=>obtain ⟨t,q⟩:=(show ∃ t,u=Value.float y t from rx);cases q;exact kia_one PySem.W.kitx_float I.kIn True.intro e (fun z=>nomatch z) h
 | @lst a xs ea =>
  cases (show u=Value.ref a from rx);obtain ⟨_,_,n,_,h1⟩:=(show ObjOk X.prog X.w H s.heap a (.lst xs) from I.hok a _ ea);exact kia_one PySem.W.kitx_list I.kIn ⟨_,h1,rfl⟩ e (fun z=>nomatch z) h
 | @frz a ob xs ea =>
  cases (show u=Value.ref a from rx);obtain ⟨_,_,_,n,_,h1⟩:=(show ObjOk X.prog X.w H s.heap a (.frz ob (.lst xs)) from I.hok a _ ea);exact kia_one PySem.W.kitx_list I.kIn ⟨_,h1,rfl⟩ e (fun z=>nomatch z) h
 | @tup a xs ea =>
  cases (show u=Value.ref a from rx);obtain ⟨_,_,_,p⟩:=(show ObjOk X.prog X.w H s.heap a (.tup xs) from I.hok a _ ea);obtain ⟨o,h1,h2,_⟩:=p;exact kia_one PySem.W.kitx_tuple I.kIn ⟨o,h1,h2.1⟩ e (fun z=>nomatch z) h
 | @dK a kvs ea =>
  cases (show u=Value.ref a from rx);obtain ⟨_,_,vs,_,p⟩:=(show ObjOk X.prog X.w H s.heap a (.dK kvs) from I.hok a _ ea);obtain ⟨o,es,ep,h1,h2,_⟩:=p;exact kia_one PySem.W.kitx_dict I.kIn ⟨o,h1,h2.1⟩ e (fun z=>nomatch z) h
 | @dT a kvs ea =>
  cases (show u=Value.ref a from rx);obtain ⟨_,_,xs,_,o,es,ep,h1,h2,_⟩:=(show ObjOk X.prog X.w H s.heap a (.dT kvs) from I.hok a _ ea);exact kia_one PySem.W.kitx_dict I.kIn ⟨o,h1,h2.1⟩ e (fun z=>nomatch z) h
 | @ins a C dx fs ea cl ha hn htk hm =>
  cases (show u=Value.ref a from rx);obtain ⟨mA,O,_⟩:=ins_get I.hok ea;obtain ⟨od,J,_⟩:=O.look;exact kia_one (PySem.W.kitx_own (cl.get _) cl.hd ha hn htk hm) I.kIn J e (fun z=>nomatch z) h
end
end L2
namespace L2
open PySem PySem.Spec PyProof.Rows
structure Room (k:Nat) (A:Around):Prop where
 hd:A.handled=none
 dp:A.depth + 3 * k + 5 < recursionLimit
 un:A.units + 16 * k + 200 < cLine
theorem Room.mono {j k:Nat} {A:Around} (r:Room k A) (h:j<=k):Room j A:=⟨r.hd,by have:=r.dp;omega,by have:=r.un;omega⟩
theorem rm {j k:Nat} {A:Around} (r:Room k A) (h:j<=k:=by decide) : Room j A:=r.mono h
theorem Room.deeper {k:Nat} {A:Around} (r:Room (k + 1) A) (env:Env):Room k (A.deeper env) :=
 ⟨r.hd,by have:=r.dp;show A.depth + 1 + 3 * k + 5 < _;omega,by have:=r.un;show A.units + 3 + 16 * k + 200 < _;omega⟩
theorem Room.in1 {k:Nat} {A:Around} (r:Room (k + 1) A):Room k A.in1 :=
 ⟨r.hd,by have:=r.dp;show A.depth + 3 * k + 5 < _;omega,by have:=r.un;show A.units + 1 + 16 * k + 200 < _;omega⟩
theorem Room.depth {k:Nat} {A:Around} (r:Room k A):A.depth < recursionLimit:=by have:=r.dp;omega
theorem Room.units0 {k:Nat} {A:Around} (r:Room k A):A.units < cLine:=by have:=r.un;omega
def tNil:TA:=fun _ H Q=>Q [] H
def tCons (ta:TE) (tr:TA):TA:=fun σ H Q=>ta σ H fun x H1=>tr σ H1 fun xs H2=>Q (x :: xs) H2
section
variable {X:Cx} {e:Expr} {es:List Expr} {te:TE} {t:TA} {pos:Pos}
theorem J1:PA X [] tNil:=fun _ _ _ _ H Q I h=>Calls.spliced_nil ⟨[],H,I,.nil,h⟩
theorem pa_cons (ha:PE X e te) (hr:PA X es t) (hs:starEach (e :: es) X.env=(false,eval e X.env) :: starEach es X.env:=by rfl):PA X (e :: es) (tCons te t):=by
 intro pos pins s σ H Q I h;rw [hs];show wpAny _ _ (spliced ((false,eval e X.env) :: backTo pos (starEach es X.env))) _ _ s;refine Calls.spliced_cons (thn (ha pins s σ H _ I h) fun u s1 h9=>?_);obtain ⟨x,H1,I1,r1,q1⟩:=h9;exact thn (hr pos pins s1 σ H1 _ I1 q1) fun us s2 h9=>by obtain ⟨xs,H2,I2,r2,q2⟩:=h9;exact ⟨x :: xs,H2,I2,.cons r1 r2,q2⟩
def tTup (t:TA):TE:=fun σ H Q=>t σ H fun xs H1=>xs.length<=sizeLine/\∀ p,H1 p=none->Q (.ref p) (upd H1 p (.tup xs))
def tLst (t:TA):TE:=fun σ H Q=>t σ H fun xs H1=>xs.length<=sizeLine/\∀ p,H1 p=none->Q (.ref p) (upd H1 p (.lst xs))
theorem J2r {x1} (h:PA X es t):PE X (.Tuple es x1 pos) (tTup t):=by
 intro pins s σ H Q I hq;refine wpAny_Tuple_spliced (thn (h pos pins s σ H _ I hq) fun us s1 h9=>?_);obtain ⟨xs,H1,I1,r,z,q⟩:=h9;refine ⟨by rw [<- r.length];exact z,?_⟩;have hf:H1 s1.heap.objs.size=none:=I1.hok.fresh (Nat.le_refl _);refine ⟨.ref s1.heap.objs.size,upd H1 s1.heap.objs.size (.tup xs),I1.laid (t':=s1.toks) (fun b u e=>get?_push_of_some _ e) (Nat.le_refl _) ?_,rfl,q _ hf⟩;exact ⟨z,us,r,⟨_,get?_push_size _ rfl,⟨rfl,rfl⟩,_,rfl⟩⟩
theorem J2s (h:PA X es t):PE X (.List es pos) (tLst t):=by
 intro pins s σ H Q I hq;refine wpAny_List_spliced (thn (h pos pins s σ H _ I hq) fun us s1 h9=>?_);obtain ⟨xs,H1,I1,r,z,q⟩:=h9;refine ⟨by rw [<- r.length];exact z,?_⟩;have hf:H1 s1.heap.objs.size=none:=I1.hok.fresh (Nat.le_refl _);refine ⟨.ref s1.heap.objs.size,upd H1 s1.heap.objs.size (.lst xs),I1.laid (t':=s1.toks) (fun b u e=>get?_push_of_some _ e) (Nat.le_refl _) ?_,rfl,q _ hf⟩;exact ⟨z,us,0,r,get?_push_size _ rfl⟩
end
abbrev Sp:=List V->Hp->VK->XK->Prop
abbrev CXT:=List Env->Hp->Shared->XK->Value->Shared->Prop
structure Env0 (P:Program) (w:World) (K:Frag) (mg:Str->Option Value) (base:Heap) (A:Around) (outer:List Env) (s:Shared) (H:Hp):Prop where
 frames:A.frames=some outer
 mod:Mod K mg base
 bs:∀ b o,base.get? b=some o->s.heap.get? b=some o/\H b=none
 bsz:base.objs.size<=s.heap.objs.size
 funs:s.heap.FunFrames base outer
 frf:∀ b∈frs outer,H b=none
 hok:HOk P w H s.heap
 bare:AllBare s.gens
def CE (outer:List Env) (P:Program) (w:World) (H:Hp) (s:Shared) (Q:VK) (u:Value) (s':Shared):Prop :=
 ∃ v H',s'.os=s.os/\AllBare s'.gens/\Un (frs outer) [] H H' s.heap s'.heap/\HOk P w H' s'.heap/\RelV v u/\Q v H'
def CR (CX:CXT) (outer:List Env) (P:Program) (w:World) (H:Hp) (s:Shared) (Q:VK) (E:XK) (r:Result) (s':Shared):Prop :=
 match r with
 | .ok (.ret u)=>CE outer P w H s Q u s'
 | .ok _=>False
 | .error e=>CX outer H s E e s'
structure FnOk (P:Program) (w:World) (K:Frag) (mg:Str->Option Value) (base:Heap) (CX:CXT) (k:Nat) (f:Addr) (fd:FuncData) (ps:List Str) (sp:Sp):Prop where
 len:∀ vs H Q E,sp vs H Q E->vs.length=ps.length
 run:∀ (A:Around) (outer:List Env) (s:Shared) (H:Hp) (args:Args) (us:List Value) (vs:List V) (Q:VK) (E:XK),Room k A->Env0 P w K mg base A outer s H->BindsTo s fd args (ps.zip us)->Vals vs us->sp vs H Q E->
  codeAny (model P w) A (.call (.ref f) args) (CR CX outer P w H s Q E) s
theorem Env0.in1 {P:Program} {w:World} {K:Frag} {mg:Str->Option Value} {base:Heap} {A:Around} {outer:List Env} {s:Shared} {H:Hp} (e:Env0 P w K mg base A outer s H) :
  Env0 P w K mg base A.in1 outer s H:=⟨e.frames,e.mod,e.bs,e.bsz,e.funs,e.frf,e.hok,e.bare⟩
section
variable {X:Cx} {pins:List (Addr × Obj)} {σ:St} {H:Hp} {s s':Shared}
theorem Inv.env0 (I:Inv X pins σ H s):Env0 X.prog X.w X.K X.mg X.base X.A X.stack s H :=
 ⟨I.ok.frames,I.ok.mod,I.bs,Nat.le_trans I.ok.bsz I.sz,I.stack,I.stkFree,I.hok,I.bare⟩
theorem Inv.after {Q:VK} {u:Value} (I:Inv X pins σ H s) (h:CE X.stack X.prog X.w H s Q u s'):EP X pins σ Q u s':=by
 obtain ⟨v,H',os,bare,un,hok,r,q⟩:=h;obtain ⟨hh,g,d,t,os'⟩:=s';obtain rfl:os'=s.os:=os;exact ⟨v,H',I.call (h':=hh) (g':=g) (d':=d) (t':=t) (ch:=[]) un hok bare (fun b z=>absurd z (by simp)),r,q⟩
end
def tCall (sp:Sp) (dvs:List V) (E:XK) (t:TA):TE:=fun σ H Q=>t σ H fun vs H1=>sp (vs ++ dvs) H1 Q E
def Binds (K:Frag) (fd:FuncData) (ps:List Str) (ds:List Value):Prop :=
 ∀ (s:Shared) (us:List Value),K.In s.heap->(us ++ ds).length=ps.length->BindsTo s fd ⟨us,[]⟩ (ps.zip (us ++ ds))
theorem Binds.all {K:Frag} {fd:FuncData} {ps:List Str} (h:∀ us:List Value,us.length=ps.length->bindArgs fd ⟨us,[]⟩=pure (ps.zip us)):Binds K fd ps []:=fun s us _ hl=>by
 rw [append_nil] at hl ⊢;exact .of_eq (h us hl)
def Passes (CX:CXT) (X:Cx) (E:XK):Prop:=∀ (pins:List (Addr × Obj)) (σ:St) (H:Hp) (s:Shared) (e:Value) (s':Shared),Inv X pins σ H s->CX X.stack H s E e s'->X.xe e s'
section
variable {X:Cx} {CX:CXT} {k:Nat} {f C:Addr} {fd:FuncData} {ps:List Str} {sp:Sp} {dvs:List V} {ds:List Value} {E:XK} {x m:Str} {p pos apos:Pos} {e o:Expr} {es:List Expr} {ta:TE} {t:TA}
theorem run_fn {pins:List (Addr × Obj)} {σ:St} {H:Hp} {s:Shared} {Q:VK} {us:List Value} {vs:List V} (F:FnOk X.prog X.w X.K X.mg X.base CX k f fd ps sp) (hr:Room k X.A) (hb:Binds X.K fd ps ds) (hd:Vals dvs ds) (hx:Passes CX X E)
  (I:Inv X pins σ H s) (r:Vals vs us) (h:sp (vs ++ dvs) H Q E):wpAny (model X.prog X.w) X.A (call (.ref f) us) (EP X pins σ Q) X.xe s:=by
 have r2:Vals (vs ++ dvs) (us ++ ds):=r.append hd;have hl:(us ++ ds).length=ps.length:=by rw [<- r2.length];exact F.len _ _ _ _ h
 refine wpAny_call (codeAny_mono (F.run X.A X.stack s H ⟨us,[]⟩ (us ++ ds) (vs ++ dvs) Q E hr I.env0 (hb s us I.kIn hl) r2 h) fun r s' hq=>?_)
 cases r with
 | error e=>exact hx pins σ H s e s' I hq
 | ok fl =>
  cases fl with
  | ret u=>exact I.after hq
  | next=>exact False.elim hq
  | brk=>exact False.elim hq
  | cont=>exact False.elim hq
theorem Jd (F:FnOk X.prog X.w X.K X.mg X.base CX k f fd ps sp) (hr:Room k X.A) (hg:Gl X x) (hm:X.mg x=some (.ref f)) (hk:keepIn X.K (.ref f)=true) (hb:Binds X.K fd ps ds) (hd:Vals dvs ds) (hx:Passes CX X E)
  (ha:PA X (e :: es) t) (hdb:(x == ("__debug__":Str))=false:=by decide) (he:starEach (e :: es) X.env=(false,eval e X.env) :: starEach es X.env:=by rfl) (hpl:(backTo pos (starEach es X.env)).any (·.1)=false:=by rfl) :
  PE X (.Call (.Name x p) (e :: es) [] pos) (tCall sp dvs E t):=by
 intro pins s σ H Q I h;refine wpAny_Call_Name_kw (ld_glob I hg hm ?_ hdb);refine PySem.W.callWith_K (h₀:=X.base) I.ok.mod.kin hk (thn (ha pos pins s σ H _ I h) fun us s1 h9=>?_) he hpl;obtain ⟨vs,H1,I1,r,q⟩:=h9;refine ⟨I1.kIn,?_⟩;exact run_fn F hr hb hd hx I1 r q
end
structure FnScope (N P:List Str) (sc:Scope):Prop where
 kind:sc.kind=.function
 co:sc.isCoroutine=false
 gen:sc.isGenerator=false
 nd:N.Nodup
 pre:N.take P.length=P
 par:∀ x∈P,sc.names.lookup x=some .local\/sc.names.lookup x=some .cell
 nofree:∀ y∈sc.names,y.2≠.free
theorem fS {N P:List Str} {sc:Scope} (a:sc.kind=.function:=by rfl) (b:sc.isCoroutine=false:=by rfl) (c:sc.isGenerator=false:=by rfl) (d:N.Nodup:=by decide +kernel) (e:N.take P.length=P:=by rfl) (f:∀ x∈P,sc.names.lookup x=some .local\/sc.names.lookup x=some .cell:=by decide +kernel) (g:∀ y∈sc.names,y.2≠.free:=by decide +kernel) : FnScope N P sc:=⟨a,b,c,d,e,f,g⟩
theorem bindL_out {kindOf:Str->Option NameKind} {x:Str}:∀ {binds:List (Str × Value)} {m:Str->Option Value},(∀ v,(x,v) ∉ binds)->bindL kindOf binds m x=m x
 | [],_,_=>rfl
 | (n,v) :: r,m,h=>by
  unfold bindL;rw [bindL_out fun w hw=>h w (mem_cons_of_mem _ hw)];split
  ·have:x≠n:=by rintro rfl;exact h v mem_cons_self
   simp [this]
  ·rfl
theorem bindC_out {kindOf:Str->Option NameKind} {x:Str}:∀ {binds:List (Str × Value)} {m:Str->Option Value},(∀ v,(x,v) ∉ binds)->bindC kindOf binds m x=m x
 | [],_,_=>rfl
 | (n,v) :: r,m,h=>by
  unfold bindC;rw [bindC_out fun w hw=>h w (mem_cons_of_mem _ hw)];split
  ·rfl
  ·have:x≠n:=by rintro rfl;exact h v mem_cons_self
   simp [this]
theorem bindL_get {kindOf:Str->Option NameKind} {x:Str} {v:Value}:∀ {P:List Str} {vs:List Value} {i:Nat} {m:Str->Option Value},P.Nodup->P[i]?=some x->vs[i]?=some v->kindOf x=some .local->
  bindL kindOf (P.zip vs) m x=some v
 | [],_,_,_,_,h,_,_=>by simp at h
 | _ :: _,[],_,_,_,_,h,_=>by simp at h
 | p :: P,w :: vs,0,m,nd,h1,h2,hk=>by
  simp at h1 h2;subst h1;subst h2;show bindL kindOf ((p,w) :: P.zip vs) m p=_;unfold bindL;rw [bindL_out fun v hv=>(nodup_cons.mp nd).1 (of_mem_zip hv).1,if_pos hk];simp
 | p :: P,w :: vs,i + 1,m,nd,h1,h2,hk=>by
  show bindL kindOf ((p,w) :: P.zip vs) m x=_;unfold bindL;exact bindL_get (i:=i) (nodup_cons.mp nd).2 (by simpa using h1) (by simpa using h2) hk
theorem bindC_get {kindOf:Str->Option NameKind} {x:Str} {v:Value}:∀ {P:List Str} {vs:List Value} {i:Nat} {m:Str->Option Value},P.Nodup->P[i]?=some x->vs[i]?=some v->kindOf x≠some .local->
  bindC kindOf (P.zip vs) m x=some v
 | [],_,_,_,_,h,_,_=>by simp at h
 | _ :: _,[],_,_,_,_,h,_=>by simp at h
 | p :: P,w :: vs,0,m,nd,h1,h2,hk=>by
  simp at h1 h2;subst h1;subst h2;show bindC kindOf ((p,w) :: P.zip vs) m p=_;unfold bindC;rw [bindC_out fun v hv=>(nodup_cons.mp nd).1 (of_mem_zip hv).1,if_neg hk];simp
 | p :: P,w :: vs,i + 1,m,nd,h1,h2,hk=>by
  show bindC kindOf ((p,w) :: P.zip vs) m x=_;unfold bindC;exact bindC_get (i:=i) (nodup_cons.mp nd).2 (by simpa using h1) (by simpa using h2) hk
def start (N:List Str) (vs:List V):St:=vs.map some ++ List.replicate (N.length - vs.length) none
def cxOf (CX:CXT) (P:Program) (w:World) (K:Frag) (mg:Str->Option Value) (base:Heap) (N:List Str) (qual:Str) (scope:Scope) (f:Addr) (cd:Value) (A:Around) (outer:List Env) (s:Shared) (H:Hp) (E:XK):Cx where
 prog:=P
 w:=w
 K:=K
 mg:=mg
 base:=base
 A:=A.deeper (envOfC qual scope s.heap.objs.size f cd)
 N:=N
 s₀:=s
 H₀:=H
 env:=envOfC qual scope s.heap.objs.size f cd
 outer:=outer
 stack:=envOfC qual scope s.heap.objs.size f cd :: outer
 ex:=[]
 calm:=true
 fn:=fun _=>true
 pn:=[]
 xe:=fun e s'=>wpAny (model P w) (A.deeper (envOfC qual scope s.heap.objs.size f cd)) (leaving (envOfC qual scope s.heap.objs.size f cd) e) (fun _ s''=>CX outer H s E e s'') (fun e' s''=>CX outer H s E e' s'') s'
theorem cell_has {sc:Scope} {n:Nat} {x:Str} (h:sc.names.lookup x=some .cell):∃ c,(cellsFrom n sc.names []).lookup x=some c:=by
 have q:=PySem.W.cellsFrom_some sc.names n [] (.inl h);exact Option.isSome_iff_exists.mp q
theorem inv_start {CX:CXT} {P:Program} {w:World} {K:Frag} {mg:Str->Option Value} {base:Heap} {N ps:List Str} {qual:Str} {scope:Scope} {f:Addr} {cd:Value} {A:Around} {outer:List Env} {s s1:Shared} {H:Hp} {E:XK} {us:List Value} {vs:List V}
  (S:FnScope N ps scope) (hd:A.handled=none) (e0:Env0 P w K mg base A outer s H) (hl:vs.length=ps.length) (r:Vals vs us)
  (x:InCallC s s.heap.objs.size (bindL (envOfC qual scope s.heap.objs.size f cd).kindOf (ps.zip us) fun _=>none) (cellsFrom (s.heap.objs.size + 1) scope.names []) (bindC (envOfC qual scope s.heap.objs.size f cd).kindOf (ps.zip us) fun _=>none) s1) :
  Inv (cxOf CX P w K mg base N qual scope f cd A outer s H E) [] (start N vs) H s1:=by
 have hpl:ps.length<=N.length:=by have:=congrArg List.length S.pre;rw [length_take] at this;omega
 obtain ⟨h1,tk,rfl,hk⟩:=x.done;have noA:∀ b:Addr,b ∉ (cxOf CX P w K mg base N qual scope f cd A outer s H E).ex:=fun b z=>absurd (show b∈([]:List Addr) from z) (by simp);refine ⟨⟨e0.mod,S.kind,rfl,rfl,Nat.le_refl _,fun y z c h1 h2=>?_,fun y hy=>?_,fun y c _ h=>?_,fun _=>hd,Around.frames_deeper e0.frames,.inr ⟨rfl,rfl⟩,fun b z=>absurd z (noA b),e0.bs,e0.bsz,fun b _ _=>noA b,fun b z=>absurd z (noA b),e0.funs,e0.frf⟩,
  rfl,e0.bare,Un.kept hk,⟨_,x.toInCall.ns,fun i y v h1 h2 h3=>?_⟩,fun y c h=>⟨_,x.cell y c h⟩,e0.hok.fresh (Nat.le_refl _),fun y c h=>?_,fun p hp=>absurd (show p∈([]:List (Addr × Obj)) from hp) (by simp),e0.hok.kept hk,?_⟩
 ·exact name_of_addr x.apart (mem_of_lookup h1) (mem_of_lookup h2)
 ·have hy:scope.names.lookup y=some .cell\/scope.names.lookup y=some .free:=hy;rcases hy with hy | hy
  ·exact cell_has hy
  ·exact absurd rfl (S.nofree _ (mem_of_lookup hy))
 ·exact Nat.le_of_lt (x.above y c (mem_of_lookup h))
 ·have hi:i < vs.length:=by
   unfold start at h2;by_cases hi:i < vs.length
   ·exact hi
   ·rw [getElem?_append_right (by simpa using hi)] at h2;rw [List.getElem?_replicate] at h2;split at h2 <;> cases h2
  have ha:vs[i]?=some v:=by
   unfold start at h2;rw [getElem?_append_left (by simpa using hi),getElem?_map] at h2
   cases e:vs[i]? with
   | none=>rw [e] at h2;cases h2
   | some a=>rw [e] at h2;cases h2;rfl
  obtain ⟨u,hu,rv⟩:=r.get ha;have hp:ps[i]?=some y:=by
   rw [<- S.pre,List.getElem?_take_of_lt (by omega)];exact h1
  have ndP:ps.Nodup:=by rw [<- S.pre];exact S.nd.sublist (List.take_sublist _ _)
  refine ⟨u,rv,?_⟩;rcases S.par y (mem_of_getElem? hp) with k | k
  ·exact .inl ⟨k,bindL_get ndP hp hu k⟩
  ·obtain ⟨c,e⟩:=cell_has (n:=s.heap.objs.size + 1) k;refine .inr ⟨.inl k,c,e,?_⟩;have q:=x.cell y c e;rw [bindC_get ndP hp hu (by show scope.names.lookup y≠_;rw [k];decide)] at q;exact q
 ·exact e0.hok.fresh (Nat.le_of_lt (x.above y c (mem_of_lookup h)))
 ·unfold start;show _=N.length;rw [length_append,length_map,List.length_replicate];omega
theorem fn_of {CX:CXT} {P:Program} {w:World} {K:Frag} {mg:Str->Option Value} {base:Heap} {k:Nat} {f:Addr} {name qual:Str} {params:Arguments} {body:List Stmt} {scope:Scope} {dV kV doc pm cdv ct oc:Value} {an od:Option Addr}
  {osl:Array (Option Value)} {N ps:List Str} {sp:Sp} (lk:K.lookup f=some ⟨oc,od,.func (fnOf name qual params body scope dV kV doc pm an cdv ct),osl⟩) (hcd:codeIn K cdv qual=true) (S:FnScope N ps scope)
  (len:∀ vs H Q E,sp vs H Q E->vs.length=ps.length)
  (hbody:∀ (A:Around) (outer:List Env) (s:Shared) (H:Hp) (vs:List V) (Q:VK) (E:XK),Room k (A.deeper (envOfC qual scope s.heap.objs.size f cdv))->sp vs H Q E->
   ∃ t,PSs (cxOf CX P w K mg base N qual scope f cdv A outer s H E) body t/\t { nx:=fun _ H'=>Q .non H',rt:=Q } (start N vs) H) :
  FnOk P w K mg base CX (k + 1) f (fnOf name qual params body scope dV kV doc pm an cdv ct) ps sp:=by
 refine ⟨len,fun A outer s H args us vs Q E hr e0 hb r hsp=>?_⟩;have hl:=len _ _ _ _ hsp;have KX:K.In s.heap:=e0.mod.kin.keeps fun b o e=>(e0.bs b o e).1;have lim:s.heap.NoLimit:=e0.mod.nolimit.keeps fun b o e=>(e0.bs b o e).1;have hkind:∀ y∈ps.zip us,scope.names.lookup y.1=some .local\/(scope.names.lookup y.1=some .cell/\((cellsFrom (s.heap.objs.size + 1) scope.names []).lookup y.1).isSome=true):=fun h9 hy=>by
  obtain ⟨n,v⟩:=h9;rcases S.par n (of_mem_zip hy).1 with q | q
  ·exact .inl q
  ·exact .inr ⟨q,PySem.W.cellsFrom_some _ _ _ (.inl q)⟩
 refine codeAny_call_function hr.depth (KX _ _ lk) rfl S.co S.gen rfl (PySem.W.codeRec_of KX hcd) (hb _ _ _ _ ?_);refine wpAny_newFunctionEnv_cells S.kind hkind fun env he s1 x=>?_;subst he;refine ⟨lim.keeps x.toInCall.keep,codeAny_func ?_⟩;obtain ⟨t,ht,hq⟩:=hbody A outer s H vs Q E (hr.deeper _) hsp;have I:Inv (cxOf CX P w K mg base N qual scope f cdv A outer s H E) [] (start N vs) H s1:=inv_start S hr.hd e0 hl r x;refine wpAny_mono (ht [] s1 (start N vs) H _ I hq) (fun fl s' hs=>?_) fun e s' hs=>hs;have fin:∀ {σ':St} {H':Hp} {v:V} {u:Value},Inv (cxOf CX P w K mg base N qual scope f cdv A outer s H E) [] σ' H' s'->RelV v u->Q v H'->CE outer P w H s Q u s' :=
  fun {σ' H' v u} J rv q=>⟨v,H',J.os,J.bare,J.base,J.hok,rv,q⟩
 cases fl with
 | ret u =>
  obtain ⟨v,σ',H',J,rv,q⟩:=hs;exact fin J rv q
 | next =>
  obtain ⟨σ',H',J,q⟩:=hs;exact fin (v:=V.non) (u:=Value.none) J rfl q
 | brk =>
  obtain ⟨_,_,_,q⟩:=hs;exact False.elim q
 | cont =>
  obtain ⟨_,_,_,q⟩:=hs;exact False.elim q
end L2
namespace L2
open PySem PySem.Spec PyProof.Rows
section
variable {X:Cx} {x:Str} {p pos:Pos} {e:Expr} {es:List Expr} {t:TA} {id T:String} {r:List V->Hp->VK->Prop}
def tCB (r:List V->Hp->VK->Prop) (t:TA):TE:=fun σ H Q=>t σ H fun vs H1=>r vs H1 Q
theorem Ja (hc:CallR X (.builtin id) r) (hg:Gl X x) (hm:X.mg x=none) (hv:bootBuiltins x=some (.builtin id)) (ha:PA X (e :: es) t) (hn:x≠"__name__":=by decide) (hdb:(x == ("__debug__":Str))=false:=by decide)
  (he:starEach (e :: es) X.env=(false,eval e X.env) :: starEach es X.env:=by rfl) (hpl:(backTo pos (starEach es X.env)).any (·.1)=false:=by rfl):PE X (.Call (.Name x p) (e :: es) [] pos) (tCB r t):=by
 intro pins s σ H Q I h;refine wpAny_Call_Name_kw (J3f I hg hm hv ?_ hn hdb);exact callWith_builtin1 (thn (ha pos pins s σ H _ I h) fun us s1 h9=>by obtain ⟨vs,H1,I1,r1,q1⟩:=h9;exact hc pins s1 σ H1 vs us Q I1 r1 q1) he hpl
theorem Jk (hc:CallR X (.type T) r) (hg:Gl X x) (hm:X.mg x=none) (hv:bootBuiltins x=some (.type T)) (ha:PA X (e :: es) t) (hn:x≠"__name__":=by decide) (hdb:(x == ("__debug__":Str))=false:=by decide)
  (he:starEach (e :: es) X.env=(false,eval e X.env) :: starEach es X.env:=by rfl) (hpl:(backTo pos (starEach es X.env)).any (·.1)=false:=by rfl):PE X (.Call (.Name x p) (e :: es) [] pos) (tCB r t):=by
 intro pins s σ H Q I h;refine wpAny_Call_Name_kw (J3f I hg hm hv ?_ hn hdb);exact callWith_type1 (thn (ha pos pins s σ H _ I h) fun us s1 h9=>by obtain ⟨vs,H1,I1,r1,q1⟩:=h9;exact hc pins s1 σ H1 vs us Q I1 r1 q1) he hpl
end
end L2
namespace HT
open PySem PyProof.Rows
section
variable {prog:Program} {w:World} {A:Around} {E:Value->Shared->Prop} {s:Shared}
def sIx (n d:Nat):Option Int->Nat
 | none=>d
 | some v=>if v < 0 then (v + (n:Int)).toNat else min v.toNat n
theorem sIx_none (n d:Nat):sIx n d none=d:=rfl
theorem sIx_nat (n d k:Nat):sIx n d (some (k:Int))=min k n:=by
 show (if (k:Int) < 0 then ((k:Int) + (n:Int)).toNat else min (k:Int).toNat n)=min k n;rw [if_neg (by omega),Int.toNat_natCast]
theorem sIx_le (n d:Nat) (hd:d<=n) (o:Option Int):sIx n d o<=n:=by
 cases o with
 | none=>exact hd
 | some v =>
  show (if v < 0 then (v + (n:Int)).toNat else min v.toNat n)<=n;by_cases hv:v < 0
  ·rw [if_pos hv];omega
  ·rw [if_neg hv];exact Nat.min_le_right _ _
theorem clip_eq (v:Int) (n d:Nat):(if v < 0 then max (v + (n:Int)) 0 else min v (n:Int))=((sIx n d (some v):Nat):Int):=by
 show (if v < 0 then max (v + (n:Int)) 0 else min v (n:Int))=(((if v < 0 then (v + (n:Int)).toNat else min v.toNat n):Nat):Int);by_cases hv:v < 0
 ·simp only [if_pos hv];omega
 ·simp only [if_neg hv];omega
theorem adjust_gen (lo hi:Option Int) (n:Nat):Builtin.Slice.sliceAdjust lo hi 1 (n:Int)=(((sIx n 0 lo:Nat):Int),((sIx n n hi:Nat):Int)):=by
 have h1:¬ ((1:Int) < 0):=by omega
 unfold Builtin.Slice.sliceAdjust;simp only [h1,if_false];refine Prod.ext ?_ ?_
 ·cases lo with
  | none=>rfl
  | some v=>exact clip_eq v n 0
 ·cases hi with
  | none=>rfl
  | some v=>exact clip_eq v n n
theorem places_gen (i j:Nat):Builtin.Slice.slicePlaces (i:Int) (j:Int) 1=j - i:=by
 unfold Builtin.Slice.slicePlaces;have h1:(1:Int) > 0:=by omega
 simp only [h1,if_true,Int.ediv_one];split <;> omega
theorem J2n {v:Value} {o:Option Int} {Q:Option Int->Shared->Prop} (p:IsPart v o) (h:Q o s):wpAny (model prog w) A (Builtin.Slice.slicePartIndex v) Q E s:=by
 cases p with
 | none=>exact slicePart_none h
 | int i t=>exact slicePart_int h
theorem J1m {sl:Addr} {vl vu:Value} {lo hi:Option Int} {n:Nat} {Q:Int × Int × Nat->Shared->Prop} (hs:s.heap.IsSliceOf sl vl vu .none) (pl:IsPart vl lo) (pu:IsPart vu hi)
  (h:Q (((sIx n 0 lo:Nat):Int),1,sIx n n hi - sIx n 0 lo) s):wpAny (model prog w) A (Builtin.Slice.sliceApplied (.ref sl) (pure (n:Int))) Q E s:=by
 obtain ⟨os,hos,hcs,hds⟩:=id hs;unfold Builtin.Slice.sliceApplied Builtin.Slice.sliceFields;refine wpAny_bind (wpAny_bind (wpAny_field hos hds (x:=vl) rfl (wpAny_bind (wpAny_field hos hds (x:=vu) rfl (wpAny_bind (wpAny_field hos hds (x:=.none) rfl (wpAny_pure ?_)))))));refine wpAny_bind (slicePart_none ?_);show wpAny _ _ (if ((1:Int) == 0)=true then _ else _) _ _ s;rw [if_neg (by decide)];refine wpAny_bind (J2n pl (wpAny_bind (J2n pu (wpAny_bind (wpAny_pure ?_)))));show wpAny _ _ (match Builtin.Slice.sliceAdjust lo hi 1 (n:Int) with | (lo,hi)=>pure (lo,(1:Int),Builtin.Slice.slicePlaces lo hi 1)) _ _ s;rw [adjust_gen lo hi n];show wpAny _ _ (pure (((sIx n 0 lo:Nat):Int),(1:Int),Builtin.Slice.slicePlaces ((sIx n 0 lo:Nat):Int) ((sIx n n hi:Nat):Int) 1)) _ _ s;rw [places_gen];exact wpAny_pure h
theorem pick_gen (xs:Array Value) (i k:Nat):((List.range k).filterMap fun (m:Nat)=>xs[((i:Int) + (m:Int) * 1).toNat]?).toArray=((xs.toList.drop i).take k).toArray:=by
 have e:(fun (m:Nat)=>xs[((i:Int) + (m:Int) * 1).toNat]?)=fun m=>xs[i + m]?:=by
  funext m
  have:((i:Int) + (m:Int) * 1).toNat=i + m:=by omega
  rw [this]
 rw [e];have:=pick_run xs i k;rw [List.filterMap_map] at this;have e2:((fun x=>xs[x]?) ∘ fun x=>i + x)=fun m=>xs[i + m]?:=rfl;rw [e2] at this;rw [this]
theorem getItem_tuple_cut {t sl:Addr} {items:Array Value} {vl vu:Value} {lo hi:Option Int} {Q:Value->Shared->Prop} (ht:IsTup s.heap t items) (hs:s.heap.IsSliceOf sl vl vu .none) (pl:IsPart vl lo) (pu:IsPart vu hi)
  (hw:¬ (sIx items.size 0 lo=0/\sIx items.size items.size hi=items.size))
  (h:Q (.ref s.heap.objs.size) { s with heap:=s.heap.push { cls:=.type "tuple",data:=.seq ((items.toList.drop (sIx items.size 0 lo)).take (sIx items.size items.size hi - sIx items.size 0 lo)).toArray } })
  (hsz:items.size<=sizeLine):wpAny (model prog w) A (getItem (.ref t) (.ref sl)) Q E s:=by
 have htake:sizeOk (.seq ((items.toList.drop (sIx items.size 0 lo)).take (sIx items.size items.size hi - sIx items.size 0 lo)).toArray):=by
  show ((items.toList.drop (sIx items.size 0 lo)).take (sIx items.size items.size hi - sIx items.size 0 lo)).toArray.size<=sizeLine;rw [size_toArray,length_take,length_drop,length_toList];omega
 have hj:sIx items.size items.size hi<=items.size:=sIx_le _ _ (Nat.le_refl _) hi;obtain ⟨os,hos,hcs,hds⟩:=id hs;have hTs:s.TypeIs (.ref sl) "slice":=⟨os,hos,hcs⟩;unfold getItem
 try with_reducible refine wpAny_holding ?_
 first | refine wpAny_bind (wpAny_pure ?_) | skip
 refine wpAny_bind (wpAny_sequenceKey ht.typeIs (by decide) ?_);refine wpAny_bind (wpAny_callSpecial?_slot (name:=Str.ofString "__getitem__") ht.typeIs PyProof.Rows.slot_tuple_getitem
  (wpAny_call_entry PyProof.Rows.slot_tuple_getitem ht.typeIs entry_tuple_getitem ?_ (args_tuple_getitem _ _)))
 show wpAny _ _ (Builtin.Tuple.tupleItemsOf (.ref t) >>= _) _ _ s;refine wpAny_bind (tupleItemsOf_ ht ?_);refine wpAny_bind (wpAny_typeOf hTs ?_);rw [if_pos (by decide)];refine wpAny_bind (J1m hs pl pu ?_);have hno:¬ ((((sIx items.size 0 lo:Nat):Int) == 0 && (1:Int) == 1 && (sIx items.size items.size hi - sIx items.size 0 lo) == items.size)=true):=by
  intro q;rw [Bool.and_eq_true,Bool.and_eq_true] at q;have q1:((sIx items.size 0 lo:Nat):Int)=0:=eq_of_beq q.1.1;have q2:sIx items.size items.size hi - sIx items.size 0 lo=items.size:=eq_of_beq q.2;exact hw ⟨by omega,by omega⟩
 show wpAny _ _ (if (((sIx items.size 0 lo:Nat):Int) == 0 && (1:Int) == 1 && (sIx items.size items.size hi - sIx items.size 0 lo) == items.size)=true then _ else _) _ _ s;rw [if_neg hno,pick_gen]
 first
  | exact wpAny_bind (m:=Builtin.Tuple.tupleExact _) (wpAny_newObj_type (wpAny_pure ⟨_,rfl,wpAny_pure h⟩) htake)
  | exact wpAny_bind (m:=Builtin.Tuple.tupleExact _) (wpAny_newObj_type (wpAny_bind (wpAny_pure (wpAny_pure ⟨_,rfl,wpAny_pure h⟩))) htake)
  | exact wpAny_bind (wpAny_bind (m:=Builtin.Tuple.tupleExact _) (wpAny_newObj_type (wpAny_pure (wpAny_pure ⟨_,rfl,wpAny_pure h⟩)) htake))
  | exact wpAny_bind (wpAny_bind (m:=Builtin.Tuple.tupleExact _) (wpAny_newObj_type (wpAny_pure ⟨_,rfl,wpAny_pure h⟩) htake))
end
end HT
namespace L2
open PySem PySem.Spec PyProof.Rows
abbrev TO:=St->Hp->(Option Int->Hp->Prop)->Prop
def PO (X:Cx) (e:Option Expr) (t:TO):Prop :=
 ∀ (pins:List (Addr × Obj)) (s:Shared) (σ:St) (H:Hp) (Q:Option Int->Hp->Prop),Inv X pins σ H s->t σ H Q->
  wpAny (model X.prog X.w) X.A (evalPart e X.env) (fun u s'=>∃ o H',Inv X pins σ H' s'/\IsPart u o/\Q o H') X.xe s
def tNoPart:TO:=fun _ H Q=>Q none H
def tPart (t:TE):TO:=fun σ H Q=>t σ H fun x H1=>∃ i,x=.int i/\Q (some i) H1
theorem Jl {ns:List Int}:∀ {us:List Value},Vals (ns.map V.int) us->IntsAre us ns:=by
 induction ns with
 | nil=>intro us r;rw [map_nil] at r;cases r;exact .nil
 | cons n ns ih =>
  intro us r;rw [map_cons] at r
  cases r with
  | cons r1 r2 =>
   obtain ⟨t,e⟩:=r1;subst e;exact .cons n t (ih r2)
section
variable {X:Cx} {e:Expr} {te:TE} {lo hi:Option Expr} {tl th:TO} {pos p2:Pos}
theorem po_none:PO X none tNoPart:=by
 intro pins s σ H Q I h;rw [evalPart_none];exact wpAny_pure ⟨none,H,I,.none,h⟩
theorem po_some (h:PE X e te):PO X (some e) (tPart te):=by
 intro pins s σ H Q I hw;rw [evalPart_some];refine thn (h pins s σ H _ I hw) fun u s1 h9=>?_;obtain ⟨x,H1,I1,r1,q1⟩:=h9;obtain ⟨i,rfl,q⟩:=q1;obtain ⟨t,rfl⟩:=r1;exact ⟨some i,H1,I1,.int i t,q⟩
def SlR (X:Cx) (r:V->Option Int->Option Int->Hp->VK->Prop):Prop :=
 ∀ (pins:List (Addr × Obj)) (s:Shared) (σ:St) (H:Hp) (x:V) (v vl vu:Value) (lo hi:Option Int) (sl:Addr) (Q:VK),Inv X pins σ H s->RelV x v->s.heap.IsSliceOf sl vl vu .none->IsPart vl lo->IsPart vu hi->r x lo hi H Q->
  ∃ T id,typeLookup (.type T) "__getitem__"=pure (some (.builtin id))/\s.TypeIs v T/\wpAny (model X.prog X.w) X.A (getItem v (.ref sl)) (EP X pins σ Q) X.xe s
theorem SlR.or {r r':V->Option Int->Option Int->Hp->VK->Prop} (h:SlR X r) (h':SlR X r'):SlR X (fun x lo hi H Q=>r x lo hi H Q\/r' x lo hi H Q):=by
 intro pins s σ H x v vl vu lo hi sl Q I rx hs pl pu q;rcases q with q | q
 ·exact h pins s σ H x v vl vu lo hi sl Q I rx hs pl pu q
 ·exact h' pins s σ H x v vl vu lo hi sl Q I rx hs pl pu q
def tSl (r:V->Option Int->Option Int->Hp->VK->Prop) (te:TE) (tl th:TO):TE:=fun σ H Q=>te σ H fun x H1=>tl σ H1 fun l H2=>th σ H2 fun u H3=>r x l u H3 Q
theorem J3a {r:V->Option Int->Option Int->Hp->VK->Prop} (hr:SlR X r) (he:PE X e te) (hl:PO X lo tl) (hu:PO X hi th):PE X (.Subscript e (.Slice lo hi none p2) pos) (tSl r te tl th):=by
 intro pins s σ H Q I h;refine Subscript_ (thn (he pins s σ H _ I h) fun v s1 h9=>?_);obtain ⟨x,H1,I1,r1,q1⟩:=h9;refine wpAny_Slice (thn (hl pins s1 σ H1 _ I1 q1) fun vl s2 h9=>?_);obtain ⟨l,H2,I2,pl,q2⟩:=h9;refine thn (hu pins s2 σ H2 _ I2 q2) fun vu s3 h9=>?_;obtain ⟨u,H3,I3,pu,q3⟩:=h9;rw [evalPart_none];refine wpAny_pure ?_;have I4:Inv X pins σ H3 { s3 with heap:=s3.heap.push { cls:=.type "slice",data:=.fields #[vl,vu,.none] } }:=I3.kept (t':=s3.toks) fun b ob q=>get?_push_of_some _ q;obtain ⟨T,id,hT,ht,hg⟩:=hr pins { s3 with heap:=s3.heap.push { cls:=.type "slice",data:=.fields #[vl,vu,.none] } } σ H3 x v vl vu l u s3.heap.objs.size Q I4 r1 (Heap.IsSliceOf.new ..) pl pu q3;show wpAny (model X.prog X.w) X.A (subscriptTail e (.Slice lo hi none p2) v (.ref s3.heap.objs.size)) (EP X pins σ Q) X.xe { s3 with heap:=s3.heap.push { cls:=.type "slice",data:=.fields #[vl,vu,.none] } };exact tail_any (ops:=[.ref s3.heap.objs.size,v]) ht hT hg (by with_unfolding_all rfl)
def cutV (xs:List V) (lo hi:Option Int):List V:=(xs.drop (HT.sIx xs.length 0 lo)).take (HT.sIx xs.length xs.length hi - HT.sIx xs.length 0 lo)
theorem J21 (xs:List V) (lo hi:Option Int):(cutV xs lo hi).length<=xs.length:=by
 unfold cutV;rw [length_take,length_drop];omega
def rSlT (K:Frag):V->Option Int->Option Int->Hp->VK->Prop:=fun x lo hi H Q=>∃ a xs,x=.ref a/\SqT K H a xs/\
 ¬ (HT.sIx xs.length 0 lo=0/\HT.sIx xs.length xs.length hi=xs.length)/\∀ p,H p=none->Q (.ref p) (upd H p (.tup (cutV xs lo hi)))
theorem sl_tup:SlR X (rSlT X.K):=by
 intro pins s σ H x v vl vu lo hi sl Q I rx hs pl pu h;obtain ⟨a,xs,rfl,hx,hw,q⟩:=h;cases rx;obtain ⟨its,r,ht,hz⟩:=I.tuple hx;have hlen:its.toArray.size=xs.length:=by rw [size_toArray];exact r.length.symm
 refine ⟨"tuple",_,PyProof.Rows.slot_tuple_getitem.lookup,ht.typeIs,?_⟩;refine HT.getItem_tuple_cut ht hs pl pu (by rw [hlen];exact hw) ?_ (by rw [hlen];exact hz);rw [hlen];refine ⟨.ref s.heap.objs.size,_,I.laid (t':=s.toks) (o:=.tup (cutV xs lo hi)) (fun b ob q=>get?_push_of_some _ q) (Nat.le_refl _) ?_,rfl,q _ (I.hok.fresh (Nat.le_refl _))⟩;exact ⟨Nat.le_trans (J21 xs lo hi) hz,_,(r.drop (HT.sIx xs.length 0 lo)).take (HT.sIx xs.length xs.length hi - HT.sIx xs.length 0 lo),TupX.new _ _⟩
end
end L2
namespace L2
open PySem PySem.Spec PyProof.Rows
def ixN (n:Nat) (i:Int):Option Nat:=if 0<=i then (if i < n then some i.toNat else none) else if -(n:Int)<=i then some (i + n).toNat else none
def atI {α:Type} (xs:List α) (i:Int):Option α:=(ixN xs.length i).bind fun j=>xs[j]?
theorem ixN_seq {n:Nat} {i:Int} {j:Nat} (h:ixN n i=some j):seqIndex? i n=some j/\j < n/\-(n:Int)<=i/\i < n:=by
 unfold ixN at h;by_cases h0:0<=i
 ·rw [if_pos h0] at h;by_cases h1:i < n
  ·rw [if_pos h1] at h;have e:i.toNat=j:=Option.some.inj h;exact ⟨by rw [seqIndex_of h0 h1,e],by omega,by omega,h1⟩
  ·rw [if_neg h1] at h;cases h
 ·rw [if_neg h0] at h;by_cases h1:-(n:Int)<=i
  ·rw [if_pos h1] at h;have e:(i + n).toNat=j:=Option.some.inj h;exact ⟨by rw [seqIndex_neg (by omega) h1,e],by omega,h1,by omega⟩
  ·rw [if_neg h1] at h;cases h
theorem atI_get {α:Type} {xs:List α} {i:Int} {v:α} (h:atI xs i=some v):∃ j,seqIndex? i xs.length=some j/\xs[j]?=some v/\j < xs.length/\-(xs.length:Int)<=i/\i < xs.length:=by
 unfold atI at h
 cases e:ixN xs.length i with
 | none=>rw [e] at h;cases h
 | some j =>
  rw [e] at h;obtain ⟨h1,h2,h3,h4⟩:=ixN_seq e;exact ⟨j,h1,h,h2,h3,h4⟩
theorem Js {α:Type} {xs:List α} {j:Nat} {v:α} (h:xs[j]?=some v):atI xs (j:Int)=some v:=by
 have hj:j < xs.length:=(List.getElem?_eq_some_iff.mp h).1;have e:ixN xs.length (j:Int)=some j:=by
  unfold ixN;rw [if_pos (by omega),if_pos (by omega)];simp
 unfold atI;rw [e];exact h
def PlainIx (b:Expr):Prop:=∀ o i,subscripted b false o i=operate [o,i] (getItem o i)
def IxR (X:Cx) (r:R2):Prop :=
 ∀ (value slice:Expr) (pins:List (Addr × Obj)) (s:Shared) (σ:St) (H:Hp) (x y:V) (v u:Value) (Q:VK),Inv X pins σ H s->RelV x v->RelV y u->r x y H Q->
  subscripted slice false v u=operate [v,u] (getItem v u)->wpAny (model X.prog X.w) X.A (subscriptTail value slice v u) (EP X pins σ Q) X.xe s
def MtR (X:Cx) (id:String) (r:V->List V->Hp->VK->Prop):Prop :=
 ∀ (pins:List (Addr × Obj)) (s:Shared) (σ:St) (H:Hp) (x:V) (xs:List V) (v:Value) (us:List Value) (Q:VK),Inv X pins σ H s->RelV x v->Vals xs us->r x xs H Q->
  wpAny (model X.prog X.w) X.A (call (.builtin id) (v :: us)) (EP X pins σ Q) X.xe s
section
variable {X:Cx} {a b:Expr} {ta tb:TE} {pos:Pos}
theorem IxR.or {r r':R2} (h:IxR X r) (h':IxR X r'):IxR X (fun x y H Q=>r x y H Q\/r' x y H Q):=by
 intro value slice pins s σ H x y v u Q I rx ry q hs;rcases q with q | q
 ·exact h value slice pins s σ H x y v u Q I rx ry q hs
 ·exact h' value slice pins s σ H x y v u Q I rx ry q hs
theorem pe_ix {r:R2} (hr:IxR X r) (ha:PE X a ta) (hb:PE X b tb) (hs:PlainIx b):PE X (.Subscript a b pos) (tOp r ta tb):=by
 intro pins s σ H Q I h;exact Subscript_ (binT ha hb I h fun v u s2 x y H2 I2 rx ry q=>hr a b pins s2 σ H2 x y v u Q I2 rx ry q (hs _ _))
def rIxL (K:Frag):R2:=fun x y H Q=>∃ p xs i v,x=.ref p/\y=.int i/\SqL K H p xs/\atI xs i=some v/\Q v H
def rIxT (K:Frag):R2:=fun x y H Q=>∃ p xs i v,x=.ref p/\y=.int i/\SqT K H p xs/\atI xs i=some v/\Q v H
def rIxS:R2:=fun x y H Q=>∃ z i c,x=.str z/\y=.int i/\z.length<=sizeLine/\atI z.cps.toList i=some c/\Q (.str ⟨#[c]⟩) H
theorem ix_list:IxR X (rIxL X.K):=by
 intro value slice pins s σ H x y v u Q I rx ry h hs;obtain ⟨p,xs,i,z,rfl,rfl,hq,he,q⟩:=h;cases rx;obtain ⟨t,rfl⟩:=ry;obtain ⟨its,r,pl,hz⟩:=I.list hq;obtain ⟨j,h1,h2,h3,h4,h5⟩:=atI_get he;obtain ⟨w,ew,rw'⟩:=r.get h2;have hl:=r.length;have hn:=J3e;have fin:EP X pins σ Q w s:=⟨z,H,I,rw',q⟩;by_cases h0:0<=i
 ·have hj:i.toNat=j:=by
   rw [seqIndex_of h0 h5] at h1;exact Option.some.inj h1
  exact item_listR pl.isList h0 (by omega) (by rw [hj];simpa using ew) fin hs
 ·have hj:(i + (its.toArray.size:Int)).toNat=j:=by
   rw [seqIndex_neg (by omega) h4] at h1;rw [size_toArray,<- hl];exact Option.some.inj h1
  exact subscriptTail_builtinR (x:=w) pl.isList.typeIs slot_list_getitem.lookup
   (wpAny_getItem_list_neg (Q:=fun r s'=>r=w/\EP X pins σ Q r s') pl.isList (by omega) (by rw [size_toArray] <;> omega) (by omega) (by rw [hj];simpa using ew) ⟨rfl,fin⟩) hs
theorem ix_tup:IxR X (rIxT X.K):=by
 intro value slice pins s σ H x y v u Q I rx ry h hs;obtain ⟨p,xs,i,z,rfl,rfl,hq,he,q⟩:=h;cases rx;obtain ⟨t,rfl⟩:=ry;obtain ⟨its,r,pl,hz⟩:=I.tuple hq;obtain ⟨j,h1,h2,h3,h4,h5⟩:=atI_get he;obtain ⟨w,ew,rw'⟩:=r.get h2;have hl:=r.length;have hn:=J3e;have fin:EP X pins σ Q w s:=⟨z,H,I,rw',q⟩;exact subscriptTail_builtinR (x:=w) pl.typeIs slot_tuple_getitem.lookup
  (getItem_tuple (j:=j) (Q:=fun r s'=>r=w/\EP X pins σ Q r s') pl (by omega) (by omega) (by rw [size_toArray,<- hl];exact h1) (by simpa using ew) ⟨rfl,fin⟩) hs
theorem ix_str:IxR X rIxS:=by
 intro value slice pins s σ H x y v u Q I rx ry h hs;obtain ⟨z,i,c,rfl,rfl,hz,he,q⟩:=h;obtain ⟨t,rfl⟩:=rx;obtain ⟨t',rfl⟩:=ry;obtain ⟨j,h1,h2,h3,h4,h5⟩:=atI_get he;have hl:z.cps.toList.length=z.length:=by simp [Str.length]
 rw [hl] at h1 h4 h5;have hn:=J3e;exact tail_any (typeIs_str s z t) slot_str_getitem.lookup (getItem_str (c:=c) (by
  have e1:decide (i < -(2 ^ 63:Int))=false:=decide_eq_false (by omega);have e2:decide (i>=2 ^ 63)=false:=decide_eq_false (by omega);rw [e1,e2,Bool.or_false]) (by rw [h1];simpa using h2) ⟨.str ⟨#[c]⟩,H,I.tok _,⟨_,rfl⟩,q⟩) hs
def rIx (K:Frag):R2:=fun x y H Q=>rIxL K x y H Q\/rIxT K x y H Q\/rIxS x y H Q
theorem ix_seq:IxR X (rIx X.K):=ix_list.or (ix_tup.or ix_str)
theorem mapSeq_set (its:List Value) (n j:Nat) (u:Value):Obj.mapSeq (·.setIfInBounds j u) { cls:=.type "list",data:=.seq its.toArray n }={ cls:=.type "list",data:=.seq (its.set j u).toArray n }:=by
 simp [Obj.mapSeq]
theorem Inv.lst {pins:List (Addr × Obj)} {σ:St} {H:Hp} {s:Shared} {p:Addr} {xs:List V} (I:Inv X pins σ H s) (h:H p=some (.lst xs)) :
  ∃ (its:List Value) (n:Nat),Vals xs its/\s.heap.get? p=some { cls:=.type "list",data:=.seq its.toArray n }/\xs.length<=sizeLine:=by
 obtain ⟨z,its,n,r,e⟩:=I.hok p _ h;exact ⟨its,n,r,e,z⟩
theorem Inv.lstUpd {pins:List (Addr × Obj)} {σ:St} {H:Hp} {s:Shared} {p:Addr} {xs ys:List V} {its its':List Value} {n n':Nat} {f:Obj->Obj} (I:Inv X pins σ H s) (h:H p=some (.lst xs))
  (ho:s.heap.get? p=some { cls:=.type "list",data:=.seq its.toArray n }) (hf:f { cls:=.type "list",data:=.seq its.toArray n }={ cls:=.type "list",data:=.seq its'.toArray n' }) (r:Vals ys its') (hz:ys.length<=sizeLine) (t:Nat) :
  Inv X pins σ (upd H p (.lst ys)) { s with heap:=s.heap.update p f,toks:=t }:=by
 have e:(s.heap.update p f).get? p=some { cls:=.type "list",data:=.seq its'.toArray n' }:=by
  rw [get?_update_self f ho (by rw [hf] <;> rfl),hf]
 refine I.write (x:=p) (e:=p) (by rw [h];trivial) (.inl rfl) (fun b u hb q=>(get?_update_other _ _ (Ne.symm hb)).trans q) ⟨_,e⟩ ?_;exact ⟨hz,its',n',r,e⟩
def rSetL:V->V->V->Hp->(Hp->Prop)->Prop:=fun o i v H Q=>∃ p xs k j,o=.ref p/\i=.int k/\H p=some (.lst xs)/\ixN xs.length k=some j/\Q (upd H p (.lst (xs.set j v)))
theorem J34:PSet X rSetL:=by
 intro pins s σ H o i v ov iv u Q I ro ri rv h;obtain ⟨p,xs,k,j,rfl,rfl,hp,hj,q⟩:=h;cases ro;obtain ⟨t,rfl⟩:=ri;obtain ⟨its,n,r,ho,hz⟩:=I.lst hp;obtain ⟨h1,h2,h3,h4⟩:=ixN_seq hj;have hl:=r.length;have hn:=J3e;have I':Inv X pins σ (upd H p (.lst (xs.set j v))) { s with heap:=s.heap.update p (Obj.mapSeq (·.setIfInBounds j u)) } :=
  I.lstUpd hp ho (mapSeq_set its n j u) (r.set rv j) (by rw [List.length_set];exact hz) s.toks
 by_cases h0:0<=k
 ·have hk:k.toNat=j:=by
   rw [seqIndex_of h0 h4] at h1;exact Option.some.inj h1
  exact PySem.W.ki_setAt ho h0 (by omega) (by rw [size_toArray,<- hl];exact h4) (by rw [hk];exact ⟨_,I',q⟩)
 ·have hk:(k + (its.toArray.size:Int)).toNat=j:=by
   rw [seqIndex_neg (by omega) h3] at h1;rw [size_toArray,<- hl];exact Option.some.inj h1
  exact PySem.W.ki_setBack ho (by omega) (by rw [size_toArray,<- hl];exact h3) (by omega) (by rw [hk];exact ⟨_,I',q⟩)
theorem J33 (lo hi:Option Int) (n:Nat):(sliceBounds lo hi none n).1=((HT.sIx n 0 lo:Nat):Int)/\(sliceBounds lo hi none n).2.1=((HT.sIx n n hi:Nat):Int)/\(sliceBounds lo hi none n).2.2=1:=by
 refine ⟨?_,?_,rfl⟩
 ·cases lo with
  | none=>simp [sliceBounds,HT.sIx]
  | some i =>
   simp only [sliceBounds,HT.sIx,Option.getD_none,show (1:Int) > 0 by decide,if_true];by_cases h:i < 0
   ·simp only [h,if_true] <;> omega
   ·simp only [h,if_false] <;> omega
 ·cases hi with
  | none=>simp [sliceBounds,HT.sIx]
  | some i =>
   simp only [sliceBounds,HT.sIx,Option.getD_none,show (1:Int) > 0 by decide,if_true];by_cases h:i < 0
   ·simp only [h,if_true] <;> omega
   ·simp only [h,if_false] <;> omega
theorem J2m (its:List Value) (lo hi:Option Int):slicePick its.toArray lo hi none=((its.drop (HT.sIx its.length 0 lo)).take (HT.sIx its.length its.length hi - HT.sIx its.length 0 lo)).toArray:=by
 obtain ⟨h1,h2,h3⟩:=J33 lo hi its.toArray.size;unfold slicePick;rw [h1,h2,h3];simp only [sliceRange_one,pick_run,size_toArray] <;> rfl
def rSlL (K:Frag):V->Option Int->Option Int->Hp->VK->Prop:=fun x lo hi H Q=>∃ a xs,x=.ref a/\SqL K H a xs/\∀ p,H p=none->Q (.ref p) (upd H p (.lst (cutV xs lo hi)))
theorem sl_list:SlR X (rSlL X.K):=by
 intro pins s σ H x v vl vu lo hi sl Q I rx hs pl pu h;obtain ⟨a,xs,rfl,hx,q⟩:=h;cases rx;obtain ⟨its,r,ht,hz⟩:=I.list hx;have hlen:=r.length;refine ⟨"list",_,slot_list_getitem.lookup,ht.isList.typeIs,?_⟩;refine wpAny_getItem_list_slice ht.isList hs pl pu .none (by simp) ?_ (by rw [size_toArray] <;> omega);rw [J2m,<- hlen];refine ⟨.ref s.heap.objs.size,_,I.laid (t':=s.toks) (o:=.lst (cutV xs lo hi)) (fun b ob q=>get?_push_of_some _ q) (Nat.le_refl _) ?_,rfl,q _ (I.hok.fresh (Nat.le_refl _))⟩;exact ⟨Nat.le_trans (J21 xs lo hi) hz,_,0,(r.drop (HT.sIx xs.length 0 lo)).take (HT.sIx xs.length xs.length hi - HT.sIx xs.length 0 lo),get?_push_size _ rfl⟩
def flatV:V->Bool
 | .non=>true
 | .bl _=>true
 | .int _=>true
 | .str _=>true
 | _=>false
def eqV:V->V->Bool
 | .non,.non=>true
 | .bl a,.bl b=>a == b
 | .bl a,.int b=>(if a then 1 else 0) == b
 | .int a,.bl b=>a == (if b then 1 else 0)
 | .int a,.int b=>a == b
 | .str a,.str b=>a == b
 | _,_=>false
theorem eqAt_V {A:Around} {s:Shared} {y x:V} {u v:Value} (ry:RelV y u) (rx:RelV x v) (fy:flatV y=true) (fx:flatV x=true):SeqAt.EqAt A s u v (eqV y x):=by
 cases y with
 | non =>
  cases ry
  cases x with
  | non=>cases rx;exact SeqAt.EqAt.same _
  | bl b=>cases rx;exact SeqAt.EqAt.none_bool b
  | int b=>obtain ⟨t,rfl⟩:=rx;exact SeqAt.EqAt.none_int b t
  | str b=>obtain ⟨t,rfl⟩:=rx;exact SeqAt.EqAt.none_str b t
  | _=>exact absurd (show false=true from fx) Bool.false_ne_true
 | bl a =>
  cases ry
  cases x with
  | non=>cases rx;exact SeqAt.EqAt.bool_none a
  | bl b=>cases rx;exact SeqAt.EqAt.bool_bool a b
  | int b=>obtain ⟨t,rfl⟩:=rx;exact SeqAt.EqAt.bool_int a b t
  | str b=>obtain ⟨t,rfl⟩:=rx;exact SeqAt.EqAt.bool_str a b t
  | _=>exact absurd (show false=true from fx) Bool.false_ne_true
 | int a =>
  obtain ⟨t',rfl⟩:=ry
  cases x with
  | non=>cases rx;exact SeqAt.EqAt.int_none a t'
  | bl b=>cases rx;exact SeqAt.EqAt.int_bool a t' b
  | int b=>obtain ⟨t,rfl⟩:=rx;exact SeqAt.EqAt.int_int a t' b t
  | str b=>obtain ⟨t,rfl⟩:=rx;exact SeqAt.EqAt.int_str a t' b t
  | _=>exact absurd (show false=true from fx) Bool.false_ne_true
 | str a =>
  obtain ⟨t',rfl⟩:=ry
  cases x with
  | non=>cases rx;exact SeqAt.EqAt.str_none a t'
  | bl b=>cases rx;exact SeqAt.EqAt.str_bool a t' b
  | int b=>obtain ⟨t,rfl⟩:=rx;exact SeqAt.EqAt.str_int a t' b t
  | str b=>obtain ⟨t,rfl⟩:=rx;exact SeqAt.EqAt.str_str a t' b t
  | _=>exact absurd (show false=true from fx) Bool.false_ne_true
 | _=>exact absurd (show false=true from fy) Bool.false_ne_true
theorem J6:CallR X (.builtin "len") (fun xs H Q=>∃ p ys,xs=[.ref p]/\(SqL X.K H p ys\/SqT X.K H p ys)/\Q (.int ys.length) H):=by
 intro pins s σ H xs us Q I r h;obtain ⟨p,ys,rfl,hq,q⟩:=h;obtain ⟨u,rfl,rx⟩:=vals1 r;cases rx;have hn:=J3e;rcases hq with hq | hq
 ·obtain ⟨its,r',pl,hz⟩:=I.list hq;have hlen:=r'.length;exact Calls.call_len_list pl.isList (by simp only [size_toArray] <;> omega) ⟨.int ys.length,H,I.tok _,⟨s.toks + 1,by rw [size_toArray,hlen]⟩,q⟩
 ·obtain ⟨its,r',pl,hz⟩:=I.tuple hq;have hlen:=r'.length;exact len_tuple pl (by simp only [size_toArray] <;> omega) ⟨.int ys.length,H,I.tok _,⟨s.toks + 1,by rw [size_toArray,hlen]⟩,q⟩
theorem J19:CallR X (.type "list") (fun xs H Q=>∃ p ys,xs=[.ref p]/\(SqL X.K H p ys\/SqT X.K H p ys)/\∀ l,H l=none->Q (.ref l) (upd H l (.lst ys))):=by
 intro pins s σ H xs us Q I r h;obtain ⟨p,ys,rfl,hq,q⟩:=h;obtain ⟨u,rfl,rx⟩:=vals1 r;cases rx;have fin:∀ (its:List Value),Vals ys its->ys.length<=sizeLine->∀ (h':Heap) (c':Nat),(∀ b o',s.heap.get? b=some o'->h'.get? b=some o')->
   h'.get? s.heap.objs.size=some { cls:=.type "list",dict:=none,data:=.seq its.toArray c',slots:=#[] }->EP X pins σ Q (.ref s.heap.objs.size) { s with heap:=h' }:=fun its r' hz h' c' kp e =>
  ⟨.ref s.heap.objs.size,_,I.laid (t':=s.toks) kp (Nat.le_refl _) (show ObjOk X.prog X.w _ h' _ (.lst ys) from ⟨hz,its,c',r',e⟩),rfl,q _ (I.hok.fresh (Nat.le_refl _))⟩
 rcases hq with hq | hq
 ·obtain ⟨its,r',pl,hz⟩:=I.list hq;have hlen:=r'.length;obtain ⟨o,ho,hc,n,hd⟩:=pl.isList;exact call_list_seq p (.inl rfl) ho hc hd (fun h' c' kp e=>fin its r' hz h' c' kp e) (by simp only [size_toArray] <;> omega)
 ·obtain ⟨its,r',pl,hz⟩:=I.tuple hq;have hlen:=r'.length;obtain ⟨o,ho,hc,n,hd⟩:=pl;exact call_list_seq p (.inr rfl) ho hc hd (fun h' c' kp e=>fin its r' hz h' c' kp e) (by simp only [size_toArray] <;> omega)
theorem J2x:CallR X (.type "tuple") (fun xs H Q=>∃ p ys,xs=[.ref p]/\((SqL X.K H p ys/\∀ l,H l=none->Q (.ref l) (upd H l (.tup ys)))\/(SqT X.K H p ys/\Q (.ref p) H))):=by
 intro pins s σ H xs us Q I r h;obtain ⟨p,ys,rfl,h⟩:=h;obtain ⟨u,rfl,rx⟩:=vals1 r;cases rx;rcases h with ⟨hq,q⟩ | ⟨hq,q⟩
 ·obtain ⟨its,r',pl,hz⟩:=I.list hq;have hlen:=r'.length;refine call_tuple_list pl.isList (fun h' kp=>?_) (by simp only [size_toArray] <;> omega);have I1:Inv X pins σ H { s with heap:=h' }:=I.kept (t':=s.toks) kp;have I2:Inv X pins σ (upd H h'.objs.size (.tup ys)) { s with heap:=h'.push { cls:=.type "tuple",data:=.seq its.toArray } } :=
   I1.laid (t':=s.toks) (fun b o e=>get?_push_of_some _ e) (Nat.le_refl _) (show ObjOk X.prog X.w _ _ _ (.tup ys) from ⟨hz,its,r',TupX.new _ _⟩)
  exact ⟨.ref h'.objs.size,_,I2,rfl,q _ (I1.hok.fresh (Nat.le_refl _))⟩
 ·obtain ⟨its,r',pl,hz⟩:=I.tuple hq;exact call_tuple_same pl ⟨.ref p,H,I,rfl,q⟩
def tyV (K:Frag) (T:String) (x:V) (H:Hp):Prop:=match x with
 | .str _=>T="str"
 | .int _=>T="int"
 | .ref p=>(T="list"/\∃ xs,SqL K H p xs)\/(T="tuple"/\∃ o,K.lookup p=some o/\o.cls=.type "tuple"/\o.dict=none)\/
   (T="dict"/\((∃ kvs,H p=some (.dK kvs))\/∃ kvs,H p=some (.dT kvs)))\/(T="set"/\∃ S n,H p=some (.set S n))
 | _=>False
theorem tyV_is {pins:List (Addr × Obj)} {σ:St} {H:Hp} {s:Shared} {T:String} {x:V} {v:Value} (I:Inv X pins σ H s) (r:RelV x v) (ty:tyV X.K T x H) :
  s.TypeIs v T/\∀ a,v=.ref a->∃ ob,s.heap.get? a=some ob/\ob.dict=none:=by
 cases x with
 | str z =>
  obtain ⟨t,rfl⟩:=r;cases (show T="str" from ty);exact ⟨typeIs_str s z t,fun _ e=>nomatch e⟩
 | int i =>
  obtain ⟨t,rfl⟩:=r;cases (show T="int" from ty);exact ⟨typeIs_int s i t,fun _ e=>nomatch e⟩
 | ref p =>
  cases r;rcases ty with ⟨rfl,xs,hq⟩ | ⟨rfl,o,hk,hc,hd⟩ | ⟨rfl,hk⟩ | ⟨rfl,S,n,hk⟩
  ·obtain ⟨its,_,pl,_⟩:=I.list hq;refine ⟨pl.isList.typeIs,fun a e=>?_⟩;cases e;obtain ⟨o,n,e,c,hd,_⟩:=pl;exact ⟨o,e,hd⟩
  ·refine ⟨⟨o,I.kIn p o hk,hc⟩,fun a e=>?_⟩;cases e;exact ⟨o,I.kIn _ o hk,hd⟩
  ·have z:∃ o,s.heap.get? p=some o/\o.ExactDict:=by
    rcases hk with ⟨kvs,hk⟩ | ⟨kvs,hk⟩
    ·obtain ⟨_,_,_,_,o,_,_,e,ex,_⟩:=I.hok p _ hk;exact ⟨o,e,ex⟩
    ·obtain ⟨_,_,_,_,o,_,_,e,ex,_⟩:=I.hok p _ hk;exact ⟨o,e,ex⟩
   obtain ⟨o,e,ex⟩:=z;refine ⟨⟨o,e,ex.1⟩,fun a e2=>?_⟩;cases e2;exact ⟨o,e,ex.2.1⟩
  ·obtain ⟨o,_,_,_,e,ex,_⟩:=I.hok p _ hk;refine ⟨⟨o,e,ex.1⟩,fun a e2=>?_⟩;cases e2;exact ⟨o,e,ex.2.1⟩
 | _=>exact False.elim ty
def tBM0 (K:Frag) (T:String) (r:V->List V->Hp->VK->Prop) (to:TE):TE:=fun σ H Q=>to σ H fun x H1=>tyV K T x H1/\r x [] H1 Q
def tBM (K:Frag) (T:String) (r:V->List V->Hp->VK->Prop) (to:TE) (t:TA):TE:=fun σ H Q=>to σ H fun x H1=>tyV K T x H1/\t σ H1 fun xs H2=>r x xs H2 Q
variable {o e:Expr} {es:List Expr} {to:TE} {t:TA} {name:Str} {apos cpos:Pos} {T id:String} {r:V->List V->Hp->VK->Prop}
theorem pe_bm0 (pa:PlainAttrs T) (slot:Slot T name id) (hty:typeOf (.builtin id)=pure (.type "method_descriptor")) (hm:MtR X id r) (ho:PE X o to)
  (hbase:attributeBase o name X.env (eval o X.env)=eval o X.env:=by rfl) (hline:(apos.endLine == cpos.line)=true:=by rfl):PE X (.Call (.Attribute o name apos) [] [] cpos) (tBM0 X.K T r to):=by
 intro pins s σ H Q I h;refine wpAny_Call_method0_late hbase hline (thn (ho pins s σ H _ I h) fun v s1 h9=>?_);obtain ⟨x,H1,I1,r1,ty,q1⟩:=h9;obtain ⟨h1,h2⟩:=tyV_is I1 r1 ty;exact ⟨T,id,pa,slot,hty,h1,h2,Calls.callWith_builtin rfl (PySem.evalArgs_none (hm pins s1 σ H1 x [] v [] Q I1 r1 .nil q1))⟩
theorem pe_bm (pa:PlainAttrs T) (slot:Slot T name id) (hty:typeOf (.builtin id)=pure (.type "method_descriptor")) (hm:MtR X id r) (ho:PE X o to) (ha:PA X (e :: es) t)
  (hbase:attributeBase o name X.env (eval o X.env)=eval o X.env:=by rfl)
  (hfew:((backTo cpos (starEach (e :: es) X.env)).all (fun x=>!x.1) && (backToKw cpos (keywordEach [] X.env)).all (fun x=>x.1.isSome)
   && decide ((e :: es).length + ([]:List Keyword).length + (if ([]:List Keyword).isEmpty then 0 else 1) < 30))=true:=by rfl)
  (hline:(apos.endLine == cpos.line)=true:=by rfl) (hs:starEach (e :: es) X.env=(false,eval e X.env) :: starEach es X.env:=by rfl) (hplain:(backTo cpos (starEach es X.env)).any (·.1)=false:=by rfl) :
  PE X (.Call (.Attribute o name apos) (e :: es) [] cpos) (tBM X.K T r to t):=by
 intro pins s σ H Q I h;refine wpAny_Call_method_late hbase hfew hline rfl (thn (ho pins s σ H _ I h) fun v s1 h9=>?_);obtain ⟨x,H1,I1,r1,ty,q1⟩:=h9;obtain ⟨h1,h2⟩:=tyV_is I1 r1 ty;refine ⟨T,id,pa,slot,hty,h1,h2,?_⟩;have hA:=ha cpos pins s1 σ H1 _ I1 q1;rw [hs] at hA ⊢;refine Calls.callWith_builtin (by show (false || (backTo cpos (starEach es X.env)).any (·.1))=false;rw [hplain] <;> rfl) (Calls.evalArgs_plain ?_);exact thn hA fun us s2 h9=>by obtain ⟨vs,H2,I2,r2,q2⟩:=h9;exact hm pins s2 σ H2 x vs v us Q I2 r1 r2 q2
end
end L2
namespace L2
open PySem PySem.Spec PyProof.Rows
def MtM (X:Cx) (id:String) (r:V->List V->Hp->VK->Prop):Prop :=
 ∀ (pins:List (Addr × Obj)) (s:Shared) (σ:St) (H:Hp) (x:V) (xs:List V) (v:Value) (us:List Value) (Q:VK),Inv X pins σ H s->RelV x v->Vals xs us->r x xs H Q->
  wpAny (model X.prog X.w) X.A (call (.builtin id) (v :: us)) (EP X pins σ Q) X.xe s
theorem Vals.one:∀ {x:V} {us:List Value},Vals [x] us->∃ u,us=[u]/\RelV x u:=fun r=>vals1 r
theorem Vals.two:∀ {x y:V} {us:List Value},Vals [x,y] us->∃ u v,us=[u,v]/\RelV x u/\RelV y v:=fun r=>vals2 r
theorem Vals.zero:∀ {us:List Value},Vals [] us->us=[]
 | _,.nil=>rfl
theorem Vals.dropLast {xs:List V} {us:List Value} (h:Vals xs us):Vals xs.dropLast us.dropLast:=by
 induction h with
 | nil=>exact .nil
 | cons r t ih =>
  cases t with
  | nil=>exact .nil
  | cons q t'=>exact .cons r ih
theorem Vals.rep {xs:List V} {us:List Value} (h:Vals xs us):∀ k:Nat,Vals (List.replicate k xs).flatten (List.replicate k us).flatten
 | 0=>.nil
 | k + 1=>by
  rw [replicate_succ,replicate_succ,flatten_cons,flatten_cons];exact Vals.append h (Vals.rep h k)
theorem erase_last {α:Type} (l:List α):l.eraseIdx (l.length - 1)=l.dropLast:=by
 induction l with
 | nil=>rfl
 | cons a r ih =>
  cases r with
  | nil=>rfl
  | cons b r =>
   have e:(a :: b :: r).length - 1=((b :: r).length - 1) + 1:=by
    have h1:(a :: b :: r).length=r.length + 2:=rfl;have h2:(b :: r).length=r.length + 1:=rfl;omega
   rw [e,List.eraseIdx_cons_succ,ih]
   all_goals rfl
theorem foldl_rep (its:List Value):∀ (k:Nat) (acc:List Value),
  foldl (fun x1 x2=>x1 ++ x2) acc.toArray (List.replicate k its.toArray)=(acc ++ (List.replicate k its).flatten).toArray
 | 0,acc=>by simp
 | k + 1,acc=>by
  have e:acc.toArray ++ its.toArray=(acc ++ its).toArray:=by simp
  have e2:(acc ++ its) ++ (List.replicate k its).flatten=acc ++ (List.replicate (k + 1) its).flatten:=by
   rw [replicate_succ,flatten_cons,List.append_assoc]
  rw [<- e2,<- foldl_rep its k (acc ++ its),<- e,replicate_succ,List.foldl_cons]
section
variable {X:Cx} {pins:List (Addr × Obj)} {σ:St} {H:Hp} {s:Shared} {l b:Addr} {xs ys zs:List V}
theorem Inv.lset {its its':List Value} {n:Nat} {f:Array Value->Array Value} {t':Nat} (I:Inv X pins σ H s) (hH:H l=some (.lst xs))
  (e:s.heap.get? l=some { cls:=.type "list",data:=.seq its.toArray n }) (hf:f its.toArray=its'.toArray) (hv:Vals ys its') (hz:ys.length<=sizeLine) :
  Inv X pins σ (upd H l (.lst ys)) { s with heap:=s.heap.update l (Obj.mapSeq f),toks:=t' }:=by
 have q:=PySem.IsL.update e f;rw [hf] at q;refine I.write (x:=l) (e:=l) (by rw [hH];exact trivial) (.inl rfl) (fun b' u hb hu=>(get?_update_other s.heap (Obj.mapSeq f) (Ne.symm hb)).trans hu) ⟨_,q⟩ ?_;exact ⟨hz,its',_,hv,q⟩
theorem Inv.lnew {its:List Value} {t':Nat} (I:Inv X pins σ H s) (hv:Vals ys its) (hz:ys.length<=sizeLine) :
  Inv X pins σ (upd H s.heap.objs.size (.lst ys)) { s with heap:=s.heap.push { cls:=.type "list",data:=.seq its.toArray },toks:=t' } :=
 I.laid (fun _ _ q=>get?_push_of_some _ q) (Nat.le_refl _) ⟨hz,its,0,hv,get?_push_size _ rfl⟩
theorem Inv.fresh (I:Inv X pins σ H s):H s.heap.objs.size=none:=I.hok.fresh (Nat.le_refl _)
theorem Inv.lstM (I:Inv X pins σ H s) (hH:H l=some (.lst xs)):xs.length<=sizeLine/\∃ (its:List Value) (n:Nat),Vals xs its/\xs.length=its.length/\s.heap.get? l=some { cls:=.type "list",data:=.seq its.toArray n }:=by
 obtain ⟨z,its,n,r,e⟩:=I.hok l _ hH;exact ⟨z,its,n,r,r.length,e⟩
theorem notLongL {n:Nat} (h:n<=sizeLine):Builtin.List.listTooLong n=false:=by
 unfold Builtin.List.listTooLong;exact decide_eq_false (by omega)
end
section
variable {X:Cx}
def rAppend:V->List V->Hp->VK->Prop:=fun x vs H Q=>∃ l xs y,x=.ref l/\vs=[y]/\H l=some (.lst xs)/\xs.length < sizeLine/\Q .non (upd H l (.lst (xs ++ [y])))
theorem J12:MtM X "list.append" rAppend:=by
 intro pins s σ H x vs v us Q I rx rv h;obtain ⟨l,xs,y,rfl,rfl,hH,hz,q⟩:=h;cases rx;obtain ⟨u,rfl,ru⟩:=rv.one;obtain ⟨z,its,n,r,hl,e⟩:=I.lstM hH;refine call_meets F.slot_list_append ⟨_,e,rfl⟩ F.entry_list_append (F.args_list_append_2 _ _) (PySem.list_append l its.toArray n u (by rw [size_toArray];omega)) ⟨e,?_⟩;refine ⟨.non,_,I.lset (its':=its ++ [u]) hH e (by simp) (r.append (.cons ru .nil)) ?_,rfl,q⟩;rw [length_append,List.length_singleton];omega
def rPop:V->List V->Hp->VK->Prop:=fun x vs H Q=>∃ l xs y,x=.ref l/\vs=[]/\H l=some (.lst xs)/\xs[xs.length - 1]?=some y/\Q y (upd H l (.lst xs.dropLast))
theorem mt_pop:MtM X "list.pop" rPop:=by
 intro pins s σ H x vs v us Q I rx rv h;obtain ⟨l,xs,y,rfl,rfl,hH,hy,q⟩:=h;cases rx;have hus:=rv.zero;subst hus;obtain ⟨z,its,n,r,hl,e⟩:=I.lstM hH;obtain ⟨u,hu,ru⟩:=r.get hy;have hy':its.toArray[its.toArray.size - 1]?=some u:=by
  show its.toArray[its.length - 1]?=some u;rw [<- getElem?_toList,<- hl];exact hu
 refine call_meets F.slot_list_pop ⟨_,e,rfl⟩ F.entry_list_pop (F.args_list_pop_1 _) (MeetsSeq.list_pop_last l its.toArray n u hy' (by rw [size_toArray];omega)) ⟨e,?_⟩;refine ⟨y,_,I.lset (its':=its.dropLast) hH e ?_ r.dropLast ?_,ru,q⟩
 ·show its.toArray.eraseIdxIfInBounds (its.toArray.size - 1)=its.dropLast.toArray;rw [size_toArray,List.eraseIdxIfInBounds_toArray,erase_last]
 ·rw [length_dropLast];omega
def rCat:R2:=fun x y H Q=>∃ l b xs zs,x=.ref l/\y=.ref b/\H l=some (.lst xs)/\H b=some (.lst zs)/\xs.length + zs.length<=sizeLine/\∀ p,H p=none->Q (.ref p) (upd H p (.lst (xs ++ zs)))
theorem op_cat:OpR X (binaryOp .Add) rCat:=by
 intro pins s σ H x y v u Q I rx ry h;obtain ⟨l,b,xs,zs,rfl,rfl,hH,hB,hz,q⟩:=h;cases rx;cases ry;obtain ⟨z,its,n,r,hl,e⟩:=I.lstM hH;obtain ⟨z2,its2,n2,r2,hl2,e2⟩:=I.lstM hB;refine PySem.P.add_list e e2 ?_ (by rw [size_toArray,size_toArray];omega);have ea:its.toArray ++ its2.toArray=(its ++ its2).toArray:=by simp
 rw [ea];exact ⟨.ref _,_,I.lnew (t':=s.toks) (r.append r2) (by rw [length_append];omega),rfl,q _ I.fresh⟩
def rRep:R2:=fun x y H Q=>∃ l k xs,x=.ref l/\y=.int k/\H l=some (.lst xs)/\-(2 ^ 63)<=k/\k < 2 ^ 63/\xs.length * k.toNat<=sizeLine/\
 ∀ p,H p=none->Q (.ref p) (upd H p (.lst (List.replicate k.toNat xs).flatten))
theorem len_rep {α:Type} (xs:List α) (k:Nat):(List.replicate k xs).flatten.length=k * xs.length:=by
 induction k with
 | zero=>simp
 | succ k ih=>rw [replicate_succ,flatten_cons,length_append,ih,Nat.succ_mul,Nat.add_comm]
theorem op_rep:OpR X (binaryOp .Mult) rRep:=by
 intro pins s σ H x y v u Q I rx ry h;obtain ⟨l,k,xs,rfl,rfl,hH,h1,h2,hz,q⟩:=h;cases rx;obtain ⟨t,rfl⟩:=ry;obtain ⟨z,its,n,r,hl,e⟩:=I.lstM hH;have hlen:its.toArray.size * k.toNat<=sizeLine:=by rw [size_toArray,<- hl];exact hz
 have hcap:¬ its.toArray.size * k.toNat > (2 ^ 63 - 1) / 8:=by
  have:(sizeLine:Nat)<=(2 ^ 63 - 1) / 8:=by decide
  omega
 have hfit:¬ (!Builtin.List.listFitsIndex k)=true:=by
  rw [fitsIndex_both h1 h2];exact Bool.false_ne_true
 have hlong:¬ Builtin.List.listTooLong (its.toArray.size * k.toNat)=true:=by
  rw [notLongL hlen];exact Bool.false_ne_true
 have hnew:foldl (fun x1 x2=>x1 ++ x2) #[] (List.replicate (if its.toArray.isEmpty=true then 0 else k.toNat) its.toArray)=(List.replicate k.toNat its).flatten.toArray:=by
  have f0:∀ m:Nat,foldl (fun x1 x2=>x1 ++ x2) #[] (List.replicate m its.toArray)=(List.replicate m its).flatten.toArray:=fun m=>by
   have:=foldl_rep its m [];rw [List.nil_append] at this;exact this
  rw [f0]
  cases its with
  | nil=>simp
  | cons a r'=>rw [if_neg (by simp)]
 refine wpAny_binaryOp_repeat_ref (T:="list") (U:="int") (by decide) ⟨_,e,rfl⟩ (fun s'=>typeIs_int s' k t) noFill_list_mul F.fills_int_mul F.slot_int_rmul repeat_list F.slot_int_index.lookup
  (call_meets F.slot_int_rmul (typeIs_int s k t) F.entry_int_rmul (F.args_int_rmul_2 _ _) (int___rmul___int_list k t l its.toArray n)
   ⟨e,rfl,⟨_,e,rfl⟩,call_meets F.slot_list_mul ⟨_,e,rfl⟩ F.entry_list_mul (F.args_list_mul_2 _ _) (AutoListH.list___mul___list_int_3 l its.toArray n k t hfit hcap hlong) ⟨e,?_⟩⟩)
 rw [hnew];exact ⟨.ref _,_,I.lnew (t':=s.toks) (r.rep k.toNat) (by rw [len_rep,Nat.mul_comm];exact hz),rfl,q _ I.fresh⟩
end
section
variable {prog:Program} {w:World} {A:Around} {E:Value->Shared->Prop} {s:Shared}
set_option maxRecDepth 100000 in
end
end L2
namespace Att
open PySem PySem.W PySem.Calls PyProof.Rows
theorem J1x {P:Params} {h:Heap}:∀ (ns:List Int) (vs:List Value),WellAll P h vs (ns.map WData.int)->IntsAre vs ns:=by
 intro ns
 induction ns with
 | nil =>
  intro vs w;rw [map_nil] at w;cases w;exact .nil
 | cons n ns ih =>
  intro vs w;rw [map_cons] at w
  cases w with
  | cons a b =>
   cases a;exact .cons _ _ (ih _ b)
theorem script_of {l:OpenLaw} {n:Nat} (hn:l.most=some n) {P:Params} {h:Heap} {args:List WData} {vals:List Value}
  (hpre:l.row.toRowW.claim.pre args=true) (hwl:WellAll P h vals args) :
  ∃ a vs ns,vals=[Value.ref a]/\args=[WData.list (ns.map WData.int)]/\h.get? a=some { cls:=.type "list",data:=.seq vs.toArray }/\IntsAre vs ns/\ns.length<=n:=by
 have hsh:WShape.hasAll [] args [.list .int]=true:=(pre_splitW hpre).1;have hc:l.pre.holds [] { args:=args }=true:=(pre_splitW hpre).2;obtain ⟨d,r,rfl,h1,h2⟩:=hasAllW_cons hsh;obtain rfl:=hasAllW_nil h2;obtain ⟨xs,rfl,h3⟩:=hasW_list h1;obtain ⟨ns,rfl⟩:=items_int h3;have hlen:ns.length<=n:=by
  unfold OpenLaw.pre at hc;have h4:(WTm.not (.lt (.lit (.int (n:Int))) (.len (.arg 0)))).holds [] { args:=[.list (ns.map .int)] }=true:=by
   have h4:=(holds_andW hc).1;rw [hn] at h4;exact h4
  have h5:=condW_of h4 (w_not (w_lt w_lit (w_len_list (w_arg rfl))));rw [length_map] at h5;refine Nat.le_of_not_lt fun q=>?_;have q':(n:Int) < ((ns.length:Nat):Int):=by omega
  first
   | (rw [decide_eq_true q'] at h5;exact absurd h5 (by decide))
   | (simp at h5;omega)
 cases hwl with
 | cons w1 w2 =>
  cases w2
  cases w1 with
  | list ho hall=>exact ⟨_,_,ns,rfl,rfl,ho,J1x ns _ hall,hlen⟩
theorem post_true (l:OpenLaw) (args:List WData):l.row.toRowW.claim.post args (.bool true) args=true :=
 postW_of (r:=l.row.toRowW) (X:=(true == true))
  (show WShape.has [] (.bool true) .bool=true by first | rfl | decide | simp [WShape.has,WShape.arms,WShape.armsAll])
  (show (WTm.eq .res (.lit (.bool true))).value [] { args:=args,res:=some (.bool true),after:=args }=some (.bool (true == true)) from w_eq_bool (w_res rfl) w_lit) rfl
theorem attach_call {l:OpenLaw} {n:Nat} {q:Program} {loose:List Str} {XP:(Str->Option Value)->Heap->Prop} {YP:World->Heap->Prop} {d:DefRec}
  (hn:l.most=some n) (hdf:d.params.defaults=[])
  (call:∀ (w:World) (s₀ s₁:Shared) (mg mb:Str->Option Value) (fa:Addr) (o:Obj) (pm cd doc:Value) (a:Addr) (vs:List Value) (ns:List Int),
   Ground q loose [] XP w s₀ mg mb s₁.heap->YP w s₁.heap->
   s₁.heap.get? fa=some o->o.data=.func (docDef d.name d.params d.body d.scope pm cd doc)->s₁.heap.CodeRec cd d.name->mg d.name=some (.ref fa)->
   s₁.heap.get? a=some { cls:=.type "list",data:=.seq vs.toArray }->IntsAre vs ns->ns.length<=n->s₁.gens=#[]->
   codeAny (model l.prog w) callerA (.call (.ref fa) ⟨[.ref a],[]⟩) (fun r s'=>r=.ok (.ret (.bool true))/\OldK s₁.heap s'.heap/\s'.os=s₁.os/\AllBare s'.gens) s₁) :
  WalkO q loose XP YP l.row.toRowW d [] (fun f vs=>PySem.call f vs):=by
 intro w s₀ s₁ mg mb G Y fa o pm cd doc dV kV ho hd hcd hD hmg hg args vals as hpre hlay hrd hwl hlo;obtain rfl:dV=.none:=Dflts.none hD hdf;obtain rfl:kV=.none:=Dflts.noKw hD;obtain ⟨a,vs,ns,rfl,rfl,hobj,hints,hlen⟩:=script_of hn hpre hwl;refine enter_call (codeAny_mono (call w s₀ s₁ mg mb fa o pm cd doc a vs ns G Y ho (fd_plain hd) hcd hmg hobj hints hlen hg) fun r s' hq=>?_);obtain ⟨rfl,h2,h3,h4⟩:=hq;exact ⟨.inl ⟨.bool true,.bool true,[],rfl,fun _=>rfl,.bool true,post_true l _,fun _=>⟨List.Pairwise.nil,fun _ hm=>(nomatch hm)⟩⟩,h2,h3,h4⟩
end Att
namespace L2
open PySem PySem.Spec PyProof.Rows
theorem J1h:∀ {vs:List Value} {ns:List Int},IntsAre vs ns->Vals (ns.map V.int) vs
 | _,_,.nil=>.nil
 | _,_,.cons n t h=>.cons ⟨t,rfl⟩ (J1h h)
def Only (H:Hp):Prop:=∀ b,H b=none\/∃ o xs,H b=some (.frz o (.lst xs))
theorem law_call {P:Program} {w:World} {K:Frag} {mg mb:Str->Option Value} {CX:CXT} {k:Nat} {fa a:Addr} {fd:FuncData} {x:Str} {sp:Sp} {s₁:Shared} {vs:List Value} {ns:List Int}
  (KX:K.In s₁.heap) (hns:s₁.heap.Ns mainGlobals mg) (hb:s₁.heap.Ns builtinsNs mb) (hbb:∀ x:Str,x≠"__name__"->mb x=bootBuiltins x) (hlim:s₁.heap.NoLimit) (hg:s₁.gens=#[])
  (ha:s₁.heap.get? a=some { cls:=.type "list",data:=.seq vs.toArray }) (hi:IntsAre vs ns) (hl:ns.length<=sizeLine) (hr:Room k callerA)
  (F:∀ base:Heap,K.In base->base.Ns mainGlobals mg->FnOk P w K mg base CX k fa fd [x] sp) (hbind:∀ (s:Shared) (u:Value),BindsTo s fd ⟨[u],[]⟩ [(x,u)])
  (hsp:∀ H:Hp,Only H->SqL K H a (ns.map V.int)->sp [.ref a] H (fun v _=>v=.bl true) fun _ _ _=>False)
  (hCX:∀ H e s',CX [] H s₁ (fun _ _ _=>False) e s'->False) :
  codeAny (model P w) callerA (.call (.ref fa) ⟨[.ref a],[]⟩) (fun r s'=>r=.ok (.ret (.bool true))/\OldK s₁.heap s'.heap/\s'.os=s₁.os/\AllBare s'.gens) s₁:=by
 have rv:=J1h hi;have lenV:=hi.length;have core:∀ H:Hp,Only H->SqL K H a (ns.map V.int)->HOk P w H s₁.heap->(∀ b,H b≠none->b=a)->(H a≠none->K.lookup a=none)->
   codeAny (model P w) callerA (.call (.ref fa) ⟨[.ref a],[]⟩) (fun r s'=>r=.ok (.ret (.bool true))/\OldK s₁.heap s'.heap/\s'.os=s₁.os/\AllBare s'.gens) s₁:=by
  intro H hO hS hok hA hK;have base_of:∀ {b:Addr} {o:Obj},s₁.heap.get? b=some o->H b=none->(hidT s₁.heap H).get? b=some o:=fun e n=>hidT_get e n;have noA:∀ {b:Addr} {o:Obj} {es:Array DictEntry} {ep:Nat},s₁.heap.get? b=some o->o.data=.dict es ep->H b=none:=fun {b o es ep} e d=>by
   cases q:H b with
   | none=>rfl
   | some u =>
    have e':b=a:=hA b (by rw [q];simp);subst e';rw [ha] at e;cases e;have d':Data.seq vs.toArray _=Data.dict es ep:=d;cases d'
  have nsK:∀ {b:Addr} {m:Str->Option Value},s₁.heap.Ns b m->(hidT s₁.heap H).Ns b m:=fun {b m} h9=>by obtain ⟨o,es,ep,e,d,r⟩:=h9;exact ⟨o,es,ep,base_of e (noA e d),d,r⟩
  have hKb:K.In (hidT s₁.heap H):=fun b o e=>base_of (KX b o e) (by
   cases q:H b with
   | none=>rfl
   | some u =>
    have e':b=a:=hA b (by rw [q];simp);subst e';rw [hK (by rw [q];simp)] at e;cases e)
  have hM:Mod K mg (hidT s₁.heap H):=⟨hKb,nsK hns,⟨mb,nsK hb,hbb⟩,by obtain ⟨mc,h1,h2⟩:=hlim;exact ⟨mc,nsK h1,h2⟩⟩;have e0:Env0 P w K mg (hidT s₁.heap H) callerA [] s₁ H:=⟨rfl,hM,fun b o e=>of_hidT e,Nat.le_of_eq (hidT_size _ _),trivial,fun b hb=>absurd (show b∈([]:List Addr) from hb) (by simp),hok,.of_eq hg⟩;refine codeAny_mono ((F _ hKb (nsK hns)).run callerA [] s₁ H ⟨[.ref a],[]⟩ [.ref a] [.ref a] _ _ hr e0 (hbind s₁ (.ref a)) (.cons rfl .nil) (hsp H hO hS)) fun r s' h=>?_
  cases r with
  | error e=>exact (hCX H e s' h).elim
  | ok fl =>
   cases fl with
   | next=>exact False.elim h
   | brk=>exact False.elim h
   | cont=>exact False.elim h
   | ret u =>
    obtain ⟨v,H',os,bare,un,hok',r',q⟩:=h;have q':v=.bl true:=q;subst q';obtain rfl:u=Value.bool true:=r';refine ⟨rfl,OldK.of_keep fun b o e=>?_,os,bare⟩
    cases q:H b with
    | none=>exact un.keep b o e q (by intro z;exact absurd (show b∈([]:List Addr) from z) (by simp)) (by simp)
    | some u =>
     rcases hO b with z | ⟨ob,xs,z⟩
     ·rw [q] at z;cases z
     ·have z2:=un.frzs b ob _ z;obtain ⟨e1,_⟩:=hok b _ z;obtain ⟨e2,_⟩:=hok' b _ z2;rw [e] at e1;cases e1;exact e2
 cases hk:K.lookup a with
 | some o =>
  have e:=KX a o hk;rw [ha] at e;cases e;refine core (fun _=>none) (fun _=>.inl rfl) (.inr ⟨_,vs.toArray,_,hk,rfl,rfl,rfl,by rw [size_toArray,lenV];exact hl,by simpa using rv⟩) (fun b u z=>by have z':(none:Option HO)=some u:=z;cases z') (fun b z=>absurd rfl z) fun z=>absurd rfl z
 | none =>
  refine core (fun b=>if b=a then some (.frz { cls:=.type "list",data:=.seq vs.toArray } (.lst (ns.map V.int))) else none) (fun b=>?_) (.inl (.inr ⟨{ cls:=.type "list",data:=.seq vs.toArray },if_pos rfl⟩)) (fun b u z=>?_) (fun b z=>?_) fun _=>hk
  ·by_cases hb:b=a
   ·exact .inr ⟨_,_,if_pos hb⟩
   ·exact .inl (if_neg hb)
  ·by_cases hb:b=a
   ·have z':=(if_pos hb).symm.trans z;cases z';subst hb;exact ⟨ha,by rw [length_map];exact hl,vs,_,rv,ha⟩
   ·have z':=(if_neg hb).symm.trans z;cases z'
  ·by_cases hb:b=a
   ·exact hb
   ·exact absurd (if_neg hb) z
end L2
namespace L2
open PySem PySem.Spec PyProof.Rows
theorem walk_of {l:PySem.W.OpenLaw} {n k:Nat} {q:Program} {loose:List Str} {XP:(Str->Option Value)->Heap->Prop} {YP:World->Heap->Prop} {d:DefRec} {K:Params->Frag} {CX:World->CXT} {sp:World->Sp} {x:Str}
  (hn:l.most=some n) (hn2:n<=sizeLine) (hdf:d.params.defaults=[]) (hr:Room k callerA)
  (hY:∀ (w:World) (h:Heap),YP w h->(K w.params).In h)
  (F:∀ (w:World) (mg:Str->Option Value) (fa:Addr) (h:Heap),(K w.params).In h->h.Ns mainGlobals mg->mg d.name=some (.ref fa)->
   ∃ fd:FuncData,(∀ (s:Shared) (u:Value),BindsTo s fd ⟨[u],[]⟩ [(x,u)])/\
    ∀ base:Heap,(K w.params).In base->base.Ns mainGlobals mg->FnOk l.prog w (K w.params) mg base (CX w) k fa fd [x] (sp w))
  (hsp:∀ (w:World) (H:Hp) (a:Addr) (ns:List Int),ns.length<=n->Only H->SqL (K w.params) H a (ns.map V.int)->sp w [.ref a] H (fun v _=>v=.bl true) fun _ _ _=>False)
  (hCX:∀ (w:World) (H:Hp) (s:Shared) (e:Value) (s':Shared),CX w [] H s (fun _ _ _=>False) e s'->False) :
  PySem.W.WalkO q loose XP YP l.row.toRowW d [] (fun f vs=>PySem.call f vs):=by
 refine Att.attach_call hn hdf fun w s₀ s₁ mg mb fa o pm cd doc a vs ns G Y ho hd hcd hmg hobj hints hlen hg=>?_;have KX:=hY w _ Y;obtain ⟨fd,hb,hF⟩:=F w mg fa _ KX G.T.g hmg;exact law_call KX G.T.g G.T.b G.T.builtins G.T.nolimit hg hobj hints (Nat.le_trans hlen hn2) hr hF hb (fun H hO hS=>hsp w H a ns hlen hO hS) fun H e s'=>hCX w H s₁ e s'
end L2
namespace L2
open PySem PySem.Spec PyProof.Rows
def J1u (s:Stmt):Arguments:=match s with
 | .FunctionDef _ a _ _ _ _ _ _ _ _=>a
 | _=>{ posonlyargs:=[],args:=[],vararg:=none,kwonlyargs:=[],kw_defaults:=[],kwarg:=none,defaults:=[] }
def J1e (s:Stmt):List Stmt:=match s with
 | .FunctionDef _ _ b _ _ _ _ _ _ _=>b
 | _=>[]
def J8 (s:Stmt):Scope:=match s with
 | .FunctionDef _ _ _ _ _ _ sc _ _ _=>sc
 | _=>{ kind:=.function,names:=[],isGenerator:=false,isCoroutine:=false }
abbrev CX0:CXT:=fun _ _ _ _ _ _=>False
abbrev E0:XK:=fun _ _ _=>False
theorem pass0 {X:Cx}:Passes CX0 X E0:=fun _ _ _ _ _ _ _ h=>h.elim
structure Fun (K:Frag) (x qual:Str) (st:Stmt) (f:Addr) (fd:FuncData):Prop where
 ex:∃ (oc:Value) (od:Option Addr) (kV doc pm:Value) (an:Option Addr) (cdv ct:Value) (osl:Array (Option Value)),
  fd=fnOf x qual (J1u st) (J1e st) (J8 st) .none kV doc pm an cdv ct/\K.lookup f=some ⟨oc,od,.func fd,osl⟩/\codeIn K cdv qual=true
 kp:keepIn K (.ref f)=true
section
variable {P:Program} {w:World} {K:Frag} {mg:Str->Option Value} {base:Heap}
theorem Fun.ok {x qual:Str} {st:Stmt} {f:Addr} {fd:FuncData} {N ps:List Str} {k:Nat} {sp:Sp} (F:Fun K x qual st f fd) (S:FnScope N ps (J8 st)) (len:∀ vs H Q E,sp vs H Q E->vs.length=ps.length)
  (hbody:∀ (cdv:Value) (A:Around) (outer:List Env) (s:Shared) (H:Hp) (vs:List V) (Q:VK) (E:XK),Room k (A.deeper (envOfC qual (J8 st) s.heap.objs.size f cdv))->sp vs H Q E->
   ∃ t,PSs (cxOf CX0 P w K mg base N qual (J8 st) f cdv A outer s H E).nox (J1e st) t/\t { nx:=fun _ H'=>Q .non H',rt:=Q } (start N vs) H):FnOk P w K mg base CX0 (k + 1) f fd ps sp:=by
 obtain ⟨oc,od,kV,doc,pm,an,cdv,ct,osl,rfl,lk,hcd⟩:=F.ex;refine fn_of lk hcd S len fun A outer s H vs Q E hr hsp=>?_;obtain ⟨t,h,q⟩:=hbody cdv A outer s H vs Q E hr hsp;exact ⟨t,h.nox,q⟩
theorem Fun.binds {x qual:Str} {st:Stmt} {f:Addr} {fd:FuncData} {ps:List Str} (F:Fun K x qual st f fd)
  (h:∀ (kV doc pm:Value) (an:Option Addr) (cdv ct:Value) (us:List Value),us.length=ps.length->bindArgs (fnOf x qual (J1u st) (J1e st) (J8 st) .none kV doc pm an cdv ct) ⟨us,[]⟩=pure (ps.zip us)):Binds K fd ps []:=by
 obtain ⟨oc,od,kV,doc,pm,an,cdv,ct,osl,rfl,lk,hcd⟩:=F.ex;exact .all (h kV doc pm an cdv ct)
theorem fun_mk {x qual:Str} {st:Stmt} {f:Addr} {oc:Value} {od an:Option Addr} {osl:Array (Option Value)} {kV doc pm cdv ct:Value} (l:K.lookup f=some ⟨oc,od,.func (fnOf x qual (J1u st) (J1e st) (J8 st) .none kV doc pm an cdv ct),osl⟩)
  (c:codeIn K cdv qual=true) (k:keepIn K (.ref f)=true):Fun K x qual st f (fnOf x qual (J1u st) (J1e st) (J8 st) .none kV doc pm an cdv ct):=⟨⟨oc,od,kV,doc,pm,an,cdv,ct,osl,rfl,l,c⟩,k⟩
end
theorem Jg {n:Nat} (h:n<=1000):n < sizeLine:=Nat.lt_of_le_of_lt h (by decide)
section
variable {X:Cx}
theorem pv (i:Nat) {x:Str} {pos:Pos} (hN:X.N[i]?=some x:=by rfl) (hv:Vis X.env.scope x:=by first | exact Or.inl rfl | exact Or.inr (Or.inl rfl) | exact Or.inr (Or.inr rfl)) (hd:(x == ("__debug__":Str))=false:=by decide)
  (hcd:(x == ("__classdict__":Str))=false:=by decide):PE X (.Name x pos) (tVar i):=pe_var hN hv hd hcd
end
theorem iteF {A B:Prop} (h:B):if false=true then A else B:=by
 rw [if_neg Bool.false_ne_true];exact h
theorem iteT {A B:Prop} (h:A):if true=true then A else B:=by
 rw [if_pos rfl];exact h
theorem iteNS {c A B:Prop} [Decidable c] (hc:c) (h:B):if (!decide c)=true then A else B:=by
 rw [decide_eq_true hc];exact iteF h
def Same (H H':Hp):Prop:=∀ b o,H b=some o->H' b=some o
theorem Same.refl (H:Hp):Same H H:=fun _ _ h=>h
theorem Same.trans {H H1 H2:Hp} (a:Same H H1) (b:Same H1 H2):Same H H2:=fun c o h=>b c o (a c o h)
theorem Same.seq {K:Frag} {H H':Hp} {a:Addr} {xs:List V} (e:Same H H') (h:SqL K H a xs):SqL K H' a xs:=by
 rcases h with (h | ⟨o,h⟩) | h
 ·exact .inl (.inl (e _ _ h))
 ·exact .inl (.inr ⟨o,e _ _ h⟩)
 ·exact .inr h
end L2
namespace L2
open PySem PySem.Spec PyProof.Rows
abbrev Cx.block (X:Cx) (N:List Str) (scope:Scope) (cl:List (Str × Addr)) (C:Addr) (fp:List Addr) (s:Shared) (H:Hp):Cx :=
 { X with N:=N,s₀:=s,H₀:=H,env:=compEnvC scope cl C X.env,outer:=X.stack,stack:=X.stack,ex:=fp,fn:=fun _=>false,pn:=[],xe:=fun _ _=>False }
theorem J1z {env:Env}:∀ {names:List (Str × NameKind)} {x:Str} {k:NameKind},(names.map fun (n,k)=>if (k == NameKind.free && env.scope.kind == .function && env.kindOf n == some .cell) then (n,NameKind.cell) else (n,k)).lookup x=some k->
  k=.cell\/k=.free->(∀ p∈names,p.2≠.cell)->∃ p∈names,p.1=x/\p.2=.free
 | [],_,_,h,_,_=>by simp at h
 | (n,q) :: r,x,k,h,hk,hc=>by
  have ih:=@J1z env r x k;have hq:q≠.cell:=hc (n,q) mem_cons_self;rw [map_cons] at h;by_cases hx:x=n
  ·subst hx;by_cases e:(q == NameKind.free && env.scope.kind == .function && env.kindOf x == some .cell)=true
   ·simp only [Bool.and_eq_true] at e;exact ⟨(x,q),mem_cons_self,rfl,by simpa using e.1.1⟩
   ·have e2:List.lookup x ((x,q) :: List.map (fun (n,k)=>if (k == NameKind.free && env.scope.kind == .function && env.kindOf n == some .cell) then (n,NameKind.cell) else (n,k)) r)=some k:=by
     simpa only [e,if_false,Bool.false_eq_true] using h
    rw [List.lookup_cons_self] at e2;cases e2;rcases hk with hk | hk
    ·exact absurd hk hq
    ·exact ⟨(x,q),mem_cons_self,rfl,hk⟩
  ·have hb:(x == n)=false:=by simpa using hx
   have h':(List.map (fun (n,k)=>if (k == NameKind.free && env.scope.kind == .function && env.kindOf n == some .cell) then (n,NameKind.cell) else (n,k)) r).lookup x=some k:=by
    by_cases e:(q == NameKind.free && env.scope.kind == .function && env.kindOf n == some .cell)=true
    ·simp only [e,if_true,List.lookup_cons,hb] at h;exact h
    ·simp only [e,if_false,Bool.false_eq_true,List.lookup_cons,hb] at h;exact h
   obtain ⟨p,hp,e1,e2⟩:=ih h' hk fun p hp=>hc p (mem_cons_of_mem _ hp);exact ⟨p,mem_cons_of_mem _ hp,e1,e2⟩
def capv (σ:St) (js:List Nat):St:=js.map fun j=>(σ[j]?).join
theorem capv_get {σ:St} {js:List Nat} {k:Nat} {v:V} (h:(capv σ js)[k]?=some (some v)):∃ j,js[k]?=some j/\σ[j]?=some (some v):=by
 unfold capv at h;rw [getElem?_map] at h
 cases e:js[k]? with
 | none=>rw [e] at h;cases h
 | some j =>
  rw [e] at h;refine ⟨j,rfl,?_⟩
  cases e2:σ[j]? with
  | none=>rw [Option.map_some,e2] at h;cases h
  | some o=>rw [Option.map_some,e2] at h;exact congrArg some (Option.some.inj h)
section
variable {X:Cx} {elt iter:Expr} {x y:Str} {px py:Pos} {scope:Scope} {cl:List (Str × Addr)} {pos spos:Pos} {wi:TI} {te:TE} {caps:List Str} {js:List Nat} {i:Nat}
theorem J2g {pins:List (Addr × Obj)} {σ:St} {H:Hp} {s:Shared} {C:Addr} {fp:List Addr} (I:Inv X pins σ H s) (hC:s.heap.objs.size<=C) (f2:∀ b∈fp,FpOk X pins H b) (fl:∀ b∈fp,b < s.heap.objs.size)
  (hkind:scope.kind=.function) (hcell:∀ p∈scope.names,p.2≠.cell) (hsub:∀ p∈cl,X.env.cells.lookup p.1=some p.2) (hhas:∀ p∈scope.names,p.2=.free->∃ c,cl.lookup p.1=some c) :
  (X.block (x :: caps) scope cl C fp s H).Ok where
 mod:=I.ok.mod
 kind:=hkind
 glob:=I.ok.glob
 blt:=I.ok.blt
 above:=hC
 inj:=fun a b c h1 h2=>I.ok.inj a b c (hsub _ (mem_of_lookup h1)) (hsub _ (mem_of_lookup h2))
 has:=fun a h=>by
  have h':(∃ k,(relabel scope X.env).names.lookup a=some k/\(k=.cell\/k=.free)):=by
   rcases h with h | h
   ·exact ⟨_,h,.inl rfl⟩
   ·exact ⟨_,h,.inr rfl⟩
  obtain ⟨k,h1,hk⟩:=h';obtain ⟨p,hp,e1,e2⟩:=J1z h1 hk hcell;rw [<- e1];exact hhas p hp e2
 cab:=fun _ _ h=>nomatch h
 hd:=I.ok.hd
 frames:=I.ok.frames
 stk:=.inl rfl
 exf:=fun b hb=>⟨Nat.ne_of_lt (Nat.lt_of_lt_of_le (fl b hb) hC),fun a c e=>(f2 b hb).2.2.2.2.1 a c (hsub _ (mem_of_lookup e))⟩
 bs:=I.bs
 bsz:=Nat.le_trans I.ok.bsz I.sz
 noex:=fun b o e hb=>by
  rcases (f2 b hb).2.2.2.1 with z | z
  ·exact I.ok.noex b o e z
  ·exact absurd (Nat.lt_of_lt_of_le (lt_size e) (Nat.le_trans I.ok.bsz z)) (Nat.lt_irrefl _)
 exfs:=fun b hb z=>by
  rcases mem_cons.mp (I.stkSub b z) with e | e
  ·exact (f2 b hb).2.1 e
  ·exact (f2 b hb).2.2.1 e
 funs:=I.stack
 frf:=I.stkFree
end
section
variable {X:Cx}
def rInsert:V->List V->Hp->VK->Prop:=fun x vs H Q=>∃ (l:Addr) (xs:List V) (k:Nat) (y:V),x=.ref l/\vs=[.int k,y]/\H l=some (.lst xs)/\k<=xs.length/\xs.length < sizeLine/\Q .non (upd H l (.lst (xs.take k ++ y :: xs.drop k)))
theorem mt_insert:MtM X "list.insert" rInsert:=by
 intro pins s σ H x vs v us Q I rx rv h;obtain ⟨l,xs,k,y,rfl,rfl,hH,hk,hz,q⟩:=h;cases rx;obtain ⟨u1,u2,rfl,⟨t,rfl⟩,r2⟩:=rv.two;obtain ⟨z,its,n,r,hl,e⟩:=I.lstM hH;have hn:=J3e;obtain ⟨x,hx⟩:∃ x:Int,x=(k:Int):=⟨_,rfl⟩;rw [<- hx];have hfit:¬ (!Builtin.List.listFitsIndex x)=true:=by
  rw [fitsIndex_both (by omega) (by omega)];exact Bool.false_ne_true
 have hsz:its.toArray.size<=sizeLine:=by rw [size_toArray,<- hl];exact z
 refine call_meets F.slot_list_insert ⟨_,e,rfl⟩ F.entry_list_insert (F.args_list_insert_3 _ _ _) (PySem.AutoSeq1.list_insert_list_int_val_1 l its.toArray n x t u2 hfit hsz) ⟨e,?_⟩;refine ⟨.non,_,I.lset (its':=its.take k ++ u2 :: its.drop k) hH e ?_ ((r.take k).append (.cons r2 (r.drop k))) ?_,rfl,q⟩
 ·have e1:(if x < 0 then (x + (its.toArray.size:Int)).toNat else min x.toNat its.toArray.size)=k:=by
   rw [if_neg (by omega),size_toArray];omega
  dsimp only;rw [e1];apply Array.ext';simp;rw [List.take_of_length_le (by rw [length_drop];exact Nat.le_refl _)]
 ·rw [length_append,length_cons,length_take,length_drop];omega
end
section
variable {X:Cx}
abbrev SqI (K:Frag) (H:Hp) (p:Addr) (xs:List V):Prop:=SqL K H p xs\/SqT K H p xs
theorem J2b {its:List Value} {ns:List Int} (hi:IntsAre its ns):∃ xs:Array (Int × Tok),its.toArray=intItems xs/\preSum (numAt xs) xs.size=ns.sum/\ns=xs.toList.map (·.1):=by
 obtain ⟨xs,hx⟩:=hi.allInts.items;have e1:ns=xs.toList.map (·.1):=by
  rw [<- nums_intItems,<- hx];exact (show numsOf its.toArray.toList=ns from hi.numsOf).symm
 refine ⟨xs,hx,?_,e1⟩;rw [preSum_eq,List.take_of_length_le (by simp),e1]
theorem call_sum (hc:X.calm=true):CallR X (.builtin "sum") (fun xs H Q=>∃ (p:Addr) (ns:List Int),xs=[.ref p]/\SqI X.K H p (ns.map V.int)/\Q (.int ns.sum) H):=by
 intro pins s σ H xs us Q I r h;obtain ⟨p,ns,rfl,hq,q⟩:=h;obtain ⟨u,rfl,rx⟩:=vals1 r;cases rx;have hh:=I.ok.hd hc;rcases hq with hq | hq
 ·obtain ⟨its,r',pl,hz⟩:=I.list hq;obtain ⟨xs,hx,e2,_⟩:=J2b (Jl r');refine sum_intListG hh (hx ▸ pl.isList) fun h' tk t' hk=>?_;rw [e2];exact ⟨.int ns.sum,H,I.kept hk,⟨t',rfl⟩,q⟩
 ·obtain ⟨its,r',pl,hz⟩:=I.tuple hq;obtain ⟨xs,hx,e2,_⟩:=J2b (Jl r');refine PySem.W.ktm_sumG hh (hx ▸ (show s.heap.IsTuple p its.toArray from pl)) fun h' tk t' hk=>?_;rw [e2];exact ⟨.int ns.sum,H,I.kept hk,⟨t',rfl⟩,q⟩
end
end L2
namespace L2
open PySem PySem.Spec PyProof.Rows
section
variable {prog:Program} {w:World} {A:Around} {E:Value->Shared->Prop} {s:Shared}
theorem J2w {l:Addr} {vs:List Value} {Q:List Value->Shared->Prop} (hl:s.heap.IsTuple l vs.toArray)
  (h:Q vs { s with heap:=(s.heap.push (seqObj "list" #[] 0)).update s.heap.objs.size (Obj.mapSeq (· ++ vs.toArray)) }) (hsz:vs.length<=sizeLine) :
  wpAny (model prog w) A (collect (.ref l)) Q E s:=by
 obtain ⟨o,ho,hc,n,hd⟩:=id hl;unfold collect;refine wpAny_bind (wpAny_runValue (codeAny_builtin entry_proto_collect' ?_));show wpAny _ _ (do again (.builtin "list.__iadd__" ⟨[<- newList [],.ref l],[]⟩)) _ _ s;refine wpAny_bind (wpAny_newList (wpAny_pure ⟨Code.quiet_builtin _ (by decide +kernel),codeAny_builtin entry_list_iadd' ?_⟩));show wpAny _ _ (Builtin.List.listExtendWith (.ref s.heap.objs.size) (.ref l) (.ref s.heap.objs.size)) _ _ { s with heap:=s.heap.push (seqObj "list" #[] 0) };unfold Builtin.List.listExtendWith;have ho':(s.heap.push (seqObj "list" #[] 0)).get? l=some o:=get?_push_of_some _ ho;refine wpAny_bind (wpAny_typeOf (T:="tuple") ⟨o,ho',hc⟩ ?_);have ht:(Value.type "tuple" == Value.type "tuple")=true:=by rfl
 rw [if_pos (by rw [ht];simp)];refine wpAny_bind (listItems_at ho' hd ?_);refine wpAny_bind (listItems_at (xs:=#[]) (n:=0) (get?_push_size _ rfl) rfl ?_);rw [if_neg (by simp)];refine wpAny_bind (listUpdate_at (xs:=#[]) (n:=0) (get?_push_size _ rfl) rfl ?_ (Nat.zero_le _) (by show (#[] ++ vs.toArray).size<=sizeLine + 1;simp only [Array.size_append,size_toArray,List.length_nil];omega));refine wpAny_pure ?_;show wpAny (model prog w) A (do
   let o <- load s.heap.objs.size
   match o.data with
   | .seq xs _=>pure xs.toList
   | _=>unsupported "internal:collect") Q E { s with heap:=(s.heap.push (seqObj "list" #[] 0)).update s.heap.objs.size (Obj.mapSeq (· ++ vs.toArray)) }
 refine wpAny_bind (wpAny_load (get?_update_seq (get?_push_size _ rfl) _) ?_);show wpAny _ _ (pure ((#[]:Array Value) ++ vs.toArray).toList) Q E _;rw [show ((#[]:Array Value) ++ vs.toArray).toList=vs by simp];exact wpAny_pure h
theorem J32 {l:Addr} {vs:List Value} {ns:List Int} {Q:Value->Shared->Prop} (hl:s.heap.IsTuple l vs.toArray) (hI:IntsAre vs ns) (h64:vs.length < 64)
  (h:∀ (out:Array Value) (ns':List Int),IntsAre out.toList ns'->ns'.Perm ns->ns'.Pairwise (·<=·)->Q (.ref (s.heap.objs.size + 1)) { s with heap:=sortedAll s.heap vs out }) :
  wpAny (model prog w) A (call (.builtin "sorted") [.ref l]) Q E s:=by
 refine Calls.call_function_entry kind_sorted plain_sorted entry_sorted (args_sorted1 _) ?_;unfold Builtin.«sorted»;refine wpAny_bind (m:=checkCount "sorted" 1 1 _) (wpAny_pure ?_);refine wpAny_bind (J2w hl ?_ (Nat.le_of_lt (Nat.lt_of_lt_of_le h64 (by rw [sizeLine_eq];decide))));refine wpAny_bind (wpAny_newList ?_);have hsz:((s.heap.push (seqObj "list" #[] 0)).update s.heap.objs.size (Obj.mapSeq (· ++ vs.toArray))).objs.size=s.heap.objs.size + 1:=by
  rw [Heap.size_update,size_push']
 have hoL:(((s.heap.push (seqObj "list" #[] 0)).update s.heap.objs.size (Obj.mapSeq (· ++ vs.toArray))).push (seqObj "list" vs.toArray 0)).get? (s.heap.objs.size + 1)=some (seqObj "list" vs.toArray 0):=by
  rw [<- hsz];exact get?_push_size _ rfl
 show wpAny _ _ _ _ _ { s with heap:=((s.heap.push (seqObj "list" #[] 0)).update s.heap.objs.size (Obj.mapSeq (· ++ vs.toArray))).push (seqObj "list" vs.toArray 0) };rw [hsz];refine wpAny_bind (wpAny_holding (wpAny_call_entry slot_list_sort ⟨_,hoL,rfl⟩ entry_list_sort (list_sort_tree hoL hI h64 fun out ns' a1 a2 a3=>⟨_,rfl,?_⟩) (args_list_sort _)));exact wpAny_pure ⟨_,rfl,h out ns' a1 a2 a3⟩
end
section
variable {X:Cx}
theorem call_sorted:CallR X (.builtin "sorted") (fun xs H Q=>∃ (p:Addr) (ns:List Int),xs=[.ref p]/\SqI X.K H p (ns.map V.int)/\ns.length < 64/\∀ l (ns':List Int),H l=none->ns'.Perm ns->ns'.Pairwise (·<=·)->Q (.ref l) (upd H l (.lst (ns'.map V.int)))):=by
 intro pins s σ H xs us Q I r h;obtain ⟨p,ns,rfl,hq,h64,q⟩:=h;obtain ⟨u,rfl,rx⟩:=vals1 r;cases rx;have fin:∀ (its:List Value) (out:Array Value) (ns':List Int),IntsAre out.toList ns'->ns'.Perm ns->ns'.Pairwise (·<=·)->EP X pins σ Q (.ref (s.heap.objs.size + 1)) { s with heap:=sortedAll s.heap its out }:=fun its out ns' a1 a2 a3=>by
  obtain ⟨e,he⟩:=sortedAll_at s.heap its out;have hz:(ns'.map V.int).length<=sizeLine:=by
   rw [length_map,a2.length_eq];exact Nat.le_of_lt (Jg (by omega))
  refine ⟨.ref _,_,I.laid (t':=s.toks) (a:=s.heap.objs.size + 1) (o:=.lst (ns'.map V.int)) (fun b o e=>sortedAll_old e) (Nat.le_succ _) ⟨hz,out.toList,e,J1h a1,he⟩,rfl,q _ ns' (I.hok.fresh (Nat.le_succ _)) a2 a3⟩
 rcases hq with hq | hq
 ·obtain ⟨its,r',pl,hz⟩:=I.list hq;have hl:=r'.length;rw [length_map] at hl;exact sorted_ints pl.isList (Jl r') (by omega) (fin its)
 ·obtain ⟨its,r',pl,hz⟩:=I.tuple hq;have hl:=r'.length;rw [length_map] at hl;exact J32 (show s.heap.IsTuple p its.toArray from pl) (Jl r') (by omega) (fin its)
theorem J3k:CallR X (.type "range") (fun xs H Q=>∃ j:Int,xs=[.int j]/\∀ r,H r=none->Q (.ref r) (upd H r (.rng 0 j))):=by
 intro pins s σ H xs us Q I r h;obtain ⟨j,rfl,q⟩:=h;obtain ⟨u,rfl,t,rfl⟩:=vals1 r;refine call_range_1 ?_;exact ⟨.ref s.heap.objs.size,_,I.laid (o:=.rng 0 j) (fun b o e=>get?_push_of_some _ e) (Nat.le_refl _) ⟨_,_,_,get?_push_size _ rfl⟩,rfl,q _ (I.hok.fresh (Nat.le_refl _))⟩
theorem J2i {f:Nat->Int}:∀ {n:Nat} {us:List Value},us.length=n->(∀ (i:Nat) (v:Value),us[i]?=some v->∃ t,v=Value.int (f i) t)->Vals ((List.range n).map fun i=>V.int (f i)) us:=by
 intro n us hl h
 induction n generalizing f us with
 | zero=>cases us with
  | nil=>exact .nil
  | cons a r=>simp at hl
 | succ n ih=>cases us with
  | nil=>simp at hl
  | cons a r =>
   obtain ⟨t,e⟩:=h 0 a rfl;subst e;rw [List.range_succ_eq_map,map_cons,map_map];exact .cons ⟨t,rfl⟩ (ih (f:=fun i=>f (i + 1)) (by simpa using hl) fun i v e=>h (i + 1) v (by simpa using e))
theorem J11 (hc:X.calm=true):CallR X (.type "list") (fun xs H Q=>∃ (r:Addr) (n:Nat),xs=[.ref r]/\H r=some (.rng 0 (n:Int))/\n<=1000/\∀ l,H l=none->Q (.ref l) (upd H l (.lst (((List.range n).map fun (i:Nat)=>(i:Int)).map V.int)))):=by
 intro pins s σ H xs us Q I r h;obtain ⟨p,n,rfl,hq,hn,q⟩:=h;simp only [map_map,Function.comp_def] at q;obtain ⟨u,rfl,rx⟩:=vals1 r;cases rx;obtain ⟨t,u,v,e⟩:=I.hok p _ hq;refine call_list_range (I.ok.hd hc) (show IsRange s.heap p 0 (n:Int) 1 t u v from e) (small_one (by omega) (by omega) (by omega) (by omega)) (by rw [rangeSize_one];split <;> omega) (n:=n) (by omega) fun h' tk acc' c' hk hS' hacc=>?_;have hv:Vals ((List.range n).map fun (i:Nat)=>V.int (i:Int)) acc'.toList:=J2i (by rw [length_toList];exact hacc.1) fun i v e=>by
  obtain ⟨t,rfl⟩:=hacc.2 i v (by simpa using e);exact ⟨t,by simp⟩
 refine ⟨.ref s.heap.objs.size,_,I.laid (o:=.lst ((List.range n).map fun (i:Nat)=>V.int (i:Int))) hk (Nat.le_refl _) ⟨?_,acc'.toList,c',hv,by simpa using hS'⟩,rfl,q _ (I.hok.fresh (Nat.le_refl _))⟩;rw [length_map,length_range];exact Nat.le_of_lt (Jg hn)
def Kin (xs ys:List V):Prop:=∀ a∈xs,∀ b∈ys,flatV a=true/\flatV b=true/\eqV a b=decide (a=b)
theorem Kin.ints (ns ms:List Int):Kin (ns.map V.int) (ms.map V.int):=fun a ha b hb=>by
 obtain ⟨i,_,rfl⟩:=mem_map.mp ha;obtain ⟨j,_,rfl⟩:=mem_map.mp hb;refine ⟨rfl,rfl,?_⟩;show (i == j)=decide (V.int i=V.int j);by_cases e:i=j
 ·subst e;simp
 ·rw [decide_eq_false (fun h=>e (V.int.inj h))];simpa using e
def eAt (xs ys:List V) (j:Nat):Bool:=match xs[j]?,ys[j]? with
 | some a,some b=>eqV a b
 | _,_=>true
theorem all_eAt {xs ys:List V} (hl:xs.length=ys.length) (hk:Kin xs ys):((List.range xs.length).all (eAt xs ys))=decide (xs=ys):=by
 rw [Bool.eq_iff_iff,List.all_eq_true,decide_eq_true_iff];constructor
 ·intro h;apply List.ext_getElem?;intro j;by_cases hj:j < xs.length
  ·have h1:xs[j]?=some xs[j]:=List.getElem?_eq_getElem hj;have h2:ys[j]?=some (ys[j]'(hl ▸ hj)):=List.getElem?_eq_getElem (hl ▸ hj);have:=h j (mem_range.mpr hj);unfold eAt at this;rw [h1,h2] at this;have k:=(hk _ (getElem_mem hj) _ (getElem_mem (hl ▸ hj))).2.2;have this:eqV xs[j] (ys[j]'(hl ▸ hj))=true:=this;rw [k,decide_eq_true_iff] at this;rw [h1,h2,this]
  ·rw [getElem?_eq_none (by omega),getElem?_eq_none (by omega)]
 ·rintro rfl j hj;have hj':=mem_range.mp hj;unfold eAt;rw [List.getElem?_eq_getElem hj'];have k:=(hk _ (getElem_mem hj') _ (getElem_mem hj')).2.2;show eqV _ _=true;rw [k];simp
theorem eAt_at {A:Around} {s:Shared} {xs ys:List V} {its its2:List Value} (r:Vals xs its) (r2:Vals ys its2) (hk:Kin xs ys) (j:Nat) (h1:j < its.toArray.size) (h2:j < its2.toArray.size):SeqAt.EqAt A s its.toArray[j] its2.toArray[j] (eAt xs ys j):=by
 have l1:=r.length;have l2:=r2.length;rw [size_toArray] at h1 h2;have g1:xs[j]?=some (xs[j]'(by omega)):=List.getElem?_eq_getElem (by omega);have g2:ys[j]?=some (ys[j]'(by omega)):=List.getElem?_eq_getElem (by omega);obtain ⟨u,e1,ru⟩:=r.get g1;obtain ⟨v,e2,rv⟩:=r2.get g2;have e1':its.toArray[j]=u:=by
  have:=List.getElem?_eq_getElem h1;rw [e1] at this;simpa using (Option.some.inj this).symm
 have e2':its2.toArray[j]=v:=by
  have:=List.getElem?_eq_getElem h2;rw [e2] at this;simpa using (Option.some.inj this).symm
 obtain ⟨f1,f2,_⟩:=hk _ (getElem_mem (by omega:j < xs.length)) _ (getElem_mem (by omega:j < ys.length));unfold eAt;rw [g1,g2,e1',e2'];exact eqAt_V ru rv f1 f2
def rEqL (K:Frag):R2:=fun x y H Q=>∃ p q xs ys,x=.ref p/\y=.ref q/\SqL K H p xs/\SqL K H q ys/\Kin xs ys/\Q (.bl (decide (xs=ys))) H
def rNeL (K:Frag):R2:=fun x y H Q=>∃ p q xs ys,x=.ref p/\y=.ref q/\SqL K H p xs/\SqL K H q ys/\Kin xs ys/\Q (.bl (!decide (xs=ys))) H
theorem op_eqL (hu:X.A.units < cLine):OpR X (compareOp .Eq) (rEqL X.K):=by
 intro pins s σ H x y v u Q I rx ry h;obtain ⟨p,q,xs,ys,rfl,rfl,hp,hq,hk,hQ⟩:=h;cases rx;cases ry;obtain ⟨its,r,pl,_⟩:=I.list hp;obtain ⟨its2,r2,pl2,_⟩:=I.list hq;have l1:=r.length;have l2:=r2.length;by_cases hl:xs.length=ys.length
 ·refine SeqAt.eq_listAt pl.isList pl2.isList (by rw [size_toArray,size_toArray];omega) hu (fun j h1 h2=>eAt_at r r2 hk j h1 h2) ?_;rw [size_toArray,<- l1,all_eAt hl hk];exact ⟨.bl _,H,I,rfl,hQ⟩
 ·refine SeqAt.eq_list_lengthsAt pl.isList pl2.isList (by rw [size_toArray,size_toArray];simp;omega) hu ?_;rw [decide_eq_false (fun e=>hl (congrArg List.length e))] at hQ;exact ⟨.bl false,H,I,rfl,hQ⟩
theorem op_neL (hu:X.A.units < cLine):OpR X (compareOp .NotEq) (rNeL X.K):=by
 intro pins s σ H x y v u Q I rx ry h;obtain ⟨p,q,xs,ys,rfl,rfl,hp,hq,hk,hQ⟩:=h;cases rx;cases ry;obtain ⟨its,r,pl,_⟩:=I.list hp;obtain ⟨its2,r2,pl2,_⟩:=I.list hq;have l1:=r.length;have l2:=r2.length;by_cases hl:xs.length=ys.length
 ·refine SeqAt.RcNeAt.lists pl.isList pl2.isList (by rw [size_toArray,size_toArray];omega) hu (fun j h1 h2=>eAt_at r r2 hk j h1 h2) _ _ _ _ ?_;rw [size_toArray,<- l1,all_eAt hl hk];exact ⟨.bl _,H,I,rfl,hQ⟩
 ·refine SeqAt.RcNeAt.lists_lengths pl.isList pl2.isList (by rw [size_toArray,size_toArray];simp;omega) hu _ _ _ _ ?_;rw [decide_eq_false (fun e=>hl (congrArg List.length e))] at hQ;exact ⟨.bl true,H,I,rfl,hQ⟩
theorem J14 {f:Value} (hf:f=.builtin "isinstance"):CallR X f (fun xs H Q=>∃ (x c:V) (t cv:Value) (b:Bool),xs=[x,c]/\RelV c cv/\(∀ v,RelV c v->v=cv)/\TyOf X.K H x t/\kitOne X.K t cv=some b/\Q (.bl b) H):=by
 subst hf;intro pins s σ H xs us Q I r h;obtain ⟨x,c,t,cv,b,rfl,rc,uc,ty,e,q⟩:=h;obtain ⟨u,v,rfl,ru,rv⟩:=vals2 r;obtain rfl:=uc v rv;exact isinst_ok I ru ty e fun tk=>⟨.bl b,H,I.tok tk,rfl,q⟩
end
end L2
namespace L2
open PySem PySem.Spec PyProof.Rows
section
variable {X:Cx}
@[irreducible] def rTup (K:Frag):List V->Hp->VK->Prop:=fun xs H Q=>∃ p ys,xs=[.ref p]/\((SqL K H p ys/\∀ l,H l=none->Q (.ref l) (upd H l (.tup ys)))\/(SqT K H p ys/\Q (.ref p) H))
theorem call_tup:CallR X (.type "tuple") (rTup X.K):=by
 unfold rTup;exact J2x
end
end L2
namespace L2
open PySem PySem.Spec PyProof.Rows
section
variable {prog:Program} {w:World} {A:Around} {E:Value->Shared->Prop} {z:Shared}
theorem J1w {nu tu:Addr} {j:Nat} {xs:Array Value} {y:Value} {Q:Value->Shared->Prop} (hn:z.heap.IsTupleIter nu tu j) (ht:z.heap.IsTuple tu xs) (hy:xs[j]?=some y)
  (hQ:∀ g,g.IsTupleIter nu tu (j + 1)->Heap.SameBut nu z.heap g->Q y { z with heap:=g }):wpAny (model prog w) A (Builtin.SmallTypes.nextOf (.ref nu)) Q E z:=by
 obtain ⟨on,hon,cn,dn⟩:=id hn;obtain ⟨ot,hot,_,nt,dt⟩:=ht;unfold Builtin.SmallTypes.nextOf;refine wpAny_bind (wpAny_callSpecial?_slot (name:=Str.ofString "__next__") hn.typeIs F.slot_tuple_iterator_next (wpAny_call_entry F.slot_tuple_iterator_next hn.typeIs F.entry_tuple_iterator_next ?_ (F.args_tuple_iterator_next_1 _)));show wpAny _ _ (field (.ref nu) 0 >>= _) _ _ z;refine wpAny_bind (wpAny_field hon dn (x:=.ref tu) rfl ?_);show wpAny _ _ (if (Value.ref tu == Value.none)=true then _ else _) _ _ z;rw [if_neg (show ¬ ((Value.ref tu == Value.none)=true) from Bool.false_ne_true)];show wpAny _ _ (field (.ref nu) 1 >>= _) _ _ z;refine wpAny_bind (wpAny_field hon dn (x:=.int j 0) rfl ?_);show wpAny _ _ (seqItems? (.ref tu) >>= _) _ _ z;refine wpAny_bind (wpAny_seqItems hot dt ?_);simp only [Int.toNat_natCast,hy];refine wpAny_bind (wpAny_setField hon dn (by simp) (wpAny_pure ⟨y,rfl,wpAny_pure (hQ _ ?_ (Heap.SameBut.update ..))⟩));exact ⟨_,get?_update_self _ hon (Obj.isFreed_of_fields (Obj.data_mapFields dn _)),(Obj.cls_mapFields ..).trans cn,by rw [Obj.data_mapFields dn];simp [rawInt]⟩
theorem J28 {nu tu:Addr} {j:Nat} {xs:Array Value} {Q:Value->Shared->Prop} (hh:A.handled=none) (hn:z.heap.IsTupleIter nu tu j) (ht:z.heap.IsTuple tu xs) (hy:xs[j]?=none)
  (hE:∀ g e,Heap.ExtBut nu z.heap g->(∃ o,g.get? e=some o/\o.cls=.type "StopIteration")->E (.ref e) { z with heap:=g }):wpAny (model prog w) A (Builtin.SmallTypes.nextOf (.ref nu)) Q E z:=by
 obtain ⟨on,hon,cn,dn⟩:=id hn;obtain ⟨ot,hot,_,nt,dt⟩:=ht;unfold Builtin.SmallTypes.nextOf;refine wpAny_bind (wpAny_callSpecial?_slot (name:=Str.ofString "__next__") hn.typeIs F.slot_tuple_iterator_next (wpAny_call_entry F.slot_tuple_iterator_next hn.typeIs F.entry_tuple_iterator_next ?_ (F.args_tuple_iterator_next_1 _)));show wpAny _ _ (field (.ref nu) 0 >>= _) _ _ z;refine wpAny_bind (wpAny_field hon dn (x:=.ref tu) rfl ?_);show wpAny _ _ (if (Value.ref tu == Value.none)=true then _ else _) _ _ z;rw [if_neg (show ¬ ((Value.ref tu == Value.none)=true) from Bool.false_ne_true)];show wpAny _ _ (field (.ref nu) 1 >>= _) _ _ z;refine wpAny_bind (wpAny_field hon dn (x:=.int j 0) rfl ?_);show wpAny _ _ (seqItems? (.ref tu) >>= _) _ _ z;refine wpAny_bind (wpAny_seqItems hot dt ?_);simp only [Int.toNat_natCast,hy];refine wpAny_bind (wpAny_rule (wpAny_bind (wpAny_setField hon dn (by simp) ?_)));show wpAny _ _ (newExc (.type "StopIteration") [] >>= _) _ _ _;refine wpAny_bind ?_;simp only [newExc,newTuple];refine wpAny_bind (wpAny_newObj_type ?_ (by size_fits));refine wpAny_bind (m:=firstArgMember _ _) (wpAny_of_eq (a:=Value.none) (by first | rfl | (simp only [firstArgMember];rfl)) ?_);refine wpAny_newObj_type ?_ (by size_fits);simp only [raiseNew];refine wpAny_bind (wpAny_handled ?_)
 first | rw [show A.in1.handled=none from hh] | rw [hh]
 refine wpAny_bind (wpAny_pure (wpAny_throw ?_));exact hE _ _ (((Heap.SameBut.update ..).extBut.push _).push _) ⟨_,get?_push_size _ rfl,rfl⟩
end
end L2
namespace L2
open PySem PySem.Spec PyProof.Rows
end L2
namespace L2
open PySem PySem.Spec PyProof.Rows
def bmV:List Value:=[.type "ValueError",.type "Exception",.type "BaseException",.type "object"]
theorem ObjOk.has {P:Program} {w:World} {H:Hp} {h:Heap} {a:Addr} {o:HO} (x:ObjOk P w H h a o):∃ u,h.get? a=some u:=by
 cases o with
 | lst xs=>obtain ⟨_,_,_,_,e⟩:=x;exact ⟨_,e⟩
 | tup xs=>obtain ⟨_,_,_,ob,e,_⟩:=x;exact ⟨_,e⟩
 | dK kvs=>obtain ⟨_,_,_,_,o,_,_,e,_⟩:=x;exact ⟨_,e⟩
 | dT kvs=>obtain ⟨_,_,_,_,o,_,_,e,_⟩:=x;exact ⟨_,e⟩
 | set S n=>obtain ⟨o,_,_,_,e,_⟩:=x;exact ⟨_,e⟩
 | ins C dx fs=>obtain ⟨_,_,_,e,_⟩:=x;exact ⟨_,e⟩
 | own y=>exact x
 | xd fs=>obtain ⟨_,⟨_,_,_,e,_⟩,_⟩:=x;exact ⟨_,e⟩
 | rng lo hi=>obtain ⟨_,_,_,e⟩:=x;exact ⟨_,e⟩
 | frz ob u=>obtain ⟨e,_⟩:=x;exact ⟨_,e⟩
 | tbl ps=>exact ⟨_,(show h.get? a=some _ from x)⟩
 | met f y=>exact ⟨_,(show h.get? a=some _ from x)⟩
 | ext φ=>obtain ⟨_,e,_⟩:=x;exact e
theorem HOk.over {P:Program} {w:World} {H:Hp} {h h' B:Heap} (ok:HOk P w H h) (t:∀ b o,H b=some o->∃ u,B.get? b=some u) (k:B.StaysIn h) (k':B.StaysIn h'):HOk P w H h':=fun b u e=>by
 refine (ok b u e).stay (fun c v hc q=>?_) (fun _ q=>q) fun _ _ q=>q;have hc':∃ x,B.get? c=some x:=by
  rcases hc with z | z
  ·rw [z];exact t b u e
  ·exact t c _ z
 obtain ⟨x,hx⟩:=hc';have:=k c x hx;rw [q] at this;cases this;exact k' c _ hx
def Exc1 (P:Program) (w:World):CXT:=fun outer H s E e s'=>∃ (ea:Addr) (cls:Value) (H':Hp) (B:Heap) (a0:Value),e=.ref ea/\s'.os=s.os/\AllBare s'.gens/\Heap.FlyingW B outer ea cls a0 s'.heap/\
 Un (frs outer) [] H H' s.heap s'.heap/\HOk P w H' s'.heap/\H' ea=none/\s.heap.get? ea=none/\(∀ b o,H' b=some o->∃ u,B.get? b=some u)/\(∀ b u,s.heap.get? b=some u->b ∉ frs outer->∃ v,B.get? b=some v)/\E cls none H'
section
variable {P:Program} {w:World} {K:Frag} {mg:Str->Option Value} {base:Heap} {N:List Str} {qual:Str} {scope:Scope} {f:Addr} {cd:Value} {A:Around} {outer:List Env} {s0:Shared} {H0:Hp} {E:XK} {pins:List (Addr × Obj)} {σ:St} {H:Hp} {s:Shared}
theorem noFlds {h B:Heap} {l:List Env} (x:h.FunFrames B l) {b:Addr} (hb:b∈frs l):∃ o,h.get? b=some o/\∀ vs,o.data≠.fields vs:=(x.mem hb).2
theorem frs_cons {b:Addr} {env:Env} {L:Addr} (hf:env.frame=some L) {l:List Env}:b∈frs (env :: l)↔b=L\/b∈frs l:=by
 unfold frs;rw [List.filterMap_cons,hf];simp
theorem xe_made {ea:Addr} {cls:Value} {args:List Value} {h':Heap} (I:Inv (cxOf (Exc1 P w) P w K mg base N qual scope f cd A outer s0 H0 E) pins σ H s) (hx:Heap.MadeExcOf s.heap h' ea cls args) (q:E cls none H) :
  (cxOf (Exc1 P w) P w K mg base N qual scope f cd A outer s0 H0 E).xe (.ref ea) { s with heap:=h' }:=by
 have fr:s.heap.FunFrames base (envOfC qual scope s0.heap.objs.size f cd :: outer):=I.stack;have hin:∀ env∈(envOfC qual scope s0.heap.objs.size f cd :: outer),∀ b,env.frame=some b->b∈frs (envOfC qual scope s0.heap.objs.size f cd :: outer):=fun env he b hb=>List.mem_filterMap.mpr ⟨env,he,hb⟩;have fl:∀ {b:Addr},b∈frs (envOfC qual scope s0.heap.objs.size f cd :: outer)↔b=s0.heap.objs.size\/b∈frs outer:=frs_cons rfl;have inB:∀ b u,s.heap.get? b=some u->b ∉ frs (envOfC qual scope s0.heap.objs.size f cd :: outer)->(hideAll s.heap (frs (envOfC qual scope s0.heap.objs.size f cd :: outer))).get? b=some u:=fun b u e n=>PySem.W.hideAll_get _ e n;have nL:∀ b u,s0.heap.get? b=some u->b≠s0.heap.objs.size:=fun b u e=>Nat.ne_of_lt (lt_size e);have nf:∀ b u,s0.heap.get? b=some u->b ∉ frs outer->b ∉ frs (envOfC qual scope s0.heap.objs.size f cd :: outer):=fun b u e n z=>(fl.mp z).elim (nL b u e) n;refine wpAny_leaves_madeW (base:=hideAll s.heap (frs (envOfC qual scope s0.heap.objs.size f cd :: outer))) (h:=s.heap) (L:=s0.heap.objs.size) I.ok.frames rfl (fun b o z=>of_hideAll _ z) (PySem.W.funFrames_hide fr hin) hx fun h'' t fly tup nt ups=>?_;have up:∀ b o,s.heap.get? b=some o->b∈frs (envOfC qual scope s0.heap.objs.size f cd :: outer)->∃ sl,h''.get? b=some { o with slots:=sl }:=fun b o e hb=>by
  obtain ⟨o',e',nd⟩:=noFlds fr hb;rw [e] at e';cases e';exact ups b o (hx.keeps b o e) nd
 have there:∀ b o,s.heap.get? b=some o->∃ o',h''.get? b=some o':=fun b o e=>by
  by_cases hb:b∈frs (envOfC qual scope s0.heap.objs.size f cd :: outer)
  ·obtain ⟨sl,z⟩:=up b o e hb;exact ⟨_,z⟩
  ·exact ⟨o,fly.1 b o (inB b o e hb)⟩
 have trk:∀ b o,H b=some o->∃ u,(hideAll s.heap (frs (envOfC qual scope s0.heap.objs.size f cd :: outer))).get? b=some u:=fun b o e=>by
  obtain ⟨u,hu⟩:=(I.hok b o e).has;refine ⟨u,inB b u hu fun z=>?_⟩;have:=I.stkFree b z;rw [e] at this;cases this
 refine ⟨ea,cls,H,_,_,rfl,I.os,I.bare,fly,⟨fun b o e n hb _=>?_,fun b o e n hb _=>?_,fun b o e n hb=>I.base.free b o e n hb,fun b o e _=>?_,I.base.tups,I.base.frzs,I.base.tbls⟩,I.hok.over trk (fun b o z=>of_hideAll _ z) fly.1,?_,?_,trk,fun b u e n=>?_,q⟩
 ·exact fly.1 b o (inB b o (I.base.keep b o e n hb (by simp [cxOf])) (nf b o e hb))
 ·obtain ⟨sl,e1⟩:=I.base.slot b o e n hb (by simp [cxOf]);obtain ⟨sl',e2⟩:=up b _ e1 (fl.mpr (.inr hb));exact ⟨sl',e2⟩
 ·obtain ⟨o',e1⟩:=I.base.there b o e (by simp [cxOf]);exact there b o' e1
 ·cases z:H ea with
  | none=>rfl
  | some o =>
   obtain ⟨u,hu⟩:=(I.hok ea o z).has;have hnew:=hx.new;rw [hu] at hnew;cases hnew
 ·cases z:s0.heap.get? ea with
  | none=>rfl
  | some o =>
   obtain ⟨o',e1⟩:=I.base.there ea o z (by simp [cxOf]);have hnew:=hx.new;rw [e1] at hnew;cases hnew
 ·obtain ⟨o',e1⟩:=I.base.there b u e (by simp [cxOf]);exact ⟨o',inB b o' e1 (nf b u e n)⟩
theorem pass1:Passes (Exc1 P w) (cxOf (Exc1 P w) P w K mg base N qual scope f cd A outer s0 H0 E) E:=by
 rintro pins σ H s e s' I ⟨ea,cls,H',B,a0,rfl,os,bare,fly,un,hok,hea,new,trk,inB,q⟩;have fl:∀ {b:Addr},b∈frs (envOfC qual scope s0.heap.objs.size f cd :: outer)↔b=s0.heap.objs.size\/b∈frs outer:=frs_cons rfl;have nf:∀ b u,s0.heap.get? b=some u->b ∉ frs outer->b ∉ frs (envOfC qual scope s0.heap.objs.size f cd :: outer):=fun b u e n z=>(fl.mp z).elim (Nat.ne_of_lt (lt_size e)) n;have fly0:Heap.FlyingW B (envOfC qual scope s0.heap.objs.size f cd :: outer) ea cls a0 s'.heap:=fly;have un:Un (frs (envOfC qual scope s0.heap.objs.size f cd :: outer)) [] H H' s.heap s'.heap:=un;have inB:∀ b u,s.heap.get? b=some u->b ∉ frs (envOfC qual scope s0.heap.objs.size f cd :: outer)->∃ v,B.get? b=some v:=inB;refine wpAny_leaves_onW (L:=s0.heap.objs.size) I.ok.frames rfl fly0 fun h'' fly2 ups=>?_;have stay:∀ b o,s.heap.get? b=some o->b ∉ frs (envOfC qual scope s0.heap.objs.size f cd :: outer)->∀ o',s'.heap.get? b=some o'->h''.get? b=some o':=fun b o e n o' e'=>by
  obtain ⟨v,hv⟩:=inB b o e n;have:=fly0.1 b v hv;rw [e'] at this;cases this;exact fly2.1 b _ hv
 refine ⟨ea,cls,H',B,a0,rfl,os.trans I.os,bare,fly2,⟨fun b o e n hb _=>?_,fun b o e n hb _=>?_,fun b o e n _=>?_,fun b o e _=>?_,fun b xs e=>un.tups b xs (I.base.tups b xs e),fun b o u e=>un.frzs b o u (I.base.frzs b o u e),fun b ps e=>?_⟩,hok.over trk fly0.1 fly2.1,hea,?_,trk,fun b u e n=>?_,q⟩
 ·have e1:=I.base.keep b o e n hb (by simp [cxOf]);have n1:=I.base.free b o e n (by simp [cxOf]);exact stay b o e1 (nf b o e hb) o (un.keep b o e1 n1 (nf b o e hb) (by simp))
 ·obtain ⟨sl,e1⟩:=I.base.slot b o e n hb (by simp [cxOf]);have n1:=I.base.free b o e n (by simp [cxOf]);obtain ⟨sl',e2⟩:=un.slot b _ e1 n1 (fl.mpr (.inr hb)) (by simp);obtain ⟨o',e3,nd⟩:=noFlds fly0.2.2.1 (fl.mpr (.inr hb));rw [e2] at e3;cases e3;obtain ⟨sl'',e4⟩:=ups b _ e2 nd;exact ⟨sl'',e4⟩
 ·obtain ⟨o',e1⟩:=I.base.there b o e (by simp [cxOf]);exact un.free b o' e1 (I.base.free b o e n (by simp [cxOf])) (by simp)
 ·obtain ⟨o',e1⟩:=I.base.there b o e (by simp [cxOf]);obtain ⟨o2,e2⟩:=un.there b o' e1 (by simp);by_cases hb:b∈frs outer
  ·obtain ⟨o3,e3,nd⟩:=noFlds fly0.2.2.1 (fl.mpr (.inr hb));obtain ⟨sl,e4⟩:=ups b o3 e3 nd;exact ⟨_,e4⟩
  ·exact ⟨o2,stay b o' e1 (nf b o e hb) o2 e2⟩
 ·obtain ⟨m1,e1⟩:=I.base.tbls b ps e;obtain ⟨m2,e2⟩:=un.tbls b _ e1;exact ⟨m1 ++ m2,by rw [e2,Array.append_assoc]⟩
 ·cases z:s0.heap.get? ea with
  | none=>rfl
  | some o =>
   obtain ⟨o',e1⟩:=I.base.there ea o z (by simp [cxOf]);rw [e1] at new;cases new
 ·obtain ⟨o',e1⟩:=I.base.there b u e (by simp [cxOf]);exact inB b o' e1 (nf b u e n)
theorem passF {X:Cx}:Passes (Exc1 P w) X E0:=by
 rintro pins σ H s e s' I ⟨_,_,_,_,_,_,_,_,_,_,_,_,_,_,_,q⟩;exact False.elim q
theorem exc_obj {h:Heap} {C:Addr} {bmB:List Value} {nid:String} (X:K.In h) (q:excIn K C bmB nid=true) :
  ∃ bm N nm qn bs hdct sn sub ab col dd k0 k1 k2 k3 k5 mN,h.get? C=some (excClassObj nm qn C N bs bm hdct sn sub ab col dd k0 k1 k2 k3 k5 nid)/\h.Ns N mN/\mN "__init__"=none/\OwnTail h bmB bm:=by
 unfold excIn at q;split at q
 ·rename_i dd cdd sl ho;split at q
  ·rename_i C' bm k0 k1 k2 k3 n k5 hm hs;simp only [Bool.and_eq_true,beq_iff_eq,Bool.not_eq_true'] at q;obtain ⟨⟨⟨⟨⟨rfl,rfl⟩,q1⟩,q2⟩,q3⟩,q4⟩:=q;obtain ⟨nm,bs,mro,ns,qn,hd,sn,sub,ab,col,del⟩:=cdd;dsimp only at hm q1 q3 q4;subst hm q1;obtain ⟨l⟩:=sl;simp only at hs;subst hs;exact ⟨bm,ns,nm,qn,bs,hd,sn,sub,ab,col,dd,k0,k1,k2,k3,k5,_,X _ _ ho,.of_isNs (PySem.W.isNs_of_in X q3),PySem.W.nsMap_none_of_in X q3 q4,PySem.W.tail_of_in X q2⟩
  ·cases q
 ·cases q
theorem ps_raise {x:Str} {C:Addr} {msg:Str} {j:Nat} {p1 np cpos pos:Pos} (hg:Gl (cxOf (Exc1 P w) P w K mg base N qual scope f cd A outer s0 H0 E) x) (hm:mg x=some (.ref C)) (q:excIn K C bmV "ValueError.__new__"=true) (hdb:(x == ("__debug__":Str))=false:=by decide) :
  PS (cxOf (Exc1 P w) P w K mg base N qual scope f cd A outer s0 H0 E) (.Raise (some (.Call (.Name x np) [.Constant (.str msg) j p1] [] cpos)) none pos) (fun D σ H=>E (.ref C) none H):=by
 intro pins s σ H D I h;obtain ⟨bm,NN,nm,qn,bs,hdct,sn,sub,ab,col,dd,k0,k1,k2,k3,k5,mN,hC,hN,hni,T⟩:=exc_obj (I.ok.mod.kin) q;refine wpAny_Raise_call_subT (C:=C) (nm:=nm) (q:=qn) (N:=NN) (bs:=bs) (bm:=bm) (hdct:=hdct) (sn:=sn) (sub:=sub) (ab:=ab) (col:=col) (dd:=dd) (k0:=k0) (k1:=k1) (k2:=k2) (k3:=k3) (k5:=k5)
  PySem.F.excBase_ValueError (mN:=mN) (T.hasType PySem.F.excBase_ValueError.hasBase) (I.ok.hd rfl) rfl hni (ld_glob I hg hm ⟨rfl,?_⟩ hdb)
 refine Calls.evalArgs_plain (thn ((pa_cons (pe_str (X:=cxOf (Exc1 P w) P w K mg base N qual scope f cd A outer s0 H0 E)) J1) cpos pins s σ H (fun vs H'=>H'=H/\vs.length=1) I ⟨rfl,rfl⟩) fun us s2 h9=>?_);obtain ⟨vs,H2,I2,r,e2,e3⟩:=h9;subst e2;have hl:us.length<=sizeLine:=by rw [<- r.length,e3];decide
 exact ⟨rfl,hl,I2.bk _ _ hC,hN.keeps I2.bk,T.keeps I2.bk,fun h' e hm=>xe_made I2 hm h⟩
end
end L2
namespace L2
open PySem PySem.Spec PyProof.Rows
theorem Fun.okX {P:Program} {w:World} {K:Frag} {mg:Str->Option Value} {base:Heap} {x qual:Str} {st:Stmt} {f:Addr} {fd:FuncData} {N ps:List Str} {k:Nat} {sp:Sp} (F:Fun K x qual st f fd) (S:FnScope N ps (J8 st)) (len:∀ vs H Q E,sp vs H Q E->vs.length=ps.length)
  (hbody:∀ (cdv:Value) (A:Around) (outer:List Env) (s:Shared) (H:Hp) (vs:List V) (Q:VK) (E:XK),Room k (A.deeper (envOfC qual (J8 st) s.heap.objs.size f cdv))->sp vs H Q E->
   ∃ t,PSs (cxOf (Exc1 P w) P w K mg base N qual (J8 st) f cdv A outer s H E) (J1e st) t/\t { nx:=fun _ H'=>Q .non H',rt:=Q } (start N vs) H):FnOk P w K mg base (Exc1 P w) (k + 1) f fd ps sp:=by
 obtain ⟨oc,od,kV,doc,pm,an,cdv,ct,osl,rfl,lk,hcd⟩:=F.ex;exact fn_of lk hcd S len fun A outer s H vs Q E hr hsp=>hbody cdv A outer s H vs Q E hr hsp
end L2
namespace L2
open PySem PySem.Spec PyProof.Rows
end L2
namespace L2
open PySem PySem.Spec PyProof.Rows
end L2
namespace L2
open PySem PySem.Spec PyProof.Rows
def PTs (X:Cx) (ifs:List Expr) (t:TT):Prop :=
 ∀ (pins:List (Addr × Obj)) (s:Shared) (σ:St) (H:Hp) (Q:Bool->Hp->Prop),Inv X pins σ H s->t σ H Q->
  wpAny (model X.prog X.w) X.A (forIn ifs true fun c r=>if r=true then do let ok <- isTrue c X.env (eval c X.env);pure (ForInStep.yield ok) else pure (ForInStep.yield r)) (TP X pins σ Q) X.xe s
def tYes:TT:=fun _ H Q=>Q true H
theorem pts_nil {X:Cx}:PTs X [] tYes:=fun _ s σ H Q I h=>wpAny_tests_nil ⟨H,I,h⟩
theorem pts_one {X:Cx} {c:Expr} {t:TT} (h:PT X c t):PTs X [c] t:=fun pins s σ H Q I q=>wpAny_tests_one (h pins s σ H Q I q)
theorem Jp {prog:Program} {w:World} {A:Around} {R:Result->Shared->Prop} {s:Shared} {elt target iter:Expr} {ifs:List Expr} {scope:Scope} {pos:Pos} {it acc:Value} {env:Env} (J:Nat->Shared->Prop)
  (turn:∀ n s,J n s->wpAny (model prog w) A (pyNext it) (fun r s₁=>match r with
   | none=>R (.ok .next) s₁
   | some v=>wpAny (model prog w) A (letOwnedTupleGo target it v) (fun _ s₁'=>wpAny (model prog w) A (assign target env v) (fun _ s₂ =>
     wpAny (model prog w) A (forIn ifs true fun c r=>if r=true then do let ok <- isTrue c env (eval c env);pure (ForInStep.yield ok) else pure (ForInStep.yield r)) (fun ok s₃ =>
      if ok=true then wpAny (model prog w) A (eval elt env) (fun x s₄ =>
       wpAny (model prog w) A (call (.builtin "list.append") [acc,x]) (fun _ s₅=>∃ m,m < n/\J m s₅) (fun _ _=>False) s₄) (fun _ _=>False) s₃
      else ∃ m,m < n/\J m s₃) (fun _ _=>False) s₂) (fun _ _=>False) s₁') (fun _ _=>False) s₁) (fun _ _=>False) s)
  (n:Nat) (h:J n s):codeAny (model prog w) A (.compLoop (.ListComp elt [⟨target,iter,ifs,0⟩] scope pos) 0 it acc env) R s:=by
 refine codeAny_loop rfl J (fun n s hI=>?_) n h;show wpAny _ _ ((compTurn (.ListComp elt [⟨target,iter,ifs,0⟩] scope pos) 0 it acc env).onRaise (fun x=>do noteFrame x env;theTreesLotGoes x)) _ _ s;refine wpAny_noted ?_;rw [compTurn_list];refine wpAny_bind (wpAny_standAt (wpAny_bind (wpAny_mono (turn n s hI) (fun r s₁ h₁=>?_) fun _ _ h'=>False.elim h')))
 cases r with
 | none=>exact wpAny_pure h₁
 | some v =>
  refine wpAny_bind (wpAny_mono h₁ (fun _ s₁' h₁'=>?_) fun _ _ h'=>False.elim h');refine wpAny_bind (wpAny_mono h₁' (fun _ s₂ h₂=>wpAny_bind (wpAny_mono h₂ (fun ok s₃ h₃=>?_) fun _ _ h'=>False.elim h')) fun _ _ h'=>False.elim h')
  cases ok with
  | false=>exact wpAny_pure ⟨rfl,h₃⟩
  | true =>
   exact wpAny_bind (wpAny_bind (wpAny_mono h₃ (fun x s₄ h₄=>wpAny_bind (wpAny_mono h₄ (fun _ s₅ h₅=>wpAny_pure (wpAny_pure ⟨rfl,h₅⟩)) fun _ _ h'=>False.elim h')) fun _ _ h'=>False.elim h'))
def LCW (J:It) (tc:TT) (te:TE) (σ:St) (js:List Nat) (Q:VK) (H1:Hp) (d:Addr):Prop:=∃ W:Nat->Nat->List V->Hp->Prop,(∃ m,W 0 m [] (upd H1 d (.lst [])))/\
 ∀ i m ys H2,W i m ys H2->H2 d=some (.lst ys)/\((J.stop i H2/\Q (.ref d) H2)\/(J.go i H2/\ys.length < sizeLine/\∀ v H3,J.yld i H2 v H3->
  tc (some v :: capv σ js) H3 fun b H4=>if b=true then te (some v :: capv σ js) H4 fun y H5=>H5 d=some (.lst ys)/\∃ m',m' < m/\W (i + 1) m' (ys ++ [y]) (upd H5 d (.lst (ys ++ [y])))
   else ∃ m',m' < m/\W (i + 1) m' ys H4))
def tLC (wi:TI) (tc:TT) (te:TE) (js:List Nat):TE:=fun σ H Q=>wi σ H fun J H1=>∀ d,H1 d=none->LCW J tc te σ js Q H1 d
section
variable {X:Cx} {elt iter:Expr} {ifs:List Expr} {x y:Str} {px py:Pos} {scope:Scope} {cl:List (Str × Addr)} {pos spos:Pos} {wi:TI} {tc:TT} {te:TE} {caps:List Str} {js:List Nat} {i:Nat}
theorem comp_core {p0:Pos} {use:Option (Value->Sem Unit)} {QV:Value->Shared->Prop} {Q:VK} {pins:List (Addr × Obj)} {s:Shared} {σ:St} {H:Hp} (hc:X.calm=true) (hp:PI X (.Name x px) iter wi)
  (he:∀ (C:Addr) (fp:List Addr) (s:Shared) (H:Hp),PE (X.block (x :: caps) scope cl C fp s H) elt te)
  (ht:∀ (C:Addr) (fp:List Addr) (s:Shared) (H:Hp),PTs (X.block (x :: caps) scope cl C fp s H) ifs tc)
  (hcell:∀ p∈scope.names,p.2≠.cell) (hnames:∀ p∈scope.names,p.2=.local->scope.names.lookup p.1=some .local) (hnd:(x :: caps).Nodup)
  (hsub:∀ p∈cl,X.env.cells.lookup p.1=some p.2) (hhas:∀ p∈scope.names,p.2=.free->∃ c,cl.lookup p.1=some c) (hlen:caps.length=js.length)
  (hcaps:∀ (k:Nat) (c:Str),caps[k]?=some c->∃ (j:Nat) (a:Addr),js[k]?=some j/\X.N[j]?=some c/\X.env.scope.names.lookup c=some .cell/\cl.lookup c=some a/\(relabel scope X.env).names.lookup c=some .cell)
  (hclos:closureFor scope X.env=pure cl) (hkind:scope.kind=.function) (hx:scope.names.lookup x=some .local) (hs:∀ v,foldedSetIterable iter X.env v=pure v)
  (I:Inv X pins σ H s) (h:tLC wi tc te js σ H Q)
  (fin:∀ (d:Addr) (H':Hp) (s5:Shared) (C:Addr),Inv X pins σ H' s5->Q (.ref d) H'->(∃ m,s5.heap.Ns C m)->FpOk X pins H' C->compPost (model X.prog X.w) X.A X.xe use QV (.ref d) C (.ok .next) s5) :
  wpAny (model X.prog X.w) X.A (comprehension (.ListComp elt [⟨.Name x px,iter,ifs,0⟩] scope pos) scope X.env p0 (newList []) false (eval iter X.env) use) QV X.xe s:=by
 refine wpAny_comprehension_free (cl:=cl) (use:=use) (Q:=QV) rfl hs hclos hkind hnames (thn (hp pins s σ H _ I h) fun v s1 h1=>thn h1 fun itv s2 h2=>?_);obtain ⟨it,fp,tn,J,H2,e,I2,T,st2,f2,h3⟩:=h2;subst e;have hfr:H2 s2.heap.objs.size=none:=I2.hok.fresh (Nat.le_refl _);obtain ⟨W,⟨m0,w0⟩,hW⟩:=h3 s2.heap.objs.size hfr;refine wpAny_newObj_type (wpAny_newFunctionEnv hcell (by intro y hy;simp at hy) (fun h₁ hns₁ hsb₁=>?_) hkind);dsimp only at hns₁ hsb₁ ⊢;generalize hH2:s2.heap.push { cls:=.type "list",dict:=none,data:=.seq ([]:List Value).toArray }=G at hns₁ hsb₁ ⊢;have hC:G.objs.size=s2.heap.objs.size + 1:=by rw [<- hH2,size_push]
 have hDC:s2.heap.objs.size≠G.objs.size:=by rw [hC];exact Nat.ne_of_lt (Nat.lt_succ_self _)
 have hCle:s2.heap.objs.size<=G.objs.size:=by rw [hC];exact Nat.le_succ _
 have old:∀ b o,s2.heap.get? b=some o->h₁.get? b=some o:=fun b o e=>hsb₁.extBut b o (by rw [hC];exact Nat.ne_of_lt (Nat.lt_succ_of_lt (lt_size e))) (get?_push_of_some _ (hH2 ▸ get?_push_of_some _ e));have hacc:h₁.get? s2.heap.objs.size=some { cls:=.type "list",dict:=none,data:=.seq ([]:List Value).toArray }:=hsb₁.extBut _ _ hDC (get?_push_of_some _ (hH2 ▸ get?_push_size _ rfl));have fl:∀ b∈fp,b < s2.heap.objs.size:=fun b hb=>by
  obtain ⟨o,e,_⟩:=T.obj _ _ st2 b hb;exact lt_size e
 have hDf:s2.heap.objs.size ∉ fp:=fun hm=>Nat.lt_irrefl _ (fl _ hm);have hok1:HOk X.prog X.w (upd H2 s2.heap.objs.size (.lst [])) h₁:=I2.hok.laid old (Nat.le_refl _) ⟨Nat.zero_le _,[],0,.nil,hacc⟩;have IY0:∀ tk,Inv (X.block (x :: caps) scope cl G.objs.size fp s2 H2) [] (none :: capv σ js) (upd H2 s2.heap.objs.size (.lst [])) { s2 with heap:=h₁,toks:=tk }:=fun tk=>by
  refine ⟨J2g I2 hCle f2 fl hkind hcell hsub hhas,rfl,I2.bare,Un.laid old (Nat.le_refl _) hfr,⟨_,hns₁,fun k z v e1 e2 e3=>?_⟩,fun z c e=>?_,?_,fun z c e=>?_,fun p hp=>absurd hp (by simp),hok1,?_⟩
  ·cases k with
   | zero=>simp at e2
   | succ k =>
    have e1':caps[k]?=some z:=by simpa using e1
    have e2':(capv σ js)[k]?=some (some v):=by simpa using e2
    obtain ⟨j,a,q1,q2,q3,q4,q5⟩:=hcaps k z e1';obtain ⟨j',r1,r2⟩:=capv_get e2';rw [q1] at r1;cases r1;obtain ⟨m,hm,hl⟩:=I2.loc;obtain ⟨u,ru,lu⟩:=hl j z v q2 r2 (.inr (.inl q3));refine ⟨u,ru,.inr ⟨.inl q5,a,q4,?_⟩⟩;rcases lu with ⟨k1,_⟩ | ⟨_,c,ec,o,ho,hd⟩
    ·have k1':X.env.scope.names.lookup z=some .local:=k1;rw [q3] at k1';cases k1'
    ·have:=hsub _ (mem_of_lookup q4);rw [ec] at this;cases this;exact ⟨o,old _ _ ho,hd⟩
  ·obtain ⟨v,o,ho,hd⟩:=I2.cell z c (hsub _ (mem_of_lookup e));exact ⟨v,o,old _ _ ho,hd⟩
  ·show upd H2 s2.heap.objs.size (.lst []) G.objs.size=none;rw [Jb hDC.symm];exact I2.hok.fresh hCle
  ·have ec:=hsub _ (mem_of_lookup e);obtain ⟨v,o,ho,hd⟩:=I2.cell z c ec;rw [Jb (Nat.ne_of_lt (lt_size ho))];exact I2.freeC z c ec
  ·show (none :: capv σ js).length=(x :: caps).length;unfold capv;simp [hlen]
 have stat:∀ {H':Hp},(∀ b∈fp,H' b=none)->∀ b∈fp,FpOk (X.block (x :: caps) scope cl G.objs.size fp s2 H2) [] H' b:=fun hn b hb =>
  ⟨hn b hb,Nat.ne_of_lt (Nat.lt_of_lt_of_le (fl b hb) hCle),(J2g (x:=x) (caps:=caps) I2 hCle f2 fl hkind hcell hsub hhas).exfs b hb,.inl hb,fun z c e=>(f2 b hb).2.2.2.2.1 z c (hsub _ (mem_of_lookup e)),fun p hp=>absurd hp (by simp)⟩
 have hxl:(relabel scope X.env).names.lookup x=some .local:=lookup_relabel_local hx;have loop:∀ tk,codeAny (model X.prog X.w) X.A (.compLoop (.ListComp elt [⟨.Name x px,iter,ifs,0⟩] scope pos) 0 (.ref it) (.ref s2.heap.objs.size) (compEnvC scope cl G.objs.size X.env))
   (compPost (model X.prog X.w) X.A X.xe use QV (.ref s2.heap.objs.size) G.objs.size) { s2 with heap:=h₁,toks:=tk }:=fun tk=>by
  refine Jp (fun m s'=>∃ (k:Nat) (o:Option V) (ys:List V) (H':Hp),Inv (X.block (x :: caps) scope cl G.objs.size fp s2 H2) [] (o :: capv σ js) H' s'/\tn k s'.heap/\(∀ b∈fp,H' b=none)/\W k m ys H') ?_ m0
   ⟨0,none,[],_,IY0 tk,T.keep _ _ _ st2 fun b hb o e=>old b o e,fun b hb=>by
    rw [Jb (show b≠s2.heap.objs.size from fun e=>hDf (by rw [<- e];exact hb))];exact (f2 b hb).1,w0⟩
  rintro m s3 ⟨k,o,ys,H',I3,st3,fr3,w3⟩;obtain ⟨hd,hW3⟩:=hW k m ys H' w3;rcases hW3 with ⟨stop,q⟩ | ⟨go,hz,step⟩
  ·refine thn (T.done (X.block (x :: caps) scope cl G.objs.size fp s2 H2) rfl rfl rfl hc k [] s3 _ _ (fun _ _=>False) I3 (stat fr3) st3 stop) fun r s4 h9=>?_;obtain ⟨hr,I4⟩:=h9;subst hr;have J5:Inv X pins σ H' s4:=I2.call' (ch:=fp) I4.os I4.base I4.hok I4.bare fun b hb=>⟨(f2 b hb).2.2.2.1,(f2 b hb).2.1,(f2 b hb).2.2.2.2.1,(f2 b hb).2.2.2.2.2⟩;exact fin _ H' s4 _ J5 q (by obtain ⟨m,q,_⟩:=I4.loc;exact ⟨m,q⟩) (I2.fpOk hCle I4.free)
  ·refine thn (T.item (X.block (x :: caps) scope cl G.objs.size fp s2 H2) rfl rfl rfl hc k [] s3 _ _ (fun _ _=>False) I3 (stat fr3) st3 go) fun r s4 h9=>?_;obtain ⟨u,hr,h4⟩:=h9;subst hr;refine thn h4 fun _ s5 h9=>?_;obtain ⟨v,H5,I5,r5,y5,st5,fr5⟩:=h9;have I5':=I5.pinned (stat fr5) (T.obj _ _ st5);have stp:=step v H5 y5;refine thn (Jv (X:=X.block (x :: caps) scope cl G.objs.size fp s2 H2) (i:=0) (pos:=px) hnd rfl (.inl hxl) (.inr hxl) _ s5 _ _ _ u
    (fun σ' H'=>σ'=some v :: capv σ js/\H'=H5) I5' r5 ⟨rfl,rfl⟩) fun _ s6 h9=>?_
   obtain ⟨σ6,H6,I6,q6⟩:=h9;obtain ⟨rfl,rfl⟩:=q6;refine thn (ht _ _ _ _ _ s6 _ _ _ I6 stp) fun ok s7 h9=>?_;obtain ⟨H7,I7,q7⟩:=h9;have back:∀ {s8:Shared} {H8:Hp} {o8:Option V} {ys8:List V} {m':Nat},Inv (X.block (x :: caps) scope cl G.objs.size fp s2 H2) ([] ++ pinsAt fp s5.heap) (o8 :: capv σ js) H8 s8->m' < m->W (k + 1) m' ys8 H8->
     ∃ m',m' < m/\∃ (k:Nat) (o:Option V) (ys:List V) (H':Hp),Inv (X.block (x :: caps) scope cl G.objs.size fp s2 H2) [] (o :: capv σ js) H' s8/\tn k s8.heap/\(∀ b∈fp,H' b=none)/\W k m' ys H':=fun {s8 H8 o8 ys8 m'} I8 hm w8=>by
    refine ⟨m',hm,k + 1,o8,ys8,H8,I8.unpinned,T.keep _ _ _ st5 fun b hb o e=>(I8.pin (b,o) (mem_append_right _ (mem_append_right _ (Jw hb e)))).1,fun b hb=>?_,w8⟩;obtain ⟨o,e,d⟩:=T.obj _ _ st5 b hb;exact (I8.pin (b,o) (mem_append_right _ (mem_append_right _ (Jw hb e)))).2.1
   cases ok with
   | false =>
    have q7':∃ m',m' < m/\W (k + 1) m' ys H7:=by
     have:=q7;rwa [if_neg (by decide)] at this
    obtain ⟨m',hm,w8⟩:=q7';exact back I7 hm w8
   | true =>
    have q7':te (some v :: capv σ js) H7 fun y H5=>H5 s2.heap.objs.size=some (.lst ys)/\∃ m',m' < m/\W (k + 1) m' (ys ++ [y]) (upd H5 s2.heap.objs.size (.lst (ys ++ [y]))):=by
     have:=q7;rwa [if_pos rfl] at this
    refine (show wpAny _ _ _ _ _ _ from thn (he _ _ _ _ _ s7 _ _ _ I7 q7') fun u8 s8 h9=>?_);obtain ⟨v8,H8,I8,r8,hd8,m',hm,w8⟩:=h9;refine thn (J12 (X:=X.block (x :: caps) scope cl G.objs.size fp s2 H2) _ s8 _ _ (.ref s2.heap.objs.size) [v8] (.ref s2.heap.objs.size) [u8]
     (fun _ H'=>H'=upd H8 s2.heap.objs.size (.lst (ys ++ [v8]))) I8 rfl (.cons r8 .nil) ⟨s2.heap.objs.size,_,v8,rfl,rfl,hd8,hz,rfl⟩) fun _ s9 h9=>?_
    obtain ⟨_,H9,I9,_,q9⟩:=h9;subst q9;exact back I9 hm w8
 have st1:tn 0 h₁:=T.keep _ _ _ st2 fun b hb o e=>old b o e;exact codeAny_compStart_list (loop _) (T.self X.A 0 _ _ _ st1 (loop _))
def capsOk (X:Cx) (scope:Scope) (cl:List (Str × Addr)) (caps:List Str) (js:List Nat):Bool :=
 (caps.zip js).all fun q=>X.N[q.2]? == some q.1 && X.env.scope.names.lookup q.1 == some .cell && (cl.lookup q.1).isSome && (relabel scope X.env).names.lookup q.1 == some .cell
theorem capsOk.get (hlen:caps.length=js.length) (h:capsOk X scope cl caps js=true):∀ (k:Nat) (c:Str),caps[k]?=some c->∃ (j:Nat) (a:Addr),js[k]?=some j/\X.N[j]?=some c/\X.env.scope.names.lookup c=some .cell/\cl.lookup c=some a/\(relabel scope X.env).names.lookup c=some .cell:=fun k c hk=>by
 have hkl:k < caps.length:=(List.getElem?_eq_some_iff.mp hk).1;have hj:js[k]?=some (js[k]'(hlen ▸ hkl)):=List.getElem?_eq_getElem (hlen ▸ hkl);have hm:(c,js[k]'(hlen ▸ hkl))∈caps.zip js:=by
  refine List.mem_iff_getElem?.mpr ⟨k,?_⟩;rw [List.getElem?_zip_eq_some];exact ⟨hk,hj⟩
 have:=List.all_eq_true.mp h _ hm;simp only [Bool.and_eq_true,beq_iff_eq] at this;obtain ⟨⟨⟨q1,q2⟩,q3⟩,q4⟩:=this;obtain ⟨a,ha⟩:=Option.isSome_iff_exists.mp q3;exact ⟨_,a,hj,q1,q2,ha,q4⟩
def freeOk (scope:Scope) (cl:List (Str × Addr)):Bool:=scope.names.all fun p=>p.2 != .free || (cl.lookup p.1).isSome
theorem freeOk.get (h:freeOk scope cl=true):∀ p∈scope.names,p.2=.free->∃ c,cl.lookup p.1=some c:=fun p hp' e=>by
 have:=List.all_eq_true.mp h p hp';rw [e] at this;exact Option.isSome_iff_exists.mp (by simpa using this)
theorem pe_lc (hc:X.calm=true) (hp:PI X (.Name x px) iter wi) (hclos:closureFor scope X.env=pure cl)
  (ht:∀ (C:Addr) (fp:List Addr) (s:Shared) (H:Hp),PTs (X.block (x :: caps) scope cl C fp s H) ifs tc)
  (he:∀ (C:Addr) (fp:List Addr) (s:Shared) (H:Hp),PE (X.block (x :: caps) scope cl C fp s H) elt te)
  (hcell:∀ p∈scope.names,p.2≠.cell) (hnames:∀ p∈scope.names,p.2=.local->scope.names.lookup p.1=some .local) (hnd:(x :: caps).Nodup)
  (hsub:∀ p∈cl,X.env.cells.lookup p.1=some p.2)
  (hhas:freeOk scope cl=true:=by rfl) (hlen:caps.length=js.length:=by rfl) (hcaps:capsOk X scope cl caps js=true:=by rfl)
  (hkind:scope.kind=.function:=by rfl) (hx:scope.names.lookup x=some .local:=by rfl) (hs:∀ v,foldedSetIterable iter X.env v=pure v:=by intro _;rfl) :
  PE X (.ListComp elt [⟨.Name x px,iter,ifs,0⟩] scope pos) (tLC wi tc te js):=by
 intro pins s σ H Q I h;rw [eval_ListComp];refine comp_core (use:=none) hc hp he ht hcell hnames hnd hsub (freeOk.get hhas) hlen (capsOk.get hlen hcaps) hclos hkind hx hs I h fun d H' s5 C J5 q hC fp=>?_;obtain ⟨m,nsC⟩:=hC;exact ⟨m,nsC,fun h' hs'=>⟨.ref d,H',J5.turned (h':=h') (t':=s5.toks) (it:=C) (fun b o hb e=>(hs'.2 b hb).trans e) fp.1 fp.2.1 fp.2.2.2.1 fp.2.2.2.2.1 fp.2.2.2.2.2,rfl,q⟩⟩
def tSetLC (t:TE) (i:Nat):TS:=fun D σ H=>t σ H fun v H'=>D.nx (σ.set i (some v)) H'
theorem ps_lc (hN:X.N.Nodup) (hi:X.N[i]?=some y) (hy:Loc X.env.scope y) (hc:X.calm=true) (hp:PI X (.Name x px) iter wi) (hclos:closureFor scope X.env=pure cl)
  (ht:∀ (C:Addr) (fp:List Addr) (s:Shared) (H:Hp),PTs (X.block (x :: caps) scope cl C fp s H) ifs tc)
  (he:∀ (C:Addr) (fp:List Addr) (s:Shared) (H:Hp),PE (X.block (x :: caps) scope cl C fp s H) elt te)
  (hcell:∀ p∈scope.names,p.2≠.cell) (hnames:∀ p∈scope.names,p.2=.local->scope.names.lookup p.1=some .local) (hnd:(x :: caps).Nodup)
  (hsub:∀ p∈cl,X.env.cells.lookup p.1=some p.2)
  (hhas:freeOk scope cl=true:=by rfl) (hlen:caps.length=js.length:=by rfl) (hcaps:capsOk X scope cl caps js=true:=by rfl)
  (hf:X.fn y=true\/X.env.scope.names.lookup y=some .local:=by first | exact .inl rfl | exact .inr rfl | assumption)
  (hsw:swapsWith (.ListComp elt [⟨.Name x px,iter,ifs,0⟩] scope pos) (some (.Name y py)) spos.line X.env=pure true:=by rfl)
  (hkind:scope.kind=.function:=by rfl) (hx:scope.names.lookup x=some .local:=by rfl) (hs:∀ v,foldedSetIterable iter X.env v=pure v:=by intro _;rfl) :
  PS X (.Assign [.Name y py] (.ListComp elt [⟨.Name x px,iter,ifs,0⟩] scope pos) spos) (tSetLC (tLC wi tc te js) i):=by
 intro pins s σ H D I h;rw [exec_Assign_Name_used _ _ _ _ hsw];refine wpAny_bind (wpAny_standAt (wpAny_bind ?_));show wpAny _ X.A (do let _ <- comprehension (.ListComp elt [⟨.Name x px,iter,ifs,0⟩] scope pos) scope X.env _ (newList []) false (eval iter X.env) (some (assign (.Name y py) X.env))) _ _ s;refine wpAny_bind (wpAny_mono (comp_core (use:=some (assign (.Name y py) X.env)) (QV:=fun _ s'=>SP X pins D .next s') hc hp he ht hcell hnames hnd hsub (freeOk.get hhas) hlen (capsOk.get hlen hcaps) hclos hkind hx hs I h fun d H' s5 C J5 q hC fp=>?_)
  (fun _ s' hq=>wpAny_pure (wpAny_pure hq)) fun _ _ e=>e)
 obtain ⟨mC,nsC⟩:=hC;show wpAny _ X.A (assign (.Name y py) X.env (.ref d)) _ _ s5;refine wpAny_assign_Name ?_;refine store_ok2 J5 hN hi hy (v:=.ref d) rfl (fun s6 I6 keep6=>?_) hf;obtain ⟨a,sa,ha⟩:=keep6;have aC:a≠C:=by
  rcases ha with e | e
  ·rw [e];exact Ne.symm fp.2.1
  ·exact fp.2.2.2.2.1 y a e
 exact ⟨mC,nsC.sameBut sa (Ne.symm aC),fun h' hs'=>⟨_,H',I6.turned (h':=h') (t':=s6.toks) (it:=C) (fun b o hb e=>(hs'.2 b hb).trans e) fp.1 fp.2.1 fp.2.2.2.1 fp.2.2.2.2.1 fp.2.2.2.2.2,q⟩⟩
end
theorem lc_over {J:It} {H1:Hp} {tc:TT} {te:TE} {σ:St} {js:List Nat} {Q:VK} {d:Addr} (n:Nat) (g:Nat->Bool) (f:Nat->V) (hd:H1 d=none) (hn:n<=1000)
  (hgo:∀ i H,i < n->Same H1 H->J.go i H) (hst:∀ H,Same H1 H->J.stop n H) (vv:Nat->V) (hy:∀ i H v H',i < n->Same H1 H->J.yld i H v H'->H'=H/\v=vv i)
  (hs:∀ i H Qt,i < n->Same H1 H->(∀ H',Same H H'->Qt (g i) H')->tc (some (vv i) :: capv σ js) H Qt)
  (he:∀ i H Qe,i < n->g i=true->Same H1 H->(∀ H',Same H H'->Qe (f i) H')->te (some (vv i) :: capv σ js) H Qe)
  (hq:∀ H',Same H1 H'->H' d=some (.lst (((List.range n).filter g).map f))->Q (.ref d) H') :
  ∃ W:Nat->Nat->List V->Hp->Prop,(∃ m,W 0 m [] (upd H1 d (.lst [])))/\
   ∀ i m ys H2,W i m ys H2->H2 d=some (.lst ys)/\((J.stop i H2/\Q (.ref d) H2)\/(J.go i H2/\ys.length < sizeLine/\∀ v H3,J.yld i H2 v H3->
    tc (some v :: capv σ js) H3 fun b H4=>if b=true then te (some v :: capv σ js) H4 fun y H5=>H5 d=some (.lst ys)/\∃ m',m' < m/\W (i + 1) m' (ys ++ [y]) (upd H5 d (.lst (ys ++ [y])))
     else ∃ m',m' < m/\W (i + 1) m' ys H4)):=by
 have s0:∀ o,Same H1 (upd H1 d o):=fun o b u e=>by rw [Jb (J3 e hd)];exact e
 refine ⟨fun i m ys H=>m=n - i/\i<=n/\ys=((List.range i).filter g).map f/\Same H1 H/\H d=some (.lst ys),⟨n,rfl,Nat.zero_le _,rfl,s0 _,J0⟩,?_⟩;rintro i m ys H2 ⟨rfl,hi,rfl,sm,h2⟩;refine ⟨h2,?_⟩;by_cases hlt:i < n
 ·refine .inr ⟨hgo i H2 hlt sm,?_,fun v H3 y3=>?_⟩
  ·have h1:(((List.range i).filter g).map f).length<=i:=by
    rw [length_map];exact Nat.le_trans (List.length_filter_le _ _) (by rw [length_range];exact Nat.le_refl _)
   exact Jg (by omega)
  ·obtain ⟨rfl,rfl⟩:=hy i H2 v H3 hlt sm y3;refine hs i H3 _ hlt sm fun H4 s4=>?_
   cases hg:g i with
   | false =>
    rw [if_neg (by decide)];refine ⟨n - (i + 1),by omega,rfl,hlt,?_,sm.trans s4,s4 _ _ h2⟩;rw [range_succ,filter_append,map_append];simp [hg]
   | true =>
    rw [if_pos rfl];refine he i H4 _ hlt hg (sm.trans s4) fun H5 s5=>⟨s5 _ _ (s4 _ _ h2),n - (i + 1),by omega,rfl,hlt,?_,?_,J0⟩
    ·rw [range_succ,filter_append,map_append];simp [hg]
    ·intro b u e;rw [Jb (J3 e hd)];exact s5 _ _ (s4 _ _ (sm _ _ e))
 ·have e:i=n:=by omega
  subst e;exact .inl ⟨hst H2 sm,hq H2 sm h2⟩
theorem Same.tup {K:Frag} {H H':Hp} {a:Addr} {xs:List V} (e:Same H H') (h:SqT K H a xs):SqT K H' a xs:=by
 rcases h with (h | ⟨o,h⟩) | h
 ·exact .inl (.inl (e _ _ h))
 ·exact .inl (.inr ⟨o,e _ _ h⟩)
 ·exact .inr h
theorem pick_all {α:Type} (G:α->Bool) (F:α->V):∀ xs:List α,
  ((List.range xs.length).filter fun i=>match xs[i]? with | some v=>G v | none=>false).map (fun i=>match xs[i]? with | some v=>F v | none=>V.non)=(xs.filter G).map F
 | []=>rfl
 | a :: r=>by
  have ih:=pick_all G F r;rw [length_cons,List.range_succ_eq_map,List.filter_cons,List.filter_map,List.filter_cons];have e:(fun i=>match (a :: r)[i]? with | some v=>G v | none=>false) ∘ Nat.succ=fun i=>match r[i]? with | some v=>G v | none=>false:=by
   funext i;simp
  have e2:(fun i=>match (a :: r)[i]? with | some v=>F v | none=>V.non) ∘ Nat.succ=fun i=>match r[i]? with | some v=>F v | none=>V.non:=by
   funext i;simp
  rw [e]
  cases hg:G a with
  | true =>
   simp only [List.getElem?_cons_zero,hg,if_true,map_cons,map_map];rw [e2,ih]
  | false =>
   simp only [List.getElem?_cons_zero,hg,Bool.false_eq_true,if_false,map_map];rw [e2,ih]
section
variable {α:Type} {K:Frag} {a:Addr} {H1:Hp} {tc:TT} {te:TE} {σ:St} {js:List Nat} {Q:VK} {d:Addr}
theorem lc_seq {J:It} (e:α->V) (xs:List α) (G:α->Bool) (F:α->V) (hn:xs.length<=1000) (hd:H1 d=none)
  (hgo:∀ i H,i < xs.length->Same H1 H->J.go i H) (hst:∀ H,Same H1 H->J.stop xs.length H) (hy:∀ i H v H',i < xs.length->Same H1 H->J.yld i H v H'->H'=H/\(xs.map e)[i]?=some v)
  (hs:∀ v∈xs,∀ H Qt,Same H1 H->(∀ H',Same H H'->Qt (G v) H')->tc (some (e v) :: capv σ js) H Qt)
  (he:∀ v∈xs,∀ H Qe,G v=true->Same H1 H->(∀ H',Same H H'->Qe (F v) H')->te (some (e v) :: capv σ js) H Qe)
  (hq:∀ H',Same H1 H'->H' d=some (.lst ((xs.filter G).map F))->Q (.ref d) H'):LCW J tc te σ js Q H1 d:=by
 have at_:∀ i,i < xs.length->∃ v,xs[i]?=some v/\v∈xs:=fun i hi=>⟨_,List.getElem?_eq_getElem hi,getElem_mem hi⟩
 refine lc_over xs.length (fun i=>match xs[i]? with | some v=>G v | none=>false) (fun i=>match xs[i]? with | some v=>F v | none=>V.non) hd hn hgo hst (fun i=>((xs.map e)[i]?).getD .non)
  (fun i H v H' hi s y=>?_) (fun i H Qt hi s k=>?_) (fun i H Qe hi hg s k=>?_) (fun H' s h=>?_)
 ·obtain ⟨e1,e2⟩:=hy i H v H' hi s y;exact ⟨e1,by rw [e2];rfl⟩
 ·obtain ⟨v,e1,hv⟩:=at_ i hi
  rw [getElem?_map,e1];refine hs v hv H Qt s fun H' s'=>?_;have:=k H' s';rw [e1] at this;exact this
 ·obtain ⟨v,e1,hv⟩:=at_ i hi
  rw [e1] at hg;rw [getElem?_map,e1];refine he v hv H Qe hg s fun H' s'=>?_;have:=k H' s';rw [e1] at this;exact this
 ·rw [pick_all] at h;exact hq H' s h
theorem lc_lst (e:α->V) (xs:List α) (G:α->Bool) (F:α->V) (hx:SqL K H1 a (xs.map e)) (hn:xs.length<=1000) (hd:H1 d=none)
  (hs:∀ v∈xs,∀ H Qt,Same H1 H->(∀ H',Same H H'->Qt (G v) H')->tc (some (e v) :: capv σ js) H Qt)
  (he:∀ v∈xs,∀ H Qe,G v=true->Same H1 H->(∀ H',Same H H'->Qe (F v) H')->te (some (e v) :: capv σ js) H Qe)
  (hq:∀ H',Same H1 H'->H' d=some (.lst ((xs.filter G).map F))->Q (.ref d) H'):LCW (Itl K a) tc te σ js Q H1 d :=
 lc_seq e xs G F hn hd (fun i H hi s=>⟨_,_,s.seq hx,by rw [getElem?_map,List.getElem?_eq_getElem hi];rfl⟩) (fun H s=>⟨_,s.seq hx,by rw [length_map];exact Nat.le_refl _⟩)
  (fun i H v H' hi s y=>⟨y.1,y.2 _ (s.seq hx)⟩) hs he hq
theorem lc_rng (lo:Int) (n:Nat) (G:Nat->Bool) (F:Nat->V) (hn:n<=1000) (hd:H1 d=none)
  (hs:∀ i,i < n->∀ H Qt,Same H1 H->(∀ H',Same H H'->Qt (G i) H')->tc (some (.int (lo + i)) :: capv σ js) H Qt)
  (he:∀ i,i < n->∀ H Qe,G i=true->Same H1 H->(∀ H',Same H H'->Qe (F i) H')->te (some (.int (lo + i)) :: capv σ js) H Qe)
  (hq:∀ H',Same H1 H'->H' d=some (.lst (((List.range n).filter G).map F))->Q (.ref d) H'):LCW (Itr lo n) tc te σ js Q H1 d :=
 lc_over n G F hd hn (fun i H hi _=>hi) (fun H _=>Nat.le_refl _) (fun i=>.int (lo + i)) (fun i H v H' hi _ y=>y) (fun i H Qt hi s k=>hs i hi H Qt s k) (fun i H Qe hi hg s k=>he i hi H Qe hg s k) hq
end
theorem J1r {α:Type} (xs:List α):xs.filter (fun _=>true)=xs:=List.filter_eq_self.mpr fun _ _=>rfl
theorem pe_ixr {X:Cx} {a b:Expr} {pos:Pos} {ta tb:TE} {r:R2} (hr:IxR X r) (ha:PE X a ta) (hb:PE X b tb) (hs:PlainIx b:=by intro _ _;rfl):PE X (.Subscript a b pos) (tOp r ta tb):=pe_ix hr ha hb hs
end L2
namespace L2
open PySem PySem.Spec PyProof.Rows
section
variable {X:Cx}
def rIndexL (K:Frag):V->List V->Hp->VK->Prop:=fun x vs H Q=>∃ (l:Addr) (ns:List Int) (k:Int),x=.ref l/\vs=[.int k]/\SqL K H l (ns.map V.int)/\k∈ns/\Q (.int (ns.idxOf k:Nat)) H
theorem mt_indexL:MtM X "list.index" (rIndexL X.K):=by
 intro pins s σ H x vs v us Q I rx rv h;obtain ⟨l,ns,k,rfl,rfl,hH,hk,q⟩:=h;cases rx;obtain ⟨u1,rfl,⟨t,rfl⟩⟩:=rv.one;obtain ⟨its,r',pl,hz⟩:=I.list hH;have hi:=Jl r';have hlen:=hi.length;obtain ⟨⟨cls,dd,data,sl⟩,ho,hc,n,hd⟩:=id pl.isList;simp only at hc hd;subst hc hd;have hj:ns.idxOf k < ns.length:=List.idxOf_lt_length_iff.mpr hk;have h63:=J3e;rw [length_map] at hz;refine call_meets PySem.F.slot_list_index ⟨_,ho,rfl⟩ PySem.F.entry_list_index (PySem.F.args_list_index_2 _ _)
  (SeqAt.list_indexAt l its.toArray n dd sl (.int k t) (isInt k) (ns.idxOf k) (by simpa [hlen] using hj) (by omega) ?_ ?_) ⟨ho,fun y hy=>(eq_isInt k t hi y (by simpa using hy)).at _ _,⟨.int _,H,I.tok _,⟨_,rfl⟩,q⟩⟩
 ·show isInt k its[ns.idxOf k]=true;rw [isInt_at k hi _ (by omega) hj];simpa using getElem_idxOf hj
 ·intro j hjs hlt;show isInt k its[j]=false;rw [isInt_at k hi j (by simpa using hjs) (by omega)];exact ne_of_lt_idxOf hlt _
end
end L2
namespace L2
open PySem PySem.Spec PyProof.Rows
section
variable {X:Cx}
theorem ix_listK (K:Frag) (h:X.K=K:=by rfl):IxR X (rIxL K):=by subst h;exact ix_list
end
end L2
namespace L2
open PySem PySem.Spec PyProof.Rows
end L2
namespace L2
open PySem PySem.Spec PyProof.Rows
structure Refs (Pr:Addr->Nat->Prop) (xs:List V) (n:Nat):Prop where
 len:xs.length=n
 at_:∀ i,i < n->∃ q,xs[i]?=some (.ref q)/\Pr q i
theorem Refs.nil {Pr:Addr->Nat->Prop}:Refs Pr [] 0:=⟨rfl,fun i h=>absurd h (Nat.not_lt_zero _)⟩
theorem Refs.snoc {Pr:Addr->Nat->Prop} {xs:List V} {n:Nat} {q:Addr} (h:Refs Pr xs n) (hq:Pr q n):Refs Pr (xs ++ [.ref q]) (n + 1):=by
 refine ⟨by rw [length_append,h.len];rfl,fun i hi=>?_⟩;by_cases c:i < n
 ·obtain ⟨p,e,hp⟩:=h.at_ i c;exact ⟨p,by rw [getElem?_append_left (by rw [h.len];exact c)];exact e,hp⟩
 ·have e:i=n:=by omega
  subst e;refine ⟨q,?_,hq⟩;rw [getElem?_append_right (by rw [h.len];exact Nat.le_refl _),h.len,Nat.sub_self];rfl
theorem Refs.mono {Pr Pr':Addr->Nat->Prop} {xs:List V} {n:Nat} (h:Refs Pr xs n) (m:∀ q i,i < n->Pr q i->Pr' q i):Refs Pr' xs n :=
 ⟨h.len,fun i hi=>by obtain ⟨q,e,p⟩:=h.at_ i hi;exact ⟨q,e,m q i hi p⟩⟩
def KeepD (d:Addr) (H H':Hp):Prop:=∀ b o,H b=some o->b≠d->H' b=some o
theorem pe_bmK {X:Cx} {T:String} {name:Str} {id:String} {r:V->List V->Hp->VK->Prop} {o e:Expr} {es:List Expr} {to:TE} {t:TA} {apos cpos:Pos} (K:Frag) (pa:PlainAttrs T) (slot:Slot T name id) (hty:typeOf (.builtin id)=pure (.type "method_descriptor")) (hm:MtR X id r) (ho:PE X o to) (ha:PA X (e :: es) t)
  (h:X.K=K:=by rfl) (hbase:attributeBase o name X.env (eval o X.env)=eval o X.env:=by rfl)
  (hfew:((backTo cpos (starEach (e :: es) X.env)).all (fun x=>!x.1) && (backToKw cpos (keywordEach [] X.env)).all (fun x=>x.1.isSome)
   && decide ((e :: es).length + ([]:List Keyword).length + (if ([]:List Keyword).isEmpty then 0 else 1) < 30))=true:=by rfl)
  (hline:(apos.endLine == cpos.line)=true:=by rfl) (hs:starEach (e :: es) X.env=(false,eval e X.env) :: starEach es X.env:=by rfl) (hplain:(backTo cpos (starEach es X.env)).any (·.1)=false:=by rfl) :
  PE X (.Call (.Attribute o name apos) (e :: es) [] cpos) (tBM K T r to t):=by
 subst h;exact pe_bm pa slot hty hm ho ha hbase hfew hline hs hplain
theorem mt_indexLK {X:Cx} (K:Frag) (h:X.K=K:=by rfl):MtM X "list.index" (rIndexL K):=by subst h;exact mt_indexL
end L2
namespace L2
open PySem PyProof.Rows
end L2
namespace L2
open PySem PyProof.Rows
end L2
namespace L2
open PySem PySem.Spec PyProof.Rows
def LCW2 (K:Frag) (J:It) (tc:TT) (te:TE) (σ:St) (js:List Nat) (Q:VK) (H1:Hp) (d:Addr):Prop:=∃ W:Nat->Nat->List V->Hp->Prop,(∃ m,W 0 m [] (upd H1 d (.lst [])))/\
 ∀ i m ys H2,W i m ys H2->H2 d=some (.lst ys)/\((J.stop i H2/\Q (.ref d) H2)\/(J.go i H2/\ys.length < sizeLine/\∀ v H3,J.yld i H2 v H3->
  ∃ p a b,v=.ref p/\SqT K H3 p [a,b]/\tc (some a :: some b :: capv σ js) H3 fun bb H4=>if bb=true then te (some a :: some b :: capv σ js) H4 fun y H5=>H5 d=some (.lst ys)/\∃ m',m' < m/\W (i + 1) m' (ys ++ [y]) (upd H5 d (.lst (ys ++ [y])))
   else ∃ m',m' < m/\W (i + 1) m' ys H4))
def tLC2 (K:Frag) (wi:TI) (tc:TT) (te:TE) (js:List Nat):TE:=fun σ H Q=>wi σ H fun J H1=>∀ d,H1 d=none->LCW2 K J tc te σ js Q H1 d
section
variable {X:Cx} {elt iter:Expr} {ifs:List Expr} {x y z:Str} {px py pz tp:Pos} {kk:Nat} {scope:Scope} {cl:List (Str × Addr)} {pos spos:Pos} {wi:TI} {tc:TT} {te:TE} {caps:List Str} {js:List Nat} {i:Nat}
theorem comp_core2 {p0:Pos} {use:Option (Value->Sem Unit)} {QV:Value->Shared->Prop} {Q:VK} {pins:List (Addr × Obj)} {s:Shared} {σ:St} {H:Hp} (hc:X.calm=true) (hp:PI X (.Tuple [.Name x px,.Name z pz] kk tp) iter wi)
  (he:∀ (C:Addr) (fp:List Addr) (s:Shared) (H:Hp),PE (X.block (x :: z :: caps) scope cl C fp s H) elt te)
  (ht:∀ (C:Addr) (fp:List Addr) (s:Shared) (H:Hp),PTs (X.block (x :: z :: caps) scope cl C fp s H) ifs tc)
  (hcell:∀ p∈scope.names,p.2≠.cell) (hnames:∀ p∈scope.names,p.2=.local->scope.names.lookup p.1=some .local) (hnd:(x :: z :: caps).Nodup)
  (hsub:∀ p∈cl,X.env.cells.lookup p.1=some p.2) (hhas:∀ p∈scope.names,p.2=.free->∃ c,cl.lookup p.1=some c) (hlen:caps.length=js.length)
  (hcaps:∀ (k:Nat) (c:Str),caps[k]?=some c->∃ (j:Nat) (a:Addr),js[k]?=some j/\X.N[j]?=some c/\X.env.scope.names.lookup c=some .cell/\cl.lookup c=some a/\(relabel scope X.env).names.lookup c=some .cell)
  (hclos:closureFor scope X.env=pure cl) (hkind:scope.kind=.function) (hx:scope.names.lookup x=some .local) (hz':scope.names.lookup z=some .local) (hs:∀ v,foldedSetIterable iter X.env v=pure v)
  (I:Inv X pins σ H s) (h:tLC2 X.K wi tc te js σ H Q)
  (fin:∀ (d:Addr) (H':Hp) (s5:Shared) (C:Addr),Inv X pins σ H' s5->Q (.ref d) H'->(∃ m,s5.heap.Ns C m)->FpOk X pins H' C->compPost (model X.prog X.w) X.A X.xe use QV (.ref d) C (.ok .next) s5) :
  wpAny (model X.prog X.w) X.A (comprehension (.ListComp elt [⟨.Tuple [.Name x px,.Name z pz] kk tp,iter,ifs,0⟩] scope pos) scope X.env p0 (newList []) false (eval iter X.env) use) QV X.xe s:=by
 refine wpAny_comprehension_free (cl:=cl) (use:=use) (Q:=QV) rfl hs hclos hkind hnames (thn (hp pins s σ H _ I h) fun v s1 h1=>thn h1 fun itv s2 h2=>?_);obtain ⟨it,fp,tn,J,H2,e,I2,T,st2,f2,h3⟩:=h2;subst e;have hfr:H2 s2.heap.objs.size=none:=I2.hok.fresh (Nat.le_refl _);obtain ⟨W,⟨m0,w0⟩,hW⟩:=h3 s2.heap.objs.size hfr;refine wpAny_newObj_type (wpAny_newFunctionEnv hcell (by intro y hy;simp at hy) (fun h₁ hns₁ hsb₁=>?_) hkind);dsimp only at hns₁ hsb₁ ⊢;generalize hH2:s2.heap.push { cls:=.type "list",dict:=none,data:=.seq ([]:List Value).toArray }=G at hns₁ hsb₁ ⊢;have hC:G.objs.size=s2.heap.objs.size + 1:=by rw [<- hH2,size_push]
 have hDC:s2.heap.objs.size≠G.objs.size:=by rw [hC];exact Nat.ne_of_lt (Nat.lt_succ_self _)
 have hCle:s2.heap.objs.size<=G.objs.size:=by rw [hC];exact Nat.le_succ _
 have old:∀ b o,s2.heap.get? b=some o->h₁.get? b=some o:=fun b o e=>hsb₁.extBut b o (by rw [hC];exact Nat.ne_of_lt (Nat.lt_succ_of_lt (lt_size e))) (get?_push_of_some _ (hH2 ▸ get?_push_of_some _ e));have hacc:h₁.get? s2.heap.objs.size=some { cls:=.type "list",dict:=none,data:=.seq ([]:List Value).toArray }:=hsb₁.extBut _ _ hDC (get?_push_of_some _ (hH2 ▸ get?_push_size _ rfl));have fl:∀ b∈fp,b < s2.heap.objs.size:=fun b hb=>by
  obtain ⟨o,e,_⟩:=T.obj _ _ st2 b hb;exact lt_size e
 have hDf:s2.heap.objs.size ∉ fp:=fun hm=>Nat.lt_irrefl _ (fl _ hm);have hok1:HOk X.prog X.w (upd H2 s2.heap.objs.size (.lst [])) h₁:=I2.hok.laid old (Nat.le_refl _) ⟨Nat.zero_le _,[],0,.nil,hacc⟩;have IY0:∀ tk,Inv (X.block (x :: z :: caps) scope cl G.objs.size fp s2 H2) [] (none :: none :: capv σ js) (upd H2 s2.heap.objs.size (.lst [])) { s2 with heap:=h₁,toks:=tk }:=fun tk=>by
  refine ⟨J2g I2 hCle f2 fl hkind hcell hsub hhas,rfl,I2.bare,Un.laid old (Nat.le_refl _) hfr,⟨_,hns₁,fun k q v e1 e2 e3=>?_⟩,fun q c e=>?_,?_,fun q c e=>?_,fun p hp=>absurd hp (by simp),hok1,?_⟩
  ·rcases k with _ | _ | k
   ·simp at e2
   ·simp at e2
   ·have e1':caps[k]?=some q:=by simpa using e1
    have e2':(capv σ js)[k]?=some (some v):=by simpa using e2
    obtain ⟨j,a,q1,q2,q3,q4,q5⟩:=hcaps k q e1';obtain ⟨j',r1,r2⟩:=capv_get e2';rw [q1] at r1;cases r1;obtain ⟨m,hm,hl⟩:=I2.loc;obtain ⟨u,ru,lu⟩:=hl j q v q2 r2 (.inr (.inl q3));refine ⟨u,ru,.inr ⟨.inl q5,a,q4,?_⟩⟩;rcases lu with ⟨k1,_⟩ | ⟨_,c,ec,o,ho,hd⟩
    ·have k1':X.env.scope.names.lookup q=some .local:=k1;rw [q3] at k1';cases k1'
    ·have:=hsub _ (mem_of_lookup q4);rw [ec] at this;cases this;exact ⟨o,old _ _ ho,hd⟩
  ·obtain ⟨v,o,ho,hd⟩:=I2.cell q c (hsub _ (mem_of_lookup e));exact ⟨v,o,old _ _ ho,hd⟩
  ·show upd H2 s2.heap.objs.size (.lst []) G.objs.size=none;rw [Jb hDC.symm];exact I2.hok.fresh hCle
  ·have ec:=hsub _ (mem_of_lookup e);obtain ⟨v,o,ho,hd⟩:=I2.cell q c ec;rw [Jb (Nat.ne_of_lt (lt_size ho))];exact I2.freeC q c ec
  ·show (none :: none :: capv σ js).length=(x :: z :: caps).length;unfold capv;simp [hlen]
 have stat:∀ {H':Hp},(∀ b∈fp,H' b=none)->∀ b∈fp,FpOk (X.block (x :: z :: caps) scope cl G.objs.size fp s2 H2) [] H' b:=fun hn b hb =>
  ⟨hn b hb,Nat.ne_of_lt (Nat.lt_of_lt_of_le (fl b hb) hCle),(J2g (x:=x) (caps:=z :: caps) I2 hCle f2 fl hkind hcell hsub hhas).exfs b hb,.inl hb,fun q c e=>(f2 b hb).2.2.2.2.1 q c (hsub _ (mem_of_lookup e)),fun p hp=>absurd hp (by simp)⟩
 have hxl:(relabel scope X.env).names.lookup x=some .local:=lookup_relabel_local hx;have hzl:(relabel scope X.env).names.lookup z=some .local:=lookup_relabel_local hz';have loop:∀ tk,codeAny (model X.prog X.w) X.A (.compLoop (.ListComp elt [⟨.Tuple [.Name x px,.Name z pz] kk tp,iter,ifs,0⟩] scope pos) 0 (.ref it) (.ref s2.heap.objs.size) (compEnvC scope cl G.objs.size X.env))
   (compPost (model X.prog X.w) X.A X.xe use QV (.ref s2.heap.objs.size) G.objs.size) { s2 with heap:=h₁,toks:=tk }:=fun tk=>by
  refine Jp (fun m s'=>∃ (k:Nat) (o o2:Option V) (ys:List V) (H':Hp),Inv (X.block (x :: z :: caps) scope cl G.objs.size fp s2 H2) [] (o :: o2 :: capv σ js) H' s'/\tn k s'.heap/\(∀ b∈fp,H' b=none)/\W k m ys H') ?_ m0
   ⟨0,none,none,[],_,IY0 tk,T.keep _ _ _ st2 fun b hb o e=>old b o e,fun b hb=>by
    rw [Jb (show b≠s2.heap.objs.size from fun e=>hDf (by rw [<- e];exact hb))];exact (f2 b hb).1,w0⟩
  rintro m s3 ⟨k,o,o2,ys,H',I3,st3,fr3,w3⟩;obtain ⟨hd,hW3⟩:=hW k m ys H' w3;rcases hW3 with ⟨stop,q⟩ | ⟨go,hz,step⟩
  ·refine thn (T.done (X.block (x :: z :: caps) scope cl G.objs.size fp s2 H2) rfl rfl rfl hc k [] s3 _ _ (fun _ _=>False) I3 (stat fr3) st3 stop) fun r s4 h9=>?_;obtain ⟨hr,I4⟩:=h9;subst hr;have J5:Inv X pins σ H' s4:=I2.call' (ch:=fp) I4.os I4.base I4.hok I4.bare fun b hb=>⟨(f2 b hb).2.2.2.1,(f2 b hb).2.1,(f2 b hb).2.2.2.2.1,(f2 b hb).2.2.2.2.2⟩;exact fin _ H' s4 _ J5 q (by obtain ⟨m,q,_⟩:=I4.loc;exact ⟨m,q⟩) (I2.fpOk hCle I4.free)
  ·refine thn (T.item (X.block (x :: z :: caps) scope cl G.objs.size fp s2 H2) rfl rfl rfl hc k [] s3 _ _ (fun _ _=>False) I3 (stat fr3) st3 go) fun r s4 h9=>?_;obtain ⟨u,hr,h4⟩:=h9;subst hr;refine thn h4 fun _ s5 h9=>?_;obtain ⟨v,H5,I5,r5,y5,st5,fr5⟩:=h9;have I5':=I5.pinned (stat fr5) (T.obj _ _ st5);obtain ⟨pq,va,vb,rfl,sq5,stp⟩:=step v H5 y5;refine thn (pg_tup (X:=X.block (x :: z :: caps) scope cl G.objs.size fp s2 H2) (pos:=tp) (k:=kk) (n:=2) hc
     (J1f (Jv (X:=X.block (x :: z :: caps) scope cl G.objs.size fp s2 H2) (i:=0) (pos:=px) hnd rfl (.inl hxl) (.inr hxl))
      (J1f (Jv (X:=X.block (x :: z :: caps) scope cl G.objs.size fp s2 H2) (i:=1) (pos:=pz) hnd rfl (.inl hzl) (.inr hzl)) pgs_nil)) rfl rfl _ s5 _ _ _ u
    (fun σ' H'=>σ'=some va :: some vb :: capv σ js/\H'=H5) I5' r5 ⟨pq,[va,vb],rfl,sq5,rfl,va,[vb],rfl,vb,[],rfl,rfl,rfl,rfl⟩) fun _ s6 h9=>?_
   obtain ⟨σ6,H6,I6,q6⟩:=h9;obtain ⟨rfl,rfl⟩:=q6;refine thn (ht _ _ _ _ _ s6 _ _ _ I6 stp) fun ok s7 h9=>?_;obtain ⟨H7,I7,q7⟩:=h9;have back:∀ {s8:Shared} {H8:Hp} {o8 o9:Option V} {ys8:List V} {m':Nat},Inv (X.block (x :: z :: caps) scope cl G.objs.size fp s2 H2) ([] ++ pinsAt fp s5.heap) (o8 :: o9 :: capv σ js) H8 s8->m' < m->W (k + 1) m' ys8 H8->
     ∃ m',m' < m/\∃ (k:Nat) (o o2:Option V) (ys:List V) (H':Hp),Inv (X.block (x :: z :: caps) scope cl G.objs.size fp s2 H2) [] (o :: o2 :: capv σ js) H' s8/\tn k s8.heap/\(∀ b∈fp,H' b=none)/\W k m' ys H':=fun {s8 H8 o8 o9 ys8 m'} I8 hm w8=>by
    refine ⟨m',hm,k + 1,o8,o9,ys8,H8,I8.unpinned,T.keep _ _ _ st5 fun b hb o e=>(I8.pin (b,o) (mem_append_right _ (mem_append_right _ (Jw hb e)))).1,fun b hb=>?_,w8⟩;obtain ⟨o,e,d⟩:=T.obj _ _ st5 b hb;exact (I8.pin (b,o) (mem_append_right _ (mem_append_right _ (Jw hb e)))).2.1
   cases ok with
   | false =>
    have q7':∃ m',m' < m/\W (k + 1) m' ys H7:=by
     have:=q7;rwa [if_neg (by decide)] at this
    obtain ⟨m',hm,w8⟩:=q7';exact back I7 hm w8
   | true =>
    have q7':te (some va :: some vb :: capv σ js) H7 fun y H5=>H5 s2.heap.objs.size=some (.lst ys)/\∃ m',m' < m/\W (k + 1) m' (ys ++ [y]) (upd H5 s2.heap.objs.size (.lst (ys ++ [y]))):=by
     have:=q7;rwa [if_pos rfl] at this
    refine (show wpAny _ _ _ _ _ _ from thn (he _ _ _ _ _ s7 _ _ _ I7 q7') fun u8 s8 h9=>?_);obtain ⟨v8,H8,I8,r8,hd8,m',hm,w8⟩:=h9;refine thn (J12 (X:=X.block (x :: z :: caps) scope cl G.objs.size fp s2 H2) _ s8 _ _ (.ref s2.heap.objs.size) [v8] (.ref s2.heap.objs.size) [u8]
     (fun _ H'=>H'=upd H8 s2.heap.objs.size (.lst (ys ++ [v8]))) I8 rfl (.cons r8 .nil) ⟨s2.heap.objs.size,_,v8,rfl,rfl,hd8,hz,rfl⟩) fun _ s9 h9=>?_
    obtain ⟨_,H9,I9,_,q9⟩:=h9;subst q9;exact back I9 hm w8
 have st1:tn 0 h₁:=T.keep _ _ _ st2 fun b hb o e=>old b o e;exact codeAny_compStart_list (loop _) (T.self X.A 0 _ _ _ st1 (loop _))
theorem pe_lc2 (hc:X.calm=true) (hp:PI X (.Tuple [.Name x px,.Name z pz] kk tp) iter wi) (hclos:closureFor scope X.env=pure cl)
  (ht:∀ (C:Addr) (fp:List Addr) (s:Shared) (H:Hp),PTs (X.block (x :: z :: caps) scope cl C fp s H) ifs tc)
  (he:∀ (C:Addr) (fp:List Addr) (s:Shared) (H:Hp),PE (X.block (x :: z :: caps) scope cl C fp s H) elt te)
  (hcell:∀ p∈scope.names,p.2≠.cell) (hnames:∀ p∈scope.names,p.2=.local->scope.names.lookup p.1=some .local) (hnd:(x :: z :: caps).Nodup)
  (hsub:∀ p∈cl,X.env.cells.lookup p.1=some p.2)
  (hhas:freeOk scope cl=true:=by rfl) (hlen:caps.length=js.length:=by rfl) (hcaps:capsOk X scope cl caps js=true:=by rfl)
  (hkind:scope.kind=.function:=by rfl) (hx:scope.names.lookup x=some .local:=by rfl) (hz':scope.names.lookup z=some .local:=by rfl) (hs:∀ v,foldedSetIterable iter X.env v=pure v:=by intro _;rfl) :
  PE X (.ListComp elt [⟨.Tuple [.Name x px,.Name z pz] kk tp,iter,ifs,0⟩] scope pos) (tLC2 X.K wi tc te js):=by
 intro pins s σ H Q I h;rw [eval_ListComp];refine comp_core2 (use:=none) hc hp he ht hcell hnames hnd hsub (freeOk.get hhas) hlen (capsOk.get hlen hcaps) hclos hkind hx hz' hs I h fun d H' s5 C J5 q hC fp=>?_;obtain ⟨m,nsC⟩:=hC;exact ⟨m,nsC,fun h' hs'=>⟨.ref d,H',J5.turned (h':=h') (t':=s5.toks) (it:=C) (fun b o hb e=>(hs'.2 b hb).trans e) fp.1 fp.2.1 fp.2.2.2.1 fp.2.2.2.2.1 fp.2.2.2.2.2,rfl,q⟩⟩
end
end L2
namespace L2
open PySem PySem.Spec PyProof.Rows
structure Goer (prog:Program) (w:World) (i l:Addr) (it:Nat->Option Value) (St:Nat->Heap->Prop):Prop where
 keep:∀ k g g',St k g->(∀ b,b=i\/b=l->∀ o,g.get? b=some o->g'.get? b=some o)->St k g'
 there:∀ k g,St k g->i < g.objs.size/\l < g.objs.size
 next:∀ (A:Around) (E:Value->Shared->Prop) (s:Shared) (Q:Value->Shared->Prop) k y,St k s.heap->it k=some y->(∀ g,St (k + 1) g->Heap.SameBut i s.heap g->Q y { s with heap:=g })->wpAny (model prog w) A (Builtin.SmallTypes.nextOf (.ref i)) Q E s
 stop:∀ (A:Around) (E:Value->Shared->Prop) (s:Shared) (Q:Value->Shared->Prop) k,A.handled=none->St k s.heap->it k=none->(∀ g e,Heap.ExtBut i s.heap g->(∃ o,g.get? e=some o/\o.cls=.type "StopIteration")->E (.ref e) { s with heap:=g })->wpAny (model prog w) A (Builtin.SmallTypes.nextOf (.ref i)) Q E s
section
variable {prog:Program} {w:World} {A:Around} {E:Value->Shared->Prop} {s:Shared}
theorem J3g {i l:Addr} (ne:l≠i) (xs:Array Value):Goer prog w i l (fun k=>xs[k]?) (fun k h=>h.IsTupleIter i l k/\h.IsTuple l xs) where
 keep:=fun k g g' st kp=>by
  obtain ⟨⟨o,ho,r⟩,o2,ho2,r2⟩:=st;exact ⟨⟨o,kp i (.inl rfl) _ ho,r⟩,o2,kp l (.inr rfl) _ ho2,r2⟩
 there:=fun k g st=>by
  obtain ⟨⟨o,ho,r⟩,o2,ho2,r2⟩:=st;exact ⟨lt_size ho,lt_size ho2⟩
 next:=fun A E s Q k y st hy h=>J1w st.1 st.2 hy fun g hg sb=>h g ⟨hg,by
  obtain ⟨o2,ho2,r2⟩:=st.2;exact ⟨o2,sb.extBut l o2 ne ho2,r2⟩⟩ sb
 stop:=fun A E s Q k hh st hy h=>J28 hh st.1 st.2 hy h
theorem J3h {i l:Addr} (ne:l≠i) (xs:Array Value):Goer prog w i l (fun k=>xs[k]?) (fun k h=>h.IsListIter i l k/\h.IsList l xs) where
 keep:=fun k g g' st kp=>by
  obtain ⟨⟨o,ho,r⟩,o2,ho2,r2⟩:=st;exact ⟨⟨o,kp i (.inl rfl) _ ho,r⟩,o2,kp l (.inr rfl) _ ho2,r2⟩
 there:=fun k g st=>by
  obtain ⟨⟨o,ho,r⟩,o2,ho2,r2⟩:=st;exact ⟨lt_size ho,lt_size ho2⟩
 next:=fun A E s Q k y st hy h=>wpAny_nextOf_list_item st.1 st.2 hy fun g hg sb=>h g ⟨hg,by
  obtain ⟨o2,ho2,r2⟩:=st.2;exact ⟨o2,sb.extBut l o2 ne ho2,r2⟩⟩ sb
 stop:=fun A E s Q k hh st hy h=>wpAny_nextOf_list_end hh st.1 st.2 hy h
theorem zip_turn {z TI TO i1 i2 l1 l2:Addr} {it1 it2:Nat->Option Value} {St1 St2:Nat->Heap->Prop} {k:Nat} {x y a b:Value} {Q:Value->Shared->Prop} (D:ZipApart z TI TO i1 i2 l1 l2)
  (G1:Goer prog w i1 l1 it1 St1) (G2:Goer prog w i2 l2 it2 St2) (hz:IsZip s.heap z TI TO .none) (hTI:IsPair s.heap TI (.ref i1) (.ref i2)) (hTO:IsPair s.heap TO a b) (s1:St1 k s.heap) (s2:St2 k s.heap) (hx:it1 k=some x) (hy:it2 k=some y)
  (hQ:∀ g,IsZip g z TI TO (rawInt s.heap.objs.size)->IsPair g TO x y->St1 (k + 1) g->St2 (k + 1) g->IsPair g s.heap.objs.size x y->g.objs.size=s.heap.objs.size + 1->(∀ c o,c≠z->c≠TO->c≠i1->c≠i2->s.heap.get? c=some o->g.get? c=some o)->Q (.ref s.heap.objs.size) { s with heap:=g }) :
  wpAny (model prog w) A (Builtin.«zip.__next__» ⟨[.ref z],[]⟩) (fun fin s'=>∃ v,fin=.done (.ret v)/\Q v s') E s:=by
 refine wpAny_bind (wpAny_pure (wpAny_bind (wpAny_field hz rfl (x:=.bool false) rfl ?_)));refine wpAny_bind (wpAny_field hz rfl (x:=.ref TI) rfl ?_);refine wpAny_bind (wpAny_seqItems hTI rfl (wpAny_bind ?_));unfold Builtin.SmallTypes.ownedTupleIsFree;refine wpAny_bind (wpAny_field hz rfl (x:=.none) rfl (wpAny_pure ?_));simp only [if_true];refine wpAny_bind (wpAny_rule (wpAny_bind (wpAny_field hz rfl (x:=.ref TO) rfl (wpAny_bind (wpAny_setField_rec hz (by simp) fun g1 z1 b1=>?_)))));replace z1:IsZip g1 z TI TO .ellipsis:=z1;have t1:St1 k g1:=G1.keep _ _ _ s1 fun b hb o e=>b1.extBut b o (by rcases hb with rfl | rfl;exact D.i1z;exact D.l1z) e;have u1:St2 k g1:=G2.keep _ _ _ s2 fun b hb o e=>b1.extBut b o (by rcases hb with rfl | rfl;exact D.i2z;exact D.l2z) e;refine wpAny_bind ?_;simp only [List.zipIdx_cons,List.zipIdx_nil,List.forIn_cons,List.forIn_nil];refine wpAny_bind (wpAny_bind (wpAny_onRaise (wpAny_bind ?_)));refine G1.next _ _ _ _ k x t1 hx fun g2 t2 b2=>wpAny_pure ?_;have u2:St2 k g2:=G2.keep _ _ _ u1 fun b hb o e=>b2.extBut b o (by rcases hb with rfl | rfl;exact D.i12.symm;exact D.l2i1) e;have o2:IsPair g2 TO a b:=b2.extBut _ _ D.TOi1 (b1.extBut _ _ D.TOz hTO);refine wpAny_bind (wpAny_seqItems o2 rfl (wpAny_bind (wpAny_updateSeq_pair o2 fun g3 o3 b3=>wpAny_bind (wpAny_letGo (wpAny_pure ?_)))));replace o3:IsPair g3 TO x b:=o3;have t3:St1 (k + 1) g3:=G1.keep _ _ _ t2 fun b hb o e=>b3.extBut b o (by rcases hb with rfl | rfl;exact D.TOi1.symm;exact D.l1TO) e;have u3:St2 k g3:=G2.keep _ _ _ u2 fun b hb o e=>b3.extBut b o (by rcases hb with rfl | rfl;exact D.TOi2.symm;exact D.l2TO) e;refine wpAny_bind (wpAny_bind (wpAny_onRaise (wpAny_bind ?_)));refine G2.next _ _ _ _ k y u3 hy fun g4 u4 b4=>wpAny_pure ?_;have t4:St1 (k + 1) g4:=G1.keep _ _ _ t3 fun b hb o e=>b4.extBut b o (by rcases hb with rfl | rfl;exact D.i12;exact D.l1i2) e;have o4:IsPair g4 TO x b:=b4.extBut _ _ D.TOi2 o3;refine wpAny_bind (wpAny_seqItems o4 rfl (wpAny_bind (wpAny_updateSeq_pair o4 fun g5 o5 b5=>wpAny_bind (wpAny_letGo (wpAny_pure (wpAny_pure ?_))))));replace o5:IsPair g5 TO x y:=o5;have t5:St1 (k + 1) g5:=G1.keep _ _ _ t4 fun b hb o e=>b5.extBut b o (by rcases hb with rfl | rfl;exact D.TOi1.symm;exact D.l1TO) e;have u5:St2 (k + 1) g5:=G2.keep _ _ _ u4 fun b hb o e=>b5.extBut b o (by rcases hb with rfl | rfl;exact D.TOi2.symm;exact D.l2TO) e;have z5:IsZip g5 z TI TO .ellipsis:=b5.extBut _ _ D.TOz.symm (b4.extBut _ _ D.i2z.symm (b3.extBut _ _ D.TOz.symm (b2.extBut _ _ D.i1z.symm z1)));have sz:g5.objs.size=s.heap.objs.size:=by rw [b5.1,b4.1,b3.1,b2.1,b1.1]
 have k5:∀ c o,c≠z->c≠TO->c≠i1->c≠i2->s.heap.get? c=some o->g5.get? c=some o:=fun c o c1 c2 c3 c4 e=>b5.extBut _ _ c2 (b4.extBut _ _ c4 (b3.extBut _ _ c2 (b2.extBut _ _ c3 (b1.extBut _ _ c1 e))));refine wpAny_bind (wpAny_seqItems o5 rfl (wpAny_bind (wpAny_newTuple ?_)));refine wpAny_bind ?_;unfold Builtin.SmallTypes.ownedTupleHandOut;have z6:IsZip (g5.push { cls:=.type "tuple",data:=.seq #[x,y] }) z TI TO .ellipsis:=get?_push_of_some _ z5;refine wpAny_bind (wpAny_setField_rec z6 (by simp) fun g7 z7 b7=>?_);replace z7:IsZip g7 z TI TO (rawInt g5.objs.size):=z7;refine wpAny_setField_rec z7 (by simp) fun g8 z8 b8=>?_;replace z8:IsZip g8 z TI TO (rawInt g5.objs.size):=z8;have up:∀ c o,c≠z->g5.get? c=some o->g8.get? c=some o:=fun c o c1 e=>b8.extBut _ _ c1 (b7.extBut _ _ c1 (get?_push_of_some _ e));have zl:z < g5.objs.size:=lt_size z5;have p8:IsPair g8 g5.objs.size x y:=b8.extBut _ _ (Nat.ne_of_gt zl) (b7.extBut _ _ (Nat.ne_of_gt zl) (get?_push_size _ rfl));have n8:g8.objs.size=g5.objs.size + 1:=by rw [b8.1,b7.1,size_push]
 have t8:St1 (k + 1) g8:=G1.keep _ _ _ t5 fun b hb o e=>up b o (by rcases hb with rfl | rfl;exact D.i1z;exact D.l1z) e;have u8:St2 (k + 1) g8:=G2.keep _ _ _ u5 fun b hb o e=>up b o (by rcases hb with rfl | rfl;exact D.i2z;exact D.l2z) e;rw [sz] at z8 p8 n8;refine wpAny_pure ⟨_,rfl,?_⟩;show Q (.ref g5.objs.size) _;rw [sz];exact hQ g8 z8 (up _ _ D.TOz o5) t8 u8 p8 n8 fun c o c1 c2 c3 c4 e=>up c o c1 (k5 c o c1 c2 c3 c4 e)
theorem zip_halt {z TI TO i1 i2 l1 l2:Addr} {it1:Nat->Option Value} {St1:Nat->Heap->Prop} {k:Nat} {a b:Value} {Q:PySem.Fin->Shared->Prop} (hh:A.handled=none) (D:ZipApart z TI TO i1 i2 l1 l2)
  (G1:Goer prog w i1 l1 it1 St1) (hz:IsZip s.heap z TI TO .none) (hTI:IsPair s.heap TI (.ref i1) (.ref i2)) (s1:St1 k s.heap) (hx:it1 k=none)
  (hE:∀ g e,(∀ c o,c≠z->c≠i1->s.heap.get? c=some o->g.get? c=some o)->(∃ o,g.get? e=some o/\o.cls=.type "StopIteration")->E (.ref e) { s with heap:=g }) :
  wpAny (model prog w) A (Builtin.«zip.__next__» ⟨[.ref z],[]⟩) Q E s:=by
 refine wpAny_bind (wpAny_pure (wpAny_bind (wpAny_field hz rfl (x:=.bool false) rfl ?_)));refine wpAny_bind (wpAny_field hz rfl (x:=.ref TI) rfl ?_);refine wpAny_bind (wpAny_seqItems hTI rfl (wpAny_bind ?_));unfold Builtin.SmallTypes.ownedTupleIsFree;refine wpAny_bind (wpAny_field hz rfl (x:=.none) rfl (wpAny_pure ?_));simp only [if_true];refine wpAny_bind (wpAny_rule (wpAny_bind (wpAny_field hz rfl (x:=.ref TO) rfl (wpAny_bind (wpAny_setField_rec hz (by simp) fun g1 z1 b1=>?_)))));replace z1:IsZip g1 z TI TO .ellipsis:=z1;have t1:St1 k g1:=G1.keep _ _ _ s1 fun b hb o e=>b1.extBut b o (by rcases hb with rfl | rfl;exact D.i1z;exact D.l1z) e;refine wpAny_bind ?_;simp only [List.zipIdx_cons,List.zipIdx_nil,List.forIn_cons,List.forIn_nil];refine wpAny_bind (wpAny_bind (wpAny_onRaise (wpAny_bind ?_)));refine G1.stop _ _ _ _ k hh t1 hx fun g2 e b2 h9=>?_;obtain ⟨oe,hoe,hce⟩:=h9;have z2:IsZip g2 z TI TO .ellipsis:=b2 _ _ D.i1z.symm z1;have ez:e≠z:=fun q=>by subst q;rw [z2] at hoe;cases hoe;simp at hce
 refine wpAny_setField_rec z2 (by simp) fun g3 _ b3=>hE g3 e (fun c o c1 c3 q=>b3.extBut _ _ c1 (b2 _ _ c3 (b1.extBut _ _ c1 q))) ⟨oe,b3.extBut _ _ ez hoe,hce⟩
end
theorem zip_newT (l1 l2:Addr) (xs ys:Array Value):Meets (Builtin.«zip.__new__» ⟨[.type "zip",.ref l1,.ref l2],[]⟩) (fun _ R s=>s.heap.IsTuple l1 xs/\s.heap.IsTuple l2 ys/\
   R (.ok (.ret (.ref (s.heap.objs.size + 4)))) { s with heap:=((((s.heap.push { cls:=.type "tuple_iterator",data:=.fields #[.ref l1,.int 0 0] }).push { cls:=.type "tuple_iterator",data:=.fields #[.ref l2,.int 0 0] }).push { cls:=.type "tuple",data:=.seq #[.ref s.heap.objs.size,.ref (s.heap.objs.size + 1)] }).push { cls:=.type "tuple",data:=.seq #[.none,.none] }).push { cls:=.type "zip",data:=.fields #[.none,.bool false,.bool false,.ref (s.heap.objs.size + 2),.ref (s.heap.objs.size + 3)] } }) :=
 .of_wp fun prog w A R s h=>by
  obtain ⟨hp,g,d,tk,os⟩:=s;obtain ⟨hl1,hl2,h⟩:=h;have hsub:=sub_zip;have hL1:Heap.IsTuple (Shared.heap ⟨hp,g,d,tk,os⟩) l1 xs:=hl1;have hL2:Heap.IsTuple (Shared.heap ⟨hp.push { cls:=.type "tuple_iterator",data:=.fields #[.ref l1,.int 0 0] },g,d,tk,os⟩) l2 ys:=by
   obtain ⟨o,ho,r⟩:=hl2;exact ⟨o,get?_push_of_some _ ho,r⟩
  wp_walk using wpAny_pyIter_tuple hL1,wpAny_pyIter_tuple hL2
  refine ⟨_,rfl,?_⟩;simp only [size_push] at h ⊢;exact h
end L2
namespace L2
open PySem PySem.Spec PyProof.Rows
section
variable {X:Cx} {pins:List (Addr × Obj)} {σ:St} {H:Hp} {s:Shared} {h':Heap}
theorem Inv.turnedL {t':Nat} {fp:List Addr} {p:Addr} {o:HO} (I:Inv X pins σ H s) (k:∀ b u,b ∉ fp->s.heap.get? b=some u->h'.get? b=some u) (f:∀ b∈fp,FpOk X pins H b) (hp:s.heap.objs.size<=p)
  (new:ObjOk X.prog X.w (upd H p o) h' p o):Inv X pins σ (upd H p o) { s with heap:=h',toks:=t' }:=by
 have hn:H p=none:=I.hok.fresh hp;have lt:∀ b u,s.heap.get? b=some u->b≠p:=fun b u e=>Nat.ne_of_lt (Nat.lt_of_lt_of_le (lt_size e) hp);have ne1:∀ b u,H b=some u->b ∉ fp:=fun b u e z=>by rw [(f b z).1] at e;cases e
 refine I.step (g':=s.gens) (d':=s.drawn) (ch:=fp) (fun b hb=>⟨(f b hb).2.2.2.1,(f b hb).2.1,(f b hb).2.2.2.2.1,(f b hb).2.2.2.2.2⟩) (fun b u _ _ hc e _=>k b u hc e) (fun b u _ _ hc e _=>⟨u.slots,k b u hc e⟩) (fun b u hc e n=>by rw [Jb (lt b u e)];exact n)
  (fun b u hc e=>⟨u,k b u hc e⟩) (fun b xs e=>by rw [Jb (J3 e hn)];exact e) (fun b u v e=>by rw [Jb (J3 e hn)];exact e) (fun b ps e=>⟨#[],by rw [Jb (J3 e hn),e];simp⟩) (fun m hm=>?_) (fun b u e=>?_) I.bare
 ·obtain ⟨ob,es,ep,ho,r⟩:=hm;exact ⟨ob,es,ep,k _ ob (fun z=>(f _ z).2.1 rfl) ho,r⟩
 ·by_cases hb:b=p
  ·subst hb;rw [J0] at e;cases e;exact new
  ·rw [Jb hb] at e;refine (I.hok b u e).stay (fun c v hc q=>k c v ?_ q) (fun c q=>by rw [Jb (J3 q hn)];exact q) fun c xs q=>by rw [Jb (J3 q hn)];exact q
   rcases hc with q | q
   ·rw [q];exact ne1 b u e
   ·exact ne1 c _ q
theorem Inv.turned0 {t':Nat} {fp:List Addr} (I:Inv X pins σ H s) (k:∀ b u,b ∉ fp->s.heap.get? b=some u->h'.get? b=some u) (f:∀ b∈fp,FpOk X pins H b):Inv X pins σ H { s with heap:=h',toks:=t' }:=by
 have ne1:∀ b u,H b=some u->b ∉ fp:=fun b u e z=>by rw [(f b z).1] at e;cases e
 refine I.step (g':=s.gens) (d':=s.drawn) (ch:=fp) (fun b hb=>⟨(f b hb).2.2.2.1,(f b hb).2.1,(f b hb).2.2.2.2.1,(f b hb).2.2.2.2.2⟩) (fun b u _ _ hc e _=>k b u hc e) (fun b u _ _ hc e _=>⟨u.slots,k b u hc e⟩) (fun b u hc e n=>n)
  (fun b u hc e=>⟨u,k b u hc e⟩) (fun b xs e=>e) (fun b u v e=>e) (fun b ps e=>⟨#[],by rw [e];simp⟩) (fun m hm=>?_) (fun b u e=>?_) I.bare
 ·obtain ⟨ob,es,ep,ho,r⟩:=hm;exact ⟨ob,es,ep,k _ ob (fun z=>(f _ z).2.1 rfl) ho,r⟩
 ·refine (I.hok b u e).stay (fun c v hc q=>k c v ?_ q) (fun c q=>q) fun c xs q=>q;rcases hc with q | q
  ·rw [q];exact ne1 b u e
  ·exact ne1 c _ q
end
theorem nn4 (n j:Nat) (h:j < 4):n + j≠n + 4:=by omega
theorem lt5 {n m c:Nat} (h:n + 4 < m) (hc:c=n + 4\/c=n + 2\/c=n + 3\/c=n\/c=n + 1):c < m:=by omega
theorem ne_ad {n j k:Nat} (h:j≠k):n + j≠n + k:=by omega
theorem ne_lt {n a k:Nat} (h:a < n):a≠n + k:=by omega
theorem apart_of {n a b:Nat} (ha:a < n) (hb:b < n):ZipApart (n + 4) (n + 2) (n + 3) n (n + 1) a b :=
 ⟨ne_ad (by decide),ne_ad (by decide),ne_ad (j:=0) (by decide),ne_ad (by decide),ne_ad (by decide),ne_ad (k:=0) (by decide),ne_ad (by decide),ne_ad (k:=0) (by decide),ne_ad (by decide),ne_ad (j:=0) (by decide),ne_lt ha,ne_lt ha,ne_lt (k:=0) ha,ne_lt ha,ne_lt hb,ne_lt hb,ne_lt (k:=0) hb,ne_lt hb⟩
section
variable {prog:Program} {w:World} {A:Around} {E:Value->Shared->Prop} {s:Shared}
def ZipAt (n:Addr) (h:Heap):Prop:=IsZip h (n + 4) (n + 2) (n + 3) .none/\IsPair h (n + 2) (.ref n) (.ref (n + 1))/\∃ c d,IsPair h (n + 3) c d
theorem zipN_item {n a b:Addr} {it1 it2:Nat->Option Value} {St1 St2:Nat->Heap->Prop} {k:Nat} {x y:Value} {Q:Option Value->Shared->Prop} (ha:a < n) (hb:b < n) (G1:Goer prog w n a it1 St1) (G2:Goer prog w (n + 1) b it2 St2)
  (hz:ZipAt n s.heap) (s1:St1 k s.heap) (s2:St2 k s.heap) (hx:it1 k=some x) (hy:it2 k=some y)
  (hQ:∀ g,IsZip g (n + 4) (n + 2) (n + 3) (rawInt s.heap.objs.size)->IsPair g (n + 2) (.ref n) (.ref (n + 1))->IsPair g (n + 3) x y->St1 (k + 1) g->St2 (k + 1) g->IsPair g s.heap.objs.size x y->(∀ c o,c ∉ [n + 4,n + 2,n + 3,n,n + 1]->s.heap.get? c=some o->g.get? c=some o)->Q (some (.ref s.heap.objs.size)) { s with heap:=g }) :
  wpAny (model prog w) A (pyNext (.ref (n + 4))) Q E s:=by
 obtain ⟨z1,z2,c,d,z3⟩:=hz;have hT:s.TypeIs (.ref (n + 4)) "zip":=⟨_,z1,rfl⟩;have D:=apart_of ha hb;unfold pyNext;refine wpAny_bind (wpAny_attempt (wpAny_callSpecial?_slot (name:=Str.ofString "__next__") hT PySem.F.slot_zip_next (wpAny_call_entry PySem.F.slot_zip_next hT PySem.F.entry_zip_next
  (zip_turn D G1 G2 z1 z2 z3 s1 s2 hx hy fun g a1 a2 a3 a4 a5 a6 a7=>wpAny_pure (hQ g a1 (a7 _ _ D.TIz D.TITO D.TIi1 D.TIi2 z2) a2 a3 a4 a5 fun c o hc e=>a7 c o (fun q=>hc (by simp [q])) (fun q=>hc (by simp [q])) (fun q=>hc (by simp [q])) (fun q=>hc (by simp [q])) e)) (PySem.F.args_zip_next_1 _))))
theorem zipN_end {n a b:Addr} {it1:Nat->Option Value} {St1:Nat->Heap->Prop} {k:Nat} {Q:Option Value->Shared->Prop} (hh:A.handled=none) (ha:a < n) (hb:b < n) (G1:Goer prog w n a it1 St1) (hz:ZipAt n s.heap) (s1:St1 k s.heap) (hx:it1 k=none)
  (hQ:∀ g,(∀ c o,c ∉ [n + 4,n + 2,n + 3,n,n + 1]->s.heap.get? c=some o->g.get? c=some o)->Q none { s with heap:=g }):wpAny (model prog w) A (pyNext (.ref (n + 4))) Q E s:=by
 obtain ⟨z1,z2,c,d,z3⟩:=hz;have hT:s.TypeIs (.ref (n + 4)) "zip":=⟨_,z1,rfl⟩;unfold pyNext;refine wpAny_bind (wpAny_attempt (wpAny_callSpecial?_slot (name:=Str.ofString "__next__") hT PySem.F.slot_zip_next (wpAny_call_entry PySem.F.slot_zip_next hT PySem.F.entry_zip_next
  (zip_halt (a:=c) (b:=d) hh (apart_of ha hb) G1 z1 z2 s1 hx fun g e kp ⟨o,ho,hc⟩=>?_) (PySem.F.args_zip_next_1 _))))
 refine wpAny_bind (wpAny_isInstance (T:="StopIteration") (b:=true) ⟨o,ho,hc⟩ isSubtype_stop ?_);exact wpAny_pure (hQ g fun c o hc e=>kp c o (fun q=>hc (by simp [q])) (fun q=>hc (by simp [q])) e)
end
def Itz (K:Frag) (a b:Addr):It :=
 ⟨fun i H=>∃ xs ys x y,SqT K H a xs/\SqT K H b ys/\xs[i]?=some x/\ys[i]?=some y,fun i H v H'=>∃ p x y,v=.ref p/\H p=none/\H'=upd H p (.tup [x,y])/\∀ xs ys,SqT K H a xs->SqT K H b ys->xs[i]?=some x/\ys[i]?=some y,fun i H=>∃ xs,SqT K H a xs/\xs.length<=i⟩
theorem turn_zip {P:Program} {w:World} {K:Frag} {elts:List Expr} {kk:Nat} {tp:Pos} (a b n:Addr) (ha:a < n) (hb:b < n):Turn P w K (.Tuple elts kk tp) (Itz K a b) [n + 4,n + 2,n + 3,n,n + 1] (n + 4) (fun i h=>ZipAt n h/\h.IsTupleIter n a i/\h.IsTupleIter (n + 1) b i) where
 mem:=by simp
 obj:=fun i h st c hc=>by
  obtain ⟨⟨z1,z2,x,y,z3⟩,⟨o1,e1,_,d1⟩,o2,e2,_,d2⟩:=st;simp only [mem_cons,not_mem_nil,or_false] at hc;rcases hc with rfl | rfl | rfl | rfl | rfl
  ·exact ⟨_,z1,fun v z=>by
    have z':Data.fields _=Data.cell v:=z;cases z'⟩
  ·exact ⟨_,z2,fun v z=>by
    have z':Data.seq _ _=Data.cell v:=z;cases z'⟩
  ·exact ⟨_,z3,fun v z=>by
    have z':Data.seq _ _=Data.cell v:=z;cases z'⟩
  ·exact ⟨_,e1,fun v z=>by rw [d1] at z;cases z⟩
  ·exact ⟨_,e2,fun v z=>by rw [d2] at z;cases z⟩
 keep:=fun i h h' st k=>by
  obtain ⟨⟨z1,z2,x,y,z3⟩,⟨o1,e1,r1⟩,o2,e2,r2⟩:=st;exact ⟨⟨k _ (by simp) _ z1,k _ (by simp) _ z2,x,y,k _ (by simp) _ z3⟩,⟨o1,k _ (by simp) _ e1,r1⟩,o2,k _ (by simp) _ e2,r2⟩
 item:=by
  intro X hP hw hK hc i pins s σ H E I hf st hg;subst hP hw hK;obtain ⟨Z,t1,t2⟩:=st;obtain ⟨xs,ys,x,y,q1,q2,hx,hy⟩:=hg;obtain ⟨its1,r1,pl1,_⟩:=I.tuple q1;obtain ⟨its2,r2,pl2,_⟩:=I.tuple q2;obtain ⟨u,hu,ru⟩:=r1.get hx;obtain ⟨v,hv,rv⟩:=r2.get hy;have G1:=J3g (prog:=X.prog) (w:=X.w) (i:=n) (l:=a) (Nat.ne_of_lt ha) its1.toArray;have G2:=J3g (prog:=X.prog) (w:=X.w) (i:=n + 1) (l:=b) (Nat.ne_of_lt (Nat.lt_succ_of_lt hb)) its2.toArray;have zl:n + 4 < s.heap.objs.size:=lt_size Z.1;refine zipN_item ha hb G1 G2 Z ⟨t1,pl1⟩ ⟨t2,pl2⟩ (x:=u) (y:=v) (by simpa using hu) (by simpa using hv) fun g a1 a2 a3 a4 a5 a6 a7=>⟨_,rfl,?_⟩;refine wpAny_letOwnedTupleGo_zip a1 fun g2 z2 sb=>?_;have sb:Heap.SameBut (n + 4) g g2:=sb;have k2:∀ c o,c ∉ [n + 4,n + 2,n + 3,n,n + 1]->s.heap.get? c=some o->g2.get? c=some o:=fun c o h1 e=>(sb.2 c (fun q=>h1 (by simp [q]))).trans (a7 c o h1 e);have p2:g2.get? s.heap.objs.size=some { cls:=.type "tuple",data:=.seq #[u,v] }:=(sb.2 _ (Nat.ne_of_gt zl)).trans a6;have J:=I.turnedL (t':=s.toks) (o:=.tup [x,y]) (p:=s.heap.objs.size) k2 hf (Nat.le_refl _) ⟨(by show 2<=sizeLine;decide),[u,v],.cons ru (.cons rv .nil),⟨_,p2,⟨rfl,rfl⟩,_,rfl⟩⟩;have hfr:H s.heap.objs.size=none:=I.hok.fresh (Nat.le_refl _);have nn:∀ j:Nat,j < 4->(n:Nat) + j≠n + 4:=nn4 n;refine ⟨.ref s.heap.objs.size,_,J,rfl,⟨_,x,y,rfl,hfr,rfl,fun ys2 zs2 h1 h2=>?_⟩,⟨⟨z2,(sb.2 _ (nn 2 (by decide))).trans a2,_,_,(sb.2 _ (nn 3 (by decide))).trans a3⟩,a4.1.extBut sb.extBut (nn 0 (by decide)),a5.1.extBut sb.extBut (nn 1 (by decide))⟩,fun c hc=>?_⟩
  ·rw [<- I.tuple_inj q1 h1,<- I.tuple_inj q2 h2];exact ⟨hx,hy⟩
  ·have cl:c < s.heap.objs.size:=by
    simp only [mem_cons,not_mem_nil,or_false] at hc;exact lt5 zl hc
   rw [Jb (Nat.ne_of_lt cl)];exact (hf c hc).1
 done:=by
  intro X hP hw hK hc i pins s σ H E I hf st hg;subst hP hw hK;obtain ⟨Z,t1,t2⟩:=st;obtain ⟨xs,q1,hl⟩:=hg;obtain ⟨its1,r1,pl1,_⟩:=I.tuple q1;have G1:=J3g (prog:=X.prog) (w:=X.w) (i:=n) (l:=a) (Nat.ne_of_lt ha) its1.toArray;refine zipN_end (b:=b) (I.ok.hd hc) ha hb G1 Z ⟨t1,pl1⟩ (by have:=r1.length;simp;omega) fun g k=>⟨rfl,I.turned0 (t':=s.toks) k hf⟩
 self:=fun A i s Q E st h=>wpAny_pyIter_zip st.1.1 h
end L2
namespace L2
open PySem PySem.Spec PyProof.Rows
def Itzl (K:Frag) (a b:Addr):It :=
 ⟨fun i H=>∃ xs ys x y,SqL K H a xs/\SqL K H b ys/\xs[i]?=some x/\ys[i]?=some y,fun i H v H'=>∃ p x y,v=.ref p/\H p=none/\H'=upd H p (.tup [x,y])/\∀ xs ys,SqL K H a xs->SqL K H b ys->xs[i]?=some x/\ys[i]?=some y,fun i H=>∃ xs,SqL K H a xs/\xs.length<=i⟩
theorem turn_zipL {P:Program} {w:World} {K:Frag} {elts:List Expr} {kk:Nat} {tp:Pos} (a b n:Addr) (ha:a < n) (hb:b < n):Turn P w K (.Tuple elts kk tp) (Itzl K a b) [n + 4,n + 2,n + 3,n,n + 1] (n + 4) (fun i h=>ZipAt n h/\h.IsListIter n a i/\h.IsListIter (n + 1) b i) where
 mem:=by simp
 obj:=fun i h st c hc=>by
  obtain ⟨⟨z1,z2,x,y,z3⟩,⟨o1,e1,_,d1⟩,o2,e2,_,d2⟩:=st;simp only [mem_cons,not_mem_nil,or_false] at hc;rcases hc with rfl | rfl | rfl | rfl | rfl
  ·exact ⟨_,z1,fun v z=>by
    have z':Data.fields _=Data.cell v:=z;cases z'⟩
  ·exact ⟨_,z2,fun v z=>by
    have z':Data.seq _ _=Data.cell v:=z;cases z'⟩
  ·exact ⟨_,z3,fun v z=>by
    have z':Data.seq _ _=Data.cell v:=z;cases z'⟩
  ·exact ⟨_,e1,fun v z=>by rw [d1] at z;cases z⟩
  ·exact ⟨_,e2,fun v z=>by rw [d2] at z;cases z⟩
 keep:=fun i h h' st k=>by
  obtain ⟨⟨z1,z2,x,y,z3⟩,⟨o1,e1,r1⟩,o2,e2,r2⟩:=st;exact ⟨⟨k _ (by simp) _ z1,k _ (by simp) _ z2,x,y,k _ (by simp) _ z3⟩,⟨o1,k _ (by simp) _ e1,r1⟩,o2,k _ (by simp) _ e2,r2⟩
 item:=by
  intro X hP hw hK hc i pins s σ H E I hf st hg;subst hP hw hK;obtain ⟨Z,t1,t2⟩:=st;obtain ⟨xs,ys,x,y,q1,q2,hx,hy⟩:=hg;obtain ⟨its1,r1,pl1,_⟩:=I.list q1;obtain ⟨its2,r2,pl2,_⟩:=I.list q2;obtain ⟨u,hu,ru⟩:=r1.get hx;obtain ⟨v,hv,rv⟩:=r2.get hy;have G1:=J3h (prog:=X.prog) (w:=X.w) (i:=n) (l:=a) (Nat.ne_of_lt ha) its1.toArray;have G2:=J3h (prog:=X.prog) (w:=X.w) (i:=n + 1) (l:=b) (Nat.ne_of_lt (Nat.lt_succ_of_lt hb)) its2.toArray;have zl:n + 4 < s.heap.objs.size:=lt_size Z.1;refine zipN_item ha hb G1 G2 Z ⟨t1,pl1.isList⟩ ⟨t2,pl2.isList⟩ (x:=u) (y:=v) (by simpa using hu) (by simpa using hv) fun g a1 a2 a3 a4 a5 a6 a7=>⟨_,rfl,?_⟩;refine wpAny_letOwnedTupleGo_zip a1 fun g2 z2 sb=>?_;have sb:Heap.SameBut (n + 4) g g2:=sb;have k2:∀ c o,c ∉ [n + 4,n + 2,n + 3,n,n + 1]->s.heap.get? c=some o->g2.get? c=some o:=fun c o h1 e=>(sb.2 c (fun q=>h1 (by simp [q]))).trans (a7 c o h1 e);have p2:g2.get? s.heap.objs.size=some { cls:=.type "tuple",data:=.seq #[u,v] }:=(sb.2 _ (Nat.ne_of_gt zl)).trans a6;have J:=I.turnedL (t':=s.toks) (o:=.tup [x,y]) (p:=s.heap.objs.size) k2 hf (Nat.le_refl _) ⟨(by show 2<=sizeLine;decide),[u,v],.cons ru (.cons rv .nil),⟨_,p2,⟨rfl,rfl⟩,_,rfl⟩⟩;have hfr:H s.heap.objs.size=none:=I.hok.fresh (Nat.le_refl _);have nn:∀ j:Nat,j < 4->(n:Nat) + j≠n + 4:=nn4 n;refine ⟨.ref s.heap.objs.size,_,J,rfl,⟨_,x,y,rfl,hfr,rfl,fun ys2 zs2 h1 h2=>?_⟩,⟨⟨z2,(sb.2 _ (nn 2 (by decide))).trans a2,_,_,(sb.2 _ (nn 3 (by decide))).trans a3⟩,a4.1.extBut sb.extBut (nn 0 (by decide)),a5.1.extBut sb.extBut (nn 1 (by decide))⟩,fun c hc=>?_⟩
  ·rw [<- I.list_inj q1 h1,<- I.list_inj q2 h2];exact ⟨hx,hy⟩
  ·have cl:c < s.heap.objs.size:=by
    simp only [mem_cons,not_mem_nil,or_false] at hc;exact lt5 zl hc
   rw [Jb (Nat.ne_of_lt cl)];exact (hf c hc).1
 done:=by
  intro X hP hw hK hc i pins s σ H E I hf st hg;subst hP hw hK;obtain ⟨Z,t1,t2⟩:=st;obtain ⟨xs,q1,hl⟩:=hg;obtain ⟨its1,r1,pl1,_⟩:=I.list q1;have G1:=J3h (prog:=X.prog) (w:=X.w) (i:=n) (l:=a) (Nat.ne_of_lt ha) its1.toArray;refine zipN_end (b:=b) (I.ok.hd hc) ha hb G1 Z ⟨t1,pl1.isList⟩ (by have:=r1.length;simp;omega) fun g k=>⟨rfl,I.turned0 (t':=s.toks) k hf⟩
 self:=fun A i s Q E st h=>wpAny_pyIter_zip st.1.1 h
section
variable {prog:Program} {w:World} {A:Around} {E:Value->Shared->Prop} {s:Shared}
theorem call_zipT {l1 l2:Addr} {xs ys:Array Value} {Q:Value->Shared->Prop} (h1:s.heap.IsTuple l1 xs) (h2:s.heap.IsTuple l2 ys)
  (h:∀ g,ZipAt s.heap.objs.size g->g.IsTupleIter s.heap.objs.size l1 0->g.IsTupleIter (s.heap.objs.size + 1) l2 0->(∀ c o,s.heap.get? c=some o->g.get? c=some o)->Q (.ref (s.heap.objs.size + 4)) { s with heap:=g }) :
  wpAny (model prog w) A (call (.type "zip") [.ref l1,.ref l2]) Q E s:=by
 refine callType_new PySem.F.called_zip (by decide) (PySem.F.typeCall_zip_2 _ _) (PySem.F.newCall_zip_2 _ _) (fun obj=>PySem.F.args_object_init_3 obj _ _) PySem.F.entry_zip_new (zip_newT l1 l2 xs ys) ⟨h1,h2,?_⟩;obtain ⟨A1,e1⟩:∃ A1,A1=s.heap.push { cls:=.type "tuple_iterator",data:=.fields #[.ref l1,.int 0 0] }:=⟨_,rfl⟩;obtain ⟨A2,e2⟩:∃ A2,A2=A1.push { cls:=.type "tuple_iterator",data:=.fields #[.ref l2,.int 0 0] }:=⟨_,rfl⟩;obtain ⟨A3,e3⟩:∃ A3,A3=A2.push { cls:=.type "tuple",data:=.seq #[.ref s.heap.objs.size,.ref (s.heap.objs.size + 1)] }:=⟨_,rfl⟩;obtain ⟨A4,e4⟩:∃ A4,A4=A3.push { cls:=.type "tuple",data:=.seq #[.none,.none] }:=⟨_,rfl⟩;obtain ⟨A5,e5⟩:∃ A5,A5=A4.push { cls:=.type "zip",data:=.fields #[.none,.bool false,.bool false,.ref (s.heap.objs.size + 2),.ref (s.heap.objs.size + 3)] }:=⟨_,rfl⟩;have n1:A1.objs.size=s.heap.objs.size + 1:=by rw [e1];exact size_push _ _
 have n2:A2.objs.size=s.heap.objs.size + 2:=by rw [e2,size_push,n1]
 have n3:A3.objs.size=s.heap.objs.size + 3:=by rw [e3,size_push,n2]
 have n4:A4.objs.size=s.heap.objs.size + 4:=by rw [e4,size_push,n3]
 have g5:IsZip A5 (s.heap.objs.size + 4) (s.heap.objs.size + 2) (s.heap.objs.size + 3) .none:=by
  have q:=get?_push_size A4 (o:={ cls:=.type "zip",data:=.fields #[.none,.bool false,.bool false,.ref (s.heap.objs.size + 2),.ref (s.heap.objs.size + 3)] }) rfl;rw [<- e5,n4] at q;exact q
 have g4:IsPair A5 (s.heap.objs.size + 3) .none .none:=by
  have q:=get?_push_size A3 (o:={ cls:=.type "tuple",data:=.seq #[.none,.none] }) rfl;rw [<- e4,n3] at q;rw [IsPair,e5];exact get?_push_of_some _ q
 have g3:IsPair A5 (s.heap.objs.size + 2) (.ref s.heap.objs.size) (.ref (s.heap.objs.size + 1)):=by
  have q:=get?_push_size A2 (o:={ cls:=.type "tuple",data:=.seq #[.ref s.heap.objs.size,.ref (s.heap.objs.size + 1)] }) rfl;rw [<- e3,n2] at q;rw [IsPair,e5,e4];exact get?_push_of_some _ (get?_push_of_some _ q)
 have g2:A5.get? (s.heap.objs.size + 1)=some { cls:=.type "tuple_iterator",data:=.fields #[.ref l2,.int 0 0] }:=by
  have q:=get?_push_size A1 (o:={ cls:=.type "tuple_iterator",data:=.fields #[.ref l2,.int 0 0] }) rfl;rw [<- e2,n1] at q;rw [e5,e4,e3];exact get?_push_of_some _ (get?_push_of_some _ (get?_push_of_some _ q))
 have g1:A5.get? s.heap.objs.size=some { cls:=.type "tuple_iterator",data:=.fields #[.ref l1,.int 0 0] }:=by rw [e5,e4,e3,e2,e1];exact get?_push_of_some _ (get?_push_of_some _ (get?_push_of_some _ (get?_push_of_some _ (get?_push_size _ rfl))))
 have kp:∀ c o,s.heap.get? c=some o->A5.get? c=some o:=fun c o e=>by
  rw [e5,e4,e3,e2,e1];exact get?_push_of_some _ (get?_push_of_some _ (get?_push_of_some _ (get?_push_of_some _ (get?_push_of_some _ e))))
 show _/\_;rw [<- e1,<- e2,<- e3,<- e4,<- e5];exact ⟨⟨_,g5,rfl⟩,h A5 ⟨g5,g3,_,_,g4⟩ ⟨_,g1,rfl,rfl⟩ ⟨_,g2,rfl,rfl⟩ kp⟩
end
section
variable {X:Cx}
def iZip (K:Frag) (ta:TA):TI:=fun σ H R=>ta σ H fun vs H1=>∃ a b,vs=[.ref a,.ref b]/\(((∃ xs,SqT K H1 a xs)/\(∃ ys,SqT K H1 b ys)/\R (Itz K a b) H1)\/((∃ xs,SqL K H1 a xs)/\(∃ ys,SqL K H1 b ys)/\R (Itzl K a b) H1))
theorem pi_zip {elts:List Expr} {kk:Nat} {tp:Pos} {a b:Expr} {ta:TA} {p pos:Pos} (hg:Gl X "zip") (hm:X.mg "zip"=none) (ha:PA X [a,b] ta) (hs:starEach [a,b] X.env=(false,eval a X.env) :: starEach [b] X.env:=by rfl) (hpl:(backTo pos (starEach [b] X.env)).any (·.1)=false:=by rfl):PI X (.Tuple elts kk tp) (.Call (.Name "zip" p) [a,b] [] pos) (iZip X.K ta):=by
 intro pins s σ H R I h;refine Call_ (J3f I hg hm PyProof.Rows.boot_zip (callWith_type1 (thn (ha pos pins s σ H _ I h) fun us s1 h9=>?_) hs hpl));obtain ⟨vs,H1,I1,r1,q1⟩:=h9;obtain ⟨a,b,e,q1⟩:=q1;subst e;obtain ⟨u,v,rfl,ru,rv⟩:=r1.two;cases ru;cases rv;have fp:∀ c∈[s1.heap.objs.size + 4,s1.heap.objs.size + 2,s1.heap.objs.size + 3,s1.heap.objs.size,s1.heap.objs.size + 1],FpOk X pins H1 c:=fun c hc=>by
  have hbs:s1.heap.objs.size<=c:=by
   simp only [mem_cons,not_mem_nil,or_false] at hc;rcases hc with rfl | rfl | rfl | rfl | rfl
   ·exact Nat.le_add_right ..
   ·exact Nat.le_add_right ..
   ·exact Nat.le_add_right ..
   ·exact Nat.le_refl _
   ·exact Nat.le_add_right ..
  exact I1.fpOk hbs (I1.hok.fresh hbs)
 rcases q1 with ⟨⟨xs,hx⟩,⟨ys,hy⟩,q⟩ | ⟨⟨xs,hx⟩,⟨ys,hy⟩,q⟩
 ·obtain ⟨its,r,pl,_⟩:=I1.tuple hx;obtain ⟨its2,r2,pl2,_⟩:=I1.tuple hy;have la:a < s1.heap.objs.size:=by obtain ⟨o,ho,_⟩:=pl;exact lt_size ho
  have lb:b < s1.heap.objs.size:=by obtain ⟨o,ho,_⟩:=pl2;exact lt_size ho
  refine call_zipT (show s1.heap.IsTuple a its.toArray from pl) (show s1.heap.IsTuple b its2.toArray from pl2) fun g Z t1 t2 kp=>?_;have I2:Inv X pins σ H1 { s1 with heap:=g }:=I1.kept (t':=s1.toks) kp;refine wpAny_pyIter_zip Z.1 ?_;exact ⟨_,_,_,_,H1,rfl,I2,turn_zip a b _ la lb,⟨Z,t1,t2⟩,fp,q⟩
 ·obtain ⟨its,r,pl,_⟩:=I1.list hx;obtain ⟨its2,r2,pl2,_⟩:=I1.list hy;have la:a < s1.heap.objs.size:=by obtain ⟨o,ho,_⟩:=pl.isList;exact lt_size ho
  have lb:b < s1.heap.objs.size:=by obtain ⟨o,ho,_⟩:=pl2.isList;exact lt_size ho
  refine call_zip_2 pl.isList pl2.isList fun g z1 z2 z3 t1 t2 _ kp=>?_;have I2:Inv X pins σ H1 { s1 with heap:=g }:=I1.kept (t':=s1.toks) kp;refine wpAny_pyIter_zip z1 ?_;exact ⟨_,_,_,_,H1,rfl,I2,turn_zipL a b _ la lb,⟨⟨z1,z2,_,_,z3⟩,t1,t2⟩,fp,q⟩
end
end L2
namespace L2
open PySem PySem.Spec PyProof.Rows
section
variable {K:Frag} {a:Addr} {H1:Hp} {te:TE} {σ:St} {js:List Nat} {Q:VK} {d:Addr}
theorem lc_zipT {b:Addr} (xs zs:List V) (Pr:Hp->Addr->Nat->Prop) (hx:SqT K H1 a xs) (hz:SqT K H1 b zs) (hlz:zs.length=xs.length) (hn:xs.length<=sizeLine) (hd:H1 d=none)
  (mono:∀ H H' q i,KeepD d H H'->q≠d->Pr H q i->Pr H' q i)
  (he:∀ (i:Nat) (v z:V),xs[i]?=some v->zs[i]?=some z->∀ H Qe,Same H1 H->(∃ ys,H d=some (.lst ys))->(∀ q H',Same H H'->q≠d->Pr H' q i->Qe (.ref q) H')->te (some v :: some z :: capv σ js) H Qe)
  (hq:∀ ys H',Same H1 H'->H' d=some (.lst ys)->Refs (fun q i=>Pr H' q i) ys xs.length->Q (.ref d) H'):LCW2 K (Itz K a b) tYes te σ js Q H1 d:=by
 have s0:∀ o,Same H1 (upd H1 d o):=fun o b u e=>by rw [Jb (J3 e hd)];exact e
 refine ⟨fun i m ys H=>m=xs.length - i/\i<=xs.length/\Same H1 H/\H d=some (.lst ys)/\Refs (fun q i=>q≠d/\Pr H q i) ys i,⟨_,rfl,Nat.zero_le _,s0 _,J0,Refs.nil⟩,?_⟩;rintro i m ys H2 ⟨rfl,hi,sm,h2,rf⟩;refine ⟨h2,?_⟩;by_cases hlt:i < xs.length
 ·refine .inr ⟨⟨_,_,_,_,sm.tup hx,sm.tup hz,List.getElem?_eq_getElem hlt,List.getElem?_eq_getElem (show i < zs.length by omega)⟩,by rw [rf.len];omega,fun v H3 y3=>?_⟩;obtain ⟨p,x,z,rfl,hp,rfl,hv⟩:=y3;obtain ⟨hv,hw⟩:=hv _ _ (sm.tup hx) (sm.tup hz);have s3:Same H2 (upd H2 p (.tup [x,z])):=fun b u e=>by rw [Jb (J3 e hp)];exact e
  refine ⟨p,_,_,rfl,SqT.of J0,?_⟩;unfold tYes;dsimp only;rw [if_pos rfl];refine he i x z hv hw _ _ (sm.trans s3) ⟨_,s3 _ _ h2⟩ fun q H5 s5 hqd hpq=>⟨s5 _ _ (s3 _ _ h2),xs.length - (i + 1),by omega,rfl,hlt,?_,J0,?_⟩
  ·intro b u e;rw [Jb (J3 e hd)];exact s5 _ _ (s3 _ _ (sm _ _ e))
  ·have kd:∀ H,KeepD d H (upd H d (.lst (ys ++ [.ref q]))):=fun H b o e n=>by rw [Jb n];exact e
   refine (rf.mono fun a j _ x=>⟨x.1,?_⟩).snoc ⟨hqd,mono _ _ _ _ (kd _) hqd hpq⟩;exact mono _ _ _ _ (fun b o e n=>kd _ _ _ (s5 _ _ (s3 _ _ e)) n) x.1 x.2
 ·have e:i=xs.length:=by omega
  subst e;exact .inl ⟨⟨_,sm.tup hx,Nat.le_refl _⟩,hq ys H2 sm h2 (rf.mono fun _ _ _ x=>x.2)⟩
theorem lc_zipL {b:Addr} (xs zs:List V) (Pr:Hp->Addr->Nat->Prop) (hx:SqL K H1 a xs) (hz:SqL K H1 b zs) (hlz:zs.length=xs.length) (hn:xs.length<=sizeLine) (hd:H1 d=none)
  (mono:∀ H H' q i,KeepD d H H'->q≠d->Pr H q i->Pr H' q i)
  (he:∀ (i:Nat) (v z:V),xs[i]?=some v->zs[i]?=some z->∀ H Qe,Same H1 H->(∃ ys,H d=some (.lst ys))->(∀ q H',Same H H'->q≠d->Pr H' q i->Qe (.ref q) H')->te (some v :: some z :: capv σ js) H Qe)
  (hq:∀ ys H',Same H1 H'->H' d=some (.lst ys)->Refs (fun q i=>Pr H' q i) ys xs.length->Q (.ref d) H'):LCW2 K (Itzl K a b) tYes te σ js Q H1 d:=by
 have s0:∀ o,Same H1 (upd H1 d o):=fun o b u e=>by rw [Jb (J3 e hd)];exact e
 refine ⟨fun i m ys H=>m=xs.length - i/\i<=xs.length/\Same H1 H/\H d=some (.lst ys)/\Refs (fun q i=>q≠d/\Pr H q i) ys i,⟨_,rfl,Nat.zero_le _,s0 _,J0,Refs.nil⟩,?_⟩;rintro i m ys H2 ⟨rfl,hi,sm,h2,rf⟩;refine ⟨h2,?_⟩;by_cases hlt:i < xs.length
 ·refine .inr ⟨⟨_,_,_,_,sm.seq hx,sm.seq hz,List.getElem?_eq_getElem hlt,List.getElem?_eq_getElem (show i < zs.length by omega)⟩,by rw [rf.len];omega,fun v H3 y3=>?_⟩;obtain ⟨p,x,z,rfl,hp,rfl,hv⟩:=y3;obtain ⟨hv,hw⟩:=hv _ _ (sm.seq hx) (sm.seq hz);have s3:Same H2 (upd H2 p (.tup [x,z])):=fun b u e=>by rw [Jb (J3 e hp)];exact e
  refine ⟨p,_,_,rfl,SqT.of J0,?_⟩;unfold tYes;dsimp only;rw [if_pos rfl];refine he i x z hv hw _ _ (sm.trans s3) ⟨_,s3 _ _ h2⟩ fun q H5 s5 hqd hpq=>⟨s5 _ _ (s3 _ _ h2),xs.length - (i + 1),by omega,rfl,hlt,?_,J0,?_⟩
  ·intro b u e;rw [Jb (J3 e hd)];exact s5 _ _ (s3 _ _ (sm _ _ e))
  ·have kd:∀ H,KeepD d H (upd H d (.lst (ys ++ [.ref q]))):=fun H b o e n=>by rw [Jb n];exact e
   refine (rf.mono fun a j _ x=>⟨x.1,?_⟩).snoc ⟨hqd,mono _ _ _ _ (kd _) hqd hpq⟩;exact mono _ _ _ _ (fun b o e n=>kd _ _ _ (s5 _ _ (s3 _ _ e)) n) x.1 x.2
 ·have e:i=xs.length:=by omega
  subst e;exact .inl ⟨⟨_,sm.seq hx,Nat.le_refl _⟩,hq ys H2 sm h2 (rf.mono fun _ _ _ x=>x.2)⟩
end
end L2
namespace L2
open PySem PySem.Spec PyProof.Rows
end L2
namespace L2
open PySem PySem.Spec PyProof.Rows
end L2
namespace L2
open PySem PySem.Spec PyProof.Rows
end L2
namespace L2
open PySem PySem.Spec PyProof.Rows
section
variable {X:Cx}
theorem J3d {prog:Program} {w:World} {A:Around} {E:Value->Shared->Prop} {s:Shared} {l:Addr} {xs:Array (Int × Tok)} {Q:Value->Shared->Prop} (hh:A.handled=none) (ht:s.heap.IsTuple l (intItems xs)) (hne:0 < xs.size)
  (h:∀ v h' tk,(intItems xs)[argBest (fun i j=>decide (numAt xs i > numAt xs j)) (xs.size - 1)]?=some v->(∀ b o,s.heap.get? b=some o->h'.get? b=some o)->Q v { s with heap:=h',toks:=tk }) :
  wpAny (model prog w) A (call (.builtin "max") [.ref l]) Q E s:=by
 obtain ⟨o,ho,hc,n,hd⟩:=id ht;have hne':l≠s.heap.objs.size:=Nat.ne_of_lt (lt_size ho);refine call_max_walk (wpAny_pyIter_tuple ht ?_);refine ⟨s.heap.objs.size,_,_,_,_,_,_,rfl,Walks.tuple (A:=A.in1) hh _ l hne' (intItems xs),⟨⟨_,get?_push_size _ rfl,rfl,rfl⟩,ht.at fun o e=>get?_push_of_some _ e⟩,fun b hb=>?_,by simpa [intItems] using hne,CmpOf.ints_gt (numAt xs) (fun _ _=>intItems_at),fun v h' tk hP hk=>?_⟩
 ·rcases mem_cons.mp hb with rfl | hb
  ·exact lt_size (get?_push_size _ rfl)
  ·obtain rfl:=mem_singleton.mp hb;exact lt_size (get?_push_of_some _ ho)
 ·refine h v h' tk (by simpa [intItems] using hP) fun b o e=>hk b o (fun hb=>absurd (lt_size e) ((mem_singleton.mp hb) ▸ Nat.lt_irrefl _)) (get?_push_of_some _ e)
theorem best_max {ns:List Int} {xs:Array (Int × Tok)} (hns:ns=xs.toList.map (·.1)) (hsz:0 < xs.size) :
  numAt xs (argBest (fun i j=>decide (numAt xs i > numAt xs j)) (xs.size - 1))∈ns/\∀ a∈ns,a<=numAt xs (argBest (fun i j=>decide (numAt xs i > numAt xs j)) (xs.size - 1)):=by
 obtain ⟨h1,h2⟩:=argBest_gt (numAt xs) (xs.size - 1);refine ⟨?_,fun a ha=>?_⟩
 ·rw [hns,numAt_eq];exact getD_mem (by rw [length_map,length_toList];omega)
 ·rw [hns] at ha;obtain ⟨j,hj,rfl⟩:=mem_getD ha;rw [length_map,length_toList] at hj;rw [<- numAt_eq];exact h2 j (by omega)
theorem call_max (hc:X.calm=true):CallR X (.builtin "max") (fun xs H Q=>∃ (p:Addr) (ns:List Int),xs=[.ref p]/\SqI X.K H p (ns.map V.int)/\0 < ns.length/\∀ M,M∈ns->(∀ a∈ns,a<=M)->Q (.int M) H):=by
 intro pins s σ H xs us Q I r h;obtain ⟨p,ns,rfl,hq,hne,q⟩:=h;obtain ⟨u,rfl,rx⟩:=vals1 r;cases rx;have hh:=I.ok.hd hc;rcases hq with hq | hq
 ·obtain ⟨its,r',pl,hz⟩:=I.list hq;obtain ⟨xs,hx,_,e1⟩:=J2b (Jl r');have hsz:0 < xs.size:=by rw [e1,length_map,length_toList] at hne;exact hne
  refine max_intList hh (hx ▸ pl.isList) hsz fun v h' tk hv hk=>?_;obtain ⟨t,rfl⟩:=intItems_at hv;obtain ⟨b1,b2⟩:=best_max e1 hsz;exact ⟨.int _,H,I.kept hk,⟨t,rfl⟩,q _ b1 b2⟩
 ·obtain ⟨its,r',pl,hz⟩:=I.tuple hq;obtain ⟨xs,hx,_,e1⟩:=J2b (Jl r');have hsz:0 < xs.size:=by rw [e1,length_map,length_toList] at hne;exact hne
  refine J3d hh (hx ▸ (show s.heap.IsTuple p its.toArray from pl)) hsz fun v h' tk hv hk=>?_;obtain ⟨t,rfl⟩:=intItems_at hv;obtain ⟨b1,b2⟩:=best_max e1 hsz;exact ⟨.int _,H,I.kept hk,⟨t,rfl⟩,q _ b1 b2⟩
def rSlS (K:Frag):V->Option Int->Option Int->Hp->VK->Prop:=fun x lo hi H Q=>rSlL K x lo hi H Q\/rSlT K x lo hi H Q
theorem sl_seq:SlR X (rSlS X.K):=sl_list.or sl_tup
end
end L2
namespace PySem
namespace F
end F
end PySem
namespace L2
open PySem PyProof.Rows
end L2
namespace L2
open PySem PySem.Spec PyProof.Rows
end L2
namespace L2
open PySem PySem.Spec PyProof.Rows
section
variable {X:Cx}
def isNumV (k:Int):Value->Bool
 | .int a _=>a == k
 | _=>false
theorem ints_of:∀ {ns:List Int} {us:List Value},Vals (ns.map V.int) us->(∀ u∈us,∃ a t,u=.int a t)/\∀ k,us.countP (isNumV k)=ns.count k
 | [],us,r=>by cases r;exact ⟨fun u h=>(nomatch h),fun k=>rfl⟩
 | n :: ns,us,r=>by
  cases r with
  | cons r1 r2 =>
   obtain ⟨t,e⟩:=r1;subst e;obtain ⟨h1,h2⟩:=ints_of r2;refine ⟨fun u hu=>?_,fun k=>?_⟩
   ·rcases mem_cons.mp hu with e | e
    ·exact ⟨n,t,e⟩
    ·exact h1 u e
   ·rw [countP_cons,h2,count_cons];rfl
def rCountI (K:Frag):V->List V->Hp->VK->Prop:=fun x vs H Q=>∃ (l:Addr) (ns:List Int) (k:Int),x=.ref l/\vs=[.int k]/\H l=some (.lst (ns.map V.int))/\Q (.int (ns.count k:Nat)) H
theorem mt_countI:MtM X "list.count" (rCountI X.K):=by
 intro pins s σ H x vs v us Q I rx rv h;obtain ⟨l,ns,k,rfl,rfl,hH,q⟩:=h;cases rx;obtain ⟨u,rfl,ru⟩:=rv.one;obtain ⟨tk,rfl⟩:=ru;obtain ⟨z,its,n,r,hl,e⟩:=I.lstM hH;obtain ⟨h1,h2⟩:=ints_of r;refine call_meets PySem.F.slot_list_count ⟨_,e,rfl⟩ PySem.F.entry_list_count (PySem.F.args_list_count_2 _ _) (PySem.SeqAt.list_countAt l _ n none #[] (.int k tk) (isNumV k)) ⟨e,fun y hy=>?_,?_⟩
 ·obtain ⟨a,t,rfl⟩:=h1 y (by simpa using hy);exact SeqAt.EqAt.int_int a t k tk
 ·exact ⟨.int (ns.count k:Nat),H,I.tok _,⟨_,by rw [<- h2 k]⟩,q⟩
end
section
variable {X:Cx} {e e1 e2:Expr} {te tk tl:TE} {p2 pos:Pos}
theorem J1g {xs:List V} {us:List Value} (r:Vals xs us):∀ l:List Nat,Vals (l.filterMap fun i=>xs[i]?) (l.filterMap fun i=>us[i]?)
 | []=>.nil
 | i :: l=>by
  cases c:xs[i]? with
  | none=>rw [List.filterMap_cons_none c,List.filterMap_cons_none (r.none_of c)];exact J1g r l
  | some x =>
   obtain ⟨u,hu,q⟩:=r.get c;rw [List.filterMap_cons_some c,List.filterMap_cons_some hu];exact .cons q (J1g r l)
def stepL {α:Type} (a:Nat) (xs:List α):List α:=((List.range ((xs.length + 1 - a) / 2)).map fun k=>a + 2 * k).filterMap fun i=>xs[i]?
theorem J2k (n a:Nat):sliceRange (a:Int) (n:Int) 2=(List.range ((n + 1 - a) / 2)).map fun k=>a + 2 * k:=by
 unfold sliceRange;have h1:((2:Int) > 0):=by decide
 have e:(if (a:Int) < (n:Int) then ((n:Int) - (a:Int) + 2 - 1) / 2 else 0).toNat=(n + 1 - a) / 2:=by split <;> omega
 simp only [h1,if_true,e];apply map_congr_left;intro k _;omega
theorem look_list (items:Array Value):(fun i:Nat=>items[i]?)=fun i:Nat=>items.toList[i]?:=by
 funext i
 rw [getElem?_toList]
theorem pick_ev (items:Array Value):slicePick items none none (some 2)=(stepL 0 items.toList).toArray:=by
 unfold slicePick;rw [show sliceBounds none none (some 2) items.size=(((0:Nat):Int),(items.size:Int),2) from by first | rfl | simp [sliceBounds]];show ((sliceRange ((0:Nat):Int) (items.size:Int) 2).filterMap (items[·]?)).toArray=_;rw [J2k];unfold stepL;rw [length_toList];rw [look_list]
theorem pick_od (items:Array Value):slicePick items (some 1) none (some 2)=(stepL 1 items.toList).toArray:=by
 unfold slicePick;have hb:sliceBounds (some 1) none (some 2) items.size=(((min 1 items.size:Nat):Int),(items.size:Int),2):=by
  simp [sliceBounds];omega
 rw [hb];show ((sliceRange ((min 1 items.size:Nat):Int) (items.size:Int) 2).filterMap (items[·]?)).toArray=_;rw [J2k];unfold stepL;rw [length_toList]
 congr 1
 by_cases c:items.size=0
 ·rw [c];rfl
 ·rw [show min 1 items.size=1 by omega];rw [look_list]
theorem stepL_len {α:Type} (a:Nat) (xs:List α):(stepL a xs).length<=xs.length:=by
 unfold stepL;refine Nat.le_trans (List.length_filterMap_le ..) ?_;rw [length_map,length_range];omega
def tEv (K:Frag) (te tk:TE):TE:=fun σ H Q=>te σ H fun x H1=>tk σ H1 fun z H2=>z=.int 2/\∃ a xs,x=.ref a/\SqL K H2 a xs/\∀ p,H2 p=none->Q (.ref p) (upd H2 p (.lst (stepL 0 xs)))
theorem pe_ev (he:PE X e te) (hk:PE X e1 tk):PE X (.Subscript e (.Slice none none (some e1) p2) pos) (tEv X.K te tk):=by
 intro pins s σ H Q I h;refine Subscript_ (thn (he pins s σ H _ I h) fun v s1 h9=>?_);obtain ⟨x,H1,I1,r1,q1⟩:=h9;refine wpAny_Slice ?_;rw [evalPart_none];refine wpAny_pure (wpAny_pure ?_);rw [evalPart_some];refine thn (hk pins s1 σ H1 _ I1 q1) fun vk s3 h9=>?_;obtain ⟨z,H3,I3,r3,q3⟩:=h9;obtain ⟨rfl,a,xs,rfl,hx,q⟩:=q3;obtain ⟨t,rfl⟩:=r3;cases r1;have I4:Inv X pins σ H3 { s3 with heap:=s3.heap.push { cls:=.type "slice",data:=.fields #[.none,.none,.int 2 t] } }:=I3.kept (t':=s3.toks) fun b ob q=>get?_push_of_some _ q;show wpAny (model X.prog X.w) X.A (subscriptTail e (.Slice none none (some e1) p2) (.ref a) (.ref s3.heap.objs.size)) (EP X pins σ Q) X.xe { s3 with heap:=s3.heap.push { cls:=.type "slice",data:=.fields #[.none,.none,.int 2 t] } };obtain ⟨its,r,ht,hz⟩:=I4.list hx;have hlen:=r.length;refine tail_any (T:="list") (ops:=[.ref a,.ref s3.heap.objs.size]) ht.isList.typeIs slot_list_getitem.lookup ?_ (by with_unfolding_all rfl);refine wpAny_getItem_list_slice ht.isList (Heap.IsSliceOf.new ..) .none .none (.int 2 t) (by simp) ?_ (by rw [size_toArray] <;> omega);rw [pick_ev];have hl2:=stepL_len 0 xs;refine ⟨.ref _,_,I4.laid (t':=s3.toks) (o:=.lst (stepL 0 xs)) (fun b ob q=>get?_push_of_some _ q) (Nat.le_refl _) ?_,rfl,q _ (I4.hok.fresh (Nat.le_refl _))⟩;refine ⟨Nat.le_trans hl2 hz,stepL 0 its,0,?_,get?_push_size _ rfl⟩;unfold stepL;rw [<- hlen];exact J1g r _
def tOd (K:Frag) (te tl tk:TE):TE:=fun σ H Q=>te σ H fun x H1=>tl σ H1 fun y H2=>tk σ H2 fun z H3=>y=.int 1/\z=.int 2/\∃ a xs,x=.ref a/\SqL K H3 a xs/\∀ p,H3 p=none->Q (.ref p) (upd H3 p (.lst (stepL 1 xs)))
theorem pe_od (he:PE X e te) (hl:PE X e2 tl) (hk:PE X e1 tk):PE X (.Subscript e (.Slice (some e2) none (some e1) p2) pos) (tOd X.K te tl tk):=by
 intro pins s σ H Q I h;refine Subscript_ (thn (he pins s σ H _ I h) fun v s1 h9=>?_);obtain ⟨x,H1,I1,r1,q1⟩:=h9;refine wpAny_Slice ?_;rw [evalPart_some];refine thn (hl pins s1 σ H1 _ I1 q1) fun vl s2 h9=>?_;obtain ⟨y,H2,I2,r2,q2⟩:=h9;refine wpAny_pure ?_;rw [evalPart_some];refine thn (hk pins s2 σ H2 _ I2 q2) fun vk s3 h9=>?_;obtain ⟨z,H3,I3,r3,q3⟩:=h9;obtain ⟨rfl,rfl,a,xs,rfl,hx,q⟩:=q3;obtain ⟨t,rfl⟩:=r3;obtain ⟨t1,rfl⟩:=r2;cases r1;have I4:Inv X pins σ H3 { s3 with heap:=s3.heap.push { cls:=.type "slice",data:=.fields #[.int 1 t1,.none,.int 2 t] } }:=I3.kept (t':=s3.toks) fun b ob q=>get?_push_of_some _ q;show wpAny (model X.prog X.w) X.A (subscriptTail e (.Slice (some e2) none (some e1) p2) (.ref a) (.ref s3.heap.objs.size)) (EP X pins σ Q) X.xe { s3 with heap:=s3.heap.push { cls:=.type "slice",data:=.fields #[.int 1 t1,.none,.int 2 t] } };obtain ⟨its,r,ht,hz⟩:=I4.list hx;have hlen:=r.length;refine tail_any (T:="list") (ops:=[.ref a,.ref s3.heap.objs.size]) ht.isList.typeIs slot_list_getitem.lookup ?_ (by with_unfolding_all rfl);refine wpAny_getItem_list_slice ht.isList (Heap.IsSliceOf.new ..) (.int 1 t1) .none (.int 2 t) (by simp) ?_ (by rw [size_toArray] <;> omega);rw [pick_od];have hl2:=stepL_len 1 xs;refine ⟨.ref _,_,I4.laid (t':=s3.toks) (o:=.lst (stepL 1 xs)) (fun b ob q=>get?_push_of_some _ q) (Nat.le_refl _) ?_,rfl,q _ (I4.hok.fresh (Nat.le_refl _))⟩;refine ⟨Nat.le_trans hl2 hz,stepL 1 its,0,?_,get?_push_size _ rfl⟩;unfold stepL;rw [<- hlen];exact J1g r _
end
end L2
namespace L2
open PySem PySem.Spec PyProof.Rows
section
variable {X:Cx}
theorem mt_countIK (K:Frag) (h:X.K=K:=by rfl):MtM X "list.count" (rCountI K):=by subst h;exact mt_countI
end
end L2
namespace HT
open PySem PySem.Spec PyProof.Rows L2
end HT
namespace L2
open PySem PySem.Spec PyProof.Rows
end L2
namespace Rl
open PySem
def Ris (xs:Array Nat):Prop:=xs.toList.Pairwise (· < ·)
theorem Ris.lt {xs:Array Nat} (h:Ris xs) {i k a b:Nat} (hik:i < k) (ha:xs[i]?=some a) (hb:xs[k]?=some b):a < b:=by
 obtain ⟨hi,rfl⟩:=Array.getElem?_eq_some_iff.mp ha;obtain ⟨hk,rfl⟩:=Array.getElem?_eq_some_iff.mp hb;have:=List.pairwise_iff_getElem.mp h i k (by rw [length_toList];exact hi) (by rw [length_toList];exact hk) hik;rwa [Array.getElem_toList,Array.getElem_toList] at this
structure BelowAt (xs:Array Nat) (j i:Nat):Prop where
 le:i<=xs.size
 lo:∀ k a,k < i->xs[k]?=some a->a < j
 hi:∀ k a,i<=k->xs[k]?=some a->j<=a
theorem belowGo {xs:Array Nat} {j:Nat} (r:Ris xs):∀ (f lo hi:Nat),lo<=hi->hi<=xs.size->hi - lo<=f->(∀ k a,k < lo->xs[k]?=some a->a < j)->(∀ k a,hi<=k->xs[k]?=some a->j<=a)->BelowAt xs j (SetTable.below.go xs j f lo hi)
 | 0,lo,hi,h1,h2,h3,h4,h5=>⟨by show lo<=_;omega,h4,fun k a hk ha=>h5 k a (by have:lo<=k:=hk;omega) ha⟩
 | f + 1,lo,hi,h1,h2,h3,h4,h5=>by
  rw [SetTable.below.go];split
  ·rename_i c;have hm:(lo + hi) / 2 < xs.size:=by omega
   have e:xs[(lo + hi) / 2]?=some (xs.getD ((lo + hi) / 2) j):=by
    rw [Array.getD_eq_getD_getElem?,Array.getElem?_eq_getElem hm];rfl
   show BelowAt xs j (if xs.getD ((lo + hi) / 2) j < j then SetTable.below.go xs j f ((lo + hi) / 2 + 1) hi else SetTable.below.go xs j f lo ((lo + hi) / 2));by_cases q:xs.getD ((lo + hi) / 2) j < j
   ·rw [if_pos q];refine belowGo r f ((lo + hi) / 2 + 1) hi (by omega) h2 (by omega) (fun k a hk ha=>?_) h5;by_cases z:k=(lo + hi) / 2
    ·subst z;rw [e] at ha;cases ha;exact q
    ·exact Nat.lt_trans (r.lt (show k < (lo + hi) / 2 by omega) ha e) q
   ·rw [if_neg q];refine belowGo r f lo ((lo + hi) / 2) (by omega) (by omega) (by omega) h4 (fun k a hk ha=>?_);by_cases z:k=(lo + hi) / 2
    ·subst z;rw [e] at ha;cases ha;omega
    ·have:=r.lt (show (lo + hi) / 2 < k by omega) e ha;omega
  ·rename_i c;exact ⟨by omega,h4,fun k a hk ha=>h5 k a (by omega) ha⟩
theorem J3l {xs:Array Nat} (r:Ris xs) (j:Nat):BelowAt xs j (SetTable.below xs j) :=
 belowGo r xs.size 0 xs.size (Nat.zero_le _) (Nat.le_refl _) (by omega) (fun k a hk=>absurd hk (Nat.not_lt_zero _)) (fun k a hk ha=>by
  have:=(Array.getElem?_eq_some_iff.mp ha).1;omega)
theorem below_uni {xs:Array Nat} {j i i':Nat} (a:BelowAt xs j i) (b:BelowAt xs j i'):i=i':=by
 have key:∀ {p q:Nat},BelowAt xs j p->BelowAt xs j q->¬ p < q:=fun {p q} x y h=>by
  have hp:p < xs.size:=Nat.lt_of_lt_of_le h y.le;have e:=Array.getElem?_eq_getElem hp;have h1:=x.hi p _ (Nat.le_refl _) e;have h2:=y.lo p _ h e;omega
 have k1:=key a b;have k2:=key b a;omega
theorem below_next {xs:Array Nat} (r:Ris xs) {i a:Nat} (h:xs[i]?=some a):SetTable.below xs (a + 1)=i + 1 :=
 below_uni (J3l r _) ⟨(Array.getElem?_eq_some_iff.mp h).1,fun k b hk hb=>by
  by_cases c:k=i
  ·subst c;rw [h] at hb;cases hb;omega
  ·have:=r.lt (show k < i by omega) hb h;omega,fun k b hk hb=>r.lt (show i < k by omega) h hb⟩
theorem below_zero {xs:Array Nat} (r:Ris xs):SetTable.below xs 0=0 :=
 below_uni (J3l r _) ⟨Nat.zero_le _,fun k b hk=>absurd hk (Nat.not_lt_zero _),fun k b _ _=>Nat.zero_le _⟩
theorem J2t {α:Type} (xs:Array α) (p:Nat) (x:α) (h:p<=xs.size):(SetTable.insertAt xs p x).toList=xs.toList.take p ++ x :: xs.toList.drop p:=by
 unfold SetTable.insertAt;rw [Array.toList_append,Array.toList_push,Array.toList_extract,Array.toList_extract];simp only [List.extract_eq_take_drop,List.drop_zero,Nat.sub_zero,List.append_assoc,List.singleton_append];rw [List.take_of_length_le (i:=xs.size - p) (by rw [length_drop,length_toList];omega)]
theorem Ris.put {xs:Array Nat} (r:Ris xs) {j:Nat} (hj:xs[SetTable.below xs j]?≠some j):Ris (SetTable.insertAt xs (SetTable.below xs j) j):=by
 have b:=J3l r j;unfold Ris;rw [J2t _ _ _ b.le,List.pairwise_append,List.pairwise_cons];have hlo:∀ a∈xs.toList.take (SetTable.below xs j),a < j:=fun a ha=>by
  obtain ⟨k,hk⟩:=List.getElem?_of_mem ha;have hk2:k < SetTable.below xs j:=by
   have:=(List.getElem?_eq_some_iff.mp hk).1;rw [length_take] at this;omega
  rw [List.getElem?_take_of_lt hk2,getElem?_toList] at hk;exact b.lo k a hk2 hk
 have hhi:∀ a∈xs.toList.drop (SetTable.below xs j),j < a:=fun a ha=>by
  obtain ⟨k,hk⟩:=List.getElem?_of_mem ha;rw [List.getElem?_drop,getElem?_toList] at hk;have h1:=b.hi _ a (Nat.le_add_right ..) hk;by_cases c:a=j
  ·subst c;by_cases z:k=0
   ·subst z;exact absurd hk hj
   ·have hp:SetTable.below xs a < xs.size:=by
     have:=(Array.getElem?_eq_some_iff.mp hk).1;omega
    have e:=Array.getElem?_eq_getElem hp;have h2:=b.hi _ _ (Nat.le_refl _) e;have h3:=r.lt (show SetTable.below xs a < SetTable.below xs a + k by omega) e hk;omega
  ·omega
 exact ⟨List.Pairwise.sublist (List.take_sublist ..) r,⟨hhi,List.Pairwise.sublist (List.drop_sublist ..) r⟩,fun a ha c hc=>by
  rcases mem_cons.mp hc with rfl | hc
  ·exact hlo a ha
  ·exact Nat.lt_trans (hlo a ha) (hhi c hc)⟩
def TabOk (t:SetTable):Prop:=t.dummies=#[]/\(t.plain=true->Ris t.place)
theorem has_nil (j:Nat):SetTable.has #[] j=false:=rfl
theorem J2p {t:SetTable} (hd:t.dummies=#[]) (f:Nat->Int) (h:Int):∀ (n:Nat) (p:SetTable.Probe) (j:Nat) (d:Option Nat),p.dummy=none->SetTable.probe.go t f h n p=some (.empty j d)->d=none/\t.place[SetTable.below t.place j]?≠some j
 | 0,p,j,d,_,e=>by cases e
 | n + 1,p,j,d,hp,e=>by
  rw [SetTable.probe.go] at e;unfold SetTable.slot at e;rw [hd,has_nil] at e;have ha:∀ q:SetTable.Probe,(t.advance q).dummy=q.dummy:=fun q=>by unfold SetTable.advance;split <;> rfl
  dsimp only at e;by_cases c:(t.place[SetTable.below t.place p.j]? == some p.j)=true
  ·rw [if_pos c] at e;dsimp only at e;split at e
   ·cases e
   ·exact J2p hd f h n _ j d (by rw [ha,hp]) e
  ·rw [if_neg c] at e;simp only [Bool.false_eq_true,if_false] at e;cases e;exact ⟨hp,fun z=>c (by rw [z];exact beq_self_eq_true _)⟩
theorem J10 (t:SetTable) (n:Nat):TabOk (t.standIn n)/\(t.standIn n).led=t.led:=⟨⟨rfl,fun h=>by cases h⟩,rfl⟩
theorem layNew_ok {t:SetTable} (ok:TabOk t) (es:Array (Int × Value)) (h:Int) (x:Value):TabOk (layNew t es h x).2.1/\(layNew t es h x).2.1.led=t.led:=by
 unfold layNew;split
 ·rename_i slot wd e;have hs:t.place[SetTable.below t.place slot]?≠some slot:=by
   unfold SetTable.freeSlot at e;split at e
   ·rename_i j d q;have z:=J2p ok.1 _ h _ _ j d rfl q;rw [z.1] at e;cases e;exact z.2
   ·cases e
  have ok':TabOk (t.put slot).1:=by
   unfold SetTable.put;refine ⟨?_,fun pl=>(ok.2 pl).put hs⟩;show (if SetTable.has t.dummies slot=true then _ else t.dummies)=#[];rw [ok.1,has_nil];rfl
  dsimp only;unfold SetTable.orStandIn;split
  ·exact ⟨ok',rfl⟩
  ·exact ⟨(J10 _ _).1,(J10 _ _).2⟩
 ·exact J10 t _
theorem relayAll_ok (t:SetTable) (es:Array (Int × Value)) (n:Nat):TabOk (relayAll t es n).2.1/\(relayAll t es n).2.1.led=t.led:=by
 unfold relayAll;split
 ·rename_i t' order e;dsimp only;split
  ·unfold SetTable.relaid SetTable.laid at e
   cases q:SetTable.layClean (SetTable.sizeAbove n - 1) (es.map (·.1)) with
   | none=>rw [q] at e;cases e
   | some owner =>
    rw [q] at e;cases e;refine ⟨⟨rfl,fun _=>?_⟩,rfl⟩;unfold Ris;show (List.map _ _).Pairwise (· < ·);rw [pairwise_map,List.pairwise_filterMap];refine List.Pairwise.imp ?_ List.pairwise_lt_range;intro a b hab c hc d hd
    cases ha:owner.getD a none with
    | none=>rw [ha] at hc;cases hc
    | some u =>
     cases hb:owner.getD b none with
     | none=>rw [hb] at hd;cases hd
     | some v =>
      rw [ha] at hc;rw [hb] at hd;cases hc;cases hd;exact hab
  ·exact J10 t _
 ·exact J10 t _
end Rl
namespace L2
open PySem PySem.Spec PyProof.Rows Rl
def numE (e:Int × Value):Int:=match e.2 with
 | .int k _=>k
 | _=>0
section
variable {prog:Program} {w:World} {A:Around} {E:Value->Shared->Prop} {s:Shared}
def SetT (prog:Program) (w:World) (h:Heap) (a:Addr) (D:List Int) (L:Bool):Prop :=
 ∃ o es ep t,h.get? a=some o/\o.ExactSet/\o.data=.set es ep t/\ElemsOf (intKind prog w) es.toList/\(es.toList.map numE).Perm D/\es.size < scanBound/\t.fits es.size=true/\TabOk t/\t.led=L
theorem isInt_num {k:Int} {e:Int × Value} (h:(intKind prog w).is k e.2=true):numE e=k:=by
 obtain ⟨t,q⟩:=Value.isInt_shape h;unfold numE;rw [q]
theorem found_mem {es:List (Int × Value)} (hel:ElemsOf (intKind prog w) es) {v:Int}:(∃ e∈es,(intKind prog w).is v e.2=true)↔v∈es.map numE:=by
 rw [mem_map];constructor
 ·rintro ⟨e,he,q⟩;exact ⟨e,he,isInt_num q⟩
 ·rintro ⟨e,he,rfl⟩;obtain ⟨⟨k,hk,_⟩,_⟩:=hel e he;refine ⟨e,he,?_⟩;rw [isInt_num hk];exact hk
theorem put_at {h:Heap} {a:Addr} {o:Obj} {es es':Array (Int × Value)} {ep:Nat} {t t':SetTable} (ho:h.get? a=some o) (hx:o.ExactSet) (hd:o.data=.set es ep t) {D:List Int} {L:Bool}
  (hel:ElemsOf (intKind prog w) es'.toList) (hp:(es'.toList.map numE).Perm D) (hb:es'.size < scanBound) (hf:t'.fits es'.size=true) (ok:TabOk t') (hl:t'.led=L) :
  ∃ o',(h.update a (Obj.putSet es' t')).get? a=some o'/\o'.ExactSet/\o'.data=.set es' (ep + 1) t'/\SetT prog w (h.update a (Obj.putSet es' t')) a D L:=by
 have g:=get?_update_self (Obj.putSet es' t') ho (by rw [putSet_of es' t' hd];rfl);rw [putSet_of es' t' hd] at g;exact ⟨_,g,hx,rfl,_,es',ep + 1,t',g,hx,rfl,hel,hp,hb,hf,ok,hl⟩
theorem add_t {a:Addr} {D:List Int} {L:Bool} {v:Int} {tk:Tok} {Q:Bool->Shared->Prop} (hS:SetT prog w s.heap a D L) (hr:D.length + 1 < scanBound)
  (h:∀ h' b,Heap.SameBut a s.heap h'->SetT prog w h' a (step_dedup D v) L->Q b { s with heap:=h' }) :
  wpAny (model prog w) A (setAddHashed a (.int v tk) ((intKind prog w).hash v)) Q E s:=by
 obtain ⟨o,es,ep,t,ho,hx,hd,hel,hp,hb,hf,ok,hl⟩:=id hS;have hn:es.size=D.length:=by rw [<- hp.length_eq,length_map,length_toList]
 have ik:=intKind_is prog w v tk;have gw:∀ (b:Bool) {s₁:Shared} {R:Unit->Shared->Prop},R () s₁->wpAny (model prog w) A (match b with | true=>rule "set.scan.the-table-gave-way" | false=>pure ()) R E s₁:=fun b s₁ R q=>by
  cases b
  ·exact wpAny_pure q
  ·exact wpAny_rule q
 unfold setAddHashed setAddHashedIn;refine wpAny_holding (wpAny_bind (wpAny_setState_of ho hd hf ?_));dsimp only;rw [byScan_of (show (Value.int v tk).scannable=true from rfl) hb hel,if_pos rfl];unfold setAddByScan;refine wpAny_bind (wpAny_bind (wpAny_rule (wpAny_bind (wpAny_setScan_of ik ho hd hf hel ?_))))
 cases c:List.findIdx? (fun e=>(intKind prog w).is v e.2) es.toList with
 | some j =>
  obtain ⟨hj,pj,_⟩:=List.findIdx?_eq_some_iff_getElem.mp c;have hv:v∈D:=hp.mem_iff.mp ((found_mem hel).mp ⟨_,getElem_mem hj,pj⟩);have e:step_dedup D v=D:=by
   unfold step_dedup;have z:(D.any fun x=>x == v)=true:=by rw [any_eq_true];exact ⟨v,hv,by simp⟩
   exact if_pos z
  refine wpAny_pure (wpAny_pure ?_);have q:=h s.heap false (Heap.SameBut.refl a s.heap) (by rw [e];exact hS);exact q
 | none =>
  have hv:¬ v∈D:=fun m=>by
   obtain ⟨e,he,q⟩:=(found_mem hel).mpr (hp.mem_iff.mpr m);have:=List.findIdx?_eq_none_iff.mp c e he;rw [q] at this;cases this
  have e:step_dedup D v=D ++ [v]:=by
   unfold step_dedup;rw [if_neg (fun z=>by obtain ⟨x,m,q⟩:=any_eq_true.mp z;exact hv (beq_iff_eq.mp q ▸ m))]
  rw [e] at h;have p1:=layNew_perm t es ((intKind prog w).hash v) (.int v tk);have f1:=layNew_fits t es ((intKind prog w).hash v) (.int v tk);have k1:=layNew_ok ok es ((intKind prog w).hash v) (.int v tk);dsimp only;generalize layNew t es ((intKind prog w).hash v) (.int v tk)=Z at p1 f1 k1 ⊢;obtain ⟨es1,t1,wd,gv⟩:=Z;dsimp only at p1 f1 k1 ⊢;rw [Array.toList_push] at p1;have hel1:=(hel.push ik (show (Value.int v tk).scannable=true from rfl)).perm p1;have hp1:(es1.toList.map numE).Perm (D ++ [v]):=(p1.map numE).trans (by rw [map_append];exact hp.append_right _);have n1:es1.size=D.length + 1:=by rw [<- length_toList,p1.length_eq,length_append,length_toList,hn];rfl
  have b1:es1.size < scanBound:=by omega
  refine wpAny_bind (gw _ ?_);have eb:hashByValue 8 (.int v tk)=(pure true:Sem Bool):=by rw [hashByValue_scannable 8 (show (Value.int v tk).scannable=true from rfl)];rfl
  rw [eb,ite_self];refine wpAny_bind (wpAny_pure ?_);simp only [↓reduceIte];obtain ⟨o1,g1,x1,d1,S1⟩:=put_at (prog:=prog) (w:=w) ho hx hd hel1 hp1 b1 f1 k1.1 (k1.2.trans hl);have sb:=Heap.SameBut.update s.heap a (Obj.putSet es1 t1);refine wpAny_bind (wpAny_storeSet_of ho hd ?_ (fits_of_scanBound b1));split
  ·have p2:=relayAll_perm t1 es1 (SetTable.grown es1.size);have f2:=relayAll_fits t1 es1 (SetTable.grown es1.size);have k2:=relayAll_ok t1 es1 (SetTable.grown es1.size);generalize relayAll t1 es1 (SetTable.grown es1.size)=Z at p2 f2 k2 ⊢;obtain ⟨es2,t2,gv2⟩:=Z;dsimp only at p2 f2 k2 ⊢;have b2:es2.size < scanBound:=by rw [<- length_toList,p2.length_eq,length_toList];exact b1
   obtain ⟨o2,g2,x2,d2,S2⟩:=put_at (prog:=prog) (w:=w) g1 x1 d1 (hel1.perm p2) ((p2.map numE).trans hp1) b2 f2 k2.1 (k2.2.trans (k1.2.trans hl));refine wpAny_bind (gw _ ?_);refine wpAny_bind (wpAny_storeSet_of g1 d1 ?_ (fits_of_scanBound b2));exact wpAny_pure (wpAny_pure (h _ true (sb.trans (Heap.SameBut.update _ a _)) S2))
  ·exact wpAny_pure (wpAny_pure (h _ true sb S1))
end
section
variable {prog:Program} {w:World} {A:Around} {E:Value->Shared->Prop} {s:Shared} {R:Result->Shared->Prop} {I:Addr} {fp wr:List Addr} {G:Array GenState->Array GenState->Prop} {n:Nat} {P:Nat->Value->Prop} {St:Nat->Shared->Prop}
theorem SetT.at {h h':Heap} {a:Addr} {D:List Int} {L:Bool} (x:SetT prog w h a D L) (k:∀ o,h.get? a=some o->h'.get? a=some o):SetT prog w h' a D L:=by
 obtain ⟨o,es,ep,t,ho,r⟩:=x;exact ⟨o,es,ep,t,k o ho,r⟩
theorem loop_t (W:WalksS prog w A.in1 I fp wr G n P St) (S:Addr) (nS:S ∉ fp) (val:Nat->Int) (hv:∀ i v,P i v->∃ t,v=.int (val i) t) (hb:n + 1 < scanBound) (L:Bool) :
  ∀ (k i:Nat) (s:Shared),n - i=k->i<=n->St i s->SetT prog w s.heap S (firstMet val i) L->
   (∀ s',Moved (S :: wr) G s s'->SetT prog w s'.heap S (firstMet val n) L->R (.ok (.ret .none)) s')->
   codeAny (model prog w) A (.builtin "set.update.loop" ⟨[.ref S,.ref I],[]⟩) R s:=by
 have nW:S ∉ wr:=fun z=>nS (W.sub _ z);have up:∀ b∈wr,b∈S :: wr:=fun b z=>mem_cons_of_mem _ z;intro k
 induction k with
 | zero =>
  intro i s hk hi st hS hR;obtain rfl:i=n:=by omega
  refine codeAny_builtin PyProof.Rows.F.entry_set_update_loop ?_;rw [Around.under_plainId PyProof.Rows.F.plain_set_update_loop _];refine wpAny_bind (W.done s _ _ st fun s' m=>wpAny_pure (hR s' (m.mono up) (hS.at fun o e=>m.heap S o nW e)))
 | succ k ih =>
  intro i s hk hi st hS hR;have lt:i < n:=by omega
  refine codeAny_builtin PyProof.Rows.F.entry_set_update_loop ?_;rw [Around.under_plainId PyProof.Rows.F.plain_set_update_loop _];refine wpAny_bind (W.item i s _ _ lt st fun v s' hP st' m=>?_);obtain ⟨t,rfl⟩:=hv i v hP;refine wpAny_bind (wpAny_holding ?_);unfold setAdd;refine wpAny_holding (wpAny_bind ((intKind prog w).pyHash (k:=val i) (intKind_is _ _ _ _) ?_));have room:(firstMet val i).length + 1 < scanBound:=by have:=firstMet_length_le val i;omega
  refine add_t (s:={ s' with toks:=s'.toks + 1 }) (hS.at fun o e=>m.heap S o nW e) room fun h' b sb S2=>?_;rw [<- firstMet_succ] at S2;refine wpAny_pure ⟨plainId_quiet PyProof.Rows.F.plain_set_update_loop _,ih (i + 1) _ (by omega) lt (W.frame _ s' _ _ st' (Nat.le_succ _) fun b hb o e=>?_) S2 fun s2 m2 S3=>?_⟩
  ·rw [sb.2 b (fun z=>nS (z ▸ hb))];exact e
  ·refine hR s2 (Moved.trans W.gtrans ((m.mono up).then_heap (Nat.le_succ _) fun b o hb e=>?_) m2) S3;rw [sb.2 b (fun z=>hb (by rw [z];exact mem_cons_self))];exact e
theorem new_t (a:Value) {Q:Value->Shared->Prop}
  (h:Q (.ref s.heap.objs.size) { s with heap:=s.heap.push { cls:=.type "set",dict:=none,data:=.set #[] 0 (.fresh 0 0 (!(w.params.followText "set-order"))) } }) :
  codeAny (model prog w) A (.call (.builtin "set.__new__") ⟨[.type "set",a],[]⟩) (wants Q E) s:=by
 refine codeAny_of_tree ?_;refine wpAny_bind (wpAny_of_eq (PySem.F.newCall_set_1 a) (wpAny_pure ⟨plainId_quiet PySem.F.plain_set_new _,codeAny_builtin PySem.F.entry_set_new ?_⟩));rw [Around.under_plainId PySem.F.plain_set_new _];unfold Builtin.«set.__new__» Builtin.Frozenset.newClass;have hsub:=sub_set_self;obtain ⟨hp,g,d,tk,os⟩:=s;dsimp only
 wp_walk
 refine wpAny_askSetting (wpAny_pure ?_);dsimp only;simp only [newObj];refine wpAny_bind (wpAny_alloc (wpAny_pure ?_));exact wpAny_pure h
theorem call_set_t {l:Addr} {vs:List Value} {ns:List Int} {Q:Value->Shared->Prop} (hh:A.handled=none) (hl:s.heap.IsList l vs.toArray) (hi:IntsAre vs ns) (hb:ns.length + 1 < scanBound)
  (h:∀ (h':Heap) (tk:Nat),SetT prog w h' s.heap.objs.size (firstMet (fun i=>ns.getD i 0) ns.length) (!(w.params.followText "set-order"))->
   (∀ b o,b < s.heap.objs.size->s.heap.get? b=some o->h'.get? b=some o)->Q (.ref s.heap.objs.size) { s with heap:=h',toks:=tk }) :
  wpAny (model prog w) A (call (.type "set") [.ref l]) Q E s:=by
 have hvn:vs.length=ns.length:=IntsAre.length hi;obtain ⟨L,hL⟩:∃ L,L=!(w.params.followText "set-order"):=⟨_,rfl⟩;rw [<- hL] at h;obtain ⟨oS,hoS⟩:∃ oS:Obj,oS={ cls:=.type "set",dict:=none,data:=.set #[] 0 (.fresh 0 0 L) }:=⟨_,rfl⟩;have gS:(s.heap.push oS).get? s.heap.objs.size=some oS:=get?_push_size _ (by rw [hoS];rfl);have T0:SetT prog w (s.heap.push oS) s.heap.objs.size [] L:=⟨oS,#[],0,.fresh 0 0 L,gS,by rw [hoS];exact ⟨rfl,rfl,rfl⟩,(by rw [hoS]),(fun e he=>by cases he),List.Perm.refl _,(by decide),(by rfl),⟨rfl,fun _=>List.Pairwise.nil⟩,rfl⟩;have c1:=PySem.F.called_set.mro;have c2:=PySem.F.called_set.made;have c3:=PySem.F.called_set.sub;have c4:=PySem.F.called_set.notType;have c5:=PySem.F.called_set.canCreate;have c6:=PySem.F.typeCall_set_1 (.ref l);obtain ⟨c,tl,c1⟩:=c1;refine wpAny_call (codeAny_of_tree (wpAny_pure ⟨Code.quiet_builtin _ (by decide +kernel),codeAny_builtin PySem.F.entry_type_call ?_⟩));refine (Around.under_plain (weight_type_call_type "set" [Value.ref l] []) rfl).symm ▸ ?_
 repeat (any_goals (first | assumption | wp_step))
 refine codeAny_mono (new_t (.ref l) (E:=E) (Q:=fun obj s₁=>obj=.ref s.heap.objs.size/\s₁={ s with heap:=s.heap.push oS }) (by rw [<- hL,<- hoS];exact ⟨rfl,rfl⟩)) fun r s₁ hr=>?_
 cases r with
 | error e=>exact hr
 | ok fl =>
 cases fl with
 | ret obj =>
 obtain ⟨rfl,rfl⟩:=hr;have hT:Shared.TypeIs { s with heap:=s.heap.push oS } (.ref s.heap.objs.size) "set":=⟨_,gS,by rw [hoS]⟩;have d1:=PySem.F.called_set.init.lookup;have d2:=PySem.F.called_set.init.bind (.ref s.heap.objs.size)
 repeat (any_goals (first | assumption | wp_step))
 refine codeAny_mono (codeAny_call_builtin (R:=wants (fun r s₂=>r=.none/\∃ h' tk,s₂={ s with heap:=h',toks:=tk }/\SetT prog w h' s.heap.objs.size (firstMet (fun i=>ns.getD i 0) ns.length) L/\
  (∀ b o,b < s.heap.objs.size->s.heap.get? b=some o->h'.get? b=some o)) E) PySem.F.called_set.init.plain PySem.F.entry_set_init (check_set_init_1 hT ?_)) fun r₂ s₂ hr₂=>?_
 rotate_left
 ·cases r₂ with
  | error e=>exact hr₂
  | ok fl₂ =>
   cases fl₂ with
   | ret r =>
    obtain ⟨rfl,h',tk,rfl,q1,q2⟩:=hr₂
    repeat (any_goals (first | assumption | wp_step))
    exact h _ _ q1 q2
   | _=>exact hr₂.elim
 have hl1:(s.heap.push oS).IsList l vs.toArray:=by
  obtain ⟨o,ho,r⟩:=hl;exact ⟨o,get?_push_of_some _ ho,r⟩
 have lt:l < s.heap.objs.size:=by
  obtain ⟨o,ho,_⟩:=hl;exact lt_size ho
 obtain ⟨ol,hol,hcl,nl,hdl⟩:=hl1;obtain ⟨oc,od,odt,osl⟩:=ol;simp only at hcl hdl;subst hcl;subst hdl;have k1:=PySem.F.sub_list_set;have k2:=PySem.F.sub_list_frozenset;have k3:(Value.type "list" == Value.type "dict")=false:=by decide
 subst hoS;unfold Builtin.«set.__init__» noKeywords Builtin.Frozenset.updateFrom;generalize hPI:pyIter=PI
 wp_walk
 subst hPI;refine wpAny_pyIter_list ⟨_,hol,rfl,nl,rfl⟩ (wpAny_bind (wpAny_runValue ?_));have h3:A.in1.in1.in1.handled=none:=by simp [hh]
 have z:(s.heap.push { cls:=.type "set",dict:=none,data:=.set #[] 0 (.fresh 0 0 L) }).objs.size=s.heap.objs.size + 1:=size_push _ _;refine loop_t ((Walks.list h3 _ l (by rw [z];exact Nat.ne_of_lt (Nat.lt_succ_of_lt lt)) vs.toArray).toS) s.heap.objs.size (fun q=>by
  rw [z] at q;rcases mem_cons.mp q with e | e
  ·exact absurd e (Nat.ne_of_lt (Nat.lt_succ_self _))
  ·exact absurd (mem_singleton.mp e) (Nat.ne_of_gt lt)) (fun i=>ns.getD i 0) (fun i v q=>IntsAre.int_at hi i v (by rw [<- getElem?_toList] at q;exact q)) (by rw [size_toArray];omega) L
  (vs.toArray.size - 0) 0 _ (by omega) (Nat.zero_le _) ⟨⟨_,get?_push_size _ rfl,rfl,rfl⟩,⟨_,get?_push_of_some _ hol,rfl,nl,rfl⟩⟩ (T0.at fun o e=>get?_push_of_some _ e) fun s' m S'=>?_
 have eq:=Moved.eq_with m;refine wpAny_pure (wpAny_pure ⟨rfl,s'.heap,s'.toks,eq,by rw [<- hvn,<- size_toArray];exact S',fun b o hb e=>m.heap b o (fun q=>?_) (get?_push_of_some _ (get?_push_of_some _ e))⟩);rw [z] at q;rcases mem_cons.mp q with e | e
 ·exact absurd e (Nat.ne_of_lt hb)
 ·exact absurd (mem_singleton.mp e) (Nat.ne_of_lt (Nat.lt_succ_of_lt hb))
 | _=>exact hr.elim
end
end L2
namespace L2
open PySem PySem.Spec PyProof.Rows Rl
theorem sit_slot:Slot "set_iterator" "__next__" "set_iterator.__next__" :=
 .of (owner:="set_iterator") (n:="__next__") (by rw [typeLookup_type,builtinLookup_eq_fast];kernel_rfl) (by decide +kernel) (by decide +kernel) (by decide +kernel)
  (by first | exact .inl (by decide +kernel) | exact .inr (by decide +kernel)) (by rw [isSubtype_type];kernel_rfl)
theorem J1i:entryFor table "set_iterator.__next__"=some Builtin.«set_iterator.__next__»:=entryFor_of_tree (by kernel_rfl)
theorem sit_owner:Manifest.owners.lookup (String.ofList ['r','o','t','a','r','e','t','i','_','t','e','s'].reverse)=some Manifest.sig_set_iterator:=by kernel_rfl
theorem J24 (a:Value):argsOk "set_iterator.__next__" ⟨[a],[]⟩:=by
 unfold argsOk;rw [signature?_of (id:="set_iterator.__next__") (n:=['_','_','t','x','e','n','_','_']) (o:=['r','o','t','a','r','e','t','i','_','t','e','s']) (by kernel_rfl) sit_owner];kernel_rfl
theorem J25:entryFor table "set.__iter__"=some Builtin.«frozenset.__iter__»:=entryFor_alias (id':="frozenset.__iter__") (by kernel_rfl) (by decide +kernel) (by decide +kernel) (by kernel_rfl)
section
variable {prog:Program} {w:World} {A:Around} {E:Value->Shared->Prop} {s:Shared}
def sitObj (first:Value) (i:Nat) (S:Addr) (n ep:Nat):Data:=.fields #[first,.int i 0,.ref S,.int n 0,.int ep 0]
structure SitAt (h:Heap) (it S:Addr) (es:Array (Int × Value)) (ep:Nat) (t:SetTable) (first:Value) (i:Nat):Prop where
 its:∃ o,h.get? it=some o/\o.cls=.type "set_iterator"/\o.data=sitObj first i S es.size ep
 set:∃ o,h.get? S=some o/\o.ExactSet/\o.data=.set es ep t/\t.fits es.size=true
theorem SitAt.put {h:Heap} {it S:Addr} {es:Array (Int × Value)} {ep:Nat} {t:SetTable} {first:Value} {i:Nat} (x:SitAt h it S es ep t first i) (ne:S≠it) {f:Obj->Obj} {first':Value} {i':Nat}
  (hf:∀ o,o.data=sitObj first i S es.size ep->(f o).cls=o.cls/\(f o).data=sitObj first' i' S es.size ep):SitAt (h.update it f) it S es ep t first' i':=by
 obtain ⟨⟨o,ho,hc,hd⟩,oS,hoS,r⟩:=x;obtain ⟨f1,f2⟩:=hf o hd;exact ⟨⟨_,get?_update_self _ ho (Obj.isFreed_of_fields f2),f1.trans hc,f2⟩,oS,(get?_update_other _ _ (Ne.symm ne)).trans hoS,r⟩
theorem sit_int {it S:Addr} {es:Array (Int × Value)} {ep:Nat} {t:SetTable} {slot next i:Nat} {v:Value} {Q:Option Value->Shared->Prop} (ne:S≠it) (x:SitAt s.heap it S es ep t (.int slot 0) i)
  (hn:∀ (A:Around) (E:Value->Shared->Prop) (Q:Option (Value × Nat)->Shared->Prop),Q (some (v,next)) s->wpAny (model prog w) A (setNext S slot i ep) Q E s)
  (hQ:∀ h',SitAt h' it S es ep t (.int next 0) (i + 1)->Heap.SameBut it s.heap h'->Q (some v) { s with heap:=h' }):wpAny (model prog w) A (pyNext (.ref it)) Q E s:=by
 obtain ⟨⟨o,ho,hc,hd⟩,oS,hoS,hx,hdS,hf⟩:=id x;unfold pyNext;refine wpAny_bind (wpAny_attempt (wpAny_callSpecial?_slot (name:=Str.ofString "__next__") ⟨o,ho,hc⟩ sit_slot (wpAny_call_entry sit_slot ⟨o,ho,hc⟩ J1i ?_ (J24 _))));unfold Builtin.«set_iterator.__next__»;refine wpAny_bind (wpAny_pure (wpAny_bind (wpAny_fieldsOf ho hd ?_)));refine wpAny_bind (wpAny_setEntries_of hoS hdS hf ?_);dsimp only;rw [if_neg (by simp)];refine wpAny_bind ?_;rw [Int.toNat_natCast,Int.toNat_natCast,Int.toNat_natCast];refine hn _ _ _ ?_;dsimp only;have x1:SitAt (s.heap.update it (Obj.mapFields fun a=>a.set! 0 (rawInt next))) it S es ep t (.int next 0) i:=x.put ne fun o q=>⟨Obj.cls_mapFields ..,by rw [Obj.data_mapFields q];rfl⟩;obtain ⟨o1,ho1,hc1,hd1⟩:=x1.its;have x2:SitAt ((s.heap.update it (Obj.mapFields fun a=>a.set! 0 (rawInt next))).update it (Obj.mapFields fun a=>a.set! 1 (rawInt (i + 1)))) it S es ep t (.int next 0) (i + 1):=x1.put ne fun o q=>⟨Obj.cls_mapFields ..,by rw [Obj.data_mapFields q];rfl⟩;refine wpAny_bind (wpAny_setField ho hd (by simp) (wpAny_bind (wpAny_setField ho1 hd1 (by simp) (wpAny_pure ⟨v,rfl,wpAny_pure (hQ _ x2 ?_)⟩))));exact (Heap.SameBut.update ..).trans (Heap.SameBut.update ..)
theorem stop_at {it:Addr} {s0:Shared} {Q:Option Value->Shared->Prop} (hh:A.handled=none) (k:Heap.ExtBut it s0.heap s.heap) (hQ:∀ h',Heap.ExtBut it s0.heap h'->Q none { s with heap:=h' }) :
  wpAny (model prog w) A.in1 (newExc (.type "StopIteration") [] >>= fun e=>(raiseNew e:Sem PySem.Fin)) (fun fin s'=>False) (fun e s'=>wpAny (model prog w) A (do
    let b <- isInstance e (.type "StopIteration")
    if b=true then pure none else throw e) Q E s') s:=by
 refine wpAny_bind ?_;simp only [newExc,newTuple];refine wpAny_bind (wpAny_newObj_type ?_ (by size_fits));refine wpAny_bind (m:=firstArgMember _ _) (wpAny_of_eq (a:=Value.none) (by first | rfl | (simp only [firstArgMember];rfl)) (wpAny_newObj_type ?_ (by size_fits)));simp only [raiseNew];refine wpAny_bind (wpAny_handled ?_);rw [show A.in1.handled=none from hh];refine wpAny_bind (wpAny_pure (wpAny_throw ?_));refine wpAny_bind (wpAny_isInstance (T:="StopIteration") (b:=true) ⟨_,get?_push_size _ rfl,rfl⟩ isSubtype_stop ?_);exact wpAny_pure (hQ _ ((k.push _).push _))
theorem sit_end {it S:Addr} {es:Array (Int × Value)} {ep:Nat} {t:SetTable} {slot i:Nat} {Q:Option Value->Shared->Prop} (hh:A.handled=none) (x:SitAt s.heap it S es ep t (.int slot 0) i)
  (hn:∀ (A:Around) (E:Value->Shared->Prop) (Q:Option (Value × Nat)->Shared->Prop),Q none s->wpAny (model prog w) A (setNext S slot i ep) Q E s)
  (hQ:∀ h',Heap.ExtBut it s.heap h'->Q none { s with heap:=h' }):wpAny (model prog w) A (pyNext (.ref it)) Q E s:=by
 obtain ⟨⟨o,ho,hc,hd⟩,oS,hoS,hx,hdS,hf⟩:=id x;unfold pyNext;refine wpAny_bind (wpAny_attempt (wpAny_callSpecial?_slot (name:=Str.ofString "__next__") ⟨o,ho,hc⟩ sit_slot (wpAny_call_entry sit_slot ⟨o,ho,hc⟩ J1i ?_ (J24 _))));unfold Builtin.«set_iterator.__next__»;refine wpAny_bind (wpAny_pure (wpAny_bind (wpAny_fieldsOf ho hd ?_)));refine wpAny_bind (wpAny_setEntries_of hoS hdS hf ?_);dsimp only;rw [if_neg (by simp)];refine wpAny_bind ?_;rw [Int.toNat_natCast,Int.toNat_natCast,Int.toNat_natCast];refine hn _ _ _ ?_;dsimp only;refine wpAny_bind (wpAny_setField ho hd (by simp) ?_);refine wpAny_mono (stop_at (it:=it) (s0:=s) hh (Heap.SameBut.update ..).extBut hQ) (fun _ _ z=>z.elim) (fun _ _ z=>z)
theorem by_text {Q:Bool->Shared->Prop} (h:Q (w.params.followText "set-order") s):wpAny (model prog w) A setsByText Q E s:=wpAny_bind (wpAny_askSetting (wpAny_pure h))
theorem next_led {S:Addr} {oS:Obj} {es:Array (Int × Value)} {ep:Nat} {t:SetTable} {slot g ep':Nat} {Q:Option (Value × Nat)->Shared->Prop} (hoS:s.heap.get? S=some oS) (hdS:oS.data=.set es ep t) (hf:t.fits es.size=true)
  (bt:w.params.followText "set-order"=false) (nd:(!t.plain && decide (es.size > 1))=false) (led:t.led=true)
  (h:Q (match es[SetTable.below t.place slot]?,t.place[SetTable.below t.place slot]? with | some (_,x),some j=>some (x,j + 1) | _,_=>none) s):wpAny (model prog w) A (setNext S slot g ep') Q E s:=by
 unfold setNext;refine wpAny_bind (wpAny_setState_of hoS hdS hf (wpAny_bind (by_text ?_)));rw [bt,if_neg Bool.false_ne_true];dsimp only;refine wpAny_ite_split (fun q=>absurd (show (!t.plain && decide (es.size > 1))=true from q) (by rw [nd];decide)) (fun _=>?_);refine wpAny_bind (m:=if (!t.led && !es.isEmpty)=true then unsupported _ else pure ()) ?_;rw [led,if_neg (by simp)];exact wpAny_pure (wpAny_pure h)
theorem next_text {S:Addr} {oS:Obj} {es:Array (Int × Value)} {ep:Nat} {t:SetTable} {slot g:Nat} {Q:Option (Value × Nat)->Shared->Prop} (hoS:s.heap.get? S=some oS) (hdS:oS.data=.set es ep t) (hf:t.fits es.size=true)
  (bt:w.params.followText "set-order"=true) (h:Q (((pickOrder (w.params.setOrder S ep) es)[g]?).map fun e=>(e.2,slot)) s):wpAny (model prog w) A (setNext S slot g ep) Q E s:=by
 unfold setNext;refine wpAny_bind (wpAny_setState_of hoS hdS hf (wpAny_bind (by_text ?_)));rw [bt,if_pos rfl];rw [if_neg (by simp)];refine wpAny_bind ?_;unfold setWalk;refine wpAny_bind (wpAny_setState_of hoS hdS hf (wpAny_bind (by_text ?_)));rw [bt,if_pos rfl];refine wpAny_bind (wpAny_askSetting (wpAny_pure (wpAny_pure h)))
end
end L2
namespace Rl
theorem J1s {α:Type}:∀ {l:List α} {i:Nat} {x:α},l[i]?=some x->(x :: l.eraseIdx i).Perm l
 | a :: l,0,x,h=>by cases h;exact List.Perm.refl _
 | a :: l,i + 1,x,h=>((List.Perm.swap a x _).trans ((J1s (l:=l) h).cons a))
theorem pick_perm {α:Type} (next:Nat->Nat):∀ (f k:Nat) (l:List α) (out:Array α),l.length<=f->(PySem.pickOrder.go next f k l out).toList.Perm (out.toList ++ l)
 | 0,k,l,out,h=>by
  have:l=[]:=List.length_eq_zero_iff.mp (Nat.le_zero.mp h);subst this;rw [append_nil];exact List.Perm.refl _
 | f + 1,k,l,out,h=>by
  rw [PySem.pickOrder.go];split
  ·rename_i x e;have p:=J1s e;have hl:(l.eraseIdx (next k % l.length)).length<=f:=by have:=p.length_eq;rw [length_cons] at this;omega
   refine (pick_perm next f (k + 1) _ (out.push x) hl).trans ?_;rw [Array.toList_push,List.append_assoc];exact List.Perm.append_left _ p
  ·rename_i e;have:l=[]:=by
    cases l with
    | nil=>rfl
    | cons a r =>
     rw [List.getElem?_eq_getElem (Nat.mod_lt _ (by rw [length_cons];omega))] at e;cases e
   subst this;rw [append_nil]
theorem J27 {α:Type} (next:Nat->Nat) (xs:Array α):(PySem.pickOrder next xs).toList.Perm xs.toList:=pick_perm next xs.size 0 xs.toList #[] (by rw [length_toList];exact Nat.le_refl _)
end Rl
namespace L2
open PySem PySem.Spec PyProof.Rows Rl
section
variable {prog:Program} {w:World} {A:Around} {E:Value->Shared->Prop} {s:Shared}
theorem choose_any {M:Model} {src:Source} {n:Nat} {Q:Nat->Shared->Prop} (hn:n≠0) (h:∀ i,i < n->∀ d,Q i { s with drawn:=d }):wpAny M A (choose src n) Q E s:=fun Γ p _=>by
 show n≠0/\_;exact ⟨hn,h _ (Nat.mod_lt _ (Nat.pos_of_ne_zero hn)) _⟩
theorem draw_any {α:Type}:∀ (n:Nat) (xs:List α) {s:Shared} {Q:List α->Shared->Prop},xs.length<=n->(∀ ys d,ys.Perm xs->Q ys { s with drawn:=d })->wpAny (model prog w) A (drawOrder n xs) Q E s
 | 0,xs,s,Q,hl,h=>by
  have:xs=[]:=List.length_eq_zero_iff.mp (Nat.le_zero.mp hl);subst this;exact wpAny_pure (h [] s.drawn (List.Perm.refl _))
 | n + 1,[],s,Q,hl,h=>wpAny_pure (h [] s.drawn (List.Perm.refl _))
 | n + 1,a :: r,s,Q,hl,h=>by
  unfold drawOrder;refine wpAny_bind (choose_any (by simp) fun i hi d=>?_);rw [List.getElem?_eq_getElem hi];dsimp only;have p:=J1s (List.getElem?_eq_getElem hi);refine wpAny_bind (draw_any n _ (by have:=p.length_eq;rw [length_cons,length_cons] at this;rw [length_cons] at hl;omega) fun ys d2 hy=>wpAny_pure ?_);exact h _ _ ((hy.cons _).trans p)
theorem sit_tup {it S tu:Addr} {es:Array (Int × Value)} {ep:Nat} {t:SetTable} {i p:Nat} {v:Value} {k:Int} {ps:Array Value} {Q:Option Value->Shared->Prop} (ne:S≠it) (x:SitAt s.heap it S es ep t (.ref tu) i)
  (ht:∃ o n,s.heap.get? tu=some o/\o.data=.seq ps n) (hp:ps[i]?=some (.int p 0)) (he:es[p]?=some (k,v))
  (hQ:∀ h',SitAt h' it S es ep t (.ref tu) (i + 1)->Heap.SameBut it s.heap h'->Q (some v) { s with heap:=h' }):wpAny (model prog w) A (pyNext (.ref it)) Q E s:=by
 obtain ⟨⟨o,ho,hc,hd⟩,oS,hoS,hx,hdS,hf⟩:=id x;obtain ⟨ot,nt,hot,hdt⟩:=ht;unfold pyNext;refine wpAny_bind (wpAny_attempt (wpAny_callSpecial?_slot (name:=Str.ofString "__next__") ⟨o,ho,hc⟩ sit_slot (wpAny_call_entry sit_slot ⟨o,ho,hc⟩ J1i ?_ (J24 _))));unfold Builtin.«set_iterator.__next__»;refine wpAny_bind (wpAny_pure (wpAny_bind (wpAny_fieldsOf ho hd ?_)));refine wpAny_bind (wpAny_setEntries_of hoS hdS hf ?_);dsimp only;rw [if_neg (by simp)];refine wpAny_bind (wpAny_seqItems hot hdt ?_);dsimp only;rw [Int.toNat_natCast,hp];dsimp only;refine wpAny_bind ?_;unfold setNextDrawn;refine wpAny_bind (wpAny_setState_of hoS hdS hf ?_);dsimp only;rw [if_neg (by simp),Int.toNat_natCast,he];refine wpAny_pure ?_;have x2:SitAt (s.heap.update it (Obj.mapFields fun a=>a.set! 1 (rawInt (i + 1)))) it S es ep t (.ref tu) (i + 1):=x.put ne fun o q=>⟨Obj.cls_mapFields ..,by rw [Obj.data_mapFields q];rfl⟩;exact wpAny_bind (wpAny_setField ho hd (by simp) (wpAny_pure ⟨v,rfl,wpAny_pure (hQ _ x2 (Heap.SameBut.update ..))⟩))
theorem sit_tend {it S tu:Addr} {es:Array (Int × Value)} {ep:Nat} {t:SetTable} {i:Nat} {ps:Array Value} {Q:Option Value->Shared->Prop} (hh:A.handled=none) (ne:S≠it) (x:SitAt s.heap it S es ep t (.ref tu) i)
  (ht:∃ o n,s.heap.get? tu=some o/\o.data=.seq ps n) (hp:ps[i]?=none)
  (hQ:∀ h',Heap.ExtBut it s.heap h'->Q none { s with heap:=h' }):wpAny (model prog w) A (pyNext (.ref it)) Q E s:=by
 obtain ⟨⟨o,ho,hc,hd⟩,oS,hoS,hx,hdS,hf⟩:=id x;obtain ⟨ot,nt,hot,hdt⟩:=ht;unfold pyNext;refine wpAny_bind (wpAny_attempt (wpAny_callSpecial?_slot (name:=Str.ofString "__next__") ⟨o,ho,hc⟩ sit_slot (wpAny_call_entry sit_slot ⟨o,ho,hc⟩ J1i ?_ (J24 _))));unfold Builtin.«set_iterator.__next__»;refine wpAny_bind (wpAny_pure (wpAny_bind (wpAny_fieldsOf ho hd ?_)));refine wpAny_bind (wpAny_setEntries_of hoS hdS hf ?_);dsimp only;rw [if_neg (by simp)];refine wpAny_bind (wpAny_seqItems hot hdt ?_);dsimp only;rw [Int.toNat_natCast,hp];dsimp only;have x1:SitAt (s.heap.update it (Obj.mapFields fun a=>a.set! 0 (rawInt 0))) it S es ep t (.int 0 0) i:=x.put ne fun o q=>⟨Obj.cls_mapFields ..,by rw [Obj.data_mapFields q];rfl⟩;obtain ⟨o1,ho1,hc1,hd1⟩:=x1.its;refine wpAny_bind (wpAny_setField ho hd (by simp) (wpAny_bind (wpAny_setField ho1 hd1 (by simp) ?_)));exact wpAny_mono (stop_at (it:=it) (s0:=s) hh ((Heap.SameBut.update ..).trans (Heap.SameBut.update ..)).extBut hQ) (fun _ _ z=>z.elim) (fun _ _ z=>z)
end
end L2
namespace L2
open PySem PySem.Spec PyProof.Rows Rl
theorem sit_slotI:Slot "set_iterator" "__iter__" "set_iterator.__iter__" :=
 .of (owner:="set_iterator") (n:="__iter__") (by rw [typeLookup_type,builtinLookup_eq_fast];kernel_rfl) (by decide +kernel) (by decide +kernel) (by decide +kernel)
  (by first | exact .inl (by decide +kernel) | exact .inr (by decide +kernel)) (by rw [isSubtype_type];kernel_rfl)
theorem sit_entryI:entryFor table "set_iterator.__iter__"=some Builtin.«dict_keyiterator.__iter__» :=
 entryFor_alias (id':="dict_keyiterator.__iter__") (by kernel_rfl) (by decide +kernel) (by decide +kernel) (by kernel_rfl)
theorem sit_argsI (a:Value):argsOk "set_iterator.__iter__" ⟨[a],[]⟩:=by
 unfold argsOk;rw [signature?_of (id:="set_iterator.__iter__") (n:=['_','_','r','e','t','i','_','_']) (o:=['r','o','t','a','r','e','t','i','_','t','e','s']) (by kernel_rfl) sit_owner];kernel_rfl
section
variable {prog:Program} {w:World} {A:Around} {E:Value->Shared->Prop} {s:Shared}
def SitM (w:World) (it S tu:Addr) (es:Array (Int × Value)) (ep:Nat) (t:SetTable) (its:List Value) (i:Nat) (h:Heap):Prop :=
 (w.params.followText "set-order"=true/\(∃ slot:Nat,SitAt h it S es ep t (.int slot 0) i)/\its=(pickOrder (w.params.setOrder S ep) es).toList.map (·.2))\/
 (w.params.followText "set-order"=false/\(!t.plain && decide (es.size > 1))=false/\t.led=true/\Ris t.place/\(∃ slot:Nat,SitAt h it S es ep t (.int slot 0) i/\SetTable.below t.place slot=i)/\its=es.toList.map (·.2))\/
 (∃ ps:List Nat,SitAt h it S es ep t (.ref tu) i/\(∃ o n,h.get? tu=some o/\o.data=.seq (ps.map fun p:Nat=>Value.int p 0).toArray n)/\(∀ p∈ps,p < es.size)/\its=ps.map fun p=>(es.getD p default).2)
theorem SitAt.at {h h':Heap} {it S:Addr} {es:Array (Int × Value)} {ep:Nat} {t:SetTable} {first:Value} {i:Nat} (x:SitAt h it S es ep t first i) (k1:∀ o,h.get? it=some o->h'.get? it=some o) (k2:∀ o,h.get? S=some o->h'.get? S=some o):SitAt h' it S es ep t first i:=by
 obtain ⟨⟨o,ho,r⟩,oS,hoS,r2⟩:=x;exact ⟨⟨o,k1 _ ho,r⟩,oS,k2 _ hoS,r2⟩
theorem SitM.at {h h':Heap} {it S tu:Addr} {es:Array (Int × Value)} {ep:Nat} {t:SetTable} {its:List Value} {i:Nat} (x:SitM w it S tu es ep t its i h) (k:∀ b∈[it,S,tu],∀ o,h.get? b=some o->h'.get? b=some o):SitM w it S tu es ep t its i h':=by
 have k1:=k it (by simp);have k2:=k S (by simp);rcases x with ⟨a,⟨sl,b⟩,c⟩ | ⟨a,b,c,d,⟨sl,e,f⟩,g⟩ | ⟨ps,a,⟨o,n,ho,hd⟩,r⟩
 ·exact .inl ⟨a,⟨sl,b.at k1 k2⟩,c⟩
 ·exact .inr (.inl ⟨a,b,c,d,⟨sl,e.at k1 k2,f⟩,g⟩)
 ·exact .inr (.inr ⟨ps,a.at k1 k2,⟨o,n,k tu (by simp) _ ho,hd⟩,r⟩)
theorem walk_set (hh:A.handled=none) (it S tu:Addr) (ne:S≠it) (nt:tu≠it) (es:Array (Int × Value)) (ep:Nat) (t:SetTable) (its:List Value) :
  Walks prog w A it [it,S,tu] [it] its.length (fun i v=>its[i]?=some v) (fun i h=>SitM w it S tu es ep t its i h) where
 sub:=fun b hb=>by simp at hb;simp [hb]
 frame:=fun _ _ _ st hk=>st.at hk
 item:=fun i s Q E hi st hQ=>by
  have fin:∀ v h',its[i]?=some v->SitM w it S tu es ep t its (i + 1) h'->Heap.SameBut it s.heap h'->Q (some v) { s with heap:=h' }:=fun v h' e1 e2 e3 =>
   hQ v h' s.toks e1 e2 fun b o hb e=>e3.extBut b o (fun z=>hb (by simp [z])) e
  rcases st with ⟨a,⟨sl,b⟩,c⟩ | ⟨a,b,c,d,⟨sl,e,f⟩,g⟩ | ⟨ps,a,ht,hp,c⟩
  ·obtain ⟨v,hv⟩:∃ v,its[i]?=some v:=⟨_,List.getElem?_eq_getElem hi⟩;obtain ⟨oS,hoS,hx,hdS,hf⟩:=b.set;refine sit_int (next:=sl) ne b (fun A E Q q=>next_text hoS hdS hf a ?_) fun h' x' k=>fin _ h' hv (.inl ⟨a,⟨sl,x'⟩,c⟩) k;have hv2:=hv;rw [c,getElem?_map,getElem?_toList] at hv2
   cases z:(pickOrder (w.params.setOrder S ep) es)[i]? with
   | none=>rw [z] at hv2;cases hv2
   | some e =>
    rw [z] at hv2;injection hv2 with hv2
    subst hv2;exact q
  ·obtain ⟨v,hv⟩:∃ v,its[i]?=some v:=⟨_,List.getElem?_eq_getElem hi⟩;obtain ⟨oS,hoS,hx,hdS,hf⟩:=e.set;have hs:i < es.size:=by rw [g,length_map,length_toList] at hi;exact hi
   have hps:t.place.size=es.size:=by
    unfold SetTable.fits at hf;rw [Bool.and_eq_true,beq_iff_eq] at hf;exact hf.1
   have hpl:t.place[i]?=some (t.place[i]'(by omega)):=Array.getElem?_eq_getElem _;refine sit_int (next:=t.place[i]'(by omega) + 1) ne e (fun A E Q q=>next_led hoS hdS hf a b c ?_) fun h' x' k=>fin _ h' hv (.inr (.inl ⟨a,b,c,d,⟨_,x',below_next d hpl⟩,g⟩)) k;rw [f,hpl];have hv2:=hv;rw [g,getElem?_map,getElem?_toList] at hv2
   cases z:es[i]? with
   | none=>rw [z] at hv2;cases hv2
   | some e =>
    rw [z] at hv2;injection hv2 with hv2
    subst hv2;exact q
  ·have hi2:i < ps.length:=by rw [c,length_map] at hi;exact hi
   have hpi:ps[i]?=some (ps[i]'hi2):=List.getElem?_eq_getElem hi2;have hlt:=hp _ (getElem_mem hi2);have he:es[ps[i]'hi2]?=some (es.getD (ps[i]'hi2) default):=by rw [Array.getD_eq_getD_getElem?,Array.getElem?_eq_getElem hlt];rfl
   refine sit_tup (p:=ps[i]'hi2) ne a ht (by rw [<- getElem?_toList,getElem?_map,hpi];rfl) he fun h' x' k=>fin _ h' (by rw [c,getElem?_map,hpi];rfl) (.inr (.inr ⟨ps,x',?_,hp,c⟩)) k;obtain ⟨o,n,ho,hd⟩:=ht;exact ⟨o,n,k.extBut tu o nt ho,hd⟩
 done:=fun s Q E st hQ=>by
  have fin:∀ h',Heap.ExtBut it s.heap h'->Q none { s with heap:=h' }:=fun h' e=>hQ h' s.toks fun b o hb q=>e b o (fun z=>hb (by simp [z])) q;rcases st with ⟨a,⟨sl,b⟩,c⟩ | ⟨a,b,c,d,⟨sl,e,f⟩,g⟩ | ⟨ps,a,ht,hp,c⟩
  ·obtain ⟨oS,hoS,hx,hdS,hf⟩:=b.set;refine sit_end hh b (fun A E Q q=>next_text hoS hdS hf a ?_) fin;have z:(pickOrder (w.params.setOrder S ep) es)[its.length]?=none:=by
    rw [<- getElem?_toList,List.getElem?_eq_none_iff,c,length_map];exact Nat.le_refl _
   rw [z];exact q
  ·obtain ⟨oS,hoS,hx,hdS,hf⟩:=e.set;refine sit_end hh e (fun A E Q q=>next_led hoS hdS hf a b c ?_) fin;have z:es[its.length]?=none:=by
    rw [<- getElem?_toList,List.getElem?_eq_none_iff,g,length_map];exact Nat.le_refl _
   rw [f,z];exact q
  ·exact sit_tend hh ne a ht (by rw [<- getElem?_toList,List.getElem?_eq_none_iff,c,length_map,length_map];exact Nat.le_refl _) fin
 self:=fun i s Q E st hQ=>by
  have hT:s.TypeIs (.ref it) "set_iterator":=by
   rcases st with ⟨a,⟨sl,b⟩,c⟩ | ⟨a,b,c,d,⟨sl,e,f⟩,g⟩ | ⟨ps,a,ht,hp,c⟩
   ·obtain ⟨o,ho,hc,_⟩:=b.its;exact ⟨o,ho,hc⟩
   ·obtain ⟨o,ho,hc,_⟩:=e.its;exact ⟨o,ho,hc⟩
   ·obtain ⟨o,ho,hc,_⟩:=a.its;exact ⟨o,ho,hc⟩
  refine wpAny_pyIter_slot hT sit_slotI (wpAny_call_entry sit_slotI hT sit_entryI ?_ (sit_argsI _));exact wpAny_pure ⟨_,rfl,"set_iterator",_,hT,sit_slot.lookup,hQ⟩
theorem iter_set {S:Addr} {oS:Obj} {es:Array (Int × Value)} {ep:Nat} {t:SetTable} {Q:Value->Shared->Prop} (hoS:s.heap.get? S=some oS) (hx:oS.ExactSet) (hdS:oS.data=.set es ep t) (hf:t.fits es.size=true) (ok:TabOk t)
  (hl:t.led=!(w.params.followText "set-order")) (hz:es.size<=sizeLine)
  (hQ:∀ it tu its h' d,its.Perm (es.toList.map (·.2))->SitM w it S tu es ep t its 0 h'->(∀ b o,s.heap.get? b=some o->h'.get? b=some o)->s.heap.objs.size<=it->tu≠it->S≠it->(tu=S\/s.heap.objs.size<=tu)->Q (.ref it) { s with heap:=h',drawn:=d }) :
  wpAny (model prog w) A (pyIter (.ref S)) Q E s:=by
 have hT:s.TypeIs (.ref S) "set":=⟨oS,hoS,hx.1⟩;have lt:S < s.heap.objs.size:=lt_size hoS;have hp:t.place.size=es.size:=by
  have q:=hf;unfold SetTable.fits at q;rw [Bool.and_eq_true,beq_iff_eq] at q;exact q.1
 refine wpAny_pyIter_slot hT PySem.F.slot_set_iter (wpAny_call_entry PySem.F.slot_set_iter hT J25 ?_ (PySem.F.args_set_iter_1 _));unfold Builtin.«frozenset.__iter__» Builtin.Frozenset.slot0 Builtin.Frozenset.sizeOf;refine wpAny_bind (wpAny_bind (wpAny_pure (wpAny_pure (wpAny_bind (wpAny_bind (wpAny_setEntries_of hoS hdS hf (wpAny_pure ?_)))))));refine wpAny_bind ?_;unfold setDrawn;refine wpAny_bind (wpAny_setState_of hoS hdS hf (wpAny_bind (by_text (wpAny_pure ?_))));have tail:∀ (first:Value) (s1:Shared),s1.heap.get? S=some oS->(∀ h' it,h'=s1.heap.push { cls:=.type "set_iterator",data:=sitObj first 0 S es.size ep }->it=s1.heap.objs.size->SitAt h' it S es ep t first 0->Q (.ref it) { s1 with heap:=h' })->
   wpAny (model prog w) A.in1 (setEpoch S >>= fun e=>newFields "set_iterator" [first,rawInt 0,.ref S,rawInt es.size,rawInt e] >>= fun v=>(ret v:Sem PySem.Fin)) (fun fin s'=>∃ v,fin=Fin.done (Flow.ret v)/\∃ T' r,s'.TypeIs v T'/\typeLookup (Value.type T') (Str.ofString "__next__")=pure (some r)/\Q v s') E s1:=fun first s1 h1 k=>by
  refine wpAny_bind (wpAny_bind (wpAny_setState_of h1 hdS hf (wpAny_pure ?_)));unfold newFields;refine wpAny_bind (wpAny_newObj_type ?_ (by size_fits));have g:(s1.heap.push { cls:=.type "set_iterator",data:=sitObj first 0 S es.size ep }).get? s1.heap.objs.size=some { cls:=.type "set_iterator",data:=sitObj first 0 S es.size ep }:=get?_push_size _ rfl;exact wpAny_pure ⟨_,rfl,"set_iterator",_,⟨_,g,rfl⟩,sit_slot.lookup,k _ _ rfl rfl ⟨⟨_,g,rfl,rfl⟩,oS,get?_push_of_some _ h1,hx,hdS,hf⟩⟩
 cases bt:w.params.followText "set-order" with
 | true =>
  dsimp only;rw [if_neg (by simp)];refine wpAny_bind (wpAny_pure (tail _ s hoS fun h' it e1 e2 x=>?_));subst e1;subst e2;exact hQ _ S _ _ s.drawn ((J27 _ es).map _) (.inl ⟨bt,⟨0,x⟩,rfl⟩) (fun b o e=>get?_push_of_some _ e) (Nat.le_refl _) (Nat.ne_of_lt lt) (Nat.ne_of_lt lt) (.inl rfl)
 | false =>
  dsimp only;by_cases c:(!t.plain && decide (es.size > 1))=true
  ·refine wpAny_ite_split (fun _=>?_) (fun q=>absurd (show (!false && (!t.plain && decide (es.size > 1)))=true by rw [c];rfl) q);refine wpAny_bind (draw_any es.size (List.range es.size) (by rw [length_range];exact Nat.le_refl _) fun ps d hps=>?_);have lps:ps.length=es.size:=by rw [hps.length_eq,length_range]
   refine wpAny_bind (wpAny_newTuple ?_ (by rw [length_map,lps];exact hz));obtain ⟨oT,hoT⟩:∃ oT:Obj,oT={ cls:=.type "tuple",data:=.seq (ps.map fun i:Nat=>rawInt i).toArray }:=⟨_,rfl⟩;have gT:(s.heap.push oT).get? s.heap.objs.size=some oT:=get?_push_size _ (by rw [hoT];rfl);rw [<- hoT];refine tail _ { s with heap:=s.heap.push oT,drawn:=d } (get?_push_of_some _ hoS) fun h' it e1 e2 x=>?_;subst e1;subst e2;have z:(s.heap.push oT).objs.size=s.heap.objs.size + 1:=size_push _ _;refine hQ _ s.heap.objs.size _ _ d ?_ (.inr (.inr ⟨ps,x,⟨oT,0,get?_push_of_some _ gT,by rw [hoT];rfl⟩,fun p q=>mem_range.mp (hps.mem_iff.mp q),rfl⟩)) (fun b o e=>get?_push_of_some _ (get?_push_of_some _ e)) (by show _<=(s.heap.push oT).objs.size;rw [z];exact Nat.le_succ _) (by show _≠(s.heap.push oT).objs.size;rw [z];exact Nat.ne_of_lt (Nat.lt_succ_self _)) (by show _≠(s.heap.push oT).objs.size;rw [z];exact Nat.ne_of_lt (Nat.lt_succ_of_lt lt)) (.inr (Nat.le_refl _));have e3:es.toList.map (·.2)=(List.range es.size).map fun p=>(es.getD p default).2:=by
    refine ext_getElem (by rw [length_map,length_map,length_range,length_toList]) fun i h1 h2=>?_;rw [getElem_map,getElem_map,List.getElem_range,Array.getElem_toList,Array.getD_eq_getD_getElem?,Array.getElem?_eq_getElem];rfl
   rw [e3];exact hps.map _
  ·refine wpAny_ite_split (fun q=>absurd (show (!t.plain && decide (es.size > 1))=true by have q2:(!false && (!t.plain && decide (es.size > 1)))=true:=q;simpa using q2) c) (fun _=>?_);have c2:(!t.plain && decide (es.size > 1))=false:=by rw [<- Bool.not_eq_true];exact c
   have ris:Ris t.place:=by
    cases pl:t.plain with
    | true=>exact ok.2 pl
    | false =>
     rw [pl] at c2;have h1:¬ es.size > 1:=fun q=>by rw [decide_eq_true q] at c2;cases c2
     unfold Ris;have h2:t.place.toList.length<=1:=by rw [length_toList];omega
     match t.place.toList,h2 with
     | [],_=>exact List.Pairwise.nil
     | [a],_=>exact List.pairwise_singleton ..
   refine wpAny_bind (wpAny_pure (tail _ s hoS fun h' it e1 e2 x=>?_));subst e1;subst e2;exact hQ _ S _ _ s.drawn (List.Perm.refl _) (.inr (.inl ⟨bt,c2,by rw [hl,bt];rfl,ris,⟨0,x,below_zero ris⟩,rfl⟩)) (fun b o e=>get?_push_of_some _ e) (Nat.le_refl _) (Nat.ne_of_lt lt) (Nat.ne_of_lt lt) (.inl rfl)
end
end L2
namespace L2
open PySem PySem.Spec PyProof.Rows Rl
section
variable {prog:Program} {w:World} {A:Around} {E:Value->Shared->Prop} {s:Shared}
theorem hint_set {r:Addr} {Q:Bool->Shared->Prop} (hT:s.TypeIs (.ref r) "set") (h:Q false s):wpAny (model prog w) A (Builtin.List.listLengthHint (.ref r)) Q E s:=by
 unfold Builtin.List.listLengthHint;refine wpAny_bind (wpAny_specialOf hT PySem.F.slot_set_len.lookup ?_);generalize hid:("set.__len__":String)=id0
 wp_delta
 rw [show splitId id0=some ("set","__len__") from by subst hid;decide +kernel];subst hid;refine wpAny_bind (wpAny_isInstance (T:="set") (b:=true) hT sub_set_self (wpAny_ite_split (fun z=>absurd z (by decide)) (fun _=>wpAny_ite_split (fun _=>?_) (fun z=>absurd (by decide +kernel) z))));exact wpAny_bind (wpAny_typeOf hT (wpAny_pure h))
def numV:Value->Int
 | .int k _=>k
 | _=>0
theorem ints_num:∀ {vs:List Value},(∀ v∈vs,∃ k t,v=.int k t)->IntsAre vs (vs.map numV)
 | [],_=>.nil
 | v :: vs,h=>by
  obtain ⟨k,t,rfl⟩:=h v (mem_cons_self ..);exact .cons k t (ints_num fun u hu=>h u (mem_cons_of_mem _ hu))
theorem collect_set {S:Addr} {D:List Int} {Q:List Value->Shared->Prop} (hh:A.handled=none) (x:SetT prog w s.heap S D (!(w.params.followText "set-order")))
  (h:∀ vs ns h' d tk,IntsAre vs ns->ns.Perm D->(∀ b o,s.heap.get? b=some o->h'.get? b=some o)->s.heap.objs.size<=h'.objs.size->Q vs { s with heap:=h',drawn:=d,toks:=tk }) :
  wpAny (model prog w) A (collect (.ref S)) Q E s:=by
 obtain ⟨o,es,ep,t,ho,hx,hd,hel,hp,hb,hf,ok,hl⟩:=x;have hT:s.TypeIs (.ref S) "set":=⟨o,ho,hx.1⟩;have lt:S < s.heap.objs.size:=lt_size ho;unfold collect;refine wpAny_bind (wpAny_runValue (codeAny_builtin entry_proto_collect' ?_));show wpAny _ _ (do again (.builtin "list.__iadd__" ⟨[<- newList [],.ref S],[]⟩)) _ _ s;refine wpAny_bind (wpAny_newList (wpAny_pure ⟨Code.quiet_builtin _ (by decide +kernel),codeAny_builtin entry_list_iadd' ?_⟩));show wpAny _ _ (Builtin.List.listExtendWith (.ref s.heap.objs.size) (.ref S) (.ref s.heap.objs.size)) _ _ { s with heap:=s.heap.push (seqObj "list" #[] 0) };unfold Builtin.List.listExtendWith;have ho':(s.heap.push (seqObj "list" #[] 0)).get? S=some o:=get?_push_of_some _ ho;have gL:(s.heap.push (seqObj "list" #[] 0)).get? s.heap.objs.size=some (seqObj "list" #[] 0):=get?_push_size _ rfl;refine wpAny_bind (wpAny_typeOf (T:="set") ⟨o,ho',hx.1⟩ ?_);have hs:Builtin.List.listSameRef (.ref s.heap.objs.size) (.ref S)=false:=by
  show (s.heap.objs.size == S)=false;rw [beq_eq_false_iff_ne];exact Nat.ne_of_gt lt
 rw [if_neg (by rw [hs];decide)];refine wpAny_bind (iter_set ho' hx hd hf ok hl (fits_of_scanBound hb) fun it tu its h1 d hi M kp i1 nt ni tt=>?_);have z:(s.heap.push (seqObj "list" #[] 0)).objs.size=s.heap.objs.size + 1:=size_push _ _;have o1:=kp _ _ ho';have l1:=kp _ _ gL;refine wpAny_bind (wpAny_holding (hint_set ⟨o,o1,hx.1⟩ ?_));have iT:∀ v∈its,∃ k t,v=.int k t:=fun v hv=>by
  obtain ⟨e,he,rfl⟩:=mem_map.mp (hi.mem_iff.mp hv);obtain ⟨⟨k,hk,_⟩,_⟩:=hel e he;obtain ⟨t,q⟩:=Value.isInt_shape hk;exact ⟨k,t,q⟩
 have pD:(its.map numV).Perm D:=by
  refine (hi.map numV).trans ?_;rw [map_map];refine (List.Perm.of_eq (map_congr_left fun e he=>?_)).trans hp;obtain ⟨⟨k,hk,_⟩,_⟩:=hel e he;obtain ⟨t,q⟩:=Value.isInt_shape hk;show numV e.2=numE e;unfold numE;rw [q];rfl
 have nI:s.heap.objs.size≠it:=fun e=>by
  rw [z] at i1;rw [<- e] at i1;exact absurd i1 (Nat.not_le.mpr (Nat.lt_succ_self _))
 have nT:s.heap.objs.size≠tu:=fun e=>by
  rcases tt with q | q
  ·exact absurd (e.trans q) (Nat.ne_of_gt lt)
  ·rw [z,<- e] at q;exact absurd q (Nat.not_le.mpr (Nat.lt_succ_self _))
 have nF:s.heap.objs.size ∉ [it,S,tu]:=fun q=>by
  rcases mem_cons.mp q with e | q
  ·exact nI e
  rcases mem_cons.mp q with e | q
  ·exact absurd e (Nat.ne_of_gt lt)
  ·exact nT (mem_singleton.mp q)
 have hn:its.length<=sizeLine:=by rw [hi.length_eq,length_map,length_toList];exact fits_of_scanBound hb
 have key:∀ (h2:Heap) (c:Nat),(∀ b o,b≠s.heap.objs.size->h1.get? b=some o->h2.get? b=some o)->h2.get? s.heap.objs.size=some { cls:=.type "list",dict:=none,data:=.seq #[] c,slots:=#[] }->
   codeAny (model prog w) A (.builtin "list.extend.loop" ⟨[.ref s.heap.objs.size,.ref it,.ref s.heap.objs.size],[]⟩) (fun r s'=>match r with
    | .ok (.ret v)=>wpAny (model prog w) A (match v with
     | .ref a=>do match (<- load a).data with
      | .seq xs _=>pure xs.toList
      | _=>unsupported "internal:collect"
     | _=>unsupported "internal:collect") Q E s'
    | .ok _=>False
    | .error e=>E e s') { s with heap:=h2,drawn:=d }:=fun h2 c k2 g2=>by
  have W:=walk_set (prog:=prog) (w:=w) (A:=A.in1) hh it S tu ni nt es ep t its;refine codeAny_extend_loopS W.toS hn s.heap.objs.size nF _ its.length 0 _ #[] c rfl (Nat.zero_le _) (M.at fun b hb o e=>k2 b o (fun q=>nF (q ▸ hb)) e) g2 (ItemsOf.nil _) fun s' acc c' m gA hA=>?_;have eq:=Moved.eq_with m;have eA:acc.toList=its:=by
   refine List.ext_getElem? fun i=>?_;rw [getElem?_toList]
   cases q:acc[i]? with
   | some v=>exact (hA.2 i v q).symm
   | none =>
    have:=Array.getElem?_eq_none_iff.mp q;rw [hA.1] at this;exact (List.getElem?_eq_none_iff.mpr this).symm
  refine wpAny_bind (wpAny_load gA (wpAny_pure ?_));rw [eA,eq];refine h its _ s'.heap d s'.toks (ints_num iT) pD (fun b o e=>m.heap b o (fun q=>?_) (k2 b o (Nat.ne_of_lt (lt_size e)) (kp b o (get?_push_of_some _ e)))) (Nat.le_of_lt (lt_size gA));rcases mem_cons.mp q with e2 | q
  ·exact absurd e2 (Nat.ne_of_lt (lt_size e))
  ·have e2:=mem_singleton.mp q;rw [z,<- e2] at i1;exact absurd (lt_size e) (Nat.not_lt.mpr (Nat.le_of_lt i1))
 dsimp only;refine wpAny_ite_split (fun _=>?_) (fun _=>wpAny_pure ⟨plainId_quiet PySem.F.plain_extend_loop _,key _ 0 (fun b o _ e=>e) l1⟩);refine wpAny_bind (wpAny_rule (wpAny_bind ?_));unfold Builtin.List.listTouch;refine wpAny_bind (listUpdate_at l1 rfl ?_);have l2:=get?_update_self (Obj.mapSeq (·.push Value.none)) l1 rfl;refine listUpdate_at l2 rfl ?_ (by seq_fits);have l3:=get?_update_self (Obj.mapSeq (·.pop)) l2 rfl;refine wpAny_pure ⟨plainId_quiet PySem.F.plain_extend_loop _,key _ _ (fun b o hb e=>?_) l3⟩;exact (get?_update_other _ _ (Ne.symm hb)).trans ((get?_update_other _ _ (Ne.symm hb)).trans e)
theorem sHeap_old {h:Heap} {a b:Addr} {vs:List Value} {out:Array Value} {o:Obj} (ne:b≠a) (e:h.get? b=some o):(sortedHeap h a vs out).get? b=some o:=by
 unfold sortedHeap;rw [get?_update_other _ _ (Ne.symm ne)];exact get?_push_of_some _ (get?_push_of_some _ ((get?_update_other _ _ (Ne.symm ne)).trans e))
theorem sHeap_at {h:Heap} {a:Addr} {vs:List Value} {out:Array Value} {xs:Array Value} {n:Nat} (e:h.get? a=some (seqObj "list" xs n)):∃ k,(sortedHeap h a vs out).get? a=some (seqObj "list" out k) :=
 ⟨_,get?_update_seq (get?_push_of_some _ (get?_push_of_some _ (get?_update_seq e (fun _=>#[])))) (fun _=>out)⟩
theorem sorted_set {S:Addr} {D:List Int} {Q:Value->Shared->Prop} (hh:A.handled=none) (x:SetT prog w s.heap S D (!(w.params.followText "set-order"))) (h64:D.length < 64)
  (h:∀ (a:Addr) (out:Array Value) (ns':List Int) (k:Nat) h' d tk,IntsAre out.toList ns'->ns'.Perm D->ns'.Pairwise (·<=·)->(∀ b o,s.heap.get? b=some o->h'.get? b=some o)->s.heap.objs.size<=a->h'.get? a=some (seqObj "list" out k)->Q (.ref a) { s with heap:=h',drawn:=d,toks:=tk }) :
  wpAny (model prog w) A (call (.builtin "sorted") [.ref S]) Q E s:=by
 refine Calls.call_function_entry kind_sorted plain_sorted entry_sorted (args_sorted1 _) ?_;unfold Builtin.«sorted»;refine wpAny_bind (m:=checkCount "sorted" 1 1 _) (wpAny_pure (wpAny_bind (collect_set hh x fun vs ns h1 d tk iv pn kp le=>?_)));have lv:vs.length < 64:=by rw [IntsAre.length iv,pn.length_eq];exact h64
 refine wpAny_bind (wpAny_newList ?_ (Nat.le_of_lt (Nat.lt_of_lt_of_le lv (by rw [sizeLine_eq];decide))));have gL:(h1.push (seqObj "list" vs.toArray 0)).get? h1.objs.size=some (seqObj "list" vs.toArray 0):=get?_push_size _ rfl;refine wpAny_bind (wpAny_holding (wpAny_call_entry slot_list_sort ⟨_,gL,rfl⟩ entry_list_sort (list_sort_tree gL iv lv fun out ns' a1 a2 a3=>⟨_,rfl,?_⟩) (args_list_sort _)));obtain ⟨k,gk⟩:=sHeap_at (vs:=vs) (out:=out) gL;exact wpAny_pure ⟨_,rfl,h _ out ns' k _ d tk a1 (a2.trans pn) a3 (fun b o e=>sHeap_old (Nat.ne_of_lt (Nat.lt_of_lt_of_le (lt_size e) le)) (get?_push_of_some _ (kp b o e))) le gk⟩
end
theorem met_mem (val:Nat->Int):∀ n,(firstMet val n).Nodup/\∀ x,x∈firstMet val n↔∃ i,i < n/\val i=x
 | 0=>⟨by rw [firstMet_zero];exact List.nodup_nil,fun x=>by rw [firstMet_zero];exact ⟨fun h=>(nomatch h),fun ⟨i,h,_⟩=>absurd h (Nat.not_lt_zero _)⟩⟩
 | n + 1=>by
  obtain ⟨h1,h2⟩:=met_mem val n;have up:∀ x,(∃ i,i < n + 1/\val i=x)↔(∃ i,i < n/\val i=x)\/val n=x:=fun x=>by
   constructor
   ·rintro ⟨i,hi,e⟩;by_cases c:i=n
    ·subst c;exact .inr e
    ·exact .inl ⟨i,by omega,e⟩
   ·rintro (⟨i,hi,e⟩ | e)
    ·exact ⟨i,by omega,e⟩
    ·exact ⟨n,by omega,e⟩
  rw [firstMet_succ];unfold step_dedup;by_cases c:val n∈firstMet val n
  ·have z:((firstMet val n).any fun x=>x == val n)=true:=by rw [any_eq_true];exact ⟨_,c,by simp⟩
   rw [if_pos z];refine ⟨h1,fun x=>?_⟩;rw [up,<- h2];exact ⟨.inl,fun q=>q.elim id fun e=>e ▸ c⟩
  ·have z:¬ ((firstMet val n).any fun x=>x == val n)=true:=fun q=>by
    rw [any_eq_true] at q;obtain ⟨x,m,e⟩:=q;rw [beq_iff_eq] at e;exact c (e ▸ m)
   rw [if_neg z];refine ⟨List.nodup_append.mpr ⟨h1,nodup_cons.mpr ⟨fun h=>(nomatch h),List.nodup_nil⟩,fun a ha b hb e=>c (by rw [<- mem_singleton.mp hb,<- e];exact ha)⟩,fun x=>?_⟩;rw [up,<- h2,mem_append,mem_singleton];exact ⟨fun q=>q.elim .inl fun e=>.inr e.symm,fun q=>q.elim .inl fun e=>.inr e.symm⟩
theorem met_list (ns:List Int) (x:Int):x∈firstMet (fun i=>ns.getD i 0) ns.length↔x∈ns:=by
 rw [(met_mem _ _).2];constructor
 ·rintro ⟨i,hi,rfl⟩;show ns.getD i 0∈ns;rw [getD_eq_getElem?_getD,List.getElem?_eq_getElem hi];exact getElem_mem hi
 ·intro h;obtain ⟨i,hi,e⟩:=List.mem_iff_getElem.mp h;refine ⟨i,hi,?_⟩;show ns.getD i 0=x;rw [getD_eq_getElem?_getD,List.getElem?_eq_getElem hi];exact e
theorem lt_of_nd:∀ {l:List Int},l.Pairwise (·<=·)->l.Nodup->l.Pairwise (· < ·):=fun {l} h1 h2=>(h1.and h2).imp fun ⟨a,b⟩=>by omega
section
variable {X:Cx} {e:Expr} {t:TA} {p p2 pos pos2:Pos}
theorem Inv.drawn {pins:List (Addr × Obj)} {σ:St} {H:Hp} {s:Shared} (I:Inv X pins σ H s) (d:Drawn):Inv X pins σ H { s with drawn:=d } :=
 I.step (g':=s.gens) (d':=d) (t':=s.toks) (ch:=[]) (h':=s.heap) (fun _ z=>nomatch z) (fun b o _ _ _ e _=>e) (fun b o _ _ _ e _=>⟨o.slots,e⟩) (fun _ _ _ _ n=>n) (fun b o _ e=>⟨o,e⟩) (fun _ _ h=>h) (fun _ _ _ h=>h) (fun b ps h=>⟨#[],by rw [Array.append_empty];exact h⟩) (fun _ h=>h) I.hok I.bare
def tSSet (t:TA):TE:=fun σ H Q=>t σ H fun vs H1=>∃ (q:Addr) (ns:List Int),vs=[.ref q]/\SqL X.K H1 q (ns.map V.int)/\ns.length < 64/\∀ l (ns':List Int),H1 l=none->ns'.Pairwise (· < ·)->(∀ x,x∈ns'↔x∈ns)->Q (.ref l) (upd H1 l (.lst (ns'.map V.int)))
theorem pe_sset (hc:X.calm=true) (hg:Gl X "sorted") (hm:X.mg "sorted"=none) (hg2:Gl X "set") (hm2:X.mg "set"=none) (ha:PA X [e] t)
  (he:starEach [e] X.env=[(false,eval e X.env)]:=by rfl)
  (he':starEach [Expr.Call (.Name "set" p2) [e] [] pos2] X.env=[(false,eval (Expr.Call (.Name "set" p2) [e] [] pos2) X.env)]:=by rfl) :
  PE X (.Call (.Name "sorted" p) [.Call (.Name "set" p2) [e] [] pos2] [] pos) (tSSet (X:=X) t):=by
 intro pins s σ H Q I h;refine wpAny_Call_Name_kw (J3f I hg hm boot_sorted ?_ (by decide) (by decide));refine callWith_builtin1 (rest:=[]) ?_ (by rw [he'];rfl) rfl;rw [he'];show wpAny _ _ (spliced [(false,eval (Expr.Call (.Name "set" p2) [e] [] pos2) X.env)]) _ _ s;refine Calls.spliced_cons ?_;refine wpAny_Call_Name_kw (J3f I hg2 hm2 PyProof.Rows.boot_set ?_ (by decide) (by decide));refine callWith_type1 (thn (ha pos2 pins s σ H _ I h) fun us s1 h9=>?_) (by rw [he];rfl) rfl;obtain ⟨vs,H1,I1,r1,q,ns,e1,hq,h64,kc⟩:=h9;subst e1;obtain ⟨u,rfl,rx⟩:=vals1 r1;cases rx;obtain ⟨its,r',pl,hz⟩:=I1.list hq;have iv:IntsAre its ns:=Jl r';have lD:=firstMet_length_le (fun i=>ns.getD i 0) ns.length;refine call_set_t (I1.ok.hd hc) pl.isList iv (by unfold scanBound;omega) fun h' tk S1 kp=>?_;have le1:s1.heap.objs.size < h'.objs.size:=by
  obtain ⟨o,_,_,_,ho,_⟩:=S1;exact lt_size ho
 refine Calls.spliced_nil ?_;refine sorted_set (s:={ s1 with heap:=h',toks:=tk }) (I1.ok.hd hc) S1 (by omega) fun a out ns' k h2 d tk2 a1 a2 a3 k2 la ga=>?_;have kk:∀ b o,s1.heap.get? b=some o->h2.get? b=some o:=fun b o e=>k2 b o (kp b o (lt_size e) e);have le2:s1.heap.objs.size<=a:=Nat.le_trans (Nat.le_of_lt le1) la;have hz':(ns'.map V.int).length<=sizeLine:=by
  rw [length_map,a2.length_eq];exact Nat.le_of_lt (Jg (by omega))
 refine ⟨.ref a,_,(I1.drawn d).laid (t':=tk2) (a:=a) (o:=.lst (ns'.map V.int)) kk le2 ⟨hz',out.toList,k,J1h a1,ga⟩,rfl,kc _ ns' (I1.hok.fresh le2) (lt_of_nd a3 (a2.nodup_iff.mpr (met_mem _ _).1)) fun x=>?_⟩;rw [a2.mem_iff];exact met_list ns x
end
end L2
namespace Rl
def cellN (ns:List Int) (k:Nat):Int:=ns.getD k 0
def insAt (xs:List Nat) (i y:Nat):List Nat:=xs.take i ++ y :: xs.drop i
theorem insAt_perm (xs:List Nat) (i y:Nat):(insAt xs i y).Perm (y :: xs):=by
 unfold insAt;have h:(xs.take i ++ y :: xs.drop i).Perm (y :: (xs.take i ++ xs.drop i)):=perm_middle;rwa [List.take_append_drop] at h
theorem J1y:∀ {xs ys:List Int},xs.Perm ys->xs.Pairwise (·<=·)->ys.Pairwise (·<=·)->xs=ys
 | [],ys,h,_,_=>(List.Perm.nil_eq h)
 | x :: xs,[],h,_,_=>absurd h.length_eq (by simp)
 | x :: xs,y :: ys,h,hx,hy=>by
  have hx':=List.pairwise_cons.mp hx;have hy':=List.pairwise_cons.mp hy;have m1:x∈y :: ys:=h.mem_iff.mp mem_cons_self;have m2:y∈x :: xs:=h.mem_iff.mpr mem_cons_self;have e:x=y:=by
   rcases mem_cons.mp m1 with e | m1
   ·exact e
   ·rcases mem_cons.mp m2 with e | m2
    ·exact e.symm
    ·have a:=hx'.1 y m2;have b:=hy'.1 x m1;omega
  subst e;rw [J1y h.cons_inv hx'.2 hy'.2]
def natI (os:List Nat):List Int:=os.map fun (n:Nat)=>(n:Int)
theorem J37 (n:Nat):(natI (List.range n)).Pairwise (·<=·):=by
 unfold natI;rw [pairwise_map];exact List.pairwise_lt_range.imp fun h=>by omega
theorem J31 {os:List Nat} {n:Nat} {ns':List Int} (hp:os.Perm (List.range n)) (h1:ns'.Perm (natI os)) (h2:ns'.Pairwise (·<=·)):ns'=natI (List.range n) :=
 J1y (h1.trans (hp.map _)) h2 (J37 n)
end Rl
namespace Rl
end Rl
namespace Rl
end Rl
namespace Rl
end Rl
namespace Rl
end Rl
namespace Rl
end Rl
namespace Rl
end Rl
namespace Rl
end Rl
namespace Rl
end Rl
namespace Rl
end Rl
namespace Rl
def IsO (os:List Nat):Prop:=os.Perm (List.range os.length)
theorem IsO.lt {os:List Nat} (h:IsO os):∀ x∈os,x < os.length:=fun x hx=>mem_range.mp (h.mem_iff.mp hx)
theorem IsO.mem {os:List Nat} (h:IsO os) {x:Nat} (hx:x < os.length):x∈os:=h.mem_iff.mpr (mem_range.mpr hx)
end Rl
namespace Rl
def spotA (ns:List Int) (a k:Nat):Nat:=(cellN ns (a + k) % ((k:Int) + 1)).toNat
def drawA (ns:List Int) (a:Nat):Nat->List Nat
 | 0=>[]
 | k + 1=>insAt (drawA ns a k) (spotA ns a k) k
theorem spotA_le (ns:List Int) (a k:Nat):spotA ns a k<=k/\((spotA ns a k:Nat):Int)=cellN ns (a + k) % ((k:Int) + 1):=by
 have h0:0<=cellN ns (a + k) % ((k:Int) + 1):=Int.emod_nonneg _ (by omega);have h1:cellN ns (a + k) % ((k:Int) + 1) < (k:Int) + 1:=Int.emod_lt_of_pos _ (by omega);unfold spotA;omega
theorem J1t (ns:List Int) (a:Nat):∀ k,(drawA ns a k).Perm (List.range k)
 | 0=>List.Perm.refl _
 | k + 1=>by
  have h1:=insAt_perm (drawA ns a k) (spotA ns a k) k;have h2:(k :: drawA ns a k).Perm (k :: List.range k):=(J1t ns a k).cons k;have h3:(k :: List.range k).Perm (List.range (k + 1)):=by
   rw [range_succ];exact (List.perm_append_singleton k (List.range k)).symm
  exact h1.trans (h2.trans h3)
theorem J2f (ns:List Int) (a k:Nat):(drawA ns a k).length=k:=by
 rw [(J1t ns a k).length_eq,length_range]
theorem drawA_isO (ns:List Int) (a k:Nat):IsO (drawA ns a k):=by
 unfold IsO;rw [J2f];exact J1t ns a k
def OrdX (xs:List Int) (n:Nat):Prop:=∃ os:List Nat,xs=natI os/\os.Perm (List.range n)
theorem J18 (os:List Nat):(natI os).length=os.length:=length_map ..
theorem ordX_of {xs:List Int} {n:Nat} (h:(natI (List.range n)).Perm xs):OrdX xs n:=by
 refine ⟨xs.map Int.toNat,?_,?_⟩
 ·unfold natI;rw [map_map]
  conv=>lhs;rw [<- List.map_id xs]
  apply map_congr_left;intro x hx;obtain ⟨k,_,rfl⟩:=mem_map.mp (h.symm.mem_iff.mp hx);simp
 ·have e:(natI (List.range n)).map Int.toNat=List.range n:=by
   unfold natI;rw [map_map]
   conv=>rhs;rw [<- List.map_id (List.range n)]
   apply map_congr_left;intro x _;simp
  have:=(h.map Int.toNat).symm;rwa [e] at this
end Rl
namespace Rl
theorem idx_get {l:List Nat} (nd:l.Nodup) {j p:Nat} (h:l[j]?=some p):l.idxOf p=j:=by
 have hj:j < l.length:=(List.getElem?_eq_some_iff.mp h).1;have e:l[j]=p:=(List.getElem?_eq_some_iff.mp h).2;have hm:p∈l:=e ▸ getElem_mem hj;have h1:=List.idxOf_lt_length_of_mem hm;have h2:l[l.idxOf p]=p:=getElem_idxOf h1;exact (List.getElem_inj nd).mp (h2.trans e.symm)
end Rl
namespace Rl
end Rl
namespace Rl
end Rl
namespace Rl
noncomputable section
def J1q (l:List Nat):Nat->List Nat:=@List.rec Nat (fun _=>Nat->List Nat) (fun _=>[]) (fun h _ ih k=>cond (Nat.beq h k) (k :: ih (Nat.succ k)) (ih (Nat.succ k))) l
end
def J1v:List Nat->List (Nat × Nat)
 | a :: b :: r=>(2 * a + 1,2 * b) :: J1v (b :: r)
 | _=>[]
def Jx (os:List Nat):List (Nat × Nat):=J1v (List.range os.length) ++ J1v os ++ [(0,2 * os.getD 0 0),(2 * (os.length - 1) + 1,2 * os.getD (os.length - 1) 0 + 1)]
def meet1 (l:List Nat) (p:Nat × Nat):List Nat:=l.map fun e=>if e=max (l.getD p.1 0) (l.getD p.2 0) then min (l.getD p.1 0) (l.getD p.2 0) else e
def Jc (os:List Nat):List Nat:=(Jx os).foldl meet1 (List.range (2 * os.length))
def oddsO:List Nat->List Nat
 | _ :: b :: r=>b :: oddsO r
 | _=>[]
noncomputable def fixL (l:List Nat):List Nat:=J1q l 0
noncomputable def turnsO (os:List Nat):List Nat:=(fixL (Jc os)).map fun v=>(oddsO (Jc os)).dropLast.count v
theorem beqN (a b:Nat):Nat.beq a b=decide (a=b):=by
 cases c:Nat.beq a b with
 | true=>exact (decide_eq_true (Nat.eq_of_beq_eq_true c)).symm
 | false=>exact (decide_eq_false (Nat.ne_of_beq_eq_false c)).symm
end Rl
namespace Rl
def Idem (l:List Nat):Prop:=∀ v∈l,l[v]?=some v
theorem J1o (n:Nat):Idem (List.range n):=fun v hv=>by
 rw [getElem?_range (mem_range.mp hv)]
theorem Jr (l:List Nat) (p:Nat × Nat):(meet1 l p).length=l.length:=length_map ..
theorem J1j {l:List Nat} {i:Nat} (h:i < l.length):l[i]?=some (l.getD i 0):=by
 rw [getD_eq_getElem?_getD,List.getElem?_eq_getElem h];rfl
theorem idem_meet {l:List Nat} (h:Idem l) {p:Nat × Nat} (h1:p.1 < l.length) (h2:p.2 < l.length):Idem (meet1 l p):=by
 have m1:l.getD p.1 0∈l:=mem_of_getElem? (J1j h1);have m2:l.getD p.2 0∈l:=mem_of_getElem? (J1j h2);obtain ⟨x,hx⟩:∃ x,x=l.getD p.1 0:=⟨_,rfl⟩;obtain ⟨y,hy⟩:∃ y,y=l.getD p.2 0:=⟨_,rfl⟩;have e:meet1 l p=l.map fun e=>if e=max x y then min x y else e:=by unfold meet1;rw [hx,hy]
 rw [e];rw [<- hx] at m1;rw [<- hy] at m2;have mn:min x y∈l:=by rcases Nat.le_total x y with q | q <;> simp only [Nat.min_eq_left q,Nat.min_eq_right q] <;> assumption
 intro v hv;obtain ⟨u,hu,e2⟩:=mem_map.mp hv;rw [getElem?_map];by_cases c:u=max x y
 ·rw [if_pos c] at e2;subst e2;rw [h _ mn];show some (if min x y=max x y then min x y else min x y)=_;rw [ite_self]
 ·rw [if_neg c] at e2;subst e2;rw [h _ hu];show some (if u=max x y then min x y else u)=_;rw [if_neg c]
theorem J2e:∀ (ps:List (Nat × Nat)) (l:List Nat),Idem l->(∀ p∈ps,p.1 < l.length/\p.2 < l.length)->Idem (ps.foldl meet1 l)/\(ps.foldl meet1 l).length=l.length
 | [],l,h,_=>⟨h,rfl⟩
 | p :: ps,l,h,hp=>by
  have q:=hp p (mem_cons_self ..);have r:=J2e ps (meet1 l p) (idem_meet h q.1 q.2) fun p' hp'=>by rw [Jr];exact hp p' (mem_cons_of_mem _ hp')
  rw [Jr] at r;exact r
theorem J3m {n:Nat}:∀ {row:List Nat},(∀ x∈row,x < n)->∀ p∈J1v row,p.1 < 2 * n/\p.2 < 2 * n
 | [],_,p,hp=>(nomatch hp)
 | [_],_,p,hp=>(nomatch hp)
 | a :: b :: r,h,p,hp=>by
  rcases mem_cons.mp hp with e | e
  ·have h1:=h a (mem_cons_self ..);have h2:=h b (mem_cons_of_mem _ (mem_cons_self ..));subst e;exact ⟨by show 2 * a + 1 < _;omega,by show 2 * b < _;omega⟩
  ·exact J3m (fun x hx=>h x (mem_cons_of_mem _ hx)) p e
theorem J29 {os:List Nat} (io:IsO os) (h1:1<=os.length):∀ p∈Jx os,p.1 < 2 * os.length/\p.2 < 2 * os.length:=fun p hp=>by
 have hg:∀ i,i < os.length->os.getD i 0 < os.length:=fun i hi=>io.lt _ (mem_of_getElem? (J1j hi));rcases mem_append.mp hp with hp | hp
 ·rcases mem_append.mp hp with hp | hp
  ·exact J3m (fun x hx=>mem_range.mp hx) p hp
  ·exact J3m io.lt p hp
 ·have g0:=hg 0 (by omega);have g1:=hg (os.length - 1) (by omega);rcases mem_cons.mp hp with e | e
  ·subst e;exact ⟨by show 0 < _;omega,by show 2 * os.getD 0 0 < _;omega⟩
  ·have e:=mem_singleton.mp e;subst e;exact ⟨by show 2 * (os.length - 1) + 1 < _;omega,by show 2 * os.getD (os.length - 1) 0 + 1 < _;omega⟩
theorem Jj {os:List Nat} (io:IsO os) (h1:1<=os.length):Idem (Jc os)/\(Jc os).length=2 * os.length:=by
 have r:=J2e (Jx os) (List.range (2 * os.length)) (J1o _) (by rw [length_range];exact J29 io h1);rw [length_range] at r;exact r
theorem J1p:∀ (l:List Nat) (k e:Nat),e∈J1q l k↔∃ i,l[i]?=some e/\e=k + i
 | [],k,e=>⟨fun h=>(nomatch h),fun ⟨i,h,_⟩=>by cases h⟩
 | h :: t,k,e=>by
  have ih:=J1p t (k + 1) e;show e∈cond (Nat.beq h k) (k :: J1q t (k + 1)) (J1q t (k + 1))↔_;rw [beqN,Bool.cond_decide];have rest:(∃ i,t[i]?=some e/\e=k + 1 + i)->∃ i,(h :: t)[i]?=some e/\e=k + i:=fun h9=>by obtain ⟨i,a,b⟩:=h9;exact ⟨i + 1,a,by omega⟩
  have back:(∃ i,(h :: t)[i]?=some e/\e=k + i)->(h=e/\e=k)\/∃ i,t[i]?=some e/\e=k + 1 + i:=fun h9=>by
   obtain ⟨i,a,b⟩:=h9
   cases i with
   | zero=>exact .inl ⟨by cases a;rfl,by omega⟩
   | succ i=>exact .inr ⟨i,a,by omega⟩
  by_cases c:h=k
  ·rw [if_pos c,mem_cons,ih];exact ⟨fun q=>q.elim (fun e=>⟨0,by rw [e,<- c];rfl,by omega⟩) rest,fun q=>(back q).imp (fun z=>z.2) id⟩
  ·rw [if_neg c,ih];exact ⟨rest,fun q=>(back q).elim (fun z=>absurd (z.1.trans z.2) c) id⟩
theorem J1d:∀ (l:List Nat) (k:Nat),(J1q l k).Pairwise (· < ·)
 | [],k=>List.Pairwise.nil
 | h :: t,k=>by
  show (cond (Nat.beq h k) (k :: J1q t (k + 1)) (J1q t (k + 1))).Pairwise (· < ·);cases Nat.beq h k
  ·exact J1d t (k + 1)
  ·refine List.Pairwise.cons (fun e he=>?_) (J1d t (k + 1));obtain ⟨i,_,q⟩:=(J1p t (k + 1) e).mp he;omega
theorem Jt {l:List Nat} (h:Idem l) (e:Nat):e∈fixL l↔e∈l:=by
 unfold fixL;rw [J1p];exact ⟨fun h9=>by obtain ⟨i,a,_⟩:=h9;exact mem_of_getElem? a,fun m=>⟨e,h e m,by omega⟩⟩
theorem Jo (l:List Nat):(fixL l).Nodup:=(J1d l 0).imp fun h=>Nat.ne_of_lt h
theorem fixL_uni {l:List Nat} (h:Idem l) {ns:List Int} (h1:ns.Pairwise (· < ·)) (h2:∀ x,x∈ns↔x∈natI l):ns=natI (fixL l):=by
 have s2:(natI (fixL l)).Pairwise (· < ·):=by
  unfold natI;rw [pairwise_map];exact (J1d l 0).imp fun h=>by omega
 have p:ns.Perm (natI (fixL l)):=(perm_ext_iff_of_nodup (h1.imp fun h=>Int.ne_of_lt h) (s2.imp fun h=>Int.ne_of_lt h)).mpr fun x=>by
  rw [h2];unfold natI;rw [mem_map,mem_map];exact ⟨fun h9=>by obtain ⟨a,m,e⟩:=h9;exact ⟨a,(Jt h a).mpr m,e⟩,fun h9=>by obtain ⟨a,m,e⟩:=h9;exact ⟨a,(Jt h a).mp m,e⟩⟩
 exact List.Perm.eq_of_pairwise (le:=(· < ·)) (fun a b _ _ x y=>by omega) h1 s2 p
noncomputable def cornO (os:List Nat):List Nat:=(Jc os).map fun v=>(fixL (Jc os)).idxOf v
theorem odds_map (f:Nat->Nat):∀ l:List Nat,oddsO (l.map f)=(oddsO l).map f
 | []=>rfl
 | [_]=>rfl
 | _ :: b :: r=>by
  show f b :: oddsO (r.map f)=f b :: (oddsO r).map f;rw [odds_map f r]
theorem J3c:∀ (l:List Nat) (x:Nat),x∈oddsO l->x∈l
 | [],x,h=>(nomatch h)
 | [_],x,h=>(nomatch h)
 | a :: b :: r,x,h=>by
  rcases mem_cons.mp h with e | e
  ·rw [e];exact mem_cons_of_mem _ (mem_cons_self ..)
  ·exact mem_cons_of_mem _ (mem_cons_of_mem _ (J3c r x e))
theorem count_idx {F:List Nat} (nd:F.Nodup) {v:Nat} (hv:v∈F):∀ xs:List Nat,(∀ x∈xs,x∈F)->(xs.map fun u=>F.idxOf u).count (F.idxOf v)=xs.count v
 | [],_=>rfl
 | x :: xs,h=>by
  rw [map_cons,count_cons,count_cons,count_idx nd hv xs fun y hy=>h y (mem_cons_of_mem _ hy)]
  congr 1
  have hx:=h x (mem_cons_self ..);by_cases c:x=v
  ·subst c;simp
  ·have c2:¬ F.idxOf x=F.idxOf v:=fun e=>c (by
    have a:=getElem_idxOf (List.idxOf_lt_length_of_mem hx);have b:=getElem_idxOf (List.idxOf_lt_length_of_mem hv);rw [<- a,<- b]
    congr 1)
   rw [if_neg (by rw [beq_iff_eq];exact c2),if_neg (by rw [beq_iff_eq];exact c)]
theorem J1l {os:List Nat} (io:IsO os) (h1:1<=os.length):(List.range (fixL (Jc os)).length).map (fun k=>(oddsO (cornO os)).dropLast.count k)=turnsO os:=by
 obtain ⟨id,_⟩:=Jj io h1;unfold turnsO cornO;refine ext_getElem (by rw [length_map,length_map,length_range]) fun i a b=>?_;rw [getElem_map,getElem_map,List.getElem_range];have hi:i < (fixL (Jc os)).length:=by rw [length_map] at b;exact b
 have e:i=(fixL (Jc os)).idxOf ((fixL (Jc os))[i]'hi):=(idx_get (Jo _) (List.getElem?_eq_getElem hi)).symm
 conv=>lhs;rw [e]
 rw [odds_map,<- List.map_dropLast];refine count_idx (Jo _) (getElem_mem hi) _ fun x hx=>(Jt id x).mpr (J3c _ x (List.dropLast_subset _ hx))
theorem corn_max {os:List Nat} (io:IsO os) (h1:1<=os.length) {M:Nat} (hM:M∈cornO os) (ha:∀ c∈cornO os,c<=M):M + 1=(fixL (Jc os)).length:=by
 obtain ⟨id,_⟩:=Jj io h1;unfold cornO at hM ha;obtain ⟨v,hv,rfl⟩:=mem_map.mp hM;have lt:=List.idxOf_lt_length_of_mem ((Jt id v).mpr hv);have hl:(fixL (Jc os)).length - 1 < (fixL (Jc os)).length:=by omega
 have hm:=(Jt id _).mp (getElem_mem hl);have q:=ha _ (mem_map.mpr ⟨_,hm,rfl⟩);rw [idx_get (Jo _) (List.getElem?_eq_getElem hl)] at q;omega
end Rl
namespace Rl
open L2
theorem step1_cons {α:Type} (a b:α) (r:List α):stepL 1 (a :: b :: r)=b :: stepL 1 r:=by
 unfold stepL;have e:((a :: b :: r).length + 1 - 1) / 2=(r.length + 1 - 1) / 2 + 1:=by
  rw [length_cons,length_cons];omega
 rw [e,List.range_succ_eq_map,map_cons,map_map];rw [List.filterMap_cons_some (b:=b) (by rfl)]
 congr 1
 rw [List.filterMap_map,List.filterMap_map]
 congr 1
theorem J2l {α:Type} (f:Nat->α):∀ l:List Nat,stepL 1 (l.map f)=(oddsO l).map f
 | []=>by simp [stepL,oddsO]
 | [_]=>by simp [stepL,oddsO]
 | a :: b :: r=>by
  show stepL 1 (f a :: f b :: r.map f)=f b :: (oddsO r).map f;rw [step1_cons,J2l f r]
end Rl
namespace Tm
open PySem PyProof.Rows
end Tm
namespace Tm
open PySem PyProof.Rows
end Tm
namespace Tm
open PySem PyProof.Rows
end Tm
namespace Tm
open PySem PyProof.Rows
end Tm
namespace Tm
open PySem PyProof.Rows
end Tm
namespace Tm
open PySem PyProof.Rows
end Tm
namespace Tm
open PySem PyProof.Rows
end Tm
namespace Tm
open PySem PyProof.Rows
end Tm
namespace Tm
open PySem PyProof.Rows
end Tm
namespace L2
open PySem PySem.Spec PyProof.Rows Tm
structure TupsAt (H:Hp) (ys:List V) (ts:List (List Int)):Prop where
 len:ys.length=ts.length
 at_:∀ (i:Nat) (t:List Int),ts[i]?=some t->∃ q,ys[i]?=some (.ref q)/\H q=some (.tup (t.map V.int))
theorem TupsAt.same {H H':Hp} {ys:List V} {ts:List (List Int)} (h:TupsAt H ys ts) (s:Same H H'):TupsAt H' ys ts:=⟨h.len,fun i t e=>by obtain ⟨q,e1,e2⟩:=h.at_ i t e;exact ⟨q,e1,s _ _ e2⟩⟩
theorem TupsAt.app {H:Hp} {ys zs:List V} {ts us:List (List Int)} (h:TupsAt H ys ts) (g:TupsAt H zs us):TupsAt H (ys ++ zs) (ts ++ us):=by
 refine ⟨by rw [length_append,length_append,h.len,g.len],fun i t e=>?_⟩;by_cases c:i < ts.length
 ·rw [getElem?_append_left c] at e;obtain ⟨q,e1,e2⟩:=h.at_ i t e;exact ⟨q,by rw [getElem?_append_left (by rw [h.len];exact c)];exact e1,e2⟩
 ·rw [getElem?_append_right (by omega)] at e;obtain ⟨q,e1,e2⟩:=g.at_ _ t e;exact ⟨q,by rw [getElem?_append_right (by rw [h.len];omega),h.len];exact e1,e2⟩
end L2
namespace Rl
open L2 Tm
def pairL (p:Nat × Nat):List Int:=[(p.1:Int),(p.2:Int)]
end Rl
namespace Rl
open L2 Tm
end Rl
namespace Rl
open L2 Tm
end Rl
namespace Rl
def repF (ps:List (Nat × Nat)) (N:Nat):List Nat:=ps.foldl meet1 (List.range N)
structure Rep (N:Nat) (ps:List (Nat × Nat)) (l:List Nat):Prop where
 len:l.length=N
 idem:Idem l
 le:∀ x,x < N->l.getD x 0<=x
 eq:∀ p∈ps,l.getD p.1 0=l.getD p.2 0
 cl:∀ S:Nat->Prop,(∀ p∈ps,(S p.1↔S p.2))->∀ x,x < N->(S x↔S (l.getD x 0))
theorem getD_map {l:List Nat} {f:Nat->Nat} {x:Nat} (h:x < l.length):(l.map f).getD x 0=f (l.getD x 0):=by
 rw [getD_eq_getElem?_getD,getElem?_map,List.getElem?_eq_getElem h,getD_eq_getElem?_getD,List.getElem?_eq_getElem h];rfl
theorem Je {l:List Nat} {p:Nat × Nat} {x:Nat} (h:x < l.length):(meet1 l p).getD x 0=if l.getD x 0=max (l.getD p.1 0) (l.getD p.2 0) then min (l.getD p.1 0) (l.getD p.2 0) else l.getD x 0:=getD_map h
theorem Rep.nil (N:Nat):Rep N [] (List.range N):=by
 have g:∀ x,x < N->(List.range N).getD x 0=x:=fun x h=>by rw [getD_eq_getElem?_getD,getElem?_range h];rfl
 exact ⟨length_range,J1o N,fun x h=>(by rw [g x h];exact Nat.le_refl _),fun p hp=>(nomatch hp),fun S _ x h=>(by rw [g x h])⟩
theorem Rep.snoc {N:Nat} {ps:List (Nat × Nat)} {l:List Nat} {p:Nat × Nat} (r:Rep N ps l) (h1:p.1 < N) (h2:p.2 < N):Rep N (ps ++ [p]) (meet1 l p):=by
 have L:=r.len;refine ⟨by rw [Jr,L],idem_meet r.idem (by rw [L];exact h1) (by rw [L];exact h2),fun x hx=>?_,fun q hq=>?_,fun S hS x hx=>?_⟩
 ·rw [Je (by omega)];have:=r.le x hx;split <;> omega
 ·rcases mem_append.mp hq with z | z
  ·have e:=r.eq q z;by_cases c1:q.1 < l.length
   ·by_cases c2:q.2 < l.length
    ·rw [Je c1,Je c2,e]
    ·have c3:(meet1 l p).getD q.2 0=0:=by rw [getD_eq_getElem?_getD,getElem?_eq_none (by rw [Jr];omega)];rfl
     have c4:l.getD q.2 0=0:=by rw [getD_eq_getElem?_getD,getElem?_eq_none (by omega)];rfl
     rw [Je c1,c3,e,c4];split <;> omega
   ·have c3:(meet1 l p).getD q.1 0=0:=by rw [getD_eq_getElem?_getD,getElem?_eq_none (by rw [Jr];omega)];rfl
    have c4:l.getD q.1 0=0:=by rw [getD_eq_getElem?_getD,getElem?_eq_none (by omega)];rfl
    by_cases c2:q.2 < l.length
    ·rw [c3,Je c2,<- e,c4];split <;> omega
    ·have c5:(meet1 l p).getD q.2 0=0:=by rw [getD_eq_getElem?_getD,getElem?_eq_none (by rw [Jr];omega)];rfl
     rw [c3,c5]
  ·rw [mem_singleton.mp z,Je (by omega),Je (by omega)];split <;> split <;> omega
 ·have c:=fun y hy=>r.cl S (fun q hq=>hS q (mem_append_left _ hq)) y hy;have cp:=hS p (mem_append_right _ (List.mem_singleton_self _));rw [Je (by omega),c x hx];have ca:=c p.1 h1;have cb:=c p.2 h2;by_cases e:l.getD x 0=max (l.getD p.1 0) (l.getD p.2 0)
  ·rw [if_pos e,e];rcases Nat.le_total (l.getD p.1 0) (l.getD p.2 0) with o | o
   ·rw [Nat.max_eq_right o,Nat.min_eq_left o,<- cb,<- ca,cp]
   ·rw [Nat.max_eq_left o,Nat.min_eq_right o,<- cb,<- ca,cp]
  ·rw [if_neg e]
theorem rep_fold:∀ (qs:List (Nat × Nat)) {N:Nat} {ps:List (Nat × Nat)} {l:List Nat},Rep N ps l->(∀ p∈qs,p.1 < N/\p.2 < N)->Rep N (ps ++ qs) (qs.foldl meet1 l)
 | [],N,ps,l,r,_=>by rw [append_nil];exact r
 | q :: qs,N,ps,l,r,h=>by
  have hq:=h q (mem_cons_self ..);have:=rep_fold qs (r.snoc hq.1 hq.2) fun p hp=>h p (mem_cons_of_mem _ hp);rwa [List.append_assoc] at this
theorem J1a {ps:List (Nat × Nat)} {N:Nat} (h:∀ p∈ps,p.1 < N/\p.2 < N):Rep N ps (repF ps N):=by
 have:=rep_fold ps (Rep.nil N) h;rwa [List.nil_append] at this
theorem list_getD {a b:List Nat} (hl:a.length=b.length) (h:∀ x,x < a.length->a.getD x 0=b.getD x 0):a=b:=by
 refine ext_getElem hl fun i h1 h2=>?_;have:=h i h1;rwa [getD_eq_getElem?_getD,List.getElem?_eq_getElem h1,getD_eq_getElem?_getD,List.getElem?_eq_getElem h2] at this
theorem Rep.lt {N:Nat} {ps:List (Nat × Nat)} {l:List Nat} (r:Rep N ps l) {x:Nat} (h:x < N):l.getD x 0 < N:=Nat.lt_of_le_of_lt (r.le x h) h
theorem Rep.self {N:Nat} {ps:List (Nat × Nat)} {l:List Nat} (r:Rep N ps l) {x:Nat} (h:x < N):l.getD (l.getD x 0) 0=l.getD x 0:=by
 have hm:l.getD x 0∈l:=by
  rw [getD_eq_getElem?_getD,List.getElem?_eq_getElem (by rw [r.len];exact h)];exact getElem_mem _
 have:=r.idem _ hm;rw [getD_eq_getElem?_getD (l:=l) (i:=l.getD x 0),this];rfl
theorem Rep.uni {N:Nat} {ps qs:List (Nat × Nat)} {l m:List Nat} (r:Rep N ps l) (q:Rep N qs m) (h1:∀ p∈ps,m.getD p.1 0=m.getD p.2 0) (h2:∀ p∈qs,l.getD p.1 0=l.getD p.2 0):l=m:=by
 refine list_getD (by rw [r.len,q.len]) fun x hx=>?_;have hx:x < N:=by rw [<- r.len];exact hx
 have a:=(r.cl (fun y=>m.getD y 0=m.getD x 0) (fun p hp=>by rw [h1 p hp]) x hx).mp rfl;have b:=(q.cl (fun y=>l.getD y 0=l.getD x 0) (fun p hp=>by rw [h2 p hp]) x hx).mp rfl;have c:=q.le _ (r.lt hx);have d:=r.le _ (q.lt hx);omega
theorem Rep.fix {N:Nat} {ps:List (Nat × Nat)} {l:List Nat} (r:Rep N ps l) (x:Nat):x∈fixL l↔x < N/\l.getD x 0=x:=by
 rw [Jt r.idem];constructor
 ·intro h;have e:=r.idem x h;have hx:=(List.getElem?_eq_some_iff.mp e).1;exact ⟨by rw [<- r.len];exact hx,by rw [getD_eq_getElem?_getD,e];rfl⟩
 ·rintro ⟨h1,h2⟩;have hx:x < l.length:=by rw [r.len];exact h1
  rw [getD_eq_getElem?_getD,List.getElem?_eq_getElem hx] at h2;have h2:l[x]=x:=h2;exact h2 ▸ getElem_mem hx
theorem Rep.count {N:Nat} {ps:List (Nat × Nat)} {l:List Nat} {p:Nat × Nat} (r:Rep N ps l) (h1:p.1 < N) (h2:p.2 < N):(fixL (meet1 l p)).length + (if l.getD p.1 0=l.getD p.2 0 then 0 else 1)=(fixL l).length:=by
 have r':=r.snoc h1 h2;have L:=r.len;by_cases c:l.getD p.1 0=l.getD p.2 0
 ·rw [if_pos c];have e:meet1 l p=l:=by
   refine list_getD (Jr l p) fun x hx=>?_;rw [Jr] at hx;rw [Je hx,c,Nat.max_self,Nat.min_self];split <;> omega
  rw [e];rfl
 ·rw [if_neg c];obtain ⟨M,hM⟩:∃ M,M=max (l.getD p.1 0) (l.getD p.2 0):=⟨_,rfl⟩;have fM:M∈fixL l:=(r.fix M).mpr (by
   rcases Nat.le_total (l.getD p.1 0) (l.getD p.2 0) with o | o
   ·rw [hM,Nat.max_eq_right o];exact ⟨r.lt h2,r.self h2⟩
   ·rw [hM,Nat.max_eq_left o];exact ⟨r.lt h1,r.self h1⟩)
  have pr:(M :: fixL (meet1 l p)).Perm (fixL l):=by
   have nM:M ∉ fixL (meet1 l p):=fun h=>by
    obtain ⟨g1,g2⟩:=(r'.fix M).mp h;obtain ⟨g3,g4⟩:=(r.fix M).mp fM;rw [Je (by omega),g4,<- hM,if_pos rfl] at g2;omega
   refine (perm_ext_iff_of_nodup (nodup_cons.mpr ⟨nM,Jo _⟩) (Jo _)).mpr fun x=>?_;rw [mem_cons,r'.fix,r.fix];constructor
   ·rintro (rfl | ⟨g1,g2⟩)
    ·exact (r.fix x).mp fM
    ·refine ⟨g1,?_⟩;rw [Je (by omega)] at g2;by_cases d:l.getD x 0=max (l.getD p.1 0) (l.getD p.2 0)
     ·rw [if_pos d] at g2;have:=r.le x g1;omega
     ·rw [if_neg d] at g2;exact g2
   ·rintro ⟨g1,g2⟩;by_cases d:x=M
    ·exact .inl d
    ·refine .inr ⟨g1,?_⟩;rw [Je (by omega),if_neg (by omega)];exact g2
  have:=pr.length_eq;rw [length_cons] at this;omega
theorem J22:∀ {A B:List Nat} (S:Nat->Bool),A.length=B.length->(∀ p∈A.zip B,S p.1=S p.2)->A.countP S=B.countP S
 | [],[],_,_,_=>rfl
 | a :: A,b :: B,S,hl,h=>by
  have e:=h (a,b) (by rw [List.zip_cons_cons];exact mem_cons_self ..);have ih:=J22 (A:=A) (B:=B) S (by simpa using hl) fun p hp=>h p (by rw [List.zip_cons_cons];exact mem_cons_of_mem _ hp);have e:S a=S b:=e;rw [countP_cons,countP_cons,ih,e]
 | [],_ :: _,_,hl,_=>by cases hl
 | _ :: _,[],_,hl,_=>by cases hl
def itf (f:Nat->Nat):Nat->Nat->Nat
 | 0,x=>x
 | k + 1,x=>f (itf f k x)
theorem apart {A0 B0:List Nat} {α z β ω N:Nat} (hl:A0.length=B0.length) (pA:(α :: z :: A0).Perm (List.range N)) (pB:(β :: ω :: B0).Perm (List.range N)) {l:List Nat} (r:Rep N (A0.zip B0) l):l.getD α 0≠l.getD z 0:=by
 have ndA:(α :: z :: A0).Nodup:=pA.nodup_iff.mpr List.nodup_range;have ndB:(β :: ω :: B0).Nodup:=pB.nodup_iff.mpr List.nodup_range;have inA:∀ x,x∈α :: z :: A0↔x < N:=fun x=>pA.mem_iff.trans mem_range;have inB:∀ x,x∈β :: ω :: B0↔x < N:=fun x=>pB.mem_iff.trans mem_range;have LA:(α :: z :: A0).length=N:=by rw [pA.length_eq,length_range]
 have LB:(β :: ω :: B0).length=N:=by rw [pB.length_eq,length_range]
 obtain ⟨f,hf⟩:∃ f:Nat->Nat,f=fun x=>(α :: z :: A0).getD ((β :: ω :: B0).idxOf x) 0:=⟨_,rfl⟩;have ixl:∀ x,x < N->(β :: ω :: B0).idxOf x < N:=fun x h=>by rw [<- LB];exact List.idxOf_lt_length_iff.mpr ((inB x).mpr h)
 have fl:∀ x,x < N->f x < N:=fun x h=>by
  rw [hf];refine (inA _).mp ?_;show (α :: z :: A0).getD _ 0∈_;rw [getD_eq_getElem?_getD,List.getElem?_eq_getElem (by rw [LA];exact ixl x h)];exact getElem_mem _
 have fi:∀ x y,x < N->y < N->f x=f y->x=y:=fun x y hx hy e=>by
  rw [hf] at e;have e:(α :: z :: A0).getD ((β :: ω :: B0).idxOf x) 0=(α :: z :: A0).getD ((β :: ω :: B0).idxOf y) 0:=e;have h1:(β :: ω :: B0).idxOf x < (α :: z :: A0).length:=by rw [LA];exact ixl x hx
  have h2:(β :: ω :: B0).idxOf y < (α :: z :: A0).length:=by rw [LA];exact ixl y hy
  rw [getD_eq_getElem?_getD,List.getElem?_eq_getElem h1,getD_eq_getElem?_getD,List.getElem?_eq_getElem h2] at e;have e3:(β :: ω :: B0).idxOf x=(β :: ω :: B0).idxOf y:=(List.getElem_inj ndA).mp e;have g1:=getElem_idxOf (List.idxOf_lt_length_iff.mpr ((inB x).mpr hx));have g2:=getElem_idxOf (List.idxOf_lt_length_iff.mpr ((inB y).mpr hy));rw [<- g1,<- g2]
  congr 1
 have fe:∀ p∈A0.zip B0,f p.2=p.1/\p.1∈A0/\p.2∈B0:=fun p hp=>by
  obtain ⟨i,hi,e⟩:=List.getElem_of_mem hp;rw [List.length_zip] at hi;rw [List.getElem_zip] at e;have e1:A0[i]=p.1:=congrArg Prod.fst e;have e2:B0[i]=p.2:=congrArg Prod.snd e;have hB:(β :: ω :: B0).idxOf p.2=i + 2:=by
   have:=List.Nodup.idxOf_getElem ndB (i + 2) (by simp;omega);have e3:(β :: ω :: B0)[i + 2]'(by simp;omega)=p.2:=by show B0[i]=p.2;exact e2
   rwa [e3] at this
  refine ⟨?_,e1 ▸ getElem_mem _,e2 ▸ getElem_mem _⟩;rw [hf];show (α :: z :: A0).getD ((β :: ω :: B0).idxOf p.2) 0=p.1;rw [hB];show A0.getD i 0=p.1;rw [getD_eq_getElem?_getD,List.getElem?_eq_getElem (by omega)];exact e1
 have hα:α < N:=(inA α).mp (mem_cons_self ..);have hz:z < N:=(inA z).mp (mem_cons_of_mem _ (mem_cons_self ..));obtain ⟨n1,n2⟩:=nodup_cons.mp ndA;obtain ⟨n3,n4⟩:=nodup_cons.mp n2;have it:∀ k,itf f k α < N:=fun k=>by
  induction k with
  | zero=>exact hα
  | succ k ih=>exact fl _ ih
 have S:=r.cl (fun x=>∃ k,x=itf f k α/\∀ m,1<=m->m<=k->itf f m α≠α/\itf f m α≠z) (fun p hp=>by
  obtain ⟨e1,e2,e3⟩:=fe p hp;have na:p.1≠α:=fun e=>n1 (mem_cons_of_mem _ (e ▸ e2));have nz:p.1≠z:=fun e=>n3 (e ▸ e2);constructor
  ·rintro ⟨k,e,h⟩
   match k with
   | 0=>exact absurd e na
   | k + 1 =>
    refine ⟨k,fi _ _ ((inB _).mp (mem_cons_of_mem _ (mem_cons_of_mem _ e3))) (it k) (by rw [e1];exact e),fun m m1 m2=>h m m1 (by omega)⟩
  ·rintro ⟨k,e,h⟩;refine ⟨k + 1,by rw [<- e1,e];rfl,fun m m1 m2=>?_⟩;by_cases c:m=k + 1
   ·subst c;have e4:itf f (k + 1) α=p.1:=by rw [<- e1,e];rfl
    rw [e4];exact ⟨na,nz⟩
   ·exact h m m1 (by omega))
 intro e;have s1:=(S α hα).mp ⟨0,rfl,fun m m1 m2=>by omega⟩;rw [e] at s1;obtain ⟨k,ek,hk⟩:=(S z hz).mpr s1
 match k with
 | 0=>exact n1 (by rw [show z=α from ek];exact mem_cons_self ..)
 | k + 1=>exact (hk (k + 1) (by omega) (Nat.le_refl _)).2 ek.symm
theorem four {A0 B0:List Nat} {α z β ω N:Nat} (hl:A0.length=B0.length) (pA:(α :: z :: A0).Perm (List.range N)) (pB:(β :: ω :: B0).Perm (List.range N)) {l:List Nat} (r:Rep N (A0.zip B0) l) :
  (l.getD α 0=l.getD β 0/\l.getD z 0=l.getD ω 0/\l.getD α 0≠l.getD z 0)\/(l.getD α 0=l.getD ω 0/\l.getD z 0=l.getD β 0/\l.getD α 0≠l.getD z 0):=by
 have ne:=apart hl pA pB r;have cnt:∀ S:Nat->Bool,(∀ p∈A0.zip B0,S p.1=S p.2)->(S α).toNat + (S z).toNat=(S β).toNat + (S ω).toNat:=fun S h=>by
  have e1:=pA.countP_eq S;have e2:=pB.countP_eq S;have e3:=J22 S hl h;rw [countP_cons,countP_cons] at e1 e2;have t:∀ b:Bool,(if b=true then 1 else 0)=b.toNat:=fun b=>by cases b <;> rfl
  rw [t,t] at e1 e2;omega
 have c1:=cnt (fun x=>decide (l.getD x 0=l.getD α 0)) fun p hp=>by rw [r.eq p hp]
 have c2:=cnt (fun x=>decide (l.getD x 0=l.getD z 0)) fun p hp=>by rw [r.eq p hp]
 rw [decide_eq_true rfl,decide_eq_false (Ne.symm ne)] at c1;rw [decide_eq_false ne,decide_eq_true rfl] at c2;by_cases b1:l.getD β 0=l.getD α 0
 ·rw [decide_eq_true b1] at c1;by_cases o1:l.getD ω 0=l.getD α 0
  ·rw [decide_eq_true o1] at c1;exact absurd c1 (by decide)
  ·rw [decide_eq_false (show ¬ l.getD β 0=l.getD z 0 by rw [b1];exact ne)] at c2;by_cases o2:l.getD ω 0=l.getD z 0
   ·exact .inl ⟨b1.symm,o2.symm,ne⟩
   ·rw [decide_eq_false o2] at c2;exact absurd c2 (by decide)
 ·rw [decide_eq_false b1] at c1;by_cases o1:l.getD ω 0=l.getD α 0
  ·rw [decide_eq_false (show ¬ l.getD ω 0=l.getD z 0 by rw [o1];exact ne)] at c2;by_cases b2:l.getD β 0=l.getD z 0
   ·exact .inr ⟨o1.symm,b2.symm,ne⟩
   ·rw [decide_eq_false b2] at c2;exact absurd c2 (by decide)
  ·rw [decide_eq_false o1] at c1;exact absurd c1 (by decide)
noncomputable def cntF (ps:List (Nat × Nat)) (N:Nat):Nat:=(fixL (repF ps N)).length
theorem rep_two {N:Nat} {E0:List (Nat × Nat)} {l:List Nat} (r:Rep N E0 l) {a b c d:Nat} (ha:a < N) (hb:b < N) (hc:c < N) (hd:d < N) (h:l.getD a 0=l.getD b 0) (g:l.getD c 0=l.getD d 0):(fixL (meet1 (meet1 l (a,b)) (c,d))).length=(fixL l).length:=by
 have e1:=r.count (p:=(a,b)) ha hb;have r1:=r.snoc (p:=(a,b)) ha hb;have e2:=r1.count (p:=(c,d)) hc hd;have L:=r.len;have g1:(meet1 l (a,b)).getD c 0=(meet1 l (a,b)).getD d 0:=by rw [Je (by omega),Je (by omega),g]
 rw [if_pos h] at e1;rw [if_pos g1] at e2;omega
theorem rep_three {N:Nat} {E0:List (Nat × Nat)} {l:List Nat} (r:Rep N E0 l) {a b c d:Nat} (ha:a < N) (hb:b < N) (hc:c < N) (hd:d < N) (h:l.getD a 0≠l.getD b 0) (g1:l.getD c 0=l.getD b 0) (g2:l.getD a 0=l.getD d 0):(fixL (meet1 (meet1 l (a,b)) (c,d))).length + 1=(fixL l).length:=by
 have e1:=r.count (p:=(a,b)) ha hb;have r1:=r.snoc (p:=(a,b)) ha hb;have e2:=r1.count (p:=(c,d)) hc hd;have L:=r.len;have e3:=r1.eq (a,b) (mem_append_right _ (List.mem_singleton_self _));have g3:(meet1 l (a,b)).getD c 0=(meet1 l (a,b)).getD d 0:=by
  have x1:(meet1 l (a,b)).getD c 0=(meet1 l (a,b)).getD b 0:=by rw [Je (by omega),Je (by omega),g1]
  have x2:(meet1 l (a,b)).getD a 0=(meet1 l (a,b)).getD d 0:=by rw [Je (by omega),Je (by omega),g2]
  exact x1.trans (e3.symm.trans x2)
 rw [if_neg h] at e1;rw [if_pos g3] at e2;omega
theorem swap_par {A0 B0:List Nat} {α z β ω N:Nat} (hl:A0.length=B0.length) (pA:(α :: z :: A0).Perm (List.range N)) (pB:(β :: ω :: B0).Perm (List.range N)) :
  cntF (A0.zip B0 ++ [(α,β),(z,ω)]) N=cntF (A0.zip B0 ++ [(α,ω),(z,β)]) N + 1\/cntF (A0.zip B0 ++ [(α,ω),(z,β)]) N=cntF (A0.zip B0 ++ [(α,β),(z,ω)]) N + 1:=by
 have inA:∀ x,x∈α :: z :: A0↔x < N:=fun x=>pA.mem_iff.trans mem_range;have inB:∀ x,x∈β :: ω :: B0↔x < N:=fun x=>pB.mem_iff.trans mem_range;have hα:α < N:=(inA α).mp (mem_cons_self ..);have hz:z < N:=(inA z).mp (mem_cons_of_mem _ (mem_cons_self ..));have hβ:β < N:=(inB β).mp (mem_cons_self ..);have hω:ω < N:=(inB ω).mp (mem_cons_of_mem _ (mem_cons_self ..));have hE:∀ p∈A0.zip B0,p.1 < N/\p.2 < N:=fun p hp =>
  ⟨(inA _).mp (mem_cons_of_mem _ (mem_cons_of_mem _ (of_mem_zip hp).1)),(inB _).mp (mem_cons_of_mem _ (mem_cons_of_mem _ (of_mem_zip hp).2))⟩
 have r:=J1a hE;have f:∀ p q,cntF (A0.zip B0 ++ [p,q]) N=(fixL (meet1 (meet1 (repF (A0.zip B0) N) p) q)).length:=fun p q=>by
  unfold cntF repF;rw [List.foldl_append];rfl
 rw [f,f];rcases four hl pA pB r with ⟨h1,h2,ne⟩ | ⟨h1,h2,ne⟩
 ·refine .inl ?_;rw [rep_two r hα hβ hz hω h1 h2];exact (rep_three r hα hω hz hβ (by rw [<- h2];exact ne) h2 h1).symm
 ·refine .inr ?_;rw [rep_two r hα hω hz hβ h1 h2];exact (rep_three r hα hβ hz hω (by rw [<- h2];exact ne) h2 h1).symm
end Rl
namespace Rl
def gapA (os:List Nat):List Nat:=0 :: os.map (· + 1)
def gapB (os:List Nat):List Nat:=os ++ [os.length]
def gapE (os:List Nat):List (Nat × Nat):=(gapA os).zip (gapB os)
noncomputable def cntG2 (os:List Nat):Nat:=cntF (gapE os) (os.length + 1)
theorem repF_same {ps qs:List (Nat × Nat)} {N:Nat} (h:∀ p∈ps,p.1 < N/\p.2 < N) (h1:∀ p,p∈ps↔p∈qs):repF ps N=repF qs N:=by
 have g:∀ p∈qs,p.1 < N/\p.2 < N:=fun p hp=>h p ((h1 p).mpr hp);exact (J1a h).uni (J1a g) (fun p hp=>(J1a g).eq p ((h1 p).mp hp)) fun p hp=>(J1a h).eq p ((h1 p).mpr hp)
theorem isO_perm {os:List Nat} {n:Nat} (h:os.Perm (List.range n)):IsO os/\os.length=n:=by
 have e:os.length=n:=by rw [h.length_eq,length_range]
 exact ⟨by unfold IsO;rw [e];exact h,e⟩
theorem range_cons (n:Nat):(0 :: (List.range n).map (· + 1)).Perm (List.range (n + 1)):=by
 rw [List.range_succ_eq_map]
theorem gapA_perm {os:List Nat} (io:IsO os):(gapA os).Perm (List.range (os.length + 1)):=by
 unfold gapA;exact ((io.map (· + 1)).cons 0).trans (range_cons _)
theorem gapB_perm {os:List Nat} (io:IsO os):(gapB os).Perm (List.range (os.length + 1)):=by
 unfold gapB;rw [range_succ];exact io.append_right _
theorem gap_lt {os:List Nat} (io:IsO os):∀ p∈gapE os,p.1 < os.length + 1/\p.2 < os.length + 1:=fun p hp =>
 ⟨mem_range.mp ((gapA_perm io).mem_iff.mp (of_mem_zip hp).1),mem_range.mp ((gapB_perm io).mem_iff.mp (of_mem_zip hp).2)⟩
theorem J2d {a b:List Nat} {x:Nat} (h:x < a.length):(a ++ b).getD x 0=a.getD x 0:=by
 rw [getD_eq_getElem?_getD,getElem?_append_left h,getD_eq_getElem?_getD]
theorem J2c {a:List Nat} {y:Nat}:(a ++ [y]).getD a.length 0=y:=by
 rw [getD_eq_getElem?_getD,getElem?_append_right (Nat.le_refl _),Nat.sub_self];rfl
theorem rep_alone {N:Nat} {E:List (Nat × Nat)} {l:List Nat} (r:Rep N E l) (h:∀ p∈E,p.1 < N/\p.2 < N):Rep (N + 1) (E ++ [(N,N)]) (l ++ [N])/\(fixL (l ++ [N])).length=(fixL l).length + 1:=by
 have L:=r.len;have g1:∀ x,x < N->(l ++ [N]).getD x 0=l.getD x 0:=fun x hx=>J2d (by omega);have g2:(l ++ [N]).getD N 0=N:=by
  have:=J2c (a:=l) (y:=N);rwa [L] at this
 have R:Rep (N + 1) (E ++ [(N,N)]) (l ++ [N]):=by
  refine ⟨by rw [length_append,L];rfl,fun v hv=>?_,fun x hx=>?_,fun p hp=>?_,fun S hS x hx=>?_⟩
  ·rcases mem_append.mp hv with q | q
   ·have e:=r.idem v q;rw [getElem?_append_left (List.getElem?_eq_some_iff.mp e).1];exact e
   ·rw [mem_singleton.mp q,getElem?_append_right (by omega),L,Nat.sub_self];rfl
  ·by_cases c:x < N
   ·rw [g1 x c];exact r.le x c
   ·have:x=N:=by omega
    rw [this,g2];exact Nat.le_refl _
  ·rcases mem_append.mp hp with q | q
   ·rw [g1 _ (h p q).1,g1 _ (h p q).2];exact r.eq p q
   ·rw [mem_singleton.mp q]
  ·by_cases c:x < N
   ·rw [g1 x c];exact r.cl S (fun p hp=>hS p (mem_append_left _ hp)) x c
   ·have:x=N:=by omega
    rw [this,g2]
 refine ⟨R,?_⟩;have nN:N ∉ fixL l:=fun h=>by have:=((r.fix N).mp h).1;omega
 have p:(fixL (l ++ [N])).Perm (N :: fixL l):=by
  refine (perm_ext_iff_of_nodup (Jo _) (nodup_cons.mpr ⟨nN,Jo _⟩)).mpr fun x=>?_;rw [mem_cons,R.fix,r.fix];constructor
  ·rintro ⟨h1,h2⟩;by_cases c:x < N
   ·rw [g1 x c] at h2;exact .inr ⟨c,h2⟩
   ·exact .inl (by omega)
  ·rintro (rfl | ⟨h1,h2⟩)
   ·exact ⟨by omega,g2⟩
   ·exact ⟨by omega,by rw [g1 x h1];exact h2⟩
 rw [p.length_eq,length_cons]
theorem rep_between {N:Nat} {F E:List (Nat × Nat)} {l:List Nat} {b z:Nat} (r:Rep N F l) (hF:∀ p∈F,p.1 < N/\p.2 < N) (hb:b < N) (hz:z < N) (zb:l.getD z 0=l.getD b 0) (hE:∀ p∈E,p∈F\/p=(N,b)\/p=(z,N)) (hE2:∀ S:Nat->Prop,(∀ p∈E,(S p.1↔S p.2))->(∀ p∈F,(S p.1↔S p.2))/\(S N↔S b)) :
  Rep (N + 1) E (l ++ [l.getD b 0])/\(fixL (l ++ [l.getD b 0])).length=(fixL l).length:=by
 have L:=r.len;have g1:∀ x,x < N->(l ++ [l.getD b 0]).getD x 0=l.getD x 0:=fun x hx=>J2d (by omega);have g2:(l ++ [l.getD b 0]).getD N 0=l.getD b 0:=by
  have:=J2c (a:=l) (y:=l.getD b 0);rwa [L] at this
 have mb:l.getD b 0∈l:=by rw [getD_eq_getElem?_getD,List.getElem?_eq_getElem (by omega)];exact getElem_mem _
 have R:Rep (N + 1) E (l ++ [l.getD b 0]):=by
  refine ⟨by rw [length_append,L];rfl,fun v hv=>?_,fun x hx=>?_,fun p hp=>?_,fun S hS x hx=>?_⟩
  ·have hv:v∈l:=by
    rcases mem_append.mp hv with q | q
    ·exact q
    ·rw [mem_singleton.mp q];exact mb
   have e:=r.idem v hv;rw [getElem?_append_left (List.getElem?_eq_some_iff.mp e).1];exact e
  ·by_cases c:x < N
   ·rw [g1 x c];exact r.le x c
   ·have e:x=N:=by omega
    rw [e,g2];have:=r.le b hb;omega
  ·rcases hE p hp with q | rfl | rfl
   ·rw [g1 _ (hF p q).1,g1 _ (hF p q).2];exact r.eq p q
   ·rw [g2,g1 b hb]
   ·rw [g1 z hz,g2];exact zb
  ·obtain ⟨w1,w2⟩:=hE2 S hS;by_cases c:x < N
   ·rw [g1 x c];exact r.cl S w1 x c
   ·have e:x=N:=by omega
    rw [e,g2,w2];exact r.cl S w1 b hb
 refine ⟨R,?_⟩;have p:(fixL (l ++ [l.getD b 0])).Perm (fixL l):=by
  refine (perm_ext_iff_of_nodup (Jo _) (Jo _)).mpr fun x=>?_;rw [R.fix,r.fix];constructor
  ·rintro ⟨h1,h2⟩;by_cases c:x < N
   ·rw [g1 x c] at h2;exact ⟨c,h2⟩
   ·have e:x=N:=by omega
    rw [e,g2] at h2;have:=r.le b hb;omega
  ·rintro ⟨h1,h2⟩;exact ⟨by omega,by rw [g1 x h1];exact h2⟩
 exact p.length_eq
theorem snoc_of {l:List Nat} (h:l≠[]):∃ a z,l=a ++ [z]:=⟨l.dropLast,l.getLast h,(List.dropLast_concat_getLast h).symm⟩
theorem gap_ins {u v:List Nat} {n:Nat} (io:IsO (u ++ v)) (hn:(u ++ v).length=n):cntG2 (u ++ n :: v)=cntG2 (u ++ v) + 1\/cntG2 (u ++ v)=cntG2 (u ++ n :: v) + 1:=by
 have luv:u.length + v.length=n:=by rw [<- length_append];exact hn
 have l':(u ++ n :: v).length=n + 1:=by rw [length_append,length_cons];omega
 have hE:=gap_lt io;rw [hn] at hE;have rE:=J1a hE;obtain ⟨Ai,α,eA⟩:=snoc_of (l:=0 :: u.map (· + 1)) (by simp);have lA:Ai.length=u.length:=by
  have:=congrArg List.length eA;rw [length_cons,length_map,length_append,List.length_singleton] at this;omega
 unfold cntG2;rw [l',hn]
 match v,io,hn,luv,l' with
 | [],io,hn,luv,l' =>
  refine .inl ?_;rw [append_nil] at *;have e:gapE (u ++ [n])=gapE u ++ [(n + 1,n + 1)]:=by
   unfold gapE gapA gapB;rw [map_append,l',hn,<- List.cons_append,zip_append (by simp)];rfl
  obtain ⟨R,c⟩:=rep_alone rE hE;unfold cntF;rw [e,<- c]
  congr 2
  have hE':∀ p∈gapE u ++ [(n + 1,n + 1)],p.1 < n + 1 + 1/\p.2 < n + 1 + 1:=fun p hp=>by
   rcases mem_append.mp hp with q | q
   ·have:=hE p q;omega
   ·rw [mem_singleton.mp q];exact ⟨Nat.lt_succ_self _,Nat.lt_succ_self _⟩
  exact (J1a hE').uni R (R.eq) (fun p hp=>(J1a hE').eq p hp)
 | β :: v1,io,hn,luv,l' =>
  obtain ⟨Vi,z,eV⟩:=snoc_of (l:=(β :: v1).map (· + 1)) (by simp);have lV:Vi.length=v1.length:=by
   have:=congrArg List.length eV;rw [length_map,length_cons,length_append,List.length_singleton] at this;omega
  have eAA:gapA (u ++ β :: v1)=Ai ++ [α] ++ (Vi ++ [z]):=by
   unfold gapA;rw [map_append,<- List.cons_append,eA,eV]
  have eBB:gapB (u ++ β :: v1)=u ++ [β] ++ (v1 ++ [n]):=by
   unfold gapB;rw [hn];simp
  have eE:gapE (u ++ β :: v1)=Ai.zip u ++ [(α,β)] ++ (Vi.zip v1 ++ [(z,n)]):=by
   unfold gapE;rw [eAA,eBB,zip_append (by simp [lA]),zip_append lA,zip_append lV];rfl
  have eE':gapE (u ++ n :: β :: v1)=Ai.zip u ++ [(α,n)] ++ ((n + 1,β) :: (Vi.zip v1 ++ [(z,n + 1)])):=by
   have a1:gapA (u ++ n :: β :: v1)=Ai ++ [α] ++ ((n + 1) :: (Vi ++ [z])):=by
    unfold gapA;rw [map_append,<- List.cons_append,eA,map_cons,eV]
   have a2:gapB (u ++ n :: β :: v1)=u ++ [n] ++ (β :: (v1 ++ [n + 1])):=by
    unfold gapB;rw [l'];simp
   unfold gapE;rw [a1,a2,zip_append (by simp [lA]),zip_append lA,List.zip_cons_cons (as:=Vi ++ [z]),zip_append lV];rfl
  have eZ:(Ai ++ Vi).zip (u ++ v1)=Ai.zip u ++ Vi.zip v1:=zip_append lA;have pA:(α :: z :: (Ai ++ Vi)).Perm (List.range (n + 1)):=by
   have:=gapA_perm io;rw [eAA,hn] at this;refine List.Perm.trans ?_ this;have q1:(α :: z :: (Ai ++ Vi)).Perm (α :: (Ai ++ (Vi ++ [z]))):=List.Perm.cons α (by rw [<- List.append_assoc];exact (List.perm_append_singleton z (Ai ++ Vi)).symm);have q2:(Ai ++ α :: (Vi ++ [z])).Perm (α :: (Ai ++ (Vi ++ [z]))):=perm_middle;rw [List.append_assoc];exact q1.trans q2.symm
  have pB:(β :: n :: (u ++ v1)).Perm (List.range (n + 1)):=by
   have:=gapB_perm io;rw [eBB,hn] at this;refine List.Perm.trans ?_ this;have q1:(β :: n :: (u ++ v1)).Perm (β :: (u ++ (v1 ++ [n]))):=List.Perm.cons β (by rw [<- List.append_assoc];exact (List.perm_append_singleton n (u ++ v1)).symm);have q2:(u ++ β :: (v1 ++ [n])).Perm (β :: (u ++ (v1 ++ [n]))):=perm_middle;rw [List.append_assoc];exact q1.trans q2.symm
  have sw:=swap_par (A0:=Ai ++ Vi) (B0:=u ++ v1) (by rw [length_append,length_append,lA,lV]) pA pB;rw [eZ] at sw;have c1:cntF (gapE (u ++ β :: v1)) (n + 1)=cntF (Ai.zip u ++ Vi.zip v1 ++ [(α,β),(z,n)]) (n + 1):=by
   unfold cntF;rw [repF_same hE (qs:=Ai.zip u ++ Vi.zip v1 ++ [(α,β),(z,n)]) fun p=>?_];rw [eE];simp only [mem_append,mem_cons,not_mem_nil,or_false];constructor
   ·rintro ((h | h) | (h | h)) <;> simp [h]
   ·rintro ((h | h) | (h | h)) <;> simp [h]
  have inA:∀ x,x∈α :: z :: (Ai ++ Vi)↔x < n + 1:=fun x=>pA.mem_iff.trans mem_range;have inB:∀ x,x∈β :: n :: (u ++ v1)↔x < n + 1:=fun x=>pB.mem_iff.trans mem_range;have hα:α < n + 1:=(inA α).mp (mem_cons_self ..);have hz:z < n + 1:=(inA z).mp (mem_cons_of_mem _ (mem_cons_self ..));have hβ:β < n + 1:=(inB β).mp (mem_cons_self ..);have hF:∀ p∈Ai.zip u ++ Vi.zip v1 ++ [(α,n),(z,β)],p.1 < n + 1/\p.2 < n + 1:=fun p hp=>by
   rcases mem_append.mp hp with q | q
   ·rw [<- eZ] at q;exact ⟨(inA _).mp (mem_cons_of_mem _ (mem_cons_of_mem _ (of_mem_zip q).1)),(inB _).mp (mem_cons_of_mem _ (mem_cons_of_mem _ (of_mem_zip q).2))⟩
   ·simp only [mem_cons,not_mem_nil,or_false] at q;rcases q with rfl | rfl
    ·exact ⟨hα,Nat.lt_succ_self _⟩
    ·exact ⟨hz,hβ⟩
  have rF:=J1a hF;obtain ⟨R,c⟩:=rep_between (E:=gapE (u ++ n :: β :: v1)) rF hF hβ hz (rF.eq (z,β) (by simp)) (fun p hp=>by
   rw [eE'] at hp;simp only [mem_append,mem_cons,not_mem_nil,or_false] at hp ⊢;rcases hp with (h | h) | (h | (h | h)) <;> simp [h]) (fun S hS=>by
   have sN:S (n + 1)↔S β:=hS (n + 1,β) (by rw [eE'];simp);have sz:S z↔S (n + 1):=hS (z,n + 1) (by rw [eE'];simp);refine ⟨fun p hp=>?_,sN⟩;simp only [mem_append,mem_cons,not_mem_nil,or_false] at hp;rcases hp with (h | h) | (h | h)
   ·exact hS p (by rw [eE'];simp [h])
   ·exact hS p (by rw [eE'];simp [h])
   ·exact hS p (by rw [eE'];simp [h])
   ·rw [h];exact sz.trans sN)
  have io':IsO (u ++ n :: β :: v1):=by
   unfold IsO;rw [l',range_succ];refine perm_middle.trans ?_;have:=io;unfold IsO at this;rw [hn] at this;exact (this.cons n).trans (List.perm_append_singleton n _).symm
  have hE':=gap_lt io';rw [l'] at hE';have c2:cntF (gapE (u ++ n :: β :: v1)) (n + 1 + 1)=cntF (Ai.zip u ++ Vi.zip v1 ++ [(α,n),(z,β)]) (n + 1):=by
   unfold cntF;rw [<- c]
   congr 2
   exact (J1a hE').uni R R.eq (fun p hp=>(J1a hE').eq p hp)
  rw [c1,c2];rcases sw with q | q
  ·exact .inr q
  ·exact .inl q
theorem gap_par:∀ (n:Nat) (os:List Nat),IsO os->os.length=n->cntG2 os % 2=(n + 1) % 2
 | 0,os,io,hn=>by
  obtain rfl:os=[]:=List.length_eq_zero_iff.mp hn;rfl
 | n + 1,os,io,hn=>by
  have hm:n∈os:=io.mem (by omega);obtain ⟨u,v,rfl⟩:=List.append_of_mem hm;have pr:(u ++ v).Perm (List.range n):=by
   have p1:(u ++ n :: v).Perm (List.range (n + 1)):=by have:=io;unfold IsO at this;rwa [hn] at this
   rw [range_succ] at p1;have p2:=(perm_middle (a:=n) (l₁:=u) (l₂:=v)).symm.trans (p1.trans (List.perm_append_singleton n (List.range n)));exact List.Perm.cons_inv p2
  obtain ⟨io2,l2⟩:=isO_perm pr;have ih:=gap_par n (u ++ v) io2 l2;rcases gap_ins io2 l2 with q | q <;> omega
end Rl
namespace Rl
theorem J2h:∀ (row:List Nat) (p:Nat × Nat),p∈J1v row↔∃ i,i + 1 < row.length/\p=(2 * row.getD i 0 + 1,2 * row.getD (i + 1) 0)
 | [],p=>⟨fun h=>(nomatch h),fun ⟨i,h,_⟩=>absurd h (by simp)⟩
 | [a],p=>⟨fun h=>(nomatch h),fun ⟨i,h,_⟩=>absurd h (by simp)⟩
 | a :: b :: r,p=>by
  show p∈(2 * a + 1,2 * b) :: J1v (b :: r)↔_;rw [mem_cons,J2h (b :: r)];constructor
  ·rintro (rfl | ⟨i,h,rfl⟩)
   ·exact ⟨0,by simp,rfl⟩
   ·exact ⟨i + 1,by simpa using h,rfl⟩
  ·rintro ⟨i,h,rfl⟩
   match i with
   | 0=>exact .inl rfl
   | i + 1=>exact .inr ⟨i,by simpa using h,rfl⟩
theorem J13 {os:List Nat} (io:IsO os) (h1:1<=os.length):Rep (2 * os.length) (Jx os) (Jc os):=J1a (J29 io h1)
theorem J26 {n i:Nat} (h:i < n):(List.range n).getD i 0=i:=by rw [getD_eq_getElem?_getD,getElem?_range h];rfl
theorem meets_mem {os:List Nat} (p:Nat × Nat):p∈Jx os↔(∃ i,i + 1 < os.length/\p=(2 * i + 1,2 * (i + 1)))\/(∃ i,i + 1 < os.length/\p=(2 * os.getD i 0 + 1,2 * os.getD (i + 1) 0))\/p=(0,2 * os.getD 0 0)\/p=(2 * (os.length - 1) + 1,2 * os.getD (os.length - 1) 0 + 1):=by
 unfold Jx;rw [mem_append,mem_append,J2h,J2h,length_range];have e:(∃ i,i + 1 < os.length/\p=(2 * (List.range os.length).getD i 0 + 1,2 * (List.range os.length).getD (i + 1) 0))↔∃ i,i + 1 < os.length/\p=(2 * i + 1,2 * (i + 1)):=by
  constructor
  ·rintro ⟨i,h,e⟩;rw [J26 (by omega),J26 h] at e;exact ⟨i,h,e⟩
  ·rintro ⟨i,h,e⟩;exact ⟨i,h,by rw [J26 (by omega),J26 h];exact e⟩
 rw [e];simp only [mem_cons,not_mem_nil,or_false];constructor
 ·rintro ((h | h) | h | h)
  ·exact .inl h
  ·exact .inr (.inl h)
  ·exact .inr (.inr (.inl h))
  ·exact .inr (.inr (.inr h))
 ·rintro (h | h | h | h)
  ·exact .inl (.inl h)
  ·exact .inl (.inr h)
  ·exact .inr (.inl h)
  ·exact .inr (.inr h)
theorem gap_mem {os:List Nat} (p:Nat × Nat):p∈gapE os↔∃ i,i<=os.length/\p=((gapA os).getD i 0,(gapB os).getD i 0):=by
 have lA:(gapA os).length=os.length + 1:=by unfold gapA;rw [length_cons,length_map]
 have lB:(gapB os).length=os.length + 1:=by unfold gapB;rw [length_append];rfl
 unfold gapE;constructor
 ·intro h;obtain ⟨i,hi,e⟩:=List.getElem_of_mem h;rw [List.length_zip,lA,lB] at hi;rw [List.getElem_zip] at e;refine ⟨i,by omega,?_⟩;rw [<- e,getD_eq_getElem?_getD,List.getElem?_eq_getElem (by omega),getD_eq_getElem?_getD,List.getElem?_eq_getElem (by omega)];rfl
 ·rintro ⟨i,hi,rfl⟩;have hz:i < ((gapA os).zip (gapB os)).length:=by rw [List.length_zip,lA,lB];omega
  have:=getElem_mem hz;rw [List.getElem_zip] at this;rw [getD_eq_getElem?_getD,List.getElem?_eq_getElem (by omega),getD_eq_getElem?_getD,List.getElem?_eq_getElem (by omega)];exact this
theorem gapA_at {os:List Nat} {i:Nat} (h:i < os.length):(gapA os).getD (i + 1) 0=os.getD i 0 + 1:=by
 show (os.map (· + 1)).getD i 0=_;exact getD_map h
theorem gapB_at {os:List Nat} {i:Nat} (h:i < os.length):(gapB os).getD i 0=os.getD i 0:=J2d h
theorem gapB_end {os:List Nat}:(gapB os).getD os.length 0=os.length:=J2c
theorem ends_gaps {os:List Nat} (io:IsO os) (h1:1<=os.length):(fixL (Jc os)).length=cntG2 os:=by
 have rE:=J13 io h1;have rG:=J1a (gap_lt io);have og:∀ i,i < os.length->os.getD i 0 < os.length:=fun i hi=>io.lt _ (mem_of_getElem? (J1j hi));obtain ⟨n,hn⟩:∃ n,n=os.length:=⟨_,rfl⟩;obtain ⟨lE,hlE⟩:∃ l,l=Jc os:=⟨_,rfl⟩;obtain ⟨lG,hlG⟩:∃ l,l=repF (gapE os) (os.length + 1):=⟨_,rfl⟩;unfold cntG2 cntF;rw [<- hlE] at rE ⊢;rw [<- hlG] at rG ⊢;rw [<- hn] at rE rG og h1;have em:=fun p=>meets_mem (os:=os) p;have gm:=fun p=>gap_mem (os:=os) p;rw [<- hn] at em gm;obtain ⟨g,hg⟩:∃ g:Nat->Nat,g=fun x=>(x + 1) / 2:=⟨_,rfl⟩;obtain ⟨s,hs⟩:∃ s:Nat->Nat,s=fun i=>if i < n then 2 * i else 2 * n - 1:=⟨_,rfl⟩
 have g0:∀ i,g (2 * i)=i:=fun i=>by rw [hg];show (2 * i + 1) / 2=i;omega
 have g1:∀ i,g (2 * i + 1)=i + 1:=fun i=>by rw [hg];show (2 * i + 1 + 1) / 2=i + 1;omega
 have gs:∀ i,i < n + 1->g (s i)=i:=fun i hi=>by
  rw [hg,hs];show ((if i < n then 2 * i else 2 * n - 1) + 1) / 2=i;split <;> omega
 have sl:∀ i,i < n + 1->s i < 2 * n:=fun i hi=>by
  rw [hs];show (if i < n then 2 * i else 2 * n - 1) < 2 * n;split <;> omega
 have gl:∀ x,x < 2 * n->g x < n + 1:=fun x hx=>by rw [hg];show (x + 1) / 2 < n + 1;omega
 have up:∀ x,x < 2 * n->lG.getD (g x) 0=lG.getD (g (lE.getD x 0)) 0:=fun x hx=>by
  refine ((rE.cl (fun y=>lG.getD (g x) 0=lG.getD (g y) 0) (fun p hp=>?_) x hx).mp rfl);have key:lG.getD (g p.1) 0=lG.getD (g p.2) 0:=by
   rcases (em p).mp hp with ⟨i,hi,rfl⟩ | ⟨i,hi,rfl⟩ | rfl | rfl
   ·rw [g1,g0]
   ·rw [g1,g0];refine rG.eq (os.getD i 0 + 1,os.getD (i + 1) 0) ((gm _).mpr ⟨i + 1,by omega,?_⟩);rw [gapA_at (by omega),gapB_at (by omega)]
   ·rw [g0,show g 0=0 from g0 0];refine rG.eq (0,os.getD 0 0) ((gm _).mpr ⟨0,by omega,?_⟩);rw [gapB_at (by omega)];rfl
   ·rw [g1,g1,show n - 1 + 1=n by omega];refine (rG.eq (os.getD (n - 1) 0 + 1,n) ((gm _).mpr ⟨n,Nat.le_refl _,?_⟩)).symm;have a:=gapA_at (os:=os) (i:=n - 1) (by omega);rw [show n - 1 + 1=n by omega] at a;have b:=gapB_end (os:=os);rw [<- hn] at b;rw [a,b]
  exact ⟨fun h=>h.trans key,fun h=>h.trans key.symm⟩
 have es:∀ x,x < 2 * n->lE.getD x 0=lE.getD (s (g x)) 0:=fun x hx=>by
  rcases Nat.mod_two_eq_zero_or_one x with e | e
  ·obtain ⟨i,rfl⟩:∃ i,x=2 * i:=⟨x / 2,by omega⟩;rw [g0,hs];show _=lE.getD (if i < n then 2 * i else 2 * n - 1) 0;rw [if_pos (by omega)]
  ·obtain ⟨i,rfl⟩:∃ i,x=2 * i + 1:=⟨x / 2,by omega⟩;rw [g1,hs];show _=lE.getD (if i + 1 < n then 2 * (i + 1) else 2 * n - 1) 0;by_cases c:i + 1 < n
   ·rw [if_pos c];exact rE.eq (2 * i + 1,2 * (i + 1)) ((em _).mpr (.inl ⟨i,c,rfl⟩))
   ·rw [if_neg c,show 2 * n - 1=2 * i + 1 by omega]
 have dn:∀ i,i < n + 1->lE.getD (s i) 0=lE.getD (s (lG.getD i 0)) 0:=fun i hi=>by
  refine ((rG.cl (fun y=>lE.getD (s i) 0=lE.getD (s y) 0) (fun p hp=>?_) i hi).mp rfl);have s0:∀ j,j < n->s j=2 * j:=fun j hj=>by rw [hs];show (if j < n then 2 * j else 2 * n - 1)=2 * j;rw [if_pos hj]
  have sE:s n=2 * (n - 1) + 1:=by rw [hs];show (if n < n then 2 * n else 2 * n - 1)=_;rw [if_neg (Nat.lt_irrefl _)];omega
  have s1:∀ j,j < n->lE.getD (s (j + 1)) 0=lE.getD (2 * j + 1) 0:=fun j hj=>by
   have:=es (2 * j + 1) (by omega);rw [g1] at this;exact this.symm
  have key:lE.getD (s p.1) 0=lE.getD (s p.2) 0:=by
   obtain ⟨j,hj,rfl⟩:=(gm p).mp hp
   match j with
   | 0 =>
    rw [gapB_at (by omega),s0 _ (og 0 (by omega))];show lE.getD (s 0) 0=_;rw [s0 0 (by omega)];exact rE.eq (0,2 * os.getD 0 0) ((em _).mpr (.inr (.inr (.inl rfl))))
   | j + 1 =>
    rw [gapA_at (by omega),s1 _ (og j (by omega))];by_cases c:j + 1 < n
    ·rw [gapB_at (by omega),s0 _ (og (j + 1) c)];exact rE.eq (2 * os.getD j 0 + 1,2 * os.getD (j + 1) 0) ((em _).mpr (.inr (.inl ⟨j,c,rfl⟩)))
    ·have e:j + 1=os.length:=by omega
     rw [e,gapB_end,<- hn,sE];have e2:=rE.eq (2 * (n - 1) + 1,2 * os.getD (n - 1) 0 + 1) ((em _).mpr (.inr (.inr (.inr rfl))));rw [show n - 1=j by omega] at e2 ⊢;exact e2.symm
  exact ⟨fun h=>h.trans key,fun h=>h.trans key.symm⟩
 have pr:((fixL lE).map fun e=>lG.getD (g e) 0).Perm (fixL lG):=by
  refine (perm_ext_iff_of_nodup (List.nodup_iff_pairwise_ne.mpr (pairwise_map.mpr ?_)) (Jo _)).mpr fun i=>?_
  ·refine List.Pairwise.imp_of_mem (fun {a b} ha hb ne e=>ne ?_) (List.nodup_iff_pairwise_ne.mp (Jo lE));obtain ⟨a1,a2⟩:=(rE.fix a).mp ha;obtain ⟨b1,b2⟩:=(rE.fix b).mp hb;have q1:=(es a a1).trans (dn _ (gl a a1));have q2:=(es b b1).trans (dn _ (gl b b1));rw [a2] at q1;rw [b2] at q2;rw [q1,q2,e]
  ·rw [mem_map];constructor
   ·rintro ⟨e,he,rfl⟩;obtain ⟨a1,a2⟩:=(rE.fix e).mp he;exact (rG.fix _).mpr ⟨rG.lt (gl e a1),rG.self (gl e a1)⟩
   ·intro hi;obtain ⟨i1,i2⟩:=(rG.fix i).mp hi;refine ⟨lE.getD (s i) 0,(rE.fix _).mpr ⟨rE.lt (sl i i1),rE.self (sl i i1)⟩,?_⟩;have:=up (s i) (sl i i1);rw [gs i i1] at this;rw [<- this,i2]
 have:=pr.length_eq;rwa [length_map] at this
theorem corners_par {os:List Nat} (io:IsO os) (h1:1<=os.length):(fixL (Jc os)).length % 2=(os.length + 1) % 2:=by
 rw [ends_gaps io h1];exact gap_par os.length os io rfl
theorem corners_le {os:List Nat} (io:IsO os) (h1:1<=os.length):(fixL (Jc os)).length<=os.length + 1:=by
 rw [ends_gaps io h1];unfold cntG2 cntF;have r:=J1a (gap_lt io);have:(fixL (repF (gapE os) (os.length + 1))).length<=(List.range (os.length + 1)).length:=(Jo _).length_le_of_subset fun x hx=>mem_range.mpr ((r.fix x).mp hx).1;rwa [length_range] at this
end Rl
namespace Rl
open L2
theorem fix_filter {N:Nat} {ps:List (Nat × Nat)} {l:List Nat} (r:Rep N ps l):fixL l=(List.range N).filter fun x=>decide (l.getD x 0=x):=by
 have s1:(fixL l).Pairwise (· < ·):=J1d l 0;have s2:((List.range N).filter fun x=>decide (l.getD x 0=x)).Pairwise (· < ·):=List.pairwise_lt_range.sublist List.filter_sublist;have p:(fixL l).Perm ((List.range N).filter fun x=>decide (l.getD x 0=x)):=(perm_ext_iff_of_nodup (s1.imp fun h=>Nat.ne_of_lt h) (s2.imp fun h=>Nat.ne_of_lt h)).mpr fun x=>by
  rw [r.fix,mem_filter,mem_range,decide_eq_true_eq]
 exact List.Perm.eq_of_pairwise (le:=(· < ·)) (fun a b _ _ x y=>by omega) s1 s2 p
def belowL (l:List Nat) (e:Nat):Nat:=((List.range e).filter fun x=>decide (l.getD x 0=x)).length
theorem J2y (l:List Nat) (e:Nat):belowL l (e + 1)=belowL l e + if l.getD e 0=e then 1 else 0:=by
 unfold belowL;rw [range_succ,filter_append,length_append]
 congr 1
 by_cases c:l.getD e 0=e
 ·rw [if_pos c,List.filter_cons_of_pos (p:=fun x=>decide (l.getD x 0=x)) (decide_eq_true c)];rfl
 ·rw [if_neg c,List.filter_cons_of_neg (p:=fun x=>decide (l.getD x 0=x)) (by rw [decide_eq_true_eq];exact c)];rfl
theorem idx_below {N:Nat} {ps:List (Nat × Nat)} {l:List Nat} (r:Rep N ps l) {e:Nat} (he:e < N) (h:l.getD e 0=e):(fixL l).idxOf e=belowL l e:=by
 rw [fix_filter r];have e1:List.range N=List.range e ++ (e :: (range' (e + 1) (N - e - 1))):=by
  rw [List.range_eq_range',List.range_eq_range'];have:(e :: range' (e + 1) (N - e - 1))=range' e (N - e):=by
   rw [show N - e=(N - e - 1) + 1 by omega,List.range'_succ];rfl
  rw [this];have h2:=List.range'_append (s:=0) (m:=e) (n:=N - e) (step:=1);rw [Nat.one_mul,Nat.zero_add,show e + (N - e)=N by omega] at h2;exact h2.symm
 rw [e1,filter_append,List.filter_cons_of_pos (p:=fun x=>decide (l.getD x 0=x)) (decide_eq_true h),List.idxOf_append,if_neg (fun hm=>by
  have:=mem_range.mp (mem_filter.mp hm).1;omega),List.idxOf_cons_self,Nat.zero_add]
 rfl
theorem corn_at {os:List Nat} (io:IsO os) (h1:1<=os.length) {x:Nat} (hx:x < 2 * os.length):(cornO os).getD x 0=belowL (Jc os) ((Jc os).getD x 0):=by
 have r:=J13 io h1;unfold cornO;have hl:x < (Jc os).length:=by rw [r.len];exact hx
 rw [getD_eq_getElem?_getD,getElem?_map,List.getElem?_eq_getElem hl];show (fixL (Jc os)).idxOf _=_;have e:(Jc os)[x]=(Jc os).getD x 0:=by rw [getD_eq_getElem?_getD,List.getElem?_eq_getElem hl];rfl
 rw [e];exact idx_below r (r.lt hx) (r.self hx)
def dueV (c:List Nat) (mk:Nat->Bool) (N:Nat):List V:=(List.range N).map fun x=>if mk x=true then V.int (c.getD x 0:Nat) else V.non
def markF (mk:Nat->Bool) (x:Nat):Nat->Bool:=fun y=>mk y || decide (y=x)
def unm (mk:Nat->Bool) (N:Nat):Nat:=((List.range N).filter fun x=>!mk x).length
theorem Jz (c:List Nat) (mk:Nat->Bool) (N:Nat):(dueV c mk N).length=N:=by unfold dueV;rw [length_map,length_range]
theorem J2v (c:List Nat) (mk:Nat->Bool) {N x:Nat} (h:x < N):(dueV c mk N)[x]?=some (if mk x=true then V.int (c.getD x 0:Nat) else V.non):=by
 unfold dueV;rw [getElem?_map,getElem?_range h];rfl
theorem dueV_set (c:List Nat) (mk:Nat->Bool) {N x:Nat} (h:x < N):(dueV c mk N).set x (V.int (c.getD x 0:Nat))=dueV c (markF mk x) N:=by
 refine List.ext_getElem? fun i=>?_;by_cases hi:i < N
 ·rw [J2v c _ hi,List.getElem?_set];unfold markF;by_cases e:x=i
  ·subst e;rw [if_pos rfl,if_pos (by rw [Jz];exact h),if_pos (by simp)]
  ·rw [if_neg e,J2v c _ hi];have:(mk i || decide (i=x))=mk i:=by rw [decide_eq_false (fun z=>e z.symm),Bool.or_false]
   rw [this]
 ·rw [getElem?_eq_none (by rw [List.length_set,Jz];omega),getElem?_eq_none (by rw [Jz];omega)]
theorem J2u (c:List Nat) {mk mk':Nat->Bool} {N:Nat} (h:∀ x,x < N->mk x=mk' x):dueV c mk N=dueV c mk' N:=by
 unfold dueV;exact map_congr_left fun x hx=>by rw [h x (mem_range.mp hx)]
theorem unm_le (mk:Nat->Bool) (N:Nat):unm mk N<=N:=by
 unfold unm;have:=List.length_filter_le (fun x=>!mk x) (List.range N);rwa [length_range] at this
theorem unm_mark {mk:Nat->Bool}:∀ {N x:Nat},x < N->mk x=false->unm (markF mk x) N + 1=unm mk N
 | 0,x,h,_=>absurd h (Nat.not_lt_zero _)
 | N + 1,x,h,hm=>by
  have step:∀ f:Nat->Bool,unm f (N + 1)=unm f N + if f N=true then 0 else 1:=fun f=>by
   unfold unm;rw [range_succ,filter_append,length_append]
   congr 1
   cases c:f N with
   | true=>rw [if_pos rfl];simp [c]
   | false=>rw [if_neg Bool.false_ne_true];simp [c]
  rw [step,step];by_cases e:x=N
  ·subst e;have h1:unm (markF mk x) x=unm mk x:=by
    unfold unm
    congr 1
    refine List.filter_congr fun y hy=>?_;have:=mem_range.mp hy;unfold markF;rw [decide_eq_false (by omega),Bool.or_false]
   rw [h1,hm];unfold markF;rw [decide_eq_true rfl,Bool.or_true,if_pos rfl,if_neg Bool.false_ne_true]
  ·have ih:=unm_mark (N:=N) (x:=x) (by omega) hm;have h2:markF mk x N=mk N:=by
    unfold markF;rw [decide_eq_false (fun z=>e z.symm),Bool.or_false]
   rw [h2];omega
theorem marks_done {N:Nat} {ps:List (Nat × Nat)} {l:List Nat} (r:Rep N ps l) (hp:∀ p∈ps,p.1 < N/\p.2 < N) {mk:Nat->Bool} {e:Nat} (me:mk e=true) (hlo:∀ x,x < N->l.getD x 0 < e->mk x=true) (hup:∀ x,x < N->mk x=true->l.getD x 0<=e)
  (cl:∀ x,x < N->mk x=true->l.getD x 0=e->∀ p∈ps,(p.1=x->mk p.2=true)/\(p.2=x->mk p.1=true)):∀ x,x < N->mk x=decide (l.getD x 0 < e + 1):=by
 have step:∀ x,x < N->(mk x=true↔mk (l.getD x 0)=true):=r.cl (fun x=>mk x=true) fun p hm=>by
  obtain ⟨h1,h2⟩:=hp p hm;have eq:=r.eq p hm;constructor
  ·intro h;have:=hup _ h1 h;by_cases c:l.getD p.1 0=e
   ·exact (cl p.1 h1 h c p hm).1 rfl
   ·exact hlo _ h2 (by omega)
  ·intro h;have:=hup _ h2 h;by_cases c:l.getD p.2 0=e
   ·exact (cl p.2 h2 h c p hm).2 rfl
   ·exact hlo _ h1 (by omega)
 intro x hx;rw [Bool.eq_iff_iff,decide_eq_true_eq];constructor
 ·intro h;have:=hup x hx h;omega
 ·intro h;by_cases c:l.getD x 0=e
  ·rw [step x hx,c];exact me
  ·exact hlo x hx (by omega)
theorem J1n:∀ l:List Nat,(oddsO l).length=l.length / 2
 | []=>rfl
 | [_]=>by show 0=1 / 2;decide
 | a :: b :: r=>by
  show (oddsO r).length + 1=(r.length + 1 + 1) / 2;rw [J1n r];omega
theorem odds_at:∀ (l:List Nat) (i:Nat),(oddsO l).getD i 0=l.getD (2 * i + 1) 0
 | [],i=>by cases i <;> rfl
 | [_],i=>by cases i <;> rfl
 | a :: b :: r,0=>rfl
 | a :: b :: r,i + 1=>by
  show (oddsO r).getD i 0=(a :: b :: r).getD (2 * (i + 1) + 1) 0;rw [odds_at r i,show 2 * (i + 1) + 1=2 * i + 1 + 1 + 1 by omega];rfl
theorem step0_eq (l:List Nat):stepL 0 l=(List.range ((l.length + 1) / 2)).map fun k=>l.getD (2 * k) 0:=by
 unfold stepL;rw [Nat.sub_zero,List.filterMap_map];have:∀ m,m<=(l.length + 1) / 2->(List.range m).filterMap ((fun i=>l[i]?) ∘ fun k=>0 + 2 * k)=(List.range m).map fun k=>l.getD (2 * k) 0:=fun m=>by
  induction m with
  | zero=>exact fun _=>rfl
  | succ m ih =>
   intro h;rw [range_succ,List.filterMap_append,map_append,ih (by omega)]
   congr 1
   have hm:2 * m < l.length:=by omega
   have e:((fun i=>l[i]?) ∘ fun k=>0 + 2 * k) m=some (l.getD (2 * m) 0):=by
    show l[0 + 2 * m]?=_;rw [Nat.zero_add,getD_eq_getElem?_getD,List.getElem?_eq_getElem hm];rfl
   rw [List.filterMap_cons_some e];rfl
 exact this _ (Nat.le_refl _)
theorem J3j (xs:List Nat) (k:Nat):xs.count k=((List.range xs.length).filter fun i=>decide (xs.getD i 0=k)).length:=by
 have e:xs=(List.range xs.length).map fun i=>xs.getD i 0:=by
  refine ext_getElem (by rw [length_map,length_range]) fun i h1 h2=>?_;rw [getElem_map,List.getElem_range,getD_eq_getElem?_getD,List.getElem?_eq_getElem h1];rfl
 conv=>lhs;rw [e,List.count_eq_countP,List.countP_map,List.countP_eq_length_filter]
 congr 1
theorem sum_one {x:Nat}:∀ F,x < F->((List.range F).map fun k=>if x == k then 1 else 0).sum=1
 | 0,h=>absurd h (Nat.not_lt_zero _)
 | F + 1,h=>by
  rw [range_succ,map_append,List.sum_append,map_cons,map_nil,sum_cons,List.sum_nil];by_cases c:x=F
  ·subst c;have:∀ m,m<=x->((List.range m).map fun k=>if x == k then 1 else 0).sum=0:=fun m=>by
    induction m with
    | zero=>exact fun _=>rfl
    | succ m ih =>
     intro hm;rw [range_succ,map_append,List.sum_append,ih (by omega),map_cons,map_nil,sum_cons,List.sum_nil,if_neg (by rw [beq_iff_eq];omega)];rfl
   rw [this x (Nat.le_refl _),if_pos (by rw [beq_iff_eq])];omega
  ·rw [sum_one F (by omega),if_neg (by rw [beq_iff_eq];exact c)];omega
theorem J2j (F:Nat):∀ xs:List Nat,(∀ x∈xs,x < F)->((List.range F).map fun k=>xs.count k).sum=xs.length
 | [],_=>by
  have:∀ m,((List.range m).map fun k=>([]:List Nat).count k).sum=0:=fun m=>by
   induction m with
   | zero=>rfl
   | succ m ih=>rw [range_succ,map_append,List.sum_append,ih];rfl
  exact this F
 | x :: xs,h=>by
  have ih:=J2j F xs fun y hy=>h y (mem_cons_of_mem _ hy);have e:((List.range F).map fun k=>(x :: xs).count k)=(List.range F).map fun k=>xs.count k + if x == k then 1 else 0:=map_congr_left fun k _=>by rw [count_cons]
  rw [e];have add:∀ (r:List Nat) (f g:Nat->Nat),(r.map fun k=>f k + g k).sum=(r.map f).sum + (r.map g).sum:=fun r f g=>by
   induction r with
   | nil=>rfl
   | cons a r ihr=>rw [map_cons,map_cons,map_cons,sum_cons,sum_cons,sum_cons,ihr];omega
  rw [add,ih,sum_one F (h x (mem_cons_self ..)),length_cons]
theorem turns_sum {os:List Nat} (io:IsO os) (h1:1<=os.length):(turnsO os).sum=os.length - 1:=by
 have r:=J13 io h1;have lc:(cornO os).length=2 * os.length:=by unfold cornO;rw [length_map,r.len]
 rw [<- J1l io h1,J2j _ _ fun x hx=>?_,length_dropLast,J1n,lc]
 ·omega
 ·have h2:=J3c _ x (List.dropLast_subset _ hx);unfold cornO at h2;obtain ⟨v,hv,rfl⟩:=mem_map.mp h2;exact List.idxOf_lt_length_of_mem ((Jt r.idem v).mpr hv)
theorem turns_at {os:List Nat} (io:IsO os) (h1:1<=os.length) {k:Nat} (hk:k < (turnsO os).length):(turnsO os).getD k 0=((List.range (os.length - 1)).filter fun p=>decide ((cornO os).getD (2 * p + 1) 0=k)).length:=by
 have r:=J13 io h1;have lc:(cornO os).length=2 * os.length:=by unfold cornO;rw [length_map,r.len]
 have hk2:=hk;unfold turnsO at hk2;rw [length_map] at hk2;rw [<- J1l io h1,getD_eq_getElem?_getD,getElem?_map,getElem?_range hk2];show (oddsO (cornO os)).dropLast.count k=_;rw [J3j,length_dropLast,J1n,lc,show 2 * os.length / 2 - 1=os.length - 1 by omega]
 congr 1
 refine List.filter_congr fun p hp=>?_;have hp:=mem_range.mp hp;have e:(oddsO (cornO os)).dropLast.getD p 0=(cornO os).getD (2 * p + 1) 0:=by
  rw [<- odds_at,getD_eq_getElem?_getD,getD_eq_getElem?_getD,List.dropLast_eq_take,List.getElem?_take,if_pos (by rw [J1n,lc];omega)]
 rw [e]
end Rl
namespace L2
open PySem PySem.Spec PyProof.Rows
end L2
namespace R64
open PySem L2 Rl
def top (i:Nat):Stmt:=PySem.Challenge.pw_relaid_k64_corners_of_ends.main.body.getD i (.Pass ⟨0,0,0,0⟩)
abbrev sRefO:Stmt:=top 5
abbrev sRefOf:Stmt:=top 6
abbrev sRefP:Stmt:=top 8
abbrev sLeftE:Stmt:=top 9
abbrev sRightE:Stmt:=top 10
abbrev sMeetA:Stmt:=top 11
abbrev sMeets:Stmt:=top 12
abbrev sCornE:Stmt:=top 13
abbrev sCornS:Stmt:=top 14
abbrev sCornN:Stmt:=top 15
abbrev sCornT:Stmt:=top 16
abbrev J36:Stmt:=top 17
abbrev sCell:Stmt:=top 19
abbrev sOrder:Stmt:=top 20
abbrev J35:Stmt:=top 21
abbrev sMet:Stmt:=top 22
abbrev sDue:Stmt:=top 23
abbrev sLaw:Stmt:=top 24
abbrev iV (ns:List Int):List V:=ns.map V.int
abbrev nV (os:List Nat):List V:=(natI os).map V.int
def SqH (H:Hp) (p:Addr) (xs:List V):Prop:=H p=some (.lst xs)\/H p=some (.tup xs)
theorem SqH.sq {K:Frag} {H:Hp} {p:Addr} {xs:List V} (h:SqH H p xs):SqL K H p xs\/SqT K H p xs:=h.elim (fun h=>.inl (SqL.of h)) fun h=>.inr (SqT.of h)
theorem SqH.same {H H':Hp} {p:Addr} {xs:List V} (h:SqH H p xs) (s:Same H H'):SqH H' p xs:=h.elim (fun h=>.inl (s _ _ h)) fun h=>.inr (s _ _ h)
theorem J4 {H:Hp} {l:Addr} {o:HO} (h:H l=none):Same H (upd H l o):=fun b u e=>by rw [Jb (J3 e h)];exact e
theorem iteD {c A B:Prop} [Decidable c] (hc:¬ c) (h:B):if decide c=true then A else B:=by
 rw [decide_eq_false hc];exact iteF h
theorem iteDT {c A B:Prop} [Decidable c] (hc:c) (h:A):if decide c=true then A else B:=by
 rw [decide_eq_true hc];exact iteT h
theorem iteND {c A B:Prop} [Decidable c] (hc:¬ c) (h:A):if (!decide c)=true then A else B:=by
 rw [decide_eq_false hc];exact iteT h
theorem rd_tuple {K:Frag} {H:Hp} {p:Addr} {xs:List V} {Q:VK} (h:SqH H p xs) (k:∀ l H',Same H H'->H' l=some (.tup xs)->Q (.ref l) H'):rTup K [V.ref p] H Q:=by
 unfold rTup;rcases h with h | h
 ·exact ⟨p,xs,rfl,.inl ⟨SqL.of h,fun l hl=>k l _ (J4 hl) J0⟩⟩
 ·exact ⟨p,xs,rfl,.inr ⟨SqT.of h,k p H (Same.refl _) h⟩⟩
theorem vint_ne {i j:Int} (h:i≠j):¬ V.int i=V.int j:=fun e=>h (V.int.inj e)
theorem ixN_nat {n o:Nat} (h:o < n):ixN n (o:Int)=some o:=by
 unfold ixN;rw [if_pos (by omega),if_pos (by omega)];simp
theorem iV_get {ns:List Int} {j:Nat} (h:j < ns.length):(iV ns)[j]?=some (V.int (ns.getD j 0)):=by
 rw [getElem?_map,List.getElem?_eq_getElem h,getD_eq_getElem?_getD,List.getElem?_eq_getElem h];rfl
theorem nV_get {os:List Nat} {j:Nat} {y:V} (h:(nV os)[j]?=some y):j < os.length/\y=V.int (os.getD j 0:Nat)/\os.getD j 0∈os:=by
 have hj:j < os.length:=by
  have:=(List.getElem?_eq_some_iff.mp h).1;simpa [natI] using this
 refine ⟨hj,?_,?_⟩
 ·rw [getElem?_map] at h;unfold natI at h;rw [getElem?_map,List.getElem?_eq_getElem hj] at h;rw [getD_eq_getElem?_getD,List.getElem?_eq_getElem hj];exact (Option.some.inj h).symm
 ·rw [getD_eq_getElem?_getD,List.getElem?_eq_getElem hj];exact getElem_mem hj
structure TxtX (K:Frag) (mg:Str->Option Value) (x:Str) (CO:Addr):Prop where
 mg:mg x=some (.ref CO)
 ex:excIn K CO bmV "ValueError.__new__"=true
structure TxtR (mg:Str->Option Value):Prop where
 len:mg "len"=none
 sum:mg "sum"=none
 tuple:mg "tuple"=none
 list:mg "list"=none
 range:mg "range"=none
theorem nV_eq (row:List Nat):nV row=row.map fun (j:Nat)=>V.int (j:Int):=by
 show (row.map fun (n:Nat)=>(n:Int)).map V.int=_;rw [map_map];rfl
theorem J15 (row:List Nat):(nV row).length=row.length:=by rw [nV_eq,length_map]
theorem nV_at {row:List Nat} {i:Nat} (h:i < row.length):(nV row)[i]?=some (V.int (row.getD i 0:Nat)):=by
 rw [nV_eq,getElem?_map,getD_eq_getElem?_getD,List.getElem?_eq_getElem h];rfl
section
def tCut (t:TS):TS:=fun D σ H=>∃ post:St->Hp->Prop,t { D with nx:=post } σ H/\∀ σ' H',post σ' H'->D.nx σ' H'
theorem ps_cut {X:Cx} {st:Stmt} {t:TS} (h:PS X st t):PS X st (tCut t):=by
 intro pins s σ H D I ⟨post,q,m⟩;refine thn (h pins s σ H _ I q) fun f s' z=>?_
 cases f with
 | next=>obtain ⟨σ',H',I',z⟩:=z;exact ⟨σ',H',I',m σ' H' z⟩
 | brk=>exact z
 | cont=>exact z
 | ret u=>exact z
end
end R64
namespace R64
open PySem L2 Rl
section
variable {P:Program} {w:World} {K:Frag} {mg:Str->Option Value} {base:Heap}
theorem sIx_m1 (n d:Nat) (h:1<=n):HT.sIx n d (some (-1))=n - 1:=by
 show (if (-1:Int) < 0 then ((-1:Int) + (n:Int)).toNat else min (-1:Int).toNat n)=n - 1;rw [if_pos (by decide)];omega
theorem nV_app (xs ys:List Nat):nV (xs ++ ys)=nV xs ++ nV ys:=by rw [nV_eq,nV_eq,nV_eq,map_append]
theorem idx_nat (row:List Nat) (a:Nat):(natI row).idxOf (a:Int)=row.idxOf a:=by
 unfold natI
 induction row with
 | nil=>rfl
 | cons x r ih =>
  rw [map_cons,List.idxOf_cons,List.idxOf_cons,ih];have e:((x:Int) == (a:Int))=(x == a):=by
   rw [Bool.eq_iff_iff,beq_iff_eq,beq_iff_eq];exact Int.ofNat_inj
  rw [e]
theorem mem_nat {row:List Nat} {a:Nat} (h:a∈row):(a:Int)∈natI row:=mem_map.mpr ⟨a,h,rfl⟩
theorem insV (os:List Nat) (i y:Nat):(nV os).take i ++ V.int (y:Int) :: (nV os).drop i=nV (insAt os i y):=by
 show ((os.map fun (n:Nat)=>(n:Int)).map V.int).take i ++ V.int (y:Int) :: ((os.map fun (n:Nat)=>(n:Int)).map V.int).drop i=((insAt os i y).map fun (n:Nat)=>(n:Int)).map V.int;unfold insAt;simp only [map_append,map_cons,List.map_take,List.map_drop]
theorem ints_inj {a b:List Int} (h:iV a=iV b):a=b:=(List.map_inj_right fun x y e=>V.int.inj e).mp h
def spRefOE (CB:Addr):Sp:=fun vs H Q E=>∃ (q:Addr) (xs:List Int) (n:Nat),vs=[.ref q,.int n]/\SqH H q (iV xs)/\xs.length < 64/\n<=100/\(OrdX xs n->∀ H',Same H H'->Q .non H')/\(¬ OrdX xs n->∀ H',Same H H'->E (.ref CB) none H')
theorem scRefOE:FnScope ["order","pieces"] ["order","pieces"] (J8 sRefO):=fS
theorem ok_refOE {f  CB : Addr} {fd  : FuncData}  (F : Fun K "refuse_order" "refuse_order" sRefO f fd) (T : TxtR mg) (hsorted : mg "sorted" = none) (TB : TxtX K mg "BadOrder" CB)
 :
    FnOk P w K mg base (Exc1 P w) 1 f fd ["order", "pieces"] (spRefOE CB) := by
  refine F.okX scRefOE (fun vs H Q E h => ?_) (fun cdv A outer s H vs Q E hr h => ?_)
  · obtain ⟨q, xs, n, rfl, _⟩ := h
    rfl
  · obtain ⟨q, xs, n, rfl, hq, hx, hn, kg, kb⟩ := h
    have hu := hr.units0;refine ⟨_, (J9 (ps_if (Ji (op_neL hu) (Ja call_sorted (by rfl) hsorted boot_sorted (pa_cons (pv 0) J1)) (Jk (J11 rfl) (by rfl) T.list boot_list (pa_cons (Jk J3k (by rfl) T.range PyProof.Rows.boot_range (pa_cons (pv 1) J1)) J1)) (Jq _)) (J9 (ps_raise rfl TB.mg TB.ex)) Ju)), ?_⟩;refine ⟨_, rfl, q, xs, rfl, hq.sq, hx, fun l ns' hl h1 h2 => ?_⟩;refine ⟨_, rfl, (n : Int), rfl, fun r hr' => ⟨r, n, rfl, J0, by omega, fun l2 hl2 => ?_⟩⟩;have n1 : l ≠ r := J3 (H := upd H l (.lst (ns'.map V.int))) J0 hr';have s1 : Same (upd H l (.lst (ns'.map V.int))) (upd (upd (upd H l (.lst (ns'.map V.int))) r (.rng 0 n)) l2 (.lst (((List.range n).map fun (i : Nat) => (i : Int)).map V.int))) := (J4 hr').trans (J4 hl2);refine ⟨l, l2, _, _, rfl, rfl, SqL.of (s1 _ _ J0), SqL.of J0, Kin.ints _ _, _, rfl, ?_⟩;by_cases c : OrdX xs n
    · obtain ⟨os, rfl, hp⟩ := c
      have e := J31 hp h1 h2;exact iteNS (by rw [e]; rfl) (kg ⟨os, rfl, hp⟩ _ ((J4 hl).trans s1))
    · refine iteND (fun e => c ?_) (kb c _ ((J4 hl).trans s1))
      have e2 : ns' = natI (List.range n) := ints_inj e;rw [e2] at h1;exact ordX_of h1
def spRefOf (CB:Addr):Sp:=fun vs H Q E=>∃ (q:Addr) (xs:List Int) (a b:Int),vs=[.ref q,.int a,.int b]/\SqH H q (iV xs)/\xs.length < 64/\(OrdX xs xs.length/\a<=xs.length/\(xs.length:Int)<=b->∀ H',Same H H'->Q .non H')/\(¬ (OrdX xs xs.length/\a<=xs.length/\(xs.length:Int)<=b)->∀ H',Same H H'->E (.ref CB) none H')
theorem scRefOf:FnScope ["order","fewest","most"] ["order","fewest","most"] (J8 sRefOf):=fS
theorem ok_refOf {f fRO CB:Addr} {fd fdRO:FuncData}  (F:Fun K "refuse_order_of" "refuse_order_of" sRefOf f fd) (T:TxtR mg) (TB:TxtX K mg "BadOrder" CB)
  (GRO:FnOk P w K mg base (Exc1 P w) 1 fRO fdRO ["order","pieces"] (spRefOE CB)) (bRO:Binds K fdRO ["order","pieces"] []) (mRO:mg "refuse_order"=some (.ref fRO)) (kRO:keepIn K (.ref fRO)=true) :
  FnOk P w K mg base (Exc1 P w) 2 f fd ["order","fewest","most"] (spRefOf CB):=by
 refine F.okX scRefOf (fun vs H Q E h=>?_) (fun cdv A outer s H vs Q E hr h=>?_)
 ·obtain ⟨q,xs,a,b,rfl,_⟩:=h;rfl
 ·obtain ⟨q,xs,a,b,rfl,hq,hx,kg,kb⟩:=h;have hr1:Room 1 _:=rm hr;refine ⟨_,(J2 (ps_if (PW.pt (pw_or (Ji op_lt (Ja J6 (by rfl) T.len boot_len (pa_cons (pv 0) J1)) (pv 1) (Jq _)) (J38 (Ji op_gt (Ja J6 (by rfl) T.len boot_len (pa_cons (pv 0) J1)) (pv 2) (Jq _))))) (J9 (ps_raise rfl TB.mg TB.ex)) Ju)
   (J9 (J1b (Jd GRO hr1 rfl mRO kRO bRO .nil pass1 (pa_cons (pv 0) (pa_cons (Ja J6 (by rfl) T.len boot_len (pa_cons (pv 0) J1)) J1)))))),?_⟩
  have ll:(iV xs).length=xs.length:=length_map ..;refine ⟨_,rfl,q,_,rfl,hq.sq,_,rfl,_,_,rfl,rfl,_,rfl,?_⟩;by_cases c1:(xs.length:Int) < a
  ·refine iteDT (by rw [ll];exact c1) ?_;exact kb (fun z=>by omega) _ (Same.refl _)
  refine iteD (by rw [ll];exact c1) ?_;refine ⟨_,rfl,q,_,rfl,hq.sq,_,rfl,_,_,rfl,rfl,_,rfl,?_⟩;by_cases c2:b < (xs.length:Int)
  ·refine iteDT (by rw [ll];exact c2) ?_;exact kb (fun z=>by omega) _ (Same.refl _)
  refine iteD (by rw [ll];exact c2) ?_;refine ⟨_,rfl,_,rfl,q,_,rfl,hq.sq,q,xs,xs.length,(by rw [ll];rfl),hq,hx,by omega,fun c H' s'=>kg ⟨c,by omega,by omega⟩ H' s',fun c H' s'=>kb (fun z=>c z.1) H' s'⟩
theorem cut_last (row:List Nat) (h1:1<=row.length):cutV (nV row) none (some (-1))=nV row.dropLast:=by
 unfold cutV;rw [J15,HT.sIx_none,sIx_m1 _ _ h1,nV_eq,nV_eq,List.drop_zero,Nat.sub_zero,List.dropLast_eq_take,List.map_take]
theorem cut_from (row:List Nat) (n:Nat) (h:n<=row.length):cutV (nV row) (some (n:Int)) none=nV (row.drop n):=by
 unfold cutV;rw [J15,HT.sIx_nat,HT.sIx_none,Nat.min_eq_left h,nV_eq,nV_eq,List.map_drop,List.take_of_length_le (by rw [length_drop,length_map];exact Nat.le_refl _)]
def pairO (p:Nat × Nat):HO:=.tup [.int (p.1:Nat),.int (p.2:Nat)]
def PrsAt (H:Hp) (ys:List V) (ps:List (Nat × Nat)):Prop:=Refs (fun q i=>H q=some (pairO (ps.getD i (0,0)))) ys ps.length
theorem PrsAt.same {H H':Hp} {ys:List V} {ps:List (Nat × Nat)} (h:PrsAt H ys ps) (s:Same H H'):PrsAt H' ys ps:=Refs.mono h fun q i _ e=>s _ _ e
theorem PrsAt.app {H:Hp} {ys zs:List V} {ps qs:List (Nat × Nat)} (h:PrsAt H ys ps) (g:PrsAt H zs qs):PrsAt H (ys ++ zs) (ps ++ qs):=by
 refine ⟨by rw [length_append,length_append,h.len,g.len],fun i hi=>?_⟩;by_cases c:i < ps.length
 ·obtain ⟨q,e,hq⟩:=h.at_ i c;refine ⟨q,by rw [getElem?_append_left (by rw [h.len];exact c)];exact e,?_⟩;rw [hq,getD_eq_getElem?_getD,getD_eq_getElem?_getD,getElem?_append_left c]
 ·rw [length_append] at hi;obtain ⟨q,e,hq⟩:=g.at_ (i - ps.length) (by omega);refine ⟨q,by rw [getElem?_append_right (by rw [h.len];omega),h.len];exact e,?_⟩;rw [hq,getD_eq_getElem?_getD,getD_eq_getElem?_getD,getElem?_append_right (by omega)]
theorem stepL_map {α β:Type} (f:α->β) (a:Nat) (xs:List α):stepL a (xs.map f)=(stepL a xs).map f:=by
 unfold stepL;rw [List.map_filterMap,length_map]
 congr 1
 funext i
 rw [getElem?_map]
theorem count_nat (row:List Nat) (a:Nat):(natI row).count (a:Int)=row.count a:=by
 unfold natI
 induction row with
 | nil=>rfl
 | cons x r ih =>
  rw [map_cons,count_cons,count_cons,ih];have e:((x:Int) == (a:Int))=(x == a):=by
   rw [Bool.eq_iff_iff,beq_iff_eq,beq_iff_eq];exact Int.ofNat_inj
  rw [e]
theorem J1k:∀ row:List Nat,(J1v row).length=row.length - 1
 | []=>rfl
 | [_]=>rfl
 | a :: b :: r=>by
  show (J1v (b :: r)).length + 1=r.length + 1;rw [J1k (b :: r)];rfl
theorem along_at:∀ (row:List Nat) (i:Nat),i + 1 < row.length->(J1v row).getD i (0,0)=(2 * row.getD i 0 + 1,2 * row.getD (i + 1) 0)
 | [],i,h=>absurd h (Nat.not_lt_zero _)
 | [_],i,h=>absurd h (by simp)
 | a :: b :: r,0,_=>rfl
 | a :: b :: r,i + 1,h=>by
  show (J1v (b :: r)).getD i (0,0)=_;rw [along_at (b :: r) i (by simpa using h)];rfl
def spRefP:Sp:=fun vs H Q _=>∃ (q:Addr) (os:List Nat),vs=[.ref q]/\SqH H q (nV os)/\IsO os/\1<=os.length/\os.length<=24/\∀ H',Same H H'->Q .non H'
theorem scRefP:FnScope ["order"] ["order"] (J8 sRefP):=fS
theorem ok_refP {f fRF CB:Addr} {fd fdRF:FuncData}  (F:Fun K "refuse_pieces" "refuse_pieces" sRefP f fd) {t24:Tok} (hmp:mg "MOST_PIECES"=some (.int 24 t24))
  (GRF:FnOk P w K mg base (Exc1 P w) 2 fRF fdRF ["order","fewest","most"] (spRefOf CB)) (bRF:Binds K fdRF ["order","fewest","most"] []) (mRF:mg "refuse_order_of"=some (.ref fRF)) (kRF:keepIn K (.ref fRF)=true) :
  FnOk P w K mg base CX0 3 f fd ["order"] spRefP:=by
 refine F.ok scRefP (fun vs H Q E h=>?_) (fun cdv A outer s H vs Q E hr h=>?_)
 ·obtain ⟨q,os,rfl,_⟩:=h;rfl
 ·obtain ⟨q,os,rfl,hq,io,h1,h24,k⟩:=h;have hr2:Room 2 _:=rm hr;refine ⟨_,(J9 (J1b (Jd GRF hr2 rfl mRF kRF bRF .nil passF (pa_cons (pv 0) (pa_cons J7 (pa_cons (pe_glob (v:=.int 24) rfl hmp ⟨_,rfl⟩) J1)))))),?_⟩;refine ⟨_,rfl,q,natI os,1,24,rfl,hq,by rw [J18];omega,fun _ H' s'=>k H' s',fun c=>absurd ?_ c⟩;exact ⟨⟨os,rfl,by rw [J18];exact io⟩,by rw [J18];omega,by rw [J18];omega⟩
def spLeftE:Sp:=fun vs H Q _=>∃ p:Nat,vs=[.int (p:Nat)]/\p<=100/\Q (.int (2 * p:Nat)) H
theorem scLeftE:FnScope ["piece"] ["piece"] (J8 sLeftE):=fS
theorem ok_leftE {f   : Addr} {fd  : FuncData}  (F : Fun K "left_end" "left_end" sLeftE f fd) 
 :
    FnOk P w K mg base CX0 1 f fd ["piece"] spLeftE := by
  refine F.ok scLeftE (fun vs H Q E h => ?_) (fun cdv A outer s H vs Q E hr h => ?_)
  · obtain ⟨p, rfl, _⟩ := h
    rfl
  · obtain ⟨p, rfl, hp, k⟩ := h
    refine ⟨_, (J9 (Jn (pe_op J16 J7 (pv 0)))), ?_⟩;have e : ((2 * p : Nat) : Int) = 2 * (p : Int) := by omega
    rw [e] at k;exact ⟨_, rfl, _, _, rfl, rfl, .inl ⟨by decide, by decide⟩, k⟩
def J30:Sp:=fun vs H Q _=>∃ p:Nat,vs=[.int (p:Nat)]/\p<=100/\Q (.int (2 * p + 1:Nat)) H
theorem scRightE:FnScope ["piece"] ["piece"] (J8 sRightE):=fS
theorem ok_rightE {f   : Addr} {fd  : FuncData}  (F : Fun K "right_end" "right_end" sRightE f fd) 
 :
    FnOk P w K mg base CX0 1 f fd ["piece"] J30 := by
  refine F.ok scRightE (fun vs H Q E h => ?_) (fun cdv A outer s H vs Q E hr h => ?_)
  · obtain ⟨p, rfl, _⟩ := h
    rfl
  · obtain ⟨p, rfl, hp, k⟩ := h
    refine ⟨_, (J9 (Jn (pe_op J17 (pe_op J16 J7 (pv 0)) J7))), ?_⟩;have e : ((2 * p + 1 : Nat) : Int) = 2 * (p : Int) + 1 := by omega
    rw [e] at k;exact ⟨_, rfl, _, _, rfl, rfl, .inl ⟨by decide, by decide⟩, _, _, rfl, rfl, k⟩
def spMeetA:Sp:=fun vs H Q _=>∃ (q:Addr) (row:List Nat),vs=[.ref q]/\SqH H q (nV row)/\1<=row.length/\row.length<=24/\(∀ x∈row,x<=24)/\∀ l ys H',Same H H'->H' l=some (.lst ys)->PrsAt H' ys (J1v row)->Q (.ref l) H'
theorem scMeetA:FnScope ["row"] ["row"] (J8 sMeetA):=fS
theorem ok_meetA {f fLE fRE :Addr} {fd fdLE fdRE:FuncData}  (F:Fun K "meetings_along" "meetings_along" sMeetA f fd) (T:TxtR mg) (hzip:mg "zip"=none)
  (GLE:FnOk P w K mg base CX0 1 fLE fdLE ["piece"] spLeftE) (bLE:Binds K fdLE ["piece"] []) (mLE:mg "left_end"=some (.ref fLE)) (kLE:keepIn K (.ref fLE)=true)
  (GRE:FnOk P w K mg base CX0 1 fRE fdRE ["piece"] J30) (bRE:Binds K fdRE ["piece"] []) (mRE:mg "right_end"=some (.ref fRE)) (kRE:keepIn K (.ref fRE)=true) :
  FnOk P w K mg base CX0 2 f fd ["row"] spMeetA:=by
 refine F.ok scMeetA (fun vs H Q E h=>?_) (fun cdv A outer s H vs Q E hr h=>?_)
 ·obtain ⟨q,row,rfl,_⟩:=h;rfl
 ·obtain ⟨q,row,rfl,hq,h1,h24,hle,k⟩:=h;have hr1:Room 1 _:=rm hr;refine ⟨_,(J9 (Jn (pe_lc2 (caps:=[]) (js:=[]) rfl (pi_zip rfl hzip (pa_cons (J3a sl_seq (pv 0) po_none (po_some (pe_un un_neg J7))) (pa_cons (J3a sl_seq (pv 0) (po_some J7) po_none) J1))) rfl (fun _ _ _ _=>pts_nil) (fun C fp s H=>(J2r (pa_cons (Jd GRE hr1 rfl mRE kRE bRE .nil pass0 (pa_cons (pv 0) J1)) (pa_cons (Jd GLE hr1 rfl mLE kLE bLE .nil pass0 (pa_cons (pv 1) J1)) J1)))) (by decide +kernel) (by decide +kernel) (by decide +kernel) (by intro p hp;cases hp)))),?_⟩;have cl:=cut_last row h1;have cf:cutV (nV row) (some 1) none=nV (row.drop 1):=cut_from row 1 h1;have ll:(nV row.dropLast).length=row.length - 1:=by rw [J15,length_dropLast]
  have lt:(nV (row.drop 1)).length=(nV row.dropLast).length:=by rw [J15,ll,length_drop]
  have lz:(nV row.dropLast).length<=sizeLine:=by rw [ll];exact Nat.le_of_lt (Jg (by omega))
  have g1:∀ i (v:V),(nV row.dropLast)[i]?=some v->i + 1 < row.length/\v=V.int (row.getD i 0:Nat)/\row.getD i 0<=24:=fun i v e=>by
   obtain ⟨a,b,_⟩:=nV_get e;rw [length_dropLast] at a;have e2:row.dropLast.getD i 0=row.getD i 0:=by
    rw [getD_eq_getElem?_getD,getD_eq_getElem?_getD,List.dropLast_eq_take,List.getElem?_take,if_pos a]
   rw [e2] at b;refine ⟨by omega,b,hle _ ?_⟩;rw [getD_eq_getElem?_getD,List.getElem?_eq_getElem (show i < row.length by omega)];exact getElem_mem _
  have g2:∀ i (v:V),(nV (row.drop 1))[i]?=some v->v=V.int (row.getD (i + 1) 0:Nat)/\row.getD (i + 1) 0<=24:=fun i v e=>by
   obtain ⟨a,b,_⟩:=nV_get e;rw [length_drop] at a;have e2:(row.drop 1).getD i 0=row.getD (i + 1) 0:=by
    rw [getD_eq_getElem?_getD,getD_eq_getElem?_getD,List.getElem?_drop,Nat.add_comm 1 i]
   rw [e2] at b;refine ⟨b,hle _ ?_⟩;rw [getD_eq_getElem?_getD,List.getElem?_eq_getElem (show i + 1 < row.length by omega)];exact getElem_mem _
  have fin:∀ (ys:List V) (d:Addr) (H':Hp),Same H H'->H' d=some (.lst ys)->Refs (fun q i=>H' q=some (pairO (2 * row.getD i 0 + 1,2 * row.getD (i + 1) 0))) ys (nV row.dropLast).length->Q (.ref d) H':=fun ys d H' s' h' r=>by
   refine k d ys H' s' h' ⟨by rw [r.len,ll,J1k],fun i hi=>?_⟩;rw [J1k] at hi;rw [along_at row i (by omega)];exact r.at_ i (by omega)
  rcases hq with hL | hT
  ·refine ⟨_,rfl,_,rfl,_,rfl,.inl ⟨q,_,rfl,SqL.of hL,fun a ha=>?_⟩⟩;rw [cl];have s1:=J4 (o:=.lst (nV row.dropLast)) ha;refine ⟨_,rfl,_,rfl,.inl ⟨q,_,rfl,SqL.of (s1 _ _ hL),fun b hb=>?_⟩⟩;rw [cf];have s2:=J4 (o:=.lst (nV (row.drop 1))) hb;refine ⟨a,b,rfl,.inr ⟨⟨_,SqL.of (s2 _ _ J0)⟩,⟨_,SqL.of J0⟩,fun d hd=>lc_zipL _ _ (fun H q i=>H q=some (pairO (2 * row.getD i 0 + 1,2 * row.getD (i + 1) 0))) (SqL.of (s2 _ _ J0)) (SqL.of J0) lt lz hd (fun H H' q i kd nd e=>kd _ _ e nd) (fun i v z ev ez H3 Qe s3 hd3 ke=>?_) fun ys H3 s3 hd3 r=>fin ys d H3 (s1.trans (s2.trans s3)) hd3 r⟩⟩;obtain ⟨_,rfl,n1⟩:=g1 i v ev;obtain ⟨rfl,n2⟩:=g2 i z ez;obtain ⟨ys,hd3⟩:=hd3;refine ⟨_,rfl,_,rfl,by omega,_,rfl,_,rfl,by omega,(by show 2<=sizeLine;decide),fun p hp=>ke p _ (J4 hp) (J3 hd3 hp).symm J0⟩
  ·refine ⟨_,rfl,_,rfl,_,rfl,.inr ⟨q,_,rfl,SqT.of hT,?_,fun a ha=>?_⟩⟩
   ·rw [J15,sIx_m1 _ _ h1];omega
   rw [cl];have s1:=J4 (o:=.tup (nV row.dropLast)) ha;refine ⟨_,rfl,_,rfl,.inr ⟨q,_,rfl,SqT.of (s1 _ _ hT),?_,fun b hb=>?_⟩⟩
   ·rw [J15,show (1:Int)=((1:Nat):Int) from rfl,HT.sIx_nat];omega
   rw [cf];have s2:=J4 (o:=.tup (nV (row.drop 1))) hb;refine ⟨a,b,rfl,.inl ⟨⟨_,SqT.of (s2 _ _ J0)⟩,⟨_,SqT.of J0⟩,fun d hd=>lc_zipT _ _ (fun H q i=>H q=some (pairO (2 * row.getD i 0 + 1,2 * row.getD (i + 1) 0))) (SqT.of (s2 _ _ J0)) (SqT.of J0) lt lz hd (fun H H' q i kd nd e=>kd _ _ e nd) (fun i v z ev ez H3 Qe s3 hd3 ke=>?_) fun ys H3 s3 hd3 r=>fin ys d H3 (s1.trans (s2.trans s3)) hd3 r⟩⟩;obtain ⟨_,rfl,n1⟩:=g1 i v ev;obtain ⟨rfl,n2⟩:=g2 i z ez;obtain ⟨ys,hd3⟩:=hd3;refine ⟨_,rfl,_,rfl,by omega,_,rfl,_,rfl,by omega,(by show 2<=sizeLine;decide),fun p hp=>ke p _ (J4 hp) (J3 hd3 hp).symm J0⟩
def spMeets:Sp:=fun vs H Q _=>∃ (q:Addr) (os:List Nat),vs=[.ref q]/\SqH H q (nV os)/\IsO os/\1<=os.length/\os.length<=24/\∀ l ys H',Same H H'->H' l=some (.lst ys)->PrsAt H' ys (Jx os)->Q (.ref l) H'
theorem scMeets:FnScope ["order","last","outer"] ["order"] (J8 sMeets):=fS
theorem ok_meets {f fLE fRE fMA :Addr} {fd fdLE fdRE fdMA:FuncData}  (F:Fun K "meetings" "meetings" sMeets f fd) (T:TxtR mg)
  (GLE:FnOk P w K mg base CX0 1 fLE fdLE ["piece"] spLeftE) (bLE:Binds K fdLE ["piece"] []) (mLE:mg "left_end"=some (.ref fLE)) (kLE:keepIn K (.ref fLE)=true)
  (GRE:FnOk P w K mg base CX0 1 fRE fdRE ["piece"] J30) (bRE:Binds K fdRE ["piece"] []) (mRE:mg "right_end"=some (.ref fRE)) (kRE:keepIn K (.ref fRE)=true)
  (GMA:FnOk P w K mg base CX0 2 fMA fdMA ["row"] spMeetA) (bMA:Binds K fdMA ["row"] []) (mMA:mg "meetings_along"=some (.ref fMA)) (kMA:keepIn K (.ref fMA)=true) :
  FnOk P w K mg base CX0 3 f fd ["order"] spMeets:=by
 refine F.ok scMeets (fun vs H Q E h=>?_) (fun cdv A outer s H vs Q E hr h=>?_)
 ·obtain ⟨q,os,rfl,_⟩:=h;rfl
 ·obtain ⟨q,os,rfl,hq,io,h1,h24,k⟩:=h;have hr1:Room 1 _:=rm hr;have hr2:Room 2 _:=rm hr;refine ⟨_,(J2 (Jm (i:=1) scMeets.nd rfl (Or.inl rfl) (pe_op J3b (Ja J6 (by rfl) T.len boot_len (pa_cons (pv 0) J1)) J7))
   (J2 (Jm (i:=2) scMeets.nd rfl (Or.inl rfl) (J2s (pa_cons (J2r (pa_cons (Jd GLE hr1 rfl mLE kLE bLE .nil pass0 (pa_cons J7 J1)) (pa_cons (Jd GLE hr1 rfl mLE kLE bLE .nil pass0 (pa_cons (pe_ix ix_seq (pv 0) J7 (fun _ _=>rfl)) J1)) J1))) (pa_cons (J2r (pa_cons (Jd GRE hr1 rfl mRE kRE bRE .nil pass0 (pa_cons (pv 1) J1)) (pa_cons (Jd GRE hr1 rfl mRE kRE bRE .nil pass0 (pa_cons (pe_ix ix_seq (pv 0) (pv 1) (fun _ _=>rfl)) J1)) J1))) J1))))
   (J9 (Jn (pe_op op_cat (pe_op op_cat (Jd GMA hr2 rfl mMA kMA bMA .nil pass0 (pa_cons (Jk (J11 rfl) (by rfl) T.list boot_list (pa_cons (Jk J3k (by rfl) T.range PyProof.Rows.boot_range (pa_cons (Ja J6 (by rfl) T.len boot_len (pa_cons (pv 0) J1)) J1)) J1)) J1)) (Jd GMA hr2 rfl mMA kMA bMA .nil pass0 (pa_cons (pv 0) J1))) (pv 2)))))),?_⟩
  have ll:=J15 os;have hb:∀ x∈os,x<=24:=fun x hx=>by have:=io.lt x hx;omega
  have at_:∀ i,i < os.length->os.getD i 0<=24:=fun i h=>hb _ (by rw [getD_eq_getElem?_getD,List.getElem?_eq_getElem h];exact getElem_mem _)
  have ix:∀ (H':Hp) (i:Nat) (Qv:VK),Same H H'->i < os.length->Qv (V.int (os.getD i 0:Nat)) H'->rIx K (.ref q) (.int (i:Nat)) H' Qv:=fun H' i Qv s h z=>by
   rcases hq.same s with hL | hT
   ·exact .inl ⟨q,_,_,_,rfl,rfl,SqL.of hL,Js (nV_at h),z⟩
   ·exact .inr (.inl ⟨q,_,_,_,rfl,rfl,SqT.of hT,Js (nV_at h),z⟩)
  refine ⟨_,rfl,q,_,rfl,hq.sq,_,_,rfl,rfl,?_⟩;have e1:((nV os).length:Int) - 1=((os.length - 1:Nat):Int):=by rw [ll];omega
  dsimp only;rw [e1];refine ⟨0,rfl,by decide,_,rfl,ix H 0 _ (Same.refl _) h1 ⟨_,rfl,at_ 0 h1 |> (Nat.le_trans · (by decide)),(by show 2<=sizeLine;decide),fun p1 hp1=>?_⟩⟩;have s1:=J4 (o:=.tup [V.int ((2 * 0:Nat):Int),V.int ((2 * os.getD 0 0:Nat):Int)]) hp1;refine ⟨_,rfl,_,rfl,by omega,_,rfl,_,rfl,ix _ (os.length - 1) _ s1 (by omega) ⟨_,rfl,at_ _ (by omega) |> (Nat.le_trans · (by decide)),(by show 2<=sizeLine;decide),fun p2 hp2=>?_⟩⟩;have s2:=s1.trans (J4 (o:=.tup [V.int ((2 * (os.length - 1) + 1:Nat):Int),V.int ((2 * os.getD (os.length - 1) 0 + 1:Nat):Int)]) hp2);have hp1':=J4 (o:=.tup [V.int ((2 * (os.length - 1) + 1:Nat):Int),V.int ((2 * os.getD (os.length - 1) 0 + 1:Nat):Int)]) hp2 p1 _ J0;refine ⟨(by show 2<=sizeLine;decide),fun ol hol=>?_⟩;have s3:=s2.trans (J4 (o:=.lst [V.ref p1,V.ref p2]) hol);have PO:PrsAt _ [V.ref p1,V.ref p2] [(0,2 * os.getD 0 0),(2 * (os.length - 1) + 1,2 * os.getD (os.length - 1) 0 + 1)]:=⟨rfl,fun i hi=>by
   have hi:i=0\/i=1:=by have:i < 2:=hi;omega
   rcases hi with rfl | rfl
   ·exact ⟨p1,rfl,J4 (o:=.lst [V.ref p1,V.ref p2]) hol _ _ hp1'⟩
   ·exact ⟨p2,rfl,J4 (o:=.lst [V.ref p1,V.ref p2]) hol _ _ J0⟩⟩
  have hol':=J0 (H:=upd (upd H p1 (.tup [V.int ((2 * 0:Nat):Int),V.int ((2 * os.getD 0 0:Nat):Int)])) p2 (.tup [V.int ((2 * (os.length - 1) + 1:Nat):Int),V.int ((2 * os.getD (os.length - 1) 0 + 1:Nat):Int)])) (a:=ol) (o:=.lst [V.ref p1,V.ref p2]);generalize upd (upd (upd H p1 (.tup [V.int ((2 * 0:Nat):Int),V.int ((2 * os.getD 0 0:Nat):Int)])) p2 (.tup [V.int ((2 * (os.length - 1) + 1:Nat):Int),V.int ((2 * os.getD (os.length - 1) 0 + 1:Nat):Int)])) ol (.lst [V.ref p1,V.ref p2])=H3 at *;refine ⟨_,rfl,q,_,rfl,(hq.same s3).sq,_,rfl,fun r hr'=>⟨r,os.length,rfl,(by rw [<- ll];exact J0),by omega,fun rl hrl=>?_⟩⟩;have s4:=J4 (o:=.rng 0 ((nV os).length:Int)) hr';have s5:=s4.trans (J4 (o:=.lst (nV (List.range os.length))) hrl);refine ⟨rl,List.range os.length,rfl,.inl J0,by rw [length_range];exact h1,by rw [length_range];exact h24,fun x hx=>by have:=mem_range.mp hx;omega,fun l1 ys1 H5 s6 hl1 P1=>?_⟩;have s35:=s5.trans s6;refine ⟨_,rfl,q,os,rfl,hq.same (s3.trans s35),h1,h24,hb,fun l2 ys2 H6 s7 hl2 P2=>?_⟩;have L1:=P1.len;have L2:=P2.len;rw [J1k] at L1 L2;rw [length_range] at L1;refine ⟨l1,l2,_,_,rfl,rfl,s7 _ _ hl1,hl2,Nat.le_of_lt (Jg (by omega)),fun l3 hl3=>?_⟩;have s8:=J4 (o:=.lst (ys1 ++ ys2)) hl3;refine ⟨_,rfl,l3,ol,_,_,rfl,rfl,J0,(s35.trans (s7.trans s8)) _ _ hol',Nat.le_of_lt (Jg (by rw [length_append];show _ + 2<=1000;omega)),fun l4 hl4=>?_⟩;have s9:=J4 (o:=.lst (ys1 ++ ys2 ++ [V.ref p1,V.ref p2])) hl4;refine k l4 _ _ (s3.trans (s35.trans (s7.trans (s8.trans s9)))) J0 ?_;exact ((P1.same (s7.trans (s8.trans s9))).app (P2.same (s8.trans s9))).app (PO.same (s35.trans (s7.trans (s8.trans s9))))
def spCornE:Sp:=fun vs H Q _=>∃ (q:Addr) (os:List Nat),vs=[.ref q]/\SqH H q (nV os)/\IsO os/\1<=os.length/\os.length<=24/\∀ l H',Same H H'->H' l=some (.lst (nV (cornO os)))->Q (.ref l) H'
theorem scCornE:FnScope ["order","least","one","two","kept","gone","firsts"] ["order"] (J8 sCornE):=fS
theorem ok_cornE {f fME :Addr} {fd fdME:FuncData}  (F:Fun K "corners_by_end" "corners_by_end" sCornE f fd) (T:TxtR mg) (hmin:mg "min"=none) (hmax:mg "max"=none) (hsorted:mg "sorted"=none) (hset:mg "set"=none)
  (GME:FnOk P w K mg base CX0 3 fME fdME ["order"] spMeets) (bME:Binds K fdME ["order"] []) (mME:mg "meetings"=some (.ref fME)) (kME:keepIn K (.ref fME)=true) :
  FnOk P w K mg base CX0 4 f fd ["order"] spCornE:=by
 refine F.ok scCornE (fun vs H Q E h=>?_) (fun cdv A outer s H vs Q E hr h=>?_)
 ·obtain ⟨q,os,rfl,_⟩:=h;rfl
 ·obtain ⟨q,os,rfl,hq,io,h1,h24,k⟩:=h;have hr3:Room 3 _:=rm hr;refine ⟨_,(J2 (Jm (i:=1) scCornE.nd rfl (Or.inl rfl) (Jk (J11 rfl) (by rfl) T.list boot_list (pa_cons (Jk J3k (by rfl) T.range PyProof.Rows.boot_range (pa_cons (pe_op J16 J7 (Ja J6 (by rfl) T.len boot_len (pa_cons (pv 0) J1))) J1)) J1)))
   (J2 (J2o PassesOwn.never rfl (J2q (Jd GME hr3 rfl mME kME bME .nil pass0 (pa_cons (pv 0) J1))) (pg_tup rfl (J1f (Jv (i:=2) scCornE.nd rfl (Or.inl rfl)) (J1f (Jv (i:=3) scCornE.nd rfl (Or.inl rfl)) pgs_nil)))
    (J2 (Jm (i:=4) scCornE.nd rfl (Or.inr rfl) (Ja (call_min2 rfl) (by rfl) hmin PyProof.Rows.boot_min (pa_cons (pe_ix ix_list (pv 1) (pv 2) (fun _ _=>rfl)) (pa_cons (pe_ix ix_list (pv 1) (pv 3) (fun _ _=>rfl)) J1))))
    (J2 (Jm (i:=5) scCornE.nd rfl (Or.inr rfl) (Ja (call_max2 rfl) (by rfl) hmax boot_max (pa_cons (pe_ix ix_list (pv 1) (pv 2) (fun _ _=>rfl)) (pa_cons (pe_ix ix_list (pv 1) (pv 3) (fun _ _=>rfl)) J1))))
    (J9 (ps_lc (i:=1) (caps:=["kept","gone"]) (js:=[4,5]) scCornE.nd rfl (Or.inl rfl) rfl (J2q (pv 1)) rfl (fun _ _ _ _=>pts_nil) (fun C fp s H=>(pe_ifExp (Ji op_eq (pv 0) (pv 2) (Jq _)) (pv 1) (pv 0))) (by decide +kernel) (by decide +kernel) (by decide +kernel) (by intro p hp;simp only [mem_cons,not_mem_nil,or_false] at hp;rcases hp with rfl | rfl <;> rfl))))))
   (J2 (Jm (i:=6) scCornE.nd rfl (Or.inr rfl) (pe_sset rfl rfl hsorted rfl hset (pa_cons (pv 1) J1)))
   (J9 (Jn (pe_lc (caps:=["firsts"]) (js:=[6]) rfl (J2q (pv 1)) rfl (fun _ _ _ _=>pts_nil) (fun C fp s H=>(pe_bmK K PySem.F.plainAttrs_list PySem.F.slot_list_index PySem.F.type_list_index (mt_indexLK K) (pv 1) (pa_cons (pv 0) J1))) (by decide +kernel) (by decide +kernel) (by decide +kernel) (by intro p hp;simp only [mem_cons,not_mem_nil,or_false] at hp;rcases hp with rfl;rfl))))))),?_⟩
  have ll:=J15 os;obtain ⟨id0,il0⟩:=Jj io h1;refine ⟨_,rfl,q,_,rfl,hq.sq,_,_,rfl,rfl,.inl ⟨by decide,by decide⟩,?_⟩;have e1:(2:Int) * ((nV os).length:Int)=((2 * os.length:Nat):Int):=by rw [ll];omega
  dsimp only;rw [e1];refine ⟨_,rfl,fun r hr'=>⟨r,2 * os.length,rfl,J0,by omega,fun la hla=>?_⟩⟩;have s1:=J4 (o:=.rng 0 ((2 * os.length:Nat):Int)) hr';have s2:=s1.trans (J4 (o:=.lst (nV (List.range (2 * os.length)))) hla);have hla':=J0 (H:=upd H r (.rng 0 ((2 * os.length:Nat):Int))) (a:=la) (o:=.lst (nV (List.range (2 * os.length))));refine ⟨_,rfl,q,os,rfl,hq.same s2,io,h1,h24,fun ml ys H3 s3 hml P3=>?_⟩;have s13:=s2.trans s3;have hla3:=s3 _ _ hla';have ml_lt:=J29 io h1;have eL:∀ i,((Jx os).take i |>.foldl meet1 (List.range (2 * os.length))).length=2 * os.length:=fun i=>by
   have:=(J2e ((Jx os).take i) (List.range (2 * os.length)) (J1o _) fun p hp=>by rw [length_range];exact ml_lt p (List.mem_of_mem_take hp)).2;rw [this,length_range]
  refine ⟨ml,rfl,⟨_,SqL.of hml⟩,J3i (K:=K) (a:=ml) (xs:=ys) (fun i σ Hw=>∃ (la:Addr) (v2 v3 v4 v5:Option V),σ=[some (.ref q),some (.ref la),v2,v3,v4,v5,none]/\Hw la=some (.lst (nV (((Jx os).take i).foldl meet1 (List.range (2 * os.length)))))/\Same H3 Hw)
   ⟨la,_,_,_,_,rfl,hla3,Same.refl _⟩ (fun i σ Hw _ ⟨_,_,_,_,_,_,_,sw⟩=>SqL.of (sw _ _ hml)) ?_ ?_⟩
  ·rintro i v σ Hw hv ⟨la,v2,v3,v4,v5,rfl,hl,sw⟩;have hi:i < ys.length:=(List.getElem?_eq_some_iff.mp hv).1;have hi2:i < (Jx os).length:=by rw [<- P3.len];exact hi
   obtain ⟨pa,ea,hpa⟩:=P3.at_ i hi2;obtain rfl:V.ref pa=v:=Option.some.inj (ea.symm.trans hv);obtain ⟨pr,epr⟩:∃ pr,pr=(Jx os).getD i (0,0):=⟨_,rfl⟩;rw [<- epr] at hpa;have epr2:(Jx os)[i]?=some pr:=by rw [epr,getD_eq_getElem?_getD,List.getElem?_eq_getElem hi2];rfl
   have etk:((Jx os).take (i + 1)).foldl meet1 (List.range (2 * os.length))=meet1 (((Jx os).take i).foldl meet1 (List.range (2 * os.length))) pr:=by
    rw [List.take_succ,epr2,List.foldl_append];rfl
   have lt:=ml_lt pr (mem_of_getElem? epr2);have eLi:=eL i;rw [etk];generalize ((Jx os).take i).foldl meet1 (List.range (2 * os.length))=L at hl eLi ⊢;have mn:∀ x y:Nat,(if ((y:Nat):Int) < ((x:Nat):Int) then ((y:Nat):Int) else ((x:Nat):Int))=((min x y:Nat):Int):=fun x y=>by split <;> omega
   have mx:∀ x y:Nat,(if ((y:Nat):Int) > ((x:Nat):Int) then ((y:Nat):Int) else ((x:Nat):Int))=((max x y:Nat):Int):=fun x y=>by split <;> omega
   have g1:atI (nV L) ((pr.1:Nat):Int)=some (V.int (L.getD pr.1 0:Nat)):=Js (nV_at (by omega));have g2:atI (nV L) ((pr.2:Nat):Int)=some (V.int (L.getD pr.2 0:Nat)):=Js (nV_at (by omega));refine ⟨pa,_,rfl,SqT.of (sw _ _ hpa),rfl,_,_,rfl,_,_,rfl,rfl,?_⟩;refine ⟨_,rfl,_,rfl,la,_,_,_,rfl,rfl,SqL.of hl,g1,_,rfl,_,rfl,la,_,_,_,rfl,rfl,SqL.of hl,g2,_,_,rfl,?_⟩;rw [mn];refine ⟨_,rfl,_,rfl,la,_,_,_,rfl,rfl,SqL.of hl,g1,_,rfl,_,rfl,la,_,_,_,rfl,rfl,SqL.of hl,g2,_,_,rfl,?_⟩;rw [mx];refine ⟨_,rfl,la,rfl,⟨_,SqL.of hl⟩,fun d hd=>lc_lst (fun (j:Nat)=>V.int (j:Int)) L (fun _=>true) (fun (j:Nat)=>V.int ((if j=max (L.getD pr.1 0) (L.getD pr.2 0) then min (L.getD pr.1 0) (L.getD pr.2 0) else j:Nat):Int)) (by rw [<- nV_eq];exact SqL.of hl) (by omega) hd
    (fun j _ H2 Qt _ k=>k H2 (Same.refl _)) (fun j hj H4 Qe _ s4 ke=>?_) (fun H4 s4 hd4=>?_)⟩
   ·refine ⟨_,rfl,_,rfl,rfl,_,rfl,?_⟩;by_cases c:j=max (L.getD pr.1 0) (L.getD pr.2 0)
    ·rw [if_pos c] at ke;exact iteDT (by rw [c]) ⟨_,rfl,ke _ (Same.refl _)⟩
    ·rw [if_neg c] at ke;exact iteD (vint_ne (by omega)) ⟨_,rfl,ke _ (Same.refl _)⟩
   ·rw [J1r] at hd4;refine ⟨d,_,_,_,_,rfl,?_,sw.trans s4⟩;rw [hd4];unfold meet1;rw [nV_eq,map_map];rfl
  ·rintro σ H4 ⟨la,v2,v3,v4,v5,rfl,hl,sw⟩;have eall:((Jx os).take ys.length).foldl meet1 (List.range (2 * os.length))=Jc os:=by rw [P3.len,List.take_length];rfl
   rw [eall] at hl;refine ⟨_,rfl,la,natI (Jc os),rfl,SqL.of hl,by rw [J18,il0];omega,fun l2 ns' hl2 n1 n2=>?_⟩;rw [fixL_uni id0 n1 n2];have s5:=J4 (o:=.lst (nV (fixL (Jc os)))) hl2;refine ⟨_,rfl,la,rfl,⟨_,SqL.of (s5 _ _ hl)⟩,fun d hd=>lc_lst (fun (j:Nat)=>V.int (j:Int)) (Jc os) (fun _=>true) (fun (j:Nat)=>V.int ((fixL (Jc os)).idxOf j:Nat)) (by rw [<- nV_eq];exact SqL.of (s5 _ _ hl)) (by omega) hd
    (fun j _ H2 Qt _ k=>k H2 (Same.refl _)) (fun j hj H6 Qe _ s6 ke=>?_) (fun H6 s6 hd6=>?_)⟩
   ·refine ⟨_,rfl,.inl ⟨rfl,_,SqL.of (s6 _ _ J0)⟩,_,rfl,l2,natI (fixL (Jc os)),(j:Int),rfl,rfl,SqL.of (s6 _ _ J0),mem_nat ((Jt id0 j).mpr hj),?_⟩;rw [idx_nat];exact ke _ (Same.refl _)
   ·rw [J1r] at hd6;refine k d _ (s13.trans (sw.trans (s5.trans s6))) ?_;rw [hd6];unfold cornO;rw [nV_eq,map_map];rfl
def spCornS:Sp:=fun vs H Q _=>∃ (q:Addr) (os:List Nat),vs=[.ref q]/\SqH H q (nV os)/\IsO os/\1<=os.length/\os.length<=24/\∀ t a b H',Same H H'->H' t=some (.tup [.ref a,.ref b])->H' a=some (.lst (nV (stepL 0 (cornO os))))->H' b=some (.lst (nV (oddsO (cornO os))))->Q (.ref t) H'
theorem scCornS:FnScope ["order","corners"] ["order"] (J8 sCornS):=fS
theorem ok_cornS {f fRP fCE :Addr} {fd fdRP fdCE:FuncData}  (F:Fun K "corner_ends" "corner_ends" sCornS f fd)
  (GRP:FnOk P w K mg base CX0 3 fRP fdRP ["order"] spRefP) (bRP:Binds K fdRP ["order"] []) (mRP:mg "refuse_pieces"=some (.ref fRP)) (kRP:keepIn K (.ref fRP)=true)
  (GCE:FnOk P w K mg base CX0 4 fCE fdCE ["order"] spCornE) (bCE:Binds K fdCE ["order"] []) (mCE:mg "corners_by_end"=some (.ref fCE)) (kCE:keepIn K (.ref fCE)=true) :
  FnOk P w K mg base CX0 5 f fd ["order"] spCornS:=by
 refine F.ok scCornS (fun vs H Q E h=>?_) (fun cdv A outer s H vs Q E hr h=>?_)
 ·obtain ⟨q,os,rfl,_⟩:=h;rfl
 ·obtain ⟨q,os,rfl,hq,io,h1,h24,k⟩:=h;have hr3:Room 3 _:=rm hr;have hr4:Room 4 _:=rm hr;refine ⟨_,(J2 (J1b (Jd GRP hr3 rfl mRP kRP bRP .nil pass0 (pa_cons (pv 0) J1)))
   (J2 (Jm (i:=1) scCornS.nd rfl (Or.inl rfl) (Jd GCE hr4 rfl mCE kCE bCE .nil pass0 (pa_cons (pv 0) J1)))
   (J9 (Jn (J2r (pa_cons (pe_ev (pv 1) J7) (pa_cons (pe_od (pv 1) J7 J7) J1))))))),?_⟩
  refine ⟨_,rfl,q,os,rfl,hq,io,h1,h24,fun H1 s1=>?_⟩;refine ⟨_,rfl,q,os,rfl,hq.same s1,io,h1,h24,fun l H2 s2 hl=>?_⟩;refine ⟨_,rfl,rfl,l,_,rfl,SqL.of hl,fun a ha=>?_⟩;have s3:=J4 (o:=.lst (stepL 0 (nV (cornO os)))) ha;refine ⟨_,rfl,rfl,rfl,l,_,rfl,SqL.of (s3 _ _ hl),fun b hb=>?_⟩;have s4:=J4 (o:=.lst (stepL 1 (nV (cornO os)))) hb;refine ⟨(by show 2<=sizeLine;decide),fun t ht=>?_⟩;have s5:=J4 (o:=.tup [V.ref a,V.ref b]) ht;refine k t a b _ (s1.trans (s2.trans (s3.trans (s4.trans s5)))) J0 (((s4.trans s5) _ _ J0).trans ?_) ((s5 _ _ J0).trans ?_)
  ·rw [nV_eq,nV_eq,stepL_map]
  ·rw [nV_eq,nV_eq,J2l]
def spCornN:Sp:=fun vs H Q _=>∃ (q:Addr) (os:List Nat),vs=[.ref q]/\SqH H q (nV os)/\IsO os/\1<=os.length/\os.length<=24/\∀ H',Same H H'->Q (.int ((fixL (Jc os)).length:Nat)) H'
theorem scCornN:FnScope ["order"] ["order"] (J8 sCornN):=fS
theorem ok_cornN {f fCE :Addr} {fd fdCE:FuncData}  (F:Fun K "number_of_corners" "number_of_corners" sCornN f fd) (hmax:mg "max"=none)
  (GCE:FnOk P w K mg base CX0 4 fCE fdCE ["order"] spCornE) (bCE:Binds K fdCE ["order"] []) (mCE:mg "corners_by_end"=some (.ref fCE)) (kCE:keepIn K (.ref fCE)=true) :
  FnOk P w K mg base CX0 5 f fd ["order"] spCornN:=by
 refine F.ok scCornN (fun vs H Q E h=>?_) (fun cdv A outer s H vs Q E hr h=>?_)
 ·obtain ⟨q,os,rfl,_⟩:=h;rfl
 ·obtain ⟨q,os,rfl,hq,io,h1,h24,k⟩:=h;have hr4:Room 4 _:=rm hr;refine ⟨_,(J9 (Jn (pe_op J17 (Ja (call_max rfl) (by rfl) hmax boot_max (pa_cons (Jd GCE hr4 rfl mCE kCE bCE .nil pass0 (pa_cons (pv 0) J1)) J1)) J7))),?_⟩;refine ⟨_,rfl,q,os,rfl,hq,io,h1,h24,fun l H1 s1 hl=>?_⟩;have lc:(cornO os).length=2 * os.length:=by unfold cornO;rw [length_map];exact (Jj io h1).2
  refine ⟨l,natI (cornO os),rfl,.inl (SqL.of hl),by rw [J18];omega,fun M hM ha=>⟨_,_,rfl,rfl,?_⟩⟩;obtain ⟨m,hm,rfl⟩:=mem_map.mp hM;have e:=corn_max io h1 hm fun c hc=>by have:=ha _ (mem_map.mpr ⟨c,hc,rfl⟩);omega
  have e2:(m:Int) + 1=((fixL (Jc os)).length:Nat):=by omega
  dsimp only;rw [e2];exact k _ s1
def spCornT:Sp:=fun vs H Q _=>∃ (q:Addr) (os:List Nat),vs=[.ref q]/\SqH H q (nV os)/\IsO os/\1<=os.length/\os.length<=24/\∀ l H',Same H H'->H' l=some (.lst (nV (turnsO os)))->Q (.ref l) H'
theorem scCornT:FnScope ["order","rights"] ["order"] (J8 sCornT):=fS
theorem ok_cornT {f fCS fCN :Addr} {fd fdCS fdCN:FuncData}  (F:Fun K "corner_turns" "corner_turns" sCornT f fd) (T:TxtR mg)
  (GCS:FnOk P w K mg base CX0 5 fCS fdCS ["order"] spCornS) (bCS:Binds K fdCS ["order"] []) (mCS:mg "corner_ends"=some (.ref fCS)) (kCS:keepIn K (.ref fCS)=true)
  (GCN:FnOk P w K mg base CX0 5 fCN fdCN ["order"] spCornN) (bCN:Binds K fdCN ["order"] []) (mCN:mg "number_of_corners"=some (.ref fCN)) (kCN:keepIn K (.ref fCN)=true) :
  FnOk P w K mg base CX0 6 f fd ["order"] spCornT:=by
 refine F.ok scCornT (fun vs H Q E h=>?_) (fun cdv A outer s H vs Q E hr h=>?_)
 ·obtain ⟨q,os,rfl,_⟩:=h;rfl
 ·obtain ⟨q,os,rfl,hq,io,h1,h24,k⟩:=h;have hr5:Room 5 _:=rm hr;refine ⟨_,(J2 (Jm (i:=1) scCornT.nd rfl (Or.inr rfl) (J3a sl_list (pe_ix ix_tup (Jd GCS hr5 rfl mCS kCS bCS .nil pass0 (pa_cons (pv 0) J1)) J7 (fun _ _=>rfl)) po_none (po_some (pe_un un_neg J7))))
   (J9 (Jn (pe_lc (caps:=["rights"]) (js:=[1]) rfl (Jy rfl T.range (pa_cons (Jd GCN hr5 rfl mCN kCN bCN .nil pass0 (pa_cons (pv 0) J1)) J1)) rfl (fun _ _ _ _=>pts_nil) (fun C fp s H=>(pe_bmK K PySem.F.plainAttrs_list PySem.F.slot_list_count PySem.F.type_list_count (mt_countIK K) (pv 1) (pa_cons (pv 0) J1))) (by decide +kernel) (by decide +kernel) (by decide +kernel) (by intro p hp;simp only [mem_cons,not_mem_nil,or_false] at hp;rcases hp with rfl;rfl))))),?_⟩
  have lc:(cornO os).length=2 * os.length:=by unfold cornO;rw [length_map];exact (Jj io h1).2
  have lo:∀ l:List Nat,2<=l.length->1<=(oddsO l).length:=fun l h=>by
   match l,h with
   | _ :: b :: r,_=>exact Nat.succ_le_succ (Nat.zero_le _)
  refine ⟨_,rfl,q,os,rfl,hq,io,h1,h24,fun t a b H1 s1 ht ha hb=>?_⟩;refine ⟨t,_,_,_,rfl,rfl,SqT.of ht,(by rfl),_,rfl,_,rfl,b,_,rfl,SqL.of hb,fun rl hrl=>?_⟩;rw [cut_last _ (lo _ (by omega))];have s2:=J4 (o:=.lst (nV (oddsO (cornO os)).dropLast)) hrl;have hf:(fixL (Jc os)).length<=48:=by
   have h2:=List.nodup_iff_count.mp (Jo (Jc os));have:(fixL (Jc os)).length<=(Jc os).length:=(Jo (Jc os)).length_le_of_subset fun x hx=>(Jt (Jj io h1).1 x).mp hx;rw [(Jj io h1).2] at this;omega
  refine ⟨_,rfl,q,os,rfl,hq.same (s1.trans s2),io,h1,h24,fun H2 s3=>?_⟩;refine ⟨_,rfl,by omega,by omega,fun d hd=>?_⟩;rw [Int.toNat_natCast];refine lc_rng 0 (fixL (Jc os)).length (fun _=>true) (fun i=>V.int ((oddsO (cornO os)).dropLast.count i:Nat)) (by omega) hd (fun i _ H Qt _ k=>k H (Same.refl _)) (fun i hi H3 Qe _ s4 ke=>?_) (fun H3 s4 hd3=>?_)
  ·have hr3:=s4 _ _ (s3 _ _ (J0 (H:=H1) (a:=rl) (o:=.lst (nV (oddsO (cornO os)).dropLast))));rw [Int.zero_add];refine ⟨_,rfl,.inl ⟨rfl,_,SqL.of hr3⟩,_,rfl,rl,natI (oddsO (cornO os)).dropLast,(i:Int),rfl,rfl,hr3,?_⟩;rw [count_nat];exact ke _ (Same.refl _)
  ·rw [J1r] at hd3;refine k d _ (s1.trans (s2.trans (s3.trans s4))) (hd3.trans ?_);rw [<- J1l io h1,nV_eq,map_map];rfl
def spHandles:Sp:=fun vs H Q _=>∃ (q:Addr) (os:List Nat),vs=[.ref q]/\SqH H q (nV os)/\IsO os/\1<=os.length/\os.length<=24/\∀ H',Same H H'->Q (.int (((os.length:Int) - ((fixL (Jc os)).length:Nat) + 1) / 2)) H'
theorem scHandles:FnScope ["order"] ["order"] (J8 J36):=fS
theorem ok_handles {f fRP fCN :Addr} {fd fdRP fdCN:FuncData}  (F:Fun K "handles_of" "handles_of" J36 f fd) (T:TxtR mg)
  (GRP:FnOk P w K mg base CX0 3 fRP fdRP ["order"] spRefP) (bRP:Binds K fdRP ["order"] []) (mRP:mg "refuse_pieces"=some (.ref fRP)) (kRP:keepIn K (.ref fRP)=true)
  (GCN:FnOk P w K mg base CX0 5 fCN fdCN ["order"] spCornN) (bCN:Binds K fdCN ["order"] []) (mCN:mg "number_of_corners"=some (.ref fCN)) (kCN:keepIn K (.ref fCN)=true) :
  FnOk P w K mg base CX0 6 f fd ["order"] spHandles:=by
 refine F.ok scHandles (fun vs H Q E h=>?_) (fun cdv A outer s H vs Q E hr h=>?_)
 ·obtain ⟨q,os,rfl,_⟩:=h;rfl
 ·obtain ⟨q,os,rfl,hq,io,h1,h24,k⟩:=h;have hr3:Room 3 _:=rm hr;have hr5:Room 5 _:=rm hr;refine ⟨_,(J2 (J1b (Jd GRP hr3 rfl mRP kRP bRP .nil pass0 (pa_cons (pv 0) J1)))
   (J9 (Jn (pe_op op_fdiv (pe_op J17 (pe_op J3b (Ja J6 (by rfl) T.len boot_len (pa_cons (pv 0) J1)) (Jd GCN hr5 rfl mCN kCN bCN .nil pass0 (pa_cons (pv 0) J1))) J7) J7)))),?_⟩
  refine ⟨_,rfl,q,os,rfl,hq,io,h1,h24,fun H1 s1=>?_⟩;refine ⟨_,rfl,q,_,rfl,(hq.same s1).sq,_,rfl,q,os,rfl,hq.same s1,io,h1,h24,fun H2 s2=>?_⟩;refine ⟨_,_,rfl,rfl,_,_,rfl,rfl,_,_,rfl,rfl,⟨by decide,by decide⟩,?_⟩;have:=k _ (s1.trans s2);rw [J15];exact this
def spCell (K:Frag):Sp:=fun vs H Q _=>∃ (a:Addr) (ns:List Int) (j:Nat),vs=[.ref a,.int j]/\SqL K H a (iV ns)/\Q (.int (cellN ns j)) H
theorem scCell:FnScope ["script","k"] ["script","k"] (J8 sCell):=fS
theorem ok_cell {f:Addr} {fd:FuncData} (F:Fun K "_law_cell" "_law_cell" sCell f fd) (T:TxtR mg):FnOk P w K mg base CX0 1 f fd ["script","k"] (spCell K):=by
 refine F.ok scCell (fun vs H Q E h=>?_) (fun cdv A outer s H vs Q E hr h=>?_)
 ·obtain ⟨a,ns,j,rfl,_⟩:=h;rfl
 ·obtain ⟨a,ns,j,rfl,hS,k⟩:=h;refine ⟨_,J2 (ps_if (Ji op_lt (pv 1) (Ja J6 (by rfl) T.len boot_len (pa_cons (pv 0) J1)) (Jq _)) (J9 (Jn (pe_ix ix_list (pv 0) (pv 1) (fun _ _=>rfl)))) Ju) (J9 (Jn J7)),?_⟩;refine ⟨_,rfl,_,rfl,a,_,rfl,.inl hS,_,_,rfl,rfl,_,rfl,?_⟩;have hl:(iV ns).length=ns.length:=length_map ..;by_cases hj:j < ns.length
  ·refine iteDT (by rw [hl];omega) ?_;exact ⟨_,rfl,_,rfl,a,_,_,_,rfl,rfl,hS,Js (iV_get hj),k⟩
  ·refine iteD (by rw [hl];omega) ?_;have e:cellN ns j=0:=by
    unfold cellN;rw [getD_eq_getElem?_getD,getElem?_eq_none (by omega)];rfl
   rw [e] at k;exact k
def spOrderS (K:Frag):Sp:=fun vs H Q _=>∃ (a:Addr) (ns:List Int) (at_ many:Nat),vs=[.ref a,.int (at_:Nat),.int (many:Nat)]/\SqL K H a (iV ns)/\many<=100/\
 ∀ l H' (os:List Nat),Same H H'->H' l=some (.lst (nV os))->H l=none->IsO os->os.length=many->Q (.ref l) H'
theorem scOrder:FnScope ["script","first","many","order","k"] ["script","first","many"] (J8 sOrder):=fS
theorem ok_orderS {f fC :Addr} {fd fdC:FuncData}  (F:Fun K "_law_order" "_law_order" sOrder f fd) (T:TxtR mg)
  (GC:FnOk P w K mg base CX0 1 fC fdC ["script","k"] (spCell K)) (bC:Binds K fdC ["script","k"] []) (mC:mg "_law_cell"=some (.ref fC)) (kC:keepIn K (.ref fC)=true) :
  FnOk P w K mg base CX0 2 f fd ["script","first","many"] (spOrderS K):=by
 refine F.ok scOrder (fun vs H Q E h=>?_) (fun cdv A outer s H vs Q E hr h=>?_)
 ·obtain ⟨a,ns,at_,many,rfl,_⟩:=h;rfl
 ·obtain ⟨a,ns,at_,many,rfl,hS,h7,k⟩:=h;have hr1:Room 1 _:=rm hr;refine ⟨_,(J2 (Jm (i:=3) scOrder.nd rfl (Or.inl rfl) (J2s J1))
   (J2 (J2o PassesOwn.never rfl (Jy rfl T.range (pa_cons (pv 2) J1)) (Jv (i:=4) scOrder.nd rfl (Or.inl rfl))
    (J9 (J1b (pe_bm PySem.F.plainAttrs_list PySem.F.slot_list_insert PySem.F.type_list_insert mt_insert (pv 3) (pa_cons (pe_op op_mod (Jd GC hr1 rfl mC kC bC .nil pass0 (pa_cons (pv 0) (pa_cons (pe_op J17 (pv 1) (pv 4)) J1))) (pe_op J17 (pv 4) J7)) (pa_cons (pv 4) J1))))))
   (J9 (Jn (pv 3))))),?_⟩
  refine ⟨Nat.zero_le _,fun ol hol=>?_⟩;refine ⟨_,rfl,(many:Int),rfl,by omega,by omega,J1c (lo:=0) (n:=many) (fun i σ H2=>∃ v,σ=[some (.ref a),some (.int at_),some (.int many),some (.ref ol),v]/\H2 ol=some (.lst (nV (drawA ns at_ i)))/\Same H H2)
   ⟨none,rfl,J0,J4 hol⟩ ?_ ?_⟩
  ·rintro i σ H2 hi ⟨v,rfl,ho,s2⟩;rw [Int.zero_add];obtain ⟨q1,q2⟩:=spotA_le ns at_ i
   have e:((at_:Nat):Int) + (i:Int)=((at_ + i:Nat):Int):=by omega
   have hlen:(nV (drawA ns at_ i)).length=i:=by rw [J15,J2f]
   refine ⟨_,rfl,.inl ⟨rfl,_,SqL.of ho⟩,_,rfl,_,rfl,_,rfl,_,_,rfl,rfl,a,ns,at_ + i,(by rw [<- e];rfl),s2.seq hS,_,rfl,_,_,rfl,rfl,_,_,rfl,rfl,(by omega),_,rfl,
    ol,_,spotA ns at_ i,V.int (i:Int),rfl,(by rw [q2]),ho,(by rw [hlen];exact q1),(by rw [hlen];exact Jg (by omega)),?_⟩
   refine ⟨_,rfl,?_,fun b o z=>?_⟩
   ·rw [J0,insV];rfl
   ·rw [Jb (J3 z hol)];exact s2 _ _ z
  rintro σ H2 ⟨v,rfl,ho,s2⟩;exact ⟨_,rfl,k ol H2 _ s2 ho hol (drawA_isO _ _ _) (J2f _ _ _)⟩
def spNumL:Sp:=fun vs H Q _=>∃ (l:Addr) (row:List Nat) (many:Int),vs=[.ref l,.int many]/\H l=some (.lst (nV row))/\((row.length:Nat):Int)=many/\Q (.bl true) H
theorem scNumL:FnScope ["found","many","number"] ["found","many"] (J8 J35):=fS
theorem ok_numL {f   : Addr} {fd  : FuncData}  (F : Fun K "_law_numbers" "_law_numbers" J35 f fd) (T : TxtR mg) (hisi : mg "isinstance" = none) (hint : mg "int" = none) (hbool : mg "bool" = none) (kib : kitOne K (.type "int") (.type "bool") = some false)
 :
    FnOk P w K mg base CX0 1 f fd ["found", "many"] spNumL := by
  refine F.ok scNumL (fun vs H Q E h => ?_) (fun cdv A outer s H vs Q E hr h => ?_)
  · obtain ⟨l, row, many, rfl, _⟩ := h
    rfl
  · obtain ⟨l, row, many, rfl, hl, hm, k⟩ := h
    refine ⟨_, (J2 (ps_if (PW.pt (pw_or (pt_not (J39 (Ja (J14 rfl) (by rfl) hisi boot_isinstance (pa_cons (pv 0) (pa_cons (pe_bltn (v := .ty "list") rfl T.list boot_list rfl) J1))))) (J38 (Ji op_ne (Ja J6 (by rfl) T.len boot_len (pa_cons (pv 0) J1)) (pv 1) (Jq _))))) (J9 (Jn pe_bl)) Ju)
      (J2 (J2o PassesOwn.never rfl (J2q (pv 0)) (Jv (i := 2) scNumL.nd rfl (Or.inl rfl))
        (J9 (ps_if (PW.pt (pw_or (pt_not (J39 (Ja (J14 rfl) (by rfl) hisi boot_isinstance (pa_cons (pv 2) (pa_cons (pe_bltn (v := .ty "int") rfl hint PyProof.Rows.boot_int rfl) J1))))) (pw_or (J39 (Ja (J14 rfl) (by rfl) hisi boot_isinstance (pa_cons (pv 2) (pa_cons (pe_bltn (v := .ty "bool") rfl hbool PyProof.Rows.boot_bool rfl) J1)))) (J38 (Ji op_lt (pv 2) J7 (Jq _)))))) (J9 (Jn pe_bl)) Ju)))
      (J9 (Jn pe_bl)))), ?_⟩
    have ll := J15 row;refine ⟨_, rfl, _, .ty "list", .type "list", .type "list", true, rfl, rfl, fun v h => h, .lst hl, rfl, true, rfl, iteF ?_⟩;refine ⟨_, rfl, l, _, rfl, .inl (SqL.of hl), _, rfl, rfl, _, rfl, iteNS (congrArg V.int (by omega)) ?_⟩;refine ⟨_, rfl, l, rfl, ⟨_, SqL.of hl⟩, J3i (K := K) (a := l) (xs := nV row) (fun i σ Hw => ∃ v2, σ = [some (.ref l), some (.int many), v2] /\ Hw = H) ⟨_, rfl, rfl⟩ (fun i σ Hw _ ⟨_, _, e⟩ => by rw [e]; exact SqL.of hl) ?_ ?_⟩
    · rintro i v σ Hw hv ⟨v2, rfl, rfl⟩
      obtain ⟨_, rfl, _⟩ := nV_get hv;refine ⟨_, rfl, _, .ty "int", .type "int", .type "int", true, rfl, rfl, fun v h => h, .int _, rfl, true, rfl, iteF ?_⟩;refine ⟨_, rfl, _, .ty "bool", .type "int", .type "bool", false, rfl, rfl, fun v h => h, .int _, kib, _, rfl, iteF ?_⟩;refine ⟨_, rfl, _, _, rfl, rfl, _, rfl, iteD (by omega) ?_⟩;exact ⟨_, rfl, rfl⟩
    · rintro σ Hw ⟨v2, rfl, rfl⟩
      exact k
def metO (os:List Nat):Nat->List (Nat × Nat)
 | 0=>[(0,2 * os.getD 0 0),(2 * (os.length - 1) + 1,2 * os.getD (os.length - 1) 0 + 1)]
 | k + 1=>metO os k ++ [(2 * k + 1,2 * (k + 1))] ++ [(2 * os.getD k 0 + 1,2 * os.getD (k + 1) 0)]
theorem metO_len (os:List Nat):∀ k,(metO os k).length=2 + 2 * k
 | 0=>rfl
 | k + 1=>by
  show ((metO os k ++ [(2 * k + 1,2 * (k + 1))]) ++ [(2 * os.getD k 0 + 1,2 * os.getD (k + 1) 0)]).length=_;rw [length_append,length_append,metO_len os k];simp only [length_cons,List.length_nil];omega
theorem metO_mem (os:List Nat) (p:Nat × Nat):∀ k,p∈metO os k↔(∃ i,i < k/\p=(2 * i + 1,2 * (i + 1)))\/(∃ i,i < k/\p=(2 * os.getD i 0 + 1,2 * os.getD (i + 1) 0))\/p=(0,2 * os.getD 0 0)\/p=(2 * (os.length - 1) + 1,2 * os.getD (os.length - 1) 0 + 1)
 | 0=>by
  show p∈[(0,2 * os.getD 0 0),(2 * (os.length - 1) + 1,2 * os.getD (os.length - 1) 0 + 1)]↔_;rw [mem_cons,mem_singleton];exact ⟨fun h=>.inr (.inr h),fun h=>h.elim (fun h9=>by obtain ⟨i,hi,_⟩:=h9;exact absurd hi (Nat.not_lt_zero _)) fun h=>h.elim (fun h9=>by obtain ⟨i,hi,_⟩:=h9;exact absurd hi (Nat.not_lt_zero _)) id⟩
 | k + 1=>by
  have ih:=metO_mem os p k;show p∈metO os k ++ [(2 * k + 1,2 * (k + 1))] ++ [(2 * os.getD k 0 + 1,2 * os.getD (k + 1) 0)]↔_;rw [mem_append,mem_append,mem_singleton,mem_singleton,ih];constructor
  ·rintro (((⟨i,hi,e⟩ | ⟨i,hi,e⟩ | h) | e) | e)
   ·exact .inl ⟨i,by omega,e⟩
   ·exact .inr (.inl ⟨i,by omega,e⟩)
   ·exact .inr (.inr h)
   ·exact .inl ⟨k,by omega,e⟩
   ·exact .inr (.inl ⟨k,by omega,e⟩)
  ·rintro (⟨i,hi,e⟩ | ⟨i,hi,e⟩ | h)
   ·by_cases c:i=k
    ·subst c;exact .inl (.inr e)
    ·exact .inl (.inl (.inl ⟨i,by omega,e⟩))
   ·by_cases c:i=k
    ·subst c;exact .inr e
    ·exact .inl (.inl (.inr (.inl ⟨i,by omega,e⟩)))
   ·exact .inl (.inl (.inr (.inr h)))
theorem met_meets {os:List Nat} (p:Nat × Nat):p∈metO os (os.length - 1)↔p∈Jx os:=by
 rw [metO_mem,meets_mem];constructor
 ·rintro (⟨i,hi,e⟩ | ⟨i,hi,e⟩ | h)
  ·exact .inl ⟨i,by omega,e⟩
  ·exact .inr (.inl ⟨i,by omega,e⟩)
  ·exact .inr (.inr h)
 ·rintro (⟨i,hi,e⟩ | ⟨i,hi,e⟩ | h)
  ·exact .inl ⟨i,by omega,e⟩
  ·exact .inr (.inl ⟨i,by omega,e⟩)
  ·exact .inr (.inr h)
theorem J23 {H:Hp} {t:Addr} {p:Nat × Nat} (h:H t=some (.tup [V.int (p.1:Nat),V.int (p.2:Nat)])):TupsAt H [.ref t] [pairL p]:=⟨rfl,fun n u eu=>by
 match n with
 | 0 =>
  obtain rfl:pairL p=u:=Option.some.inj eu;exact ⟨t,rfl,h⟩
 | n + 1=>cases eu⟩
theorem tups_upd {H:Hp} {zs xs:List V} {ts:List (List Int)} {l:Addr} {o:HO} (h:TupsAt H zs ts) (hl:H l=some (.lst xs)):TupsAt (upd H l o) zs ts :=
 ⟨h.len,fun n u eu=>by obtain ⟨q,e1,e2⟩:=h.at_ n u eu;exact ⟨q,e1,by rw [Jb (ne_of e2 hl (by intro z;cases z))];exact e2⟩⟩
def spMet:Sp:=fun vs H Q _=>∃ (l:Addr) (os:List Nat),vs=[.ref l]/\H l=some (.lst (nV os))/\IsO os/\1<=os.length/\os.length<=24/\∀ d zs H',Same H H'->H' d=some (.lst zs)->TupsAt H' zs ((metO os (os.length - 1)).map pairL)->Q (.ref d) H'
theorem scMet:FnScope ["order","many","met","k"] ["order"] (J8 sMet):=fS
theorem ok_met {f   : Addr} {fd  : FuncData}  (F : Fun K "_law_met" "_law_met" sMet f fd) (T : TxtR mg)
 :
    FnOk P w K mg base CX0 1 f fd ["order"] spMet := by
  refine F.ok scMet (fun vs H Q E h => ?_) (fun cdv A outer s H vs Q E hr h => ?_)
  · obtain ⟨l, os, rfl, _⟩ := h
    rfl
  · obtain ⟨l, os, rfl, hl, io, h1, h24, k⟩ := h
    refine ⟨_, (J2 (Jm (i := 1) scMet.nd rfl (Or.inl rfl) (Ja J6 (by rfl) T.len boot_len (pa_cons (pv 0) J1)))
      (J2 (Jm (i := 2) scMet.nd rfl (Or.inl rfl) (J2s (pa_cons (J2r (pa_cons J7 (pa_cons (pe_op J16 J7 (pe_ix ix_list (pv 0) J7 (fun _ _ => rfl))) J1))) (pa_cons (J2r (pa_cons (pe_op J3b (pe_op J16 J7 (pv 1)) J7) (pa_cons (pe_op J17 (pe_op J16 J7 (pe_ix ix_list (pv 0) (pe_un un_neg J7) (fun _ _ => rfl))) J7) J1))) J1))))
      (J2 (J2o PassesOwn.never rfl (Jy rfl T.range (pa_cons (pe_op J3b (pv 1) J7) J1)) (Jv (i := 3) scMet.nd rfl (Or.inl rfl))
        (J2 (J1b (pe_bm PySem.F.plainAttrs_list PySem.F.slot_list_append PySem.F.type_list_append J12 (pv 2) (pa_cons (J2r (pa_cons (pe_op J17 (pe_op J16 J7 (pv 3)) J7) (pa_cons (pe_op J17 (pe_op J16 J7 (pv 3)) J7) J1))) J1)))
        (J9 (J1b (pe_bm PySem.F.plainAttrs_list PySem.F.slot_list_append PySem.F.type_list_append J12 (pv 2) (pa_cons (J2r (pa_cons (pe_op J17 (pe_op J16 J7 (pe_ix ix_list (pv 0) (pv 3) (fun _ _ => rfl))) J7) (pa_cons (pe_op J16 J7 (pe_ix ix_list (pv 0) (pe_op J17 (pv 3) J7) (fun _ _ => rfl))) J1))) J1))))))
      (J9 (Jn (pv 2)))))), ?_⟩
    have ll := J15 os;have g : ∀ i, i < os.length -> atI (nV os) (i : Int) = some (V.int (os.getD i 0 : Nat)) := fun i h => Js (nV_at h);have gl : atI (nV os) (-1) = some (V.int (os.getD (os.length - 1) 0 : Nat)) := by
      unfold atI ixN;rw [if_neg (by decide), if_pos (by omega)];show (nV os)[(-1 + ((nV os).length : Int)).toNat]? = _;rw [show (-1 + ((nV os).length : Int)).toNat = os.length - 1 by omega];exact nV_at (by omega)
    refine ⟨_, rfl, l, _, rfl, .inl (SqL.of hl), ?_⟩;refine ⟨_, rfl, l, _, _, _, rfl, rfl, SqL.of hl, g 0 h1, _, _, rfl, rfl, .inl ⟨by decide, by decide⟩, ?_⟩;refine ⟨(by show 2 <= sizeLine; decide), fun p1 hp1 => ?_⟩;have s1 := J4 (o := .tup [V.int 0, V.int (2 * ((os.getD 0 0 : Nat) : Int))]) hp1;have hp1' := J0 (H := H) (a := p1) (o := .tup [V.int 0, V.int (2 * ((os.getD 0 0 : Nat) : Int))]);refine ⟨_, rfl, _, _, rfl, rfl, .inl ⟨by decide, by decide⟩, _, _, rfl, rfl, _, rfl, _, rfl, l, _, _, _, rfl, rfl, SqL.of (s1 _ _ hl), gl, _, _, rfl, rfl, .inl ⟨by decide, by decide⟩, _, _, rfl, rfl, (by show 2 <= sizeLine; decide), fun p2 hp2 => ?_⟩;have s2 := J4 (o := .tup [V.int (2 * ((nV os).length : Int) - 1), V.int (2 * ((os.getD (os.length - 1) 0 : Nat) : Int) + 1)]) hp2;have hp2' := J0 (H := upd H p1 (.tup [V.int 0, V.int (2 * ((os.getD 0 0 : Nat) : Int))])) (a := p2) (o := .tup [V.int (2 * ((nV os).length : Int) - 1), V.int (2 * ((os.getD (os.length - 1) 0 : Nat) : Int) + 1)]);refine ⟨(by show 2 <= sizeLine; decide), fun dl hdl => ?_⟩;have s3 := J4 (o := .lst [V.ref p1, V.ref p2]) hdl;have s13 := s1.trans (s2.trans s3);have t1 : TupsAt (upd (upd (upd H p1 (.tup [V.int 0, V.int (2 * ((os.getD 0 0 : Nat) : Int))])) p2 (.tup [V.int (2 * ((nV os).length : Int) - 1), V.int (2 * ((os.getD (os.length - 1) 0 : Nat) : Int) + 1)])) dl (.lst [V.ref p1, V.ref p2])) ([V.ref p1] ++ [V.ref p2]) ([pairL (0, 2 * os.getD 0 0)] ++ [pairL (2 * (os.length - 1) + 1, 2 * os.getD (os.length - 1) 0 + 1)]) := by
      refine TupsAt.app (J23 (((s2.trans s3) _ _ hp1').trans ?_)) (J23 ((s3 _ _ hp2').trans ?_))
      · dsimp only
        rw [show (2 : Int) * ((os.getD 0 0 : Nat) : Int) = ((2 * os.getD 0 0 : Nat) : Int) by omega]; rfl
      · dsimp only
        rw [show (2 : Int) * ((nV os).length : Int) - 1 = ((2 * (os.length - 1) + 1 : Nat) : Int) by omega, show (2 : Int) * ((os.getD (os.length - 1) 0 : Nat) : Int) + 1 = ((2 * os.getD (os.length - 1) 0 + 1 : Nat) : Int) by omega]
    have hdl' := J0 (H := upd (upd H p1 (.tup [V.int 0, V.int (2 * ((os.getD 0 0 : Nat) : Int))])) p2 (.tup [V.int (2 * ((nV os).length : Int) - 1), V.int (2 * ((os.getD (os.length - 1) 0 : Nat) : Int) + 1)])) (a := dl) (o := .lst [V.ref p1, V.ref p2]);have ndl : H dl = none := by
      cases e : H dl with
      | none => rfl
      | some o => rw [s2 _ _ (s1 _ _ e)] at hdl; cases hdl
    refine ⟨_, rfl, _, _, rfl, rfl, _, rfl, by omega, by omega, ?_⟩;have en : (((nV os).length : Int) - 1).toNat = os.length - 1 := by omega
    rw [en];refine J1c (lo := 0) (n := os.length - 1) (fun i σ Hw => ∃ (v3 : Option V) (zs : List V), σ = [some (.ref l), some (.int ((nV os).length : Nat)), some (.ref dl), v3] /\ Hw dl = some (.lst zs) /\ TupsAt Hw zs ((metO os i).map pairL) /\ Same H Hw) ⟨none, _, rfl, hdl', t1, s13⟩ ?_ ?_
    · rintro i σ Hw hi ⟨v3, zs, rfl, hd, tz, sw⟩
      rw [Int.zero_add];have lz : zs.length = 2 + 2 * i := by rw [tz.len, length_map, metO_len]
      refine ⟨_, rfl, .inl ⟨rfl, _, SqL.of hd⟩, _, rfl, _, _, rfl, rfl, .inl ⟨by decide, by decide⟩, _, _, rfl, rfl, _, rfl, _, _, rfl, rfl, .inl ⟨by decide, by decide⟩, _, _, rfl, rfl, (by show 2 <= sizeLine; decide), fun t ht => ?_⟩;have e1 : (2 : Int) * (i : Int) + 1 = ((2 * i + 1 : Nat) : Int) := by omega
      have e2 : (2 : Int) * (i : Int) + 2 = ((2 * (i + 1) : Nat) : Int) := by omega
      dsimp only at ht ⊢;rw [e1, e2];have u1 := J4 (o := .tup [V.int ((2 * i + 1 : Nat) : Int), V.int ((2 * (i + 1) : Nat) : Int)]) ht;have hd1 := u1 _ _ hd;refine ⟨dl, zs, _, rfl, rfl, hd1, by rw [lz]; exact Jg (by omega), ?_⟩;have tA : TupsAt (upd Hw t (.tup [V.int ((2 * i + 1 : Nat) : Int), V.int ((2 * (i + 1) : Nat) : Int)])) (zs ++ [V.ref t]) ((metO os i).map pairL ++ [pairL (2 * i + 1, 2 * (i + 1))]) := (tz.same u1).app (J23 J0);have tB := tups_upd (o := .lst (zs ++ [V.ref t])) tA hd1;have hd2 := J0 (H := upd Hw t (.tup [V.int ((2 * i + 1 : Nat) : Int), V.int ((2 * (i + 1) : Nat) : Int)])) (a := dl) (o := .lst (zs ++ [V.ref t]));have sB : Same H (upd (upd Hw t (.tup [V.int ((2 * i + 1 : Nat) : Int), V.int ((2 * (i + 1) : Nat) : Int)])) dl (.lst (zs ++ [V.ref t]))) := fun b o e => by
        rw [Jb (J3 e ndl)];exact (sw.trans u1) _ _ e
      generalize upd (upd Hw t (.tup [V.int ((2 * i + 1 : Nat) : Int), V.int ((2 * (i + 1) : Nat) : Int)])) dl (.lst (zs ++ [V.ref t])) = H2 at *;have hl2 := sB _ _ hl;have g1 : atI (nV os) ((i : Int) + 1) = some (V.int (os.getD (i + 1) 0 : Nat)) := g (i + 1) (by omega);refine ⟨_, rfl, .inl ⟨rfl, _, SqL.of hd2⟩, _, rfl, _, rfl, l, _, _, _, rfl, rfl, SqL.of hl2, g i (by omega), _, _, rfl, rfl, .inl ⟨by decide, by decide⟩, _, _, rfl, rfl, _, rfl, _, rfl, _, _, rfl, rfl, l, _, _, _, rfl, rfl, SqL.of hl2, g1, _, _, rfl, rfl, .inl ⟨by decide, by decide⟩, (by show 2 <= sizeLine; decide), fun t2 ht2 => ?_⟩;have e3 : (2 : Int) * ((os.getD i 0 : Nat) : Int) + 1 = ((2 * os.getD i 0 + 1 : Nat) : Int) := by omega
      have e4 : (2 : Int) * ((os.getD (i + 1) 0 : Nat) : Int) = ((2 * os.getD (i + 1) 0 : Nat) : Int) := by omega
      dsimp only at ht2 ⊢;rw [e3, e4];have u2 := J4 (o := .tup [V.int ((2 * os.getD i 0 + 1 : Nat) : Int), V.int ((2 * os.getD (i + 1) 0 : Nat) : Int)]) ht2;have hd3 := u2 _ _ hd2;refine ⟨dl, zs ++ [V.ref t], _, rfl, rfl, hd3, by rw [length_append, lz]; exact Jg (by show 2 + 2 * i + 1 <= 1000; omega), ?_⟩;have tC : TupsAt (upd H2 t2 (.tup [V.int ((2 * os.getD i 0 + 1 : Nat) : Int), V.int ((2 * os.getD (i + 1) 0 : Nat) : Int)])) (zs ++ [V.ref t] ++ [V.ref t2]) ((metO os i).map pairL ++ [pairL (2 * i + 1, 2 * (i + 1))] ++ [pairL (2 * os.getD i 0 + 1, 2 * os.getD (i + 1) 0)]) := (tB.same u2).app (J23 J0);have em : (metO os (i + 1)).map pairL = (metO os i).map pairL ++ [pairL (2 * i + 1, 2 * (i + 1))] ++ [pairL (2 * os.getD i 0 + 1, 2 * os.getD (i + 1) 0)] := by
        show (metO os i ++ [(2 * i + 1, 2 * (i + 1))] ++ [(2 * os.getD i 0 + 1, 2 * os.getD (i + 1) 0)]).map pairL = _;rw [map_append, map_append]; rfl
      refine ⟨_, _, rfl, J0, by rw [em]; exact tups_upd tC hd3, fun b o e => ?_⟩;rw [Jb (J3 e ndl)];exact (sB.trans u2) _ _ e
    · rintro σ Hw ⟨v3, zs, rfl, hd, tz, sw⟩
      exact ⟨_, rfl, k dl zs Hw sw hd tz⟩
structure MarkI (N:Nat) (ms:List (Nat × Nat)) (L:List Nat) (e:Nat) (mk:Nat->Bool) (ws:List Nat) (op:Nat->Nat × Nat->Prop):Prop where
 me:mk e=true
 lo:∀ x,x < N->L.getD x 0 < e->mk x=true
 up:∀ x,x < N->mk x=true->L.getD x 0<=e
 wm:∀ w∈ws,w < N/\L.getD w 0=e
 cl:∀ x,x < N->mk x=true->L.getD x 0=e->x ∉ ws->∀ p∈ms,¬ op x p->(p.1=x->mk p.2=true)/\(p.2=x->mk p.1=true)
theorem J20 {mk:Nat->Bool} {y x:Nat} (h:mk x=true):markF mk y x=true:=by unfold markF;rw [h,Bool.true_or]
theorem J2a (mk:Nat->Bool) (y:Nat):markF mk y y=true:=by unfold markF;rw [decide_eq_true rfl,Bool.or_true]
theorem mark_ne {mk:Nat->Bool} {y x:Nat} (h:markF mk y x=true) (n:x≠y):mk x=true:=by unfold markF at h;rwa [decide_eq_false n,Bool.or_false] at h
theorem MarkI.mark {N:Nat} {ms:List (Nat × Nat)} {L:List Nat} {e:Nat} {mk:Nat->Bool} {ws:List Nat} {op:Nat->Nat × Nat->Prop} (h:MarkI N ms L e mk ws op) {y:Nat} (hy:y < N) (ly:L.getD y 0=e):MarkI N ms L e (markF mk y) (ws ++ [y]) op:=by
 refine ⟨J20 h.me,fun x hx lt=>J20 (h.lo x hx lt),fun x hx m=>?_,fun w hw=>?_,fun x hx m lx nx p hp no=>?_⟩
 ·by_cases c:x=y
  ·rw [c,ly];exact Nat.le_refl _
  ·exact h.up x hx (mark_ne m c)
 ·rcases mem_append.mp hw with hw | hw
  ·exact h.wm w hw
  ·rw [mem_singleton.mp hw];exact ⟨hy,ly⟩
 ·have c:x≠y:=fun z=>nx (by rw [z];exact mem_append_right _ (mem_singleton.mpr rfl));obtain ⟨a,b⟩:=h.cl x hx (mark_ne m c) lx (fun z=>nx (mem_append_left _ z)) p hp no;exact ⟨fun z=>J20 (a z),fun z=>J20 (b z)⟩
theorem iteNN {c A B:Prop} [Decidable c] (hc:¬ c) (h:A):if (!decide c)=true then A else B:=by
 rw [if_pos (by rw [decide_eq_false hc];rfl)];exact h
def spDue:Sp:=fun vs H Q _=>∃ (l:Addr) (os:List Nat),vs=[.ref l]/\H l=some (.lst (nV os))/\IsO os/\1<=os.length/\os.length<=24/\∀ d H',Same H H'->H' d=some (.lst (nV (cornO os)))->Q (.ref d) H'
theorem scDue:FnScope ["order","met","due","corner","end","waiting","at","one","two"] ["order"] (J8 sDue):=fS
theorem ok_due {f fLM :Addr} {fd fdLM:FuncData}  (F:Fun K "_law_due" "_law_due" sDue f fd) (T:TxtR mg)
  (GLM:FnOk P w K mg base CX0 1 fLM fdLM ["order"] spMet) (bLM:Binds K fdLM ["order"] []) (mLM:mg "_law_met"=some (.ref fLM)) (kLM:keepIn K (.ref fLM)=true) :
  FnOk P w K mg base CX0 2 f fd ["order"] spDue:=by
 refine F.ok scDue (fun vs H Q E h=>?_) (fun cdv A outer s H vs Q E hr h=>?_)
 ·obtain ⟨l,os,rfl,_⟩:=h;rfl
 ·obtain ⟨l,os,rfl,hl,io,h1,h24,k⟩:=h;have hr1:Room 1 _:=rm hr;have hu:=hr.units0;refine ⟨_,(J2 (Jm (i:=1) scDue.nd rfl (Or.inl rfl) (Jd GLM hr1 rfl mLM kLM bLM .nil pass0 (pa_cons (pv 0) J1)))
   (J2 (Jm (i:=2) scDue.nd rfl (Or.inl rfl) (pe_op op_rep (J2s (pa_cons pe_non J1)) (pe_op J16 J7 (Ja J6 (by rfl) T.len boot_len (pa_cons (pv 0) J1)))))
   (J2 (Jm (i:=3) scDue.nd rfl (Or.inl rfl) J7)
   (J2 (J2o PassesOwn.never rfl (Jy rfl T.range (pa_cons (Ja J6 (by rfl) T.len boot_len (pa_cons (pv 2) J1)) J1)) (Jv (i:=4) scDue.nd rfl (Or.inl rfl))
    (J9 (ps_if (Ji op_isN (pe_ix ix_list (pv 2) (pv 4) (fun _ _=>rfl)) pe_non (Jq _)) (J2 (ps_asg (pv 3) (pg_sub (pv 2) (pv 4) J34))
     (J2 (Jm (i:=5) scDue.nd rfl (Or.inl rfl) (J2s (pa_cons (pv 4) J1)))
     (J2 (ps_while PassesOwn.never (Ji (op_neL hu) (pv 5) (J2s J1) (Jq _))
      (J2 (Jm (i:=6) scDue.nd rfl (Or.inl rfl) (pe_bm0 PySem.F.plainAttrs_list PySem.F.slot_list_pop PySem.F.type_list_pop mt_pop (pv 5)))
      (J9 (J2o PassesOwn.never rfl (J2q (pv 1)) (pg_tup rfl (J1f (Jv (i:=7) scDue.nd rfl (Or.inl rfl)) (J1f (Jv (i:=8) scDue.nd rfl (Or.inl rfl)) pgs_nil)))
       (J2 (ps_cut (ps_if (PW.pt (pw_and (Ji op_eq (pv 6) (pv 7) (Jq _)) (pw_and1 (Ji op_isN (pe_ix ix_list (pv 2) (pv 8) (fun _ _=>rfl)) pe_non (Jq _))))) (J2 (ps_asg (pv 3) (pg_sub (pv 2) (pv 8) J34))
        (J9 (J1b (pe_bm PySem.F.plainAttrs_list PySem.F.slot_list_append PySem.F.type_list_append J12 (pv 5) (pa_cons (pv 8) J1))))) Ju))
       (J9 (ps_if (PW.pt (pw_and (Ji op_eq (pv 6) (pv 8) (Jq _)) (pw_and1 (Ji op_isN (pe_ix ix_list (pv 2) (pv 7) (fun _ _=>rfl)) pe_non (Jq _))))) (J2 (ps_asg (pv 3) (pg_sub (pv 2) (pv 7) J34))
        (J9 (J1b (pe_bm PySem.F.plainAttrs_list PySem.F.slot_list_append PySem.F.type_list_append J12 (pv 5) (pa_cons (pv 7) J1))))) Ju)))))))
     (J9 (ps_aug (i:=3) scDue.nd rfl (Or.inl rfl) J7 ip_add))))) Ju)))
   (J9 (Jn (pv 2))))))),?_⟩
  have ll:=J15 os;have r:=J13 io h1;have hc:∀ x,x < 2 * os.length->(cornO os).getD x 0=belowL (Jc os) ((Jc os).getD x 0):=fun x hx=>corn_at io h1 hx;have hms:∀ p∈Jx os,p.1 < 2 * os.length/\p.2 < 2 * os.length:=J29 io h1;have lc:(cornO os).length=2 * os.length:=by unfold cornO;rw [length_map,r.len]
  obtain ⟨N,eN⟩:∃ N,N=2 * os.length:=⟨_,rfl⟩;obtain ⟨L,eL⟩:∃ L,L=Jc os:=⟨_,rfl⟩;obtain ⟨c,ec⟩:∃ c,c=cornO os:=⟨_,rfl⟩;obtain ⟨ms,em⟩:∃ ms,ms=metO os (os.length - 1):=⟨_,rfl⟩;rw [<- eN] at r hc hms lc;rw [<- eL] at r hc;rw [<- ec] at hc lc k;have hN:N<=48:=by omega
  have hm2:∀ p,p∈ms↔p∈Jx os:=fun p=>by rw [em];exact met_meets p
  refine ⟨_,rfl,l,os,rfl,hl,io,h1,h24,fun ml zs H1 s1 hml tz=>?_⟩;rw [<- em] at tz;have lzs:zs.length=ms.length:=by rw [tz.len,length_map]
  refine ⟨(by show 1<=sizeLine;decide),fun nl hnl=>?_⟩;have s2:=J4 (o:=.lst [V.non]) hnl;have hnl':=J0 (H:=H1) (a:=nl) (o:=.lst [V.non]);have e2:(2:Int) * ((nV os).length:Int)=(N:Int):=by omega
  refine ⟨_,rfl,l,_,rfl,.inl (SqL.of ((s1.trans s2) _ _ hl)),_,_,rfl,rfl,.inl ⟨by decide,by decide⟩,nl,_,[V.non],rfl,rfl,hnl',?_,?_,?_,fun dl hdl=>?_⟩
  ·omega
  ·omega
  ·rw [e2];exact Nat.le_of_lt (Jg (by show 1 * ((N:Int)).toNat<=1000;omega))
  have e3:(List.replicate ((2:Int) * ((nV os).length:Int)).toNat [V.non]).flatten=dueV c (fun x=>decide (L.getD x 0 < 0)) N:=by
   rw [e2,Int.toNat_natCast];unfold dueV;have:∀ n,(List.replicate n [V.non]).flatten=(List.range n).map fun x=>if decide (L.getD x 0 < 0)=true then V.int (c.getD x 0:Nat) else V.non:=fun n=>by
    induction n with
    | zero=>rfl
    | succ n ih =>
     rw [List.replicate_succ',List.flatten_append,ih,range_succ,map_append];rfl
   exact this N
  dsimp only;rw [e3];have hdl':=J0 (H:=upd H1 nl (.lst [V.non])) (a:=dl) (o:=.lst (dueV c (fun x=>decide (L.getD x 0 < 0)) N));have s3:=J4 (o:=.lst (dueV c (fun x=>decide (L.getD x 0 < 0)) N)) hdl;have s12:=s1.trans s2;have hml2:=s2 _ _ hml;have tz2:=tz.same s2;generalize upd H1 nl (.lst [V.non])=H2 at *;refine ⟨_,rfl,dl,_,rfl,.inl (SqL.of hdl'),_,rfl,by rw [Jz];omega,by rw [Jz];omega,?_⟩;rw [Jz,Int.toNat_natCast];refine J1c (lo:=0) (n:=N) (fun e σ Hw=>∃ (v4 v5 v6 v7 v8:Option V),σ=[some (.ref l),some (.ref ml),some (.ref dl),some (.int (belowL L e:Nat)),v4,v5,v6,v7,v8]/\Hw dl=some (.lst (dueV c (fun x=>decide (L.getD x 0 < e)) N))/\Same H2 Hw) ⟨none,none,none,none,none,rfl,hdl',s3⟩ ?_ ?_
  ·rintro e σ Hw he ⟨v4,v5,v6,v7,v8,rfl,hd,sw⟩;rw [Int.zero_add];have ge:=Js (J2v c (fun x=>decide (L.getD x 0 < e)) he);refine ⟨_,rfl,_,rfl,dl,_,_,_,rfl,rfl,SqL.of hd,ge,rfl,_,rfl,?_⟩;have le:=r.le e he;by_cases cl:L.getD e 0=e
   ·rw [if_neg (by rw [decide_eq_true_eq];omega)];refine iteDT rfl ?_;have ce:c.getD e 0=belowL L e:=by rw [hc e he,cl]
    refine ⟨_,rfl,_,rfl,_,rfl,dl,_,_,e,rfl,rfl,hd,?_,?_⟩
    ·rw [Jz];exact ixN_nat he
    rw [<- ce,dueV_set c _ he];obtain ⟨mk,emk⟩:∃ mk,mk=markF (fun x=>decide (L.getD x 0 < e)) e:=⟨_,rfl⟩;rw [<- emk];have hd1:=J0 (H:=Hw) (a:=dl) (o:=.lst (dueV c mk N));have sw1:Same H2 (upd Hw dl (.lst (dueV c mk N))):=fun b o z=>by
     rw [Jb (J3 z hdl)];exact sw _ _ z
    generalize upd Hw dl (.lst (dueV c mk N))=Hx at *;refine ⟨_,rfl,(by show 1<=sizeLine;decide),fun wl hwl=>?_⟩;have u1:=J4 (o:=.lst [V.int (e:Int)]) hwl;have hw1:=J0 (H:=Hx) (a:=wl) (o:=.lst [V.int (e:Int)]);have nwl:H2 wl=none:=by
     cases z:H2 wl with
     | none=>rfl
     | some o=>rw [sw1 _ _ z] at hwl;cases hwl
    have mki:MarkI N ms L e mk [e] (fun _ _=>False):=by
     rw [emk];refine ⟨J2a _ _,fun x hx lt=>J20 (decide_eq_true lt),fun x hx m=>?_,fun w hw=>?_,fun x hx m lx nx=>?_⟩
     ·by_cases z:x=e
      ·rw [z,cl];exact Nat.le_refl _
      ·have:=of_decide_eq_true (mark_ne m z);omega
     ·rw [mem_singleton.mp hw];exact ⟨he,cl⟩
     ·have z:x≠e:=fun z=>nx (mem_singleton.mpr z);have:=of_decide_eq_true (mark_ne m z);omega
    have un:=unm_le mk N;refine ⟨fun m σ Hw=>∃ (v6 v7 v8:Option V) (mk:Nat->Bool) (ws:List Nat),σ=[some (.ref l),some (.ref ml),some (.ref dl),some (.int (c.getD e 0:Nat)),some (.int (e:Int)),some (.ref wl),v6,v7,v8]/\Hw dl=some (.lst (dueV c mk N))/\Hw wl=some (.lst (nV ws))/\Same H2 Hw/\MarkI N ms L e mk ws (fun _ _=>False)/\m=2 * unm mk N + ws.length/\m<=200,
     ⟨2 * unm mk N + 1,_,_,_,mk,[e],rfl,u1 _ _ hd1,hw1,sw1.trans u1,mki,rfl,by omega⟩,?_⟩
    rintro m σ Hy ⟨v6,v7,v8,mk,ws,rfl,hd,hw,sy,mi,hm,m200⟩;have lw:=J15 ws;refine ⟨_,rfl,Nat.zero_le _,fun el hel=>?_⟩;have u2:=J4 (o:=.lst []) hel;have hdE:=u2 _ _ hd;have hwE:=u2 _ _ hw;have sE:=sy.trans u2;have hel':=J0 (H:=Hy) (a:=el) (o:=.lst []);generalize upd Hy el (.lst [])=Hz at *;refine ⟨wl,el,nV ws,[],rfl,rfl,SqL.of hwE,SqL.of hel',Kin.ints (natI ws) [],_,rfl,?_⟩;by_cases cw:ws=[]
    ·subst cw;refine iteNS rfl ?_;have md:=marks_done r hms mi.me mi.lo mi.up fun x hx m lx p hp=>mi.cl x hx m lx (fun z=>by cases z) p ((hm2 p).mpr hp) (fun z=>z);refine ⟨_,rfl,_,_,rfl,rfl,some (.int (e:Int)),some (.ref wl),v6,v7,v8,?_,?_,sE⟩
     ·rw [J2y,if_pos cl,<- ce];rfl
     ·rw [hdE]
      congr 2
      exact J2u c md
    ·refine iteNN (fun z=>cw ?_) ?_
     ·have:=congrArg List.length z;rw [lw] at this;exact List.length_eq_zero_iff.mp this
     refine ⟨_,fun _ _ h=>h,?_⟩;obtain ⟨ws',w,ews⟩:=snoc_of cw;obtain ⟨hwN,hwL⟩:=mi.wm w (by rw [ews];exact mem_append_right _ (mem_singleton.mpr rfl));have eL':nV ws=nV ws' ++ [V.int (w:Nat)]:=by rw [ews,nV_app];rfl
     have hy:(nV ws)[(nV ws).length - 1]?=some (V.int (w:Nat)):=by
      rw [eL',length_append];exact List.getElem?_concat_length
     have hdr:(nV ws).dropLast=nV ws':=by rw [eL',List.dropLast_concat]
     have lws:ws.length=ws'.length + 1:=by rw [ews,length_append];rfl
     refine ⟨_,rfl,.inl ⟨rfl,_,SqL.of hwE⟩,wl,nV ws,_,rfl,rfl,hwE,hy,?_⟩;rw [hdr];have nwd:dl≠wl:=fun z=>by
      rw [z] at hd1;rw [hd1] at hwl;cases hwl
     have hd2:upd Hz wl (.lst (nV ws')) dl=some (.lst (dueV c mk N)):=by rw [Jb nwd];exact hdE
     have hw2:=J0 (H:=Hz) (a:=wl) (o:=.lst (nV ws'));have s2':Same H2 (upd Hz wl (.lst (nV ws'))):=fun b o z=>by
      rw [Jb (J3 z nwl)];exact sE _ _ z
     have mi2:MarkI N ms L e mk ws' (fun x p=>x=w/\p ∉ ms.take 0):=by
      refine ⟨mi.me,mi.lo,mi.up,fun v hv=>mi.wm v (by rw [ews];exact mem_append_left _ hv),fun x hx m lx nx p hp no=>?_⟩;by_cases z:x=w
      ·exact absurd ⟨z,by rw [List.take_zero];exact fun h=>by cases h⟩ no
      ·refine mi.cl x hx m lx (fun h=>?_) p hp (fun h=>h);rw [ews] at h;rcases mem_append.mp h with h | h
       ·exact nx h
       ·exact z (mem_singleton.mp h)
     generalize upd Hz wl (.lst (nV ws'))=Ha at *;have push:∀ (y:Nat) (mk:Nat->Bool) (ws:List Nat) (Hv:Hp) (op:Nat->Nat × Nat->Prop),y < N->L.getD y 0=e->mk y=false->Hv dl=some (.lst (dueV c mk N))->Hv wl=some (.lst (nV ws))->Same H2 Hv->MarkI N ms L e mk ws op->2 * unm mk N + ws.length < m->
       upd Hv dl (.lst ((dueV c mk N).set y (V.int (c.getD e 0:Nat)))) wl=some (.lst (nV ws))/\(nV ws).length < sizeLine/\
       upd (upd Hv dl (.lst ((dueV c mk N).set y (V.int (c.getD e 0:Nat))))) wl (.lst (nV ws ++ [V.int (y:Nat)])) dl=some (.lst (dueV c (markF mk y) N))/\
       upd (upd Hv dl (.lst ((dueV c mk N).set y (V.int (c.getD e 0:Nat))))) wl (.lst (nV ws ++ [V.int (y:Nat)])) wl=some (.lst (nV (ws ++ [y])))/\
       Same H2 (upd (upd Hv dl (.lst ((dueV c mk N).set y (V.int (c.getD e 0:Nat))))) wl (.lst (nV ws ++ [V.int (y:Nat)])))/\
       MarkI N ms L e (markF mk y) (ws ++ [y]) op/\2 * unm (markF mk y) N + (ws ++ [y]).length < m:=fun y mk ws Hv op hy ly my hd hw sv mi hm=>by
      have cy:c.getD e 0=c.getD y 0:=by rw [ce,hc y hy,ly]
      have u:=unm_mark hy my;refine ⟨by rw [Jb nwd.symm];exact hw,by rw [J15];exact Jg (by omega),?_,?_,fun b o z=>?_,mi.mark hy ly,?_⟩
      ·rw [Jb nwd,J0,cy,dueV_set c mk hy]
      ·rw [J0,nV_app];rfl
      ·rw [Jb (J3 z nwl),Jb (J3 z hdl)];exact sv _ _ z
      ·rw [length_append];show _ + (ws.length + 1) < m;omega
     refine ⟨_,rfl,ml,rfl,⟨_,SqL.of (s2' _ _ hml2)⟩,J3i (K:=K) (a:=ml) (xs:=zs) (fun i σ Hw=>∃ (v7 v8:Option V) (mk:Nat->Bool) (ws:List Nat),σ=[some (.ref l),some (.ref ml),some (.ref dl),some (.int (c.getD e 0:Nat)),some (.int (e:Int)),some (.ref wl),some (.int (w:Nat)),v7,v8]/\Hw dl=some (.lst (dueV c mk N))/\Hw wl=some (.lst (nV ws))/\Same H2 Hw/\MarkI N ms L e mk ws (fun x p=>x=w/\p ∉ ms.take i)/\2 * unm mk N + ws.length < m)
      ⟨_,_,mk,ws',rfl,hd2,hw2,s2',mi2,by omega⟩ (fun i σ Hw _ ⟨_,_,_,_,_,_,_,sw,_⟩=>SqL.of (sw _ _ hml2)) ?_ ?_⟩
     ·rintro i v σ Hv hv ⟨v7,v8,mk,ws,rfl,hd,hw,sv,mi,hlt⟩;have hi:i < ms.length:=by rw [<- lzs];exact (List.getElem?_eq_some_iff.mp hv).1
      obtain ⟨q,e1,e2⟩:=tz2.at_ i (pairL ms[i]) (by rw [getElem?_map,List.getElem?_eq_getElem hi];rfl);obtain rfl:V.ref q=v:=Option.some.inj (e1.symm.trans hv);obtain ⟨pr,epr⟩:∃ pr,pr=ms[i]:=⟨_,rfl⟩;have hpm:pr∈ms:=by rw [epr];exact getElem_mem hi
      have tks:ms.take (i + 1)=ms.take i ++ [pr]:=by rw [List.take_succ,List.getElem?_eq_getElem hi,epr];rfl
      rw [<- epr] at e2;obtain ⟨h1N,h2N⟩:=hms pr ((hm2 pr).mp hpm);have eqL:=r.eq pr ((hm2 pr).mp hpm);refine ⟨q,_,rfl,SqT.of (sv _ _ e2),rfl,_,_,rfl,_,_,rfl,rfl,?_⟩;refine ⟨fun σ' H'=>∃ (mk:Nat->Bool) (ws:List Nat),σ'=[some (.ref l),some (.ref ml),some (.ref dl),some (.int (c.getD e 0:Nat)),some (.int (e:Int)),some (.ref wl),some (.int (w:Nat)),some (.int (pr.1:Nat)),some (.int (pr.2:Nat))]/\H' dl=some (.lst (dueV c mk N))/\H' wl=some (.lst (nV ws))/\Same H2 H'/\MarkI N ms L e mk ws (fun x p=>x=w/\p ∉ ms.take i)/\2 * unm mk N + ws.length < m/\(w=pr.1->mk pr.2=true),?_,?_⟩
      ·refine ⟨_,rfl,_,rfl,rfl,_,rfl,?_⟩;by_cases c1:w=pr.1
       ·refine iteDT (by rw [c1]) ?_;refine ⟨_,rfl,_,rfl,dl,_,_,_,rfl,rfl,SqL.of hd,Js (J2v c mk h2N),rfl,_,rfl,?_⟩
        cases my:mk pr.2 with
        | false =>
         rw [if_neg Bool.false_ne_true];refine iteDT rfl ?_;obtain ⟨p1,p2,p3,p4,p5,p6,p7⟩:=push pr.2 mk ws Hv _ h2N (by rw [<- eqL,<- c1];exact hwL) my hd hw sv mi hlt;refine ⟨_,rfl,_,rfl,_,rfl,dl,_,_,pr.2,rfl,rfl,hd,by rw [Jz];exact ixN_nat h2N,?_⟩;exact ⟨_,rfl,.inl ⟨rfl,_,SqL.of p1⟩,_,rfl,wl,nV ws,_,rfl,rfl,p1,p2,_,_,rfl,p3,p4,p5,p6,p7,fun _=>J2a _ _⟩
        | true =>
         rw [if_pos rfl];exact iteD (by intro z;cases z) ⟨mk,ws,rfl,hd,hw,sv,mi,hlt,fun _=>my⟩
       ·exact iteD (vint_ne (by omega)) ⟨mk,ws,rfl,hd,hw,sv,mi,hlt,fun z=>absurd z c1⟩
      rintro σ' Hb ⟨mk,ws,rfl,hd,hw,sv,mi,hlt,hA⟩;have fin:∀ {mk:Nat->Bool} {ws:List Nat},MarkI N ms L e mk ws (fun x p=>x=w/\p ∉ ms.take i)->(w=pr.1->mk pr.2=true)->(w=pr.2->mk pr.1=true)->MarkI N ms L e mk ws (fun x p=>x=w/\p ∉ ms.take (i + 1)):=fun {mk ws} mi hA hB=>by
       refine ⟨mi.me,mi.lo,mi.up,mi.wm,fun x hx m lx nx p hp no=>?_⟩;by_cases z:x=w/\p ∉ ms.take i
       ·have hpp:p=pr:=by
         refine Classical.byContradiction fun ne=>no ⟨z.1,?_⟩;rw [tks];intro h;rcases mem_append.mp h with h | h
         ·exact z.2 h
         ·exact ne (mem_singleton.mp h)
        rw [hpp,z.1];exact ⟨fun h=>hA h.symm,fun h=>hB h.symm⟩
       ·exact mi.cl x hx m lx nx p hp z
      refine ⟨_,rfl,_,rfl,rfl,_,rfl,?_⟩;by_cases c1:w=pr.2
      ·refine iteDT (by rw [c1]) ?_;refine ⟨_,rfl,_,rfl,dl,_,_,_,rfl,rfl,SqL.of hd,Js (J2v c mk h1N),rfl,_,rfl,?_⟩
       cases my:mk pr.1 with
       | false =>
        rw [if_neg Bool.false_ne_true];refine iteDT rfl ?_;obtain ⟨p1,p2,p3,p4,p5,p6,p7⟩:=push pr.1 mk ws Hb _ h1N (by rw [eqL,<- c1];exact hwL) my hd hw sv mi hlt;refine ⟨_,rfl,_,rfl,_,rfl,dl,_,_,pr.1,rfl,rfl,hd,by rw [Jz];exact ixN_nat h1N,?_⟩;exact ⟨_,rfl,.inl ⟨rfl,_,SqL.of p1⟩,_,rfl,wl,nV ws,_,rfl,rfl,p1,p2,_,_,_,_,rfl,p3,p4,p5,fin p6 (fun z=>J20 (hA z)) (fun _=>J2a _ _),p7⟩
       | true =>
        rw [if_pos rfl];exact iteD (by intro z;cases z) ⟨_,_,mk,ws,rfl,hd,hw,sv,fin mi hA (fun _=>my),hlt⟩
      ·exact iteD (vint_ne (by omega)) ⟨_,_,mk,ws,rfl,hd,hw,sv,fin mi hA (fun z=>absurd z c1),hlt⟩
     ·rintro σ Hv ⟨v7,v8,mk,ws,rfl,hd,hw,sv,mi,hlt⟩;rw [lzs,List.take_length] at mi;exact ⟨2 * unm mk N + ws.length,hlt,_,_,_,mk,ws,rfl,hd,hw,sv,⟨mi.me,mi.lo,mi.up,mi.wm,fun x hx m lx nx p hp _=>mi.cl x hx m lx nx p hp (fun z=>z.2 hp)⟩,rfl,by omega⟩
   ·rw [if_pos (decide_eq_true (by omega))];refine iteD (by intro z;cases z) ?_;refine ⟨some (.int (e:Int)),v5,v6,v7,v8,?_,?_,sw⟩
    ·rw [J2y,if_neg cl,Nat.add_zero];rfl
    ·rw [hd]
     congr 2
     refine J2u c fun x hx=>decide_eq_decide.mpr ⟨fun z=>by omega,fun z=>?_⟩;have:L.getD x 0≠e:=fun z=>cl (by have:=r.self hx;rwa [z] at this);omega
  ·rintro σ Hw ⟨v4,v5,v6,v7,v8,rfl,hd,sw⟩;refine ⟨_,rfl,k dl Hw (s12.trans sw) ?_⟩;rw [hd]
   congr 2
   unfold dueV;rw [nV_eq];refine ext_getElem (by rw [length_map,length_map,length_range,lc]) fun i a b=>?_;have hi:i < N:=by rw [length_map,length_range] at a;exact a
   rw [getElem_map,getElem_map,List.getElem_range,if_pos (decide_eq_true (r.lt hi))];rw [getD_eq_getElem?_getD,List.getElem?_eq_getElem (by omega)];rfl
def spLaw (K:Frag):Sp:=fun vs H Q _=>∃ (a:Addr) (ns:List Int),vs=[.ref a]/\SqL K H a (iV ns)/\ns.length<=63/\∀ H',Q (.bl true) H'
theorem scLaw:FnScope ["script","many","order","handed","found","due","piece","turns","corner","handles"] ["script"] (J8 sLaw):=fS
theorem ok_law {f fC fLR fLN fLD fCS fCT fHA :Addr} {fd fdC fdLR fdLN fdLD fdCS fdCT fdHA:FuncData}  (F:Fun K "law" "law" sLaw f fd) (T:TxtR mg) (hisi:mg "isinstance"=none) (hint:mg "int"=none) (hmax:mg "max"=none)
  (GC:FnOk P w K mg base CX0 1 fC fdC ["script","k"] (spCell K)) (bC:Binds K fdC ["script","k"] []) (mC:mg "_law_cell"=some (.ref fC)) (kC:keepIn K (.ref fC)=true)
  (GLR:FnOk P w K mg base CX0 2 fLR fdLR ["script","first","many"] (spOrderS K)) (bLR:Binds K fdLR ["script","first","many"] []) (mLR:mg "_law_order"=some (.ref fLR)) (kLR:keepIn K (.ref fLR)=true)
  (GLN:FnOk P w K mg base CX0 1 fLN fdLN ["found","many"] spNumL) (bLN:Binds K fdLN ["found","many"] []) (mLN:mg "_law_numbers"=some (.ref fLN)) (kLN:keepIn K (.ref fLN)=true)
  (GLD:FnOk P w K mg base CX0 2 fLD fdLD ["order"] spDue) (bLD:Binds K fdLD ["order"] []) (mLD:mg "_law_due"=some (.ref fLD)) (kLD:keepIn K (.ref fLD)=true)
  (GCS:FnOk P w K mg base CX0 5 fCS fdCS ["order"] spCornS) (bCS:Binds K fdCS ["order"] []) (mCS:mg "corner_ends"=some (.ref fCS)) (kCS:keepIn K (.ref fCS)=true)
  (GCT:FnOk P w K mg base CX0 6 fCT fdCT ["order"] spCornT) (bCT:Binds K fdCT ["order"] []) (mCT:mg "corner_turns"=some (.ref fCT)) (kCT:keepIn K (.ref fCT)=true)
  (GHA:FnOk P w K mg base CX0 6 fHA fdHA ["order"] spHandles) (bHA:Binds K fdHA ["order"] []) (mHA:mg "handles_of"=some (.ref fHA)) (kHA:keepIn K (.ref fHA)=true) :
  FnOk P w K mg base CX0 7 f fd ["script"] (spLaw K):=by
 refine F.ok scLaw (fun vs H Q E h=>?_) (fun cdv A outer s H vs Q E hr h=>?_)
 ·obtain ⟨a,ns,rfl,_⟩:=h;rfl
 ·obtain ⟨a,ns,rfl,hS,hn,k⟩:=h;have hr1:Room 1 _:=rm hr;have hr2:Room 2 _:=rm hr;have hr5:Room 5 _:=rm hr;have hr6:Room 6 _:=rm hr;have hu:=hr.units0;refine ⟨_,(J2 (Jm (i:=1) scLaw.nd rfl (Or.inl rfl) (pe_op J17 J7 (pe_op op_mod (Jd GC hr1 rfl mC kC bC .nil pass0 (pa_cons (pv 0) (pa_cons J7 J1))) J7)))
   (J2 (Jm (i:=2) scLaw.nd rfl (Or.inl rfl) (Jd GLR hr2 rfl mLR kLR bLR .nil pass0 (pa_cons (pv 0) (pa_cons J7 (pa_cons (pv 1) J1)))))
   (J2 (ps_cut (Jm (i:=3) scLaw.nd rfl (Or.inl rfl) (pe_ix ix_list (J2s (pa_cons (Jk J19 (by rfl) T.list boot_list (pa_cons (pv 2) J1)) (pa_cons (Jk call_tup (by rfl) T.tuple boot_tuple (pa_cons (pv 2) J1)) J1))) (pe_op op_mod (pe_op op_fdiv (Jd GC hr1 rfl mC kC bC .nil pass0 (pa_cons (pv 0) (pa_cons J7 J1))) J7) J7) (fun _ _=>rfl))))
   (J2 (Jm (i:=4) scLaw.nd rfl (Or.inl rfl) (Jd GCS hr5 rfl mCS kCS bCS .nil pass0 (pa_cons (pv 3) J1)))
   (J2 (ps_if (PW.pt (pw_or (pt_not (J39 (Ja (J14 rfl) (by rfl) hisi boot_isinstance (pa_cons (pv 4) (pa_cons (pe_bltn (v:=.ty "tuple") rfl T.tuple boot_tuple rfl) J1))))) (pw_or (Ji op_ne (Ja J6 (by rfl) T.len boot_len (pa_cons (pv 4) J1)) J7 (Jq _)) (J38 (Ji (op_neL hu) (Jk J19 (by rfl) T.list boot_list (pa_cons (pv 3) J1)) (pv 2) (Jq _)))))) (J9 (Jn pe_bl)) Ju)
   (J2 (ps_if (PW.pt (pw_or (pt_not (J39 (Jd GLN hr1 rfl mLN kLN bLN .nil pass0 (pa_cons (pe_ix ix_tup (pv 4) J7 (fun _ _=>rfl)) (pa_cons (pv 1) J1))))) (J38 (pt_not (J39 (Jd GLN hr1 rfl mLN kLN bLN .nil pass0 (pa_cons (pe_ix ix_tup (pv 4) J7 (fun _ _=>rfl)) (pa_cons (pv 1) J1)))))))) (J9 (Jn pe_bl)) Ju)
   (J2 (Jm (i:=5) scLaw.nd rfl (Or.inr rfl) (Jd GLD hr2 rfl mLD kLD bLD .nil pass0 (pa_cons (pv 2) J1)))
   (J2 (J2o PassesOwn.never rfl (Jy rfl T.range (pa_cons (pv 1) J1)) (Jv (i:=6) scLaw.nd rfl (Or.inl rfl))
    (J9 (ps_if (PW.pt (pw_or (Ji op_ne (pe_ix ix_list (pe_ix ix_tup (pv 4) J7 (fun _ _=>rfl)) (pv 6) (fun _ _=>rfl)) (pe_ix ix_list (pv 5) (pe_op J16 J7 (pv 6)) (fun _ _=>rfl)) (Jq _)) (J38 (Ji op_ne (pe_ix ix_list (pe_ix ix_tup (pv 4) J7 (fun _ _=>rfl)) (pv 6) (fun _ _=>rfl)) (pe_ix ix_list (pv 5) (pe_op J17 (pe_op J16 J7 (pv 6)) J7) (fun _ _=>rfl)) (Jq _))))) (J9 (Jn pe_bl)) Ju)))
   (J2 (Jm (i:=7) scLaw.nd rfl (Or.inl rfl) (Jd GCT hr6 rfl mCT kCT bCT .nil pass0 (pa_cons (pv 3) J1)))
   (J2 (ps_if (PW.pt (pw_or (pt_not (J39 (Jd GLN hr1 rfl mLN kLN bLN .nil pass0 (pa_cons (pv 7) (pa_cons (pe_op J17 J7 (Ja (call_max rfl) (by rfl) hmax boot_max (pa_cons (pv 5) J1))) J1))))) (J38 (Ji op_ne (Ja (call_sum rfl) (by rfl) T.sum PyProof.Rows.boot_sum (pa_cons (pv 7) J1)) (pe_op J3b (pv 1) J7) (Jq _))))) (J9 (Jn pe_bl)) Ju)
   (J2 (J2o PassesOwn.never rfl (Jy rfl T.range (pa_cons (Ja J6 (by rfl) T.len boot_len (pa_cons (pv 7) J1)) J1)) (Jv (i:=8) scLaw.nd rfl (Or.inr rfl))
    (J9 (ps_if (Ji op_ne (pe_ix ix_list (pv 7) (pv 8) (fun _ _=>rfl)) (Ja J6 (by rfl) T.len boot_len (pa_cons (pe_lc (caps:=["due","corner"]) (js:=[5,8]) rfl (Jy rfl T.range (pa_cons (pe_op J3b (pv 1) J7) J1)) rfl (fun _ _ _ _=>(pts_one (Ji op_eq (pe_ixr (ix_listK K) (pv 1) (pe_op J17 (pe_op J16 J7 (pv 0)) J7)) (pv 2) (Jq _)))) (fun C fp s H=>(pv 0)) (by decide +kernel) (by decide +kernel) (by decide +kernel) (by intro p hp;simp only [mem_cons,not_mem_nil,or_false] at hp;rcases hp with rfl | rfl <;> rfl)) J1)) (Jq _)) (J9 (Jn pe_bl)) Ju)))
   (J2 (Jm (i:=9) scLaw.nd rfl (Or.inl rfl) (Jd GHA hr6 rfl mHA kHA bHA .nil pass0 (pa_cons (pv 3) J1)))
   (J9 (Jn (pe_and (Jd GLN hr1 rfl mLN kLN bLN .nil pass0 (pa_cons (J2s (pa_cons (pv 9) J1)) (pa_cons J7 J1))) (pe_and (pe_cmpR op_eq (pe_op J16 J7 (pv 9)) (pe_op J3b (pe_op J17 (pv 1) J7) (Ja J6 (by rfl) T.len boot_len (pa_cons (pv 7) J1))) (Jq _)) (pe_one (pe_cmpR (op_eqL hu) (Jk J19 (by rfl) T.list boot_list (pa_cons (pv 3) J1)) (pv 2) (Jq _))))))))))))))))))),?_⟩
  have c0:=Int.emod_nonneg (cellN ns 0) (show (24:Int)≠0 by decide);have c1:=Int.emod_lt_of_pos (cellN ns 0) (show (0:Int) < 24 by decide);obtain ⟨many,em⟩:∃ many:Nat,1 + cellN ns 0 % 24=(many:Int):=⟨(1 + cellN ns 0 % 24).toNat,by omega⟩;refine ⟨_,rfl,a,ns,0,rfl,hS,_,_,rfl,rfl,(by show (0:Int) < 24;decide),_,_,rfl,rfl,?_⟩;dsimp only;rw [em];refine ⟨_,rfl,_,rfl,a,ns,1,many,rfl,hS,by omega,fun ol H1 os s1 hol nol io lo=>?_⟩;have hS1:=s1.seq hS;have h1:1<=os.length:=by omega
  have h24:os.length<=24:=by omega
  refine ⟨fun σ' H'=>∃ hq,σ'=[some (.ref a),some (.int many),some (.ref ol),some (.ref hq),none,none,none,none,none,none]/\SqH H' hq (nV os)/\Same H1 H',?_,?_⟩
  ·refine ⟨_,rfl,ol,_,rfl,.inl (SqL.of hol),fun l1 hl1=>?_⟩;have u1:=J4 (o:=.lst (nV os)) hl1;refine ⟨_,rfl,rd_tuple (.inl (u1 _ _ hol)) fun t1 H2 u2 ht1=>?_⟩;refine ⟨(by show 2<=sizeLine;decide),fun pl hpl=>?_⟩;have u3:=J4 (o:=.lst [V.ref l1,V.ref t1]) hpl;have u13:=u1.trans (u2.trans u3);refine ⟨_,rfl,a,ns,0,rfl,u13.seq hS1,_,_,rfl,rfl,⟨by decide,by decide⟩,_,_,rfl,rfl,(by show (0:Int) < 2;decide),?_⟩;rcases (show cellN ns 0 / 24 % 2=0\/cellN ns 0 / 24 % 2=1 by omega) with e | e
   ·refine ⟨pl,_,_,_,rfl,rfl,SqL.of J0,(by rw [e];rfl),l1,rfl,.inl ((u2.trans u3) _ _ J0),u13⟩
   ·refine ⟨pl,_,_,_,rfl,rfl,SqL.of J0,(by rw [e];rfl),t1,rfl,.inr (u3 _ _ ht1),u13⟩
  rintro σ' H2 ⟨hq,rfl,hsq,s2⟩;have hol2:=s2 _ _ hol;have r:=J13 io h1;have lc:(cornO os).length=2 * os.length:=by unfold cornO;rw [length_map,r.len]
  have lf:(fixL (Jc os)).length<=2 * os.length:=by
   have:(fixL (Jc os)).length<=(Jc os).length:=(Jo (Jc os)).length_le_of_subset fun x hx=>(Jt r.idem x).mp hx;rwa [r.len] at this
  have lt:(turnsO os).length=(fixL (Jc os)).length:=by unfold turnsO;exact length_map ..
  have l0:(stepL 0 (cornO os)).length=os.length:=by rw [step0_eq,length_map,length_range,lc];omega
  have lo1:(oddsO (cornO os)).length=os.length:=by rw [J1n,lc];omega
  have g0:∀ i,i < os.length->atI (nV (stepL 0 (cornO os))) (i:Int)=some (V.int ((cornO os).getD (2 * i) 0:Nat)):=fun i h=>by
   rw [Js (nV_at (by rw [l0];exact h)),step0_eq]
   congr 3
   rw [getD_eq_getElem?_getD,getElem?_map,getElem?_range (by rw [lc];omega)];rfl
  have g1:∀ i,i < os.length->atI (nV (oddsO (cornO os))) (i:Int)=some (V.int ((cornO os).getD (2 * i + 1) 0:Nat)):=fun i h=>by
   rw [Js (nV_at (by rw [lo1];exact h)),odds_at]
  have d0:∀ i:Nat,i < os.length->atI (nV (cornO os)) ((2:Int) * (i:Int))=some (V.int ((cornO os).getD (2 * i) 0:Nat)):=fun i h=>by
   rw [show (2:Int) * (i:Int)=((2 * i:Nat):Int) by omega];exact Js (nV_at (by omega))
  have d1:∀ i:Nat,i < os.length->atI (nV (cornO os)) ((2:Int) * (i:Int) + 1)=some (V.int ((cornO os).getD (2 * i + 1) 0:Nat)):=fun i h=>by
   rw [show (2:Int) * (i:Int) + 1=((2 * i + 1:Nat):Int) by omega];exact Js (nV_at (by omega))
  refine ⟨_,rfl,hq,os,rfl,hsq,io,h1,h24,fun t ca cb H3 s3 ht ha hb=>?_⟩;refine ⟨_,rfl,_,.ty "tuple",.type "tuple",.type "tuple",true,rfl,rfl,fun v h=>h,.tup ht,rfl,true,rfl,iteF ?_⟩;refine ⟨_,rfl,t,_,rfl,.inr (SqT.of ht),rfl,_,rfl,iteNS rfl ?_⟩;refine ⟨_,rfl,hq,_,rfl,(hsq.same s3).sq,fun l5 hl5=>?_⟩;have s5:=J4 (o:=.lst (nV os)) hl5;refine ⟨_,rfl,l5,ol,_,_,rfl,rfl,SqL.of J0,SqL.of ((s3.trans s5) _ _ hol2),Kin.ints _ _,_,rfl,iteNS rfl ?_⟩;have ht5:=s5 _ _ ht;have ha5:=s5 _ _ ha;have hb5:=s5 _ _ hb;have hol5:=(s3.trans s5) _ _ hol2;have hsq5:=hsq.same (s3.trans s5);generalize upd H3 l5 (.lst (nV os))=H5 at *;refine ⟨_,rfl,t,_,_,_,rfl,rfl,SqT.of ht5,(by rfl),_,rfl,ca,_,_,rfl,ha5,by rw [l0,lo],_,rfl,iteF ?_⟩;refine ⟨_,rfl,t,_,_,_,rfl,rfl,SqT.of ht5,(by rfl),_,rfl,cb,_,_,rfl,hb5,by rw [lo1,lo],_,rfl,iteF ?_⟩;refine ⟨_,rfl,ol,os,rfl,hol5,io,h1,h24,fun dl H6 s6 hdl=>?_⟩;have ht6:=s6 _ _ ht5;have ha6:=s6 _ _ ha5;have hb6:=s6 _ _ hb5;have hol6:=s6 _ _ hol5;have hsq6:=hsq5.same s6;refine ⟨_,rfl,_,rfl,by omega,by omega,?_⟩;rw [Int.toNat_natCast];refine J1c (lo:=0) (n:=many) (fun i σ Hw=>∃ v6:Option V,σ=[some (.ref a),some (.int many),some (.ref ol),some (.ref hq),some (.ref t),some (.ref dl),v6,none,none,none]/\Hw=H6) ⟨none,rfl,rfl⟩ ?_ ?_
  ·rintro i σ Hw hi ⟨v6,rfl,rfl⟩;rw [Int.zero_add];refine ⟨_,rfl,t,_,_,_,rfl,rfl,SqT.of ht6,(by rfl),_,rfl,ca,_,_,_,rfl,rfl,SqL.of ha6,g0 i (by omega),_,rfl,_,rfl,_,_,rfl,rfl,.inl ⟨by decide,by decide⟩,dl,_,_,_,rfl,rfl,SqL.of hdl,d0 i (by omega),rfl,_,rfl,iteNS rfl ?_⟩;refine ⟨_,rfl,t,_,_,_,rfl,rfl,SqT.of ht6,(by rfl),_,rfl,cb,_,_,_,rfl,rfl,SqL.of hb6,g1 i (by omega),_,rfl,_,rfl,_,_,rfl,rfl,.inl ⟨by decide,by decide⟩,_,_,rfl,rfl,dl,_,_,_,rfl,rfl,SqL.of hdl,d1 i (by omega),rfl,_,rfl,iteNS rfl ?_⟩;exact ⟨_,rfl,rfl⟩
  rintro σ Hw ⟨v6,rfl,rfl⟩;refine ⟨_,rfl,hq,os,rfl,hsq6,io,h1,h24,fun tl H7 s7 htl=>?_⟩;have hdl7:=s7 _ _ hdl;refine ⟨_,rfl,_,rfl,dl,natI (cornO os),rfl,.inl (SqL.of hdl7),by rw [J18];omega,fun M hM ha=>⟨_,_,rfl,rfl,?_⟩⟩;obtain ⟨m,hm,rfl⟩:=mem_map.mp hM;have e:=corn_max io h1 hm fun c hc=>by have:=ha _ (mem_map.mpr ⟨c,hc,rfl⟩);omega
  have e2:(1:Int) + (m:Int)=((turnsO os).length:Nat):=by omega
  dsimp only;rw [e2];refine ⟨tl,turnsO os,_,rfl,htl,rfl,_,rfl,iteF ?_⟩;have es:(natI (turnsO os)).sum=((turnsO os).sum:Nat):=by
   unfold natI;generalize turnsO os=q
   induction q with
   | nil=>rfl
   | cons x q ih=>rw [map_cons,sum_cons,sum_cons,ih];omega
  have ts:=turns_sum io h1;refine ⟨_,rfl,tl,natI (turnsO os),rfl,.inl (SqL.of htl),_,rfl,_,_,rfl,rfl,rfl,_,rfl,iteNS (congrArg V.int (by rw [es,ts];omega)) ?_⟩;have ltn:=J15 (turnsO os);refine ⟨_,rfl,tl,_,rfl,.inl (SqL.of htl),_,rfl,by omega,by omega,?_⟩;rw [ltn,Int.toNat_natCast];refine J1c (lo:=0) (n:=(turnsO os).length) (fun i σ Hw=>∃ v8:Option V,σ=[some (.ref a),some (.int many),some (.ref ol),some (.ref hq),some (.ref t),some (.ref dl),v6,some (.ref tl),v8,none]/\Same H7 Hw) ⟨none,rfl,Same.refl _⟩ ?_ ?_
  ·rintro i σ Hw hi ⟨v8,rfl,sw⟩;rw [Int.zero_add];refine ⟨_,rfl,_,rfl,tl,_,_,_,rfl,rfl,SqL.of (sw _ _ htl),Js (nV_at hi),?_⟩;refine ⟨_,rfl,_,_,rfl,rfl,_,rfl,by omega,by omega,fun d hd'=>?_⟩;have en:((many:Int) - 1).toNat=os.length - 1:=by omega
   rw [en];refine lc_rng 0 (os.length - 1) (fun p=>decide ((cornO os).getD (2 * p + 1) 0=i)) (fun p=>V.int (0 + (p:Int))) (by omega) hd' (fun p hp H3 Qt s3 kt=>?_) (fun p hp H3 Qe _ s3 ke=>⟨_,rfl,ke _ (Same.refl _)⟩) (fun H3 s3 hd3=>?_)
   ·rw [Int.zero_add];refine ⟨_,rfl,_,rfl,_,_,rfl,rfl,.inl ⟨by decide,by decide⟩,_,_,rfl,rfl,dl,_,_,_,rfl,rfl,SqL.of (s3 _ _ (sw _ _ hdl7)),d1 p (by omega),_,rfl,rfl,_,rfl,?_⟩;have e:decide (V.int (((cornO os).getD (2 * p + 1) 0:Nat):Int)=V.int (i:Int))=decide ((cornO os).getD (2 * p + 1) 0=i):=decide_eq_decide.mpr ⟨fun z=>by have:=V.int.inj z;omega,fun z=>by rw [z]⟩;exact e ▸ kt _ (Same.refl _)
   ·refine ⟨d,_,rfl,.inl (SqL.of hd3),rfl,_,rfl,iteNS ?_ ⟨_,rfl,sw.trans s3⟩⟩;rw [length_map,turns_at io h1 hi]
  rintro σ Hw ⟨v8,rfl,sw⟩;refine ⟨_,rfl,hq,os,rfl,hsq6.same (s7.trans sw),io,h1,h24,fun H8 s8=>?_⟩;have cp:=corners_par io h1;have cle:=corners_le io h1;obtain ⟨g,eg⟩:∃ g:Nat,((os.length:Int) - ((fixL (Jc os)).length:Nat) + 1) / 2=(g:Int):=⟨(((os.length:Int) - ((fixL (Jc os)).length:Nat) + 1) / 2).toNat,by omega⟩;rw [eg];refine ⟨_,rfl,(by show 1<=sizeLine;decide),fun gl hgl=>?_⟩;have s9:=J4 (o:=.lst [V.int (g:Int)]) hgl;refine ⟨gl,[g],1,rfl,J0,rfl,_,rfl,iteT ?_⟩;have s79:=sw.trans (s8.trans s9);refine ⟨_,rfl,_,_,rfl,rfl,.inl ⟨by decide,by decide⟩,_,rfl,_,_,rfl,rfl,_,rfl,tl,_,rfl,.inl (SqL.of (s79 _ _ htl)),_,_,rfl,rfl,rfl,_,rfl,?_⟩;refine iteDT (congrArg V.int (by rw [ltn,lt];omega)) ?_;refine ⟨_,rfl,hq,_,rfl,(hsq6.same (s7.trans s79)).sq,fun lz hlz=>?_⟩;have s10:=J4 (o:=.lst (nV os)) hlz;refine ⟨_,rfl,lz,ol,_,_,rfl,rfl,SqL.of J0,SqL.of ((s7.trans (s79.trans s10)) _ _ hol6),Kin.ints _ _,?_⟩;rw [decide_eq_true rfl];exact k _
end
end R64
namespace R64
open PySem L2 Rl
theorem kib (K:Frag):kitOne K (.type "int") (.type "bool")=some false:=by kernel_rfl
abbrev DfI (K:Frag) (x:Str) (st:Stmt) (f:Addr) (od an:Option Addr) (sl:Array (Option Value)) (oc kV dc pm cd ct:Value):Prop:=nsIn K mainGlobals x=some (some (.ref f))/\K.lookup f=some ⟨oc,od,.func (fnOf x x (J1u st) (J1e st) (J8 st) .none kV dc pm an cd ct),sl⟩/\codeIn K cd x=true/\keepIn K (.ref f)=true
abbrev NzI (K:Frag) (x:Str):Prop:=nsIn K mainGlobals x=some none
theorem dfn {K:Frag} {h:Heap} {mg:Str->Option Value} (X:K.In h) (G:h.Ns mainGlobals mg) {x:Str} {st:Stmt} {f:Addr} {od an:Option Addr} {sl:Array (Option Value)} {oc kV dc pm cd ct:Value} (d:DfI K x st f od an sl oc kV dc pm cd ct) :
  Fun K x x st f (fnOf x x (J1u st) (J1e st) (J8 st) .none kV dc pm an cd ct)/\mg x=some (.ref f)/\keepIn K (.ref f)=true:=⟨fun_mk d.2.1 d.2.2.1 d.2.2.2,mg_of X G d.1,d.2.2.2⟩
theorem usOf0 {P:List PySem.Value → Prop} (h : P []) : ∀ us : List PySem.Value,us.length = 0 → P us := fun us e => by
  cases us with
  | nil => exact h
  | cons a l => cases e
theorem usS {P:List PySem.Value → Prop} {n : Nat} (h : ∀ a us,us.length = n → P (a :: us)) : ∀ us : List PySem.Value,us.length = n + 1 → P us := fun us e => by
  cases us with
  | nil => cases e
  | cons a l => exact h a l (Nat.succ.inj e)
theorem usOf1 {P:List PySem.Value → Prop} (h : ∀ a0,P [a0]) : ∀ us : List PySem.Value,us.length = 1 → P us := usS fun a => usOf0 (P := fun us => P (a :: us)) (h a)
theorem usOf2 {P:List PySem.Value → Prop} (h : ∀ a0 a1,P [a0,a1]) : ∀ us : List PySem.Value,us.length = 2 → P us := usS fun a => usOf1 (P := fun us => P (a :: us)) (h a)
theorem usOf3 {P:List PySem.Value → Prop} (h : ∀ a0 a1 a2,P [a0,a1,a2]) : ∀ us : List PySem.Value,us.length = 3 → P us := usS fun a => usOf2 (P := fun us => P (a :: us)) (h a)
theorem all_mk {l : PySem.W.OpenLaw} {w : World} {K : Frag} {h : Heap} {mg : Str -> Option Value} {fa  CBadOrder : Addr} (X : K.In h) (G : h.Ns mainGlobals mg) (hfa : mg "law" = some (.ref fa))
    {f0 f1 f2 f3 f4 f5 f6 f7 f8 f9 f10 f11 f12 f13 f14 f15 f16 f17 : Addr} {od0 an0 od1 an1 od2 an2 od3 an3 od4 an4 od5 an5 od6 an6 od7 an7 od8 an8 od9 an9 od10 an10 od11 an11 od12 an12 od13 an13 od14 an14 od15 an15 od16 an16 od17 an17 : Option Addr} {sl0 sl1 sl2 sl3 sl4 sl5 sl6 sl7 sl8 sl9 sl10 sl11 sl12 sl13 sl14 sl15 sl16 sl17 : Array (Option Value)} {oc0 kV0 dc0 pm0 cd0 ct0 oc1 kV1 dc1 pm1 cd1 ct1 oc2 kV2 dc2 pm2 cd2 ct2 oc3 kV3 dc3 pm3 cd3 ct3 oc4 kV4 dc4 pm4 cd4 ct4 oc5 kV5 dc5 pm5 cd5 ct5 oc6 kV6 dc6 pm6 cd6 ct6 oc7 kV7 dc7 pm7 cd7 ct7 oc8 kV8 dc8 pm8 cd8 ct8 oc9 kV9 dc9 pm9 cd9 ct9 oc10 kV10 dc10 pm10 cd10 ct10 oc11 kV11 dc11 pm11 cd11 ct11 oc12 kV12 dc12 pm12 cd12 ct12 oc13 kV13 dc13 pm13 cd13 ct13 oc14 kV14 dc14 pm14 cd14 ct14 oc15 kV15 dc15 pm15 cd15 ct15 oc16 kV16 dc16 pm16 cd16 ct16 oc17 kV17 dc17 pm17 cd17 ct17 : Value}
     {t_MOST_PIECES : Tok}
    (d0 : DfI K "refuse_order" sRefO f0 od0 an0 sl0 oc0 kV0 dc0 pm0 cd0 ct0) (d1 : DfI K "refuse_order_of" sRefOf f1 od1 an1 sl1 oc1 kV1 dc1 pm1 cd1 ct1) (d2 : DfI K "refuse_pieces" sRefP f2 od2 an2 sl2 oc2 kV2 dc2 pm2 cd2 ct2) (d3 : DfI K "left_end" sLeftE f3 od3 an3 sl3 oc3 kV3 dc3 pm3 cd3 ct3) (d4 : DfI K "right_end" sRightE f4 od4 an4 sl4 oc4 kV4 dc4 pm4 cd4 ct4) (d5 : DfI K "meetings_along" sMeetA f5 od5 an5 sl5 oc5 kV5 dc5 pm5 cd5 ct5) (d6 : DfI K "meetings" sMeets f6 od6 an6 sl6 oc6 kV6 dc6 pm6 cd6 ct6) (d7 : DfI K "corners_by_end" sCornE f7 od7 an7 sl7 oc7 kV7 dc7 pm7 cd7 ct7) (d8 : DfI K "corner_ends" sCornS f8 od8 an8 sl8 oc8 kV8 dc8 pm8 cd8 ct8) (d9 : DfI K "number_of_corners" sCornN f9 od9 an9 sl9 oc9 kV9 dc9 pm9 cd9 ct9) (d10 : DfI K "corner_turns" sCornT f10 od10 an10 sl10 oc10 kV10 dc10 pm10 cd10 ct10) (d11 : DfI K "handles_of" J36 f11 od11 an11 sl11 oc11 kV11 dc11 pm11 cd11 ct11) (d12 : DfI K "_law_cell" sCell f12 od12 an12 sl12 oc12 kV12 dc12 pm12 cd12 ct12) (d13 : DfI K "_law_order" sOrder f13 od13 an13 sl13 oc13 kV13 dc13 pm13 cd13 ct13) (d14 : DfI K "_law_numbers" J35 f14 od14 an14 sl14 oc14 kV14 dc14 pm14 cd14 ct14) (d15 : DfI K "_law_met" sMet f15 od15 an15 sl15 oc15 kV15 dc15 pm15 cd15 ct15) (d16 : DfI K "_law_due" sDue f16 od16 an16 sl16 oc16 kV16 dc16 pm16 cd16 ct16) (d17 : DfI K "law" sLaw f17 od17 an17 sl17 oc17 kV17 dc17 pm17 cd17 ct17) (z_len : NzI K "len") (z_min : NzI K "min") (z_max : NzI K "max") (z_sum : NzI K "sum") (z_sorted : NzI K "sorted") (z_list : NzI K "list") (z_range : NzI K "range") (z_tuple : NzI K "tuple") (z_isinstance : NzI K "isinstance") (z_int : NzI K "int") (z_bool : NzI K "bool") (z_ValueError : NzI K "ValueError") (z_zip : NzI K "zip") (z_set : NzI K "set") (v_MOST_PIECES : nsIn K mainGlobals "MOST_PIECES" = some (some (.int 24 t_MOST_PIECES))) (aBadOrder : nsIn K mainGlobals "BadOrder" = some (some (.ref CBadOrder))) (xBadOrder : excIn K CBadOrder bmV "ValueError.__new__" = true)
    : ∃ fd : FuncData, (∀ (s : Shared) (v : Value), BindsTo s fd ⟨[v], []⟩ [("script", v)]) /\ ∀ base : Heap, K.In base -> base.Ns mainGlobals mg -> FnOk l.prog w K mg base CX0 7 fa fd ["script"] (spLaw K) := by
  have e := hfa.symm.trans (mg_of X G d17.1);cases e;obtain ⟨F0, m0, k0⟩ := dfn X G d0;have b0 := F0.binds (ps := ["order", "pieces"]) fun _ _ _ _ _ _ => usOf2 fun _ _ => rfl
  obtain ⟨F1, m1, k1⟩ := dfn X G d1;have b1 := F1.binds (ps := ["order", "fewest", "most"]) fun _ _ _ _ _ _ => usOf3 fun _ _ _ => rfl
  obtain ⟨F2, m2, k2⟩ := dfn X G d2;have b2 := F2.binds (ps := ["order"]) fun _ _ _ _ _ _ => usOf1 fun _ => rfl
  obtain ⟨F3, m3, k3⟩ := dfn X G d3;have b3 := F3.binds (ps := ["piece"]) fun _ _ _ _ _ _ => usOf1 fun _ => rfl
  obtain ⟨F4, m4, k4⟩ := dfn X G d4;have b4 := F4.binds (ps := ["piece"]) fun _ _ _ _ _ _ => usOf1 fun _ => rfl
  obtain ⟨F5, m5, k5⟩ := dfn X G d5;have b5 := F5.binds (ps := ["row"]) fun _ _ _ _ _ _ => usOf1 fun _ => rfl
  obtain ⟨F6, m6, k6⟩ := dfn X G d6;have b6 := F6.binds (ps := ["order"]) fun _ _ _ _ _ _ => usOf1 fun _ => rfl
  obtain ⟨F7, m7, k7⟩ := dfn X G d7;have b7 := F7.binds (ps := ["order"]) fun _ _ _ _ _ _ => usOf1 fun _ => rfl
  obtain ⟨F8, m8, k8⟩ := dfn X G d8;have b8 := F8.binds (ps := ["order"]) fun _ _ _ _ _ _ => usOf1 fun _ => rfl
  obtain ⟨F9, m9, k9⟩ := dfn X G d9;have b9 := F9.binds (ps := ["order"]) fun _ _ _ _ _ _ => usOf1 fun _ => rfl
  obtain ⟨F10, m10, k10⟩ := dfn X G d10;have b10 := F10.binds (ps := ["order"]) fun _ _ _ _ _ _ => usOf1 fun _ => rfl
  obtain ⟨F11, m11, k11⟩ := dfn X G d11;have b11 := F11.binds (ps := ["order"]) fun _ _ _ _ _ _ => usOf1 fun _ => rfl
  obtain ⟨F12, m12, k12⟩ := dfn X G d12;have b12 := F12.binds (ps := ["script", "k"]) fun _ _ _ _ _ _ => usOf2 fun _ _ => rfl
  obtain ⟨F13, m13, k13⟩ := dfn X G d13;have b13 := F13.binds (ps := ["script", "first", "many"]) fun _ _ _ _ _ _ => usOf3 fun _ _ _ => rfl
  obtain ⟨F14, m14, k14⟩ := dfn X G d14;have b14 := F14.binds (ps := ["found", "many"]) fun _ _ _ _ _ _ => usOf2 fun _ _ => rfl
  obtain ⟨F15, m15, k15⟩ := dfn X G d15;have b15 := F15.binds (ps := ["order"]) fun _ _ _ _ _ _ => usOf1 fun _ => rfl
  obtain ⟨F16, m16, k16⟩ := dfn X G d16;have b16 := F16.binds (ps := ["order"]) fun _ _ _ _ _ _ => usOf1 fun _ => rfl
  obtain ⟨F17, m17, k17⟩ := dfn X G d17;have b17 := F17.binds (ps := ["script"]) fun _ _ _ _ _ _ => usOf1 fun _ => rfl
  have T : TxtR mg := ⟨mg_none_of X G z_len, mg_none_of X G z_sum, mg_none_of X G z_tuple, mg_none_of X G z_list, mg_none_of X G z_range⟩;have TBadOrder : TxtX K mg "BadOrder" CBadOrder := ⟨mg_of X G aBadOrder, xBadOrder⟩;refine ⟨fnOf "law" "law" (J1u sLaw) (J1e sLaw) (J8 sLaw) .none kV17 dc17 pm17 an17 cd17 ct17, fun s v => .of_eq rfl, fun base _ _ => ?_⟩;have GC := ok_cell (P := l.prog) (w := w) (base := base) F12 T;have GRO := ok_refOE (P := l.prog) (w := w) (base := base) F0 T (mg_none_of X G z_sorted) TBadOrder;have GRF := ok_refOf F1 T TBadOrder GRO b0 m0 k0;have GRP := ok_refP F2 (mg_of X G v_MOST_PIECES) GRF b1 m1 k1;have GLE := ok_leftE (P := l.prog) (w := w) (mg := mg) (base := base) F3;have GRE := ok_rightE (P := l.prog) (w := w) (mg := mg) (base := base) F4;have GMA := ok_meetA F5 T (mg_none_of X G z_zip) GLE b3 m3 k3 GRE b4 m4 k4;have GME := ok_meets F6 T GLE b3 m3 k3 GRE b4 m4 k4 GMA b5 m5 k5;have GCE := ok_cornE F7 T (mg_none_of X G z_min) (mg_none_of X G z_max) (mg_none_of X G z_sorted) (mg_none_of X G z_set) GME b6 m6 k6;have GCN := ok_cornN F9 (mg_none_of X G z_max) GCE b7 m7 k7;have GHA := ok_handles F11 T GRP b2 m2 k2 GCN b9 m9 k9;have GCS := ok_cornS F8 GRP b2 m2 k2 GCE b7 m7 k7;have GCT := ok_cornT F10 T GCS b8 m8 k8 GCN b9 m9 k9;have GLR := ok_orderS F13 T GC b12 m12 k12;have GLN := ok_numL (P := l.prog) (w := w) (base := base) F14 T (mg_none_of X G z_isinstance) (mg_none_of X G z_int) (mg_none_of X G z_bool) (kib K);have GLM := ok_met (P := l.prog) (w := w) (base := base) F15 T;have GLD := ok_due F16 T GLM b15 m15 k15;exact ok_law F17 T (mg_none_of X G z_isinstance) (mg_none_of X G z_int) (mg_none_of X G z_max) GC b12 m12 k12 GLR b13 m13 k13 GLN b14 m14 k14 GLD b16 m16 k16 GCS b8 m8 k8 GCT b10 m10 k10 GHA b11 m11 k11
theorem walk {l:PySem.W.OpenLaw} {q:Program} {loose:List Str} {XP:(Str->Option Value)->Heap->Prop} {YP:World->Heap->Prop} {d:DefRec} {K:Params->Frag} (hn:l.most=some 63) (hdf:d.params.defaults=[])
  (hY:∀ (w:World) (h:Heap),YP w h->(K w.params).In h)
  (F:∀ (w:World) (mg:Str->Option Value) (fa:Addr) (h:Heap),(K w.params).In h->h.Ns mainGlobals mg->mg d.name=some (.ref fa)->
   ∃ fd:FuncData,(∀ (s:Shared) (u:Value),BindsTo s fd ⟨[u],[]⟩ [("script",u)])/\∀ base:Heap,(K w.params).In base->base.Ns mainGlobals mg->FnOk l.prog w (K w.params) mg base CX0 7 fa fd ["script"] (spLaw (K w.params))) :
  PySem.W.WalkO q loose XP YP l.row.toRowW d [] (fun f vs=>PySem.call f vs) :=
 L2.walk_of (n:=63) (k:=7) (x:="script") (CX:=fun _=>CX0) (sp:=fun w=>spLaw (K w.params)) hn (by decide) hdf ⟨rfl,by decide,by decide⟩ hY F (fun _ _ a ns hl _ hS=>⟨a,ns,rfl,hS,hl,fun _=>rfl⟩) fun _ _ _ _ _ z=>z
end R64
open PySem PySem.W PyProof.Rows
namespace PySem.W.Fast
def tw6536201928336471170:=()
def tw5085890197199081106:=()
def tw6953197266872629149:=()
def tw10529889865515645207:=()
def tw7283629904736034589:=()
end PySem.W.Fast
namespace PySem.W.Fast
def tw3319090126482456756:=()
def tw17905937201983675916:=()
def tw11279175332043432315:=()
def tw14930091607088420551:=()
def tw11047209273483503300:=()
def tw1635835460040286498:=()
def tw4511549498079510529:=()
def tw2501845427413726874:=()
def tw11331242294504958765:=()
def tw6759356150170381055:=()
def tw9580550476176858166:=()
def tw16428607838495706454:=()
def tw15284163901612683922:=()
def tw4050770452191365273:=()
def tw14481712101916964007:=()
def tw7423874260975251203:=()
def tw11862974720827705439:=()
def tw9344102629358512981:=()
def tw7502272298427184687:=()
def tw5973634041921906545:=()
def tw6192630530356216165:=()
def tw8327720347762862077:=()
def tw13115522640176905962:=()
def tw4885976944926485249:=()
def tw18101942560890219983:=()
def tw6521264362747832881:=()
def tw18436889064786815372:=()
def tw10030311840032792704:=()
def tw13635029224321962974:=()
def tw12520881596597780135:=()
def tw922623364411153812:=()
def tw12788090823711585838:=()
def tw14046526270290106837:=()
def tw2945067916527939280:=()
def tw9037243048649660730:=()
def tw10759122828021853228:=()
def tw17943309870614298018:=()
def tw6520053825111943809:=()
def tw14860265758687004700:=()
def tw6420363899558221678:=()
def tw13816781635277011155:=()
def tw13446550401919438239:=()
def tw4874483743871447221:=()
def tw11746000462668770812:=()
def tw1717020694017502668:=()
def tw1830885277108482599:=()
def tw14288456264575052803:=()
def tw9607968554778332933:=()
def tw9513550239335263087:=()
end PySem.W.Fast
set_option maxRecDepth 100000 in
set_option maxHeartbeats 0 in
theorem PySem.Challenge.cw_relaid_k64_corners_of_ends_holds : PySem.Challenge.rw_relaid_k64_corners_of_ends.Holds := by
  w_on; o_law; k_head; (case hw => w_witness2)
  k_fill
  refine R64.walk (l := PySem.Challenge.rw_relaid_k64_corners_of_ends) rfl rfl (fun w h Y => PySem.W.kIn_of Y) ?F
  case F =>
    intro w mg fa h KX G hmg;refine' R64.all_mk KX G hmg ?d0 ?d1 ?d2 ?d3 ?d4 ?d5 ?d6 ?d7 ?d8 ?d9 ?d10 ?d11 ?d12 ?d13 ?d14 ?d15 ?d16 ?d17 ?z_len ?z_min ?z_max ?z_sum ?z_sorted ?z_list ?z_range ?z_tuple ?z_isinstance ?z_int ?z_bool ?z_ValueError ?z_zip ?z_set ?v_MOST_PIECES ?aBadOrder ?xBadOrder
    case d0 | d1 | d2 | d3 | d4 | d5 | d6 | d7 | d8 | d9 | d10 | d11 | d12 | d13 | d14 | d15 | d16 | d17 => (refine ⟨?_, ?_, ?_, ?_⟩; k_is; k_is; k_is; k_is)
    case z_len | z_min | z_max | z_sum | z_sorted | z_list | z_range | z_tuple | z_isinstance | z_int | z_bool | z_ValueError | z_zip | z_set => (show _ = _; k_is)
    case v_MOST_PIECES | aBadOrder => k_is
    case xBadOrder => k_exc
#print axioms PySem.Challenge.cw_relaid_k64_corners_of_ends_holds
