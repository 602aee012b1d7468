import PyProof.Rows.All
import Wide.All
import OpenK.AllK
import Wide.FinOn
import Lean
import PyProof.EqAt
import PyProof.EqKinds
import PyProof.TupleCall
import PySem.Challenge.RW_relaid_k61_whole_families
open PySem.Heap (get?_push_of_some get?_push_size lt_size)
open PySem.W (Frag codeIn excIn findIn fnOf hideAll instObj keepIn kia_one kitOne lookIn methodObj mg_none_of mg_of nsIn of_hideAll plainGet)
open List (all_eq_true append_nil cons_append drop_eq_getElem_cons drop_zero extract_eq_take_drop find?_cons getD_eq_getElem?_getD getElem?_append_left getElem?_append_right getElem?_map getElem_drop getElem_idxOf getElem_of_mem length_append length_cons length_drop length_map length_nil length_range length_take map_append map_cons map_id map_map map_nil map_set map_take mem_append mem_append_left mem_append_right mem_cons mem_cons_of_mem mem_cons_self mem_map mem_of_mem_take mem_range mem_reverse mem_singleton mem_singleton_self nil_append nodup_append nodup_cons nodup_iff_pairwise_ne nodup_range not_mem_nil pairwise_append pairwise_map perm_append_comm range_succ size_toArray take_append_drop take_sublist take_succ)
open Array (getElem?_toList getElem_extract getElem_toList length_toList mem_toList_iff size_extract toList_append toList_extract toList_inj toList_push toList_reverse)
open PyProof.Rows (boot_isinstance boot_list boot_max boot_sorted boot_tuple callWith_type1)
open Option (isSome_iff_exists isSome_map map_eq_some_iff map_some)
open PySem (boot_len mem_of_lookup)
set_option Elab.async false
set_option linter.all false
set_option maxRecDepth 100000
set_option maxHeartbeats 4000000
namespace L2
open PySem PySem.Spec PyProof.Rows
abbrev Key:=Sum Int Str
def keyIs:Key->Value->Bool
 | .inl k,v=>Value.isInt k v
 | .inr x,v=>Value.isStrOf x v
def keyH (w:World):Key->Int
 | .inl k=>hashInt k
 | .inr x=>hashStr w x
theorem Jf:∀ {k:Key} {v:Value},keyIs k v=true->(∃ i t,k=Sum.inl i/\v=Value.int i t)\/(∃ x t,k=Sum.inr x/\v=Value.str x t)
 | .inl i,v,h=>by
  obtain ⟨t,e⟩:=Value.isInt_shape (k:=i) (v:=v) h;exact .inl ⟨i,t,rfl,e⟩
 | .inr x,v,h=>by
  obtain ⟨t,e⟩:=Value.isStrOf_shape (x:=x) (v:=v) h;exact .inr ⟨x,t,rfl,e⟩
theorem keyIs_int (i:Int) (t:Tok):keyIs (.inl i) (.int i t)=true:=by simp [keyIs,Value.isInt]
theorem keyIs_str (x:Str) (t:Tok):keyIs (.inr x) (.str x t)=true:=by simp [keyIs,Value.isStrOf]
theorem key_ll (a b:Int):decide ((Sum.inl a:Key)=Sum.inl b)=(a == b):=by
 by_cases e:a=b
 ·subst e;simp
 ·have h:¬ (Sum.inl a:Key)=Sum.inl b:=fun q=>e (Sum.inl.inj q);rw [decide_eq_false h];exact (beq_eq_false_iff_ne.mpr e).symm
theorem key_rr (a b:Str):decide ((Sum.inr a:Key)=Sum.inr b)=decide (a=b):=by
 by_cases e:a=b
 ·subst e;simp
 ·have h:¬ (Sum.inr a:Key)=Sum.inr b:=fun q=>e (Sum.inr.inj q);rw [decide_eq_false h,decide_eq_false e]
theorem key_lr (a:Int) (b:Str):decide ((Sum.inl a:Key)=Sum.inr b)=false:=decide_eq_false (fun q=>nomatch q)
theorem key_rl (a:Str) (b:Int):decide ((Sum.inr a:Key)=Sum.inl b)=false:=decide_eq_false (fun q=>nomatch q)
def Jr (prog:Program) (w:World):PySem.KeyKind prog w Key where
 is:=keyIs
 hash:=keyH w
 inj:=fun v a b ha hb=>by
  rcases Jf ha with ⟨i,t,rfl,rfl⟩ | ⟨x,t,rfl,rfl⟩
  ·rcases Jf hb with ⟨j,u,rfl,e⟩ | ⟨y,u,rfl,e⟩
   ·injection e with e1 _;rw [e1]
   ·exact nomatch e
  ·rcases Jf hb with ⟨j,u,rfl,e⟩ | ⟨y,u,rfl,e⟩
   ·exact nomatch e
   ·injection e with e1 _;rw [e1]
 byValue:=fun k v h=>by
  rcases Jf h with ⟨i,t,rfl,rfl⟩ | ⟨x,t,rfl,rfl⟩ <;> rfl
 pyHash:=fun hv h=>by
  rcases Jf hv with ⟨i,t,rfl,rfl⟩ | ⟨x,t,rfl,rfl⟩
  ·exact wpAny_pyHash_int h
  ·exact wpAny_pyHash_str h
 eqBool:=fun hu hv h=>by
  rcases Jf hu with ⟨i,t,rfl,rfl⟩ | ⟨x,t,rfl,rfl⟩
  ·rcases Jf hv with ⟨j,u,rfl,rfl⟩ | ⟨y,u,rfl,rfl⟩
   ·rw [key_ll] at h;exact wpAny_eqBool_int h
   ·rw [key_lr] at h;exact SeqAt.EqAt.int_str i t y u _ _ _ _ h
  ·rcases Jf hv with ⟨j,u,rfl,rfl⟩ | ⟨y,u,rfl,rfl⟩
   ·rw [key_rl] at h;exact SeqAt.EqAt.str_int x t j u _ _ _ _ h
   ·rw [key_rr] at h;exact wpAny_eqBool_str h
 «strs»:=fun k x t v h=>by
  rcases Jf h with ⟨i,u,rfl,e⟩ | ⟨y,u,rfl,e⟩
  ·exact nomatch e
  ·injection e with e1 _
   subst e1;cases v <;> rfl
theorem mixKind_int (prog:Program) (w:World) (i:Int) (t:Tok):(Jr prog w).is (.inl i) (.int i t)=true:=keyIs_int i t
theorem mixKind_str (prog:Program) (w:World) (x:Str) (t:Tok):(Jr prog w).is (.inr x) (.str x t)=true:=keyIs_str x t
end L2
namespace L2
open PySem PySem.Spec PyProof.Rows
inductive V where
 | non | bl (b:Bool) | int (i:Int) | str (x:Str) | byt (b:Array UInt8) | flt (b:UInt64) | ref (a:Addr) | ty (n:String)
 deriving DecidableEq
def RelV:V->Value->Prop
 | .non,u=>u=Value.none
 | .bl b,u=>u=Value.bool b
 | .int i,u=>∃ t,u=Value.int i t
 | .str x,u=>∃ t,u=Value.str x t
 | .byt b,u=>∃ t,u=Value.bytes b t
 | .flt b,u=>∃ t,u=Value.float b t
 | .ref a,u=>u=Value.ref a
 | .ty n,u=>u=Value.type n
abbrev Vals:List V->List Value->Prop:=Paired RelV
theorem Vals.length {xs:List V} {us:List Value} (r:Vals xs us):xs.length=us.length:=Paired.length r
theorem Vals.get:∀ {xs:List V} {us:List Value} {i:Nat} {x:V},Vals xs us->xs[i]?=some x->∃ u,us[i]?=some u/\RelV x u
 | _,_,_,_,.nil,e=>by simp at e
 | _,_,0,_,.cons r _,e=>by simp at e;subst e;exact ⟨_,rfl,r⟩
 | _,_,i + 1,x,.cons _ t,e=>by
  obtain ⟨u,h1,h2⟩:=Vals.get (i:=i) (x:=x) t (by simpa using e);exact ⟨u,by simpa using h1,h2⟩
theorem Vals.set {x:V} {u:Value} (r:RelV x u):∀ {xs:List V} {us:List Value} (i:Nat),Vals xs us->Vals (xs.set i x) (us.set i u)
 | _,_,_,.nil=>.nil
 | _,_,0,.cons _ t=>.cons r t
 | _,_,i + 1,.cons q t=>.cons q (Vals.set r i t)
theorem Vals.append:∀ {xs ys:List V} {us ws:List Value},Vals xs us->Vals ys ws->Vals (xs ++ ys) (us ++ ws)
 | _,_,_,_,.nil,s=>s
 | _,_,_,_,.cons r t,s=>.cons r (Vals.append t s)
theorem Vals.take:∀ {xs:List V} {us:List Value} (n:Nat),Vals xs us->Vals (xs.take n) (us.take n)
 | _,_,0,_=>.nil
 | _,_,_ + 1,.nil=>.nil
 | _,_,n + 1,.cons r t=>.cons r (Vals.take n t)
theorem Vals.drop:∀ {xs:List V} {us:List Value} (n:Nat),Vals xs us->Vals (xs.drop n) (us.drop n)
 | _,_,0,r=>r
 | _,_,_ + 1,.nil=>.nil
 | _,_,n + 1,.cons _ t=>Vals.drop n t
def RelO:Option V->Option Value->Prop
 | some v,some u=>RelV v u
 | none,none=>True
 | _,_=>False
def KV {κ:Type}:List (κ × V)->List (κ × Value)->Prop:=Paired fun (p:κ × V) (q:κ × Value)=>p.1=q.1/\RelV p.2 q.2
def kV:Key->V
 | .inl i=>.int i
 | .inr x=>.str x
inductive HO where
  | lst (xs:List V)
  | tup (xs:List V)
  | dK (kvs:List (Key × V)) | dT (kvs:List (List Key × V))
  | set (S:Int->Bool) (n:Nat)
  | ins (C dx:Addr) (fs:List (Str × V))
  | own (x:Addr)
  | xd (fs:List (Str × V))
  | met (f x:Addr)
  | rng (lo hi:Int)
  | frz (o:Obj) (u:HO)
  | tbl (ps:Array Value)
  | ext (φ:Heap->Prop)
abbrev Hp:=Addr->Option HO
def upd (H:Hp) (a:Addr) (o:HO):Hp:=fun b=>if b=a then some o else H b
theorem upd_same {H:Hp} {a:Addr} {o:HO}:upd H a o a=some o:=by unfold upd;rw [if_pos rfl]
theorem Ja {H:Hp} {a b:Addr} {o:HO} (h:b≠a):upd H a o b=H b:=by unfold upd;rw [if_neg h]
theorem ne_of {H:Hp} {a b:Addr} {o u:HO} (h:H a=some o) (h':H b=some u) (d:o≠u):a≠b:=by
 intro e;subst e;rw [h] at h';exact d (Option.some.inj h')
theorem J6 {H:Hp} {a b:Addr} {o:HO} (h:H a=some o) (h':H b=none):a≠b:=by
 intro e;subst e;rw [h] at h';cases h'
section
variable (P:Program) (w:World)
def TupX (h:Heap) (a:Addr) (items:Array Value):Prop:=∃ o,h.get? a=some o/\(o.cls=.type "tuple"/\o.dict=none)/\∃ n,o.data=.seq items n
theorem TupX.tup {h:Heap} {a:Addr} {items:Array Value} (x:TupX h a items):IsTup h a items:=by obtain ⟨o,e,c,r⟩:=x;exact ⟨o,e,c.1,r⟩
theorem TupX.lt {h:Heap} {a:Addr} {items:Array Value} (x:TupX h a items):a < h.objs.size:=by obtain ⟨_,e,_⟩:=x;exact lt_size e
theorem TupX.new (h:Heap) (items:Array Value):TupX (h.push { cls:=.type "tuple",data:=.seq items }) h.objs.size items:=⟨_,get?_push_size _ rfl,⟨rfl,rfl⟩,_,rfl⟩
def ObjOk (H:Hp) (h:Heap) (a:Addr):HO->Prop
 | .lst xs=>xs.length<=sizeLine/\∃ (its:List Value) (n:Nat),Vals xs its/\h.get? a=some { cls:=.type "list",data:=.seq its.toArray n }
 | .tup xs=>xs.length<=sizeLine/\∃ its:List Value,Vals xs its/\TupX h a its.toArray
 | .dK kvs=>kvs.length<=sizeLine/\(a == sysModules)=false/\∃ vs,KV kvs vs/\h.DictOf (Jr P w) a vs
 | .dT kvs=>kvs.length<=sizeLine/\(a == sysModules)=false/\∃ xs:List (List Key × Addr × Value),
   Paired (fun (p:List Key × V) (q:List Key × Addr × Value)=>p.1=q.1/\H q.2.1=some (.tup (p.1.map kV))/\RelV p.2 q.2.2) kvs xs/\
   ∃ o es ep,h.get? a=some o/\o.ExactDict/\o.data=.dict es ep/\es.toList=xs.map (entryOfKey (tupleKind (Jr P w)))/\(xs.map (·.1)).Nodup
 | .set S n=>h.SetOf (intKind P w) a S n
 | .ins C dx fs=>H dx=some (.own a)/\fs.length<=1000/\dx≠a/\h.get? a=some (instObj C dx)/\
   ∃ mA,h.Ns1 dx mA/\(∀ f,RelO (fs.lookup f) (mA f))/\PySem.Within mA (fs.map (·.1))
 | .own _=>∃ o,h.get? a=some o
 | .xd fs=>∃ mA,h.Ns1 a mA/\∀ f,RelO (fs.lookup f) (mA f)
 | .rng lo hi=>∃ t u v,h.get? a=some { cls:=.type "range",data:=.fields #[.int lo t,.int hi u,.int 1 v] }
 | .frz o u=>h.get? a=some o/\ObjOk H h a u
 | .tbl ps=>h.get? a=some { cls:=.none,data:=.fields ps }
 | .met f x=>h.get? a=some (methodObj (.ref f) (.ref x))
 | .ext φ=>φ h/\(∃ o,h.get? a=some o)/\∀ h1 h2:Heap,φ h1->(∀ o,h1.get? a=some o->h2.get? a=some o)->φ h2
def HOk (H:Hp) (h:Heap):Prop:=∀ a o,H a=some o->ObjOk P w H h a o
end
section
variable {P:Program} {w:World} {H H':Hp} {h h':Heap} {a:Addr} {o:HO}
theorem ObjOk.lt (x:ObjOk P w H h a o):a < h.objs.size:=by
 cases o with
 | lst xs=>obtain ⟨_,_,_,_,e⟩:=x;exact lt_size e
 | tup xs=>obtain ⟨_,_,_,p⟩:=x;exact p.lt
 | dK kvs=>obtain ⟨_,_,_,_,o,_,_,e,_⟩:=x;exact lt_size e
 | dT kvs=>obtain ⟨_,_,_,_,o,_,_,e,_⟩:=x;exact lt_size e
 | set S n=>obtain ⟨o,_,_,_,e,_⟩:=x;exact lt_size e
 | ins C dx fs=>obtain ⟨_,_,_,e,_⟩:=x;exact lt_size e
 | own y=>obtain ⟨_,e⟩:=x;exact lt_size e
 | xd fs=>obtain ⟨_,⟨_,_,_,e,_⟩,_⟩:=x;exact lt_size e
 | rng lo hi=>obtain ⟨_,_,_,e⟩:=x;exact lt_size e
 | frz ob u=>obtain ⟨e,_⟩:=x;exact lt_size e
 | tbl ps=>exact lt_size (show h.get? a=some _ from x)
 | met f y=>exact lt_size (show h.get? a=some _ from x)
 | ext φ=>obtain ⟨_,⟨_,e⟩,_⟩:=x;exact lt_size e
theorem Paired.mapP {α β:Type} {F G:α->β->Prop}:∀ {l₁:List α} {l₂:List β},Paired F l₁ l₂->(∀ a b,F a b->G a b)->Paired G l₁ l₂
 | _,_,.nil,_=>.nil
 | _,_,.cons r t,f=>.cons (f _ _ r) (Paired.mapP t f)
theorem ObjOk.stay (x:ObjOk P w H h a o) (k:∀ b u,(b=a\/H b=some (.own a))->h.get? b=some u->h'.get? b=some u)
  (ho:∀ b,H b=some (.own a)->H' b=some (.own a)) (ht:∀ b xs,H b=some (.tup xs)->H' b=some (.tup xs)):ObjOk P w H' h' a o:=by
 induction o with
 | lst xs=>obtain ⟨z,its,n,r,e⟩:=x;exact ⟨z,its,n,r,k _ _ (.inl rfl) e⟩
 | tup xs=>obtain ⟨z,its,r,ob,e,c⟩:=x;exact ⟨z,its,r,ob,k _ _ (.inl rfl) e,c⟩
 | dK kvs=>obtain ⟨z,y,vs,r,ob,es,ep,e,c⟩:=x;exact ⟨z,y,vs,r,ob,es,ep,k _ _ (.inl rfl) e,c⟩
 | dT kvs =>
  obtain ⟨z,y,xs,r,ob,es,ep,e,c⟩:=x;exact ⟨z,y,xs,Paired.mapP r fun p q z=>⟨z.1,ht _ _ z.2.1,z.2.2⟩,ob,es,ep,k _ _ (.inl rfl) e,c⟩
 | set S n=>obtain ⟨ob,es,ep,t,e,c⟩:=x;exact ⟨ob,es,ep,t,k _ _ (.inl rfl) e,c⟩
 | ins C dx fs =>
  obtain ⟨d,z,ne,e,mA,⟨od,es,ep,e2,c⟩,r⟩:=x;exact ⟨ho _ d,z,ne,k _ _ (.inl rfl) e,mA,⟨od,es,ep,k _ _ (.inr d) e2,c⟩,r⟩
 | own y=>obtain ⟨ob,e⟩:=x;exact ⟨ob,k _ _ (.inl rfl) e⟩
 | xd fs=>obtain ⟨mA,⟨od,es,ep,e,c⟩,r⟩:=x;exact ⟨mA,⟨od,es,ep,k _ _ (.inl rfl) e,c⟩,r⟩
 | rng lo hi=>obtain ⟨t,u,v,e⟩:=x;exact ⟨t,u,v,k _ _ (.inl rfl) e⟩
 | frz ob u ih=>obtain ⟨e,q⟩:=x;exact ⟨k _ _ (.inl rfl) e,ih q⟩
 | tbl ps =>
  have e:h.get? a=some { cls:=.none,data:=.fields ps }:=x;show h'.get? a=some { cls:=.none,data:=.fields ps };exact k a _ (.inl rfl) e
 | met f y =>
  have e:h.get? a=some (methodObj (.ref f) (.ref y)):=x;show h'.get? a=some (methodObj (.ref f) (.ref y));exact k a _ (.inl rfl) e
 | ext φ=>obtain ⟨p,⟨o,e⟩,st⟩:=x;exact ⟨st _ _ p fun o q=>k _ _ (.inl rfl) q,⟨o,k _ _ (.inl rfl) e⟩,st⟩
theorem HOk.lt (x:HOk P w H h) (e:H a=some o):a < h.objs.size:=(x a o e).lt
theorem HOk.fresh (x:HOk P w H h) (e:h.objs.size<=a):H a=none:=by
 cases q:H a with
 | none=>rfl
 | some u=>exact absurd (Nat.lt_of_lt_of_le (x.lt q) e) (Nat.lt_irrefl _)
theorem HOk.kept (x:HOk P w H h) (k:∀ b u,h.get? b=some u->h'.get? b=some u):HOk P w H h':=fun a o e =>
 (x a o e).stay (fun b u _ q=>k b u q) (fun _ q=>q) fun _ _ q=>q
theorem HOk.laid (x:HOk P w H h) (k:∀ b u,h.get? b=some u->h'.get? b=some u) (hp:h.objs.size<=a) (new:ObjOk P w (upd H a o) h' a o):HOk P w (upd H a o) h':=fun b u e=>by
 have hn:=x.fresh hp;by_cases hb:b=a
 ·subst hb;rw [upd_same] at e;cases e;exact new
 ·rw [Ja hb] at e;exact (x b u e).stay (fun c v _ q=>k c v q) (fun c q=>by rw [Ja (J6 q hn)];exact q) fun c xs q=>by rw [Ja (J6 q hn)];exact q
end
def Rd (H:Hp) (a:Addr) (u:HO):Prop:=H a=some u\/∃ o,H a=some (.frz o u)
theorem Rd.ok {P:Program} {w:World} {H:Hp} {h:Heap} {a:Addr} {u:HO} (r:Rd H a u) (x:HOk P w H h):ObjOk P w H h a u:=by
 rcases r with r | ⟨o,r⟩
 ·exact x a u r
 ·obtain ⟨_,q⟩:=x a _ r;exact q
def Mut:Option HO->Prop
 | some (.lst _)=>True
 | some (.dK _)=>True
 | some (.dT _)=>True
 | some (.set _ _)=>True
 | some (.ins _ _ _)=>True
 | some (.ext _)=>True
 | _=>False
section
variable {P:Program} {w:World} {H:Hp} {h h':Heap} {x e:Addr} {o':HO}
theorem HOk.write (ok:HOk P w H h) (mu:Mut (H x)) (he:e=x\/H e=some (.own x)) (k:∀ b u,b≠e->h.get? b=some u->h'.get? b=some u) (heo:∃ u,h'.get? e=some u)
  (new:ObjOk P w (upd H x o') h' x o'):HOk P w (upd H x o') h':=fun b u q=>by
 have nown:∀ c y,H c=some (.own y)->c≠x:=fun c y r z=>by subst z;rw [r] at mu;exact mu
 have ntup:∀ c xs,H c=some (.tup xs)->c≠x:=fun c xs r z=>by subst z;rw [r] at mu;exact mu
 by_cases hb:b=x
 ·subst hb;rw [upd_same] at q;cases q;exact new
 ·rw [Ja hb] at q;by_cases hbe:b=e
  ·have q':H b=some (.own x):=by
    rcases he with z | z
    ·exact absurd (hbe.trans z) hb
    ·rw [hbe];exact z
   rw [q] at q';cases q';obtain ⟨v,hv⟩:=heo;exact ⟨v,by rw [hbe];exact hv⟩
  ·refine (ok b u q).stay (fun c v hc r=>k c v ?_ r) (fun c r=>by rw [Ja (nown c b r)];exact r) fun c xs r=>by rw [Ja (ntup c xs r)];exact r
   rcases hc with rfl | hc
   ·exact hbe
   ·rintro rfl;rcases he with z | z
    ·exact nown c b hc z
    ·rw [hc] at z;cases z;exact hb rfl
end
structure Un (fs ex:List Addr) (H H':Hp) (h h':Heap):Prop where
 keep:∀ b o,h.get? b=some o->H b=none->b ∉ fs->b ∉ ex->h'.get? b=some o
 slot:∀ b o,h.get? b=some o->H b=none->b∈fs->b ∉ ex->∃ sl,h'.get? b=some { o with slots:=sl }
 free:∀ b o,h.get? b=some o->H b=none->b ∉ ex->H' b=none
 there:∀ b o,h.get? b=some o->b ∉ ex->∃ o',h'.get? b=some o'
 tups:∀ b xs,H b=some (.tup xs)->H' b=some (.tup xs)
 frzs:∀ b o u,H b=some (.frz o u)->H' b=some (.frz o u)
 tbls:∀ b ps,H b=some (.tbl ps)->∃ more,H' b=some (.tbl (ps ++ more))
section
variable {fs fs' ex ex':List Addr} {H H1 H2:Hp} {h h1 h2 h':Heap} {a x e:Addr} {o:HO}
theorem Un.any (u:Un fs ex H H1 h h1) {b:Addr} {ob:Obj} (q:h.get? b=some ob) (n:H b=none) (hx:b ∉ ex):∃ sl,h1.get? b=some { ob with slots:=sl }:=by
 by_cases hb:b∈fs
 ·exact u.slot b ob q n hb hx
 ·exact ⟨ob.slots,u.keep b ob q n hb hx⟩
theorem Un.kept (k:∀ b u,h.get? b=some u->h'.get? b=some u):Un fs ex H H h h' :=
 ⟨fun b ob q _ _ _=>k b ob q,fun b ob q _ _ _=>⟨ob.slots,k b ob q⟩,fun _ _ _ n _=>n,fun b ob q _=>⟨ob,k b ob q⟩,fun _ _ q=>q,fun _ _ _ q=>q,fun _ ps q=>⟨#[],by rw [q];simp⟩⟩
theorem Un.refl:Un fs ex H H h h:=Un.kept fun _ _ q=>q
theorem Un.laid (k:∀ b u,h.get? b=some u->h'.get? b=some u) (hp:h.objs.size<=a) (hn:H a=none):Un fs ex H (upd H a o) h h' where
 keep:=fun b u q _ _ _=>k b u q
 slot:=fun b u q _ _ _=>⟨u.slots,k b u q⟩
 free:=fun b u q n _=>by rw [Ja (Nat.ne_of_lt (Nat.lt_of_lt_of_le (lt_size q) hp))];exact n
 there:=fun b u q _=>⟨u,k b u q⟩
 tups:=fun b xs q=>by rw [Ja (J6 q hn)];exact q
 frzs:=fun b u xs q=>by rw [Ja (J6 q hn)];exact q
 tbls:=fun b ps q=>⟨#[],by rw [Ja (J6 q hn),q];simp⟩
theorem Un.write (mu:Mut (H x)) (he:e=x\/H e=some (.own x)) (k:∀ b u,b≠e->h.get? b=some u->h'.get? b=some u) (heo:∃ u,h'.get? e=some u):Un fs ex H (upd H x o) h h':=by
 have hx:∀ b,H b=none->b≠x:=fun b n z=>by subst z;rw [n] at mu;exact mu
 have hb:∀ b,H b=none->b≠e:=fun b n z=>by
  subst z;rcases he with r | r
  ·exact hx b n r
  ·rw [n] at r;cases r
 have hm:∀ b u,H b=some u->¬ Mut (some u)->b≠x:=fun b u q nm z=>by subst z;rw [q] at mu;exact nm mu
 refine ⟨fun b u q n _ _=>k b u (hb b n) q,fun b u q n _ _=>⟨u.slots,k b u (hb b n) q⟩,fun b u q n _=>by rw [Ja (hx b n)];exact n,fun b u q _=>?_,
  fun b xs q=>by rw [Ja (hm b _ q fun z=>z)];exact q,fun b u xs q=>by rw [Ja (hm b _ q fun z=>z)];exact q,fun b ps q=>⟨#[],by rw [Ja (hm b _ q fun z=>z),q];simp⟩⟩
 by_cases hbe:b=e
 ·subst hbe;exact heo
 ·exact ⟨u,k b u hbe q⟩
end
def trk (h:Heap) (H:Hp):List Addr:=(List.range h.objs.size).filter fun a=>(H a).isSome
def hidT (h:Heap) (H:Hp):Heap:=hideAll h (trk h H)
theorem hidT_size (h:Heap) (H:Hp):(hidT h H).objs.size=h.objs.size:=PySem.W.hideAll_size _ _
theorem hidT_get {h:Heap} {H:Hp} {b:Addr} {o:Obj} (e:h.get? b=some o) (n:H b=none):(hidT h H).get? b=some o :=
 PySem.W.hideAll_get _ e fun hm=>by
  have q:(H b).isSome=true:=(List.mem_filter.mp hm).2;rw [n] at q;simp at q
theorem of_hidT {h:Heap} {H:Hp} {b:Addr} {o:Obj} (e:(hidT h H).get? b=some o):h.get? b=some o/\H b=none:=by
 have e':h.get? b=some o:=of_hideAll (trk h H) e;refine ⟨e',?_⟩
 cases q:H b with
 | none=>rfl
 | some x =>
  have hm:b∈trk h H:=List.mem_filter.mpr ⟨mem_range.mpr (lt_size e'),by simp [q]⟩;have z:(hidT h H).get? b=none:=PySem.W.hideAll_none (trk h H) hm;rw [z] at e;cases e
end L2
namespace L2
open PySem PySem.Spec PyProof.Rows
structure Mod (K:Frag) (mg:Str->Option Value) (base:Heap):Prop where
 kin:K.In base
 glob:base.Ns mainGlobals mg
 blt:∃ mb,base.Ns builtinsNs mb/\∀ x:Str,x≠"__name__"->mb x=bootBuiltins x
 nolimit:base.NoLimit
structure Cx where
 prog:Program
 w:World
 K:Frag
 mg:Str->Option Value
 base:Heap
 A:Around
 N:List Str
 s₀:Shared
 H₀:Hp
 env:Env
 outer:List Env
 stack:List Env
 ex:List Addr
 fn:Str->Bool
 calm:Bool
 pn:List (Addr × Obj)
 xe:Value->Shared->Prop
def frs (l:List Env):List Addr:=l.filterMap (·.frame)
abbrev Cx.fs (X:Cx):List Addr:=frs X.outer
def Vis (sc:Scope) (x:Str):Prop:=sc.names.lookup x=some .local\/sc.names.lookup x=some .cell\/sc.names.lookup x=some .free
def Loc (sc:Scope) (x:Str):Prop:=sc.names.lookup x=some .local\/sc.names.lookup x=some .cell
def Look (env:Env) (h:Heap) (m:Str->Option Value) (x:Str) (u:Value):Prop :=
 (env.kindOf x=some .local/\m x=some u)\/((env.kindOf x=some .cell\/env.kindOf x=some .free)/\∃ c,env.cells.lookup x=some c/\h.IsCell c (some u))
structure Cx.Ok (X:Cx):Prop where
 mod:Mod X.K X.mg X.base
 kind:X.env.scope.kind=.function
 glob:X.env.globals=mainGlobals
 blt:X.env.builtins=builtinsNs
 above:X.s₀.heap.objs.size<=X.env.locals
 inj:∀ x y c,X.env.cells.lookup x=some c->X.env.cells.lookup y=some c->x=y
 has:∀ x,(X.env.kindOf x=some .cell\/X.env.kindOf x=some .free)->∃ c,X.env.cells.lookup x=some c
 cab:∀ x c,X.fn x=true->X.env.cells.lookup x=some c->X.s₀.heap.objs.size<=c
 hd:X.calm=true->X.A.handled=none
 frames:X.A.frames=some X.stack
 stk:X.stack=X.outer\/(X.stack=X.env :: X.outer/\X.env.frame=some X.env.locals)
 exf:∀ b∈X.ex,b≠X.env.locals/\∀ x c,X.env.cells.lookup x=some c->c≠b
 bs:∀ b o,X.base.get? b=some o->X.s₀.heap.get? b=some o/\X.H₀ b=none
 bsz:X.base.objs.size<=X.s₀.heap.objs.size
 noex:∀ b o,X.base.get? b=some o->b ∉ X.ex
 exfs:∀ b∈X.ex,b ∉ X.fs
 funs:X.s₀.heap.FunFrames X.base X.outer
 frf:∀ b∈X.fs,X.H₀ b=none
structure Inv (X:Cx) (pins:List (Addr × Obj)) (σ:List (Option V)) (H:Hp) (s:Shared):Prop where
 ok:X.Ok
 os:s.os=X.s₀.os
 bare:AllBare s.gens
 base:Un X.fs X.ex X.H₀ H X.s₀.heap s.heap
 loc:∃ m,s.heap.Ns X.env.locals m/\∀ (i:Nat) (x:Str) (v:V),X.N[i]?=some x->σ[i]?=some (some v)->Vis X.env.scope x->∃ u,RelV v u/\Look X.env s.heap m x u
 cell:∀ x c,X.env.cells.lookup x=some c->∃ v,s.heap.IsCell c v
 free:H X.env.locals=none
 freeC:∀ x c,X.env.cells.lookup x=some c->H c=none
 pin:∀ p∈X.pn ++ pins,s.heap.get? p.1=some p.2/\H p.1=none/\p.1≠X.env.locals/\p.1 ∉ X.fs/\∀ v,p.2.data≠.cell v
 hok:HOk X.prog X.w H s.heap
 len:σ.length=X.N.length
section
variable {X:Cx} {pins:List (Addr × Obj)} {σ:List (Option V)} {H H':Hp} {s:Shared} {h':Heap}
theorem Cx.Ok.nofr (ok:X.Ok) {b:Addr} {o:Obj} (e:X.base.get? b=some o):b ∉ X.fs:=fun hb=>by
 have:=(ok.funs.mem hb).1;rw [e] at this;cases this
theorem Inv.bs (I:Inv X pins σ H s):∀ b o,X.base.get? b=some o->s.heap.get? b=some o/\H b=none:=fun b o e =>
 ⟨I.base.keep b o (I.ok.bs b o e).1 (I.ok.bs b o e).2 (I.ok.nofr e) (I.ok.noex b o e),I.base.free b o (I.ok.bs b o e).1 (I.ok.bs b o e).2 (I.ok.noex b o e)⟩
theorem Inv.bk (I:Inv X pins σ H s):∀ b o,X.base.get? b=some o->s.heap.get? b=some o:=fun b o e=>(I.bs b o e).1
theorem Inv.mod (I:Inv X pins σ H s):Mod X.K X.mg X.base:=I.ok.mod
theorem Inv.kIn (I:Inv X pins σ H s):X.K.In s.heap:=I.ok.mod.kin.keeps I.bk
theorem Inv.fr (I:Inv X pins σ H s):∃ m,Fr X.base X.env.locals s.heap m :=
 let ⟨m,hn,_⟩:=I.loc
 ⟨m,hn,I.bk,Nat.le_trans I.ok.bsz I.ok.above⟩
theorem Inv.lt (I:Inv X pins σ H s):X.env.locals < s.heap.objs.size:=by obtain ⟨_,hn,_⟩:=I.loc;exact hn.lt
theorem Inv.sz (I:Inv X pins σ H s):X.s₀.heap.objs.size<=s.heap.objs.size:=Nat.le_trans I.ok.above (Nat.le_of_lt I.lt)
theorem Inv.nofs (I:Inv X pins σ H s) {a:Addr} (h:s.heap.objs.size<=a):a ∉ X.fs:=fun hb=>by
 obtain ⟨_,o,ho,_⟩:=I.ok.funs.mem hb;exact absurd (Nat.lt_of_lt_of_le (lt_size ho) (Nat.le_trans I.sz h)) (Nat.lt_irrefl _)
theorem Inv.cne (I:Inv X pins σ H s):∀ x c,X.env.cells.lookup x=some c->c≠X.env.locals:=fun x c e z=>by
 obtain ⟨v,o,ho,hd⟩:=I.cell x c e;obtain ⟨m,⟨o',es,ep,ho',hd',_⟩,_⟩:=I.loc;rw [z,ho'] at ho;cases ho;rw [hd'] at hd;cases hd
theorem Inv.funs (I:Inv X pins σ H s):s.heap.FunFrames X.base X.outer:=by
 have all:∀ (l:List Env),(∀ b∈frs l,b∈X.fs)->X.s₀.heap.FunFrames X.base l->s.heap.FunFrames X.base l:=by
  intro l
  induction l with
  | nil=>intro _ _;trivial
  | cons env r ih =>
   intro hs hl;obtain ⟨hk,⟨L,o,hf,hn,ho,hd⟩,hr⟩:=hl;have hL:L∈X.fs:=hs L (by unfold frs;rw [List.filterMap_cons,hf];exact mem_cons_self);obtain ⟨sl,e⟩:=I.base.slot L o ho (I.ok.frf L hL) hL fun z=>I.ok.exfs L z hL;exact ⟨hk,⟨L,_,hf,hn,e,hd⟩,ih (fun b hb=>hs b (by unfold frs;rw [List.filterMap_cons,hf];exact mem_cons_of_mem _ hb)) hr⟩
 exact all X.outer (fun _ hb=>hb) I.ok.funs
theorem Inv.stack (I:Inv X pins σ H s):s.heap.FunFrames X.base X.stack:=by
 rcases I.ok.stk with e | ⟨e,hf⟩
 ·rw [e];exact I.funs
 ·rw [e];obtain ⟨m,hn,_⟩:=I.loc;refine .cons (by rw [I.ok.kind];decide) hf hn ?_ I.funs;exact Heap.get?_none_of_le (Nat.le_trans I.ok.bsz I.ok.above)
theorem Inv.stkSub (I:Inv X pins σ H s):∀ b∈frs X.stack,b∈X.env.locals :: X.fs:=fun b hb=>by
 rcases I.ok.stk with e | ⟨e,hf⟩
 ·rw [e] at hb;exact mem_cons_of_mem _ hb
 ·rw [e] at hb;unfold frs at hb;rw [List.filterMap_cons,hf] at hb;exact hb
theorem Inv.stkFree (I:Inv X pins σ H s):∀ b∈frs X.stack,H b=none:=fun b hb=>by
 rcases mem_cons.mp (I.stkSub b hb) with e | hb
 ·rw [e];exact I.free
 ·obtain ⟨_,o,ho,_⟩:=I.ok.funs.mem hb;exact I.base.free b o ho (I.ok.frf b hb) fun z=>I.ok.exfs b z hb
theorem Inv.step {g':Array GenState} {t':Nat} {d':Drawn} {ch:List Addr} (I:Inv X pins σ H s)
  (hch:∀ b∈ch,(b∈X.ex\/X.s₀.heap.objs.size<=b)/\b≠X.env.locals/\(∀ x c,X.env.cells.lookup x=some c->c≠b)/\∀ p∈X.pn ++ pins,p.1≠b)
  (keep:∀ b o,b≠X.env.locals->b ∉ X.fs->b ∉ ch->s.heap.get? b=some o->H b=none->h'.get? b=some o)
  (slot:∀ b o,b≠X.env.locals->b∈X.fs->b ∉ ch->s.heap.get? b=some o->H b=none->∃ sl,h'.get? b=some { o with slots:=sl }) (free:∀ b o,b ∉ ch->s.heap.get? b=some o->H b=none->H' b=none)
  (there:∀ b o,b ∉ ch->s.heap.get? b=some o->∃ o',h'.get? b=some o')
  (tups:∀ b xs,H b=some (.tup xs)->H' b=some (.tup xs)) (frzs:∀ b o u,H b=some (.frz o u)->H' b=some (.frz o u)) (tbls:∀ b ps,H b=some (.tbl ps)->∃ more,H' b=some (.tbl (ps ++ more)))
  (ns:∀ m,s.heap.Ns X.env.locals m->h'.Ns X.env.locals m) (hok:HOk X.prog X.w H' h') (hg:AllBare g') :
  Inv X pins σ H' { s with heap:=h',gens:=g',drawn:=d',toks:=t' }:=by
 have neL:∀ b o,X.s₀.heap.get? b=some o->b≠X.env.locals:=fun b o e=>Nat.ne_of_lt (Nat.lt_of_lt_of_le (lt_size e) I.ok.above);have neC:∀ b o,X.s₀.heap.get? b=some o->b ∉ X.ex->b ∉ ch:=fun b o e hx hb=>by
  rcases (hch b hb).1 with z | z
  ·exact hx z
  ·exact absurd (Nat.lt_of_lt_of_le (lt_size e) z) (Nat.lt_irrefl _)
 have cellK:∀ x c,X.env.cells.lookup x=some c->∀ v,s.heap.IsCell c v->h'.IsCell c v:=fun x c e v h9=>by
  obtain ⟨o,ho,hd⟩:=h9;have nch:c ∉ ch:=fun z=>(hch c z).2.2.1 x c e rfl;by_cases hc:c∈X.fs
  ·obtain ⟨sl,q⟩:=slot c o (I.cne x c e) hc nch ho (I.freeC x c e);exact ⟨_,q,hd⟩
  ·exact ⟨o,keep c o (I.cne x c e) hc nch ho (I.freeC x c e),hd⟩
 refine ⟨I.ok,I.os,hg,⟨fun b o e n hb hx=>?_,fun b o e n hb hx=>?_,fun b o e n hx=>?_,fun b o e hx=>?_,fun b xs e=>tups b xs (I.base.tups b xs e),fun b o xs e=>frzs b o xs (I.base.frzs b o xs e),fun b ps e=>?_⟩,?_,fun x c e=>?_,?_,fun x c e=>?_,fun p hp=>?_,hok,I.len⟩
 ·exact keep b o (neL b o e) hb (neC b o e hx) (I.base.keep b o e n hb hx) (I.base.free b o e n hx)
 ·obtain ⟨sl,e1⟩:=I.base.slot b o e n hb hx;obtain ⟨sl',e2⟩:=slot b _ (neL b o e) hb (neC b o e hx) e1 (I.base.free b o e n hx);exact ⟨sl',e2⟩
 ·obtain ⟨o',e1⟩:=I.base.there b o e hx;exact free b o' (neC b o e hx) e1 (I.base.free b o e n hx)
 ·obtain ⟨o',e1⟩:=I.base.there b o e hx;exact there b o' (neC b o e hx) e1
 ·obtain ⟨m1,e1⟩:=I.base.tbls b ps e;obtain ⟨m2,e2⟩:=tbls b _ e1;exact ⟨m1 ++ m2,by rw [e2,Array.append_assoc]⟩
 ·obtain ⟨m,hn,hl⟩:=I.loc;refine ⟨m,ns m hn,fun i x v e1 e2 e3=>?_⟩;obtain ⟨u,r,l⟩:=hl i x v e1 e2 e3;refine ⟨u,r,?_⟩;rcases l with l | ⟨k,c,e,z⟩
  ·exact .inl l
  ·exact .inr ⟨k,c,e,cellK x c e _ z⟩
 ·obtain ⟨v,z⟩:=I.cell x c e;exact ⟨v,cellK x c e v z⟩
 ·obtain ⟨m,⟨o,_,_,ho,_⟩,_⟩:=I.loc;exact free _ o (fun z=>(hch _ z).2.1 rfl) ho I.free
 ·obtain ⟨v,o,ho,hd⟩:=I.cell x c e;exact free c o (fun z=>(hch c z).2.2.1 x c e rfl) ho (I.freeC x c e)
 ·obtain ⟨e,n,ne,nf,d⟩:=I.pin p hp;have nch:p.1 ∉ ch:=fun z=>(hch p.1 z).2.2.2 p hp rfl;exact ⟨keep p.1 p.2 ne nf nch e n,free p.1 p.2 nch e n,ne,nf,d⟩
theorem Inv.un {t':Nat} (I:Inv X pins σ H s) (u:Un X.fs [] H H' s.heap h') (hok:HOk X.prog X.w H' h'):Inv X pins σ H' { s with heap:=h',toks:=t' }:=by
 obtain ⟨m,⟨o,es,ep,ho,r⟩,_⟩:=id I.loc;obtain ⟨sl,hL⟩:=u.any ho I.free (by simp);exact I.step (g':=s.gens) (d':=s.drawn) (ch:=[]) (fun _ z=>nomatch z) (fun b o _ hb _ e n=>u.keep b o e n hb (by simp)) (fun b o _ hb _ e n=>u.slot b o e n hb (by simp)) (fun b o _ e n=>u.free b o e n (by simp)) (fun b o _ e=>u.there b o e (by simp)) u.tups u.frzs u.tbls (fun m' hm=>by
  obtain ⟨o',es',ep',ho',r'⟩:=hm;rw [ho] at ho';cases ho';exact ⟨_,es',ep',hL,r'⟩) hok I.bare
theorem Inv.call {g':Array GenState} {t':Nat} {d':Drawn} {ch:List Addr} (I:Inv X pins σ H s) (u:Un (frs X.stack) ch H H' s.heap h') (hok:HOk X.prog X.w H' h') (hg:AllBare g')
  (hch:∀ b∈ch,(b∈X.ex\/X.s₀.heap.objs.size<=b)/\b≠X.env.locals/\(∀ x c,X.env.cells.lookup x=some c->c≠b)/\∀ p∈X.pn ++ pins,p.1≠b) :
  Inv X pins σ H' { s with heap:=h',gens:=g',drawn:=d',toks:=t' }:=by
 obtain ⟨m,⟨o,es,ep,ho,r⟩,_⟩:=id I.loc;obtain ⟨sl,hL⟩:=u.any ho I.free fun z=>(hch _ z).2.1 rfl;exact I.step (ch:=ch) hch (fun b o hL hb hc e n=>u.keep b o e n (fun z=>(mem_cons.mp (I.stkSub b z)).elim hL hb) hc) (fun b o _ _ hc e n=>u.any e n hc) (fun b o hc e n=>u.free b o e n hc) (fun b o hc e=>u.there b o e hc) u.tups u.frzs u.tbls (fun m' hm=>by
  obtain ⟨o',es',ep',ho',r'⟩:=hm;rw [ho] at ho';cases ho';exact ⟨_,es',ep',hL,r'⟩) hok hg
theorem Inv.turned {t':Nat} {it:Addr} (I:Inv X pins σ H s) (k:∀ b o,b≠it->s.heap.get? b=some o->h'.get? b=some o) (hn:H it=none) (hL:it≠X.env.locals)
  (h1:it∈X.ex\/X.s₀.heap.objs.size<=it) (h2:∀ x c,X.env.cells.lookup x=some c->c≠it) (h3:∀ p∈X.pn ++ pins,p.1≠it):Inv X pins σ H { s with heap:=h',toks:=t' }:=by
 have nit:∀ b u,H b=some u->b≠it:=fun b u e z=>by rw [z,hn] at e;cases e
 refine I.step (g':=s.gens) (d':=s.drawn) (ch:=[it]) (fun b hb=>?_) (fun b o _ _ hc e _=>k b o (fun z=>hc (by simp [z])) e) (fun b o _ _ hc e _=>⟨o.slots,k b o (fun z=>hc (by simp [z])) e⟩) (fun _ _ _ _ n=>n)
  (fun b o hc e=>⟨o,k b o (fun z=>hc (by simp [z])) e⟩) (fun _ _ e=>e) (fun _ _ _ e=>e) (fun b ps e=>⟨#[],by rw [e];simp⟩) (fun m hm=>?_) (fun b u e=>?_) I.bare
 ·have e:b=it:=by simpa using hb
  subst e;exact ⟨h1,hL,h2,h3⟩
 ·obtain ⟨o,es,ep,ho,r⟩:=hm;exact ⟨o,es,ep,k _ o (Ne.symm hL) ho,r⟩
 ·refine (I.hok b u e).stay (fun c v hc q=>k c v ?_ q) (fun _ q=>q) fun _ _ q=>q;rcases hc with z | z
  ·rw [z];exact nit b u e
  ·exact nit c _ z
theorem Inv.tok (I:Inv X pins σ H s) (t:Nat):Inv X pins σ H { s with toks:=t }:=I.un (h':=s.heap) (t':=t) Un.refl I.hok
theorem Inv.kept {t':Nat} (I:Inv X pins σ H s) (k:∀ b u,s.heap.get? b=some u->h'.get? b=some u):Inv X pins σ H { s with heap:=h',toks:=t' }:=I.un (Un.kept k) (I.hok.kept k)
theorem Inv.laid {a:Addr} {o:HO} {t':Nat} (I:Inv X pins σ H s) (k:∀ b u,s.heap.get? b=some u->h'.get? b=some u) (hp:s.heap.objs.size<=a) (new:ObjOk X.prog X.w (upd H a o) h' a o) :
  Inv X pins σ (upd H a o) { s with heap:=h',toks:=t' }:=I.un (Un.laid k hp (I.hok.fresh hp)) (I.hok.laid k hp new)
theorem Inv.write {x e:Addr} {o:HO} {t':Nat} (I:Inv X pins σ H s) (mu:Mut (H x)) (he:e=x\/H e=some (.own x)) (k:∀ b u,b≠e->s.heap.get? b=some u->h'.get? b=some u) (heo:∃ u,h'.get? e=some u)
  (new:ObjOk X.prog X.w (upd H x o) h' x o):Inv X pins σ (upd H x o) { s with heap:=h',toks:=t' }:=I.un (Un.write mu he k heo) (I.hok.write mu he k heo new)
theorem Inv.pins_of {pins':List (Addr × Obj)} (I:Inv X pins σ H s) (h:∀ p∈pins',s.heap.get? p.1=some p.2/\H p.1=none/\p.1≠X.env.locals/\p.1 ∉ X.fs/\∀ v,p.2.data≠.cell v):Inv X pins' σ H s :=
 ⟨I.ok,I.os,I.bare,I.base,I.loc,I.cell,I.free,I.freeC,fun p hp=>(mem_append.mp hp).elim (fun z=>I.pin p (mem_append_left _ z)) (h p),I.hok,I.len⟩
theorem nodup_ix {N:List Str} (hN:N.Nodup) {i j:Nat} {x:Str} (a:N[i]?=some x) (b:N[j]?=some x):i=j:=by
 obtain ⟨h1,e1⟩:=List.getElem?_eq_some_iff.mp a;obtain ⟨h2,e2⟩:=List.getElem?_eq_some_iff.mp b;exact (List.getElem_inj hN).mp (e1.trans e2.symm)
theorem store_ok2 {M:Model} {A:Around} {E:Value->Shared->Prop} {i:Nat} {x:Str} {v:V} {u:Value} {Q:Unit->Shared->Prop} (I:Inv X pins σ H s) (hN:X.N.Nodup) (hi:X.N[i]?=some x) (hx:Loc X.env.scope x) (r:RelV v u)
  (h:∀ s',Inv X pins (σ.set i (some v)) H s'->(∃ a,Heap.SameBut a s.heap s'.heap/\(a=X.env.locals\/X.env.cells.lookup x=some a))->Q () s') (hf:X.fn x=true\/X.env.scope.names.lookup x=some .local:=by first | exact .inl rfl | exact .inr rfl | assumption):wpAny M A (storeName X.env x u) Q E s:=by
 obtain ⟨m,hn,hl⟩:=id I.loc;have hcls:(X.env.scope.kind == .class || (X.env.scope.kind == .module && X.env.locals != X.env.globals))=false:=by rw [I.ok.kind];rfl
 have hiσ:i < σ.length:=by rw [I.len];exact (List.getElem?_eq_some_iff.mp hi).1
 have cne:=I.cne;have tracked:∀ {a:Addr} {h':Heap},(∃ o,s.heap.get? a=some o/\H a=none)->Heap.SameBut a s.heap h'->HOk X.prog X.w H h':=fun {a h'} ha hs b ob e=>by
  obtain ⟨_,_,hfree⟩:=ha;refine (I.hok b ob e).stay (fun c w' hc q=>(hs.2 c ?_).trans q) (fun _ q=>q) fun _ _ q=>q;rintro rfl;rcases hc with rfl | hc
  ·rw [hfree] at e;cases e
  ·rw [hfree] at hc;cases hc
 rcases hx with hk | hk
 ·refine wpAny_storeName_local hk hn (fun h' hn' hs=>?_) hcls;obtain ⟨oL,_,_,hoL,_⟩:=id hn;refine h _ ⟨I.ok,I.os,I.bare,⟨fun b o e n hb hx=>?_,fun b o e n hb hx=>?_,I.base.free,fun b o e hx=>?_,I.base.tups,I.base.frzs,I.base.tbls⟩,⟨_,hn',fun j y v' e1 e2 e3=>?_⟩,fun y c e=>?_,I.free,I.freeC,fun p hp=>?_,tracked ⟨oL,hoL,I.free⟩ hs,by simpa using I.len⟩ ⟨_,hs,.inl rfl⟩
  ·exact (hs.2 b (Nat.ne_of_lt (Nat.lt_of_lt_of_le (lt_size e) I.ok.above))).trans (I.base.keep b o e n hb hx)
  ·obtain ⟨sl,e1⟩:=I.base.slot b o e n hb hx;exact ⟨sl,(hs.2 b (Nat.ne_of_lt (Nat.lt_of_lt_of_le (lt_size e) I.ok.above))).trans e1⟩
  ·obtain ⟨o',e1⟩:=I.base.there b o e hx;exact ⟨o',(hs.2 b (Nat.ne_of_lt (Nat.lt_of_lt_of_le (lt_size e) I.ok.above))).trans e1⟩
  ·by_cases hj:j=i
   ·subst hj;rw [hi] at e1;cases e1;rw [List.getElem?_set_self hiσ] at e2;cases e2;exact ⟨u,r,.inl ⟨hk,by simp⟩⟩
   ·rw [List.getElem?_set_ne (Ne.symm hj)] at e2;obtain ⟨u',r',q⟩:=hl j y v' e1 e2 e3;refine ⟨u',r',?_⟩;rcases q with ⟨k,e⟩ | ⟨k,c,e,z⟩
    ·refine .inl ⟨k,?_⟩;have:y≠x:=fun e=>hj (nodup_ix hN e1 (e ▸ hi));simp [this,e]
    ·exact .inr ⟨k,c,e,z.sameBut hs (cne y c e)⟩
  ·obtain ⟨w',z⟩:=I.cell y c e;exact ⟨w',z.sameBut hs (cne y c e)⟩
  ·obtain ⟨e,n,ne,nf,d⟩:=I.pin p hp;exact ⟨(hs.2 p.1 ne).trans e,n,ne,nf,d⟩
 ·have hfn:X.fn x=true:=by
   rcases hf with z | z
   ·exact z
   ·rw [z] at hk;cases hk
  obtain ⟨c,hc⟩:=I.ok.has x (.inl hk);obtain ⟨w',z⟩:=I.cell x c hc;refine wpAny_storeName_cell I.ok.kind hk hc z (fun h' hc' hs=>?_);obtain ⟨oc,hoc,hocd⟩:=id z;refine h { s with heap:=h' } ⟨I.ok,I.os,I.bare,⟨fun b o e n hb hx=>?_,fun b o e n hb hx=>?_,I.base.free,fun b o e hx=>?_,I.base.tups,I.base.frzs,I.base.tbls⟩,⟨m,hn.sameBut hs (Ne.symm (cne x c hc)),fun j y v' e1 e2 e3=>?_⟩,fun y c' e=>?_,I.free,I.freeC,fun p hp=>?_,tracked ⟨oc,hoc,I.freeC x c hc⟩ hs,by simpa using I.len⟩ ⟨c,hs,.inr hc⟩
  ·exact (hs.2 b (Nat.ne_of_lt (Nat.lt_of_lt_of_le (lt_size e) (I.ok.cab x c hfn hc)))).trans (I.base.keep b o e n hb hx)
  ·obtain ⟨sl,e1⟩:=I.base.slot b o e n hb hx;exact ⟨sl,(hs.2 b (Nat.ne_of_lt (Nat.lt_of_lt_of_le (lt_size e) (I.ok.cab x c hfn hc)))).trans e1⟩
  ·obtain ⟨o',e1⟩:=I.base.there b o e hx;exact ⟨o',(hs.2 b (Nat.ne_of_lt (Nat.lt_of_lt_of_le (lt_size e) (I.ok.cab x c hfn hc)))).trans e1⟩
  ·by_cases hj:j=i
   ·subst hj;rw [hi] at e1;cases e1;rw [List.getElem?_set_self hiσ] at e2;cases e2;exact ⟨u,r,.inr ⟨.inl hk,c,hc,hc'⟩⟩
   ·rw [List.getElem?_set_ne (Ne.symm hj)] at e2;obtain ⟨u',r',q⟩:=hl j y v' e1 e2 e3;refine ⟨u',r',?_⟩;rcases q with q | ⟨k,c',e,z'⟩
    ·exact .inl q
    ·refine .inr ⟨k,c',e,z'.sameBut hs ?_⟩;rintro rfl;exact hj (nodup_ix hN e1 (I.ok.inj _ _ _ e hc ▸ hi))
  ·by_cases hcc:c'=c
   ·subst hcc;exact ⟨_,hc'⟩
   ·obtain ⟨w2,z2⟩:=I.cell y c' e;exact ⟨w2,z2.sameBut hs hcc⟩
  ·obtain ⟨e,n,ne,nf,d⟩:=I.pin p hp;refine ⟨(hs.2 p.1 ?_).trans e,n,ne,nf,d⟩;intro q;rw [q,hoc] at e;have q':oc=p.2:=Option.some.inj e;exact d w' (by rw [<- q'];exact hocd)
theorem store_ok {M:Model} {A:Around} {E:Value->Shared->Prop} {i:Nat} {x:Str} {v:V} {u:Value} {Q:Unit->Shared->Prop} (I:Inv X pins σ H s) (hN:X.N.Nodup) (hi:X.N[i]?=some x) (hx:Loc X.env.scope x) (r:RelV v u)
  (h:∀ s',Inv X pins (σ.set i (some v)) H s'->Q () s') (hf:X.fn x=true\/X.env.scope.names.lookup x=some .local:=by first | exact .inl rfl | exact .inr rfl | assumption):wpAny M A (storeName X.env x u) Q E s :=
 store_ok2 I hN hi hx r (fun s' I' _=>h s' I') hf
theorem Inv.call' {s':Shared} {ch:List Addr} (I:Inv X pins σ H s) (ho:s'.os=s.os) (u:Un (frs X.stack) ch H H' s.heap s'.heap) (hok:HOk X.prog X.w H' s'.heap) (hg:AllBare s'.gens)
  (hch:∀ b∈ch,(b∈X.ex\/X.s₀.heap.objs.size<=b)/\b≠X.env.locals/\(∀ x c,X.env.cells.lookup x=some c->c≠b)/\∀ p∈X.pn ++ pins,p.1≠b):Inv X pins σ H' s':=by
 obtain ⟨h',g',d',t',o'⟩:=s';have e:o'=s.os:=ho;subst e;exact I.call (g':=g') (t':=t') (d':=d') u hok hg hch
end
abbrev XK:=Value->Option Addr->Hp->Prop
abbrev St:=List (Option V)
abbrev VK:=V->Hp->Prop
abbrev TE:=St->Hp->VK->Prop
abbrev TT:=St->Hp->(Bool->Hp->Prop)->Prop
abbrev TA:=St->Hp->(List V->Hp->Prop)->Prop
structure Ends where
 nx:St->Hp->Prop
 rt:VK
 bk:St->Hp->Prop:=fun _ _=>False
 ct:St->Hp->Prop:=fun _ _=>False
abbrev TS:=Ends->St->Hp->Prop
def EP (X:Cx) (pins:List (Addr × Obj)) (σ:St) (Q:VK) (u:Value) (s':Shared):Prop:=∃ v H',Inv X pins σ H' s'/\RelV v u/\Q v H'
def TP (X:Cx) (pins:List (Addr × Obj)) (σ:St) (Q:Bool->Hp->Prop) (b:Bool) (s':Shared):Prop:=∃ H',Inv X pins σ H' s'/\Q b H'
def AP (X:Cx) (pins:List (Addr × Obj)) (σ:St) (Q:List V->Hp->Prop) (us:List Value) (s':Shared):Prop:=∃ vs H',Inv X pins σ H' s'/\Vals vs us/\Q vs H'
def SP (X:Cx) (pins:List (Addr × Obj)) (D:Ends) (f:Flow) (s':Shared):Prop :=
 match f with
 | .next=>∃ σ' H',Inv X pins σ' H' s'/\D.nx σ' H'
 | .brk=>∃ σ' H',Inv X pins σ' H' s'/\D.bk σ' H'
 | .cont=>∃ σ' H',Inv X pins σ' H' s'/\D.ct σ' H'
 | .ret u=>∃ v σ' H',Inv X pins σ' H' s'/\RelV v u/\D.rt v H'
def PE (X:Cx) (e:Expr) (t:TE):Prop :=
 ∀ (pins:List (Addr × Obj)) (s:Shared) (σ:St) (H:Hp) (Q:VK),Inv X pins σ H s->t σ H Q->wpAny (model X.prog X.w) X.A (eval e X.env) (EP X pins σ Q) X.xe s
def PT (X:Cx) (e:Expr) (t:TT):Prop :=
 ∀ (pins:List (Addr × Obj)) (s:Shared) (σ:St) (H:Hp) (Q:Bool->Hp->Prop),Inv X pins σ H s->t σ H Q->wpAny (model X.prog X.w) X.A (isTrue e X.env (eval e X.env)) (TP X pins σ Q) X.xe s
def PW (X:Cx) (e:Expr) (t:TT):Prop :=
 ∀ (whole:Sem Value) (pins:List (Addr × Obj)) (s:Shared) (σ:St) (H:Hp) (Q:Bool->Hp->Prop),Inv X pins σ H s->t σ H Q->wpAny (model X.prog X.w) X.A (isTrue e X.env whole) (TP X pins σ Q) X.xe s
theorem PW.pt {X:Cx} {e:Expr} {t:TT} (h:PW X e t):PT X e t:=h _
def PA (X:Cx) (es:List Expr) (t:TA):Prop :=
 ∀ (pos:Pos) (pins:List (Addr × Obj)) (s:Shared) (σ:St) (H:Hp) (Q:List V->Hp->Prop),Inv X pins σ H s->t σ H Q->wpAny (model X.prog X.w) X.A (spliced (backTo pos (starEach es X.env))) (AP X pins σ Q) X.xe s
def PS (X:Cx) (st:Stmt) (t:TS):Prop :=
 ∀ (pins:List (Addr × Obj)) (s:Shared) (σ:St) (H:Hp) (D:Ends),Inv X pins σ H s->t D σ H->wpAny (model X.prog X.w) X.A (exec st X.env) (SP X pins D) X.xe s
def PSs (X:Cx) (st:List Stmt) (t:TS):Prop :=
 ∀ (pins:List (Addr × Obj)) (s:Shared) (σ:St) (H:Hp) (D:Ends),Inv X pins σ H s->t D σ H->wpAny (model X.prog X.w) X.A (execs st X.env) (SP X pins D) X.xe s
theorem thn {α:Type} {t:Sem α} {Q Q':α->Shared->Prop} {M:Model} {A:Around} {E:Value->Shared->Prop} {s:Shared} (h:wpAny M A t Q E s) (hQ:∀ a s,Q a s->Q' a s):wpAny M A t Q' E s:=wpAny_mono h hQ fun _ _ x=>x
end L2
namespace L2
open PySem PySem.Spec PyProof.Rows
section
variable {X:Cx}
def tVar (i:Nat):TE:=fun σ H Q=>∃ v,σ[i]?=some (some v)/\Q v H
def tC (v:V):TE:=fun _ H Q=>Q v H
theorem pe_var {i:Nat} {x:Str} {pos:Pos} (hN:X.N[i]?=some x) (hv:Vis X.env.scope x) (hd:(x == ("__debug__":Str))=false:=by decide) (hcd:(x == ("__classdict__":Str))=false:=by decide):PE X (.Name x pos) (tVar i):=by
 intro pins s σ H Q I h;obtain ⟨v,e,h⟩:=h;obtain ⟨m,hn,hl⟩:=I.loc;obtain ⟨u,r,l⟩:=hl i x v hN e hv;have fin:EP X pins σ Q u s:=⟨v,H,I,r,h⟩;rcases l with ⟨hk,hm⟩ | ⟨hk,c,hc,hcell⟩
 ·exact wpAny_Name (wpAny_loadName_local I.ok.kind hk hn hm fin) hd
 ·rcases hk with hk | hk
  ·exact wpAny_Name (wpAny_loadName_cell I.ok.kind hk hc hcell fin) hd
  ·exact wpAny_Name (wpAny_loadName_free I.ok.kind hk hc hcell fin hcd) hd
theorem Jd {i j pos}:PE X (.Constant (.int i) j pos) (tC (.int i)):=fun _ _ _ H _ I h=>wpAny_Constant_int ⟨.int i,H,I.tok _,⟨_,rfl⟩,h⟩
theorem pe_bl {b j pos}:PE X (.Constant (.bool b) j pos) (tC (.bl b)):=fun _ _ _ H _ I h=>Constant_bool ⟨.bl b,H,I,rfl,h⟩
theorem pe_non {j pos}:PE X (.Constant .none j pos) (tC .non):=fun _ _ _ H _ I h=>Constant_none ⟨.non,H,I,rfl,h⟩
theorem pe_str {x j pos}:PE X (.Constant (.str x) j pos) (tC (.str x)):=fun _ _ _ H _ I h=>Calls.Constant_str ⟨.str x,H,I.tok _,⟨_,rfl⟩,h⟩
def Gl (X:Cx) (x:Str):Prop:=X.env.kindOf x=some .globalImplicit
theorem ld_glob {E:Value->Shared->Prop} {pins:List (Addr × Obj)} {s:Shared} {σ:St} {H:Hp} {x:Str} {u:Value} {pos:Pos} {Q:Value->Shared->Prop} (I:Inv X pins σ H s) (hg:Gl X x) (hm:X.mg x=some u) (h:Q u s)
  (hd:(x == ("__debug__":Str))=false:=by decide):wpAny (model X.prog X.w) X.A (eval (.Name x pos) X.env) Q E s :=
 Calls.Name_function_global I.ok.kind hg (Calls.loadGlobal_global (by rw [I.ok.glob];exact I.mod.glob.keeps I.bk) hm h) hd
theorem J3p {E:Value->Shared->Prop} {pins:List (Addr × Obj)} {s:Shared} {σ:St} {H:Hp} {x:Str} {u:Value} {pos:Pos} {Q:Value->Shared->Prop} (I:Inv X pins σ H s) (hg:Gl X x) (hm:X.mg x=none) (hv:bootBuiltins x=some u) (h:Q u s)
  (hn:x≠"__name__":=by decide) (hd:(x == ("__debug__":Str))=false:=by decide):wpAny (model X.prog X.w) X.A (eval (.Name x pos) X.env) Q E s:=by
 obtain ⟨mb,h1,h2⟩:=I.mod.blt;exact Calls.Name_function_global I.ok.kind hg (Calls.loadGlobal_builtin (by rw [I.ok.glob];exact I.mod.glob.keeps I.bk) hm (by rw [I.ok.blt];exact h1.keeps I.bk) ((h2 x hn).trans hv) h) hd
theorem pe_glob {x:Str} {v:V} {u:Value} {pos:Pos} (hg:Gl X x) (hm:X.mg x=some u) (r:RelV v u) (hd:(x == ("__debug__":Str))=false:=by decide):PE X (.Name x pos) (tC v) :=
 fun _ _ _ H _ I h=>ld_glob I hg hm ⟨v,H,I,r,h⟩ hd
theorem J34 {x:Str} {v:V} {u:Value} {pos:Pos} (hg:Gl X x) (hm:X.mg x=none) (hv:bootBuiltins x=some u) (r:RelV v u) (hn:x≠"__name__":=by decide) (hd:(x == ("__debug__":Str))=false:=by decide):PE X (.Name x pos) (tC v) :=
 fun _ _ _ H _ I h=>J3p I hg hm hv ⟨v,H,I,r,h⟩ hn hd
variable {a b:Expr} {ta tb:TE} {pos:Pos}
def PC (X:Cx) (op:CmpOp) (a b:Expr) (t:TE):Prop :=
 ∀ (pins:List (Addr × Obj)) (s:Shared) (σ:St) (H:Hp) (Q:VK),Inv X pins σ H s->t σ H Q->
  wpAny (model X.prog X.w) X.A (eval a X.env) (fun v s₁=>wpAny (model X.prog X.w) X.A (eval b X.env) (fun u s₂=>wpAny (model X.prog X.w) X.A (compareOp op v u) (EP X pins σ Q) X.xe s₂) X.xe s₁) X.xe s
def tB (t:TE):TT:=fun σ H Q=>t σ H fun x H1=>∃ c,x=.bl c/\Q c H1
theorem pt_cmp {op:CmpOp} {t:TE} (h:PC X op a b t) (h1:behindInMarks op b=false:=by first | exact nobehind _ (by decide) (by decide) | rfl):PT X (.Compare a [op] [b] pos) (tB t):=by
 intro pins s σ H Q I hw;refine wpAny_isTrue_Compare1 (thn (h pins s σ H _ I hw) fun v s1 h1=>thn h1 fun u s2 h2=>thn h2 fun c s3 h9=>?_) h1;obtain ⟨x,H1,I1,r1,q1⟩:=h9;obtain ⟨d,rfl,q⟩:=q1;cases r1;exact wpAny_truthy_bool ⟨H1,I1,q⟩
theorem J2l {e:Expr} {t:TE} (h:PE X e t) (he:∀ whole,isTrue e X.env whole=(do let v <- whole;standAt e.pos;holding [v] (truthy v)):=by intro _;rfl):PT X e (tB t):=by
 intro pins s σ H Q I hw;refine isTrue_plain (thn (h pins s σ H _ I hw) fun v s1 h9=>?_) (he _);obtain ⟨x,H1,I1,r1,q1⟩:=h9;obtain ⟨d,rfl,q⟩:=q1;cases r1;exact wpAny_truthy_bool ⟨H1,I1,q⟩
variable {tA tB':TT} {rest:List Expr}
def tAnd (t u:TT):TT:=fun σ H Q=>t σ H fun c H1=>if c=true then u σ H1 Q else Q false H1
def tOr (t u:TT):TT:=fun σ H Q=>t σ H fun c H1=>if c=true then Q true H1 else u σ H1 Q
def tNot (t:TT):TT:=fun σ H Q=>t σ H fun c H1=>Q (!c) H1
theorem pw_and1 (ha:PT X a tA):PW X (.BoolOp .And [a] pos) tA:=by
 intro wh pins s σ H Q I h;refine isTrue_and (thn (ha pins s σ H Q I h) fun c s1 e=>?_)
 cases c with
 | true=>exact isTrue_and_nil e
 | false=>exact e
theorem pw_or1 (ha:PT X a tA):PW X (.BoolOp .Or [a] pos) tA:=by
 intro wh pins s σ H Q I h;refine isTrue_or (thn (ha pins s σ H Q I h) fun c s1 e=>?_)
 cases c with
 | false=>exact isTrue_or_nil e
 | true=>exact e
theorem pw_and (ha:PT X a tA) (hb:PW X (.BoolOp .And (b :: rest) pos) tB'):PW X (.BoolOp .And (a :: b :: rest) pos) (tAnd tA tB'):=by
 intro wh pins s σ H Q I h;refine isTrue_and (thn (ha pins s σ H _ I h) fun c s1 h9=>?_);obtain ⟨H1,I1,q1⟩:=h9
 cases c with
 | true=>exact hb wh pins s1 σ H1 Q I1 q1
 | false=>exact ⟨H1,I1,q1⟩
theorem pw_or (ha:PT X a tA) (hb:PW X (.BoolOp .Or (b :: rest) pos) tB'):PW X (.BoolOp .Or (a :: b :: rest) pos) (tOr tA tB'):=by
 intro wh pins s σ H Q I h;refine isTrue_or (thn (ha pins s σ H _ I h) fun c s1 h9=>?_);obtain ⟨H1,I1,q1⟩:=h9
 cases c with
 | true=>exact ⟨H1,I1,q1⟩
 | false=>exact hb wh pins s1 σ H1 Q I1 q1
theorem J3h (ha:PT X a tA):PT X (.UnaryOp .Not a pos) (tNot tA):=by
 intro pins s σ H Q I h;exact isTrue_not (ha pins s σ H (fun c H1=>Q (!c) H1) I h)
def tIf (t:TT) (ta tb:TE):TE:=fun σ H Q=>t σ H fun c H1=>if c=true then ta σ H1 Q else tb σ H1 Q
theorem pe_ifExp {c:Expr} (hc:PT X c tA) (ha:PE X a ta) (hb:PE X b tb):PE X (.IfExp c a b pos) (tIf tA ta tb):=by
 intro pins s σ H Q I h;refine wpAny_IfExp (thn (hc pins s σ H _ I h) fun d s1 h9=>?_);obtain ⟨H1,I1,q1⟩:=h9
 cases d with
 | true=>exact ha pins s1 σ H1 Q I1 q1
 | false=>exact hb pins s1 σ H1 Q I1 q1
end
end L2
namespace L2
open PySem PySem.Spec PyProof.Rows
def SqL (K:Frag) (H:Hp) (a:Addr) (xs:List V):Prop :=
 Rd H a (.lst xs)\/
  ∃ (o:Obj) (its:Array Value) (n:Nat),K.lookup a=some o/\o.cls=.type "list"/\o.dict=none/\o.data=.seq its n/\its.size<=sizeLine/\Vals xs its.toList
def SqT (K:Frag) (H:Hp) (a:Addr) (xs:List V):Prop :=
 Rd H a (.tup xs)\/
  ∃ (o:Obj) (its:Array Value) (n:Nat),K.lookup a=some o/\o.cls=.type "tuple"/\o.data=.seq its n/\its.size<=sizeLine/\Vals xs its.toList
def absV:Value->Option V
 | .none=>some .non
 | .bool b=>some (.bl b)
 | .int i _=>some (.int i)
 | .str x _=>some (.str x)
 | .bytes b _=>some (.byt b)
 | .float b _=>some (.flt b)
 | .ref a=>some (.ref a)
 | .type n=>some (.ty n)
 | _=>none
theorem RelV.abs {x:V} {u:Value} (r:RelV x u):absV u=some x:=by
 cases x with
 | non=>cases r;rfl
 | bl _=>cases r;rfl
 | int _=>obtain ⟨t,rfl⟩:=r;rfl
 | str _=>obtain ⟨t,rfl⟩:=r;rfl
 | byt _=>obtain ⟨t,rfl⟩:=r;rfl
 | flt _=>obtain ⟨t,rfl⟩:=r;rfl
 | ref _=>cases r;rfl
 | ty _=>cases r;rfl
theorem RelV.inj {x y:V} {u:Value} (r:RelV x u) (q:RelV y u):x=y:=Option.some.inj (r.abs.symm.trans q.abs)
theorem Vals.inj:∀ {xs ys:List V} {us:List Value},Vals xs us->Vals ys us->xs=ys
 | _,_,_,.nil,.nil=>rfl
 | _,_,_,.cons r t,.cons r' t'=>by rw [r.inj r',Vals.inj t t']
section
variable {X:Cx} {pins:List (Addr × Obj)} {σ:St} {H:Hp} {s:Shared} {a:Addr} {xs ys:List V}
theorem SqL.of {K:Frag} (h:H a=some (.lst xs)):SqL K H a xs:=.inl (.inl h)
theorem SqT.of {K:Frag} (h:H a=some (.tup xs)):SqT K H a xs:=.inl (.inl h)
theorem Inv.list (I:Inv X pins σ H s) (h:SqL X.K H a xs):∃ its:List Value,Vals xs its/\PlainL s.heap a its.toArray/\xs.length<=sizeLine:=by
 rcases h with h | ⟨o,its,n,hk,hc,hd,hs,hz,r⟩
 ·obtain ⟨z,its,n,r,e⟩:=h.ok I.hok;exact ⟨its,r,⟨_,n,e,rfl,rfl,rfl⟩,z⟩
 ·refine ⟨its.toList,r,⟨o,n,I.kIn a o hk,hc,hd,by simpa using hs⟩,?_⟩;have e:=r.length;simp only [length_toList] at e;omega
theorem Inv.tuple (I:Inv X pins σ H s) (h:SqT X.K H a xs):∃ its:List Value,Vals xs its/\IsTup s.heap a its.toArray/\xs.length<=sizeLine:=by
 rcases h with h | ⟨o,its,n,hk,hc,hs,hz,r⟩
 ·obtain ⟨z,its,r,p⟩:=h.ok I.hok;exact ⟨its,r,p.tup,z⟩
 ·refine ⟨its.toList,r,⟨o,I.kIn a o hk,hc,n,by simpa using hs⟩,?_⟩;have e:=r.length;simp only [length_toList] at e;omega
theorem Inv.list_inj (I:Inv X pins σ H s) (h:SqL X.K H a xs) (h':SqL X.K H a ys):xs=ys:=by
 obtain ⟨its,r,⟨o,n,e,_,_,d⟩,_⟩:=I.list h;obtain ⟨its',r',⟨o',n',e',_,_,d'⟩,_⟩:=I.list h';rw [e] at e';cases e';rw [d] at d';injection d' with d1 _
 have:its=its':=by simpa using congrArg Array.toList d1
 subst this;exact r.inj r'
theorem Inv.tuple_inj (I:Inv X pins σ H s) (h:SqT X.K H a xs) (h':SqT X.K H a ys):xs=ys:=by
 obtain ⟨its,r,⟨o,e,_,n,d⟩,_⟩:=I.tuple h;obtain ⟨its',r',⟨o',e',_,n',d'⟩,_⟩:=I.tuple h';rw [e] at e';cases e';rw [d] at d';injection d' with d1 _
 have:its=its':=by simpa using congrArg Array.toList d1
 subst this;exact r.inj r'
end
abbrev Cx.wish (X:Cx) (E:Value->Shared->Prop):Cx:={ X with xe:=E }
abbrev Cx.nox (X:Cx):Cx:=X.wish fun _ _=>False
theorem Cx.Ok.wish {X:Cx} (ok:X.Ok) (E:Value->Shared->Prop):(X.wish E).Ok :=
 ⟨ok.mod,ok.kind,ok.glob,ok.blt,ok.above,ok.inj,ok.has,ok.cab,ok.hd,ok.frames,ok.stk,ok.exf,ok.bs,ok.bsz,ok.noex,ok.exfs,ok.funs,ok.frf⟩
theorem Cx.Ok.unwish {X:Cx} {E:Value->Shared->Prop} (ok:(X.wish E).Ok):X.Ok :=
 ⟨ok.mod,ok.kind,ok.glob,ok.blt,ok.above,ok.inj,ok.has,ok.cab,ok.hd,ok.frames,ok.stk,ok.exf,ok.bs,ok.bsz,ok.noex,ok.exfs,ok.funs,ok.frf⟩
section
variable {X:Cx} {pins:List (Addr × Obj)} {σ:St} {H:Hp} {s:Shared} {E:Value->Shared->Prop}
theorem Inv.wish (I:Inv X pins σ H s) (E:Value->Shared->Prop):Inv (X.wish E) pins σ H s:=⟨I.ok.wish E,I.os,I.bare,I.base,I.loc,I.cell,I.free,I.freeC,I.pin,I.hok,I.len⟩
theorem Inv.unwish (I:Inv (X.wish E) pins σ H s):Inv X pins σ H s:=⟨I.ok.unwish,I.os,I.bare,I.base,I.loc,I.cell,I.free,I.freeC,I.pin,I.hok,I.len⟩
theorem SP.unwish {D:Ends} {f:Flow} {s':Shared} (h:SP (X.wish E) pins D f s'):SP X pins D f s':=by
 cases f with
 | next=>obtain ⟨σ',H',I,q⟩:=h;exact ⟨σ',H',I.unwish,q⟩
 | brk=>obtain ⟨σ',H',I,q⟩:=h;exact ⟨σ',H',I.unwish,q⟩
 | cont=>obtain ⟨σ',H',I,q⟩:=h;exact ⟨σ',H',I.unwish,q⟩
 | ret u=>obtain ⟨v,σ',H',I,r,q⟩:=h;exact ⟨v,σ',H',I.unwish,r,q⟩
theorem PSs.nox {st:List Stmt} {t:TS} (h:PSs X.nox st t):PSs X st t:=fun pins s σ H D I hw =>
 wpAny_mono (h pins s σ H D (I.wish _) hw) (fun _ _ q=>q.unwish) fun _ _ z=>False.elim z
end
section
variable {X:Cx} {st:Stmt} {rest:List Stmt} {t u:TS} {e:Expr} {te:TE} {pos:Pos}
def tNext:TS:=fun D σ H=>D.nx σ H
def tSeq (t u:TS):TS:=fun D σ H=>t { D with nx:=u D } σ H
theorem Jl:PSs X [] tNext:=fun _ _ σ H _ I h=>wpAny_execs_nil ⟨σ,H,I,h⟩
theorem J1 (h1:PS X st t) (h2:PSs X rest u):PSs X (st :: rest) (tSeq t u):=by
 intro pins s σ H D I h;refine wpAny_execs_cons (thn (h1 pins s σ H { D with nx:=u D } I h) fun f s1 q=>?_)
 cases f with
 | next =>
  obtain ⟨σ',H',I',q⟩:=q;exact h2 pins s1 σ' H' D I' q
 | ret v=>exact q
 | brk=>exact q
 | cont=>exact q
theorem J7 (h1:PS X st t):PSs X [st] t:=by
 intro pins s σ H D I h;refine wpAny_execs_cons (thn (h1 pins s σ H D I h) fun f s1 q=>?_)
 cases f with
 | next=>exact wpAny_execs_nil q
 | ret v=>exact q
 | brk=>exact q
 | cont=>exact q
theorem Inv.quiet {pins:List (Addr × Obj)} {σ:St} {H:Hp} {s:Shared} (I:Inv X pins σ H s):interactive X.env=false:=by simp [interactive,I.ok.kind]
def tDrop (te:TE):TS:=fun D σ H=>te σ H fun _ H1=>D.nx σ H1
theorem J30 (he:PE X e te) (hs:swapsWith e none pos.line X.env=pure false:=by rfl):PS X (.Expr e pos) (tDrop te):=by
 intro pins s σ H D I h;exact wpAny_Expr_any (thn (he pins s σ H _ I h) fun v s1 h9=>by obtain ⟨x,H1,I1,r1,q1⟩:=h9;exact ⟨σ,H1,I1,q1⟩) I.quiet hs
def tRet (te:TE):TS:=fun D σ H=>te σ H D.rt
theorem Jp (he:PE X e te):PS X (.Return (some e) pos) (tRet te):=by
 intro pins s σ H D I h;exact wpAny_Return_some (thn (he pins s σ H _ I h) fun v s1 h9=>by obtain ⟨x,H1,I1,r1,q1⟩:=h9;exact ⟨x,σ,H1,I1,r1,q1⟩)
def tIfS (c:TT) (t u:TS):TS:=fun D σ H=>c σ H fun b H1=>if b=true then t D σ H1 else u D σ H1
theorem ps_if {c:Expr} {a b:List Stmt} {tc:TT} (hc:PT X c tc) (ha:PSs X a t) (hb:PSs X b u):PS X (.If c a b pos) (tIfS tc t u):=by
 intro pins s σ H D I h;refine wpAny_If (thn (hc pins s σ H _ I h) fun d s1 h9=>?_);obtain ⟨H1,I1,q1⟩:=h9
 cases d with
 | true=>exact ha pins s1 σ H1 D I1 q1
 | false=>exact hb pins s1 σ H1 D I1 q1
end
abbrev TG:=V->St->Hp->(St->Hp->Prop)->Prop
abbrev TGs:=List V->St->Hp->(St->Hp->Prop)->Prop
def PG (X:Cx) (target:Expr) (t:TG):Prop :=
 ∀ (pins:List (Addr × Obj)) (s:Shared) (σ:St) (H:Hp) (v:V) (u:Value) (Q:St->Hp->Prop),Inv X pins σ H s->RelV v u->t v σ H Q->
  wpAny (model X.prog X.w) X.A (assign target X.env u) (fun _ s'=>∃ σ' H',Inv X pins σ' H' s'/\Q σ' H') X.xe s
def PGs (X:Cx) (ts:List Expr) (t:TGs):Prop :=
 ∀ (pins:List (Addr × Obj)) (s:Shared) (σ:St) (H:Hp) (vs:List V) (us:List Value) (Q:St->Hp->Prop),Inv X pins σ H s->Vals vs us->t vs σ H Q->
  wpAny (model X.prog X.w) X.A (assignInOrder ((assignEach ts X.env).map (·.2)) us) (fun _ s'=>∃ σ' H',Inv X pins σ' H' s'/\Q σ' H') X.xe s
abbrev TSet:=V->V->V->Hp->(Hp->Prop)->Prop
def PSet (X:Cx) (t:TSet):Prop :=
 ∀ (pins:List (Addr × Obj)) (s:Shared) (σ:St) (H:Hp) (o i v:V) (ov iv u:Value) (Q:Hp->Prop),Inv X pins σ H s->RelV o ov->RelV i iv->RelV v u->t o i v H Q->
  wpAny (model X.prog X.w) X.A (setItem ov iv u) (fun _ s'=>∃ H',Inv X pins σ H' s'/\Q H') X.xe s
section
variable {X:Cx} {pos:Pos}
def gName (i:Nat):TG:=fun v σ H Q=>Q (σ.set i (some v)) H
theorem Jz {i:Nat} {x:Str} (hN:X.N.Nodup) (hi:X.N[i]?=some x) (hx:Loc X.env.scope x) (hf:X.fn x=true\/X.env.scope.names.lookup x=some .local:=by first | exact .inl rfl | exact .inr rfl | assumption):PG X (.Name x pos) (gName i):=by
 intro pins s σ H v u Q I r h;exact wpAny_assign_Name (store_ok I hN hi hx r (fun s' I'=>⟨_,H,I',h⟩) hf)
def gNil:TGs:=fun vs σ H Q=>vs=[]/\Q σ H
def gCons (t:TG) (u:TGs):TGs:=fun vs σ H Q=>∃ v r,vs=v :: r/\t v σ H fun σ' H'=>u r σ' H' Q
theorem pgs_nil:PGs X [] gNil:=by
 intro pins s σ H vs us Q I r h;obtain ⟨e,h⟩:=h;subst e;cases r;exact assignInOrder_nil ⟨σ,H,I,h⟩
theorem pgs_cons {e:Expr} {es:List Expr} {t:TG} {u:TGs} (h1:PG X e t) (h2:PGs X es u)
  (hs:(assignEach (e :: es) X.env).map (·.2)=assign e X.env :: (assignEach es X.env).map (·.2):=by rfl):PGs X (e :: es) (gCons t u):=by
 intro pins s σ H vs us Q I r h;obtain ⟨v,vr,e1,h⟩:=h;subst e1
 cases r with
 | cons r rr =>
  rw [hs];refine assignInOrder_cons (thn (h1 pins s σ H _ _ _ I r h) fun _ s1 h9=>?_);obtain ⟨σ1,H1,I1,q1⟩:=h9;exact h2 pins s1 σ1 H1 _ _ Q I1 rr q1
def gTup (K:Frag) (n:Nat) (t:TGs):TG:=fun v σ H Q=>∃ a xs,v=.ref a/\SqT K H a xs/\xs.length=n/\t xs σ H Q
theorem pg_tup {es:List Expr} {k:Nat} {t:TGs} {n:Nat} (hc:X.calm=true) (h:PGs X es t)
  (hn:(assignEach es X.env).length=n:=by rfl) (hst:(assignEach es X.env).findIdx? (·.1)=none:=by rfl):PG X (.Tuple es k pos) (gTup X.K n t):=by
 intro pins s σ H v u Q I r hw;obtain ⟨a,xs,e1,hq,hl,hw⟩:=hw;subst e1;cases r;obtain ⟨its,rv,ht,hz⟩:=I.tuple hq;refine assign_Tuple_tuple (I.ok.hd hc) ht (by simp [hn,<- hl,rv.length]) hst fun h' hx=>?_;have I1:Inv X pins σ H { s with heap:=h' }:=I.kept (t':=s.toks) fun b o e=>hx b o (Nat.ne_of_lt (lt_size e)) e;exact h pins _ σ H xs _ Q I1 (by simpa using rv) hw
def gSub (to ti:TE) (t:TSet):TG:=fun v σ H Q=>to σ H fun o H1=>ti σ H1 fun i H2=>t o i v H2 fun H3=>Q σ H3
theorem pg_sub {o i:Expr} {to ti:TE} {t:TSet} (ho:PE X o to) (hi:PE X i ti) (hs:PSet X t)
  (ha:∀ v,assign (.Subscript o i pos) X.env v=(do
   let ov <- holding [v] (eval o X.env);let iv <- holding [v,ov] (eval i X.env)
   standAt pos
   holding [v,ov,iv] (setItem ov iv v)
   release [v,ov,iv] []):=by intro _;rfl):PG X (.Subscript o i pos) (gSub to ti t):=by
 intro pins s σ H v u Q I r h;rw [ha];refine wpAny_bind (wpAny_holding (thn (ho pins s σ H _ I h) fun ov s1 h9=>?_));obtain ⟨x,H1,I1,r1,q1⟩:=h9;refine wpAny_bind (wpAny_holding (thn (hi pins s1 σ H1 _ I1 q1) fun iv s2 h9=>?_));obtain ⟨y,H2,I2,r2,q2⟩:=h9;refine wpAny_bind (wpAny_standAt (wpAny_bind (wpAny_holding (thn (hs pins s2 σ H2 x y v ov iv u _ I2 r1 r2 r q2) fun _ s3 h9=>?_))));obtain ⟨H3,I3,q3⟩:=h9;exact wpAny_release ⟨σ,H3,I3,q3⟩
def tAsg (te:TE) (g:TG):TS:=fun D σ H=>te σ H fun x H1=>g x σ H1 D.nx
theorem ps_asg {tg e:Expr} {te:TE} {g:TG} (he:PE X e te) (hg:PG X tg g) (hs:swapsWithSole [tg] e pos.line X.env=pure false:=by rfl) (hw:swappedStores [tg] e X.env=pure none:=by rfl)
  (h1:(assignEach [tg] X.env).map (·.2)=[assign tg X.env]:=by rfl):PS X (.Assign [tg] e pos) (tAsg te g):=by
 intro pins s σ H D I h;refine wpAny_Assign_stores (thn (he pins s σ H _ I h) fun v s1 h9=>?_) hs hw;obtain ⟨x,H1,I1,r1,q1⟩:=h9;rw [h1];exact thn (hg pins s1 σ H1 x v _ I1 r1 q1) fun _ s2 q=>q
theorem Jq {i:Nat} {x:Str} {e:Expr} {te:TE} {pos':Pos} (hN:X.N.Nodup) (hi:X.N[i]?=some x) (hx:Loc X.env.scope x) (he:PE X e te) (hs:swapsWith e (some (.Name x pos')) pos.line X.env=pure false:=by rfl) (hf:X.fn x=true\/X.env.scope.names.lookup x=some .local:=by first | exact .inl rfl | exact .inr rfl | assumption) :
  PS X (.Assign [.Name x pos'] e pos) (tAsg te (gName i)):=by
 intro pins s σ H D I h;refine wpAny_Assign_Name (thn (he pins s σ H _ I h) fun v s1 h9=>?_) hs;obtain ⟨y,H1,I1,r1,q1⟩:=h9;exact store_ok I1 hN hi hx r1 (fun s2 I2=>⟨_,H1,I2,q1⟩) hf
end
section
variable {X:Cx} {pos:Pos}
def tWhile (c:TT) (tb:TS):TS:=fun D σ H=>∃ W:Nat->St->Hp->Prop,(∃ m,W m σ H)/\∀ m σ H,W m σ H->
 c σ H fun b H1=>if b=true then ∃ N:St->Hp->Prop,(∀ σ' H',N σ' H'->∃ m',m' < m/\W m' σ' H')/\tb { D with nx:=N,ct:=N,bk:=D.nx } σ H1 else D.nx σ H1
theorem ps_while {c:Expr} {body:List Stmt} {tc:TT} {tb:TS} (hp:PassesOwn (model X.prog X.w) X.A X.env X.xe) (hc:PT X c tc) (hb:PSs X body tb):PS X (.While c body [] pos) (tWhile tc tb):=by
 intro pins s σ H D I h;obtain ⟨W,⟨m0,w0⟩,turn⟩:=h;refine wpAny_While (codeAny_whileLoop (fun n s'=>∃ σ' H',Inv X pins σ' H' s'/\W n σ' H') ?_ m0 ⟨σ,H,I,w0⟩);rintro n s1 ⟨σ1,H1,I1,w1⟩;refine wpAny_passesOwn hp (thn (hc pins s1 σ1 H1 _ I1 (turn n σ1 H1 w1)) fun b s2 h9=>?_);obtain ⟨H2,I2,q2⟩:=h9
 cases b with
 | true =>
  obtain ⟨N,hN,q2⟩:=q2;rw [if_pos rfl];refine wpAny_passesOwn hp (thn (hb pins s2 σ1 H2 _ I2 q2) fun f s3 q3=>?_)
  cases f with
  | next =>
   obtain ⟨σ3,H3,I3,n3⟩:=q3;obtain ⟨m',hm,w3⟩:=hN σ3 H3 n3;exact ⟨m',hm,σ3,H3,I3,w3⟩
  | cont =>
   obtain ⟨σ3,H3,I3,n3⟩:=q3;obtain ⟨m',hm,w3⟩:=hN σ3 H3 n3;exact ⟨m',hm,σ3,H3,I3,w3⟩
  | brk=>exact q3
  | ret v=>exact q3
 | false =>
  rw [if_neg Bool.false_ne_true];exact wpAny_execs_nil ⟨σ1,H2,I2,q2⟩
end
structure It where
 go:Nat->Hp->Prop
 yld:Nat->Hp->V->Hp->Prop
 stop:Nat->Hp->Prop
def FpOk (X:Cx) (pins:List (Addr × Obj)) (H:Hp) (b:Addr):Prop :=
 H b=none/\b≠X.env.locals/\b ∉ X.fs/\(b∈X.ex\/X.s₀.heap.objs.size<=b)/\(∀ x c,X.env.cells.lookup x=some c->c≠b)/\∀ p∈X.pn ++ pins,p.1≠b
theorem Inv.fpOk {X:Cx} {pins:List (Addr × Obj)} {σ:St} {H H':Hp} {s:Shared} {b:Addr} (I:Inv X pins σ H s) (hb:s.heap.objs.size<=b) (hn:H' b=none):FpOk X pins H' b:=by
 refine ⟨hn,Nat.ne_of_gt (Nat.lt_of_lt_of_le I.lt hb),I.nofs hb,.inr (Nat.le_trans I.sz hb),fun x c e z=>?_,fun p hp z=>?_⟩
 ·obtain ⟨v,q⟩:=I.cell x c e;exact absurd (Nat.lt_of_lt_of_le q.lt (by rw [z];exact hb)) (Nat.lt_irrefl _)
 ·exact absurd (Nat.lt_of_lt_of_le (lt_size (I.pin p hp).1) (by rw [z];exact hb)) (Nat.lt_irrefl _)
structure Turn (P:Program) (w:World) (K:Frag) (tg:Expr) (J:It) (fp:List Addr) (it:Addr) (tn:Nat->Heap->Prop):Prop where
 mem:it∈fp
 obj:∀ i h,tn i h->∀ b∈fp,∃ o,h.get? b=some o/\∀ v,o.data≠.cell v
 keep:∀ i h h',tn i h->(∀ b∈fp,∀ o,h.get? b=some o->h'.get? b=some o)->tn i h'
 item:∀ (X:Cx),X.prog=P->X.w=w->X.K=K->X.calm=true->∀ (i:Nat) (pins:List (Addr × Obj)) (s:Shared) (σ:St) (H:Hp) (E:Value->Shared->Prop),Inv X pins σ H s->(∀ b∈fp,FpOk X pins H b)->tn i s.heap->J.go i H->
  wpAny (model P w) X.A (pyNext (.ref it)) (fun r s1=>∃ u,r=some u/\
   wpAny (model P w) X.A (letOwnedTupleGo tg (.ref it) u) (fun _ s2=>∃ x H',Inv X pins σ H' s2/\RelV x u/\J.yld i H x H'/\tn (i + 1) s2.heap/\∀ b∈fp,H' b=none) E s1) E s
 done:∀ (X:Cx),X.prog=P->X.w=w->X.K=K->X.calm=true->∀ (i:Nat) (pins:List (Addr × Obj)) (s:Shared) (σ:St) (H:Hp) (E:Value->Shared->Prop),Inv X pins σ H s->(∀ b∈fp,FpOk X pins H b)->tn i s.heap->J.stop i H->
  wpAny (model P w) X.A (pyNext (.ref it)) (fun r s1=>r=none/\Inv X pins σ H s1) E s
 self:∀ (A:Around) (i:Nat) (s:Shared) (Q:Value->Shared->Prop) (E:Value->Shared->Prop),tn i s.heap->Q (.ref it) s->wpAny (model P w) A (pyIter (.ref it)) Q E s
abbrev TI:=St->Hp->(It->Hp->Prop)->Prop
def PIE (X:Cx) (pins:List (Addr × Obj)) (σ:St) (tg:Expr) (R:It->Hp->Prop) (itv:Value) (s2:Shared):Prop :=
 ∃ (it:Addr) (fp:List Addr) (tn:Nat->Heap->Prop) (J:It) (H':Hp),itv=.ref it/\Inv X pins σ H' s2/\Turn X.prog X.w X.K tg J fp it tn/\tn 0 s2.heap/\(∀ b∈fp,FpOk X pins H' b)/\R J H'
def PI (X:Cx) (tg iter:Expr) (wi:TI):Prop :=
 ∀ (pins:List (Addr × Obj)) (s:Shared) (σ:St) (H:Hp) (R:It->Hp->Prop),Inv X pins σ H s->wi σ H R->
  wpAny (model X.prog X.w) X.A (eval iter X.env) (fun v s1=>wpAny (model X.prog X.w) X.A (pyIter v) (PIE X pins σ tg R) X.xe s1) X.xe s
theorem go_of {M : Model} {A : Around} {E : Value -> Shared -> Prop} {s : Shared} {tg : Expr} {it : Addr} {u : Value} {o : Obj} {n : String} {vs : Array Value} {Q : Unit -> Shared -> Prop} (ho : s.heap.get? it = some o) (hc : o.cls = .type n) (hd : o.data = .fields vs)
    (hn : ["enumerate", "zip", "dict_itemiterator", "dict_reverseitemiterator", "odict_iterator", "itertools.zip_longest", "itertools.pairwise"].contains n = false) (hQ : Q () s) : wpAny M A (letOwnedTupleGo tg (.ref it) u) Q E s := by
  unfold letOwnedTupleGo;cases tg <;> first
    | exact wpAny_pure hQ
    | (cases u <;> first
        | exact wpAny_pure hQ
        | (refine wpAny_bind (wpAny_load ho ?_)
           rw [hc, hd];show wpAny M A (if (["enumerate", "zip", "dict_itemiterator", "dict_reverseitemiterator", "odict_iterator", "itertools.zip_longest", "itertools.pairwise"].contains n && vs[0]? == some (rawInt _)) = true then _ else _) Q E s;rw [if_neg (by intro h; rw [hn, Bool.false_and] at h; cases h)];exact wpAny_pure hQ))
def Itl (K:Frag) (a:Addr):It :=
 ⟨fun i H=>∃ xs x,SqL K H a xs/\xs[i]?=some x,fun i H x H'=>H'=H/\∀ xs,SqL K H a xs->xs[i]?=some x,fun i H=>∃ xs,SqL K H a xs/\xs.length<=i⟩
def Itt (K:Frag) (a:Addr):It :=
 ⟨fun i H=>∃ xs x,SqT K H a xs/\xs[i]?=some x,fun i H x H'=>H'=H/\∀ xs,SqT K H a xs->xs[i]?=some x,fun i H=>∃ xs,SqT K H a xs/\xs.length<=i⟩
def Itr (lo:Int) (n:Nat):It:=⟨fun i _=>i < n,fun i H x H'=>H'=H/\x=.int (lo + i),fun i _=>n<=i⟩
theorem turn_list {P:Program} {w:World} {K:Frag} {tg:Expr} (a it:Addr):Turn P w K tg (Itl K a) [it] it (fun i h=>h.IsListIter it a i) where
 mem:=by simp
 obj:=fun i h st b hb=>by
  have e:b=it:=by simpa using hb
  subst e;obtain ⟨o,e,c,d⟩:=st;exact ⟨o,e,fun v z=>by rw [d] at z;cases z⟩
 keep:=fun i h h' st k=>st.at fun o e=>k it (by simp) o e
 item:=by
  intro X hP hw hK hc i pins s σ H E I hf st hg;subst hP hw hK;obtain ⟨xs,x,hq,hx⟩:=hg;obtain ⟨its,rv,p,hz⟩:=I.list hq;obtain ⟨u,hu,ru⟩:=rv.get hx;obtain ⟨f0,f1,f2,f3,f4,f5⟩:=hf it (by simp);refine wpAny_pyNext_list_item st p.isList (x:=u) (by simpa using hu) fun h' st' sb=>?_;have I1:Inv X pins σ H { s with heap:=h' }:=I.turned (t':=s.toks) (fun b o hb e=>(sb.2 b hb).trans e) f0 f1 f3 f4 f5;obtain ⟨o,e,c,d⟩:=id st';exact ⟨u,rfl,go_of (s:={ s with heap:=h' }) e c d (by decide) ⟨x,H,I1,ru,⟨rfl,fun ys hy=>by rw [I.list_inj hy hq];exact hx⟩,st',fun b hb=>(hf b hb).1⟩⟩
 done:=by
  intro X hP hw hK hc i pins s σ H E I hf st hg;subst hP hw hK;obtain ⟨xs,hq,hx⟩:=hg;obtain ⟨its,rv,p,hz⟩:=I.list hq;obtain ⟨f0,f1,f2,f3,f4,f5⟩:=hf it (by simp);have hl:=rv.length;exact wpAny_pyNext_list_end (I.ok.hd hc) st p.isList (by simp;omega) fun h' eb=>⟨rfl,I.turned (t':=s.toks) (fun b o hb e=>eb b o hb e) f0 f1 f3 f4 f5⟩
 self:=fun _ _ _ _ _ st h=>wpAny_pyIter_listiter st h
theorem turn_tuple {P:Program} {w:World} {K:Frag} {tg:Expr} (a it:Addr):Turn P w K tg (Itt K a) [it] it (fun i h=>h.IsTupleIter it a i) where
 mem:=by simp
 obj:=fun i h st b hb=>by
  have e:b=it:=by simpa using hb
  subst e;obtain ⟨o,e,c,d⟩:=st;exact ⟨o,e,fun v z=>by rw [d] at z;cases z⟩
 keep:=fun i h h' st k=>st.at fun o e=>k it (by simp) o e
 item:=by
  intro X hP hw hK hc i pins s σ H E I hf st hg;subst hP hw hK;obtain ⟨xs,x,hq,hx⟩:=hg;obtain ⟨its,rv,p,hz⟩:=I.tuple hq;obtain ⟨u,hu,ru⟩:=rv.get hx;obtain ⟨f0,f1,f2,f3,f4,f5⟩:=hf it (by simp);refine wpAny_pyNext_tuple_item st (show s.heap.IsTuple a its.toArray from p) (x:=u) (by simpa using hu) fun h' st' sb=>?_;have I1:Inv X pins σ H { s with heap:=h' }:=I.turned (t':=s.toks) (fun b o hb e=>(sb.2 b hb).trans e) f0 f1 f3 f4 f5;obtain ⟨o,e,c,d⟩:=id st';exact ⟨u,rfl,go_of (s:={ s with heap:=h' }) e c d (by decide) ⟨x,H,I1,ru,⟨rfl,fun ys hy=>by rw [I.tuple_inj hy hq];exact hx⟩,st',fun b hb=>(hf b hb).1⟩⟩
 done:=by
  intro X hP hw hK hc i pins s σ H E I hf st hg;subst hP hw hK;obtain ⟨xs,hq,hx⟩:=hg;obtain ⟨its,rv,p,hz⟩:=I.tuple hq;obtain ⟨f0,f1,f2,f3,f4,f5⟩:=hf it (by simp);have hl:=rv.length;exact wpAny_pyNext_tuple_end (I.ok.hd hc) st (show s.heap.IsTuple a its.toArray from p) (by simp;omega) fun h' eb=>⟨rfl,I.turned (t':=s.toks) (fun b o hb e=>eb b o hb e) f0 f1 f3 f4 f5⟩
 self:=fun _ _ _ _ _ st h=>wpAny_pyIter_tupleiter st h
theorem turn_range {P:Program} {w:World} {K:Frag} {tg:Expr} (it:Addr) (lo:Int) (n:Nat):Turn P w K tg (Itr lo n) [it] it (fun i h=>IsRangeIter h it (lo + (i:Nat) * 1) ((n:Int) - (i:Nat)) 1) where
 mem:=by simp
 obj:=fun i h st b hb=>by
  have e:b=it:=by simpa using hb
  subst e;exact ⟨_,st,fun v z=>by
   have z':Data.fields _=Data.cell v:=z;cases z'⟩
 keep:=fun i h h' st k=>k it (by simp) _ st
 item:=by
  intro X hP hw hK hc i pins s σ H E I hf st hg;subst hP hw hK;obtain ⟨f0,f1,f2,f3,f4,f5⟩:=hf it (by simp);have W:=Walks.range (prog:=X.prog) (w:=X.w) (I.ok.hd hc) it lo 1 n;refine W.item i s _ _ hg st fun v h' tk hv st' kk=>?_;obtain ⟨t,rfl⟩:=hv;have I1:Inv X pins σ H { s with heap:=h',toks:=tk }:=I.turned (fun b o hb e=>kk b o (by simpa using hb) e) f0 f1 f3 f4 f5;refine ⟨_,rfl,go_of (s:={ s with heap:=h',toks:=tk }) (n:="range_iterator") st' rfl rfl (by decide) ⟨.int (lo + i),H,I1,⟨t,?_⟩,⟨rfl,rfl⟩,st',fun b hb=>(hf b hb).1⟩⟩;rw [Int.mul_one]
 done:=by
  intro X hP hw hK hc i pins s σ H E I hf st hg;subst hP hw hK;obtain ⟨f0,f1,f2,f3,f4,f5⟩:=hf it (by simp);exact wpAny_pyNext_range_end (I.ok.hd hc) st (by have:n<=i:=hg;omega) fun h' eb=>⟨rfl,I.turned (t':=s.toks) (fun b o hb e=>eb b o hb e) f0 f1 f3 f4 f5⟩
 self:=fun _ _ _ _ _ st h=>wpAny_pyIter_rangeiter st h
end L2
namespace L2
open PySem PySem.Spec PyProof.Rows
section
variable {X:Cx} {tg:Expr}
def iList (K:Frag) (tl:TE):TI:=fun σ H R=>tl σ H fun x H1=>∃ a,x=.ref a/\(∃ xs,SqL K H1 a xs)/\R (Itl K a) H1
def iTup (K:Frag) (tl:TE):TI:=fun σ H R=>tl σ H fun x H1=>∃ a,x=.ref a/\(∃ xs,SqT K H1 a xs)/\R (Itt K a) H1
theorem J32 {l:Expr} {tl:TE} (hl:PE X l tl):PI X tg l (iList X.K tl):=by
 intro pins s σ H R I h;refine thn (hl pins s σ H _ I h) fun v s1 h9=>?_;obtain ⟨x,H1,I1,r1,q1⟩:=h9;obtain ⟨a,e,⟨xs,hq⟩,q⟩:=q1;subst e;cases r1;obtain ⟨its,rv,p,hz⟩:=I1.list hq;refine wpAny_pyIter_list p.isList ?_;refine ⟨s1.heap.objs.size,[s1.heap.objs.size],_,_,H1,rfl,I1.kept (t':=s1.toks) fun b o e=>get?_push_of_some _ e,turn_list a _,⟨_,get?_push_size _ rfl,rfl,rfl⟩,fun b hb=>?_,q⟩;have e:b=s1.heap.objs.size:=by simpa using hb
 subst e;exact I1.fpOk (Nat.le_refl _) (I1.hok.fresh (Nat.le_refl _))
theorem pi_tup {l:Expr} {tl:TE} (hl:PE X l tl):PI X tg l (iTup X.K tl):=by
 intro pins s σ H R I h;refine thn (hl pins s σ H _ I h) fun v s1 h9=>?_;obtain ⟨x,H1,I1,r1,q1⟩:=h9;obtain ⟨a,e,⟨xs,hq⟩,q⟩:=q1;subst e;cases r1;obtain ⟨its,rv,p,hz⟩:=I1.tuple hq;refine wpAny_pyIter_tuple (show s1.heap.IsTuple a its.toArray from p) ?_;refine ⟨s1.heap.objs.size,[s1.heap.objs.size],_,_,H1,rfl,I1.kept (t':=s1.toks) fun b o e=>get?_push_of_some _ e,turn_tuple a _,⟨_,get?_push_size _ rfl,rfl,rfl⟩,fun b hb=>?_,q⟩;have e:b=s1.heap.objs.size:=by simpa using hb
 subst e;exact I1.fpOk (Nat.le_refl _) (I1.hok.fresh (Nat.le_refl _))
theorem range_it {pins:List (Addr × Obj)} {σ:St} {H:Hp} {s:Shared} {R:It->Hp->Prop} {E:Value->Shared->Prop} {lo hi:Int} {t u v:Tok} {tk:Nat} (I:Inv X pins σ H s) (h1:-(2 ^ 62)<=lo) (h2:lo < 2 ^ 62) (h3:-(2 ^ 62)<=hi) (h4:hi < 2 ^ 62)
  (q:R (Itr lo (hi - lo).toNat) H):wpAny (model X.prog X.w) X.A (pyIter (.ref s.heap.objs.size)) (PIE X pins σ tg R) E { s with heap:=s.heap.push { cls:=.type "range",data:=.fields #[.int lo t,.int hi u,.int 1 v] },toks:=tk }:=by
 refine wpAny_pyIter_range (IsRange.new ..) (small_one h1 h2 h3 h4) ?_;have I1:Inv X pins σ H { s with heap:=s.heap.push { cls:=.type "range",data:=.fields #[.int lo t,.int hi u,.int 1 v] },toks:=tk }:=I.kept fun b o e=>get?_push_of_some _ e;refine ⟨(s.heap.push { cls:=.type "range",data:=.fields #[.int lo t,.int hi u,.int 1 v] }).objs.size,[(s.heap.push { cls:=.type "range",data:=.fields #[.int lo t,.int hi u,.int 1 v] }).objs.size],_,_,H,rfl,
  I1.kept (t':=tk) fun b o e=>get?_push_of_some _ e,turn_range _ lo (hi - lo).toNat,?_,fun b hb=>?_,q⟩
 ·have e1:lo + ((0:Nat):Int) * 1=lo:=by simp
  have e2:(((hi - lo).toNat:Nat):Int) - ((0:Nat):Int)=Builtin.Range.rangeSize lo hi 1:=by rw [rangeSize_one];split <;> omega
  show IsRangeIter _ _ (lo + ((0:Nat):Int) * 1) ((((hi - lo).toNat:Nat):Int) - ((0:Nat):Int)) 1;rw [e1,e2];exact get?_push_size _ rfl
 ·have e:b=(s.heap.push { cls:=.type "range",data:=.fields #[.int lo t,.int hi u,.int 1 v] }).objs.size:=by simpa using hb
  subst e;exact I1.fpOk (Nat.le_refl _) (I1.hok.fresh (Nat.le_refl _))
def iRng1 (ta:TA):TI:=fun σ H R=>ta σ H fun vs H1=>∃ j:Int,vs=[.int j]/\-(2 ^ 62)<=j/\j < 2 ^ 62/\R (Itr 0 j.toNat) H1
def iRng2 (ta:TA):TI:=fun σ H R=>ta σ H fun vs H1=>∃ i j:Int,vs=[.int i,.int j]/\(-(2 ^ 62)<=i/\i < 2 ^ 62/\-(2 ^ 62)<=j/\j < 2 ^ 62)/\R (Itr i (j - i).toNat) H1
theorem J1i {a:Expr} {ta:TA} {p pos:Pos} (hg:Gl X "range") (hm:X.mg "range"=none) (ha:PA X [a] ta) (hs:starEach [a] X.env=[(false,eval a X.env)]:=by rfl):PI X tg (.Call (.Name "range" p) [a] [] pos) (iRng1 ta):=by
 intro pins s σ H R I h;refine Call_ (J3p I hg hm boot_range (callWith_type1 (thn (ha pos pins s σ H _ I h) fun us s1 h9=>?_) hs rfl));obtain ⟨vs,H1,I1,r1,q1⟩:=h9;obtain ⟨j,e,q1,q2,q⟩:=q1;subst e
 cases r1 with
 | cons r rr =>
  cases rr;obtain ⟨t,rfl⟩:=r;exact call_range_1 (range_it I1 (by omega) (by omega) q1 q2 (by simpa using q))
theorem J2m {a b:Expr} {ta:TA} {p pos:Pos} (hg:Gl X "range") (hm:X.mg "range"=none) (ha:PA X [a,b] ta) (hs:starEach [a,b] X.env=[(false,eval a X.env),(false,eval b X.env)]:=by rfl) (hs2:starEach [b] X.env=[(false,eval b X.env)]:=by rfl) :
  PI X tg (.Call (.Name "range" p) [a,b] [] pos) (iRng2 ta):=by
 intro pins s σ H R I h;refine Call_ (J3p I hg hm boot_range (callWith_type1 (thn (ha pos pins s σ H _ I h) fun us s1 h9=>?_) (by rw [hs,hs2]) (by rw [hs2];rfl)));obtain ⟨vs,H1,I1,r1,q1⟩:=h9;obtain ⟨i,j,e,⟨q1,q2,q3,q4⟩,q⟩:=q1;subst e
 cases r1 with
 | cons r rr =>
  cases rr with
  | cons r' rr =>
   cases rr;obtain ⟨t,rfl⟩:=r;obtain ⟨t',rfl⟩:=r';exact call_range_2 (range_it I1 q1 q2 q3 q4 q)
def tFor (wi:TI) (g:TG) (tb:TS):TS:=fun D σ H=>wi σ H fun J H1=>∃ W:Nat->Nat->St->Hp->Prop,(∃ m,W 0 m σ H1)/\∀ i m σ H,W i m σ H->
 (J.stop i H/\D.nx σ H)\/(J.go i H/\∃ N:St->Hp->Prop,(∀ σ' H',N σ' H'->∃ m',m' < m/\W (i + 1) m' σ' H')/\∀ x H',J.yld i H x H'->g x σ H' fun σ2 H2=>tb { D with nx:=N,ct:=N,bk:=D.nx } σ2 H2)
def pinsAt (fp:List Addr) (h:Heap):List (Addr × Obj):=fp.filterMap fun b=>(h.get? b).map fun o=>(b,o)
theorem J19 {fp:List Addr} {h:Heap} {b:Addr} {o:Obj} (hb:b∈fp) (e:h.get? b=some o):(b,o)∈pinsAt fp h:=List.mem_filterMap.mpr ⟨b,hb,by rw [e];rfl⟩
theorem of_pinsAt {fp:List Addr} {h:Heap} {p:Addr × Obj} (hp:p∈pinsAt fp h):p.1∈fp/\h.get? p.1=some p.2:=by
 obtain ⟨b,hb,e⟩:=List.mem_filterMap.mp hp
 cases q:h.get? b with
 | none=>rw [q] at e;cases e
 | some o =>
  rw [q] at e;have e':(b,o)=p:=Option.some.inj e;subst e';exact ⟨hb,q⟩
theorem Inv.pinned {pins:List (Addr × Obj)} {σ:St} {H:Hp} {s:Shared} {fp:List Addr} (I:Inv X pins σ H s) (hf:∀ b∈fp,FpOk X pins H b) (ho:∀ b∈fp,∃ o,s.heap.get? b=some o/\∀ v,o.data≠.cell v):Inv X (pins ++ pinsAt fp s.heap) σ H s :=
 I.pins_of fun p hp=>(mem_append.mp hp).elim (fun z=>I.pin p (mem_append_right _ z)) fun z=>by
  obtain ⟨hb,e⟩:=of_pinsAt z;obtain ⟨f0,f1,f2,_⟩:=hf p.1 hb;obtain ⟨o,e',d⟩:=ho p.1 hb;rw [e] at e';cases e';exact ⟨e,f0,f1,f2,d⟩
theorem Inv.unpinned {pins pl:List (Addr × Obj)} {σ:St} {H:Hp} {s:Shared} (I:Inv X (pins ++ pl) σ H s):Inv X pins σ H s:=I.pins_of fun p hp=>I.pin p (mem_append_right _ (mem_append_left _ hp))
theorem J2z {iter:Expr} {body:List Stmt} {wi:TI} {g:TG} {tb:TS} {pos:Pos} (hp:PassesOwn (model X.prog X.w) X.A X.env X.xe) (hc:X.calm=true) (hi:PI X tg iter wi) (hg:PG X tg g) (hb:PSs X body tb)
  (hs:∀ x,foldedSetIterable iter X.env x=pure x:=by intro _;rfl):PS X (.For tg iter body [] pos) (tFor wi g tb):=by
 intro pins s σ H D I h;refine wpAny_For (thn (hi pins s σ H _ I h) fun v s1 h1=>thn h1 fun itv s2 h2=>?_) hs;obtain ⟨it,fp,tn,J,H2,e,I2,T,st2,f2,W,⟨m0,w0⟩,turn⟩:=h2;subst e;have stat:∀ {H':Hp},(∀ b∈fp,H' b=none)->∀ b∈fp,FpOk X pins H' b:=fun hn b hb=>⟨hn b hb,(f2 b hb).2⟩;refine codeAny_forLoop_any (fun n s'=>∃ i σ' H',Inv X pins σ' H' s'/\tn i s'.heap/\(∀ b∈fp,H' b=none)/\W i n σ' H') ?_ m0 ⟨0,σ,H2,I2,st2,fun b hb=>(f2 b hb).1,w0⟩;rintro n s3 ⟨i,σ3,H3,I3,st3,fr3,w3⟩;rcases turn i n σ3 H3 w3 with ⟨stop,qn⟩ | ⟨go,N,hN,step⟩
 ·refine wpAny_passesOwn hp (thn (T.done X rfl rfl rfl hc i pins s3 σ3 H3 X.xe I3 (stat fr3) st3 stop) fun r s4 h9=>?_);obtain ⟨hr,I4⟩:=h9;subst hr;exact wpAny_execs_nil ⟨σ3,H3,I4,qn⟩
 ·refine wpAny_passesOwn hp (thn (T.item X rfl rfl rfl hc i pins s3 σ3 H3 X.xe I3 (stat fr3) st3 go) fun r s4 h9=>?_);obtain ⟨u,hr,h4⟩:=h9;subst hr;refine wpAny_passesOwn hp (thn h4 fun _ s5 h9=>?_);obtain ⟨x,H5,I5,r5,y5,st5,fr5⟩:=h9;have I5':=I5.pinned (stat fr5) (T.obj _ _ st5);refine wpAny_passesOwn hp (thn (hg _ s5 σ3 H5 x u _ I5' r5 (step x H5 y5)) fun _ s6 h9=>?_);obtain ⟨σ6,H6,I6,q6⟩:=h9;refine wpAny_passesOwn hp (thn (hb _ s6 σ6 H6 _ I6 q6) fun f s7 q7=>?_);have again:∀ {σ7:St} {H7:Hp},Inv X (pins ++ pinsAt fp s5.heap) σ7 H7 s7->N σ7 H7->∃ m,m < n/\∃ i σ' H',Inv X pins σ' H' s7/\tn i s7.heap/\(∀ b∈fp,H' b=none)/\W i m σ' H':=fun {σ7 H7} I7 n7=>by
   obtain ⟨m',hm,w7⟩:=hN σ7 H7 n7;refine ⟨m',hm,i + 1,σ7,H7,I7.unpinned,T.keep _ _ _ st5 fun b hb o e=>(I7.pin (b,o) (mem_append_right _ (mem_append_right _ (J19 hb e)))).1,fun b hb=>?_,w7⟩;obtain ⟨o,e,d⟩:=T.obj _ _ st5 b hb;exact (I7.pin (b,o) (mem_append_right _ (mem_append_right _ (J19 hb e)))).2.1
  cases f with
  | next=>obtain ⟨σ7,H7,I7,n7⟩:=q7;exact again I7 n7
  | cont=>obtain ⟨σ7,H7,I7,n7⟩:=q7;exact again I7 n7
  | brk=>obtain ⟨σ7,H7,I7,q7⟩:=q7;exact ⟨σ7,H7,I7.unpinned,q7⟩
  | ret v=>obtain ⟨x7,σ7,H7,I7,r7,q7⟩:=q7;exact ⟨x7,σ7,H7,I7.unpinned,r7,q7⟩
end
theorem J3q {K:Frag} {a:Addr} {xs:List V} {g:TG} {tb:TS} {D:Ends} {σ:St} {H:Hp} (Pv:Nat->St->Hp->Prop) (h0:Pv 0 σ H) (hl:∀ i σ H,i<=xs.length->Pv i σ H->SqL K H a xs)
  (hs:∀ i x σ H,xs[i]?=some x->Pv i σ H->g x σ H fun σ2 H2=>tb { D with nx:=Pv (i + 1),ct:=Pv (i + 1),bk:=D.nx } σ2 H2) (hd:∀ σ H,Pv xs.length σ H->D.nx σ H) :
  ∃ W:Nat->Nat->St->Hp->Prop,(∃ m,W 0 m σ H)/\∀ i m σ H,W i m σ H->
   ((Itl K a).stop i H/\D.nx σ H)\/((Itl K a).go i H/\∃ N:St->Hp->Prop,(∀ σ' H',N σ' H'->∃ m',m' < m/\W (i + 1) m' σ' H')/\∀ x H',(Itl K a).yld i H x H'->g x σ H' fun σ2 H2=>tb { D with nx:=N,ct:=N,bk:=D.nx } σ2 H2):=by
 refine ⟨fun i m σ H=>m=xs.length - i/\i<=xs.length/\Pv i σ H,⟨xs.length,by simp,Nat.zero_le _,h0⟩,?_⟩;rintro i m σ H ⟨rfl,hi,p⟩;have q:=hl i σ H hi p;by_cases hlt:i < xs.length
 ·refine .inr ⟨⟨xs,xs[i],q,by simp [hlt]⟩,Pv (i + 1),fun σ' H' p'=>⟨xs.length - (i + 1),by omega,rfl,hlt,p'⟩,fun x H' y=>?_⟩;obtain ⟨e,y⟩:=y;subst e;exact hs i x σ _ (y xs q) p
 ·have e:i=xs.length:=by omega
  subst e;exact .inl ⟨⟨xs,q,Nat.le_refl _⟩,hd σ H p⟩
theorem for_tup {K:Frag} {a:Addr} {xs:List V} {g:TG} {tb:TS} {D:Ends} {σ:St} {H:Hp} (Pv:Nat->St->Hp->Prop) (h0:Pv 0 σ H) (hl:∀ i σ H,i<=xs.length->Pv i σ H->SqT K H a xs)
  (hs:∀ i x σ H,xs[i]?=some x->Pv i σ H->g x σ H fun σ2 H2=>tb { D with nx:=Pv (i + 1),ct:=Pv (i + 1),bk:=D.nx } σ2 H2) (hd:∀ σ H,Pv xs.length σ H->D.nx σ H) :
  ∃ W:Nat->Nat->St->Hp->Prop,(∃ m,W 0 m σ H)/\∀ i m σ H,W i m σ H->
   ((Itt K a).stop i H/\D.nx σ H)\/((Itt K a).go i H/\∃ N:St->Hp->Prop,(∀ σ' H',N σ' H'->∃ m',m' < m/\W (i + 1) m' σ' H')/\∀ x H',(Itt K a).yld i H x H'->g x σ H' fun σ2 H2=>tb { D with nx:=N,ct:=N,bk:=D.nx } σ2 H2):=by
 refine ⟨fun i m σ H=>m=xs.length - i/\i<=xs.length/\Pv i σ H,⟨xs.length,by simp,Nat.zero_le _,h0⟩,?_⟩;rintro i m σ H ⟨rfl,hi,p⟩;have q:=hl i σ H hi p;by_cases hlt:i < xs.length
 ·refine .inr ⟨⟨xs,xs[i],q,by simp [hlt]⟩,Pv (i + 1),fun σ' H' p'=>⟨xs.length - (i + 1),by omega,rfl,hlt,p'⟩,fun x H' y=>?_⟩;obtain ⟨e,y⟩:=y;subst e;exact hs i x σ _ (y xs q) p
 ·have e:i=xs.length:=by omega
  subst e;exact .inl ⟨⟨xs,q,Nat.le_refl _⟩,hd σ H p⟩
theorem J1j {lo:Int} {n:Nat} {g:TG} {tb:TS} {D:Ends} {σ:St} {H:Hp} (Pv:Nat->St->Hp->Prop) (h0:Pv 0 σ H)
  (hs:∀ i σ H,i < n->Pv i σ H->g (.int (lo + i)) σ H fun σ2 H2=>tb { D with nx:=Pv (i + 1),ct:=Pv (i + 1),bk:=D.nx } σ2 H2) (hd:∀ σ H,Pv n σ H->D.nx σ H) :
  ∃ W:Nat->Nat->St->Hp->Prop,(∃ m,W 0 m σ H)/\∀ i m σ H,W i m σ H->
   ((Itr lo n).stop i H/\D.nx σ H)\/((Itr lo n).go i H/\∃ N:St->Hp->Prop,(∀ σ' H',N σ' H'->∃ m',m' < m/\W (i + 1) m' σ' H')/\∀ x H',(Itr lo n).yld i H x H'->g x σ H' fun σ2 H2=>tb { D with nx:=N,ct:=N,bk:=D.nx } σ2 H2):=by
 refine ⟨fun i m σ H=>m=n - i/\i<=n/\Pv i σ H,⟨n,by simp,Nat.zero_le _,h0⟩,?_⟩;rintro i m σ H ⟨rfl,hi,p⟩;by_cases hlt:i < n
 ·refine .inr ⟨hlt,Pv (i + 1),fun σ' H' p'=>⟨n - (i + 1),by omega,rfl,hlt,p'⟩,fun x H' y=>?_⟩;obtain ⟨e,y⟩:=y;subst e y;exact hs i σ _ hlt p
 ·have e:i=n:=by omega
  subst e;exact .inl ⟨Nat.le_refl _,hd σ H p⟩
end L2
namespace L2
open PySem PySem.Spec PyProof.Rows
abbrev R2:=V->V->Hp->VK->Prop
def OpR (X:Cx) (f:Value->Value->Sem Value) (r:R2):Prop :=
 ∀ (pins:List (Addr × Obj)) (s:Shared) (σ:St) (H:Hp) (x y:V) (v u:Value) (Q:VK),Inv X pins σ H s->RelV x v->RelV y u->r x y H Q->
  wpAny (model X.prog X.w) X.A (f v u) (EP X pins σ Q) X.xe s
def UnR (X:Cx) (f:Value->Sem Value) (r:V->Hp->VK->Prop):Prop :=
 ∀ (pins:List (Addr × Obj)) (s:Shared) (σ:St) (H:Hp) (x:V) (v:Value) (Q:VK),Inv X pins σ H s->RelV x v->r x H Q->
  wpAny (model X.prog X.w) X.A (f v) (EP X pins σ Q) X.xe s
def CallR (X:Cx) (f:Value) (r:List V->Hp->VK->Prop):Prop :=
 ∀ (pins:List (Addr × Obj)) (s:Shared) (σ:St) (H:Hp) (xs:List V) (us:List Value) (Q:VK),Inv X pins σ H s->Vals xs us->r xs H Q->
  wpAny (model X.prog X.w) X.A (call f us) (EP X pins σ Q) X.xe s
def TruR (X:Cx) (r:V->Hp->(Bool->Hp->Prop)->Prop):Prop :=
 ∀ (pins:List (Addr × Obj)) (s:Shared) (σ:St) (H:Hp) (x:V) (v:Value) (Q:Bool->Hp->Prop),Inv X pins σ H s->RelV x v->r x H Q->
  wpAny (model X.prog X.w) X.A (truthy v) (TP X pins σ Q) X.xe s
def tOp (r:R2) (ta tb:TE):TE:=fun σ H Q=>ta σ H fun x H1=>tb σ H1 fun y H2=>r x y H2 Q
def tUn (r:V->Hp->VK->Prop) (ta:TE):TE:=fun σ H Q=>ta σ H fun x H1=>r x H1 Q
def rI (C:Int->Int->Prop) (g:Int->Int->V):R2:=fun x y H Q=>∃ i j,x=.int i/\y=.int j/\C i j/\Q (g i j) H
def rI0 (g:Int->Int->V):R2:=fun x y H Q=>∃ i j,x=.int i/\y=.int j/\Q (g i j) H
def rU (g:Int->V):V->Hp->VK->Prop:=fun x H Q=>∃ i,x=.int i/\Q (g i) H
section
variable {X:Cx} {a b c:Expr} {ta tb tc:TE} {pos:Pos}
theorem binT (ha:PE X a ta) (hb:PE X b tb) {pins:List (Addr × Obj)} {s:Shared} {σ:St} {H:Hp} {R:V->V->Hp->Prop} (I:Inv X pins σ H s)
  (h:ta σ H fun x H1=>tb σ H1 fun y H2=>R x y H2) {Q:Value->Shared->Prop} {f:Value->Value->Sem Value}
  (hf:∀ v u s2 x y H2,Inv X pins σ H2 s2->RelV x v->RelV y u->R x y H2->wpAny (model X.prog X.w) X.A (f v u) Q X.xe s2) :
  wpAny (model X.prog X.w) X.A (eval a X.env) (fun v s₁=>wpAny (model X.prog X.w) X.A (eval b X.env) (fun u s₂=>wpAny (model X.prog X.w) X.A (f v u) Q X.xe s₂) X.xe s₁) X.xe s:=by
 refine thn (ha pins s σ H _ I h) fun v s1 h9=>?_;obtain ⟨x,H1,I1,r1,q1⟩:=h9;refine thn (hb pins s1 σ H1 _ I1 q1) fun u s2 h9=>?_;obtain ⟨y,H2,I2,r2,q2⟩:=h9;exact hf v u s2 x y H2 I2 r1 r2 q2
theorem pe_op {op:Operator} {r:R2} (ho:OpR X (binaryOp op) r) (ha:PE X a ta) (hb:PE X b tb):PE X (.BinOp a op b pos) (tOp r ta tb):=by
 intro pins s σ H Q I h;exact wpAny_BinOp (binT ha hb I h fun v u s2 x y H2 I2 rx ry q=>ho pins s2 σ H2 x y v u Q I2 rx ry q)
theorem pe_un {op:UnaryOp} {r:V->Hp->VK->Prop} (ho:UnR X (unaryOp op) r) (ha:PE X a ta):PE X (.UnaryOp op a pos) (tUn r ta):=by
 intro pins s σ H Q I h;exact UnaryOp_ (thn (ha pins s σ H _ I h) fun v s1 h9=>by obtain ⟨x,H1,I1,r1,q1⟩:=h9;exact ho pins s1 σ H1 x v Q I1 r1 q1)
theorem opI {f:Value->Value->Sem Value} {C:Int->Int->Prop} {g:Int->Int->Int}
  (rule:∀ (i j:Int) (t u:Tok) (s:Shared) (Q:Value->Shared->Prop) (E:Value->Shared->Prop),C i j->Q (.int (g i j) s.toks) { s with toks:=s.toks + 1 }->wpAny (model X.prog X.w) X.A (f (.int i t) (.int j u)) Q E s) :
  OpR X f (rI C fun i j=>.int (g i j)):=by
 intro pins s σ H x y v u Q I rx ry h;obtain ⟨i,j,rfl,rfl,hc,q⟩:=h;obtain ⟨t,rfl⟩:=rx;obtain ⟨t',rfl⟩:=ry;exact rule i j t t' s _ _ hc ⟨.int (g i j),H,I.tok _,⟨_,rfl⟩,q⟩
theorem opI0 {f:Value->Value->Sem Value} {g:Int->Int->Int}
  (rule:∀ (i j:Int) (t u:Tok) (s:Shared) (Q:Value->Shared->Prop) (E:Value->Shared->Prop),Q (.int (g i j) s.toks) { s with toks:=s.toks + 1 }->wpAny (model X.prog X.w) X.A (f (.int i t) (.int j u)) Q E s) :
  OpR X f (rI0 fun i j=>.int (g i j)):=by
 intro pins s σ H x y v u Q I rx ry h;obtain ⟨i,j,rfl,rfl,q⟩:=h;obtain ⟨t,rfl⟩:=rx;obtain ⟨t',rfl⟩:=ry;exact rule i j t t' s _ _ ⟨.int (g i j),H,I.tok _,⟨_,rfl⟩,q⟩
theorem opB0 {f:Value->Value->Sem Value} {g:Int->Int->Bool}
  (rule:∀ (i j:Int) (t u:Tok) (s:Shared) (Q:Value->Shared->Prop) (E:Value->Shared->Prop),Q (.bool (g i j)) s->wpAny (model X.prog X.w) X.A (f (.int i t) (.int j u)) Q E s) :
  OpR X f (rI0 fun i j=>.bl (g i j)):=by
 intro pins s σ H x y v u Q I rx ry h;obtain ⟨i,j,rfl,rfl,q⟩:=h;obtain ⟨t,rfl⟩:=rx;obtain ⟨t',rfl⟩:=ry;exact rule i j t t' s _ _ ⟨.bl (g i j),H,I,rfl,q⟩
theorem J3k:OpR X (binaryOp .Add) (rI0 fun i j=>.int (i + j)):=opI0 fun _ _ _ _ _ _ _ q=>add_int q
theorem J23:OpR X (binaryOp .Sub) (rI0 fun i j=>.int (i - j)):=opI0 fun _ _ _ _ _ _ _ q=>sub_int q
theorem op_mod:OpR X (binaryOp .Mod) (rI (fun _ j=>0 < j) fun i j=>.int (i % j)):=opI fun i j _ _ _ _ _ hc q=>by
 have h1:(0:Int) < j:=hc;exact mod_int' (by omega) (by rw [Int.fmod_eq_emod_of_nonneg i (by omega)];exact q)
theorem unI {f:Value->Sem Value} {g:Int->Int}
  (rule:∀ (i:Int) (t:Tok) (s:Shared) (Q:Value->Shared->Prop) (E:Value->Shared->Prop),Q (.int (g i) s.toks) { s with toks:=s.toks + 1 }->wpAny (model X.prog X.w) X.A (f (.int i t)) Q E s) :
  UnR X f (rU fun i=>.int (g i)):=by
 intro pins s σ H x v Q I rx h;obtain ⟨i,rfl,q⟩:=h;obtain ⟨t,rfl⟩:=rx;exact rule i t s _ _ ⟨.int (g i),H,I.tok _,⟨_,rfl⟩,q⟩
theorem J2u:UnR X (unaryOp .USub) (rU fun i=>.int (-i)):=unI fun _ _ _ _ _ q=>neg_int q
end
def scal:V->V->Bool
 | .non,.non=>true | .non,.int _=>true | .int _,.non=>true | .non,.bl _=>true | .bl _,.non=>true | .non,.str _=>true | .str _,.non=>true
 | .int _,.int _=>true | .bl _,.bl _=>true | .str _,.str _=>true | .byt _,.byt _=>true
 | .int _,.str _=>true | .str _,.int _=>true | .bl _,.str _=>true | .str _,.bl _=>true
 | _,_=>false
def rEq:R2:=fun x y H Q=>scal x y=true/\Q (.bl (decide (x=y))) H
def rNe:R2:=fun x y H Q=>scal x y=true/\Q (.bl (!decide (x=y))) H
theorem dec_int {i j:Int}:decide (V.int i=V.int j)=(i == j):=by
 rw [Bool.eq_iff_iff];simp
theorem dec_bl {i j:Bool}:decide (V.bl i=V.bl j)=(i == j):=by
 rw [Bool.eq_iff_iff];simp
theorem dec_str {i j:Str}:decide (V.str i=V.str j)=(i == j):=by
 rw [Bool.eq_iff_iff];simp
theorem dec_byt {i j:Array UInt8}:decide (V.byt i=V.byt j)=(i.toList == j.toList):=by
 rw [Bool.eq_iff_iff];cases i;cases j;simp
section
variable {X:Cx} {a b c:Expr} {ta tb tc:TE} {pos:Pos}
theorem Ji {pins:List (Addr × Obj)} {σ:St} {H:Hp} {s:Shared} {Q:VK} {k k':Bool} (I:Inv X pins σ H s) (q:Q (.bl k) H) (e:k=k'):EP X pins σ Q (.bool k') s:=by
 subst e;exact ⟨.bl k,H,I,rfl,q⟩
theorem op_eq:OpR X (compareOp .Eq) rEq:=by
 intro pins s σ H x y v u Q I rx ry h;obtain ⟨hs,q⟩:=h
 cases x with
 | non =>
  cases rx
  cases y with
  | non=>cases ry;exact PySem.EqNone.eq_none_none (Ji I q (by simp))
  | bl j=>cases ry;exact PySem.EqNone.eq_none_bool (Ji I q (by simp))
  | int j=>obtain ⟨t',rfl⟩:=ry;exact PySem.EqNone.eq_none_int (Ji I q (by simp))
  | str j=>obtain ⟨t',rfl⟩:=ry;exact PySem.EqNone.eq_none_str (Ji I q (by simp))
  | _=>exact absurd (show false=true from hs) Bool.false_ne_true
 | bl i =>
  cases rx
  cases y with
  | non=>cases ry;exact PySem.EqNone.eq_bool_none (Ji I q (by simp))
  | bl j=>cases ry;exact eq_bool (Ji I q dec_bl)
  | str j=>obtain ⟨t',rfl⟩:=ry;exact PySem.EqMixed.eq_bool_str (Ji I q (by simp))
  | _=>exact absurd (show false=true from hs) Bool.false_ne_true
 | int i =>
  obtain ⟨t,rfl⟩:=rx
  cases y with
  | non=>cases ry;exact PySem.EqNone.eq_int_none (Ji I q (by simp))
  | int j=>obtain ⟨t',rfl⟩:=ry;exact eq_int (Ji I q dec_int)
  | str j=>obtain ⟨t',rfl⟩:=ry;exact PySem.EqMixed.eq_int_str (Ji I q (by simp))
  | _=>exact absurd (show false=true from hs) Bool.false_ne_true
 | str i =>
  obtain ⟨t,rfl⟩:=rx
  cases y with
  | non=>cases ry;exact PySem.EqNone.eq_str_none (Ji I q (by simp))
  | bl j=>cases ry;exact PySem.EqMixed.eq_str_bool (Ji I q (by simp))
  | int j=>obtain ⟨t',rfl⟩:=ry;exact PySem.EqMixed.eq_str_int (Ji I q (by simp))
  | str j=>obtain ⟨t',rfl⟩:=ry;exact eq_str (Ji I q dec_str)
  | _=>exact absurd (show false=true from hs) Bool.false_ne_true
 | byt i =>
  obtain ⟨t,rfl⟩:=rx
  cases y with
  | byt j=>obtain ⟨t',rfl⟩:=ry;exact PySem.W.eq_bytes (Ji I q dec_byt)
  | _=>exact absurd (show false=true from hs) Bool.false_ne_true
 | _=>cases y <;> exact absurd (show false=true from hs) Bool.false_ne_true
theorem op_ne:OpR X (compareOp .NotEq) rNe:=by
 intro pins s σ H x y v u Q I rx ry h;obtain ⟨hs,q⟩:=h
 cases x with
 | non =>
  cases rx
  cases y with
  | non=>cases ry;exact PySem.EqNone.ne_none_none (Ji I q (by simp))
  | bl j=>cases ry;exact PySem.EqNone.ne_none_bool (Ji I q (by simp))
  | int j=>obtain ⟨t',rfl⟩:=ry;exact PySem.EqNone.ne_none_int (Ji I q (by simp))
  | str j=>obtain ⟨t',rfl⟩:=ry;exact PySem.EqNone.ne_none_str (Ji I q (by simp))
  | _=>exact absurd (show false=true from hs) Bool.false_ne_true
 | bl i =>
  cases rx
  cases y with
  | non=>cases ry;exact PySem.EqNone.ne_bool_none (Ji I q (by simp))
  | bl j=>cases ry;exact ne_bool (Ji I q (congrArg not dec_bl))
  | str j=>obtain ⟨t',rfl⟩:=ry;exact PySem.EqMixed.ne_bool_str (Ji I q (by simp))
  | _=>exact absurd (show false=true from hs) Bool.false_ne_true
 | int i =>
  obtain ⟨t,rfl⟩:=rx
  cases y with
  | non=>cases ry;exact PySem.EqNone.ne_int_none (Ji I q (by simp))
  | int j=>obtain ⟨t',rfl⟩:=ry;exact ne_int (Ji I q (congrArg not dec_int))
  | str j=>obtain ⟨t',rfl⟩:=ry;exact PySem.EqMixed.ne_int_str (Ji I q (by simp))
  | _=>exact absurd (show false=true from hs) Bool.false_ne_true
 | str i =>
  obtain ⟨t,rfl⟩:=rx
  cases y with
  | non=>cases ry;exact PySem.EqNone.ne_str_none (Ji I q (by simp))
  | bl j=>cases ry;exact PySem.EqMixed.ne_str_bool (Ji I q (by simp))
  | int j=>obtain ⟨t',rfl⟩:=ry;exact PySem.EqMixed.ne_str_int (Ji I q (by simp))
  | str j=>obtain ⟨t',rfl⟩:=ry;exact ne_str (Ji I q (congrArg not dec_str))
  | _=>exact absurd (show false=true from hs) Bool.false_ne_true
 | byt i =>
  obtain ⟨t,rfl⟩:=rx
  cases y with
  | byt j=>obtain ⟨t',rfl⟩:=ry;exact PySem.W.ne_bytes (Ji I q (congrArg not dec_byt))
  | _=>exact absurd (show false=true from hs) Bool.false_ne_true
 | _=>cases y <;> exact absurd (show false=true from hs) Bool.false_ne_true
theorem op_lt:OpR X (compareOp .Lt) (rI0 fun i j=>.bl (decide (i < j))):=opB0 fun _ _ _ _ _ _ _ q=>lt_int q
theorem op_le:OpR X (compareOp .LtE) (rI0 fun i j=>.bl (decide (i<=j))):=opB0 fun _ _ _ _ _ _ _ q=>le_int q
theorem op_gt:OpR X (compareOp .Gt) (rI0 fun i j=>.bl (decide (j < i))):=opB0 fun _ _ _ _ _ _ _ q=>gt_int q
theorem op_notN:OpR X (compareOp .IsNot) (fun x y H Q=>y=.non/\Q (.bl (!decide (x=.non))) H):=by
 intro pins s σ H x y v u Q I rx ry h;obtain ⟨rfl,q⟩:=h;cases ry;refine isnot_none_gen (Ji I q ?_);cases x <;> first
  | (cases rx;rfl)
  | (obtain ⟨t,rfl⟩:=rx;rfl)
theorem Jv (b:Expr) {op:CmpOp} (h:op≠.In:=by decide) (h2:op≠.NotIn:=by decide):behindInMarks op b=false:=by
 have e1:(op == CmpOp.In)=false:=by cases op <;> first | rfl | exact absurd rfl h
 have e2:(op == CmpOp.NotIn)=false:=by cases op <;> first | rfl | exact absurd rfl h2
 cases b <;> simp [behindInMarks,e1,e2]
theorem pe_cmpR {op:CmpOp} {r:R2} (ho:OpR X (compareOp op) r) (ha:PE X a ta) (hb:PE X b tb) (hm:behindInMarks op b=false):PE X (.Compare a [op] [b] pos) (tOp r ta tb):=by
 intro pins s σ H Q I h;exact wpAny_Compare1 (binT ha hb I h fun v u s2 x y H2 I2 rx ry q=>ho pins s2 σ H2 x y v u Q I2 rx ry q) hm
def tTest (t:TE):TT:=fun σ H Q=>t σ H fun x H'=>∃ k,x=.bl k/\Q k H'
theorem Jk {op:CmpOp} {r:R2} (ho:OpR X (compareOp op) r) (ha:PE X a ta) (hb:PE X b tb) (hm:behindInMarks op b=false):PT X (.Compare a [op] [b] pos) (tTest (tOp r ta tb)):=by
 intro pins s σ H Q I h;refine wpAny_isTrue_Compare1 (thn (ha pins s σ H _ I h) fun v s1 h9=>?_) hm;obtain ⟨x,H1,I1,r1,q1⟩:=h9;refine thn (hb pins s1 σ H1 _ I1 q1) fun u s2 h9=>?_;obtain ⟨y,H2,I2,r2,q2⟩:=h9;refine thn (ho pins s2 σ H2 x y v u _ I2 r1 r2 q2) fun c s3 h9=>?_;obtain ⟨z,H3,I3,r3,k,e,q3⟩:=h9;subst e;cases r3;exact wpAny_truthy_bool ⟨H3,I3,q3⟩
def TruV (K:Frag) (x:V) (H:Hp) (k:Bool):Prop :=
 match x with
 | .non=>k=false
 | .bl b=>k=b
 | .int i=>k=(i != 0)
 | .str y=>y.length<=sizeLine/\k=((y.length:Int) != 0)
 | .byt y=>y.size<=sizeLine/\k=((y.size:Int) != 0)
 | .ref p=>(∃ xs,SqL K H p xs/\k=!xs.isEmpty)\/(∃ xs,SqT K H p xs/\k=!xs.isEmpty)\/∃ kvs,H p=some (.dK kvs)/\k=!kvs.isEmpty
 | _=>False
theorem isEmpty_kv {κ:Type} {kvs:List (κ × V)} {vs:List (κ × Value)} (r:KV kvs vs):(!vs.isEmpty)=!kvs.isEmpty:=by
 cases r <;> rfl
theorem J39 {xs:List V} {its:List Value} (r:Vals xs its):(!its.toArray.isEmpty)=!xs.isEmpty:=by
 cases r <;> simp
theorem J3o:(sizeLine:Nat) < 2 ^ 63:=by rw [sizeLine_eq];decide
theorem tru_ok:TruR X (fun x H Q=>∃ k,TruV X.K x H k/\Q k H):=by
 intro pins s σ H x v Q I rx h;obtain ⟨k,e,q⟩:=h;have hl:=J3o;have hs:sizeLine=16777216:=sizeLine_eq
 cases x with
 | non =>
  cases rx;have e':k=false:=e;subst e';exact truthy_none ⟨H,I,q⟩
 | bl b =>
  cases rx;have e':k=b:=e;subst e';exact wpAny_truthy_bool ⟨H,I,q⟩
 | int i =>
  obtain ⟨t,rfl⟩:=rx;have e':k=(i != 0):=e;subst e';exact PySem.P.truthy_int ⟨H,I,q⟩
 | str y =>
  obtain ⟨t,rfl⟩:=rx;obtain ⟨hy,e'⟩:y.length<=sizeLine/\k=((y.length:Int) != 0):=e;subst e';exact PySem.P.truthy_str (by omega) ⟨H,I.tok _,q⟩
 | byt y =>
  obtain ⟨t,rfl⟩:=rx;obtain ⟨hy,e'⟩:y.size<=sizeLine/\k=((y.size:Int) != 0):=e;subst e';exact PySem.W.truthy_bytes (by omega) ⟨H,I.tok _,q⟩
 | ref p =>
  cases rx;have e':(∃ xs,SqL X.K H p xs/\k=!xs.isEmpty)\/(∃ xs,SqT X.K H p xs/\k=!xs.isEmpty)\/∃ kvs,H p=some (.dK kvs)/\k=!kvs.isEmpty:=e;rcases e' with ⟨xs,hx,e'⟩ | ⟨xs,hx,e'⟩ | ⟨kvs,hx,e'⟩
  ·subst e';obtain ⟨its,r,pl,hz⟩:=I.list hx;have hlen:=r.length;exact wpAny_truthy_list pl.isList (by simp only [size_toArray];omega) ⟨H,I.tok _,by rw [J39 r];exact q⟩
  ·subst e';obtain ⟨its,r,pl,hz⟩:=I.tuple hx;have hlen:=r.length;exact truthy_tuple pl (by simp only [size_toArray];omega) ⟨H,I.tok _,by rw [J39 r];exact q⟩
  ·subst e';obtain ⟨hz,hS,vs,r,m⟩:kvs.length<=sizeLine/\(p == sysModules)=false/\∃ vs,KV kvs vs/\s.heap.DictOf (Jr X.prog X.w) p vs:=I.hok p _ hx;have hlen:kvs.length=vs.length:=Paired.length r;exact wpAny_truthy_dict hS m (by omega) ⟨H,I.tok _,by rw [isEmpty_kv r];exact q⟩
 | _=>exact (show False from e).elim
theorem pt_truth (ha:PE X a ta) (he:∀ whole,isTrue a X.env whole=(do let v <- whole;standAt a.pos;holding [v] (truthy v))) :
  PT X a (fun σ H Q=>ta σ H fun x H'=>∃ k,TruV X.K x H' k/\Q k H'):=by
 intro pins s σ H Q I h;exact isTrue_plain (thn (ha pins s σ H _ I h) fun v s1 h9=>by obtain ⟨x,H1,I1,r1,q1⟩:=h9;exact tru_ok pins s1 σ H1 x v Q I1 r1 q1) (he _)
theorem vals1 {x:V} {us:List Value} (r:Vals [x] us):∃ u,us=[u]/\RelV x u:=by
 cases r with
 | cons r1 r2=>cases r2;exact ⟨_,rfl,r1⟩
theorem vals2 {x y:V} {us:List Value} (r:Vals [x,y] us):∃ u w',us=[u,w']/\RelV x u/\RelV y w':=by
 cases r with
 | cons r1 r2 =>
  cases r2 with
  | cons r3 r4=>cases r4;exact ⟨_,_,rfl,r1,r3⟩
end
end L2
namespace L2
open PySem PySem.Spec PyProof.Rows
structure ObjM (h:Heap) (x dx C:Addr) (mA:Str->Option Value):Prop where
 obj:h.get? x=some (instObj C dx)
 ns:h.Ns1 dx mA
 ne:dx≠x
theorem lookIn_ns {h:Heap} {dx:Addr} {mA:Str->Option Value} (n:h.Ns1 dx mA):∃ od,h.get? dx=some od/\∀ name,lookIn name od=some (mA name):=by
 obtain ⟨o,es,ep,ho,hd,hk,_,hm⟩:=n;refine ⟨o,ho,fun name=>?_⟩;have e:=hm name;unfold nsFind findBy at e;rw [<- Array.find?_toList] at e;unfold lookIn;rw [hd];dsimp only;split
 ·rename_i y q;rw [q] at e;exact congrArg some e
 ·rename_i q;rw [q] at e;have a:es.toList.any (·.refKey)=false:=by
   rw [List.any_eq_false];intro y hy;obtain ⟨z,t,hkey⟩:=hk y (mem_toList_iff.mp hy);simp [DictEntry.refKey,hkey]
  have a':¬ es.toList.any (·.refKey)=true:=by rw [a];exact Bool.false_ne_true
  rw [if_neg a'];exact congrArg some e
theorem ObjM.look {h:Heap} {x dx C:Addr} {mA:Str->Option Value} (I:ObjM h x dx C mA):∃ od,PySem.W.InstAt h x (instObj C dx) C (some od)/\∀ name,lookIn name od=some (mA name) :=
 let ⟨od,ho,hl⟩:=lookIn_ns I.ns
 ⟨od,⟨I.obj,rfl,rfl,ho⟩,hl⟩
theorem RelO.some_of {v:V} {o:Option Value} (r:RelO (some v) o):∃ u,o=some u/\RelV v u:=by
 cases o with
 | none=>exact (show False from r).elim
 | some u=>exact ⟨u,rfl,r⟩
section
variable {P:Program} {w:World} {H H':Hp} {h h':Heap} {a C dx:Addr} {fs fs':List (Str × V)}
theorem ins_get (hok:HOk P w H h) (e:H a=some (.ins C dx fs)):∃ mA,ObjM h a dx C mA/\(∀ f,RelO (fs.lookup f) (mA f))/\PySem.Within mA (fs.map (·.1))/\fs.length<=1000/\H dx=some (.own a):=by
 obtain ⟨d,z,ne,ob,mA,n,r,q⟩:=(show ObjOk P w H h a (.ins C dx fs) from hok a _ e);exact ⟨mA,⟨ob,n,ne⟩,r,q,z,d⟩
end
structure Cls (K:Frag) (C:Addr):Prop where
 pg:plainGet K C Str.empty=true
 hd:PySem.W.hasDictIn K C=true
 po:PySem.W.plainOver K C=true
 sa:findIn K (.ref C) "__setattr__"=some (some (.builtin "object.__setattr__"))
theorem Cls.get {K:Frag} {C:Addr} (c:Cls K C) (f:Str):plainGet K C f=true:=c.pg
section
variable {X:Cx} {pins:List (Addr × Obj)} {σ:St} {H:Hp} {s:Shared} {A:Around} {E:Value->Shared->Prop} {Q:Value->Shared->Prop} {c:Value} {b:Bool}
inductive TyOf (K:Frag) (H:Hp):V->Value->Prop where
 | non:TyOf K H .non (.type "NoneType")
 | bl (x:Bool):TyOf K H (.bl x) (.type "bool")
 | int (i:Int):TyOf K H (.int i) (.type "int")
 | str (x:Str):TyOf K H (.str x) (.type "str")
 | flt (x:UInt64):TyOf K H (.flt x) (.type "float")
 | lst {a:Addr} {xs:List V} (e:H a=some (.lst xs)):TyOf K H (.ref a) (.type "list")
 | frz {a:Addr} {o:Obj} {xs:List V} (e:H a=some (.frz o (.lst xs))):TyOf K H (.ref a) (.type "list")
 | tup {a:Addr} {xs:List V} (e:H a=some (.tup xs)):TyOf K H (.ref a) (.type "tuple")
 | dK {a:Addr} {kvs:List (Key × V)} (e:H a=some (.dK kvs)):TyOf K H (.ref a) (.type "dict")
 | dT {a:Addr} {kvs:List (List Key × V)} (e:H a=some (.dT kvs)):TyOf K H (.ref a) (.type "dict")
 | ins {a C dx:Addr} {fs:List (Str × V)} (e:H a=some (.ins C dx fs)) (cl:Cls K C) (ha:findIn K (.ref C) "__class__"=some (some (.builtin "object.__class__")))
   (hn:PySem.W.specialIn K (.builtin "object.__class__") "__get__"=some (some (.builtin "getset_descriptor.__get__"))) (htk:PySem.W.takesIn K (.builtin "object.__class__")=some true)
   (hm:PySem.W.mroIn K C (.type "object")=some true):TyOf K H (.ref a) (.ref C)
theorem isinst_ok {x:V} {u t:Value} (I:Inv X pins σ H s) (rx:RelV x u) (ty:TyOf X.K H x t) (e:kitOne X.K t c=some b) (h:∀ tk,Q (.bool b) { s with toks:=tk }) :
  wpAny (model X.prog X.w) A (call (.builtin "isinstance") [u,c]) Q E s:=by
 cases ty with
 | non=>cases (show u=Value.none from rx);exact kia_one PySem.W.kitx_none I.kIn True.intro e (fun z=>nomatch z) h
 | bl y=>cases (show u=Value.bool y from rx);exact kia_one PySem.W.kitx_bool I.kIn True.intro e (fun z=>nomatch z) h
 | int i=>obtain ⟨t,q⟩:=(show ∃ t,u=Value.int i t from rx);cases q;exact kia_one PySem.W.kitx_int I.kIn True.intro e (fun z=>nomatch z) h
 | str y=>obtain ⟨t,q⟩:=(show ∃ t,u=Value.str y t from rx);cases q;exact kia_one PySem.W.kitx_str I.kIn True.intro e (fun z=>nomatch z) h
 | flt y=>obtain ⟨t,q⟩:=(show ∃ t,u=Value.float y t from rx);cases q;exact kia_one PySem.W.kitx_float I.kIn True.intro e (fun z=>nomatch z) h
 | @lst a xs ea =>
  cases (show u=Value.ref a from rx);obtain ⟨_,_,n,_,h1⟩:=(show ObjOk X.prog X.w H s.heap a (.lst xs) from I.hok a _ ea);exact kia_one PySem.W.kitx_list I.kIn ⟨_,h1,rfl⟩ e (fun z=>nomatch z) h
 | @frz a ob xs ea =>
  cases (show u=Value.ref a from rx);obtain ⟨_,_,_,n,_,h1⟩:=(show ObjOk X.prog X.w H s.heap a (.frz ob (.lst xs)) from I.hok a _ ea);exact kia_one PySem.W.kitx_list I.kIn ⟨_,h1,rfl⟩ e (fun z=>nomatch z) h
 | @tup a xs ea =>
  cases (show u=Value.ref a from rx);obtain ⟨_,_,_,p⟩:=(show ObjOk X.prog X.w H s.heap a (.tup xs) from I.hok a _ ea);obtain ⟨o,h1,h2,_⟩:=p;exact kia_one PySem.W.kitx_tuple I.kIn ⟨o,h1,h2.1⟩ e (fun z=>nomatch z) h
 | @dK a kvs ea =>
  cases (show u=Value.ref a from rx);obtain ⟨_,_,vs,_,p⟩:=(show ObjOk X.prog X.w H s.heap a (.dK kvs) from I.hok a _ ea);obtain ⟨o,es,ep,h1,h2,_⟩:=p;exact kia_one PySem.W.kitx_dict I.kIn ⟨o,h1,h2.1⟩ e (fun z=>nomatch z) h
 | @dT a kvs ea =>
  cases (show u=Value.ref a from rx);obtain ⟨_,_,xs,_,o,es,ep,h1,h2,_⟩:=(show ObjOk X.prog X.w H s.heap a (.dT kvs) from I.hok a _ ea);exact kia_one PySem.W.kitx_dict I.kIn ⟨o,h1,h2.1⟩ e (fun z=>nomatch z) h
 | @ins a C dx fs ea cl ha hn htk hm =>
  cases (show u=Value.ref a from rx);obtain ⟨mA,O,_⟩:=ins_get I.hok ea;obtain ⟨od,J,_⟩:=O.look;exact kia_one (PySem.W.kitx_own (cl.get _) cl.hd ha hn htk hm) I.kIn J e (fun z=>nomatch z) h
end
end L2
namespace L2
open PySem PySem.Spec PyProof.Rows
structure Room (k:Nat) (A:Around):Prop where
 hd:A.handled=none
 dp:A.depth + 3 * k + 5 < recursionLimit
 un:A.units + 16 * k + 200 < cLine
theorem Room.mono {j k:Nat} {A:Around} (r:Room k A) (h:j<=k):Room j A:=⟨r.hd,by have:=r.dp;omega,by have:=r.un;omega⟩
theorem rm {j k:Nat} {A:Around} (r:Room k A) (h:j<=k:=by decide) : Room j A:=r.mono h
theorem Room.deeper {k:Nat} {A:Around} (r:Room (k + 1) A) (env:Env):Room k (A.deeper env) :=
 ⟨r.hd,by have:=r.dp;show A.depth + 1 + 3 * k + 5 < _;omega,by have:=r.un;show A.units + 3 + 16 * k + 200 < _;omega⟩
theorem Room.in1 {k:Nat} {A:Around} (r:Room (k + 1) A):Room k A.in1 :=
 ⟨r.hd,by have:=r.dp;show A.depth + 3 * k + 5 < _;omega,by have:=r.un;show A.units + 1 + 16 * k + 200 < _;omega⟩
theorem Room.depth {k:Nat} {A:Around} (r:Room k A):A.depth < recursionLimit:=by have:=r.dp;omega
theorem Room.units {k:Nat} {A:Around} (r:Room k A):A.units + 64 < cLine:=by have:=r.un;omega
theorem Room.units0 {k:Nat} {A:Around} (r:Room k A):A.units < cLine:=by have:=r.un;omega
def tNil:TA:=fun _ H Q=>Q [] H
def tCons (ta:TE) (tr:TA):TA:=fun σ H Q=>ta σ H fun x H1=>tr σ H1 fun xs H2=>Q (x :: xs) H2
section
variable {X:Cx} {e:Expr} {es:List Expr} {te:TE} {t:TA} {pos:Pos}
theorem J2:PA X [] tNil:=fun _ _ _ _ H Q I h=>Calls.spliced_nil ⟨[],H,I,.nil,h⟩
theorem J0 (ha:PE X e te) (hr:PA X es t) (hs:starEach (e :: es) X.env=(false,eval e X.env) :: starEach es X.env:=by rfl):PA X (e :: es) (tCons te t):=by
 intro pos pins s σ H Q I h;rw [hs];show wpAny _ _ (spliced ((false,eval e X.env) :: backTo pos (starEach es X.env))) _ _ s;refine Calls.spliced_cons (thn (ha pins s σ H _ I h) fun u s1 h9=>?_);obtain ⟨x,H1,I1,r1,q1⟩:=h9;exact thn (hr pos pins s1 σ H1 _ I1 q1) fun us s2 h9=>by obtain ⟨xs,H2,I2,r2,q2⟩:=h9;exact ⟨x :: xs,H2,I2,.cons r1 r2,q2⟩
def tTup (t:TA):TE:=fun σ H Q=>t σ H fun xs H1=>xs.length<=sizeLine/\∀ p,H1 p=none->Q (.ref p) (upd H1 p (.tup xs))
def tLst (t:TA):TE:=fun σ H Q=>t σ H fun xs H1=>xs.length<=sizeLine/\∀ p,H1 p=none->Q (.ref p) (upd H1 p (.lst xs))
theorem pe_tup {x1} (h:PA X es t):PE X (.Tuple es x1 pos) (tTup t):=by
 intro pins s σ H Q I hq;refine wpAny_Tuple_spliced (thn (h pos pins s σ H _ I hq) fun us s1 h9=>?_);obtain ⟨xs,H1,I1,r,z,q⟩:=h9;refine ⟨by rw [<- r.length];exact z,?_⟩;have hf:H1 s1.heap.objs.size=none:=I1.hok.fresh (Nat.le_refl _);refine ⟨.ref s1.heap.objs.size,upd H1 s1.heap.objs.size (.tup xs),I1.laid (t':=s1.toks) (fun b u e=>get?_push_of_some _ e) (Nat.le_refl _) ?_,rfl,q _ hf⟩;exact ⟨z,us,r,⟨_,get?_push_size _ rfl,⟨rfl,rfl⟩,_,rfl⟩⟩
theorem J3j (h:PA X es t):PE X (.List es pos) (tLst t):=by
 intro pins s σ H Q I hq;refine wpAny_List_spliced (thn (h pos pins s σ H _ I hq) fun us s1 h9=>?_);obtain ⟨xs,H1,I1,r,z,q⟩:=h9;refine ⟨by rw [<- r.length];exact z,?_⟩;have hf:H1 s1.heap.objs.size=none:=I1.hok.fresh (Nat.le_refl _);refine ⟨.ref s1.heap.objs.size,upd H1 s1.heap.objs.size (.lst xs),I1.laid (t':=s1.toks) (fun b u e=>get?_push_of_some _ e) (Nat.le_refl _) ?_,rfl,q _ hf⟩;exact ⟨z,us,0,r,get?_push_size _ rfl⟩
end
abbrev Sp:=List V->Hp->VK->XK->Prop
abbrev CXT:=List Env->Hp->Shared->XK->Value->Shared->Prop
structure Env0 (P:Program) (w:World) (K:Frag) (mg:Str->Option Value) (base:Heap) (A:Around) (outer:List Env) (s:Shared) (H:Hp):Prop where
 frames:A.frames=some outer
 mod:Mod K mg base
 bs:∀ b o,base.get? b=some o->s.heap.get? b=some o/\H b=none
 bsz:base.objs.size<=s.heap.objs.size
 funs:s.heap.FunFrames base outer
 frf:∀ b∈frs outer,H b=none
 hok:HOk P w H s.heap
 bare:AllBare s.gens
def CE (outer:List Env) (P:Program) (w:World) (H:Hp) (s:Shared) (Q:VK) (u:Value) (s':Shared):Prop :=
 ∃ v H',s'.os=s.os/\AllBare s'.gens/\Un (frs outer) [] H H' s.heap s'.heap/\HOk P w H' s'.heap/\RelV v u/\Q v H'
def CR (CX:CXT) (outer:List Env) (P:Program) (w:World) (H:Hp) (s:Shared) (Q:VK) (E:XK) (r:Result) (s':Shared):Prop :=
 match r with
 | .ok (.ret u)=>CE outer P w H s Q u s'
 | .ok _=>False
 | .error e=>CX outer H s E e s'
structure FnOk (P:Program) (w:World) (K:Frag) (mg:Str->Option Value) (base:Heap) (CX:CXT) (k:Nat) (f:Addr) (fd:FuncData) (ps:List Str) (sp:Sp):Prop where
 len:∀ vs H Q E,sp vs H Q E->vs.length=ps.length
 run:∀ (A:Around) (outer:List Env) (s:Shared) (H:Hp) (args:Args) (us:List Value) (vs:List V) (Q:VK) (E:XK),Room k A->Env0 P w K mg base A outer s H->BindsTo s fd args (ps.zip us)->Vals vs us->sp vs H Q E->
  codeAny (model P w) A (.call (.ref f) args) (CR CX outer P w H s Q E) s
theorem Env0.in1 {P:Program} {w:World} {K:Frag} {mg:Str->Option Value} {base:Heap} {A:Around} {outer:List Env} {s:Shared} {H:Hp} (e:Env0 P w K mg base A outer s H) :
  Env0 P w K mg base A.in1 outer s H:=⟨e.frames,e.mod,e.bs,e.bsz,e.funs,e.frf,e.hok,e.bare⟩
section
variable {X:Cx} {pins:List (Addr × Obj)} {σ:St} {H:Hp} {s s':Shared}
theorem Inv.env0 (I:Inv X pins σ H s):Env0 X.prog X.w X.K X.mg X.base X.A X.stack s H :=
 ⟨I.ok.frames,I.ok.mod,I.bs,Nat.le_trans I.ok.bsz I.sz,I.stack,I.stkFree,I.hok,I.bare⟩
theorem Inv.after {Q:VK} {u:Value} (I:Inv X pins σ H s) (h:CE X.stack X.prog X.w H s Q u s'):EP X pins σ Q u s':=by
 obtain ⟨v,H',os,bare,un,hok,r,q⟩:=h;obtain ⟨hh,g,d,t,os'⟩:=s';obtain rfl:os'=s.os:=os;exact ⟨v,H',I.call (h':=hh) (g':=g) (d':=d) (t':=t) (ch:=[]) un hok bare (fun b z=>absurd z (by simp)),r,q⟩
end
def tCall (sp:Sp) (dvs:List V) (E:XK) (t:TA):TE:=fun σ H Q=>t σ H fun vs H1=>sp (vs ++ dvs) H1 Q E
def Binds (K:Frag) (fd:FuncData) (ps:List Str) (ds:List Value):Prop :=
 ∀ (s:Shared) (us:List Value),K.In s.heap->(us ++ ds).length=ps.length->BindsTo s fd ⟨us,[]⟩ (ps.zip (us ++ ds))
theorem Binds.all {K:Frag} {fd:FuncData} {ps:List Str} (h:∀ us:List Value,us.length=ps.length->bindArgs fd ⟨us,[]⟩=pure (ps.zip us)):Binds K fd ps []:=fun s us _ hl=>by
 rw [append_nil] at hl ⊢;exact .of_eq (h us hl)
def Passes (CX:CXT) (X:Cx) (E:XK):Prop:=∀ (pins:List (Addr × Obj)) (σ:St) (H:Hp) (s:Shared) (e:Value) (s':Shared),Inv X pins σ H s->CX X.stack H s E e s'->X.xe e s'
section
variable {X:Cx} {CX:CXT} {k:Nat} {f C:Addr} {fd:FuncData} {ps:List Str} {sp:Sp} {dvs:List V} {ds:List Value} {E:XK} {x m:Str} {p pos apos:Pos} {e o:Expr} {es:List Expr} {ta:TE} {t:TA}
theorem run_fn {pins:List (Addr × Obj)} {σ:St} {H:Hp} {s:Shared} {Q:VK} {us:List Value} {vs:List V} (F:FnOk X.prog X.w X.K X.mg X.base CX k f fd ps sp) (hr:Room k X.A) (hb:Binds X.K fd ps ds) (hd:Vals dvs ds) (hx:Passes CX X E)
  (I:Inv X pins σ H s) (r:Vals vs us) (h:sp (vs ++ dvs) H Q E):wpAny (model X.prog X.w) X.A (call (.ref f) us) (EP X pins σ Q) X.xe s:=by
 have r2:Vals (vs ++ dvs) (us ++ ds):=r.append hd;have hl:(us ++ ds).length=ps.length:=by rw [<- r2.length];exact F.len _ _ _ _ h
 refine wpAny_call (codeAny_mono (F.run X.A X.stack s H ⟨us,[]⟩ (us ++ ds) (vs ++ dvs) Q E hr I.env0 (hb s us I.kIn hl) r2 h) fun r s' hq=>?_)
 cases r with
 | error e=>exact hx pins σ H s e s' I hq
 | ok fl =>
  cases fl with
  | ret u=>exact I.after hq
  | next=>exact False.elim hq
  | brk=>exact False.elim hq
  | cont=>exact False.elim hq
theorem Jm (F:FnOk X.prog X.w X.K X.mg X.base CX k f fd ps sp) (hr:Room k X.A) (hg:Gl X x) (hm:X.mg x=some (.ref f)) (hk:keepIn X.K (.ref f)=true) (hb:Binds X.K fd ps ds) (hd:Vals dvs ds) (hx:Passes CX X E)
  (ha:PA X (e :: es) t) (hdb:(x == ("__debug__":Str))=false:=by decide) (he:starEach (e :: es) X.env=(false,eval e X.env) :: starEach es X.env:=by rfl) (hpl:(backTo pos (starEach es X.env)).any (·.1)=false:=by rfl) :
  PE X (.Call (.Name x p) (e :: es) [] pos) (tCall sp dvs E t):=by
 intro pins s σ H Q I h;refine wpAny_Call_Name_kw (ld_glob I hg hm ?_ hdb);refine PySem.W.callWith_K (h₀:=X.base) I.ok.mod.kin hk (thn (ha pos pins s σ H _ I h) fun us s1 h9=>?_) he hpl;obtain ⟨vs,H1,I1,r,q⟩:=h9;refine ⟨I1.kIn,?_⟩;exact run_fn F hr hb hd hx I1 r q
end
structure FnScope (N P:List Str) (sc:Scope):Prop where
 kind:sc.kind=.function
 co:sc.isCoroutine=false
 gen:sc.isGenerator=false
 nd:N.Nodup
 pre:N.take P.length=P
 par:∀ x∈P,sc.names.lookup x=some .local\/sc.names.lookup x=some .cell
 nofree:∀ y∈sc.names,y.2≠.free
theorem fS {N P:List Str} {sc:Scope} (a:sc.kind=.function:=by rfl) (b:sc.isCoroutine=false:=by rfl) (c:sc.isGenerator=false:=by rfl) (d:N.Nodup:=by decide +kernel) (e:N.take P.length=P:=by rfl) (f:∀ x∈P,sc.names.lookup x=some .local\/sc.names.lookup x=some .cell:=by decide +kernel) (g:∀ y∈sc.names,y.2≠.free:=by decide +kernel) : FnScope N P sc:=⟨a,b,c,d,e,f,g⟩
theorem bindL_out {kindOf:Str->Option NameKind} {x:Str}:∀ {binds:List (Str × Value)} {m:Str->Option Value},(∀ v,(x,v) ∉ binds)->bindL kindOf binds m x=m x
 | [],_,_=>rfl
 | (n,v) :: r,m,h=>by
  unfold bindL;rw [bindL_out fun w hw=>h w (mem_cons_of_mem _ hw)];split
  ·have:x≠n:=by rintro rfl;exact h v mem_cons_self
   simp [this]
  ·rfl
theorem bindC_out {kindOf:Str->Option NameKind} {x:Str}:∀ {binds:List (Str × Value)} {m:Str->Option Value},(∀ v,(x,v) ∉ binds)->bindC kindOf binds m x=m x
 | [],_,_=>rfl
 | (n,v) :: r,m,h=>by
  unfold bindC;rw [bindC_out fun w hw=>h w (mem_cons_of_mem _ hw)];split
  ·rfl
  ·have:x≠n:=by rintro rfl;exact h v mem_cons_self
   simp [this]
theorem bindL_get {kindOf:Str->Option NameKind} {x:Str} {v:Value}:∀ {P:List Str} {vs:List Value} {i:Nat} {m:Str->Option Value},P.Nodup->P[i]?=some x->vs[i]?=some v->kindOf x=some .local->
  bindL kindOf (P.zip vs) m x=some v
 | [],_,_,_,_,h,_,_=>by simp at h
 | _ :: _,[],_,_,_,_,h,_=>by simp at h
 | p :: P,w :: vs,0,m,nd,h1,h2,hk=>by
  simp at h1 h2;subst h1;subst h2;show bindL kindOf ((p,w) :: P.zip vs) m p=_;unfold bindL;rw [bindL_out fun v hv=>(nodup_cons.mp nd).1 (List.of_mem_zip hv).1,if_pos hk];simp
 | p :: P,w :: vs,i + 1,m,nd,h1,h2,hk=>by
  show bindL kindOf ((p,w) :: P.zip vs) m x=_;unfold bindL;exact bindL_get (i:=i) (nodup_cons.mp nd).2 (by simpa using h1) (by simpa using h2) hk
theorem bindC_get {kindOf:Str->Option NameKind} {x:Str} {v:Value}:∀ {P:List Str} {vs:List Value} {i:Nat} {m:Str->Option Value},P.Nodup->P[i]?=some x->vs[i]?=some v->kindOf x≠some .local->
  bindC kindOf (P.zip vs) m x=some v
 | [],_,_,_,_,h,_,_=>by simp at h
 | _ :: _,[],_,_,_,_,h,_=>by simp at h
 | p :: P,w :: vs,0,m,nd,h1,h2,hk=>by
  simp at h1 h2;subst h1;subst h2;show bindC kindOf ((p,w) :: P.zip vs) m p=_;unfold bindC;rw [bindC_out fun v hv=>(nodup_cons.mp nd).1 (List.of_mem_zip hv).1,if_neg hk];simp
 | p :: P,w :: vs,i + 1,m,nd,h1,h2,hk=>by
  show bindC kindOf ((p,w) :: P.zip vs) m x=_;unfold bindC;exact bindC_get (i:=i) (nodup_cons.mp nd).2 (by simpa using h1) (by simpa using h2) hk
def start (N:List Str) (vs:List V):St:=vs.map some ++ List.replicate (N.length - vs.length) none
def cxOf (CX:CXT) (P:Program) (w:World) (K:Frag) (mg:Str->Option Value) (base:Heap) (N:List Str) (qual:Str) (scope:Scope) (f:Addr) (cd:Value) (A:Around) (outer:List Env) (s:Shared) (H:Hp) (E:XK):Cx where
 prog:=P
 w:=w
 K:=K
 mg:=mg
 base:=base
 A:=A.deeper (envOfC qual scope s.heap.objs.size f cd)
 N:=N
 s₀:=s
 H₀:=H
 env:=envOfC qual scope s.heap.objs.size f cd
 outer:=outer
 stack:=envOfC qual scope s.heap.objs.size f cd :: outer
 ex:=[]
 calm:=true
 fn:=fun _=>true
 pn:=[]
 xe:=fun e s'=>wpAny (model P w) (A.deeper (envOfC qual scope s.heap.objs.size f cd)) (leaving (envOfC qual scope s.heap.objs.size f cd) e) (fun _ s''=>CX outer H s E e s'') (fun e' s''=>CX outer H s E e' s'') s'
theorem cell_has {sc:Scope} {n:Nat} {x:Str} (h:sc.names.lookup x=some .cell):∃ c,(cellsFrom n sc.names []).lookup x=some c:=by
 have q:=PySem.W.cellsFrom_some sc.names n [] (.inl h);exact isSome_iff_exists.mp q
theorem inv_start {CX:CXT} {P:Program} {w:World} {K:Frag} {mg:Str->Option Value} {base:Heap} {N ps:List Str} {qual:Str} {scope:Scope} {f:Addr} {cd:Value} {A:Around} {outer:List Env} {s s1:Shared} {H:Hp} {E:XK} {us:List Value} {vs:List V}
  (S:FnScope N ps scope) (hd:A.handled=none) (e0:Env0 P w K mg base A outer s H) (hl:vs.length=ps.length) (r:Vals vs us)
  (x:InCallC s s.heap.objs.size (bindL (envOfC qual scope s.heap.objs.size f cd).kindOf (ps.zip us) fun _=>none) (cellsFrom (s.heap.objs.size + 1) scope.names []) (bindC (envOfC qual scope s.heap.objs.size f cd).kindOf (ps.zip us) fun _=>none) s1) :
  Inv (cxOf CX P w K mg base N qual scope f cd A outer s H E) [] (start N vs) H s1:=by
 have hpl:ps.length<=N.length:=by have:=congrArg List.length S.pre;rw [length_take] at this;omega
 obtain ⟨h1,tk,rfl,hk⟩:=x.done;have noA:∀ b:Addr,b ∉ (cxOf CX P w K mg base N qual scope f cd A outer s H E).ex:=fun b z=>absurd (show b∈([]:List Addr) from z) (by simp);refine ⟨⟨e0.mod,S.kind,rfl,rfl,Nat.le_refl _,fun y z c h1 h2=>?_,fun y hy=>?_,fun y c _ h=>?_,fun _=>hd,Around.frames_deeper e0.frames,.inr ⟨rfl,rfl⟩,fun b z=>absurd z (noA b),e0.bs,e0.bsz,fun b _ _=>noA b,fun b z=>absurd z (noA b),e0.funs,e0.frf⟩,
  rfl,e0.bare,Un.kept hk,⟨_,x.toInCall.ns,fun i y v h1 h2 h3=>?_⟩,fun y c h=>⟨_,x.cell y c h⟩,e0.hok.fresh (Nat.le_refl _),fun y c h=>?_,fun p hp=>absurd (show p∈([]:List (Addr × Obj)) from hp) (by simp),e0.hok.kept hk,?_⟩
 ·exact name_of_addr x.apart (mem_of_lookup h1) (mem_of_lookup h2)
 ·have hy:scope.names.lookup y=some .cell\/scope.names.lookup y=some .free:=hy;rcases hy with hy | hy
  ·exact cell_has hy
  ·exact absurd rfl (S.nofree _ (mem_of_lookup hy))
 ·exact Nat.le_of_lt (x.above y c (mem_of_lookup h))
 ·have hi:i < vs.length:=by
   unfold start at h2;by_cases hi:i < vs.length
   ·exact hi
   ·rw [getElem?_append_right (by simpa using hi)] at h2;rw [List.getElem?_replicate] at h2;split at h2 <;> cases h2
  have ha:vs[i]?=some v:=by
   unfold start at h2;rw [getElem?_append_left (by simpa using hi),getElem?_map] at h2
   cases e:vs[i]? with
   | none=>rw [e] at h2;cases h2
   | some a=>rw [e] at h2;cases h2;rfl
  obtain ⟨u,hu,rv⟩:=r.get ha;have hp:ps[i]?=some y:=by
   rw [<- S.pre,List.getElem?_take_of_lt (by omega)];exact h1
  have ndP:ps.Nodup:=by rw [<- S.pre];exact S.nd.sublist (take_sublist _ _)
  refine ⟨u,rv,?_⟩;rcases S.par y (List.mem_of_getElem? hp) with k | k
  ·exact .inl ⟨k,bindL_get ndP hp hu k⟩
  ·obtain ⟨c,e⟩:=cell_has (n:=s.heap.objs.size + 1) k;refine .inr ⟨.inl k,c,e,?_⟩;have q:=x.cell y c e;rw [bindC_get ndP hp hu (by show scope.names.lookup y≠_;rw [k];decide)] at q;exact q
 ·exact e0.hok.fresh (Nat.le_of_lt (x.above y c (mem_of_lookup h)))
 ·unfold start;show _=N.length;rw [length_append,length_map,List.length_replicate];omega
theorem fn_of {CX:CXT} {P:Program} {w:World} {K:Frag} {mg:Str->Option Value} {base:Heap} {k:Nat} {f:Addr} {name qual:Str} {params:Arguments} {body:List Stmt} {scope:Scope} {dV kV doc pm cdv ct oc:Value} {an od:Option Addr}
  {osl:Array (Option Value)} {N ps:List Str} {sp:Sp} (lk:K.lookup f=some ⟨oc,od,.func (fnOf name qual params body scope dV kV doc pm an cdv ct),osl⟩) (hcd:codeIn K cdv qual=true) (S:FnScope N ps scope)
  (len:∀ vs H Q E,sp vs H Q E->vs.length=ps.length)
  (hbody:∀ (A:Around) (outer:List Env) (s:Shared) (H:Hp) (vs:List V) (Q:VK) (E:XK),Room k (A.deeper (envOfC qual scope s.heap.objs.size f cdv))->sp vs H Q E->
   ∃ t,PSs (cxOf CX P w K mg base N qual scope f cdv A outer s H E) body t/\t { nx:=fun _ H'=>Q .non H',rt:=Q } (start N vs) H) :
  FnOk P w K mg base CX (k + 1) f (fnOf name qual params body scope dV kV doc pm an cdv ct) ps sp:=by
 refine ⟨len,fun A outer s H args us vs Q E hr e0 hb r hsp=>?_⟩;have hl:=len _ _ _ _ hsp;have KX:K.In s.heap:=e0.mod.kin.keeps fun b o e=>(e0.bs b o e).1;have lim:s.heap.NoLimit:=e0.mod.nolimit.keeps fun b o e=>(e0.bs b o e).1;have hkind:∀ y∈ps.zip us,scope.names.lookup y.1=some .local\/(scope.names.lookup y.1=some .cell/\((cellsFrom (s.heap.objs.size + 1) scope.names []).lookup y.1).isSome=true):=fun h9 hy=>by
  obtain ⟨n,v⟩:=h9;rcases S.par n (List.of_mem_zip hy).1 with q | q
  ·exact .inl q
  ·exact .inr ⟨q,PySem.W.cellsFrom_some _ _ _ (.inl q)⟩
 refine codeAny_call_function hr.depth (KX _ _ lk) rfl S.co S.gen rfl (PySem.W.codeRec_of KX hcd) (hb _ _ _ _ ?_);refine wpAny_newFunctionEnv_cells S.kind hkind fun env he s1 x=>?_;subst he;refine ⟨lim.keeps x.toInCall.keep,codeAny_func ?_⟩;obtain ⟨t,ht,hq⟩:=hbody A outer s H vs Q E (hr.deeper _) hsp;have I:Inv (cxOf CX P w K mg base N qual scope f cdv A outer s H E) [] (start N vs) H s1:=inv_start S hr.hd e0 hl r x;refine wpAny_mono (ht [] s1 (start N vs) H _ I hq) (fun fl s' hs=>?_) fun e s' hs=>hs;have fin:∀ {σ':St} {H':Hp} {v:V} {u:Value},Inv (cxOf CX P w K mg base N qual scope f cdv A outer s H E) [] σ' H' s'->RelV v u->Q v H'->CE outer P w H s Q u s' :=
  fun {σ' H' v u} J rv q=>⟨v,H',J.os,J.bare,J.base,J.hok,rv,q⟩
 cases fl with
 | ret u =>
  obtain ⟨v,σ',H',J,rv,q⟩:=hs;exact fin J rv q
 | next =>
  obtain ⟨σ',H',J,q⟩:=hs;exact fin (v:=V.non) (u:=Value.none) J rfl q
 | brk =>
  obtain ⟨_,_,_,q⟩:=hs;exact False.elim q
 | cont =>
  obtain ⟨_,_,_,q⟩:=hs;exact False.elim q
end L2
namespace L2
open PySem PySem.Spec PyProof.Rows
section
variable {X:Cx} {x:Str} {p pos:Pos} {e:Expr} {es:List Expr} {t:TA} {id T:String} {r:List V->Hp->VK->Prop}
def tCB (r:List V->Hp->VK->Prop) (t:TA):TE:=fun σ H Q=>t σ H fun vs H1=>r vs H1 Q
theorem J8 (hc:CallR X (.builtin id) r) (hg:Gl X x) (hm:X.mg x=none) (hv:bootBuiltins x=some (.builtin id)) (ha:PA X (e :: es) t) (hn:x≠"__name__":=by decide) (hdb:(x == ("__debug__":Str))=false:=by decide)
  (he:starEach (e :: es) X.env=(false,eval e X.env) :: starEach es X.env:=by rfl) (hpl:(backTo pos (starEach es X.env)).any (·.1)=false:=by rfl):PE X (.Call (.Name x p) (e :: es) [] pos) (tCB r t):=by
 intro pins s σ H Q I h;refine wpAny_Call_Name_kw (J3p I hg hm hv ?_ hn hdb);exact PyProof.Rows.callWith_builtin1 (thn (ha pos pins s σ H _ I h) fun us s1 h9=>by obtain ⟨vs,H1,I1,r1,q1⟩:=h9;exact hc pins s1 σ H1 vs us Q I1 r1 q1) he hpl
theorem Jb (hc:CallR X (.type T) r) (hg:Gl X x) (hm:X.mg x=none) (hv:bootBuiltins x=some (.type T)) (ha:PA X (e :: es) t) (hn:x≠"__name__":=by decide) (hdb:(x == ("__debug__":Str))=false:=by decide)
  (he:starEach (e :: es) X.env=(false,eval e X.env) :: starEach es X.env:=by rfl) (hpl:(backTo pos (starEach es X.env)).any (·.1)=false:=by rfl):PE X (.Call (.Name x p) (e :: es) [] pos) (tCB r t):=by
 intro pins s σ H Q I h;refine wpAny_Call_Name_kw (J3p I hg hm hv ?_ hn hdb);exact callWith_type1 (thn (ha pos pins s σ H _ I h) fun us s1 h9=>by obtain ⟨vs,H1,I1,r1,q1⟩:=h9;exact hc pins s1 σ H1 vs us Q I1 r1 q1) he hpl
end
end L2
namespace HT
open PySem PyProof.Rows
section
variable {prog:Program} {w:World} {A:Around} {E:Value->Shared->Prop} {s:Shared}
theorem cat_tup {t b:Addr} {vs ws:List Value} {Q:Value->Shared->Prop} (ht:IsTup s.heap t vs.toArray) (hb:IsTup s.heap b ws.toArray) (hv:vs≠[])
  (h1:ws=[]->Q (.ref t) s) (h2:ws≠[]->Q (.ref s.heap.objs.size) { s with heap:=s.heap.push { cls:=.type "tuple",data:=.seq (vs ++ ws).toArray } })
  (hsz:vs.length + ws.length<=sizeLine):wpAny (model prog w) A (binaryOp .Add (.ref t) (.ref b)) Q E s:=by
 obtain ⟨⟨cls,dd,data,sl⟩,ho,hc,n,hd⟩:=id ht;obtain ⟨⟨cls2,dd2,data2,sl2⟩,ho2,hc2,n2,hd2⟩:=id hb;simp only at hc hd hc2 hd2;subst hc hd hc2 hd2;have e:vs.toArray ++ ws.toArray=(vs ++ ws).toArray:=by simp
 by_cases hw:ws=[]
 ·exact concat_meets ⟨_,ho,rfl⟩ ⟨_,ho2,rfl⟩ noFill_tuple_add seq_tuple_add PySem.F.slot_tuple_add PySem.F.entry_tuple_add (PySem.F.args_tuple_add_2 _ _)
   (tuple_addW1 t b vs.toArray ws.toArray n n2 dd dd2 sl sl2 (by simpa using hv) (by simp [hw])) ⟨ho,ho2,h1 hw⟩
 ·refine concat_meets ⟨_,ho,rfl⟩ ⟨_,ho2,rfl⟩ noFill_tuple_add seq_tuple_add PySem.F.slot_tuple_add PySem.F.entry_tuple_add (PySem.F.args_tuple_add_2 _ _)
   (tuple_addW2 t b vs.toArray ws.toArray n n2 dd dd2 sl sl2 (by simpa using hv) (by simpa using hw) (by rw [size_toArray,size_toArray];exact hsz)) ⟨ho,ho2,?_⟩
  rw [e];exact h2 hw
def sIx (n d:Nat):Option Int->Nat
 | none=>d
 | some v=>if v < 0 then (v + (n:Int)).toNat else min v.toNat n
theorem sIx_none (n d:Nat):sIx n d none=d:=rfl
theorem sIx_nat (n d k:Nat):sIx n d (some (k:Int))=min k n:=by
 show (if (k:Int) < 0 then ((k:Int) + (n:Int)).toNat else min (k:Int).toNat n)=min k n;rw [if_neg (by omega),Int.toNat_natCast]
theorem sIx_le (n d:Nat) (hd:d<=n) (o:Option Int):sIx n d o<=n:=by
 cases o with
 | none=>exact hd
 | some v =>
  show (if v < 0 then (v + (n:Int)).toNat else min v.toNat n)<=n;by_cases hv:v < 0
  ·rw [if_pos hv];omega
  ·rw [if_neg hv];exact Nat.min_le_right _ _
theorem clip_eq (v:Int) (n d:Nat):(if v < 0 then max (v + (n:Int)) 0 else min v (n:Int))=((sIx n d (some v):Nat):Int):=by
 show (if v < 0 then max (v + (n:Int)) 0 else min v (n:Int))=(((if v < 0 then (v + (n:Int)).toNat else min v.toNat n):Nat):Int);by_cases hv:v < 0
 ·simp only [if_pos hv];omega
 ·simp only [if_neg hv];omega
theorem adjust_gen (lo hi:Option Int) (n:Nat):Builtin.Slice.sliceAdjust lo hi 1 (n:Int)=(((sIx n 0 lo:Nat):Int),((sIx n n hi:Nat):Int)):=by
 have h1:¬ ((1:Int) < 0):=by omega
 unfold Builtin.Slice.sliceAdjust;simp only [h1,if_false];refine Prod.ext ?_ ?_
 ·cases lo with
  | none=>rfl
  | some v=>exact clip_eq v n 0
 ·cases hi with
  | none=>rfl
  | some v=>exact clip_eq v n n
theorem places_gen (i j:Nat):Builtin.Slice.slicePlaces (i:Int) (j:Int) 1=j - i:=by
 unfold Builtin.Slice.slicePlaces;have h1:(1:Int) > 0:=by omega
 simp only [h1,if_true,Int.ediv_one];split <;> omega
theorem J2y {v:Value} {o:Option Int} {Q:Option Int->Shared->Prop} (p:IsPart v o) (h:Q o s):wpAny (model prog w) A (Builtin.Slice.slicePartIndex v) Q E s:=by
 cases p with
 | none=>exact slicePart_none h
 | int i t=>exact slicePart_int h
theorem J1q {sl:Addr} {vl vu:Value} {lo hi:Option Int} {n:Nat} {Q:Int × Int × Nat->Shared->Prop} (hs:s.heap.IsSliceOf sl vl vu .none) (pl:IsPart vl lo) (pu:IsPart vu hi)
  (h:Q (((sIx n 0 lo:Nat):Int),1,sIx n n hi - sIx n 0 lo) s):wpAny (model prog w) A (Builtin.Slice.sliceApplied (.ref sl) (pure (n:Int))) Q E s:=by
 obtain ⟨os,hos,hcs,hds⟩:=id hs;unfold Builtin.Slice.sliceApplied Builtin.Slice.sliceFields;refine wpAny_bind (wpAny_bind (wpAny_field hos hds (x:=vl) rfl (wpAny_bind (wpAny_field hos hds (x:=vu) rfl (wpAny_bind (wpAny_field hos hds (x:=.none) rfl (wpAny_pure ?_)))))));refine wpAny_bind (slicePart_none ?_);show wpAny _ _ (if ((1:Int) == 0)=true then _ else _) _ _ s;rw [if_neg (by decide)];refine wpAny_bind (J2y pl (wpAny_bind (J2y pu (wpAny_bind (wpAny_pure ?_)))));show wpAny _ _ (match Builtin.Slice.sliceAdjust lo hi 1 (n:Int) with | (lo,hi)=>pure (lo,(1:Int),Builtin.Slice.slicePlaces lo hi 1)) _ _ s;rw [adjust_gen lo hi n];show wpAny _ _ (pure (((sIx n 0 lo:Nat):Int),(1:Int),Builtin.Slice.slicePlaces ((sIx n 0 lo:Nat):Int) ((sIx n n hi:Nat):Int) 1)) _ _ s;rw [places_gen];exact wpAny_pure h
theorem pick_gen (xs:Array Value) (i k:Nat):((List.range k).filterMap fun (m:Nat)=>xs[((i:Int) + (m:Int) * 1).toNat]?).toArray=((xs.toList.drop i).take k).toArray:=by
 have e:(fun (m:Nat)=>xs[((i:Int) + (m:Int) * 1).toNat]?)=fun m=>xs[i + m]?:=by
  funext m
  have:((i:Int) + (m:Int) * 1).toNat=i + m:=by omega
  rw [this]
 rw [e];have:=pick_run xs i k;rw [List.filterMap_map] at this;have e2:((fun x=>xs[x]?) ∘ fun x=>i + x)=fun m=>xs[i + m]?:=rfl;rw [e2] at this;rw [this]
theorem getItem_tuple_cut {t sl:Addr} {items:Array Value} {vl vu:Value} {lo hi:Option Int} {Q:Value->Shared->Prop} (ht:IsTup s.heap t items) (hs:s.heap.IsSliceOf sl vl vu .none) (pl:IsPart vl lo) (pu:IsPart vu hi)
  (hw:¬ (sIx items.size 0 lo=0/\sIx items.size items.size hi=items.size))
  (h:Q (.ref s.heap.objs.size) { s with heap:=s.heap.push { cls:=.type "tuple",data:=.seq ((items.toList.drop (sIx items.size 0 lo)).take (sIx items.size items.size hi - sIx items.size 0 lo)).toArray } })
  (hsz:items.size<=sizeLine):wpAny (model prog w) A (getItem (.ref t) (.ref sl)) Q E s:=by
 have htake:sizeOk (.seq ((items.toList.drop (sIx items.size 0 lo)).take (sIx items.size items.size hi - sIx items.size 0 lo)).toArray):=by
  show ((items.toList.drop (sIx items.size 0 lo)).take (sIx items.size items.size hi - sIx items.size 0 lo)).toArray.size<=sizeLine;rw [size_toArray,length_take,length_drop,length_toList];omega
 have hj:sIx items.size items.size hi<=items.size:=sIx_le _ _ (Nat.le_refl _) hi;obtain ⟨os,hos,hcs,hds⟩:=id hs;have hTs:s.TypeIs (.ref sl) "slice":=⟨os,hos,hcs⟩;unfold getItem
 try with_reducible refine wpAny_holding ?_
 first | refine wpAny_bind (wpAny_pure ?_) | skip
 refine wpAny_bind (wpAny_sequenceKey ht.typeIs (by decide) ?_);refine wpAny_bind (wpAny_callSpecial?_slot (name:=Str.ofString "__getitem__") ht.typeIs PyProof.Rows.slot_tuple_getitem
  (wpAny_call_entry PyProof.Rows.slot_tuple_getitem ht.typeIs entry_tuple_getitem ?_ (args_tuple_getitem _ _)))
 show wpAny _ _ (Builtin.Tuple.tupleItemsOf (.ref t) >>= _) _ _ s;refine wpAny_bind (tupleItemsOf_ ht ?_);refine wpAny_bind (wpAny_typeOf hTs ?_);rw [if_pos (by decide)];refine wpAny_bind (J1q hs pl pu ?_);have hno:¬ ((((sIx items.size 0 lo:Nat):Int) == 0 && (1:Int) == 1 && (sIx items.size items.size hi - sIx items.size 0 lo) == items.size)=true):=by
  intro q;rw [Bool.and_eq_true,Bool.and_eq_true] at q;have q1:((sIx items.size 0 lo:Nat):Int)=0:=eq_of_beq q.1.1;have q2:sIx items.size items.size hi - sIx items.size 0 lo=items.size:=eq_of_beq q.2;exact hw ⟨by omega,by omega⟩
 show wpAny _ _ (if (((sIx items.size 0 lo:Nat):Int) == 0 && (1:Int) == 1 && (sIx items.size items.size hi - sIx items.size 0 lo) == items.size)=true then _ else _) _ _ s;rw [if_neg hno,pick_gen]
 first
  | exact wpAny_bind (m:=Builtin.Tuple.tupleExact _) (wpAny_newObj_type (wpAny_pure ⟨_,rfl,wpAny_pure h⟩) htake)
  | exact wpAny_bind (m:=Builtin.Tuple.tupleExact _) (wpAny_newObj_type (wpAny_bind (wpAny_pure (wpAny_pure ⟨_,rfl,wpAny_pure h⟩))) htake)
  | exact wpAny_bind (wpAny_bind (m:=Builtin.Tuple.tupleExact _) (wpAny_newObj_type (wpAny_pure (wpAny_pure ⟨_,rfl,wpAny_pure h⟩)) htake))
  | exact wpAny_bind (wpAny_bind (m:=Builtin.Tuple.tupleExact _) (wpAny_newObj_type (wpAny_pure ⟨_,rfl,wpAny_pure h⟩) htake))
end
end HT
namespace L2
open PySem PySem.Spec PyProof.Rows
abbrev TO:=St->Hp->(Option Int->Hp->Prop)->Prop
def PO (X:Cx) (e:Option Expr) (t:TO):Prop :=
 ∀ (pins:List (Addr × Obj)) (s:Shared) (σ:St) (H:Hp) (Q:Option Int->Hp->Prop),Inv X pins σ H s->t σ H Q->
  wpAny (model X.prog X.w) X.A (evalPart e X.env) (fun u s'=>∃ o H',Inv X pins σ H' s'/\IsPart u o/\Q o H') X.xe s
def tNoPart:TO:=fun _ H Q=>Q none H
def tPart (t:TE):TO:=fun σ H Q=>t σ H fun x H1=>∃ i,x=.int i/\Q (some i) H1
theorem Je {ns:List Int}:∀ {us:List Value},Vals (ns.map V.int) us->IntsAre us ns:=by
 induction ns with
 | nil=>intro us r;rw [map_nil] at r;cases r;exact .nil
 | cons n ns ih =>
  intro us r;rw [map_cons] at r
  cases r with
  | cons r1 r2 =>
   obtain ⟨t,e⟩:=r1;subst e;exact .cons n t (ih r2)
section
variable {X:Cx} {e:Expr} {te:TE} {lo hi:Option Expr} {tl th:TO} {pos p2:Pos}
theorem J31:PO X none tNoPart:=by
 intro pins s σ H Q I h;rw [evalPart_none];exact wpAny_pure ⟨none,H,I,.none,h⟩
theorem J18 (h:PE X e te):PO X (some e) (tPart te):=by
 intro pins s σ H Q I hw;rw [evalPart_some];refine thn (h pins s σ H _ I hw) fun u s1 h9=>?_;obtain ⟨x,H1,I1,r1,q1⟩:=h9;obtain ⟨i,rfl,q⟩:=q1;obtain ⟨t,rfl⟩:=r1;exact ⟨some i,H1,I1,.int i t,q⟩
def SlR (X:Cx) (r:V->Option Int->Option Int->Hp->VK->Prop):Prop :=
 ∀ (pins:List (Addr × Obj)) (s:Shared) (σ:St) (H:Hp) (x:V) (v vl vu:Value) (lo hi:Option Int) (sl:Addr) (Q:VK),Inv X pins σ H s->RelV x v->s.heap.IsSliceOf sl vl vu .none->IsPart vl lo->IsPart vu hi->r x lo hi H Q->
  ∃ T id,typeLookup (.type T) "__getitem__"=pure (some (.builtin id))/\s.TypeIs v T/\wpAny (model X.prog X.w) X.A (getItem v (.ref sl)) (EP X pins σ Q) X.xe s
theorem SlR.or {r r':V->Option Int->Option Int->Hp->VK->Prop} (h:SlR X r) (h':SlR X r'):SlR X (fun x lo hi H Q=>r x lo hi H Q\/r' x lo hi H Q):=by
 intro pins s σ H x v vl vu lo hi sl Q I rx hs pl pu q;rcases q with q | q
 ·exact h pins s σ H x v vl vu lo hi sl Q I rx hs pl pu q
 ·exact h' pins s σ H x v vl vu lo hi sl Q I rx hs pl pu q
def tSl (r:V->Option Int->Option Int->Hp->VK->Prop) (te:TE) (tl th:TO):TE:=fun σ H Q=>te σ H fun x H1=>tl σ H1 fun l H2=>th σ H2 fun u H3=>r x l u H3 Q
theorem J11 {r:V->Option Int->Option Int->Hp->VK->Prop} (hr:SlR X r) (he:PE X e te) (hl:PO X lo tl) (hu:PO X hi th):PE X (.Subscript e (.Slice lo hi none p2) pos) (tSl r te tl th):=by
 intro pins s σ H Q I h;refine Subscript_ (thn (he pins s σ H _ I h) fun v s1 h9=>?_);obtain ⟨x,H1,I1,r1,q1⟩:=h9;refine wpAny_Slice (thn (hl pins s1 σ H1 _ I1 q1) fun vl s2 h9=>?_);obtain ⟨l,H2,I2,pl,q2⟩:=h9;refine thn (hu pins s2 σ H2 _ I2 q2) fun vu s3 h9=>?_;obtain ⟨u,H3,I3,pu,q3⟩:=h9;rw [evalPart_none];refine wpAny_pure ?_;have I4:Inv X pins σ H3 { s3 with heap:=s3.heap.push { cls:=.type "slice",data:=.fields #[vl,vu,.none] } }:=I3.kept (t':=s3.toks) fun b ob q=>get?_push_of_some _ q;obtain ⟨T,id,hT,ht,hg⟩:=hr pins { s3 with heap:=s3.heap.push { cls:=.type "slice",data:=.fields #[vl,vu,.none] } } σ H3 x v vl vu l u s3.heap.objs.size Q I4 r1 (Heap.IsSliceOf.new ..) pl pu q3;show wpAny (model X.prog X.w) X.A (subscriptTail e (.Slice lo hi none p2) v (.ref s3.heap.objs.size)) (EP X pins σ Q) X.xe { s3 with heap:=s3.heap.push { cls:=.type "slice",data:=.fields #[vl,vu,.none] } };exact tail_any (ops:=[.ref s3.heap.objs.size,v]) ht hT hg (by with_unfolding_all rfl)
def cutV (xs:List V) (lo hi:Option Int):List V:=(xs.drop (HT.sIx xs.length 0 lo)).take (HT.sIx xs.length xs.length hi - HT.sIx xs.length 0 lo)
theorem J2h (xs:List V) (lo hi:Option Int):(cutV xs lo hi).length<=xs.length:=by
 unfold cutV;rw [length_take,length_drop];omega
def rSlT (K:Frag):V->Option Int->Option Int->Hp->VK->Prop:=fun x lo hi H Q=>∃ a xs,x=.ref a/\SqT K H a xs/\
 ¬ (HT.sIx xs.length 0 lo=0/\HT.sIx xs.length xs.length hi=xs.length)/\∀ p,H p=none->Q (.ref p) (upd H p (.tup (cutV xs lo hi)))
theorem sl_tup:SlR X (rSlT X.K):=by
 intro pins s σ H x v vl vu lo hi sl Q I rx hs pl pu h;obtain ⟨a,xs,rfl,hx,hw,q⟩:=h;cases rx;obtain ⟨its,r,ht,hz⟩:=I.tuple hx;have hlen:its.toArray.size=xs.length:=by rw [size_toArray];exact r.length.symm
 refine ⟨"tuple",_,PyProof.Rows.slot_tuple_getitem.lookup,ht.typeIs,?_⟩;refine HT.getItem_tuple_cut ht hs pl pu (by rw [hlen];exact hw) ?_ (by rw [hlen];exact hz);rw [hlen];refine ⟨.ref s.heap.objs.size,_,I.laid (t':=s.toks) (o:=.tup (cutV xs lo hi)) (fun b ob q=>get?_push_of_some _ q) (Nat.le_refl _) ?_,rfl,q _ (I.hok.fresh (Nat.le_refl _))⟩;exact ⟨Nat.le_trans (J2h xs lo hi) hz,_,(r.drop (HT.sIx xs.length 0 lo)).take (HT.sIx xs.length xs.length hi - HT.sIx xs.length 0 lo),TupX.new _ _⟩
def rCatT (K:Frag):R2:=fun x y H Q=>∃ a b xs ys,x=.ref a/\y=.ref b/\SqT K H a xs/\SqT K H b ys/\xs≠[]/\xs.length + ys.length<=sizeLine/\
 (ys=[]->Q (.ref a) H)/\(ys≠[]->∀ p,H p=none->Q (.ref p) (upd H p (.tup (xs ++ ys))))
theorem Vals.nil_iff {xs:List V} {us:List Value} (r:Vals xs us):us=[]↔xs=[]:=by
 cases r with
 | nil=>simp
 | cons _ _=>simp
theorem op_catT:OpR X (binaryOp .Add) (rCatT X.K):=by
 intro pins s σ H x y v u Q I rx ry h;obtain ⟨a,b,xs,ys,rfl,rfl,ha,hb,hx,hz,q1,q2⟩:=h;cases rx;cases ry;obtain ⟨its,r1,p1,_⟩:=I.tuple ha;obtain ⟨its2,r2,p2,_⟩:=I.tuple hb;refine HT.cat_tup p1 p2 (fun z=>hx (r1.nil_iff.mp z)) (fun z=>⟨.ref a,H,I,rfl,q1 (r2.nil_iff.mp z)⟩) (fun z=>?_) (by rw [<- r1.length,<- r2.length];exact hz);refine ⟨.ref s.heap.objs.size,_,I.laid (t':=s.toks) (o:=.tup (xs ++ ys)) (fun b ob q=>get?_push_of_some _ q) (Nat.le_refl _) ?_,rfl,q2 (fun w=>z (r2.nil_iff.mpr w)) _ (I.hok.fresh (Nat.le_refl _))⟩;exact ⟨by rw [length_append];exact hz,_,r1.append r2,TupX.new _ _⟩
end
end L2
namespace L2
open PySem PySem.Spec PyProof.Rows
def ixN (n:Nat) (i:Int):Option Nat:=if 0<=i then (if i < n then some i.toNat else none) else if -(n:Int)<=i then some (i + n).toNat else none
def atI {α:Type} (xs:List α) (i:Int):Option α:=(ixN xs.length i).bind fun j=>xs[j]?
theorem ixN_seq {n:Nat} {i:Int} {j:Nat} (h:ixN n i=some j):seqIndex? i n=some j/\j < n/\-(n:Int)<=i/\i < n:=by
 unfold ixN at h;by_cases h0:0<=i
 ·rw [if_pos h0] at h;by_cases h1:i < n
  ·rw [if_pos h1] at h;have e:i.toNat=j:=Option.some.inj h;exact ⟨by rw [seqIndex_of h0 h1,e],by omega,by omega,h1⟩
  ·rw [if_neg h1] at h;cases h
 ·rw [if_neg h0] at h;by_cases h1:-(n:Int)<=i
  ·rw [if_pos h1] at h;have e:(i + n).toNat=j:=Option.some.inj h;exact ⟨by rw [seqIndex_neg (by omega) h1,e],by omega,h1,by omega⟩
  ·rw [if_neg h1] at h;cases h
theorem atI_get {α:Type} {xs:List α} {i:Int} {v:α} (h:atI xs i=some v):∃ j,seqIndex? i xs.length=some j/\xs[j]?=some v/\j < xs.length/\-(xs.length:Int)<=i/\i < xs.length:=by
 unfold atI at h
 cases e:ixN xs.length i with
 | none=>rw [e] at h;cases h
 | some j =>
  rw [e] at h;obtain ⟨h1,h2,h3,h4⟩:=ixN_seq e;exact ⟨j,h1,h,h2,h3,h4⟩
theorem J1h {α:Type} {xs:List α} {j:Nat} {v:α} (h:xs[j]?=some v):atI xs (j:Int)=some v:=by
 have hj:j < xs.length:=(List.getElem?_eq_some_iff.mp h).1;have e:ixN xs.length (j:Int)=some j:=by
  unfold ixN;rw [if_pos (by omega),if_pos (by omega)];simp
 unfold atI;rw [e];exact h
def PlainIx (b:Expr):Prop:=∀ o i,subscripted b false o i=operate [o,i] (getItem o i)
def IxR (X:Cx) (r:R2):Prop :=
 ∀ (value slice:Expr) (pins:List (Addr × Obj)) (s:Shared) (σ:St) (H:Hp) (x y:V) (v u:Value) (Q:VK),Inv X pins σ H s->RelV x v->RelV y u->r x y H Q->
  subscripted slice false v u=operate [v,u] (getItem v u)->wpAny (model X.prog X.w) X.A (subscriptTail value slice v u) (EP X pins σ Q) X.xe s
def MtR (X:Cx) (id:String) (r:V->List V->Hp->VK->Prop):Prop :=
 ∀ (pins:List (Addr × Obj)) (s:Shared) (σ:St) (H:Hp) (x:V) (xs:List V) (v:Value) (us:List Value) (Q:VK),Inv X pins σ H s->RelV x v->Vals xs us->r x xs H Q->
  wpAny (model X.prog X.w) X.A (call (.builtin id) (v :: us)) (EP X pins σ Q) X.xe s
section
variable {X:Cx} {a b:Expr} {ta tb:TE} {pos:Pos}
theorem pe_ix {r:R2} (hr:IxR X r) (ha:PE X a ta) (hb:PE X b tb) (hs:PlainIx b):PE X (.Subscript a b pos) (tOp r ta tb):=by
 intro pins s σ H Q I h;exact Subscript_ (binT ha hb I h fun v u s2 x y H2 I2 rx ry q=>hr a b pins s2 σ H2 x y v u Q I2 rx ry q (hs _ _))
def rIxL (K:Frag):R2:=fun x y H Q=>∃ p xs i v,x=.ref p/\y=.int i/\SqL K H p xs/\atI xs i=some v/\Q v H
def rIxT (K:Frag):R2:=fun x y H Q=>∃ p xs i v,x=.ref p/\y=.int i/\SqT K H p xs/\atI xs i=some v/\Q v H
theorem J1y:IxR X (rIxL X.K):=by
 intro value slice pins s σ H x y v u Q I rx ry h hs;obtain ⟨p,xs,i,z,rfl,rfl,hq,he,q⟩:=h;cases rx;obtain ⟨t,rfl⟩:=ry;obtain ⟨its,r,pl,hz⟩:=I.list hq;obtain ⟨j,h1,h2,h3,h4,h5⟩:=atI_get he;obtain ⟨w,ew,rw'⟩:=r.get h2;have hl:=r.length;have hn:=J3o;have fin:EP X pins σ Q w s:=⟨z,H,I,rw',q⟩;by_cases h0:0<=i
 ·have hj:i.toNat=j:=by
   rw [seqIndex_of h0 h5] at h1;exact Option.some.inj h1
  exact item_listR pl.isList h0 (by omega) (by rw [hj];simpa using ew) fin hs
 ·have hj:(i + (its.toArray.size:Int)).toNat=j:=by
   rw [seqIndex_neg (by omega) h4] at h1;rw [size_toArray,<- hl];exact Option.some.inj h1
  exact subscriptTail_builtinR (x:=w) pl.isList.typeIs slot_list_getitem.lookup
   (wpAny_getItem_list_neg (Q:=fun r s'=>r=w/\EP X pins σ Q r s') pl.isList (by omega) (by rw [size_toArray] <;> omega) (by omega) (by rw [hj];simpa using ew) ⟨rfl,fin⟩) hs
theorem ix_tup:IxR X (rIxT X.K):=by
 intro value slice pins s σ H x y v u Q I rx ry h hs;obtain ⟨p,xs,i,z,rfl,rfl,hq,he,q⟩:=h;cases rx;obtain ⟨t,rfl⟩:=ry;obtain ⟨its,r,pl,hz⟩:=I.tuple hq;obtain ⟨j,h1,h2,h3,h4,h5⟩:=atI_get he;obtain ⟨w,ew,rw'⟩:=r.get h2;have hl:=r.length;have hn:=J3o;have fin:EP X pins σ Q w s:=⟨z,H,I,rw',q⟩;exact subscriptTail_builtinR (x:=w) pl.typeIs slot_tuple_getitem.lookup
  (getItem_tuple (j:=j) (Q:=fun r s'=>r=w/\EP X pins σ Q r s') pl (by omega) (by omega) (by rw [size_toArray,<- hl];exact h1) (by simpa using ew) ⟨rfl,fin⟩) hs
theorem mapSeq_set (its:List Value) (n j:Nat) (u:Value):Obj.mapSeq (·.setIfInBounds j u) { cls:=.type "list",data:=.seq its.toArray n }={ cls:=.type "list",data:=.seq (its.set j u).toArray n }:=by
 simp [Obj.mapSeq]
theorem Inv.lst {pins:List (Addr × Obj)} {σ:St} {H:Hp} {s:Shared} {p:Addr} {xs:List V} (I:Inv X pins σ H s) (h:H p=some (.lst xs)) :
  ∃ (its:List Value) (n:Nat),Vals xs its/\s.heap.get? p=some { cls:=.type "list",data:=.seq its.toArray n }/\xs.length<=sizeLine:=by
 obtain ⟨z,its,n,r,e⟩:=I.hok p _ h;exact ⟨its,n,r,e,z⟩
theorem Inv.lstUpd {pins:List (Addr × Obj)} {σ:St} {H:Hp} {s:Shared} {p:Addr} {xs ys:List V} {its its':List Value} {n n':Nat} {f:Obj->Obj} (I:Inv X pins σ H s) (h:H p=some (.lst xs))
  (ho:s.heap.get? p=some { cls:=.type "list",data:=.seq its.toArray n }) (hf:f { cls:=.type "list",data:=.seq its.toArray n }={ cls:=.type "list",data:=.seq its'.toArray n' }) (r:Vals ys its') (hz:ys.length<=sizeLine) (t:Nat) :
  Inv X pins σ (upd H p (.lst ys)) { s with heap:=s.heap.update p f,toks:=t }:=by
 have e:(s.heap.update p f).get? p=some { cls:=.type "list",data:=.seq its'.toArray n' }:=by
  rw [Heap.get?_update_self f ho (by rw [hf] <;> rfl),hf]
 refine I.write (x:=p) (e:=p) (by rw [h];trivial) (.inl rfl) (fun b u hb q=>(Heap.get?_update_other _ _ (Ne.symm hb)).trans q) ⟨_,e⟩ ?_;exact ⟨hz,its',n',r,e⟩
def rSetL:V->V->V->Hp->(Hp->Prop)->Prop:=fun o i v H Q=>∃ p xs k j,o=.ref p/\i=.int k/\H p=some (.lst xs)/\ixN xs.length k=some j/\Q (upd H p (.lst (xs.set j v)))
theorem set_list:PSet X rSetL:=by
 intro pins s σ H o i v ov iv u Q I ro ri rv h;obtain ⟨p,xs,k,j,rfl,rfl,hp,hj,q⟩:=h;cases ro;obtain ⟨t,rfl⟩:=ri;obtain ⟨its,n,r,ho,hz⟩:=I.lst hp;obtain ⟨h1,h2,h3,h4⟩:=ixN_seq hj;have hl:=r.length;have hn:=J3o;have I':Inv X pins σ (upd H p (.lst (xs.set j v))) { s with heap:=s.heap.update p (Obj.mapSeq (·.setIfInBounds j u)) } :=
  I.lstUpd hp ho (mapSeq_set its n j u) (r.set rv j) (by rw [List.length_set];exact hz) s.toks
 by_cases h0:0<=k
 ·have hk:k.toNat=j:=by
   rw [seqIndex_of h0 h4] at h1;exact Option.some.inj h1
  exact PySem.W.ki_setAt ho h0 (by omega) (by rw [size_toArray,<- hl];exact h4) (by rw [hk];exact ⟨_,I',q⟩)
 ·have hk:(k + (its.toArray.size:Int)).toNat=j:=by
   rw [seqIndex_neg (by omega) h3] at h1;rw [size_toArray,<- hl];exact Option.some.inj h1
  exact PySem.W.ki_setBack ho (by omega) (by rw [size_toArray,<- hl];exact h3) (by omega) (by rw [hk];exact ⟨_,I',q⟩)
theorem J3f (lo hi:Option Int) (n:Nat):(sliceBounds lo hi none n).1=((HT.sIx n 0 lo:Nat):Int)/\(sliceBounds lo hi none n).2.1=((HT.sIx n n hi:Nat):Int)/\(sliceBounds lo hi none n).2.2=1:=by
 refine ⟨?_,?_,rfl⟩
 ·cases lo with
  | none=>simp [sliceBounds,HT.sIx]
  | some i =>
   simp only [sliceBounds,HT.sIx,Option.getD_none,show (1:Int) > 0 by decide,if_true];by_cases h:i < 0
   ·simp only [h,if_true] <;> omega
   ·simp only [h,if_false] <;> omega
 ·cases hi with
  | none=>simp [sliceBounds,HT.sIx]
  | some i =>
   simp only [sliceBounds,HT.sIx,Option.getD_none,show (1:Int) > 0 by decide,if_true];by_cases h:i < 0
   ·simp only [h,if_true] <;> omega
   ·simp only [h,if_false] <;> omega
theorem J2x (its:List Value) (lo hi:Option Int):slicePick its.toArray lo hi none=((its.drop (HT.sIx its.length 0 lo)).take (HT.sIx its.length its.length hi - HT.sIx its.length 0 lo)).toArray:=by
 obtain ⟨h1,h2,h3⟩:=J3f lo hi its.toArray.size;unfold slicePick;rw [h1,h2,h3];simp only [sliceRange_one,pick_run,size_toArray] <;> rfl
def rSlL (K:Frag):V->Option Int->Option Int->Hp->VK->Prop:=fun x lo hi H Q=>∃ a xs,x=.ref a/\SqL K H a xs/\∀ p,H p=none->Q (.ref p) (upd H p (.lst (cutV xs lo hi)))
theorem sl_list:SlR X (rSlL X.K):=by
 intro pins s σ H x v vl vu lo hi sl Q I rx hs pl pu h;obtain ⟨a,xs,rfl,hx,q⟩:=h;cases rx;obtain ⟨its,r,ht,hz⟩:=I.list hx;have hlen:=r.length;refine ⟨"list",_,slot_list_getitem.lookup,ht.isList.typeIs,?_⟩;refine wpAny_getItem_list_slice ht.isList hs pl pu .none (by simp) ?_ (by rw [size_toArray] <;> omega);rw [J2x,<- hlen];refine ⟨.ref s.heap.objs.size,_,I.laid (t':=s.toks) (o:=.lst (cutV xs lo hi)) (fun b ob q=>get?_push_of_some _ q) (Nat.le_refl _) ?_,rfl,q _ (I.hok.fresh (Nat.le_refl _))⟩;exact ⟨Nat.le_trans (J2h xs lo hi) hz,_,0,(r.drop (HT.sIx xs.length 0 lo)).take (HT.sIx xs.length xs.length hi - HT.sIx xs.length 0 lo),get?_push_size _ rfl⟩
def flatV:V->Bool
 | .non=>true
 | .bl _=>true
 | .int _=>true
 | .str _=>true
 | _=>false
def eqV:V->V->Bool
 | .non,.non=>true
 | .bl a,.bl b=>a == b
 | .bl a,.int b=>(if a then 1 else 0) == b
 | .int a,.bl b=>a == (if b then 1 else 0)
 | .int a,.int b=>a == b
 | .str a,.str b=>a == b
 | _,_=>false
theorem eqAt_V {A:Around} {s:Shared} {y x:V} {u v:Value} (ry:RelV y u) (rx:RelV x v) (fy:flatV y=true) (fx:flatV x=true):SeqAt.EqAt A s u v (eqV y x):=by
 cases y with
 | non =>
  cases ry
  cases x with
  | non=>cases rx;exact SeqAt.EqAt.same _
  | bl b=>cases rx;exact SeqAt.EqAt.none_bool b
  | int b=>obtain ⟨t,rfl⟩:=rx;exact SeqAt.EqAt.none_int b t
  | str b=>obtain ⟨t,rfl⟩:=rx;exact SeqAt.EqAt.none_str b t
  | _=>exact absurd (show false=true from fx) Bool.false_ne_true
 | bl a =>
  cases ry
  cases x with
  | non=>cases rx;exact SeqAt.EqAt.bool_none a
  | bl b=>cases rx;exact SeqAt.EqAt.bool_bool a b
  | int b=>obtain ⟨t,rfl⟩:=rx;exact SeqAt.EqAt.bool_int a b t
  | str b=>obtain ⟨t,rfl⟩:=rx;exact SeqAt.EqAt.bool_str a b t
  | _=>exact absurd (show false=true from fx) Bool.false_ne_true
 | int a =>
  obtain ⟨t',rfl⟩:=ry
  cases x with
  | non=>cases rx;exact SeqAt.EqAt.int_none a t'
  | bl b=>cases rx;exact SeqAt.EqAt.int_bool a t' b
  | int b=>obtain ⟨t,rfl⟩:=rx;exact SeqAt.EqAt.int_int a t' b t
  | str b=>obtain ⟨t,rfl⟩:=rx;exact SeqAt.EqAt.int_str a t' b t
  | _=>exact absurd (show false=true from fx) Bool.false_ne_true
 | str a =>
  obtain ⟨t',rfl⟩:=ry
  cases x with
  | non=>cases rx;exact SeqAt.EqAt.str_none a t'
  | bl b=>cases rx;exact SeqAt.EqAt.str_bool a t' b
  | int b=>obtain ⟨t,rfl⟩:=rx;exact SeqAt.EqAt.str_int a t' b t
  | str b=>obtain ⟨t,rfl⟩:=rx;exact SeqAt.EqAt.str_str a t' b t
  | _=>exact absurd (show false=true from fx) Bool.false_ne_true
 | _=>exact absurd (show false=true from fy) Bool.false_ne_true
theorem J4:CallR X (.builtin "len") (fun xs H Q=>∃ p ys,xs=[.ref p]/\(SqL X.K H p ys\/SqT X.K H p ys)/\Q (.int ys.length) H):=by
 intro pins s σ H xs us Q I r h;obtain ⟨p,ys,rfl,hq,q⟩:=h;obtain ⟨u,rfl,rx⟩:=vals1 r;cases rx;have hn:=J3o;rcases hq with hq | hq
 ·obtain ⟨its,r',pl,hz⟩:=I.list hq;have hlen:=r'.length;exact Calls.call_len_list pl.isList (by simp only [size_toArray] <;> omega) ⟨.int ys.length,H,I.tok _,⟨s.toks + 1,by rw [size_toArray,hlen]⟩,q⟩
 ·obtain ⟨its,r',pl,hz⟩:=I.tuple hq;have hlen:=r'.length;exact len_tuple pl (by simp only [size_toArray] <;> omega) ⟨.int ys.length,H,I.tok _,⟨s.toks + 1,by rw [size_toArray,hlen]⟩,q⟩
theorem J15:CallR X (.type "list") (fun xs H Q=>∃ p ys,xs=[.ref p]/\(SqL X.K H p ys\/SqT X.K H p ys)/\∀ l,H l=none->Q (.ref l) (upd H l (.lst ys))):=by
 intro pins s σ H xs us Q I r h;obtain ⟨p,ys,rfl,hq,q⟩:=h;obtain ⟨u,rfl,rx⟩:=vals1 r;cases rx;have fin:∀ (its:List Value),Vals ys its->ys.length<=sizeLine->∀ (h':Heap) (c':Nat),(∀ b o',s.heap.get? b=some o'->h'.get? b=some o')->
   h'.get? s.heap.objs.size=some { cls:=.type "list",dict:=none,data:=.seq its.toArray c',slots:=#[] }->EP X pins σ Q (.ref s.heap.objs.size) { s with heap:=h' }:=fun its r' hz h' c' kp e =>
  ⟨.ref s.heap.objs.size,_,I.laid (t':=s.toks) kp (Nat.le_refl _) (show ObjOk X.prog X.w _ h' _ (.lst ys) from ⟨hz,its,c',r',e⟩),rfl,q _ (I.hok.fresh (Nat.le_refl _))⟩
 rcases hq with hq | hq
 ·obtain ⟨its,r',pl,hz⟩:=I.list hq;have hlen:=r'.length;obtain ⟨o,ho,hc,n,hd⟩:=pl.isList;exact call_list_seq p (.inl rfl) ho hc hd (fun h' c' kp e=>fin its r' hz h' c' kp e) (by simp only [size_toArray] <;> omega)
 ·obtain ⟨its,r',pl,hz⟩:=I.tuple hq;have hlen:=r'.length;obtain ⟨o,ho,hc,n,hd⟩:=pl;exact call_list_seq p (.inr rfl) ho hc hd (fun h' c' kp e=>fin its r' hz h' c' kp e) (by simp only [size_toArray] <;> omega)
theorem J3d:CallR X (.type "tuple") (fun xs H Q=>∃ p ys,xs=[.ref p]/\((SqL X.K H p ys/\∀ l,H l=none->Q (.ref l) (upd H l (.tup ys)))\/(SqT X.K H p ys/\Q (.ref p) H))):=by
 intro pins s σ H xs us Q I r h;obtain ⟨p,ys,rfl,h⟩:=h;obtain ⟨u,rfl,rx⟩:=vals1 r;cases rx;rcases h with ⟨hq,q⟩ | ⟨hq,q⟩
 ·obtain ⟨its,r',pl,hz⟩:=I.list hq;have hlen:=r'.length;refine call_tuple_list pl.isList (fun h' kp=>?_) (by simp only [size_toArray] <;> omega);have I1:Inv X pins σ H { s with heap:=h' }:=I.kept (t':=s.toks) kp;have I2:Inv X pins σ (upd H h'.objs.size (.tup ys)) { s with heap:=h'.push { cls:=.type "tuple",data:=.seq its.toArray } } :=
   I1.laid (t':=s.toks) (fun b o e=>get?_push_of_some _ e) (Nat.le_refl _) (show ObjOk X.prog X.w _ _ _ (.tup ys) from ⟨hz,its,r',TupX.new _ _⟩)
  exact ⟨.ref h'.objs.size,_,I2,rfl,q _ (I1.hok.fresh (Nat.le_refl _))⟩
 ·obtain ⟨its,r',pl,hz⟩:=I.tuple hq;exact call_tuple_same pl ⟨.ref p,H,I,rfl,q⟩
def tyV (K:Frag) (T:String) (x:V) (H:Hp):Prop:=match x with
 | .str _=>T="str"
 | .int _=>T="int"
 | .ref p=>(T="list"/\∃ xs,SqL K H p xs)\/(T="tuple"/\∃ o,K.lookup p=some o/\o.cls=.type "tuple"/\o.dict=none)\/
   (T="dict"/\((∃ kvs,H p=some (.dK kvs))\/∃ kvs,H p=some (.dT kvs)))\/(T="set"/\∃ S n,H p=some (.set S n))
 | _=>False
theorem tyV_is {pins:List (Addr × Obj)} {σ:St} {H:Hp} {s:Shared} {T:String} {x:V} {v:Value} (I:Inv X pins σ H s) (r:RelV x v) (ty:tyV X.K T x H) :
  s.TypeIs v T/\∀ a,v=.ref a->∃ ob,s.heap.get? a=some ob/\ob.dict=none:=by
 cases x with
 | str z =>
  obtain ⟨t,rfl⟩:=r;cases (show T="str" from ty);exact ⟨typeIs_str s z t,fun _ e=>nomatch e⟩
 | int i =>
  obtain ⟨t,rfl⟩:=r;cases (show T="int" from ty);exact ⟨typeIs_int s i t,fun _ e=>nomatch e⟩
 | ref p =>
  cases r;rcases ty with ⟨rfl,xs,hq⟩ | ⟨rfl,o,hk,hc,hd⟩ | ⟨rfl,hk⟩ | ⟨rfl,S,n,hk⟩
  ·obtain ⟨its,_,pl,_⟩:=I.list hq;refine ⟨pl.isList.typeIs,fun a e=>?_⟩;cases e;obtain ⟨o,n,e,c,hd,_⟩:=pl;exact ⟨o,e,hd⟩
  ·refine ⟨⟨o,I.kIn p o hk,hc⟩,fun a e=>?_⟩;cases e;exact ⟨o,I.kIn _ o hk,hd⟩
  ·have z:∃ o,s.heap.get? p=some o/\o.ExactDict:=by
    rcases hk with ⟨kvs,hk⟩ | ⟨kvs,hk⟩
    ·obtain ⟨_,_,_,_,o,_,_,e,ex,_⟩:=I.hok p _ hk;exact ⟨o,e,ex⟩
    ·obtain ⟨_,_,_,_,o,_,_,e,ex,_⟩:=I.hok p _ hk;exact ⟨o,e,ex⟩
   obtain ⟨o,e,ex⟩:=z;refine ⟨⟨o,e,ex.1⟩,fun a e2=>?_⟩;cases e2;exact ⟨o,e,ex.2.1⟩
  ·obtain ⟨o,_,_,_,e,ex,_⟩:=I.hok p _ hk;refine ⟨⟨o,e,ex.1⟩,fun a e2=>?_⟩;cases e2;exact ⟨o,e,ex.2.1⟩
 | _=>exact False.elim ty
def tBM0 (K:Frag) (T:String) (r:V->List V->Hp->VK->Prop) (to:TE):TE:=fun σ H Q=>to σ H fun x H1=>tyV K T x H1/\r x [] H1 Q
def tBM (K:Frag) (T:String) (r:V->List V->Hp->VK->Prop) (to:TE) (t:TA):TE:=fun σ H Q=>to σ H fun x H1=>tyV K T x H1/\t σ H1 fun xs H2=>r x xs H2 Q
variable {o e:Expr} {es:List Expr} {to:TE} {t:TA} {name:Str} {apos cpos:Pos} {T id:String} {r:V->List V->Hp->VK->Prop}
theorem pe_bm0 (pa:PlainAttrs T) (slot:Slot T name id) (hty:typeOf (.builtin id)=pure (.type "method_descriptor")) (hm:MtR X id r) (ho:PE X o to)
  (hbase:attributeBase o name X.env (eval o X.env)=eval o X.env:=by rfl) (hline:(apos.endLine == cpos.line)=true:=by rfl):PE X (.Call (.Attribute o name apos) [] [] cpos) (tBM0 X.K T r to):=by
 intro pins s σ H Q I h;refine wpAny_Call_method0_late hbase hline (thn (ho pins s σ H _ I h) fun v s1 h9=>?_);obtain ⟨x,H1,I1,r1,ty,q1⟩:=h9;obtain ⟨h1,h2⟩:=tyV_is I1 r1 ty;exact ⟨T,id,pa,slot,hty,h1,h2,Calls.callWith_builtin rfl (PySem.evalArgs_none (hm pins s1 σ H1 x [] v [] Q I1 r1 .nil q1))⟩
theorem pe_bm (pa:PlainAttrs T) (slot:Slot T name id) (hty:typeOf (.builtin id)=pure (.type "method_descriptor")) (hm:MtR X id r) (ho:PE X o to) (ha:PA X (e :: es) t)
  (hbase:attributeBase o name X.env (eval o X.env)=eval o X.env:=by rfl)
  (hfew:((backTo cpos (starEach (e :: es) X.env)).all (fun x=>!x.1) && (backToKw cpos (keywordEach [] X.env)).all (fun x=>x.1.isSome)
   && decide ((e :: es).length + ([]:List Keyword).length + (if ([]:List Keyword).isEmpty then 0 else 1) < 30))=true:=by rfl)
  (hline:(apos.endLine == cpos.line)=true:=by rfl) (hs:starEach (e :: es) X.env=(false,eval e X.env) :: starEach es X.env:=by rfl) (hplain:(backTo cpos (starEach es X.env)).any (·.1)=false:=by rfl) :
  PE X (.Call (.Attribute o name apos) (e :: es) [] cpos) (tBM X.K T r to t):=by
 intro pins s σ H Q I h;refine wpAny_Call_method_late hbase hfew hline rfl (thn (ho pins s σ H _ I h) fun v s1 h9=>?_);obtain ⟨x,H1,I1,r1,ty,q1⟩:=h9;obtain ⟨h1,h2⟩:=tyV_is I1 r1 ty;refine ⟨T,id,pa,slot,hty,h1,h2,?_⟩;have hA:=ha cpos pins s1 σ H1 _ I1 q1;rw [hs] at hA ⊢;refine Calls.callWith_builtin (by show (false || (backTo cpos (starEach es X.env)).any (·.1))=false;rw [hplain] <;> rfl) (Calls.evalArgs_plain ?_);exact thn hA fun us s2 h9=>by obtain ⟨vs,H2,I2,r2,q2⟩:=h9;exact hm pins s2 σ H2 x vs v us Q I2 r1 r2 q2
end
end L2
namespace L2
open PySem PySem.Spec PyProof.Rows
def MtM (X:Cx) (id:String) (r:V->List V->Hp->VK->Prop):Prop :=
 ∀ (pins:List (Addr × Obj)) (s:Shared) (σ:St) (H:Hp) (x:V) (xs:List V) (v:Value) (us:List Value) (Q:VK),Inv X pins σ H s->RelV x v->Vals xs us->r x xs H Q->
  wpAny (model X.prog X.w) X.A (call (.builtin id) (v :: us)) (EP X pins σ Q) X.xe s
theorem Vals.one:∀ {x:V} {us:List Value},Vals [x] us->∃ u,us=[u]/\RelV x u:=fun r=>vals1 r
theorem Vals.two:∀ {x y:V} {us:List Value},Vals [x,y] us->∃ u v,us=[u,v]/\RelV x u/\RelV y v:=fun r=>vals2 r
theorem Vals.zero:∀ {us:List Value},Vals [] us->us=[]
 | _,.nil=>rfl
theorem Vals.dropLast {xs:List V} {us:List Value} (h:Vals xs us):Vals xs.dropLast us.dropLast:=by
 induction h with
 | nil=>exact .nil
 | cons r t ih =>
  cases t with
  | nil=>exact .nil
  | cons q t'=>exact .cons r ih
theorem erase_last {α:Type} (l:List α):l.eraseIdx (l.length - 1)=l.dropLast:=by
 induction l with
 | nil=>rfl
 | cons a r ih =>
  cases r with
  | nil=>rfl
  | cons b r =>
   have e:(a :: b :: r).length - 1=((b :: r).length - 1) + 1:=by
    have h1:(a :: b :: r).length=r.length + 2:=rfl;have h2:(b :: r).length=r.length + 1:=rfl;omega
   rw [e,List.eraseIdx_cons_succ,ih]
   all_goals rfl
section
variable {X:Cx} {pins:List (Addr × Obj)} {σ:St} {H:Hp} {s:Shared} {l b:Addr} {xs ys zs:List V}
theorem Inv.lset {its its':List Value} {n:Nat} {f:Array Value->Array Value} {t':Nat} (I:Inv X pins σ H s) (hH:H l=some (.lst xs))
  (e:s.heap.get? l=some { cls:=.type "list",data:=.seq its.toArray n }) (hf:f its.toArray=its'.toArray) (hv:Vals ys its') (hz:ys.length<=sizeLine) :
  Inv X pins σ (upd H l (.lst ys)) { s with heap:=s.heap.update l (Obj.mapSeq f),toks:=t' }:=by
 have q:=PySem.IsL.update e f;rw [hf] at q;refine I.write (x:=l) (e:=l) (by rw [hH];exact trivial) (.inl rfl) (fun b' u hb hu=>(Heap.get?_update_other s.heap (Obj.mapSeq f) (Ne.symm hb)).trans hu) ⟨_,q⟩ ?_;exact ⟨hz,its',_,hv,q⟩
theorem Inv.lnew {its:List Value} {t':Nat} (I:Inv X pins σ H s) (hv:Vals ys its) (hz:ys.length<=sizeLine) :
  Inv X pins σ (upd H s.heap.objs.size (.lst ys)) { s with heap:=s.heap.push { cls:=.type "list",data:=.seq its.toArray },toks:=t' } :=
 I.laid (fun _ _ q=>get?_push_of_some _ q) (Nat.le_refl _) ⟨hz,its,0,hv,get?_push_size _ rfl⟩
theorem Inv.fresh (I:Inv X pins σ H s):H s.heap.objs.size=none:=I.hok.fresh (Nat.le_refl _)
theorem Inv.lstM (I:Inv X pins σ H s) (hH:H l=some (.lst xs)):xs.length<=sizeLine/\∃ (its:List Value) (n:Nat),Vals xs its/\xs.length=its.length/\s.heap.get? l=some { cls:=.type "list",data:=.seq its.toArray n }:=by
 obtain ⟨z,its,n,r,e⟩:=I.hok l _ hH;exact ⟨z,its,n,r,r.length,e⟩
end
section
variable {X:Cx}
def rAppend:V->List V->Hp->VK->Prop:=fun x vs H Q=>∃ l xs y,x=.ref l/\vs=[y]/\H l=some (.lst xs)/\xs.length < sizeLine/\Q .non (upd H l (.lst (xs ++ [y])))
theorem J2o:MtM X "list.append" rAppend:=by
 intro pins s σ H x vs v us Q I rx rv h;obtain ⟨l,xs,y,rfl,rfl,hH,hz,q⟩:=h;cases rx;obtain ⟨u,rfl,ru⟩:=rv.one;obtain ⟨z,its,n,r,hl,e⟩:=I.lstM hH;refine call_meets F.slot_list_append ⟨_,e,rfl⟩ F.entry_list_append (F.args_list_append_2 _ _) (PySem.list_append l its.toArray n u (by rw [size_toArray];omega)) ⟨e,?_⟩;refine ⟨.non,_,I.lset (its':=its ++ [u]) hH e (by simp) (r.append (.cons ru .nil)) ?_,rfl,q⟩;rw [length_append,List.length_singleton];omega
def rPop:V->List V->Hp->VK->Prop:=fun x vs H Q=>∃ l xs y,x=.ref l/\vs=[]/\H l=some (.lst xs)/\xs[xs.length - 1]?=some y/\Q y (upd H l (.lst xs.dropLast))
theorem mt_pop:MtM X "list.pop" rPop:=by
 intro pins s σ H x vs v us Q I rx rv h;obtain ⟨l,xs,y,rfl,rfl,hH,hy,q⟩:=h;cases rx;have hus:=rv.zero;subst hus;obtain ⟨z,its,n,r,hl,e⟩:=I.lstM hH;obtain ⟨u,hu,ru⟩:=r.get hy;have hy':its.toArray[its.toArray.size - 1]?=some u:=by
  show its.toArray[its.length - 1]?=some u;rw [<- getElem?_toList,<- hl];exact hu
 refine call_meets F.slot_list_pop ⟨_,e,rfl⟩ F.entry_list_pop (F.args_list_pop_1 _) (MeetsSeq.list_pop_last l its.toArray n u hy' (by rw [size_toArray];omega)) ⟨e,?_⟩;refine ⟨y,_,I.lset (its':=its.dropLast) hH e ?_ r.dropLast ?_,ru,q⟩
 ·show its.toArray.eraseIdxIfInBounds (its.toArray.size - 1)=its.dropLast.toArray;rw [size_toArray,List.eraseIdxIfInBounds_toArray,erase_last]
 ·rw [List.length_dropLast];omega
def rCat:R2:=fun x y H Q=>∃ l b xs zs,x=.ref l/\y=.ref b/\H l=some (.lst xs)/\H b=some (.lst zs)/\xs.length + zs.length<=sizeLine/\∀ p,H p=none->Q (.ref p) (upd H p (.lst (xs ++ zs)))
theorem op_cat:OpR X (binaryOp .Add) rCat:=by
 intro pins s σ H x y v u Q I rx ry h;obtain ⟨l,b,xs,zs,rfl,rfl,hH,hB,hz,q⟩:=h;cases rx;cases ry;obtain ⟨z,its,n,r,hl,e⟩:=I.lstM hH;obtain ⟨z2,its2,n2,r2,hl2,e2⟩:=I.lstM hB;refine PySem.P.add_list e e2 ?_ (by rw [size_toArray,size_toArray];omega);have ea:its.toArray ++ its2.toArray=(its ++ its2).toArray:=by simp
 rw [ea];exact ⟨.ref _,_,I.lnew (t':=s.toks) (r.append r2) (by rw [length_append];omega),rfl,q _ I.fresh⟩
end
section
variable {prog:Program} {w:World} {A:Around} {E:Value->Shared->Prop} {s:Shared}
set_option maxRecDepth 100000 in
end
end L2
namespace Att
open PySem PySem.W PySem.Calls PyProof.Rows
theorem J25 {P:Params} {h:Heap}:∀ (ns:List Int) (vs:List Value),WellAll P h vs (ns.map WData.int)->IntsAre vs ns:=by
 intro ns
 induction ns with
 | nil =>
  intro vs w;rw [map_nil] at w;cases w;exact .nil
 | cons n ns ih =>
  intro vs w;rw [map_cons] at w
  cases w with
  | cons a b =>
   cases a;exact .cons _ _ (ih _ b)
theorem script_of {l:OpenLaw} {n:Nat} (hn:l.most=some n) {P:Params} {h:Heap} {args:List WData} {vals:List Value}
  (hpre:l.row.toRowW.claim.pre args=true) (hwl:WellAll P h vals args) :
  ∃ a vs ns,vals=[Value.ref a]/\args=[WData.list (ns.map WData.int)]/\h.get? a=some { cls:=.type "list",data:=.seq vs.toArray }/\IntsAre vs ns/\ns.length<=n:=by
 have hsh:WShape.hasAll [] args [.list .int]=true:=(pre_splitW hpre).1;have hc:l.pre.holds [] { args:=args }=true:=(pre_splitW hpre).2;obtain ⟨d,r,rfl,h1,h2⟩:=hasAllW_cons hsh;obtain rfl:=hasAllW_nil h2;obtain ⟨xs,rfl,h3⟩:=hasW_list h1;obtain ⟨ns,rfl⟩:=items_int h3;have hlen:ns.length<=n:=by
  unfold OpenLaw.pre at hc;have h4:(WTm.not (.lt (.lit (.int (n:Int))) (.len (.arg 0)))).holds [] { args:=[.list (ns.map .int)] }=true:=by
   have h4:=(holds_andW hc).1;rw [hn] at h4;exact h4
  have h5:=condW_of h4 (w_not (w_lt w_lit (w_len_list (w_arg rfl))));rw [length_map] at h5;refine Nat.le_of_not_lt fun q=>?_;have q':(n:Int) < ((ns.length:Nat):Int):=by omega
  first
   | (rw [decide_eq_true q'] at h5;exact absurd h5 (by decide))
   | (simp at h5;omega)
 cases hwl with
 | cons w1 w2 =>
  cases w2
  cases w1 with
  | list ho hall=>exact ⟨_,_,ns,rfl,rfl,ho,J25 ns _ hall,hlen⟩
theorem post_true (l:OpenLaw) (args:List WData):l.row.toRowW.claim.post args (.bool true) args=true :=
 postW_of (r:=l.row.toRowW) (X:=(true == true))
  (show WShape.has [] (.bool true) .bool=true by first | rfl | decide | simp [WShape.has,WShape.arms,WShape.armsAll])
  (show (WTm.eq .res (.lit (.bool true))).value [] { args:=args,res:=some (.bool true),after:=args }=some (.bool (true == true)) from w_eq_bool (w_res rfl) w_lit) rfl
theorem attach_call {l:OpenLaw} {n:Nat} {q:Program} {loose:List Str} {XP:(Str->Option Value)->Heap->Prop} {YP:World->Heap->Prop} {d:DefRec}
  (hn:l.most=some n) (hdf:d.params.defaults=[])
  (call:∀ (w:World) (s₀ s₁:Shared) (mg mb:Str->Option Value) (fa:Addr) (o:Obj) (pm cd doc:Value) (a:Addr) (vs:List Value) (ns:List Int),
   Ground q loose [] XP w s₀ mg mb s₁.heap->YP w s₁.heap->
   s₁.heap.get? fa=some o->o.data=.func (docDef d.name d.params d.body d.scope pm cd doc)->s₁.heap.CodeRec cd d.name->mg d.name=some (.ref fa)->
   s₁.heap.get? a=some { cls:=.type "list",data:=.seq vs.toArray }->IntsAre vs ns->ns.length<=n->s₁.gens=#[]->
   codeAny (model l.prog w) callerA (.call (.ref fa) ⟨[.ref a],[]⟩) (fun r s'=>r=.ok (.ret (.bool true))/\OldK s₁.heap s'.heap/\s'.os=s₁.os/\AllBare s'.gens) s₁) :
  WalkO q loose XP YP l.row.toRowW d [] (fun f vs=>PySem.call f vs):=by
 intro w s₀ s₁ mg mb G Y fa o pm cd doc dV kV ho hd hcd hD hmg hg args vals as hpre hlay hrd hwl hlo;obtain rfl:dV=.none:=Dflts.none hD hdf;obtain rfl:kV=.none:=Dflts.noKw hD;obtain ⟨a,vs,ns,rfl,rfl,hobj,hints,hlen⟩:=script_of hn hpre hwl;refine enter_call (codeAny_mono (call w s₀ s₁ mg mb fa o pm cd doc a vs ns G Y ho (fd_plain hd) hcd hmg hobj hints hlen hg) fun r s' hq=>?_);obtain ⟨rfl,h2,h3,h4⟩:=hq;exact ⟨.inl ⟨.bool true,.bool true,[],rfl,fun _=>rfl,.bool true,post_true l _,fun _=>⟨List.Pairwise.nil,fun _ hm=>(nomatch hm)⟩⟩,h2,h3,h4⟩
end Att
namespace L2
open PySem PySem.Spec PyProof.Rows
theorem J2k:∀ {vs:List Value} {ns:List Int},IntsAre vs ns->Vals (ns.map V.int) vs
 | _,_,.nil=>.nil
 | _,_,.cons n t h=>.cons ⟨t,rfl⟩ (J2k h)
def Only (H:Hp):Prop:=∀ b,H b=none\/∃ o xs,H b=some (.frz o (.lst xs))
theorem law_call {P:Program} {w:World} {K:Frag} {mg mb:Str->Option Value} {CX:CXT} {k:Nat} {fa a:Addr} {fd:FuncData} {x:Str} {sp:Sp} {s₁:Shared} {vs:List Value} {ns:List Int}
  (KX:K.In s₁.heap) (hns:s₁.heap.Ns mainGlobals mg) (hb:s₁.heap.Ns builtinsNs mb) (hbb:∀ x:Str,x≠"__name__"->mb x=bootBuiltins x) (hlim:s₁.heap.NoLimit) (hg:s₁.gens=#[])
  (ha:s₁.heap.get? a=some { cls:=.type "list",data:=.seq vs.toArray }) (hi:IntsAre vs ns) (hl:ns.length<=sizeLine) (hr:Room k callerA)
  (F:∀ base:Heap,K.In base->base.Ns mainGlobals mg->FnOk P w K mg base CX k fa fd [x] sp) (hbind:∀ (s:Shared) (u:Value),BindsTo s fd ⟨[u],[]⟩ [(x,u)])
  (hsp:∀ H:Hp,Only H->SqL K H a (ns.map V.int)->sp [.ref a] H (fun v _=>v=.bl true) fun _ _ _=>False)
  (hCX:∀ H e s',CX [] H s₁ (fun _ _ _=>False) e s'->False) :
  codeAny (model P w) callerA (.call (.ref fa) ⟨[.ref a],[]⟩) (fun r s'=>r=.ok (.ret (.bool true))/\OldK s₁.heap s'.heap/\s'.os=s₁.os/\AllBare s'.gens) s₁:=by
 have rv:=J2k hi;have lenV:=hi.length;have core:∀ H:Hp,Only H->SqL K H a (ns.map V.int)->HOk P w H s₁.heap->(∀ b,H b≠none->b=a)->(H a≠none->K.lookup a=none)->
   codeAny (model P w) callerA (.call (.ref fa) ⟨[.ref a],[]⟩) (fun r s'=>r=.ok (.ret (.bool true))/\OldK s₁.heap s'.heap/\s'.os=s₁.os/\AllBare s'.gens) s₁:=by
  intro H hO hS hok hA hK;have base_of:∀ {b:Addr} {o:Obj},s₁.heap.get? b=some o->H b=none->(hidT s₁.heap H).get? b=some o:=fun e n=>hidT_get e n;have noA:∀ {b:Addr} {o:Obj} {es:Array DictEntry} {ep:Nat},s₁.heap.get? b=some o->o.data=.dict es ep->H b=none:=fun {b o es ep} e d=>by
   cases q:H b with
   | none=>rfl
   | some u =>
    have e':b=a:=hA b (by rw [q];simp);subst e';rw [ha] at e;cases e;have d':Data.seq vs.toArray _=Data.dict es ep:=d;cases d'
  have nsK:∀ {b:Addr} {m:Str->Option Value},s₁.heap.Ns b m->(hidT s₁.heap H).Ns b m:=fun {b m} h9=>by obtain ⟨o,es,ep,e,d,r⟩:=h9;exact ⟨o,es,ep,base_of e (noA e d),d,r⟩
  have hKb:K.In (hidT s₁.heap H):=fun b o e=>base_of (KX b o e) (by
   cases q:H b with
   | none=>rfl
   | some u =>
    have e':b=a:=hA b (by rw [q];simp);subst e';rw [hK (by rw [q];simp)] at e;cases e)
  have hM:Mod K mg (hidT s₁.heap H):=⟨hKb,nsK hns,⟨mb,nsK hb,hbb⟩,by obtain ⟨mc,h1,h2⟩:=hlim;exact ⟨mc,nsK h1,h2⟩⟩;have e0:Env0 P w K mg (hidT s₁.heap H) callerA [] s₁ H:=⟨rfl,hM,fun b o e=>of_hidT e,Nat.le_of_eq (hidT_size _ _),trivial,fun b hb=>absurd (show b∈([]:List Addr) from hb) (by simp),hok,.of_eq hg⟩;refine codeAny_mono ((F _ hKb (nsK hns)).run callerA [] s₁ H ⟨[.ref a],[]⟩ [.ref a] [.ref a] _ _ hr e0 (hbind s₁ (.ref a)) (.cons rfl .nil) (hsp H hO hS)) fun r s' h=>?_
  cases r with
  | error e=>exact (hCX H e s' h).elim
  | ok fl =>
   cases fl with
   | next=>exact False.elim h
   | brk=>exact False.elim h
   | cont=>exact False.elim h
   | ret u =>
    obtain ⟨v,H',os,bare,un,hok',r',q⟩:=h;have q':v=.bl true:=q;subst q';obtain rfl:u=Value.bool true:=r';refine ⟨rfl,OldK.of_keep fun b o e=>?_,os,bare⟩
    cases q:H b with
    | none=>exact un.keep b o e q (by intro z;exact absurd (show b∈([]:List Addr) from z) (by simp)) (by simp)
    | some u =>
     rcases hO b with z | ⟨ob,xs,z⟩
     ·rw [q] at z;cases z
     ·have z2:=un.frzs b ob _ z;obtain ⟨e1,_⟩:=hok b _ z;obtain ⟨e2,_⟩:=hok' b _ z2;rw [e] at e1;cases e1;exact e2
 cases hk:K.lookup a with
 | some o =>
  have e:=KX a o hk;rw [ha] at e;cases e;refine core (fun _=>none) (fun _=>.inl rfl) (.inr ⟨_,vs.toArray,_,hk,rfl,rfl,rfl,by rw [size_toArray,lenV];exact hl,by simpa using rv⟩) (fun b u z=>by have z':(none:Option HO)=some u:=z;cases z') (fun b z=>absurd rfl z) fun z=>absurd rfl z
 | none =>
  refine core (fun b=>if b=a then some (.frz { cls:=.type "list",data:=.seq vs.toArray } (.lst (ns.map V.int))) else none) (fun b=>?_) (.inl (.inr ⟨{ cls:=.type "list",data:=.seq vs.toArray },if_pos rfl⟩)) (fun b u z=>?_) (fun b z=>?_) fun _=>hk
  ·by_cases hb:b=a
   ·exact .inr ⟨_,_,if_pos hb⟩
   ·exact .inl (if_neg hb)
  ·by_cases hb:b=a
   ·have z':=(if_pos hb).symm.trans z;cases z';subst hb;exact ⟨ha,by rw [length_map];exact hl,vs,_,rv,ha⟩
   ·have z':=(if_neg hb).symm.trans z;cases z'
  ·by_cases hb:b=a
   ·exact hb
   ·exact absurd (if_neg hb) z
end L2
namespace L2
open PySem PySem.Spec PyProof.Rows
theorem walk_of {l:PySem.W.OpenLaw} {n k:Nat} {q:Program} {loose:List Str} {XP:(Str->Option Value)->Heap->Prop} {YP:World->Heap->Prop} {d:DefRec} {K:Params->Frag} {CX:World->CXT} {sp:World->Sp} {x:Str}
  (hn:l.most=some n) (hn2:n<=sizeLine) (hdf:d.params.defaults=[]) (hr:Room k callerA)
  (hY:∀ (w:World) (h:Heap),YP w h->(K w.params).In h)
  (F:∀ (w:World) (mg:Str->Option Value) (fa:Addr) (h:Heap),(K w.params).In h->h.Ns mainGlobals mg->mg d.name=some (.ref fa)->
   ∃ fd:FuncData,(∀ (s:Shared) (u:Value),BindsTo s fd ⟨[u],[]⟩ [(x,u)])/\
    ∀ base:Heap,(K w.params).In base->base.Ns mainGlobals mg->FnOk l.prog w (K w.params) mg base (CX w) k fa fd [x] (sp w))
  (hsp:∀ (w:World) (H:Hp) (a:Addr) (ns:List Int),ns.length<=n->Only H->SqL (K w.params) H a (ns.map V.int)->sp w [.ref a] H (fun v _=>v=.bl true) fun _ _ _=>False)
  (hCX:∀ (w:World) (H:Hp) (s:Shared) (e:Value) (s':Shared),CX w [] H s (fun _ _ _=>False) e s'->False) :
  PySem.W.WalkO q loose XP YP l.row.toRowW d [] (fun f vs=>PySem.call f vs):=by
 refine Att.attach_call hn hdf fun w s₀ s₁ mg mb fa o pm cd doc a vs ns G Y ho hd hcd hmg hobj hints hlen hg=>?_;have KX:=hY w _ Y;obtain ⟨fd,hb,hF⟩:=F w mg fa _ KX G.T.g hmg;exact law_call KX G.T.g G.T.b G.T.builtins G.T.nolimit hg hobj hints (Nat.le_trans hlen hn2) hr hF hb (fun H hO hS=>hsp w H a ns hlen hO hS) fun H e s'=>hCX w H s₁ e s'
end L2
namespace L2
open PySem PySem.Spec PyProof.Rows
def J21 (s:Stmt):Arguments:=match s with
 | .FunctionDef _ a _ _ _ _ _ _ _ _=>a
 | _=>{ posonlyargs:=[],args:=[],vararg:=none,kwonlyargs:=[],kw_defaults:=[],kwarg:=none,defaults:=[] }
def J1a (s:Stmt):List Stmt:=match s with
 | .FunctionDef _ _ b _ _ _ _ _ _ _=>b
 | _=>[]
def J9 (s:Stmt):Scope:=match s with
 | .FunctionDef _ _ _ _ _ _ sc _ _ _=>sc
 | _=>{ kind:=.function,names:=[],isGenerator:=false,isCoroutine:=false }
abbrev CX0:CXT:=fun _ _ _ _ _ _=>False
abbrev E0:XK:=fun _ _ _=>False
theorem pass0 {X:Cx}:Passes CX0 X E0:=fun _ _ _ _ _ _ _ h=>h.elim
structure Fun (K:Frag) (x qual:Str) (st:Stmt) (f:Addr) (fd:FuncData):Prop where
 ex:∃ (oc:Value) (od:Option Addr) (kV doc pm:Value) (an:Option Addr) (cdv ct:Value) (osl:Array (Option Value)),
  fd=fnOf x qual (J21 st) (J1a st) (J9 st) .none kV doc pm an cdv ct/\K.lookup f=some ⟨oc,od,.func fd,osl⟩/\codeIn K cdv qual=true
 kp:keepIn K (.ref f)=true
section
variable {P:Program} {w:World} {K:Frag} {mg:Str->Option Value} {base:Heap}
theorem Fun.ok {x qual:Str} {st:Stmt} {f:Addr} {fd:FuncData} {N ps:List Str} {k:Nat} {sp:Sp} (F:Fun K x qual st f fd) (S:FnScope N ps (J9 st)) (len:∀ vs H Q E,sp vs H Q E->vs.length=ps.length)
  (hbody:∀ (cdv:Value) (A:Around) (outer:List Env) (s:Shared) (H:Hp) (vs:List V) (Q:VK) (E:XK),Room k (A.deeper (envOfC qual (J9 st) s.heap.objs.size f cdv))->sp vs H Q E->
   ∃ t,PSs (cxOf CX0 P w K mg base N qual (J9 st) f cdv A outer s H E).nox (J1a st) t/\t { nx:=fun _ H'=>Q .non H',rt:=Q } (start N vs) H):FnOk P w K mg base CX0 (k + 1) f fd ps sp:=by
 obtain ⟨oc,od,kV,doc,pm,an,cdv,ct,osl,rfl,lk,hcd⟩:=F.ex;refine fn_of lk hcd S len fun A outer s H vs Q E hr hsp=>?_;obtain ⟨t,h,q⟩:=hbody cdv A outer s H vs Q E hr hsp;exact ⟨t,h.nox,q⟩
theorem Fun.binds {x qual:Str} {st:Stmt} {f:Addr} {fd:FuncData} {ps:List Str} (F:Fun K x qual st f fd)
  (h:∀ (kV doc pm:Value) (an:Option Addr) (cdv ct:Value) (us:List Value),us.length=ps.length->bindArgs (fnOf x qual (J21 st) (J1a st) (J9 st) .none kV doc pm an cdv ct) ⟨us,[]⟩=pure (ps.zip us)):Binds K fd ps []:=by
 obtain ⟨oc,od,kV,doc,pm,an,cdv,ct,osl,rfl,lk,hcd⟩:=F.ex;exact .all (h kV doc pm an cdv ct)
theorem fun_mk {x qual:Str} {st:Stmt} {f:Addr} {oc:Value} {od an:Option Addr} {osl:Array (Option Value)} {kV doc pm cdv ct:Value} (l:K.lookup f=some ⟨oc,od,.func (fnOf x qual (J21 st) (J1a st) (J9 st) .none kV doc pm an cdv ct),osl⟩)
  (c:codeIn K cdv qual=true) (k:keepIn K (.ref f)=true):Fun K x qual st f (fnOf x qual (J21 st) (J1a st) (J9 st) .none kV doc pm an cdv ct):=⟨⟨oc,od,kV,doc,pm,an,cdv,ct,osl,rfl,l,c⟩,k⟩
end
theorem Jt {n:Nat} (h:n<=1000):n < sizeLine:=Nat.lt_of_le_of_lt h (by decide)
section
variable {X:Cx}
theorem pv (i:Nat) {x:Str} {pos:Pos} (hN:X.N[i]?=some x:=by rfl) (hv:Vis X.env.scope x:=by first | exact Or.inl rfl | exact Or.inr (Or.inl rfl) | exact Or.inr (Or.inr rfl)) (hd:(x == ("__debug__":Str))=false:=by decide)
  (hcd:(x == ("__classdict__":Str))=false:=by decide):PE X (.Name x pos) (tVar i):=pe_var hN hv hd hcd
end
theorem iteF {A B:Prop} (h:B):if false=true then A else B:=by
 rw [if_neg Bool.false_ne_true];exact h
theorem iteT {A B:Prop} (h:A):if true=true then A else B:=by
 rw [if_pos rfl];exact h
theorem iteNS {c A B:Prop} [Decidable c] (hc:c) (h:B):if (!decide c)=true then A else B:=by
 rw [decide_eq_true hc];exact iteF h
def Same (H H':Hp):Prop:=∀ b o,H b=some o->H' b=some o
theorem Same.refl (H:Hp):Same H H:=fun _ _ h=>h
theorem Same.trans {H H1 H2:Hp} (a:Same H H1) (b:Same H1 H2):Same H H2:=fun c o h=>b c o (a c o h)
theorem Same.seq {K:Frag} {H H':Hp} {a:Addr} {xs:List V} (e:Same H H') (h:SqL K H a xs):SqL K H' a xs:=by
 rcases h with (h | ⟨o,h⟩) | h
 ·exact .inl (.inl (e _ _ h))
 ·exact .inl (.inr ⟨o,e _ _ h⟩)
 ·exact .inr h
end L2
namespace L2
open PySem PySem.Spec PyProof.Rows
abbrev Cx.block (X:Cx) (N:List Str) (scope:Scope) (cl:List (Str × Addr)) (C:Addr) (fp:List Addr) (s:Shared) (H:Hp):Cx :=
 { X with N:=N,s₀:=s,H₀:=H,env:=compEnvC scope cl C X.env,outer:=X.stack,stack:=X.stack,ex:=fp,fn:=fun _=>false,pn:=[],xe:=fun _ _=>False }
theorem J2b {env:Env}:∀ {names:List (Str × NameKind)} {x:Str} {k:NameKind},(names.map fun (n,k)=>if (k == NameKind.free && env.scope.kind == .function && env.kindOf n == some .cell) then (n,NameKind.cell) else (n,k)).lookup x=some k->
  k=.cell\/k=.free->(∀ p∈names,p.2≠.cell)->∃ p∈names,p.1=x/\p.2=.free
 | [],_,_,h,_,_=>by simp at h
 | (n,q) :: r,x,k,h,hk,hc=>by
  have ih:=@J2b env r x k;have hq:q≠.cell:=hc (n,q) mem_cons_self;rw [map_cons] at h;by_cases hx:x=n
  ·subst hx;by_cases e:(q == NameKind.free && env.scope.kind == .function && env.kindOf x == some .cell)=true
   ·simp only [Bool.and_eq_true] at e;exact ⟨(x,q),mem_cons_self,rfl,by simpa using e.1.1⟩
   ·have e2:List.lookup x ((x,q) :: List.map (fun (n,k)=>if (k == NameKind.free && env.scope.kind == .function && env.kindOf n == some .cell) then (n,NameKind.cell) else (n,k)) r)=some k:=by
     simpa only [e,if_false,Bool.false_eq_true] using h
    rw [List.lookup_cons_self] at e2;cases e2;rcases hk with hk | hk
    ·exact absurd hk hq
    ·exact ⟨(x,q),mem_cons_self,rfl,hk⟩
  ·have hb:(x == n)=false:=by simpa using hx
   have h':(List.map (fun (n,k)=>if (k == NameKind.free && env.scope.kind == .function && env.kindOf n == some .cell) then (n,NameKind.cell) else (n,k)) r).lookup x=some k:=by
    by_cases e:(q == NameKind.free && env.scope.kind == .function && env.kindOf n == some .cell)=true
    ·simp only [e,if_true,List.lookup_cons,hb] at h;exact h
    ·simp only [e,if_false,Bool.false_eq_true,List.lookup_cons,hb] at h;exact h
   obtain ⟨p,hp,e1,e2⟩:=ih h' hk fun p hp=>hc p (mem_cons_of_mem _ hp);exact ⟨p,mem_cons_of_mem _ hp,e1,e2⟩
def capv (σ:St) (js:List Nat):St:=js.map fun j=>(σ[j]?).join
theorem capv_get {σ:St} {js:List Nat} {k:Nat} {v:V} (h:(capv σ js)[k]?=some (some v)):∃ j,js[k]?=some j/\σ[j]?=some (some v):=by
 unfold capv at h;rw [getElem?_map] at h
 cases e:js[k]? with
 | none=>rw [e] at h;cases h
 | some j =>
  rw [e] at h;refine ⟨j,rfl,?_⟩
  cases e2:σ[j]? with
  | none=>rw [map_some,e2] at h;cases h
  | some o=>rw [map_some,e2] at h;exact congrArg some (Option.some.inj h)
section
variable {X:Cx} {elt iter:Expr} {x y:Str} {px py:Pos} {scope:Scope} {cl:List (Str × Addr)} {pos spos:Pos} {wi:TI} {te:TE} {caps:List Str} {js:List Nat} {i:Nat}
theorem block_ok {pins:List (Addr × Obj)} {σ:St} {H:Hp} {s:Shared} {C:Addr} {fp:List Addr} (I:Inv X pins σ H s) (hC:s.heap.objs.size<=C) (f2:∀ b∈fp,FpOk X pins H b) (fl:∀ b∈fp,b < s.heap.objs.size)
  (hkind:scope.kind=.function) (hcell:∀ p∈scope.names,p.2≠.cell) (hsub:∀ p∈cl,X.env.cells.lookup p.1=some p.2) (hhas:∀ p∈scope.names,p.2=.free->∃ c,cl.lookup p.1=some c) :
  (X.block (x :: caps) scope cl C fp s H).Ok where
 mod:=I.ok.mod
 kind:=hkind
 glob:=I.ok.glob
 blt:=I.ok.blt
 above:=hC
 inj:=fun a b c h1 h2=>I.ok.inj a b c (hsub _ (mem_of_lookup h1)) (hsub _ (mem_of_lookup h2))
 has:=fun a h=>by
  have h':(∃ k,(relabel scope X.env).names.lookup a=some k/\(k=.cell\/k=.free)):=by
   rcases h with h | h
   ·exact ⟨_,h,.inl rfl⟩
   ·exact ⟨_,h,.inr rfl⟩
  obtain ⟨k,h1,hk⟩:=h';obtain ⟨p,hp,e1,e2⟩:=J2b h1 hk hcell;rw [<- e1];exact hhas p hp e2
 cab:=fun _ _ h=>nomatch h
 hd:=I.ok.hd
 frames:=I.ok.frames
 stk:=.inl rfl
 exf:=fun b hb=>⟨Nat.ne_of_lt (Nat.lt_of_lt_of_le (fl b hb) hC),fun a c e=>(f2 b hb).2.2.2.2.1 a c (hsub _ (mem_of_lookup e))⟩
 bs:=I.bs
 bsz:=Nat.le_trans I.ok.bsz I.sz
 noex:=fun b o e hb=>by
  rcases (f2 b hb).2.2.2.1 with z | z
  ·exact I.ok.noex b o e z
  ·exact absurd (Nat.lt_of_lt_of_le (lt_size e) (Nat.le_trans I.ok.bsz z)) (Nat.lt_irrefl _)
 exfs:=fun b hb z=>by
  rcases mem_cons.mp (I.stkSub b z) with e | e
  ·exact (f2 b hb).2.1 e
  ·exact (f2 b hb).2.2.1 e
 funs:=I.stack
 frf:=I.stkFree
end
section
variable {X:Cx}
def rInsert:V->List V->Hp->VK->Prop:=fun x vs H Q=>∃ (l:Addr) (xs:List V) (k:Nat) (y:V),x=.ref l/\vs=[.int k,y]/\H l=some (.lst xs)/\k<=xs.length/\xs.length < sizeLine/\Q .non (upd H l (.lst (xs.take k ++ y :: xs.drop k)))
theorem mt_insert:MtM X "list.insert" rInsert:=by
 intro pins s σ H x vs v us Q I rx rv h;obtain ⟨l,xs,k,y,rfl,rfl,hH,hk,hz,q⟩:=h;cases rx;obtain ⟨u1,u2,rfl,⟨t,rfl⟩,r2⟩:=rv.two;obtain ⟨z,its,n,r,hl,e⟩:=I.lstM hH;have hn:=J3o;obtain ⟨x,hx⟩:∃ x:Int,x=(k:Int):=⟨_,rfl⟩;rw [<- hx];have hfit:¬ (!Builtin.List.listFitsIndex x)=true:=by
  rw [fitsIndex_both (by omega) (by omega)];exact Bool.false_ne_true
 have hsz:its.toArray.size<=sizeLine:=by rw [size_toArray,<- hl];exact z
 refine call_meets F.slot_list_insert ⟨_,e,rfl⟩ F.entry_list_insert (F.args_list_insert_3 _ _ _) (PySem.AutoSeq1.list_insert_list_int_val_1 l its.toArray n x t u2 hfit hsz) ⟨e,?_⟩;refine ⟨.non,_,I.lset (its':=its.take k ++ u2 :: its.drop k) hH e ?_ ((r.take k).append (.cons r2 (r.drop k))) ?_,rfl,q⟩
 ·have e1:(if x < 0 then (x + (its.toArray.size:Int)).toNat else min x.toNat its.toArray.size)=k:=by
   rw [if_neg (by omega),size_toArray];omega
  dsimp only;rw [e1];apply Array.ext';simp;rw [List.take_of_length_le (by rw [length_drop];exact Nat.le_refl _)]
 ·rw [length_append,length_cons,length_take,length_drop];omega
end
section
variable {X:Cx}
abbrev SqI (K:Frag) (H:Hp) (p:Addr) (xs:List V):Prop:=SqL K H p xs\/SqT K H p xs
theorem J2q {its:List Value} {ns:List Int} (hi:IntsAre its ns):∃ xs:Array (Int × Tok),its.toArray=intItems xs/\preSum (numAt xs) xs.size=ns.sum/\ns=xs.toList.map (·.1):=by
 obtain ⟨xs,hx⟩:=hi.allInts.items;have e1:ns=xs.toList.map (·.1):=by
  rw [<- nums_intItems,<- hx];exact (show numsOf its.toArray.toList=ns from hi.numsOf).symm
 refine ⟨xs,hx,?_,e1⟩;rw [preSum_eq,List.take_of_length_le (by simp),e1]
theorem call_sum (hc:X.calm=true):CallR X (.builtin "sum") (fun xs H Q=>∃ (p:Addr) (ns:List Int),xs=[.ref p]/\SqI X.K H p (ns.map V.int)/\Q (.int ns.sum) H):=by
 intro pins s σ H xs us Q I r h;obtain ⟨p,ns,rfl,hq,q⟩:=h;obtain ⟨u,rfl,rx⟩:=vals1 r;cases rx;have hh:=I.ok.hd hc;rcases hq with hq | hq
 ·obtain ⟨its,r',pl,hz⟩:=I.list hq;obtain ⟨xs,hx,e2,_⟩:=J2q (Je r');refine sum_intListG hh (hx ▸ pl.isList) fun h' tk t' hk=>?_;rw [e2];exact ⟨.int ns.sum,H,I.kept hk,⟨t',rfl⟩,q⟩
 ·obtain ⟨its,r',pl,hz⟩:=I.tuple hq;obtain ⟨xs,hx,e2,_⟩:=J2q (Je r');refine PySem.W.ktm_sumG hh (hx ▸ (show s.heap.IsTuple p its.toArray from pl)) fun h' tk t' hk=>?_;rw [e2];exact ⟨.int ns.sum,H,I.kept hk,⟨t',rfl⟩,q⟩
end
end L2
namespace L2
open PySem PySem.Spec PyProof.Rows
section
variable {prog:Program} {w:World} {A:Around} {E:Value->Shared->Prop} {s:Shared}
theorem J3b {l:Addr} {vs:List Value} {Q:List Value->Shared->Prop} (hl:s.heap.IsTuple l vs.toArray)
  (h:Q vs { s with heap:=(s.heap.push (seqObj "list" #[] 0)).update s.heap.objs.size (Obj.mapSeq (· ++ vs.toArray)) }) (hsz:vs.length<=sizeLine) :
  wpAny (model prog w) A (collect (.ref l)) Q E s:=by
 obtain ⟨o,ho,hc,n,hd⟩:=id hl;unfold collect;refine wpAny_bind (wpAny_runValue (codeAny_builtin entry_proto_collect' ?_));show wpAny _ _ (do again (.builtin "list.__iadd__" ⟨[<- newList [],.ref l],[]⟩)) _ _ s;refine wpAny_bind (wpAny_newList (wpAny_pure ⟨Code.quiet_builtin _ (by decide +kernel),codeAny_builtin entry_list_iadd' ?_⟩));show wpAny _ _ (Builtin.List.listExtendWith (.ref s.heap.objs.size) (.ref l) (.ref s.heap.objs.size)) _ _ { s with heap:=s.heap.push (seqObj "list" #[] 0) };unfold Builtin.List.listExtendWith;have ho':(s.heap.push (seqObj "list" #[] 0)).get? l=some o:=get?_push_of_some _ ho;refine wpAny_bind (wpAny_typeOf (T:="tuple") ⟨o,ho',hc⟩ ?_);have ht:(Value.type "tuple" == Value.type "tuple")=true:=by rfl
 rw [if_pos (by rw [ht];simp)];refine wpAny_bind (listItems_at ho' hd ?_);refine wpAny_bind (listItems_at (xs:=#[]) (n:=0) (get?_push_size _ rfl) rfl ?_);rw [if_neg (by simp)];refine wpAny_bind (listUpdate_at (xs:=#[]) (n:=0) (get?_push_size _ rfl) rfl ?_ (Nat.zero_le _) (by show (#[] ++ vs.toArray).size<=sizeLine + 1;simp only [Array.size_append,size_toArray,length_nil];omega));refine wpAny_pure ?_;show wpAny (model prog w) A (do
   let o <- load s.heap.objs.size
   match o.data with
   | .seq xs _=>pure xs.toList
   | _=>unsupported "internal:collect") Q E { s with heap:=(s.heap.push (seqObj "list" #[] 0)).update s.heap.objs.size (Obj.mapSeq (· ++ vs.toArray)) }
 refine wpAny_bind (wpAny_load (get?_update_seq (get?_push_size _ rfl) _) ?_);show wpAny _ _ (pure ((#[]:Array Value) ++ vs.toArray).toList) Q E _;rw [show ((#[]:Array Value) ++ vs.toArray).toList=vs by simp];exact wpAny_pure h
theorem J3e {l:Addr} {vs:List Value} {ns:List Int} {Q:Value->Shared->Prop} (hl:s.heap.IsTuple l vs.toArray) (hI:IntsAre vs ns) (h64:vs.length < 64)
  (h:∀ (out:Array Value) (ns':List Int),IntsAre out.toList ns'->ns'.Perm ns->ns'.Pairwise (·<=·)->Q (.ref (s.heap.objs.size + 1)) { s with heap:=sortedAll s.heap vs out }) :
  wpAny (model prog w) A (call (.builtin "sorted") [.ref l]) Q E s:=by
 refine Calls.call_function_entry kind_sorted plain_sorted entry_sorted (args_sorted1 _) ?_;unfold Builtin.«sorted»;refine wpAny_bind (m:=checkCount "sorted" 1 1 _) (wpAny_pure ?_);refine wpAny_bind (J3b hl ?_ (Nat.le_of_lt (Nat.lt_of_lt_of_le h64 (by rw [sizeLine_eq];decide))));refine wpAny_bind (wpAny_newList ?_);have hsz:((s.heap.push (seqObj "list" #[] 0)).update s.heap.objs.size (Obj.mapSeq (· ++ vs.toArray))).objs.size=s.heap.objs.size + 1:=by
  rw [Heap.size_update,size_push']
 have hoL:(((s.heap.push (seqObj "list" #[] 0)).update s.heap.objs.size (Obj.mapSeq (· ++ vs.toArray))).push (seqObj "list" vs.toArray 0)).get? (s.heap.objs.size + 1)=some (seqObj "list" vs.toArray 0):=by
  rw [<- hsz];exact get?_push_size _ rfl
 show wpAny _ _ _ _ _ { s with heap:=((s.heap.push (seqObj "list" #[] 0)).update s.heap.objs.size (Obj.mapSeq (· ++ vs.toArray))).push (seqObj "list" vs.toArray 0) };rw [hsz];refine wpAny_bind (wpAny_holding (wpAny_call_entry slot_list_sort ⟨_,hoL,rfl⟩ entry_list_sort (list_sort_tree hoL hI h64 fun out ns' a1 a2 a3=>⟨_,rfl,?_⟩) (args_list_sort _)));exact wpAny_pure ⟨_,rfl,h out ns' a1 a2 a3⟩
end
section
variable {X:Cx}
theorem J2i:CallR X (.builtin "sorted") (fun xs H Q=>∃ (p:Addr) (ns:List Int),xs=[.ref p]/\SqI X.K H p (ns.map V.int)/\ns.length < 64/\∀ l (ns':List Int),H l=none->ns'.Perm ns->ns'.Pairwise (·<=·)->Q (.ref l) (upd H l (.lst (ns'.map V.int)))):=by
 intro pins s σ H xs us Q I r h;obtain ⟨p,ns,rfl,hq,h64,q⟩:=h;obtain ⟨u,rfl,rx⟩:=vals1 r;cases rx;have fin:∀ (its:List Value) (out:Array Value) (ns':List Int),IntsAre out.toList ns'->ns'.Perm ns->ns'.Pairwise (·<=·)->EP X pins σ Q (.ref (s.heap.objs.size + 1)) { s with heap:=sortedAll s.heap its out }:=fun its out ns' a1 a2 a3=>by
  obtain ⟨e,he⟩:=sortedAll_at s.heap its out;have hz:(ns'.map V.int).length<=sizeLine:=by
   rw [length_map,a2.length_eq];exact Nat.le_of_lt (Jt (by omega))
  refine ⟨.ref _,_,I.laid (t':=s.toks) (a:=s.heap.objs.size + 1) (o:=.lst (ns'.map V.int)) (fun b o e=>sortedAll_old e) (Nat.le_succ _) ⟨hz,out.toList,e,J2k a1,he⟩,rfl,q _ ns' (I.hok.fresh (Nat.le_succ _)) a2 a3⟩
 rcases hq with hq | hq
 ·obtain ⟨its,r',pl,hz⟩:=I.list hq;have hl:=r'.length;rw [length_map] at hl;exact sorted_ints pl.isList (Je r') (by omega) (fin its)
 ·obtain ⟨its,r',pl,hz⟩:=I.tuple hq;have hl:=r'.length;rw [length_map] at hl;exact J3e (show s.heap.IsTuple p its.toArray from pl) (Je r') (by omega) (fin its)
theorem call_rng:CallR X (.type "range") (fun xs H Q=>∃ j:Int,xs=[.int j]/\∀ r,H r=none->Q (.ref r) (upd H r (.rng 0 j))):=by
 intro pins s σ H xs us Q I r h;obtain ⟨j,rfl,q⟩:=h;obtain ⟨u,rfl,t,rfl⟩:=vals1 r;refine call_range_1 ?_;exact ⟨.ref s.heap.objs.size,_,I.laid (o:=.rng 0 j) (fun b o e=>get?_push_of_some _ e) (Nat.le_refl _) ⟨_,_,_,get?_push_size _ rfl⟩,rfl,q _ (I.hok.fresh (Nat.le_refl _))⟩
theorem J1f {f:Nat->Int}:∀ {n:Nat} {us:List Value},us.length=n->(∀ (i:Nat) (v:Value),us[i]?=some v->∃ t,v=Value.int (f i) t)->Vals ((List.range n).map fun i=>V.int (f i)) us:=by
 intro n us hl h
 induction n generalizing f us with
 | zero=>cases us with
  | nil=>exact .nil
  | cons a r=>simp at hl
 | succ n ih=>cases us with
  | nil=>simp at hl
  | cons a r =>
   obtain ⟨t,e⟩:=h 0 a rfl;subst e;rw [List.range_succ_eq_map,map_cons,map_map];exact .cons ⟨t,rfl⟩ (ih (f:=fun i=>f (i + 1)) (by simpa using hl) fun i v e=>h (i + 1) v (by simpa using e))
theorem J1g (hc:X.calm=true):CallR X (.type "list") (fun xs H Q=>∃ (r:Addr) (n:Nat),xs=[.ref r]/\H r=some (.rng 0 (n:Int))/\n<=1000/\∀ l,H l=none->Q (.ref l) (upd H l (.lst (((List.range n).map fun (i:Nat)=>(i:Int)).map V.int)))):=by
 intro pins s σ H xs us Q I r h;obtain ⟨p,n,rfl,hq,hn,q⟩:=h;simp only [map_map,Function.comp_def] at q;obtain ⟨u,rfl,rx⟩:=vals1 r;cases rx;obtain ⟨t,u,v,e⟩:=I.hok p _ hq;refine call_list_range (I.ok.hd hc) (show IsRange s.heap p 0 (n:Int) 1 t u v from e) (small_one (by omega) (by omega) (by omega) (by omega)) (by rw [rangeSize_one];split <;> omega) (n:=n) (by omega) fun h' tk acc' c' hk hS' hacc=>?_;have hv:Vals ((List.range n).map fun (i:Nat)=>V.int (i:Int)) acc'.toList:=J1f (by rw [length_toList];exact hacc.1) fun i v e=>by
  obtain ⟨t,rfl⟩:=hacc.2 i v (by simpa using e);exact ⟨t,by simp⟩
 refine ⟨.ref s.heap.objs.size,_,I.laid (o:=.lst ((List.range n).map fun (i:Nat)=>V.int (i:Int))) hk (Nat.le_refl _) ⟨?_,acc'.toList,c',hv,by simpa using hS'⟩,rfl,q _ (I.hok.fresh (Nat.le_refl _))⟩;rw [length_map,length_range];exact Nat.le_of_lt (Jt hn)
def Kin (xs ys:List V):Prop:=∀ a∈xs,∀ b∈ys,flatV a=true/\flatV b=true/\eqV a b=decide (a=b)
theorem Kin.ints (ns ms:List Int):Kin (ns.map V.int) (ms.map V.int):=fun a ha b hb=>by
 obtain ⟨i,_,rfl⟩:=mem_map.mp ha;obtain ⟨j,_,rfl⟩:=mem_map.mp hb;refine ⟨rfl,rfl,?_⟩;show (i == j)=decide (V.int i=V.int j);by_cases e:i=j
 ·subst e;simp
 ·rw [decide_eq_false (fun h=>e (V.int.inj h))];simpa using e
def eAt (xs ys:List V) (j:Nat):Bool:=match xs[j]?,ys[j]? with
 | some a,some b=>eqV a b
 | _,_=>true
theorem all_eAt {xs ys:List V} (hl:xs.length=ys.length) (hk:Kin xs ys):((List.range xs.length).all (eAt xs ys))=decide (xs=ys):=by
 rw [Bool.eq_iff_iff,all_eq_true,decide_eq_true_iff];constructor
 ·intro h;apply List.ext_getElem?;intro j;by_cases hj:j < xs.length
  ·have h1:xs[j]?=some xs[j]:=List.getElem?_eq_getElem hj;have h2:ys[j]?=some (ys[j]'(hl ▸ hj)):=List.getElem?_eq_getElem (hl ▸ hj);have:=h j (mem_range.mpr hj);unfold eAt at this;rw [h1,h2] at this;have k:=(hk _ (List.getElem_mem hj) _ (List.getElem_mem (hl ▸ hj))).2.2;have this:eqV xs[j] (ys[j]'(hl ▸ hj))=true:=this;rw [k,decide_eq_true_iff] at this;rw [h1,h2,this]
  ·rw [List.getElem?_eq_none (by omega),List.getElem?_eq_none (by omega)]
 ·rintro rfl j hj;have hj':=mem_range.mp hj;unfold eAt;rw [List.getElem?_eq_getElem hj'];have k:=(hk _ (List.getElem_mem hj') _ (List.getElem_mem hj')).2.2;show eqV _ _=true;rw [k];simp
theorem eAt_at {A:Around} {s:Shared} {xs ys:List V} {its its2:List Value} (r:Vals xs its) (r2:Vals ys its2) (hk:Kin xs ys) (j:Nat) (h1:j < its.toArray.size) (h2:j < its2.toArray.size):SeqAt.EqAt A s its.toArray[j] its2.toArray[j] (eAt xs ys j):=by
 have l1:=r.length;have l2:=r2.length;rw [size_toArray] at h1 h2;have g1:xs[j]?=some (xs[j]'(by omega)):=List.getElem?_eq_getElem (by omega);have g2:ys[j]?=some (ys[j]'(by omega)):=List.getElem?_eq_getElem (by omega);obtain ⟨u,e1,ru⟩:=r.get g1;obtain ⟨v,e2,rv⟩:=r2.get g2;have e1':its.toArray[j]=u:=by
  have:=List.getElem?_eq_getElem h1;rw [e1] at this;simpa using (Option.some.inj this).symm
 have e2':its2.toArray[j]=v:=by
  have:=List.getElem?_eq_getElem h2;rw [e2] at this;simpa using (Option.some.inj this).symm
 obtain ⟨f1,f2,_⟩:=hk _ (List.getElem_mem (by omega:j < xs.length)) _ (List.getElem_mem (by omega:j < ys.length));unfold eAt;rw [g1,g2,e1',e2'];exact eqAt_V ru rv f1 f2
def rNeL (K:Frag):R2:=fun x y H Q=>∃ p q xs ys,x=.ref p/\y=.ref q/\SqL K H p xs/\SqL K H q ys/\Kin xs ys/\Q (.bl (!decide (xs=ys))) H
theorem op_neL (hu:X.A.units < cLine):OpR X (compareOp .NotEq) (rNeL X.K):=by
 intro pins s σ H x y v u Q I rx ry h;obtain ⟨p,q,xs,ys,rfl,rfl,hp,hq,hk,hQ⟩:=h;cases rx;cases ry;obtain ⟨its,r,pl,_⟩:=I.list hp;obtain ⟨its2,r2,pl2,_⟩:=I.list hq;have l1:=r.length;have l2:=r2.length;by_cases hl:xs.length=ys.length
 ·refine SeqAt.RcNeAt.lists pl.isList pl2.isList (by rw [size_toArray,size_toArray];omega) hu (fun j h1 h2=>eAt_at r r2 hk j h1 h2) _ _ _ _ ?_;rw [size_toArray,<- l1,all_eAt hl hk];exact ⟨.bl _,H,I,rfl,hQ⟩
 ·refine SeqAt.RcNeAt.lists_lengths pl.isList pl2.isList (by rw [size_toArray,size_toArray];simp;omega) hu _ _ _ _ ?_;rw [decide_eq_false (fun e=>hl (congrArg List.length e))] at hQ;exact ⟨.bl true,H,I,rfl,hQ⟩
theorem Jw {f:Value} (hf:f=.builtin "isinstance"):CallR X f (fun xs H Q=>∃ (x c:V) (t cv:Value) (b:Bool),xs=[x,c]/\RelV c cv/\(∀ v,RelV c v->v=cv)/\TyOf X.K H x t/\kitOne X.K t cv=some b/\Q (.bl b) H):=by
 subst hf;intro pins s σ H xs us Q I r h;obtain ⟨x,c,t,cv,b,rfl,rc,uc,ty,e,q⟩:=h;obtain ⟨u,v,rfl,ru,rv⟩:=vals2 r;obtain rfl:=uc v rv;exact isinst_ok I ru ty e fun tk=>⟨.bl b,H,I.tok tk,rfl,q⟩
end
end L2
namespace L2
open PySem PySem.Spec PyProof.Rows
section
variable {X:Cx}
@[irreducible] def rTup (K:Frag):List V->Hp->VK->Prop:=fun xs H Q=>∃ p ys,xs=[.ref p]/\((SqL K H p ys/\∀ l,H l=none->Q (.ref l) (upd H l (.tup ys)))\/(SqT K H p ys/\Q (.ref p) H))
theorem J14:CallR X (.type "tuple") (rTup X.K):=by
 unfold rTup;exact J3d
end
end L2
namespace L2
open PySem PySem.Spec PyProof.Rows
end L2
namespace L2
open PySem PySem.Spec PyProof.Rows
end L2
namespace L2
open PySem PySem.Spec PyProof.Rows
def bmV:List Value:=[.type "ValueError",.type "Exception",.type "BaseException",.type "object"]
theorem ObjOk.has {P:Program} {w:World} {H:Hp} {h:Heap} {a:Addr} {o:HO} (x:ObjOk P w H h a o):∃ u,h.get? a=some u:=by
 cases o with
 | lst xs=>obtain ⟨_,_,_,_,e⟩:=x;exact ⟨_,e⟩
 | tup xs=>obtain ⟨_,_,_,ob,e,_⟩:=x;exact ⟨_,e⟩
 | dK kvs=>obtain ⟨_,_,_,_,o,_,_,e,_⟩:=x;exact ⟨_,e⟩
 | dT kvs=>obtain ⟨_,_,_,_,o,_,_,e,_⟩:=x;exact ⟨_,e⟩
 | set S n=>obtain ⟨o,_,_,_,e,_⟩:=x;exact ⟨_,e⟩
 | ins C dx fs=>obtain ⟨_,_,_,e,_⟩:=x;exact ⟨_,e⟩
 | own y=>exact x
 | xd fs=>obtain ⟨_,⟨_,_,_,e,_⟩,_⟩:=x;exact ⟨_,e⟩
 | rng lo hi=>obtain ⟨_,_,_,e⟩:=x;exact ⟨_,e⟩
 | frz ob u=>obtain ⟨e,_⟩:=x;exact ⟨_,e⟩
 | tbl ps=>exact ⟨_,(show h.get? a=some _ from x)⟩
 | met f y=>exact ⟨_,(show h.get? a=some _ from x)⟩
 | ext φ=>obtain ⟨_,e,_⟩:=x;exact e
theorem HOk.over {P:Program} {w:World} {H:Hp} {h h' B:Heap} (ok:HOk P w H h) (t:∀ b o,H b=some o->∃ u,B.get? b=some u) (k:B.StaysIn h) (k':B.StaysIn h'):HOk P w H h':=fun b u e=>by
 refine (ok b u e).stay (fun c v hc q=>?_) (fun _ q=>q) fun _ _ q=>q;have hc':∃ x,B.get? c=some x:=by
  rcases hc with z | z
  ·rw [z];exact t b u e
  ·exact t c _ z
 obtain ⟨x,hx⟩:=hc';have:=k c x hx;rw [q] at this;cases this;exact k' c _ hx
def Exc1 (P:Program) (w:World):CXT:=fun outer H s E e s'=>∃ (ea:Addr) (cls:Value) (H':Hp) (B:Heap) (a0:Value),e=.ref ea/\s'.os=s.os/\AllBare s'.gens/\Heap.FlyingW B outer ea cls a0 s'.heap/\
 Un (frs outer) [] H H' s.heap s'.heap/\HOk P w H' s'.heap/\H' ea=none/\s.heap.get? ea=none/\(∀ b o,H' b=some o->∃ u,B.get? b=some u)/\(∀ b u,s.heap.get? b=some u->b ∉ frs outer->∃ v,B.get? b=some v)/\E cls none H'
section
variable {P:Program} {w:World} {K:Frag} {mg:Str->Option Value} {base:Heap} {N:List Str} {qual:Str} {scope:Scope} {f:Addr} {cd:Value} {A:Around} {outer:List Env} {s0:Shared} {H0:Hp} {E:XK} {pins:List (Addr × Obj)} {σ:St} {H:Hp} {s:Shared}
theorem noFlds {h B:Heap} {l:List Env} (x:h.FunFrames B l) {b:Addr} (hb:b∈frs l):∃ o,h.get? b=some o/\∀ vs,o.data≠.fields vs:=(x.mem hb).2
theorem frs_cons {b:Addr} {env:Env} {L:Addr} (hf:env.frame=some L) {l:List Env}:b∈frs (env :: l)↔b=L\/b∈frs l:=by
 unfold frs;rw [List.filterMap_cons,hf];simp
theorem xe_made {ea:Addr} {cls:Value} {args:List Value} {h':Heap} (I:Inv (cxOf (Exc1 P w) P w K mg base N qual scope f cd A outer s0 H0 E) pins σ H s) (hx:Heap.MadeExcOf s.heap h' ea cls args) (q:E cls none H) :
  (cxOf (Exc1 P w) P w K mg base N qual scope f cd A outer s0 H0 E).xe (.ref ea) { s with heap:=h' }:=by
 have fr:s.heap.FunFrames base (envOfC qual scope s0.heap.objs.size f cd :: outer):=I.stack;have hin:∀ env∈(envOfC qual scope s0.heap.objs.size f cd :: outer),∀ b,env.frame=some b->b∈frs (envOfC qual scope s0.heap.objs.size f cd :: outer):=fun env he b hb=>List.mem_filterMap.mpr ⟨env,he,hb⟩;have fl:∀ {b:Addr},b∈frs (envOfC qual scope s0.heap.objs.size f cd :: outer)↔b=s0.heap.objs.size\/b∈frs outer:=frs_cons rfl;have inB:∀ b u,s.heap.get? b=some u->b ∉ frs (envOfC qual scope s0.heap.objs.size f cd :: outer)->(hideAll s.heap (frs (envOfC qual scope s0.heap.objs.size f cd :: outer))).get? b=some u:=fun b u e n=>PySem.W.hideAll_get _ e n;have nL:∀ b u,s0.heap.get? b=some u->b≠s0.heap.objs.size:=fun b u e=>Nat.ne_of_lt (lt_size e);have nf:∀ b u,s0.heap.get? b=some u->b ∉ frs outer->b ∉ frs (envOfC qual scope s0.heap.objs.size f cd :: outer):=fun b u e n z=>(fl.mp z).elim (nL b u e) n;refine wpAny_leaves_madeW (base:=hideAll s.heap (frs (envOfC qual scope s0.heap.objs.size f cd :: outer))) (h:=s.heap) (L:=s0.heap.objs.size) I.ok.frames rfl (fun b o z=>of_hideAll _ z) (PySem.W.funFrames_hide fr hin) hx fun h'' t fly tup nt ups=>?_;have up:∀ b o,s.heap.get? b=some o->b∈frs (envOfC qual scope s0.heap.objs.size f cd :: outer)->∃ sl,h''.get? b=some { o with slots:=sl }:=fun b o e hb=>by
  obtain ⟨o',e',nd⟩:=noFlds fr hb;rw [e] at e';cases e';exact ups b o (hx.keeps b o e) nd
 have there:∀ b o,s.heap.get? b=some o->∃ o',h''.get? b=some o':=fun b o e=>by
  by_cases hb:b∈frs (envOfC qual scope s0.heap.objs.size f cd :: outer)
  ·obtain ⟨sl,z⟩:=up b o e hb;exact ⟨_,z⟩
  ·exact ⟨o,fly.1 b o (inB b o e hb)⟩
 have trk:∀ b o,H b=some o->∃ u,(hideAll s.heap (frs (envOfC qual scope s0.heap.objs.size f cd :: outer))).get? b=some u:=fun b o e=>by
  obtain ⟨u,hu⟩:=(I.hok b o e).has;refine ⟨u,inB b u hu fun z=>?_⟩;have:=I.stkFree b z;rw [e] at this;cases this
 refine ⟨ea,cls,H,_,_,rfl,I.os,I.bare,fly,⟨fun b o e n hb _=>?_,fun b o e n hb _=>?_,fun b o e n hb=>I.base.free b o e n hb,fun b o e _=>?_,I.base.tups,I.base.frzs,I.base.tbls⟩,I.hok.over trk (fun b o z=>of_hideAll _ z) fly.1,?_,?_,trk,fun b u e n=>?_,q⟩
 ·exact fly.1 b o (inB b o (I.base.keep b o e n hb (by simp [cxOf])) (nf b o e hb))
 ·obtain ⟨sl,e1⟩:=I.base.slot b o e n hb (by simp [cxOf]);obtain ⟨sl',e2⟩:=up b _ e1 (fl.mpr (.inr hb));exact ⟨sl',e2⟩
 ·obtain ⟨o',e1⟩:=I.base.there b o e (by simp [cxOf]);exact there b o' e1
 ·cases z:H ea with
  | none=>rfl
  | some o =>
   obtain ⟨u,hu⟩:=(I.hok ea o z).has;have hnew:=hx.new;rw [hu] at hnew;cases hnew
 ·cases z:s0.heap.get? ea with
  | none=>rfl
  | some o =>
   obtain ⟨o',e1⟩:=I.base.there ea o z (by simp [cxOf]);have hnew:=hx.new;rw [e1] at hnew;cases hnew
 ·obtain ⟨o',e1⟩:=I.base.there b u e (by simp [cxOf]);exact ⟨o',inB b o' e1 (nf b u e n)⟩
theorem pass1:Passes (Exc1 P w) (cxOf (Exc1 P w) P w K mg base N qual scope f cd A outer s0 H0 E) E:=by
 rintro pins σ H s e s' I ⟨ea,cls,H',B,a0,rfl,os,bare,fly,un,hok,hea,new,trk,inB,q⟩;have fl:∀ {b:Addr},b∈frs (envOfC qual scope s0.heap.objs.size f cd :: outer)↔b=s0.heap.objs.size\/b∈frs outer:=frs_cons rfl;have nf:∀ b u,s0.heap.get? b=some u->b ∉ frs outer->b ∉ frs (envOfC qual scope s0.heap.objs.size f cd :: outer):=fun b u e n z=>(fl.mp z).elim (Nat.ne_of_lt (lt_size e)) n;have fly0:Heap.FlyingW B (envOfC qual scope s0.heap.objs.size f cd :: outer) ea cls a0 s'.heap:=fly;have un:Un (frs (envOfC qual scope s0.heap.objs.size f cd :: outer)) [] H H' s.heap s'.heap:=un;have inB:∀ b u,s.heap.get? b=some u->b ∉ frs (envOfC qual scope s0.heap.objs.size f cd :: outer)->∃ v,B.get? b=some v:=inB;refine wpAny_leaves_onW (L:=s0.heap.objs.size) I.ok.frames rfl fly0 fun h'' fly2 ups=>?_;have stay:∀ b o,s.heap.get? b=some o->b ∉ frs (envOfC qual scope s0.heap.objs.size f cd :: outer)->∀ o',s'.heap.get? b=some o'->h''.get? b=some o':=fun b o e n o' e'=>by
  obtain ⟨v,hv⟩:=inB b o e n;have:=fly0.1 b v hv;rw [e'] at this;cases this;exact fly2.1 b _ hv
 refine ⟨ea,cls,H',B,a0,rfl,os.trans I.os,bare,fly2,⟨fun b o e n hb _=>?_,fun b o e n hb _=>?_,fun b o e n _=>?_,fun b o e _=>?_,fun b xs e=>un.tups b xs (I.base.tups b xs e),fun b o u e=>un.frzs b o u (I.base.frzs b o u e),fun b ps e=>?_⟩,hok.over trk fly0.1 fly2.1,hea,?_,trk,fun b u e n=>?_,q⟩
 ·have e1:=I.base.keep b o e n hb (by simp [cxOf]);have n1:=I.base.free b o e n (by simp [cxOf]);exact stay b o e1 (nf b o e hb) o (un.keep b o e1 n1 (nf b o e hb) (by simp))
 ·obtain ⟨sl,e1⟩:=I.base.slot b o e n hb (by simp [cxOf]);have n1:=I.base.free b o e n (by simp [cxOf]);obtain ⟨sl',e2⟩:=un.slot b _ e1 n1 (fl.mpr (.inr hb)) (by simp);obtain ⟨o',e3,nd⟩:=noFlds fly0.2.2.1 (fl.mpr (.inr hb));rw [e2] at e3;cases e3;obtain ⟨sl'',e4⟩:=ups b _ e2 nd;exact ⟨sl'',e4⟩
 ·obtain ⟨o',e1⟩:=I.base.there b o e (by simp [cxOf]);exact un.free b o' e1 (I.base.free b o e n (by simp [cxOf])) (by simp)
 ·obtain ⟨o',e1⟩:=I.base.there b o e (by simp [cxOf]);obtain ⟨o2,e2⟩:=un.there b o' e1 (by simp);by_cases hb:b∈frs outer
  ·obtain ⟨o3,e3,nd⟩:=noFlds fly0.2.2.1 (fl.mpr (.inr hb));obtain ⟨sl,e4⟩:=ups b o3 e3 nd;exact ⟨_,e4⟩
  ·exact ⟨o2,stay b o' e1 (nf b o e hb) o2 e2⟩
 ·obtain ⟨m1,e1⟩:=I.base.tbls b ps e;obtain ⟨m2,e2⟩:=un.tbls b _ e1;exact ⟨m1 ++ m2,by rw [e2,Array.append_assoc]⟩
 ·cases z:s0.heap.get? ea with
  | none=>rfl
  | some o =>
   obtain ⟨o',e1⟩:=I.base.there ea o z (by simp [cxOf]);rw [e1] at new;cases new
 ·obtain ⟨o',e1⟩:=I.base.there b u e (by simp [cxOf]);exact inB b o' e1 (nf b u e n)
theorem passF {X:Cx}:Passes (Exc1 P w) X E0:=by
 rintro pins σ H s e s' I ⟨_,_,_,_,_,_,_,_,_,_,_,_,_,_,_,q⟩;exact False.elim q
theorem exc_obj {h:Heap} {C:Addr} {bmB:List Value} {nid:String} (X:K.In h) (q:excIn K C bmB nid=true) :
  ∃ bm N nm qn bs hdct sn sub ab col dd k0 k1 k2 k3 k5 mN,h.get? C=some (excClassObj nm qn C N bs bm hdct sn sub ab col dd k0 k1 k2 k3 k5 nid)/\h.Ns N mN/\mN "__init__"=none/\OwnTail h bmB bm:=by
 unfold excIn at q;split at q
 ·rename_i dd cdd sl ho;split at q
  ·rename_i C' bm k0 k1 k2 k3 n k5 hm hs;simp only [Bool.and_eq_true,beq_iff_eq,Bool.not_eq_true'] at q;obtain ⟨⟨⟨⟨⟨rfl,rfl⟩,q1⟩,q2⟩,q3⟩,q4⟩:=q;obtain ⟨nm,bs,mro,ns,qn,hd,sn,sub,ab,col,del⟩:=cdd;dsimp only at hm q1 q3 q4;subst hm q1;obtain ⟨l⟩:=sl;simp only at hs;subst hs;exact ⟨bm,ns,nm,qn,bs,hd,sn,sub,ab,col,dd,k0,k1,k2,k3,k5,_,X _ _ ho,.of_isNs (PySem.W.isNs_of_in X q3),PySem.W.nsMap_none_of_in X q3 q4,PySem.W.tail_of_in X q2⟩
  ·cases q
 ·cases q
theorem J3i {x:Str} {C:Addr} {msg:Str} {j:Nat} {p1 np cpos pos:Pos} (hg:Gl (cxOf (Exc1 P w) P w K mg base N qual scope f cd A outer s0 H0 E) x) (hm:mg x=some (.ref C)) (q:excIn K C bmV "ValueError.__new__"=true) (hdb:(x == ("__debug__":Str))=false:=by decide) :
  PS (cxOf (Exc1 P w) P w K mg base N qual scope f cd A outer s0 H0 E) (.Raise (some (.Call (.Name x np) [.Constant (.str msg) j p1] [] cpos)) none pos) (fun D σ H=>E (.ref C) none H):=by
 intro pins s σ H D I h;obtain ⟨bm,NN,nm,qn,bs,hdct,sn,sub,ab,col,dd,k0,k1,k2,k3,k5,mN,hC,hN,hni,T⟩:=exc_obj (I.ok.mod.kin) q;refine wpAny_Raise_call_subT (C:=C) (nm:=nm) (q:=qn) (N:=NN) (bs:=bs) (bm:=bm) (hdct:=hdct) (sn:=sn) (sub:=sub) (ab:=ab) (col:=col) (dd:=dd) (k0:=k0) (k1:=k1) (k2:=k2) (k3:=k3) (k5:=k5)
  PySem.F.excBase_ValueError (mN:=mN) (T.hasType PySem.F.excBase_ValueError.hasBase) (I.ok.hd rfl) rfl hni (ld_glob I hg hm ⟨rfl,?_⟩ hdb)
 refine Calls.evalArgs_plain (thn ((J0 (pe_str (X:=cxOf (Exc1 P w) P w K mg base N qual scope f cd A outer s0 H0 E)) J2) cpos pins s σ H (fun vs H'=>H'=H/\vs.length=1) I ⟨rfl,rfl⟩) fun us s2 h9=>?_);obtain ⟨vs,H2,I2,r,e2,e3⟩:=h9;subst e2;have hl:us.length<=sizeLine:=by rw [<- r.length,e3];decide
 exact ⟨rfl,hl,I2.bk _ _ hC,hN.keeps I2.bk,T.keeps I2.bk,fun h' e hm=>xe_made I2 hm h⟩
end
end L2
namespace L2
open PySem PySem.Spec PyProof.Rows
theorem Fun.okX {P:Program} {w:World} {K:Frag} {mg:Str->Option Value} {base:Heap} {x qual:Str} {st:Stmt} {f:Addr} {fd:FuncData} {N ps:List Str} {k:Nat} {sp:Sp} (F:Fun K x qual st f fd) (S:FnScope N ps (J9 st)) (len:∀ vs H Q E,sp vs H Q E->vs.length=ps.length)
  (hbody:∀ (cdv:Value) (A:Around) (outer:List Env) (s:Shared) (H:Hp) (vs:List V) (Q:VK) (E:XK),Room k (A.deeper (envOfC qual (J9 st) s.heap.objs.size f cdv))->sp vs H Q E->
   ∃ t,PSs (cxOf (Exc1 P w) P w K mg base N qual (J9 st) f cdv A outer s H E) (J1a st) t/\t { nx:=fun _ H'=>Q .non H',rt:=Q } (start N vs) H):FnOk P w K mg base (Exc1 P w) (k + 1) f fd ps sp:=by
 obtain ⟨oc,od,kV,doc,pm,an,cdv,ct,osl,rfl,lk,hcd⟩:=F.ex;exact fn_of lk hcd S len fun A outer s H vs Q E hr hsp=>hbody cdv A outer s H vs Q E hr hsp
end L2
namespace L2
open PySem PySem.Spec PyProof.Rows
theorem J3t:∀ {bs:List Bool} {us:List Value},Vals (bs.map V.bl) us->us=bs.map Value.bool
 | [],us,r=>by cases r;rfl
 | b :: bs,us,r=>by
  cases r with
  | cons r1 r2 =>
   cases (show _=Value.bool b from r1);rw [J3t r2];rfl
end L2
namespace L2
open PySem PySem.Spec PyProof.Rows
end L2
namespace L2
open PySem PySem.Spec PyProof.Rows
def PTs (X:Cx) (ifs:List Expr) (t:TT):Prop :=
 ∀ (pins:List (Addr × Obj)) (s:Shared) (σ:St) (H:Hp) (Q:Bool->Hp->Prop),Inv X pins σ H s->t σ H Q->
  wpAny (model X.prog X.w) X.A (forIn ifs true fun c r=>if r=true then do let ok <- isTrue c X.env (eval c X.env);pure (ForInStep.yield ok) else pure (ForInStep.yield r)) (TP X pins σ Q) X.xe s
def tYes:TT:=fun _ H Q=>Q true H
theorem pts_nil {X:Cx}:PTs X [] tYes:=fun _ s σ H Q I h=>wpAny_tests_nil ⟨H,I,h⟩
theorem pts_one {X:Cx} {c:Expr} {t:TT} (h:PT X c t):PTs X [c] t:=fun pins s σ H Q I q=>wpAny_tests_one (h pins s σ H Q I q)
theorem J13 {prog:Program} {w:World} {A:Around} {R:Result->Shared->Prop} {s:Shared} {elt target iter:Expr} {ifs:List Expr} {scope:Scope} {pos:Pos} {it acc:Value} {env:Env} (J:Nat->Shared->Prop)
  (turn:∀ n s,J n s->wpAny (model prog w) A (pyNext it) (fun r s₁=>match r with
   | none=>R (.ok .next) s₁
   | some v=>wpAny (model prog w) A (letOwnedTupleGo target it v) (fun _ s₁'=>wpAny (model prog w) A (assign target env v) (fun _ s₂ =>
     wpAny (model prog w) A (forIn ifs true fun c r=>if r=true then do let ok <- isTrue c env (eval c env);pure (ForInStep.yield ok) else pure (ForInStep.yield r)) (fun ok s₃ =>
      if ok=true then wpAny (model prog w) A (eval elt env) (fun x s₄ =>
       wpAny (model prog w) A (call (.builtin "list.append") [acc,x]) (fun _ s₅=>∃ m,m < n/\J m s₅) (fun _ _=>False) s₄) (fun _ _=>False) s₃
      else ∃ m,m < n/\J m s₃) (fun _ _=>False) s₂) (fun _ _=>False) s₁') (fun _ _=>False) s₁) (fun _ _=>False) s)
  (n:Nat) (h:J n s):codeAny (model prog w) A (.compLoop (.ListComp elt [⟨target,iter,ifs,0⟩] scope pos) 0 it acc env) R s:=by
 refine codeAny_loop rfl J (fun n s hI=>?_) n h;show wpAny _ _ ((compTurn (.ListComp elt [⟨target,iter,ifs,0⟩] scope pos) 0 it acc env).onRaise (fun x=>do noteFrame x env;theTreesLotGoes x)) _ _ s;refine wpAny_noted ?_;rw [compTurn_list];refine wpAny_bind (wpAny_standAt (wpAny_bind (wpAny_mono (turn n s hI) (fun r s₁ h₁=>?_) fun _ _ h'=>False.elim h')))
 cases r with
 | none=>exact wpAny_pure h₁
 | some v =>
  refine wpAny_bind (wpAny_mono h₁ (fun _ s₁' h₁'=>?_) fun _ _ h'=>False.elim h');refine wpAny_bind (wpAny_mono h₁' (fun _ s₂ h₂=>wpAny_bind (wpAny_mono h₂ (fun ok s₃ h₃=>?_) fun _ _ h'=>False.elim h')) fun _ _ h'=>False.elim h')
  cases ok with
  | false=>exact wpAny_pure ⟨rfl,h₃⟩
  | true =>
   exact wpAny_bind (wpAny_bind (wpAny_mono h₃ (fun x s₄ h₄=>wpAny_bind (wpAny_mono h₄ (fun _ s₅ h₅=>wpAny_pure (wpAny_pure ⟨rfl,h₅⟩)) fun _ _ h'=>False.elim h')) fun _ _ h'=>False.elim h'))
def LCW (J:It) (tc:TT) (te:TE) (σ:St) (js:List Nat) (Q:VK) (H1:Hp) (d:Addr):Prop:=∃ W:Nat->Nat->List V->Hp->Prop,(∃ m,W 0 m [] (upd H1 d (.lst [])))/\
 ∀ i m ys H2,W i m ys H2->H2 d=some (.lst ys)/\((J.stop i H2/\Q (.ref d) H2)\/(J.go i H2/\ys.length < sizeLine/\∀ v H3,J.yld i H2 v H3->
  tc (some v :: capv σ js) H3 fun b H4=>if b=true then te (some v :: capv σ js) H4 fun y H5=>H5 d=some (.lst ys)/\∃ m',m' < m/\W (i + 1) m' (ys ++ [y]) (upd H5 d (.lst (ys ++ [y])))
   else ∃ m',m' < m/\W (i + 1) m' ys H4))
def tLC (wi:TI) (tc:TT) (te:TE) (js:List Nat):TE:=fun σ H Q=>wi σ H fun J H1=>∀ d,H1 d=none->LCW J tc te σ js Q H1 d
section
variable {X:Cx} {elt iter:Expr} {ifs:List Expr} {x y:Str} {px py:Pos} {scope:Scope} {cl:List (Str × Addr)} {pos spos:Pos} {wi:TI} {tc:TT} {te:TE} {caps:List Str} {js:List Nat} {i:Nat}
theorem comp_core {p0:Pos} {use:Option (Value->Sem Unit)} {QV:Value->Shared->Prop} {Q:VK} {pins:List (Addr × Obj)} {s:Shared} {σ:St} {H:Hp} (hc:X.calm=true) (hp:PI X (.Name x px) iter wi)
  (he:∀ (C:Addr) (fp:List Addr) (s:Shared) (H:Hp),PE (X.block (x :: caps) scope cl C fp s H) elt te)
  (ht:∀ (C:Addr) (fp:List Addr) (s:Shared) (H:Hp),PTs (X.block (x :: caps) scope cl C fp s H) ifs tc)
  (hcell:∀ p∈scope.names,p.2≠.cell) (hnames:∀ p∈scope.names,p.2=.local->scope.names.lookup p.1=some .local) (hnd:(x :: caps).Nodup)
  (hsub:∀ p∈cl,X.env.cells.lookup p.1=some p.2) (hhas:∀ p∈scope.names,p.2=.free->∃ c,cl.lookup p.1=some c) (hlen:caps.length=js.length)
  (hcaps:∀ (k:Nat) (c:Str),caps[k]?=some c->∃ (j:Nat) (a:Addr),js[k]?=some j/\X.N[j]?=some c/\X.env.scope.names.lookup c=some .cell/\cl.lookup c=some a/\(relabel scope X.env).names.lookup c=some .cell)
  (hclos:closureFor scope X.env=pure cl) (hkind:scope.kind=.function) (hx:scope.names.lookup x=some .local) (hs:∀ v,foldedSetIterable iter X.env v=pure v)
  (I:Inv X pins σ H s) (h:tLC wi tc te js σ H Q)
  (fin:∀ (d:Addr) (H':Hp) (s5:Shared) (C:Addr),Inv X pins σ H' s5->Q (.ref d) H'->(∃ m,s5.heap.Ns C m)->FpOk X pins H' C->compPost (model X.prog X.w) X.A X.xe use QV (.ref d) C (.ok .next) s5) :
  wpAny (model X.prog X.w) X.A (comprehension (.ListComp elt [⟨.Name x px,iter,ifs,0⟩] scope pos) scope X.env p0 (newList []) false (eval iter X.env) use) QV X.xe s:=by
 refine wpAny_comprehension_free (cl:=cl) (use:=use) (Q:=QV) rfl hs hclos hkind hnames (thn (hp pins s σ H _ I h) fun v s1 h1=>thn h1 fun itv s2 h2=>?_);obtain ⟨it,fp,tn,J,H2,e,I2,T,st2,f2,h3⟩:=h2;subst e;have hfr:H2 s2.heap.objs.size=none:=I2.hok.fresh (Nat.le_refl _);obtain ⟨W,⟨m0,w0⟩,hW⟩:=h3 s2.heap.objs.size hfr;refine wpAny_newObj_type (wpAny_newFunctionEnv hcell (by intro y hy;simp at hy) (fun h₁ hns₁ hsb₁=>?_) hkind);dsimp only at hns₁ hsb₁ ⊢;generalize hH2:s2.heap.push { cls:=.type "list",dict:=none,data:=.seq ([]:List Value).toArray }=G at hns₁ hsb₁ ⊢;have hC:G.objs.size=s2.heap.objs.size + 1:=by rw [<- hH2,Heap.size_push]
 have hDC:s2.heap.objs.size≠G.objs.size:=by rw [hC];exact Nat.ne_of_lt (Nat.lt_succ_self _)
 have hCle:s2.heap.objs.size<=G.objs.size:=by rw [hC];exact Nat.le_succ _
 have old:∀ b o,s2.heap.get? b=some o->h₁.get? b=some o:=fun b o e=>hsb₁.extBut b o (by rw [hC];exact Nat.ne_of_lt (Nat.lt_succ_of_lt (lt_size e))) (get?_push_of_some _ (hH2 ▸ get?_push_of_some _ e));have hacc:h₁.get? s2.heap.objs.size=some { cls:=.type "list",dict:=none,data:=.seq ([]:List Value).toArray }:=hsb₁.extBut _ _ hDC (get?_push_of_some _ (hH2 ▸ get?_push_size _ rfl));have fl:∀ b∈fp,b < s2.heap.objs.size:=fun b hb=>by
  obtain ⟨o,e,_⟩:=T.obj _ _ st2 b hb;exact lt_size e
 have hDf:s2.heap.objs.size ∉ fp:=fun hm=>Nat.lt_irrefl _ (fl _ hm);have hok1:HOk X.prog X.w (upd H2 s2.heap.objs.size (.lst [])) h₁:=I2.hok.laid old (Nat.le_refl _) ⟨Nat.zero_le _,[],0,.nil,hacc⟩;have IY0:∀ tk,Inv (X.block (x :: caps) scope cl G.objs.size fp s2 H2) [] (none :: capv σ js) (upd H2 s2.heap.objs.size (.lst [])) { s2 with heap:=h₁,toks:=tk }:=fun tk=>by
  refine ⟨block_ok I2 hCle f2 fl hkind hcell hsub hhas,rfl,I2.bare,Un.laid old (Nat.le_refl _) hfr,⟨_,hns₁,fun k z v e1 e2 e3=>?_⟩,fun z c e=>?_,?_,fun z c e=>?_,fun p hp=>absurd hp (by simp),hok1,?_⟩
  ·cases k with
   | zero=>simp at e2
   | succ k =>
    have e1':caps[k]?=some z:=by simpa using e1
    have e2':(capv σ js)[k]?=some (some v):=by simpa using e2
    obtain ⟨j,a,q1,q2,q3,q4,q5⟩:=hcaps k z e1';obtain ⟨j',r1,r2⟩:=capv_get e2';rw [q1] at r1;cases r1;obtain ⟨m,hm,hl⟩:=I2.loc;obtain ⟨u,ru,lu⟩:=hl j z v q2 r2 (.inr (.inl q3));refine ⟨u,ru,.inr ⟨.inl q5,a,q4,?_⟩⟩;rcases lu with ⟨k1,_⟩ | ⟨_,c,ec,o,ho,hd⟩
    ·have k1':X.env.scope.names.lookup z=some .local:=k1;rw [q3] at k1';cases k1'
    ·have:=hsub _ (mem_of_lookup q4);rw [ec] at this;cases this;exact ⟨o,old _ _ ho,hd⟩
  ·obtain ⟨v,o,ho,hd⟩:=I2.cell z c (hsub _ (mem_of_lookup e));exact ⟨v,o,old _ _ ho,hd⟩
  ·show upd H2 s2.heap.objs.size (.lst []) G.objs.size=none;rw [Ja hDC.symm];exact I2.hok.fresh hCle
  ·have ec:=hsub _ (mem_of_lookup e);obtain ⟨v,o,ho,hd⟩:=I2.cell z c ec;rw [Ja (Nat.ne_of_lt (lt_size ho))];exact I2.freeC z c ec
  ·show (none :: capv σ js).length=(x :: caps).length;unfold capv;simp [hlen]
 have stat:∀ {H':Hp},(∀ b∈fp,H' b=none)->∀ b∈fp,FpOk (X.block (x :: caps) scope cl G.objs.size fp s2 H2) [] H' b:=fun hn b hb =>
  ⟨hn b hb,Nat.ne_of_lt (Nat.lt_of_lt_of_le (fl b hb) hCle),(block_ok (x:=x) (caps:=caps) I2 hCle f2 fl hkind hcell hsub hhas).exfs b hb,.inl hb,fun z c e=>(f2 b hb).2.2.2.2.1 z c (hsub _ (mem_of_lookup e)),fun p hp=>absurd hp (by simp)⟩
 have hxl:(relabel scope X.env).names.lookup x=some .local:=lookup_relabel_local hx;have loop:∀ tk,codeAny (model X.prog X.w) X.A (.compLoop (.ListComp elt [⟨.Name x px,iter,ifs,0⟩] scope pos) 0 (.ref it) (.ref s2.heap.objs.size) (compEnvC scope cl G.objs.size X.env))
   (compPost (model X.prog X.w) X.A X.xe use QV (.ref s2.heap.objs.size) G.objs.size) { s2 with heap:=h₁,toks:=tk }:=fun tk=>by
  refine J13 (fun m s'=>∃ (k:Nat) (o:Option V) (ys:List V) (H':Hp),Inv (X.block (x :: caps) scope cl G.objs.size fp s2 H2) [] (o :: capv σ js) H' s'/\tn k s'.heap/\(∀ b∈fp,H' b=none)/\W k m ys H') ?_ m0
   ⟨0,none,[],_,IY0 tk,T.keep _ _ _ st2 fun b hb o e=>old b o e,fun b hb=>by
    rw [Ja (show b≠s2.heap.objs.size from fun e=>hDf (by rw [<- e];exact hb))];exact (f2 b hb).1,w0⟩
  rintro m s3 ⟨k,o,ys,H',I3,st3,fr3,w3⟩;obtain ⟨hd,hW3⟩:=hW k m ys H' w3;rcases hW3 with ⟨stop,q⟩ | ⟨go,hz,step⟩
  ·refine thn (T.done (X.block (x :: caps) scope cl G.objs.size fp s2 H2) rfl rfl rfl hc k [] s3 _ _ (fun _ _=>False) I3 (stat fr3) st3 stop) fun r s4 h9=>?_;obtain ⟨hr,I4⟩:=h9;subst hr;have J5:Inv X pins σ H' s4:=I2.call' (ch:=fp) I4.os I4.base I4.hok I4.bare fun b hb=>⟨(f2 b hb).2.2.2.1,(f2 b hb).2.1,(f2 b hb).2.2.2.2.1,(f2 b hb).2.2.2.2.2⟩;exact fin _ H' s4 _ J5 q (by obtain ⟨m,q,_⟩:=I4.loc;exact ⟨m,q⟩) (I2.fpOk hCle I4.free)
  ·refine thn (T.item (X.block (x :: caps) scope cl G.objs.size fp s2 H2) rfl rfl rfl hc k [] s3 _ _ (fun _ _=>False) I3 (stat fr3) st3 go) fun r s4 h9=>?_;obtain ⟨u,hr,h4⟩:=h9;subst hr;refine thn h4 fun _ s5 h9=>?_;obtain ⟨v,H5,I5,r5,y5,st5,fr5⟩:=h9;have I5':=I5.pinned (stat fr5) (T.obj _ _ st5);have stp:=step v H5 y5;refine thn (Jz (X:=X.block (x :: caps) scope cl G.objs.size fp s2 H2) (i:=0) (pos:=px) hnd rfl (.inl hxl) (.inr hxl) _ s5 _ _ _ u
    (fun σ' H'=>σ'=some v :: capv σ js/\H'=H5) I5' r5 ⟨rfl,rfl⟩) fun _ s6 h9=>?_
   obtain ⟨σ6,H6,I6,q6⟩:=h9;obtain ⟨rfl,rfl⟩:=q6;refine thn (ht _ _ _ _ _ s6 _ _ _ I6 stp) fun ok s7 h9=>?_;obtain ⟨H7,I7,q7⟩:=h9;have back:∀ {s8:Shared} {H8:Hp} {o8:Option V} {ys8:List V} {m':Nat},Inv (X.block (x :: caps) scope cl G.objs.size fp s2 H2) ([] ++ pinsAt fp s5.heap) (o8 :: capv σ js) H8 s8->m' < m->W (k + 1) m' ys8 H8->
     ∃ m',m' < m/\∃ (k:Nat) (o:Option V) (ys:List V) (H':Hp),Inv (X.block (x :: caps) scope cl G.objs.size fp s2 H2) [] (o :: capv σ js) H' s8/\tn k s8.heap/\(∀ b∈fp,H' b=none)/\W k m' ys H':=fun {s8 H8 o8 ys8 m'} I8 hm w8=>by
    refine ⟨m',hm,k + 1,o8,ys8,H8,I8.unpinned,T.keep _ _ _ st5 fun b hb o e=>(I8.pin (b,o) (mem_append_right _ (mem_append_right _ (J19 hb e)))).1,fun b hb=>?_,w8⟩;obtain ⟨o,e,d⟩:=T.obj _ _ st5 b hb;exact (I8.pin (b,o) (mem_append_right _ (mem_append_right _ (J19 hb e)))).2.1
   cases ok with
   | false =>
    have q7':∃ m',m' < m/\W (k + 1) m' ys H7:=by
     have:=q7;rwa [if_neg (by decide)] at this
    obtain ⟨m',hm,w8⟩:=q7';exact back I7 hm w8
   | true =>
    have q7':te (some v :: capv σ js) H7 fun y H5=>H5 s2.heap.objs.size=some (.lst ys)/\∃ m',m' < m/\W (k + 1) m' (ys ++ [y]) (upd H5 s2.heap.objs.size (.lst (ys ++ [y]))):=by
     have:=q7;rwa [if_pos rfl] at this
    refine (show wpAny _ _ _ _ _ _ from thn (he _ _ _ _ _ s7 _ _ _ I7 q7') fun u8 s8 h9=>?_);obtain ⟨v8,H8,I8,r8,hd8,m',hm,w8⟩:=h9;refine thn (J2o (X:=X.block (x :: caps) scope cl G.objs.size fp s2 H2) _ s8 _ _ (.ref s2.heap.objs.size) [v8] (.ref s2.heap.objs.size) [u8]
     (fun _ H'=>H'=upd H8 s2.heap.objs.size (.lst (ys ++ [v8]))) I8 rfl (.cons r8 .nil) ⟨s2.heap.objs.size,_,v8,rfl,rfl,hd8,hz,rfl⟩) fun _ s9 h9=>?_
    obtain ⟨_,H9,I9,_,q9⟩:=h9;subst q9;exact back I9 hm w8
 have st1:tn 0 h₁:=T.keep _ _ _ st2 fun b hb o e=>old b o e;exact codeAny_compStart_list (loop _) (T.self X.A 0 _ _ _ st1 (loop _))
def capsOk (X:Cx) (scope:Scope) (cl:List (Str × Addr)) (caps:List Str) (js:List Nat):Bool :=
 (caps.zip js).all fun q=>X.N[q.2]? == some q.1 && X.env.scope.names.lookup q.1 == some .cell && (cl.lookup q.1).isSome && (relabel scope X.env).names.lookup q.1 == some .cell
theorem capsOk.get (hlen:caps.length=js.length) (h:capsOk X scope cl caps js=true):∀ (k:Nat) (c:Str),caps[k]?=some c->∃ (j:Nat) (a:Addr),js[k]?=some j/\X.N[j]?=some c/\X.env.scope.names.lookup c=some .cell/\cl.lookup c=some a/\(relabel scope X.env).names.lookup c=some .cell:=fun k c hk=>by
 have hkl:k < caps.length:=(List.getElem?_eq_some_iff.mp hk).1;have hj:js[k]?=some (js[k]'(hlen ▸ hkl)):=List.getElem?_eq_getElem (hlen ▸ hkl);have hm:(c,js[k]'(hlen ▸ hkl))∈caps.zip js:=by
  refine List.mem_iff_getElem?.mpr ⟨k,?_⟩;rw [List.getElem?_zip_eq_some];exact ⟨hk,hj⟩
 have:=all_eq_true.mp h _ hm;simp only [Bool.and_eq_true,beq_iff_eq] at this;obtain ⟨⟨⟨q1,q2⟩,q3⟩,q4⟩:=this;obtain ⟨a,ha⟩:=isSome_iff_exists.mp q3;exact ⟨_,a,hj,q1,q2,ha,q4⟩
def freeOk (scope:Scope) (cl:List (Str × Addr)):Bool:=scope.names.all fun p=>p.2 != .free || (cl.lookup p.1).isSome
theorem freeOk.get (h:freeOk scope cl=true):∀ p∈scope.names,p.2=.free->∃ c,cl.lookup p.1=some c:=fun p hp' e=>by
 have:=all_eq_true.mp h p hp';rw [e] at this;exact isSome_iff_exists.mp (by simpa using this)
theorem pe_lc (hc:X.calm=true) (hp:PI X (.Name x px) iter wi) (hclos:closureFor scope X.env=pure cl)
  (ht:∀ (C:Addr) (fp:List Addr) (s:Shared) (H:Hp),PTs (X.block (x :: caps) scope cl C fp s H) ifs tc)
  (he:∀ (C:Addr) (fp:List Addr) (s:Shared) (H:Hp),PE (X.block (x :: caps) scope cl C fp s H) elt te)
  (hcell:∀ p∈scope.names,p.2≠.cell) (hnames:∀ p∈scope.names,p.2=.local->scope.names.lookup p.1=some .local) (hnd:(x :: caps).Nodup)
  (hsub:∀ p∈cl,X.env.cells.lookup p.1=some p.2)
  (hhas:freeOk scope cl=true:=by rfl) (hlen:caps.length=js.length:=by rfl) (hcaps:capsOk X scope cl caps js=true:=by rfl)
  (hkind:scope.kind=.function:=by rfl) (hx:scope.names.lookup x=some .local:=by rfl) (hs:∀ v,foldedSetIterable iter X.env v=pure v:=by intro _;rfl) :
  PE X (.ListComp elt [⟨.Name x px,iter,ifs,0⟩] scope pos) (tLC wi tc te js):=by
 intro pins s σ H Q I h;rw [eval_ListComp];refine comp_core (use:=none) hc hp he ht hcell hnames hnd hsub (freeOk.get hhas) hlen (capsOk.get hlen hcaps) hclos hkind hx hs I h fun d H' s5 C J5 q hC fp=>?_;obtain ⟨m,nsC⟩:=hC;exact ⟨m,nsC,fun h' hs'=>⟨.ref d,H',J5.turned (h':=h') (t':=s5.toks) (it:=C) (fun b o hb e=>(hs'.2 b hb).trans e) fp.1 fp.2.1 fp.2.2.2.1 fp.2.2.2.2.1 fp.2.2.2.2.2,rfl,q⟩⟩
end
theorem lc_over {J:It} {H1:Hp} {tc:TT} {te:TE} {σ:St} {js:List Nat} {Q:VK} {d:Addr} (n:Nat) (g:Nat->Bool) (f:Nat->V) (hd:H1 d=none) (hn:n<=1000)
  (hgo:∀ i H,i < n->Same H1 H->J.go i H) (hst:∀ H,Same H1 H->J.stop n H) (vv:Nat->V) (hy:∀ i H v H',i < n->Same H1 H->J.yld i H v H'->H'=H/\v=vv i)
  (hs:∀ i H Qt,i < n->Same H1 H->(∀ H',Same H H'->Qt (g i) H')->tc (some (vv i) :: capv σ js) H Qt)
  (he:∀ i H Qe,i < n->g i=true->Same H1 H->(∀ H',Same H H'->Qe (f i) H')->te (some (vv i) :: capv σ js) H Qe)
  (hq:∀ H',Same H1 H'->H' d=some (.lst (((List.range n).filter g).map f))->Q (.ref d) H') :
  ∃ W:Nat->Nat->List V->Hp->Prop,(∃ m,W 0 m [] (upd H1 d (.lst [])))/\
   ∀ i m ys H2,W i m ys H2->H2 d=some (.lst ys)/\((J.stop i H2/\Q (.ref d) H2)\/(J.go i H2/\ys.length < sizeLine/\∀ v H3,J.yld i H2 v H3->
    tc (some v :: capv σ js) H3 fun b H4=>if b=true then te (some v :: capv σ js) H4 fun y H5=>H5 d=some (.lst ys)/\∃ m',m' < m/\W (i + 1) m' (ys ++ [y]) (upd H5 d (.lst (ys ++ [y])))
     else ∃ m',m' < m/\W (i + 1) m' ys H4)):=by
 have s0:∀ o,Same H1 (upd H1 d o):=fun o b u e=>by rw [Ja (J6 e hd)];exact e
 refine ⟨fun i m ys H=>m=n - i/\i<=n/\ys=((List.range i).filter g).map f/\Same H1 H/\H d=some (.lst ys),⟨n,rfl,Nat.zero_le _,rfl,s0 _,upd_same⟩,?_⟩;rintro i m ys H2 ⟨rfl,hi,rfl,sm,h2⟩;refine ⟨h2,?_⟩;by_cases hlt:i < n
 ·refine .inr ⟨hgo i H2 hlt sm,?_,fun v H3 y3=>?_⟩
  ·have h1:(((List.range i).filter g).map f).length<=i:=by
    rw [length_map];exact Nat.le_trans (List.length_filter_le _ _) (by rw [length_range];exact Nat.le_refl _)
   exact Jt (by omega)
  ·obtain ⟨rfl,rfl⟩:=hy i H2 v H3 hlt sm y3;refine hs i H3 _ hlt sm fun H4 s4=>?_
   cases hg:g i with
   | false =>
    rw [if_neg (by decide)];refine ⟨n - (i + 1),by omega,rfl,hlt,?_,sm.trans s4,s4 _ _ h2⟩;rw [range_succ,List.filter_append,map_append];simp [hg]
   | true =>
    rw [if_pos rfl];refine he i H4 _ hlt hg (sm.trans s4) fun H5 s5=>⟨s5 _ _ (s4 _ _ h2),n - (i + 1),by omega,rfl,hlt,?_,?_,upd_same⟩
    ·rw [range_succ,List.filter_append,map_append];simp [hg]
    ·intro b u e;rw [Ja (J6 e hd)];exact s5 _ _ (s4 _ _ (sm _ _ e))
 ·have e:i=n:=by omega
  subst e;exact .inl ⟨hst H2 sm,hq H2 sm h2⟩
theorem Same.tup {K:Frag} {H H':Hp} {a:Addr} {xs:List V} (e:Same H H') (h:SqT K H a xs):SqT K H' a xs:=by
 rcases h with (h | ⟨o,h⟩) | h
 ·exact .inl (.inl (e _ _ h))
 ·exact .inl (.inr ⟨o,e _ _ h⟩)
 ·exact .inr h
theorem pick_all {α:Type} (G:α->Bool) (F:α->V):∀ xs:List α,
  ((List.range xs.length).filter fun i=>match xs[i]? with | some v=>G v | none=>false).map (fun i=>match xs[i]? with | some v=>F v | none=>V.non)=(xs.filter G).map F
 | []=>rfl
 | a :: r=>by
  have ih:=pick_all G F r;rw [length_cons,List.range_succ_eq_map,List.filter_cons,List.filter_map,List.filter_cons];have e:(fun i=>match (a :: r)[i]? with | some v=>G v | none=>false) ∘ Nat.succ=fun i=>match r[i]? with | some v=>G v | none=>false:=by
   funext i;simp
  have e2:(fun i=>match (a :: r)[i]? with | some v=>F v | none=>V.non) ∘ Nat.succ=fun i=>match r[i]? with | some v=>F v | none=>V.non:=by
   funext i;simp
  rw [e]
  cases hg:G a with
  | true =>
   simp only [List.getElem?_cons_zero,hg,if_true,map_cons,map_map];rw [e2,ih]
  | false =>
   simp only [List.getElem?_cons_zero,hg,Bool.false_eq_true,if_false,map_map];rw [e2,ih]
section
variable {α:Type} {K:Frag} {a:Addr} {H1:Hp} {tc:TT} {te:TE} {σ:St} {js:List Nat} {Q:VK} {d:Addr}
theorem lc_seq {J:It} (e:α->V) (xs:List α) (G:α->Bool) (F:α->V) (hn:xs.length<=1000) (hd:H1 d=none)
  (hgo:∀ i H,i < xs.length->Same H1 H->J.go i H) (hst:∀ H,Same H1 H->J.stop xs.length H) (hy:∀ i H v H',i < xs.length->Same H1 H->J.yld i H v H'->H'=H/\(xs.map e)[i]?=some v)
  (hs:∀ v∈xs,∀ H Qt,Same H1 H->(∀ H',Same H H'->Qt (G v) H')->tc (some (e v) :: capv σ js) H Qt)
  (he:∀ v∈xs,∀ H Qe,G v=true->Same H1 H->(∀ H',Same H H'->Qe (F v) H')->te (some (e v) :: capv σ js) H Qe)
  (hq:∀ H',Same H1 H'->H' d=some (.lst ((xs.filter G).map F))->Q (.ref d) H'):LCW J tc te σ js Q H1 d:=by
 have at_:∀ i,i < xs.length->∃ v,xs[i]?=some v/\v∈xs:=fun i hi=>⟨_,List.getElem?_eq_getElem hi,List.getElem_mem hi⟩
 refine lc_over xs.length (fun i=>match xs[i]? with | some v=>G v | none=>false) (fun i=>match xs[i]? with | some v=>F v | none=>V.non) hd hn hgo hst (fun i=>((xs.map e)[i]?).getD .non)
  (fun i H v H' hi s y=>?_) (fun i H Qt hi s k=>?_) (fun i H Qe hi hg s k=>?_) (fun H' s h=>?_)
 ·obtain ⟨e1,e2⟩:=hy i H v H' hi s y;exact ⟨e1,by rw [e2];rfl⟩
 ·obtain ⟨v,e1,hv⟩:=at_ i hi
  rw [getElem?_map,e1];refine hs v hv H Qt s fun H' s'=>?_;have:=k H' s';rw [e1] at this;exact this
 ·obtain ⟨v,e1,hv⟩:=at_ i hi
  rw [e1] at hg;rw [getElem?_map,e1];refine he v hv H Qe hg s fun H' s'=>?_;have:=k H' s';rw [e1] at this;exact this
 ·rw [pick_all] at h;exact hq H' s h
theorem lc_tup (e:α->V) (xs:List α) (G:α->Bool) (F:α->V) (hx:SqT K H1 a (xs.map e)) (hn:xs.length<=1000) (hd:H1 d=none)
  (hs:∀ v∈xs,∀ H Qt,Same H1 H->(∀ H',Same H H'->Qt (G v) H')->tc (some (e v) :: capv σ js) H Qt)
  (he:∀ v∈xs,∀ H Qe,G v=true->Same H1 H->(∀ H',Same H H'->Qe (F v) H')->te (some (e v) :: capv σ js) H Qe)
  (hq:∀ H',Same H1 H'->H' d=some (.lst ((xs.filter G).map F))->Q (.ref d) H'):LCW (Itt K a) tc te σ js Q H1 d :=
 lc_seq e xs G F hn hd (fun i H hi s=>⟨_,_,s.tup hx,by rw [getElem?_map,List.getElem?_eq_getElem hi];rfl⟩) (fun H s=>⟨_,s.tup hx,by rw [length_map];exact Nat.le_refl _⟩)
  (fun i H v H' hi s y=>⟨y.1,y.2 _ (s.tup hx)⟩) hs he hq
theorem lc_lst (e:α->V) (xs:List α) (G:α->Bool) (F:α->V) (hx:SqL K H1 a (xs.map e)) (hn:xs.length<=1000) (hd:H1 d=none)
  (hs:∀ v∈xs,∀ H Qt,Same H1 H->(∀ H',Same H H'->Qt (G v) H')->tc (some (e v) :: capv σ js) H Qt)
  (he:∀ v∈xs,∀ H Qe,G v=true->Same H1 H->(∀ H',Same H H'->Qe (F v) H')->te (some (e v) :: capv σ js) H Qe)
  (hq:∀ H',Same H1 H'->H' d=some (.lst ((xs.filter G).map F))->Q (.ref d) H'):LCW (Itl K a) tc te σ js Q H1 d :=
 lc_seq e xs G F hn hd (fun i H hi s=>⟨_,_,s.seq hx,by rw [getElem?_map,List.getElem?_eq_getElem hi];rfl⟩) (fun H s=>⟨_,s.seq hx,by rw [length_map];exact Nat.le_refl _⟩)
  (fun i H v H' hi s y=>⟨y.1,y.2 _ (s.seq hx)⟩) hs he hq
theorem lc_rng (lo:Int) (n:Nat) (G:Nat->Bool) (F:Nat->V) (hn:n<=1000) (hd:H1 d=none)
  (hs:∀ i,i < n->∀ H Qt,Same H1 H->(∀ H',Same H H'->Qt (G i) H')->tc (some (.int (lo + i)) :: capv σ js) H Qt)
  (he:∀ i,i < n->∀ H Qe,G i=true->Same H1 H->(∀ H',Same H H'->Qe (F i) H')->te (some (.int (lo + i)) :: capv σ js) H Qe)
  (hq:∀ H',Same H1 H'->H' d=some (.lst (((List.range n).filter G).map F))->Q (.ref d) H'):LCW (Itr lo n) tc te σ js Q H1 d :=
 lc_over n G F hd hn (fun i H hi _=>hi) (fun H _=>Nat.le_refl _) (fun i=>.int (lo + i)) (fun i H v H' hi _ y=>y) (fun i H Qt hi s k=>hs i hi H Qt s k) (fun i H Qe hi hg s k=>he i hi H Qe hg s k) hq
end
theorem J1z {α:Type} (xs:List α):xs.filter (fun _=>true)=xs:=List.filter_eq_self.mpr fun _ _=>rfl
end L2
namespace L2
open PySem PySem.Spec PyProof.Rows
section
variable {X:Cx}
theorem tup_all {xs ys:List V} {its its2:List Value} (l1:xs.length=its.length) (l2:ys.length=its2.length) (hk:Kin xs ys) :
  ((List.range (min its.toArray.size its2.toArray.size)).all (eAt xs ys) && its.toArray.size == its2.toArray.size)=decide (xs=ys):=by
 rw [size_toArray,size_toArray,<- l1,<- l2];by_cases hl:xs.length=ys.length
 ·rw [hl,Nat.min_self,<- hl,all_eAt hl hk];simp
 ·rw [decide_eq_false (fun e=>hl (congrArg List.length e)),show (xs.length == ys.length)=false from by simpa using hl,Bool.and_false]
theorem bools_at {bs:List Bool} {i:Nat} {v:Value} (h:((bs.map Value.bool).toArray)[i]?=some v):v=Value.bool (bs.getD i false):=by
 rw [List.getElem?_toArray,getElem?_map] at h
 cases e:bs[i]? with
 | none=>rw [e] at h;cases h
 | some b =>
  rw [e] at h;rw [getD_eq_getElem?_getD,e];exact (Option.some.inj h).symm
theorem J28 {prog:Program} {w:World} {A:Around} (bs:List Bool):TruthOf prog w A (fun i v=>((bs.map Value.bool).toArray)[i]?=some v) (fun i=>bs.getD i false):=by
 intro i v s Q E hP h;rw [bools_at hP];exact wpAny_truthy_bool h
theorem range_all (bs:List Bool):((List.range bs.length).all fun i=>bs.getD i false)=bs.all id:=by
 have e:(List.range bs.length).map (fun i=>bs.getD i false)=bs:=by
  apply List.ext_getElem
  ·simp
  ·intro n h1 h2;simp [List.getElem?_eq_getElem h2]
 conv=>rhs;rw [<- e]
 rw [List.all_map];rfl
theorem range_any (bs:List Bool):((List.range bs.length).any fun i=>bs.getD i false)=bs.any id:=by
 have e:(List.range bs.length).map (fun i=>bs.getD i false)=bs:=by
  apply List.ext_getElem
  ·simp
  ·intro n h1 h2;simp [List.getElem?_eq_getElem h2]
 conv=>rhs;rw [<- e]
 rw [List.any_map];rfl
theorem call_all (hc:X.calm=true):CallR X (.builtin "all") (fun xs H Q=>∃ (p:Addr) (bs:List Bool),xs=[.ref p]/\SqL X.K H p (bs.map V.bl)/\Q (.bl (bs.all id)) H):=by
 intro pins s σ H xs us Q I r h;obtain ⟨p,bs,rfl,hq,q⟩:=h;obtain ⟨u,rfl,rx⟩:=vals1 r;cases rx;obtain ⟨its,r',pl,hz⟩:=I.list hq;obtain rfl:=J3t r';have hl:=pl.isList;obtain ⟨o,ho,_⟩:=id hl;have hne':p≠s.heap.objs.size:=Nat.ne_of_lt (lt_size ho);refine call_all_walk (wpAny_pyIter_list hl ⟨s.heap.objs.size,_,_,_,_,_,_,rfl,Walks.list (A:=X.A.in1) (I.ok.hd hc) _ p hne' _,⟨⟨_,get?_push_size _ rfl,rfl,rfl⟩,hl.at fun o e=>get?_push_of_some _ e⟩,J28 bs,fun h' tk hk=>?_⟩);rw [size_toArray,length_map,range_all];exact ⟨.bl _,H,I.kept (fun b o e=>hk b o (fun hb=>absurd (lt_size e) ((mem_singleton.mp hb) ▸ Nat.lt_irrefl _)) (get?_push_of_some _ e)),rfl,q⟩
theorem call_any (hc:X.calm=true):CallR X (.builtin "any") (fun xs H Q=>∃ (p:Addr) (bs:List Bool),xs=[.ref p]/\SqL X.K H p (bs.map V.bl)/\Q (.bl (bs.any id)) H):=by
 intro pins s σ H xs us Q I r h;obtain ⟨p,bs,rfl,hq,q⟩:=h;obtain ⟨u,rfl,rx⟩:=vals1 r;cases rx;obtain ⟨its,r',pl,hz⟩:=I.list hq;obtain rfl:=J3t r';have hl:=pl.isList;obtain ⟨o,ho,_⟩:=id hl;have hne':p≠s.heap.objs.size:=Nat.ne_of_lt (lt_size ho);refine call_any_walk (wpAny_pyIter_list hl ⟨s.heap.objs.size,_,_,_,_,_,_,rfl,Walks.list (A:=X.A.in1) (I.ok.hd hc) _ p hne' _,⟨⟨_,get?_push_size _ rfl,rfl,rfl⟩,hl.at fun o e=>get?_push_of_some _ e⟩,J28 bs,fun h' tk hk=>?_⟩);rw [size_toArray,length_map,range_any];exact ⟨.bl _,H,I.kept (fun b o e=>hk b o (fun hb=>absurd (lt_size e) ((mem_singleton.mp hb) ▸ Nat.lt_irrefl _)) (get?_push_of_some _ e)),rfl,q⟩
def rIndexL (K:Frag):V->List V->Hp->VK->Prop:=fun x vs H Q=>∃ (l:Addr) (ns:List Int) (k:Int),x=.ref l/\vs=[.int k]/\SqL K H l (ns.map V.int)/\k∈ns/\Q (.int (ns.idxOf k:Nat)) H
theorem mt_indexL:MtM X "list.index" (rIndexL X.K):=by
 intro pins s σ H x vs v us Q I rx rv h;obtain ⟨l,ns,k,rfl,rfl,hH,hk,q⟩:=h;cases rx;obtain ⟨u1,rfl,⟨t,rfl⟩⟩:=rv.one;obtain ⟨its,r',pl,hz⟩:=I.list hH;have hi:=Je r';have hlen:=hi.length;obtain ⟨⟨cls,dd,data,sl⟩,ho,hc,n,hd⟩:=id pl.isList;simp only at hc hd;subst hc hd;have hj:ns.idxOf k < ns.length:=List.idxOf_lt_length_iff.mpr hk;have h63:=J3o;rw [length_map] at hz;refine call_meets PySem.F.slot_list_index ⟨_,ho,rfl⟩ PySem.F.entry_list_index (PySem.F.args_list_index_2 _ _)
  (SeqAt.list_indexAt l its.toArray n dd sl (.int k t) (isInt k) (ns.idxOf k) (by simpa [hlen] using hj) (by omega) ?_ ?_) ⟨ho,fun y hy=>(eq_isInt k t hi y (by simpa using hy)).at _ _,⟨.int _,H,I.tok _,⟨_,rfl⟩,q⟩⟩
 ·show isInt k its[ns.idxOf k]=true;rw [isInt_at k hi _ (by omega) hj];simpa using getElem_idxOf hj
 ·intro j hjs hlt;show isInt k its[j]=false;rw [isInt_at k hi j (by simpa using hjs) (by omega)];exact ne_of_lt_idxOf hlt _
end
end L2
namespace L2
open PySem PySem.Spec PyProof.Rows
theorem J22 {M:Model} {A:Around} {E:Value->Shared->Prop} {s:Shared} {β:Type} (k:Nat) (f:Nat->β->Sem (ForInStep β)) (I:Nat->β->Shared->Prop) (Q:β->Shared->Prop)
  (turn:∀ i b s,i < k->I i b s->wpAny M A (f i b) (fun r s'=>match r with | .yield b'=>I (i + 1) b' s' | .done b'=>Q b' s') E s)
  (fin:∀ b s,I k b s->Q b s) (b:β) (h:I 0 b s):wpAny M A (forIn ([0:k]:Std.Legacy.Range) b f) Q E s:=by
 rw [Std.Legacy.Range.forIn_eq_forIn_range'];simp only [Std.Legacy.Range.size,Nat.sub_zero,Nat.add_sub_cancel,Nat.div_one];refine wpAny_forIn_list _ (fun rest b s'=>∃ i,rest=List.range' i (k - i)/\i<=k/\I i b s') _ ?_ ?_ _ _ ⟨0,by simp,Nat.zero_le _,h⟩
 ·rintro x rest b s' ⟨i,hr,hi,hI⟩;have hlt:i < k:=by
   rcases Nat.lt_or_ge i k with q | q
   ·exact q
   ·rw [Nat.sub_eq_zero_of_le q] at hr;simp at hr
  obtain ⟨rfl,hrest⟩:x=i/\rest=List.range' (i + 1) (k - (i + 1)):=by
   have e:k - i=(k - (i + 1)) + 1:=by omega
   rw [e,List.range'_succ] at hr;injection hr with h1 h2
   exact ⟨h1,h2⟩
  refine wpAny_mono (turn x b s' hlt hI) (fun r s2 hr2=>?_) fun _ _ z=>z
  cases r with
  | done b'=>exact hr2
  | yield b'=>exact ⟨x + 1,hrest,hlt,hr2⟩
 ·rintro b s' ⟨i,hr,hi,hI⟩;have:i=k:=by
   have:=congrArg List.length hr;simp at this;omega
  subst this;exact fin b s' hI
theorem J2v (l:Addr) (items:Array Value) (n:Nat) (dd:Option Addr) (sl:Array (Option Value)) (x:Value) (e:Value->Bool) (j:Nat) (hj:j < items.size)
  (hit:e items[j]=true) (hno:∀ m (hm:m < items.size),m < j->e items[m]=false) :
  Meets (Builtin.«tuple.index» ⟨[.ref l,x],[]⟩)
   (fun A R s=>s.heap.get? l=some { cls:=.type "tuple",dict:=dd,data:=.seq items n,slots:=sl }/\(∀ y,y∈items->SeqAt.EqAt A.in1 s y x (e y))/\R (.ok (.ret (.int j s.toks))) { s with toks:=s.toks + 1 }) :=
 .of_wp fun prog w A R s h=>by
  obtain ⟨hp,g,d,tk,os⟩:=s;obtain ⟨hl,he,h⟩:=h
  wp_walk using AutoSeq1.wpAny_loadPart' hl,J22 _ _ (fun i b s'=>b=(none,())/\s'=⟨hp,g,d,tk,os⟩/\i<=j) _
  case turn =>
   rintro i b s' hi ⟨rfl,rfl,hij⟩;have hi':i < items.size:=by simpa using hi
   dsimp only;rw [Array.getElem?_eq_getElem hi'];refine wpAny_bind (he _ (Array.getElem_mem hi') prog w _ _ ?_);rcases Nat.lt_or_ge i j with q | q
   ·rw [hno i hi' q]
    wp_walk
    exact ⟨rfl,rfl,q⟩
   ·have:i=j:=by omega
    subst this;rw [hit]
    wp_walk
    exact ⟨_,rfl,h⟩
  case fin =>
   rintro b s' ⟨rfl,rfl,hij⟩;exfalso;simp at hij;omega
  case h=>exact ⟨rfl,rfl,Nat.zero_le _⟩
def rIndexT:V->List V->Hp->VK->Prop:=fun x vs H Q=>∃ (l:Addr) (ns:List Int) (k:Int),x=.ref l/\vs=[.int k]/\H l=some (.tup (ns.map V.int))/\k∈ns/\Q (.int (ns.idxOf k:Nat)) H
theorem mt_indexT {X:Cx}:MtM X "tuple.index" rIndexT:=by
 intro pins s σ H x vs v us Q I rx rv h;obtain ⟨l,ns,k,rfl,rfl,hH,hk,q⟩:=h;cases rx;obtain ⟨u1,rfl,⟨t,rfl⟩⟩:=rv.one;obtain ⟨its,r',pl,hz⟩:=I.tuple (SqT.of hH);have hi:=Je r';have hlen:=hi.length;obtain ⟨⟨cls,dd,data,sl⟩,ho,hc,n,hd⟩:=id pl;simp only at hc hd;subst hc hd;have hj:ns.idxOf k < ns.length:=List.idxOf_lt_length_iff.mpr hk;refine call_meets PySem.F.slot_tuple_index ⟨_,ho,rfl⟩ PySem.F.entry_tuple_index (PySem.F.args_tuple_index_2 _ _)
  (J2v l its.toArray n dd sl (.int k t) (isInt k) (ns.idxOf k) (by simpa [hlen] using hj) ?_ ?_) ⟨ho,fun y hy=>(eq_isInt k t hi y (by simpa using hy)).at _ _,⟨.int _,H,I.tok _,⟨_,rfl⟩,q⟩⟩
 ·show isInt k its[ns.idxOf k]=true;rw [isInt_at k hi _ (by omega) hj];simpa using getElem_idxOf hj
 ·intro j hjs hlt;show isInt k its[j]=false;rw [isInt_at k hi j (by simpa using hjs) (by omega)];exact ne_of_lt_idxOf hlt _
def tBMT (r:V->List V->Hp->VK->Prop) (to:TE) (t:TA):TE:=fun σ H Q=>to σ H fun x H1=>(∃ p xs,x=.ref p/\H1 p=some (.tup xs))/\t σ H1 fun xs H2=>r x xs H2 Q
theorem pe_bmT {X:Cx} {o e:Expr} {es:List Expr} {to:TE} {t:TA} {name:Str} {apos cpos:Pos} {id:String} {r:V->List V->Hp->VK->Prop} (slot:Slot "tuple" name id) (hty:typeOf (.builtin id)=pure (.type "method_descriptor")) (hm:MtR X id r) (ho:PE X o to) (ha:PA X (e :: es) t)
  (hbase:attributeBase o name X.env (eval o X.env)=eval o X.env:=by rfl)
  (hfew:((backTo cpos (starEach (e :: es) X.env)).all (fun x=>!x.1) && (backToKw cpos (keywordEach [] X.env)).all (fun x=>x.1.isSome)
   && decide ((e :: es).length + ([]:List Keyword).length + (if ([]:List Keyword).isEmpty then 0 else 1) < 30))=true:=by rfl)
  (hline:(apos.endLine == cpos.line)=true:=by rfl) (hs:starEach (e :: es) X.env=(false,eval e X.env) :: starEach es X.env:=by rfl) (hplain:(backTo cpos (starEach es X.env)).any (·.1)=false:=by rfl) :
  PE X (.Call (.Attribute o name apos) (e :: es) [] cpos) (tBMT r to t):=by
 intro pins s σ H Q I h;refine wpAny_Call_method_late hbase hfew hline rfl (thn (ho pins s σ H _ I h) fun v s1 h9=>?_);obtain ⟨x,H1,I1,r1,ty,q1⟩:=h9;obtain ⟨p,xs,rfl,hp⟩:=ty;obtain rfl:v=Value.ref p:=r1;obtain ⟨_,its,_,o,e1,⟨c1,c2⟩,_⟩:=(show ObjOk X.prog X.w H1 s1.heap p (.tup xs) from I1.hok p _ hp);refine ⟨"tuple",id,PySem.F.plainAttrs_tuple,slot,hty,⟨o,e1,c1⟩,fun a e2=>by cases e2;exact ⟨o,e1,c2⟩,?_⟩;have hA:=ha cpos pins s1 σ H1 _ I1 q1;rw [hs] at hA ⊢;refine Calls.callWith_builtin (by show (false || (backTo cpos (starEach es X.env)).any (·.1))=false;rw [hplain] <;> rfl) (Calls.evalArgs_plain ?_);exact thn hA fun us s2 h9=>by obtain ⟨vs,H2,I2,r2,q2⟩:=h9;exact hm pins s2 σ H2 (.ref p) vs (.ref p) us Q I2 rfl r2 q2
end L2
namespace L2
open PySem PySem.Spec PyProof.Rows
end L2
namespace L2
open PySem PySem.Spec PyProof.Rows
theorem items_at {xs:List V} {its:List Value} (r:Vals xs its) {j:Nat} (h:j < its.toArray.size):∃ a,xs[j]?=some a/\RelV a its.toArray[j]:=by
 have l1:=r.length;have h':j < its.length:=by rw [size_toArray] at h;exact h
 have g1:xs[j]?=some (xs[j]'(by omega)):=List.getElem?_eq_getElem (by omega);obtain ⟨u,e1,ru⟩:=r.get g1;have e1':its.toArray[j]=u:=by
  have:=List.getElem?_eq_getElem h';rw [e1] at this;simpa using (Option.some.inj this).symm
 exact ⟨_,g1,by rw [e1'];exact ru⟩
theorem pe_bmK {X:Cx} {T:String} {name:Str} {id:String} {r:V->List V->Hp->VK->Prop} {o e:Expr} {es:List Expr} {to:TE} {t:TA} {apos cpos:Pos} (K:Frag) (pa:PlainAttrs T) (slot:Slot T name id) (hty:typeOf (.builtin id)=pure (.type "method_descriptor")) (hm:MtR X id r) (ho:PE X o to) (ha:PA X (e :: es) t)
  (h:X.K=K:=by rfl) (hbase:attributeBase o name X.env (eval o X.env)=eval o X.env:=by rfl)
  (hfew:((backTo cpos (starEach (e :: es) X.env)).all (fun x=>!x.1) && (backToKw cpos (keywordEach [] X.env)).all (fun x=>x.1.isSome)
   && decide ((e :: es).length + ([]:List Keyword).length + (if ([]:List Keyword).isEmpty then 0 else 1) < 30))=true:=by rfl)
  (hline:(apos.endLine == cpos.line)=true:=by rfl) (hs:starEach (e :: es) X.env=(false,eval e X.env) :: starEach es X.env:=by rfl) (hplain:(backTo cpos (starEach es X.env)).any (·.1)=false:=by rfl) :
  PE X (.Call (.Attribute o name apos) (e :: es) [] cpos) (tBM K T r to t):=by
 subst h;exact pe_bm pa slot hty hm ho ha hbase hfew hline hs hplain
theorem mt_indexLK {X:Cx} (K:Frag) (h:X.K=K:=by rfl):MtM X "list.index" (rIndexL K):=by subst h;exact mt_indexL
end L2
namespace L2
open PySem PySem.Spec PyProof.Rows
section
variable {κ:Type} [DecidableEq κ]
def valV (kvs:List (κ × V)) (k:κ):Option V:=(kvs.find? fun kv=>decide (kv.1=k)).map (·.2)
def putK (kvs:List (κ × V)) (k:κ) (v:V):List (κ × V) :=
 if (kvs.any fun kv=>decide (kv.1=k))=true then kvs.map (fun kv=>if kv.1=k then (kv.1,v) else kv) else kvs ++ [(k,v)]
theorem Jn {p:κ × V} {r:List (κ × V)} {k:κ} (e:p.1=k):valV (p :: r) k=some p.2:=by simp [valV,find?_cons,e]
theorem Jo {p:κ × V} {r:List (κ × V)} {k:κ} (e:¬ p.1=k):valV (p :: r) k=valV r k:=by simp [valV,find?_cons,e]
theorem J1m (k:κ):∀ kvs:List (κ × V),(kvs.any fun kv=>decide (kv.1=k))=(valV kvs k).isSome
 | []=>rfl
 | p :: r=>by
  rw [List.any_cons];by_cases e:p.1=k
  ·simp only [Jn e,decide_eq_true e,Bool.true_or,Option.isSome_some]
  ·rw [Jo e,decide_eq_false e,Bool.false_or];exact J1m k r
theorem valV_map (k j:κ) (y:V):∀ kvs:List (κ × V),valV (kvs.map fun kv=>if kv.1=k then (kv.1,y) else kv) j=(valV kvs j).map fun x=>if j=k then y else x
 | []=>rfl
 | p :: r=>by
  have ih:=valV_map k j y r;rw [map_cons];by_cases h:p.1=k
  ·rw [if_pos h];by_cases e:p.1=j
   ·rw [Jn (p:=(p.1,y)) e,Jn e,map_some,if_pos (e.symm.trans h)]
   ·rw [Jo (p:=(p.1,y)) e,Jo e,ih]
  ·rw [if_neg h];by_cases e:p.1=j
   ·rw [Jn (p:=p) e,Jn e,map_some,if_neg (fun z=>h (e.trans z))]
   ·rw [Jo (p:=p) e,Jo e,ih]
theorem valV_snoc (k j:κ) (y:V):∀ kvs:List (κ × V),valV kvs k=none->valV (kvs ++ [(k,y)]) j=if j=k then some y else valV kvs j
 | [],_=>by
  by_cases e:k=j
  ·rw [if_pos e.symm];exact Jn (p:=(k,y)) e
  ·rw [if_neg (fun z=>e z.symm)];exact Jo (p:=(k,y)) e
 | p :: r,hn=>by
  rw [cons_append];have hk:¬ p.1=k:=fun z=>by rw [Jn z] at hn;cases hn
  rw [Jo hk] at hn;have ih:=valV_snoc k j y r hn;by_cases e:p.1=j
  ·rw [Jn e,Jn e,if_neg (fun z=>hk (e.trans z))]
  ·rw [Jo e,Jo e,ih]
theorem valV_put (kvs:List (κ × V)) (k j:κ) (y:V):valV (putK kvs k y) j=if j=k then some y else valV kvs j:=by
 unfold putK;by_cases a:(kvs.any fun kv=>decide (kv.1=k))=true
 ·rw [if_pos a,valV_map];rw [J1m] at a;by_cases e:j=k
  ·obtain ⟨x,hx⟩:=isSome_iff_exists.mp a;rw [if_pos e,e,hx,map_some,if_pos rfl]
  ·rw [if_neg e]
   cases valV kvs j with
   | none=>rfl
   | some x=>rw [map_some,if_neg e]
 ·rw [if_neg a];refine valV_snoc k j y kvs ?_;rw [J1m] at a
  cases q:valV kvs k with
  | none=>rfl
  | some x=>rw [q] at a;exact (a rfl).elim
theorem J2d (kvs:List (κ × V)) (k:κ) (v:V):(putK kvs k v).length<=kvs.length + 1:=by
 unfold putK;split
 ·rw [length_map];omega
 ·rw [length_append,length_cons,length_nil];omega
theorem RelO.isSome_eq {o:Option V} {u:Option Value} (r:RelO o u):o.isSome=u.isSome:=by
 cases o with
 | none=>cases u with
  | none=>rfl
  | some _=>exact (show False from r).elim
 | some _=>cases u with
  | none=>exact (show False from r).elim
  | some _=>rfl
theorem KV.val {kvs:List (κ × V)} {vs:List (κ × Value)} (r:KV kvs vs) (k:κ):RelO (valV kvs k) (valueAt vs k):=by
 unfold KV at r
 induction r with
 | nil=>exact True.intro
 | @cons p q ps qs h t ih =>
  obtain ⟨h1,h2⟩:=h;by_cases e:p.1=k
  ·have e':q.1=k:=h1.symm.trans e;have b:valueAt (q :: qs) k=some q.2:=by simp [valueAt,find?_cons,e']
   rw [Jn e,b];exact h2
  ·have e':¬ q.1=k:=fun z=>e (h1.trans z);have b:valueAt (q :: qs) k=valueAt qs k:=by simp [valueAt,find?_cons,e']
   rw [Jo e,b];exact ih
theorem KV.any {kvs:List (κ × V)} {vs:List (κ × Value)} (r:KV kvs vs) (k:κ):(kvs.any fun kv=>decide (kv.1=k))=vs.any fun kv=>decide (kv.1=k):=by
 unfold KV at r
 induction r with
 | nil=>rfl
 | cons h t ih=>rw [List.any_cons,List.any_cons,ih,h.1]
theorem KV.repl {kvs:List (κ × V)} {vs:List (κ × Value)} (r:KV kvs vs) (k:κ) {y:V} {u:Value} (ry:RelV y u) :
  KV (kvs.map fun kv=>if kv.1=k then (kv.1,y) else kv) (vs.map fun kv=>if kv.1=k then (kv.1,u) else kv):=by
 unfold KV at r ⊢
 induction r with
 | nil=>exact .nil
 | @cons p q ps qs h t ih =>
  rw [map_cons,map_cons];refine .cons ?_ ih;obtain ⟨h1,h2⟩:=h;by_cases e:p.1=k
  ·rw [if_pos e,if_pos (h1.symm.trans e)];exact ⟨h1,ry⟩
  ·rw [if_neg e,if_neg (fun z=>e (h1.trans z))];exact ⟨h1,h2⟩
theorem KV.put {kvs:List (κ × V)} {vs:List (κ × Value)} (r:KV kvs vs) (k:κ) {y:V} {u:Value} (ry:RelV y u):KV (putK kvs k y) (stored vs k u):=by
 unfold putK stored;rw [r.any k];by_cases e:(vs.any fun kv=>decide (kv.1=k))=true
 ·rw [if_pos e,if_pos e];exact r.repl k ry
 ·rw [if_neg e,if_neg e];exact Paired.snoc r ⟨rfl,ry⟩
theorem KV.length {kvs:List (κ × V)} {vs:List (κ × Value)} (r:KV kvs vs):kvs.length=vs.length:=Paired.length r
end
theorem kV_is {P:Program} {w:World} {k:Key} {u:Value} (r:RelV (kV k) u):(Jr P w).is k u=true:=by
 cases k with
 | inl i=>obtain ⟨t,e⟩:=(show ∃ t,u=Value.int i t from r);subst e;exact mixKind_int P w i t
 | inr x=>obtain ⟨t,e⟩:=(show ∃ t,u=Value.str x t from r);subst e;exact mixKind_str P w x t
theorem items_are {P:Program} {w:World}:∀ {ks:List Key} {us:List Value},Vals (ks.map kV) us->ItemsAre (Jr P w) ks us
 | [],_,r=>by rw [map_nil] at r;cases r;exact .nil
 | k :: ks,_,r=>by
  rw [map_cons] at r
  cases r with
  | cons h t=>exact .cons (kV_is h) (items_are t)
abbrev KT (H:Hp):List (List Key × V)->List (List Key × Addr × Value)->Prop:=Paired fun p q=>p.1=q.1/\H q.2.1=some (.tup (p.1.map kV))/\RelV p.2 q.2.2
theorem KT.val {H:Hp} {kvs:List (List Key × V)} {xs:List (List Key × Addr × Value)} (r:KT H kvs xs) (k:List Key):RelO (valV kvs k) ((atKey xs k).map (·.2)):=by
 induction r with
 | nil=>exact True.intro
 | @cons p q ps qs h t ih =>
  obtain ⟨h1,_,h2⟩:=h;by_cases e:p.1=k
  ·have e':q.1=k:=h1.symm.trans e;have b:atKey (q :: qs) k=some q.2:=by simp [atKey,find?_cons,e']
   rw [Jn e,b];exact h2
  ·have e':¬ q.1=k:=fun z=>e (h1.trans z);have b:atKey (q :: qs) k=atKey qs k:=by simp [atKey,find?_cons,e']
   rw [Jo e,b];exact ih
theorem KT.repl {H:Hp} {kvs:List (List Key × V)} {xs:List (List Key × Addr × Value)} (r:KT H kvs xs) (k:List Key) {y:V} {u:Value} (ry:RelV y u) :
  KT H (kvs.map fun kv=>if kv.1=k then (kv.1,y) else kv) (xs.map (putAt k u)):=by
 induction r with
 | nil=>exact .nil
 | @cons p q ps qs h t ih =>
  rw [map_cons,map_cons];refine .cons ?_ ih;obtain ⟨h1,h2,h3⟩:=h;unfold putAt;by_cases e:p.1=k
  ·rw [if_pos e,if_pos (h1.symm.trans e)];exact ⟨h1,h2,ry⟩
  ·rw [if_neg e,if_neg (fun z=>e (h1.trans z))];exact ⟨h1,h2,h3⟩
theorem KT.put {H:Hp} {kvs:List (List Key × V)} {xs:List (List Key × Addr × Value)} (r:KT H kvs xs) (k:List Key) {b:Addr} {y:V} {u:Value} (hb:H b=some (.tup (k.map kV))) (ry:RelV y u) :
  KT H (putK kvs k y) (storedH xs k b u):=by
 have e:(kvs.any fun kv=>decide (kv.1=k))=(atKey xs k).isSome:=by
  rw [J1m,(r.val k).isSome_eq,isSome_map]
 unfold putK storedH;rw [e];by_cases q:(atKey xs k).isSome=true
 ·rw [if_pos q,if_pos q];exact r.repl k ry
 ·rw [if_neg q,if_neg q];exact Paired.snoc r ⟨rfl,hb,ry⟩
theorem KT.keeps {H H':Hp} {kvs:List (List Key × V)} {xs:List (List Key × Addr × Value)} (r:KT H kvs xs) (ht:∀ b ys,H b=some (.tup ys)->H' b=some (.tup ys)):KT H' kvs xs :=
 Paired.mapP r fun _ _ z=>⟨z.1,ht _ _ z.2.1,z.2.2⟩
section
variable {P:Program} {w:World} {H:Hp} {h:Heap} {a:Addr}
theorem rd_of {u:HO} (ok:HOk P w H h) (e:Rd H a u):ObjOk P w H h a u:=e.ok ok
theorem dk_rd {kvs:List (Key × V)} (ok:HOk P w H h) (e:Rd H a (.dK kvs)):kvs.length<=sizeLine/\(a == sysModules)=false/\∃ vs,KV kvs vs/\h.DictOf (Jr P w) a vs :=
 show ObjOk P w H h a (.dK kvs) from rd_of ok e
theorem dk_of {kvs:List (Key × V)} (ok:HOk P w H h) (e:H a=some (.dK kvs)):kvs.length<=sizeLine/\(a == sysModules)=false/\∃ vs,KV kvs vs/\h.DictOf (Jr P w) a vs:=dk_rd ok (.inl e)
theorem key_of {ks:List Key} (ok:HOk P w H h) (e:H a=some (.tup (ks.map kV))):(tupleKind (Jr P w)).is h ks a:=by
 obtain ⟨_,its,r,o,h1,h2,n,h3⟩:=(show ObjOk P w H h a (.tup (ks.map kV)) from ok a _ e);exact ⟨o,its.toArray,n,h1,h2.1,h3,by simpa using items_are r⟩
theorem dt_rd {kvs:List (List Key × V)} (ok:HOk P w H h) (e:Rd H a (.dT kvs)):kvs.length<=sizeLine/\(a == sysModules)=false/\
  ∃ xs,KT H kvs xs/\h.DictOfH (tupleKind (Jr P w)) a xs:=by
 obtain ⟨z,y,xs,r,o,es,ep,h1,h2,h3,h4,h5⟩:=(show ObjOk P w H h a (.dT kvs) from rd_of ok e);refine ⟨z,y,xs,r,o,es,ep,h1,h2,h3,h4,fun x hx=>?_,h5⟩;have all:∀ {l:List (List Key × V)} {m:List (List Key × Addr × Value)},KT H l m->∀ x∈m,(tupleKind (Jr P w)).is h x.1 x.2.1:=by
  intro l m q
  induction q with
  | nil=>intro x hx;exact nomatch hx
  | @cons p q ps qs hq t ih =>
   intro x hx;rcases mem_cons.mp hx with e | hx
   ·subst e;exact key_of ok (by rw [<- hq.1];exact hq.2.1)
   ·exact ih x hx
 exact all r x hx
theorem dt_of {kvs:List (List Key × V)} (ok:HOk P w H h) (e:H a=some (.dT kvs)):kvs.length<=sizeLine/\(a == sysModules)=false/\
  ∃ xs,KT H kvs xs/\h.DictOfH (tupleKind (Jr P w)) a xs:=dt_rd ok (.inl e)
end
def DGet (H:Hp) (a:Addr) (y:V) (r:Option V):Prop :=
 (∃ kvs k,Rd H a (.dK kvs)/\y=kV k/\r=valV kvs k)\/∃ kvs k b,Rd H a (.dT kvs)/\y=.ref b/\H b=some (.tup (k.map kV))/\r=valV kvs k
def DPut (H:Hp) (a:Addr) (y v:V) (H':Hp):Prop :=
 (∃ kvs k,H a=some (.dK kvs)/\y=kV k/\kvs.length < sizeLine/\H'=upd H a (.dK (putK kvs k v)))\/
 ∃ kvs k b,H a=some (.dT kvs)/\y=.ref b/\H b=some (.tup (k.map kV))/\kvs.length < sizeLine/\H'=upd H a (.dT (putK kvs k v))
theorem DGet.t {H:Hp} {a b:Addr} {kvs:List (List Key × V)} {k:List Key} (e:H a=some (.dT kvs)) (eb:H b=some (.tup (k.map kV))):DGet H a (.ref b) (valV kvs k):=.inr ⟨kvs,k,b,.inl e,rfl,eb,rfl⟩
theorem DPut.t {H:Hp} {a b:Addr} {kvs:List (List Key × V)} {k:List Key} {v:V} (e:H a=some (.dT kvs)) (eb:H b=some (.tup (k.map kV))) (hl:kvs.length < sizeLine) :
  DPut H a (.ref b) v (upd H a (.dT (putK kvs k v))):=.inr ⟨kvs,k,b,e,rfl,eb,hl,rfl⟩
section
variable {X:Cx} {pins:List (Addr × Obj)} {σ:St} {H:Hp} {s:Shared} {a:Addr} {y v:V} {u r:Value} {o:Option V} {A:Around} {E:Value->Shared->Prop}
theorem Inv.big (I:Inv X pins σ H s):sysModules < s.heap.objs.size:=by
 have h:mainGlobals < s.heap.objs.size:=(I.mod.glob.keeps I.bk).lt;exact Nat.lt_trans (by decide) h
theorem d_getItem {Q:Value->Shared->Prop} (hu:A.units + 1 < cLine) (I:Inv X pins σ H s) (g:DGet H a y (some v)) (ry:RelV y u) (h:∀ w' s',Inv X pins σ H s'->RelV v w'->Q w' s') :
  wpAny (model X.prog X.w) A (getItem (.ref a) u) Q E s:=by
 rcases g with ⟨kvs,k,e,ey,l⟩ | ⟨kvs,k,b,e,ey,eb,l⟩
 ·subst ey;obtain ⟨z,hd,vs,rel,dd⟩:=dk_rd I.hok e;obtain ⟨w',hw,rw'⟩:=RelO.some_of (v:=v) (o:=valueAt vs k) (by rw [l];exact rel.val k);exact wpAny_getItem_of (kV_is ry) dd.mapOf hw (h w' _ (I.tok _) rw')
 ·subst ey;cases (show u=Value.ref b from ry);obtain ⟨z,hd,xs,rel,dd⟩:=dt_rd I.hok e;obtain ⟨w',hw,rw'⟩:=RelO.some_of (v:=v) (o:=(atKey xs k).map (·.2)) (by rw [l];exact rel.val k);obtain ⟨p,hp,hp2⟩:=map_eq_some_iff.mp hw;refine wpAny_getItem_heap (tupleKind_room_in1 hu) (key_of I.hok eb) dd hp ?_;rw [hp2];exact h w' _ (I.tok _) rw'
theorem d_notIn {Q:Value->Shared->Prop} (hu:A.units + 1 < cLine) (I:Inv X pins σ H s) (g:DGet H a y o) (ry:RelV y u) (h:∀ s',Inv X pins σ H s'->Q (.bool (!o.isSome)) s') :
  wpAny (model X.prog X.w) A (compareOp .NotIn u (.ref a)) Q E s:=by
 rcases g with ⟨kvs,k,e,ey,l⟩ | ⟨kvs,k,b,e,ey,eb,l⟩
 ·subst ey;obtain ⟨z,hd,vs,rel,dd⟩:=dk_rd I.hok e;refine wpAny_notIn_of (kV_is ry) hd dd.mapOf ?_;rw [<- (rel.val k).isSome_eq,<- l];exact h _ (I.tok _)
 ·subst ey;cases (show u=Value.ref b from ry);obtain ⟨z,hd,xs,rel,dd⟩:=dt_rd I.hok e;refine wpAny_notIn_heap (tupleKind_room_in1 hu) (key_of I.hok eb) hd dd ?_;have q:=(rel.val k).isSome_eq;rw [isSome_map] at q;rw [<- q,<- l];exact h _ (I.tok _)
theorem d_write {h':Heap} {t':Nat} {ob:HO} (I:Inv X pins σ H s) (mu:Mut (H a)) (hs:Heap.SameBut a s.heap h') (he:∃ q,h'.get? a=some q) (new:ObjOk X.prog X.w (upd H a ob) h' a ob) :
  Inv X pins σ (upd H a ob) { s with heap:=h',toks:=t' } :=
 I.write (x:=a) (e:=a) mu (.inl rfl) (fun b q hb z=>(hs.2 b hb).trans z) he new
theorem dk_new {P:Program} {w:World} {H':Hp} {h':Heap} {kvs:List (Key × V)} {vs:List (Key × Value)} (z:kvs.length<=sizeLine) (hd:(a == sysModules)=false) (rel:KV kvs vs) (dd:h'.DictOf (Jr P w) a vs) :
  ObjOk P w H' h' a (.dK kvs):=⟨z,hd,vs,rel,dd⟩
theorem d_setItem {H':Hp} {Q:Unit->Shared->Prop} (hu:A.units + 1 < cLine) (I:Inv X pins σ H s) (g:DPut H a y v H') (ry:RelV y u) (rv:RelV v r) (h:∀ s',Inv X pins σ H' s'->Q () s') :
  wpAny (model X.prog X.w) A (setItem (.ref a) u r) Q E s:=by
 rcases g with ⟨kvs,k,e,ey,l,eH⟩ | ⟨kvs,k,b,e,ey,eb,l,eH⟩
 ·subst ey eH;obtain ⟨z,hd,vs,rel,dd⟩:=dk_of I.hok e;have hz:vs.length<=sizeLine:=by rw [<- rel.length];exact z
  have hl:(putK kvs k v).length<=sizeLine:=by have:=J2d kvs k v;omega
  refine wpAny_setItem_pairs (hsz:=hz) (kV_is ry) dd fun h' dd' hs=>h _ ?_;have he:∃ q,h'.get? a=some q:=by obtain ⟨q,_,_,hq,_⟩:=dd';exact ⟨q,hq⟩
  exact d_write I (by rw [e];exact True.intro) hs he (dk_new hl hd (rel.put k rv) dd')
 ·subst ey eH;cases (show u=Value.ref b from ry);obtain ⟨z,hd,xs,rel,dd⟩:=dt_of I.hok e;have hz:xs.length<=sizeLine:=by rw [<- Paired.length rel];exact z
  have hl:(putK kvs k v).length<=sizeLine:=by have:=J2d kvs k v;omega
  refine wpAny_setItem_heap (hsz:=hz) (tupleKind_room_in1 hu) (key_of I.hok eb) dd fun h' dd' hs=>h _ ?_;obtain ⟨q,es,ep,hq,h2,h3,h4,_,h5⟩:=dd';refine d_write I (by rw [e];exact True.intro) hs ⟨q,hq⟩ ⟨hl,hd,_,(rel.put k eb rv).keeps fun c ys ec=>?_,q,es,ep,hq,h2,h3,h4,h5⟩;rw [Ja (ne_of ec e (fun z=>nomatch z))];exact ec
end
def NoSl (i:Expr):Prop:=∀ ov iv,subscripted i false ov iv=operate [ov,iv] (getItem ov iv)
theorem subD_of {prog:Program} {w:World} {A:Around} {E:Value->Shared->Prop} {s:Shared} {env:Env} {value slice:Expr} {pos:Pos} {T id:String} {Q:Value->Shared->Prop}
  (hl:typeLookup (.type T) "__getitem__"=pure (some (.builtin id))) (hs:NoSl slice)
  (h:wpAny (model prog w) A (eval value env) (fun o s₁=>wpAny (model prog w) A (eval slice env) (fun i s₂=>s₂.TypeIs o T/\wpAny (model prog w) A (getItem o i) Q E s₂) E s₁) E s) :
  wpAny (model prog w) A (eval (.Subscript value slice pos) env) Q E s:=by
 refine Subscript_ (wpAny_mono h (fun o s₁ h₁=>wpAny_mono h₁ (fun i s₂ h₂=>?_) fun _ _ x=>x) fun _ _ x=>x);obtain ⟨hT,h₂⟩:=h₂;unfold subscriptTail;refine wpAny_bind ?_;rw [getitemInPython_of_ne hT.not_modules];refine wpAny_bind (wpAny_specialOf hT hl ?_);have fin:wpAny (model prog w) A (subscripted slice false o i) (fun r s₃=>wpAny (model prog w) A (letTemporaryGo value o r >>= fun _=>pure r) Q E s₃) E s₂:=by
  rw [hs o i];exact wpAny_operating (wpAny_mono h₂ (fun r s₃ h₃=>wpAny_bind (wpAny_letTemporaryGo (wpAny_pure h₃))) fun _ _ x=>x)
 first
  | exact wpAny_pure (wpAny_bind fin)
  | exact wpAny_bind (wpAny_pure (wpAny_bind fin))
  | exact wpAny_bind fin
theorem dict_typeIs {X:Cx} {pins:List (Addr × Obj)} {σ:St} {H:Hp} {s:Shared} {a:Addr} {y:V} {o:Option V} (I:Inv X pins σ H s) (g:DGet H a y o):s.TypeIs (.ref a) "dict":=by
 rcases g with ⟨kvs,k,e,_,_⟩ | ⟨kvs,k,b,e,_,_,_⟩
 ·obtain ⟨_,_,vs,_,dd⟩:=dk_rd I.hok e;exact dd.typeIs
 ·obtain ⟨_,_,xs,_,dd⟩:=dt_rd I.hok e;exact dd.typeIs
def tDGet (td ty:TE):TE:=fun σ H Q=>td σ H fun x H1=>ty σ H1 fun y H2=>∃ a v,x=.ref a/\DGet H2 a y (some v)/\Q v H2
def tDNotIn (ty td:TE):TE:=fun σ H Q=>ty σ H fun y H1=>td σ H1 fun x H2=>∃ a o,x=.ref a/\DGet H2 a y o/\Q (.bl (!o.isSome)) H2
def sDPut (td ty tv:TE):TS:=fun D σ H=>tv σ H fun v H1=>td σ H1 fun x H2=>ty σ H2 fun y H3=>∃ a H4,x=.ref a/\DPut H3 a y v H4/\D.nx σ H4
section
variable {X:Cx} {o i e value:Expr} {pos pos' tpos:Pos} {td ty tv:TE}
theorem pe_dget (hu:X.A.units + 1 < cLine) (ho:PE X o td) (hi:PE X i ty) (hs:NoSl i):PE X (.Subscript o i pos) (tDGet td ty):=by
 intro pins s σ H Q I h;refine subD_of PySem.F.slot_dict_getitem.lookup hs (thn (ho pins s σ H _ I h) fun u s1 ⟨x,H1,I1,rx,q1⟩=>thn (hi pins s1 σ H1 _ I1 q1) fun iv s2 h9=>?_);obtain ⟨y,H2,I2,ry,a,v,ex,g,q2⟩:=h9;subst ex;obtain rfl:u=Value.ref a:=rx;exact ⟨dict_typeIs I2 g,d_getItem hu I2 g ry fun w' s3 I3 rw'=>⟨v,H2,I3,rw',q2⟩⟩
theorem J2n (hu:X.A.units + 1 < cLine) (hi:PE X i ty) (ho:PE X o td):PC X .NotIn i o (tDNotIn ty td):=by
 intro pins s σ H Q I h;refine thn (hi pins s σ H _ I h) fun iv s1 ⟨y,H1,I1,ry,q1⟩=>thn (ho pins s1 σ H1 _ I1 q1) fun u s2 h9=>?_;obtain ⟨x,H2,I2,rx,a,ov,ex,g,q2⟩:=h9;subst ex;obtain rfl:u=Value.ref a:=rx;exact d_notIn hu I2 g ry fun s3 I3=>⟨.bl (!ov.isSome),H2,I3,rfl,q2⟩
theorem ps_dput (hu:X.A.units + 1 < cLine) (ho:PE X o td) (hi:PE X i ty) (hv:PE X value tv) (hs:swapsWith value (some (.Subscript o i pos')) pos.line X.env=pure false) :
  PS X (.Assign [.Subscript o i pos'] value pos) (sDPut td ty tv):=by
 intro pins s σ H D I h;refine wpAny_Assign_Subscript (thn (hv pins s σ H _ I h) fun r s1 ⟨v,H1,I1,rv,q1⟩=>thn (ho pins s1 σ H1 _ I1 q1) fun u s2 ⟨x,H2,I2,rx,q2⟩=>thn (hi pins s2 σ H2 _ I2 q2) fun iv s3 h9=>?_) hs;obtain ⟨y,H3,I3,ry,a,H4,ex,g,q3⟩:=h9;subst ex;obtain rfl:u=Value.ref a:=rx;exact d_setItem hu I3 g ry rv fun s4 I4=>⟨σ,H4,I4,q3⟩
end
theorem dt_empty {P:Program} {w:World} {H:Hp} (h:Heap) (hb:sysModules < h.objs.size):ObjOk P w H (h.push { cls:=.type "dict",data:=.dict #[] }) h.objs.size (.dT []) :=
 ⟨Nat.zero_le _,beq_eq_false_iff_ne.mpr (Ne.symm (Nat.ne_of_lt hb)),[],.nil,_,#[],0,get?_push_size _ rfl,⟨rfl,rfl,rfl⟩,rfl,rfl,List.nodup_nil⟩
def tDNewT:TE:=fun _ H Q=>∀ p,H p=none->Q (.ref p) (upd H p (.dT []))
section
variable {X:Cx} {pos:Pos}
theorem pe_dnewT:PE X (.Dict [] [] pos) tDNewT:=fun pins s σ H Q I h =>
 wpAny_Dict_empty ⟨.ref s.heap.objs.size,_,I.laid (a:=s.heap.objs.size) (o:=.dT []) (t':=s.toks) (fun _ _ q=>get?_push_of_some _ q) (Nat.le_refl _) (dt_empty s.heap I.big),rfl,h _ (I.hok.fresh (Nat.le_refl _))⟩
end
end L2
namespace L2
open PySem PySem.Spec PyProof.Rows
end L2
namespace PySem
namespace F
end F
end PySem
namespace L2
open PySem PyProof.Rows
end L2
namespace L2
open PySem PySem.Spec PyProof.Rows
section
variable {X:Cx}
theorem J3n {prog:Program} {w:World} {A:Around} {E:Value->Shared->Prop} {s:Shared} {l:Addr} {xs:Array (Int × Tok)} {Q:Value->Shared->Prop} (hh:A.handled=none) (ht:s.heap.IsTuple l (intItems xs)) (hne:0 < xs.size)
  (h:∀ v h' tk,(intItems xs)[argBest (fun i j=>decide (numAt xs i > numAt xs j)) (xs.size - 1)]?=some v->(∀ b o,s.heap.get? b=some o->h'.get? b=some o)->Q v { s with heap:=h',toks:=tk }) :
  wpAny (model prog w) A (call (.builtin "max") [.ref l]) Q E s:=by
 obtain ⟨o,ho,hc,n,hd⟩:=id ht;have hne':l≠s.heap.objs.size:=Nat.ne_of_lt (lt_size ho);refine call_max_walk (wpAny_pyIter_tuple ht ?_);refine ⟨s.heap.objs.size,_,_,_,_,_,_,rfl,Walks.tuple (A:=A.in1) hh _ l hne' (intItems xs),⟨⟨_,get?_push_size _ rfl,rfl,rfl⟩,ht.at fun o e=>get?_push_of_some _ e⟩,fun b hb=>?_,by simpa [intItems] using hne,CmpOf.ints_gt (numAt xs) (fun _ _=>intItems_at),fun v h' tk hP hk=>?_⟩
 ·rcases mem_cons.mp hb with rfl | hb
  ·exact lt_size (get?_push_size _ rfl)
  ·obtain rfl:=mem_singleton.mp hb;exact lt_size (get?_push_of_some _ ho)
 ·refine h v h' tk (by simpa [intItems] using hP) fun b o e=>hk b o (fun hb=>absurd (lt_size e) ((mem_singleton.mp hb) ▸ Nat.lt_irrefl _)) (get?_push_of_some _ e)
theorem best_max {ns:List Int} {xs:Array (Int × Tok)} (hns:ns=xs.toList.map (·.1)) (hsz:0 < xs.size) :
  numAt xs (argBest (fun i j=>decide (numAt xs i > numAt xs j)) (xs.size - 1))∈ns/\∀ a∈ns,a<=numAt xs (argBest (fun i j=>decide (numAt xs i > numAt xs j)) (xs.size - 1)):=by
 obtain ⟨h1,h2⟩:=argBest_gt (numAt xs) (xs.size - 1);refine ⟨?_,fun a ha=>?_⟩
 ·rw [hns,numAt_eq];exact getD_mem (by rw [length_map,length_toList];omega)
 ·rw [hns] at ha;obtain ⟨j,hj,rfl⟩:=mem_getD ha;rw [length_map,length_toList] at hj;rw [<- numAt_eq];exact h2 j (by omega)
theorem J3s (hc:X.calm=true):CallR X (.builtin "max") (fun xs H Q=>∃ (p:Addr) (ns:List Int),xs=[.ref p]/\SqI X.K H p (ns.map V.int)/\0 < ns.length/\∀ M,M∈ns->(∀ a∈ns,a<=M)->Q (.int M) H):=by
 intro pins s σ H xs us Q I r h;obtain ⟨p,ns,rfl,hq,hne,q⟩:=h;obtain ⟨u,rfl,rx⟩:=vals1 r;cases rx;have hh:=I.ok.hd hc;rcases hq with hq | hq
 ·obtain ⟨its,r',pl,hz⟩:=I.list hq;obtain ⟨xs,hx,_,e1⟩:=J2q (Je r');have hsz:0 < xs.size:=by rw [e1,length_map,length_toList] at hne;exact hne
  refine max_intList hh (hx ▸ pl.isList) hsz fun v h' tk hv hk=>?_;obtain ⟨t,rfl⟩:=intItems_at hv;obtain ⟨b1,b2⟩:=best_max e1 hsz;exact ⟨.int _,H,I.kept hk,⟨t,rfl⟩,q _ b1 b2⟩
 ·obtain ⟨its,r',pl,hz⟩:=I.tuple hq;obtain ⟨xs,hx,_,e1⟩:=J2q (Je r');have hsz:0 < xs.size:=by rw [e1,length_map,length_toList] at hne;exact hne
  refine J3n hh (hx ▸ (show s.heap.IsTuple p its.toArray from pl)) hsz fun v h' tk hv hk=>?_;obtain ⟨t,rfl⟩:=intItems_at hv;obtain ⟨b1,b2⟩:=best_max e1 hsz;exact ⟨.int _,H,I.kept hk,⟨t,rfl⟩,q _ b1 b2⟩
theorem call_maxK (K:Frag) (hc:X.calm=true:=by rfl) (h:X.K=K:=by rfl):CallR X (.builtin "max") (fun xs H Q=>∃ (p:Addr) (ns:List Int),xs=[.ref p]/\SqI K H p (ns.map V.int)/\0 < ns.length/\∀ M,M∈ns->(∀ a∈ns,a<=M)->Q (.int M) H):=by subst h;exact J3s hc
def rSlS (K:Frag):V->Option Int->Option Int->Hp->VK->Prop:=fun x lo hi H Q=>rSlL K x lo hi H Q\/rSlT K x lo hi H Q
theorem sl_seq:SlR X (rSlS X.K):=sl_list.or sl_tup
theorem sl_seqK (K:Frag) (h:X.K=K:=by rfl):SlR X (rSlS K):=by subst h;exact sl_seq
end
end L2
namespace L2
open PySem PySem.Spec PyProof.Rows
section
variable {X:Cx}
variable {e1 e2 e3 e:Expr} {p p' pos pos' p2:Pos} {ta:TA} {te tk:TE}
def tLRng (ta:TA):TE:=fun σ H Q=>ta σ H fun vs H1=>∃ (a b c:Int) (n:Nat),vs=[.int a,.int b,.int c]/\c≠0/\Builtin.divisionGoesByPylong (b - a) c=false/\Builtin.Range.small a b c=true/\Builtin.Range.rangeSize a b c=n/\n<=1000/\
 ∀ l,H1 l=none->Q (.ref l) (upd H1 l (.lst (((List.range n).map fun (i:Nat)=>a + (i:Int) * c).map V.int)))
theorem pe_lrng (hc:X.calm=true) (hg:Gl X "list") (hm:X.mg "list"=none) (hg':Gl X "range") (hm':X.mg "range"=none) (ha:PA X [e1,e2,e3] ta)
  (he:starEach [e1,e2,e3] X.env=(false,eval e1 X.env) :: starEach [e2,e3] X.env:=by rfl) (hpl:(backTo pos' (starEach [e2,e3] X.env)).any (·.1)=false:=by rfl)
  (he':starEach [Expr.Call (.Name "range" p') [e1,e2,e3] [] pos'] X.env=[(false,eval (Expr.Call (.Name "range" p') [e1,e2,e3] [] pos') X.env)]:=by rfl) :
  PE X (.Call (.Name "list" p) [.Call (.Name "range" p') [e1,e2,e3] [] pos'] [] pos) (tLRng ta):=by
 intro pins s σ H Q I h;refine wpAny_Call_Name_kw (J3p I hg hm boot_list ?_ (by decide) (by decide));refine callWith_type1 (rest:=[]) ?_ (by rw [he'];rfl) rfl;rw [he'];show wpAny _ _ (spliced [(false,eval (Expr.Call (.Name "range" p') [e1,e2,e3] [] pos') X.env)]) _ _ s;refine Calls.spliced_cons ?_;refine wpAny_Call_Name_kw (J3p I hg' hm' PyProof.Rows.boot_range ?_ (by decide) (by decide));refine callWith_type1 (thn (ha pos' pins s σ H _ I h) fun us s1 h9=>?_) he hpl;obtain ⟨vs,H1,I1,r1,q1⟩:=h9;obtain ⟨a,b,c,n,rfl,c0,hp,hsm,hrs,hn,k⟩:=q1
 cases r1 with
 | cons r rr =>
  cases rr with
  | cons r' rr =>
   cases rr with
   | cons r'' rr =>
    cases rr;obtain ⟨t,rfl⟩:=r;obtain ⟨t',rfl⟩:=r';obtain ⟨t'',rfl⟩:=r'';refine call_range_3 c0 (Calls.spliced_nil ?_) (.inl hp);have hsz:(s1.heap.push { cls:=.type "range",data:=.fields #[.int a t,.int b t',.int c t''] }).objs.size=s1.heap.objs.size + 1:=by simp [Heap.push]
    refine call_list_range (s:={ s1 with heap:=s1.heap.push { cls:=.type "range",data:=.fields #[.int a t,.int b t',.int c t''] },toks:=s1.toks }) (I1.ok.hd hc) (show IsRange (s1.heap.push { cls:=.type "range",data:=.fields #[.int a t,.int b t',.int c t''] }) s1.heap.objs.size a b c t t' t'' from get?_push_size _ rfl) hsm hrs (by omega) fun h' tk acc' c' hk hS' hacc=>?_;have kp:∀ b o,s1.heap.get? b=some o->h'.get? b=some o:=fun b o eb=>hk b o (get?_push_of_some _ eb);have hv:Vals ((List.range n).map fun (i:Nat)=>V.int (a + (i:Int) * c)) acc'.toList:=J1f (f:=fun i=>a + (i:Int) * c) (by rw [length_toList];exact hacc.1) fun i v e=>by
     obtain ⟨t,rfl⟩:=hacc.2 i v (by simpa using e);exact ⟨t,rfl⟩
    simp only [map_map,Function.comp_def] at k;refine ⟨.ref (s1.heap.push { cls:=.type "range",data:=.fields #[.int a t,.int b t',.int c t''] }).objs.size,_,I1.laid (o:=.lst ((List.range n).map fun (i:Nat)=>V.int (a + (i:Int) * c))) kp (by omega) ⟨?_,acc'.toList,c',hv,by simpa using hS'⟩,rfl,k _ (I1.hok.fresh (by omega))⟩;rw [length_map,length_range];exact Nat.le_of_lt (Jt hn)
def tDisp1 (tk tv:TE):TE:=fun σ H Q=>∀ p,H p=none->tk σ (upd H p (.dT [])) fun x H1=>tv σ H1 fun y H2=>∃ (b:Addr) (k:List Key),x=.ref b/\H2 b=some (.tup (k.map kV))/\H2 p=some (.dT [])/\Q (.ref p) (upd H2 p (.dT (putK [] k y)))
theorem pe_disp1 {tv:TE} (hu:X.A.units + 1 < cLine) (hk:PE X e tk) (hv:PE X e1 tv):PE X (.Dict [some e] [e1] pos) (tDisp1 tk tv):=by
 intro pins s σ H Q I q;have hn:=I.hok.fresh (Nat.le_refl s.heap.objs.size);have I1:=I.laid (a:=s.heap.objs.size) (o:=.dT []) (h':=s.heap.push { cls:=.type "dict",data:=.dict #[] }) (t':=s.toks) (fun _ _ q=>get?_push_of_some _ q) (Nat.le_refl _) (dt_empty s.heap I.big);rw [arm_eval_Dict,zip_pairTrees [some e] [e1] X.env pos rfl rfl,dictDisplay_pairs (pairTrees [some e] [e1] X.env pos) (by simp [pairTrees]) (by simp [pairTrees])];refine wpAny_bind (wpAny_standAt (wpAny_bind ?_));unfold subDict;refine wpAny_bind (wpAny_alloc ?_);refine wpAny_bind (wpAny_holding ?_);rw [if_pos (by simp [pairTrees])];refine wpAny_bind (pairTrees_cons_walk (thn (hk pins _ σ _ _ I1 (q _ hn)) fun u s1 ⟨x,H1,I2,rx,q1⟩=>thn (hv pins s1 σ H1 _ I2 q1) fun w2 s2 ⟨y,H2,I3,ry,q2⟩=>pairTrees_nil_walk ?_));obtain ⟨b,k,rfl,eb,ep,q3⟩:=q2;cases rx;refine wpAny_holding ?_;show wpAny _ _ (forIn [((Value.ref b),w2)] _ _ >>= _) _ _ s2;rw [List.forIn_cons];obtain ⟨z,hd,xs,rel,dd⟩:=dt_of I3.hok ep;have hz:xs.length<=sizeLine:=by rw [<- Paired.length rel];exact z
 have hl:(putK [] k y).length<=sizeLine:=by show 1<=sizeLine;decide
 dsimp only;refine wpAny_bind (wpAny_bind (wpAny_bind (wpAny_dictSet_heap (hsz:=hz) (show (tupleKind (Jr X.prog X.w)).room X.A from (show X.A.units < cLine by omega)) (key_of I3.hok eb) dd fun h' dd' hs=>wpAny_pure ?_)));dsimp only;rw [List.forIn_nil];refine wpAny_pure (wpAny_pure (wpAny_pure (wpAny_pure ?_)));obtain ⟨q',es,epp,hq,h2,h3,h4,_,h5⟩:=dd';refine ⟨.ref s.heap.objs.size,_,?_,rfl,q3⟩;refine d_write I3 (by rw [ep];exact True.intro) hs ⟨q',hq⟩ ⟨hl,hd,_,(rel.put k eb ry).keeps fun c ys ec=>?_,q',es,epp,hq,h2,h3,h4,h5⟩;rw [Ja (ne_of ec ep (fun z=>nomatch z))];exact ec
end
end L2
namespace Rl
def cellN (ns:List Int) (k:Nat):Int:=ns.getD k 0
def insAt (xs:List Nat) (i y:Nat):List Nat:=xs.take i ++ y :: xs.drop i
theorem J3a (xs:List Nat) (i y:Nat):(insAt xs i y).Perm (y :: xs):=by
 unfold insAt;have h:(xs.take i ++ y :: xs.drop i).Perm (y :: (xs.take i ++ xs.drop i)):=List.perm_middle;rwa [take_append_drop] at h
theorem J29:∀ {xs ys:List Int},xs.Perm ys->xs.Pairwise (·<=·)->ys.Pairwise (·<=·)->xs=ys
 | [],ys,h,_,_=>(List.Perm.nil_eq h)
 | x :: xs,[],h,_,_=>absurd h.length_eq (by simp)
 | x :: xs,y :: ys,h,hx,hy=>by
  have hx':=List.pairwise_cons.mp hx;have hy':=List.pairwise_cons.mp hy;have m1:x∈y :: ys:=h.mem_iff.mp mem_cons_self;have m2:y∈x :: xs:=h.mem_iff.mpr mem_cons_self;have e:x=y:=by
   rcases mem_cons.mp m1 with e | m1
   ·exact e
   ·rcases mem_cons.mp m2 with e | m2
    ·exact e.symm
    ·have a:=hx'.1 y m2;have b:=hy'.1 x m1;omega
  subst e;rw [J29 h.cons_inv hx'.2 hy'.2]
def natI (os:List Nat):List Int:=os.map fun (n:Nat)=>(n:Int)
theorem J3g (n:Nat):(natI (List.range n)).Pairwise (·<=·):=by
 unfold natI;rw [pairwise_map];exact List.pairwise_lt_range.imp fun h=>by omega
theorem J1p {os:List Nat} {n:Nat} {ns':List Int} (hp:os.Perm (List.range n)) (h1:ns'.Perm (natI os)) (h2:ns'.Pairwise (·<=·)):ns'=natI (List.range n) :=
 J29 (h1.trans (hp.map _)) h2 (J3g n)
end Rl
namespace Rl
theorem J2r {os:List Nat} {i:Nat} (h:i < os.length):os.getD i 0∈os:=by
 rw [getD_eq_getElem?_getD,List.getElem?_eq_getElem h];exact List.getElem_mem h
end Rl
namespace Rl
end Rl
namespace Rl
end Rl
namespace Rl
end Rl
namespace Rl
theorem split_last {row:List Nat} (h:row≠[]):row=row.dropLast ++ [row.getD (row.length - 1) 0]:=by
 have hl:=List.length_pos_iff.mpr h;have e:row.getD (row.length - 1) 0=row.getLast h:=by
  rw [getD_eq_getElem?_getD,List.getElem?_eq_getElem (by omega),List.getLast_eq_getElem];rfl
 rw [e];exact (List.dropLast_concat_getLast h).symm
theorem idx_app {s:List Nat} {a:Nat} (t:List Nat) (h:a ∉ s):(s ++ a :: t).idxOf a=s.length:=by
 induction s with
 | nil=>simp
 | cons x s ih =>
  have hx:(x == a)=false:=by
   have:x≠a:=fun e=>h (by rw [e];exact mem_cons_self);simpa using this
  rw [cons_append,List.idxOf_cons,hx,ih fun q=>h (mem_cons_of_mem _ q)];rfl
end Rl
namespace Rl
end Rl
namespace Rl
end Rl
namespace Rl
end Rl
namespace Rl
end Rl
namespace Rl
theorem nodup_sub:∀ {l m:List Nat},l.Nodup->(∀ x∈l,x∈m)->l.length<=m.length
 | [],m,_,_=>Nat.zero_le _
 | a :: l,m,hn,hs=>by
  have ha:=hs a (mem_cons_self ..);have h1:=nodup_sub (l:=l) (m:=m.erase a) (nodup_cons.mp hn).2 fun x hx=>(List.mem_erase_of_ne (fun (e:x=a)=>(nodup_cons.mp hn).1 (e ▸ hx))).mpr (hs x (mem_cons_of_mem _ hx));rw [List.length_erase_of_mem ha] at h1;have:=List.length_pos_of_mem ha;rw [length_cons];omega
theorem J3m {l:List Nat} {n:Nat} (hn:l.Nodup) (h:∀ x∈l,x < n):l.length<=n:=by
 have:=nodup_sub (m:=List.range n) hn fun x hx=>mem_range.mpr (h x hx);rwa [length_range] at this
theorem J1u {l:List Nat} {n y:Nat} (hn:l.Nodup) (h:∀ x∈l,x < n) (hl:n<=l.length) (hy:y < n):y∈l:=by
 apply Classical.byContradiction;intro hy';have:=J3m (l:=y :: l) (n:=n) (nodup_cons.mpr ⟨hy',hn⟩) (fun x hx=>by
  rcases mem_cons.mp hx with rfl | hx
  ·exact hy
  ·exact h x hx)
 rw [length_cons] at this;omega
def IsO (os:List Nat):Prop:=os.Perm (List.range os.length)
theorem IsO.nd {os:List Nat} (h:IsO os):os.Nodup:=h.nodup_iff.mpr nodup_range
theorem IsO.lt {os:List Nat} (h:IsO os):∀ x∈os,x < os.length:=fun x hx=>mem_range.mp (h.mem_iff.mp hx)
theorem IsO.mem {os:List Nat} (h:IsO os) {x:Nat} (hx:x < os.length):x∈os:=h.mem_iff.mpr (mem_range.mpr hx)
theorem IsO.perm {os qs:List Nat} (h:IsO os) (p:qs.Perm os):IsO qs:=by
 unfold IsO;rw [p.length_eq];exact p.trans h
def TightTo (os:List Nat) (j:Nat):Prop:=∀ k,1<=k->k<=j->k < os.length->∃ x∈os.take k,k<=x
def Tight (os:List Nat):Prop:=∀ k,1<=k->k < os.length->∃ x∈os.take k,k<=x
theorem TightTo.tight {os:List Nat} (h:TightTo os (os.length - 1)):Tight os:=fun k h1 h2=>h k h1 (by omega) h2
theorem take_nd {os:List Nat} (h:os.Nodup) (k:Nat):(os.take k).Nodup:=List.Nodup.sublist (take_sublist ..) h
theorem take_hi {os:List Nat} (h:os.Nodup) {k:Nat} (h1:1<=k) (h2:k<=os.length):∃ x∈os.take k,k - 1<=x:=by
 apply Classical.byContradiction;intro c;have hl:(os.take k).length=k:=by rw [length_take];omega
 have:=J3m (n:=k - 1) (take_nd h k) fun x hx=>by
  apply Classical.byContradiction;intro q;exact c ⟨x,hx,by omega⟩
 omega
theorem next_hi {os:List Nat} (h:os.Nodup) {k:Nat} (h2:k < os.length) (hx:∀ x∈os.take k,x < k):k<=os.getD k 0:=by
 apply Classical.byContradiction;intro c;have hl:(os.take k).length=k:=by rw [length_take];omega
 have hm:=J1u (take_nd h k) hx (by omega) (show os.getD k 0 < k by omega);have hd:os.drop k=os.getD k 0 :: os.drop (k + 1):=by
  rw [drop_eq_getElem_cons h2,getD_eq_getElem?_getD,List.getElem?_eq_getElem h2];rfl
 have hn:(os.take k ++ os.drop k).Nodup:=by rw [take_append_drop];exact h
 rw [hd] at hn;exact (nodup_append.mp hn).2.2 _ hm _ (mem_cons_self ..) rfl
theorem cut2 {os:List Nat} {k:Nat} (h1:1<=k) (h2:k < os.length):os=os.take (k - 1) ++ os.getD (k - 1) 0 :: os.getD k 0 :: os.drop (k + 1):=by
 have e1:os.drop (k - 1)=os.getD (k - 1) 0 :: os.drop (k - 1 + 1):=by
  rw [drop_eq_getElem_cons (show k - 1 < os.length by omega),getD_eq_getElem?_getD,List.getElem?_eq_getElem (show k - 1 < os.length by omega)];rfl
 have e2:os.drop k=os.getD k 0 :: os.drop (k + 1):=by
  rw [drop_eq_getElem_cons h2,getD_eq_getElem?_getD,List.getElem?_eq_getElem h2];rfl
 rw [show k - 1 + 1=k by omega,e2] at e1;rw [<- e1,take_append_drop]
def swapO (os:List Nat) (k:Nat):List Nat:=os.take (k - 1) ++ os.getD k 0 :: os.getD (k - 1) 0 :: os.drop (k + 1)
theorem J1o {os:List Nat} {k:Nat} (h1:1<=k) (h2:k < os.length):(swapO os k).Perm os:=by
 have e:=cut2 h1 h2;have p:(swapO os k).Perm (os.take (k - 1) ++ os.getD (k - 1) 0 :: os.getD k 0 :: os.drop (k + 1)):=List.Perm.append_left _ (List.Perm.swap ..);rw [<- e] at p;exact p
theorem swapO_take {os:List Nat} {k i:Nat} (h1:i<=k - 1) (h2:k < os.length):(swapO os k).take i=os.take i:=by
 unfold swapO;rw [List.take_append_of_le_length (by rw [length_take];omega),List.take_take]
 congr 1
 omega
theorem swapO_in {os:List Nat} {k:Nat} (h1:1<=k) (h2:k < os.length):os.getD k 0∈(swapO os k).take k:=by
 unfold swapO;have hl:(os.take (k - 1)).length=k - 1:=by rw [length_take];omega
 rw [List.take_append,hl,show k - (k - 1)=1 by omega];exact mem_append_right _ (mem_cons_self ..)
theorem swapO_set {os:List Nat} {k:Nat} (h1:1<=k) (h2:k < os.length):((natI os).set (k - 1) ((os.getD k 0:Nat):Int)).set k ((os.getD (k - 1) 0:Nat):Int)=natI (swapO os k):=by
 have e:=cut2 h1 h2;have hl:(os.take (k - 1)).length=k - 1:=by rw [length_take];omega
 unfold swapO;generalize os.take (k - 1)=A at *;generalize os.getD (k - 1) 0=a at *;generalize os.getD k 0=b at *;generalize os.drop (k + 1)=B at *;subst e;unfold natI;rw [<- map_set,<- map_set]
 congr 1
 rw [List.set_append_right _ _ (by omega),hl,Nat.sub_self];rw [List.set_append_right _ _ (by omega),hl,show k - (k - 1)=1 by omega];rfl
theorem tight_swap {os:List Nat} {k:Nat} (h:IsO os) (h1:1<=k) (h2:k < os.length) (hx:∀ x∈os.take k,x<=k - 1) (t:TightTo os (k - 1)):TightTo (swapO os k) k:=by
 have hn:=next_hi h.nd h2 fun x q=>by have:=hx x q;omega
 intro i i1 i2 i3;have hl:(swapO os k).length=os.length:=(J1o h1 h2).length_eq;by_cases c:i=k
 ·subst c;exact ⟨_,swapO_in h1 h2,hn⟩
 ·rw [swapO_take (by omega) h2];exact t i i1 (by omega) (by omega)
theorem tight_stay {os:List Nat} {k:Nat} (h1:1<=k) {m:Nat} (hm:m∈os.take k) (hk:k<=m) (t:TightTo os (k - 1)):TightTo os k:=by
 intro i i1 i2 i3;by_cases c:i=k
 ·subst c;exact ⟨_,hm,hk⟩
 ·exact t i i1 (by omega) i3
def overO (os:List Nat):List Nat:=os.take (os.idxOf (os.length - 1) + 1) ++ [os.getD (os.length - 1) 0] ++ (os.drop (os.idxOf (os.length - 1) + 1)).take (os.length - 1 - (os.idxOf (os.length - 1) + 1))
theorem J1c {os:List Nat} (h:IsO os) (t:Tight os) (h2:2<=os.length):os.idxOf (os.length - 1) + 1<=os.length - 1:=by
 obtain ⟨x,hx,hk⟩:=t (os.length - 1) (by omega) (by omega);have hx':=h.lt x (mem_of_mem_take hx);obtain rfl:x=os.length - 1:=by omega
 have h3:(os.take (os.length - 1)).idxOf (os.length - 1) < (os.take (os.length - 1)).length:=List.idxOf_lt_length_of_mem hx;have h4:os.idxOf (os.length - 1)=(os.take (os.length - 1)).idxOf (os.length - 1):=by
  conv=>lhs;rw [<- take_append_drop (os.length - 1) os]
  rw [length_append,length_take,length_drop];rw [show min (os.length - 1) os.length + (os.length - (os.length - 1)) - 1=os.length - 1 by omega];rw [List.idxOf_append,if_pos hx]
 rw [length_take] at h3;omega
theorem over_back {os:List Nat} (h2:2<=os.length) {s:Nat} (hs:s + 1<=os.length - 1):os.take (s + 1) ++ (os.drop (s + 1)).take (os.length - 1 - (s + 1)) ++ [os.getD (os.length - 1) 0]=os:=by
 rw [<- List.take_add,show s + 1 + (os.length - 1 - (s + 1))=os.length - 1 by omega];have e:os.drop (os.length - 1)=[os.getD (os.length - 1) 0]:=by
  rw [drop_eq_getElem_cons (show os.length - 1 < os.length by omega),getD_eq_getElem?_getD,List.getElem?_eq_getElem (show os.length - 1 < os.length by omega),List.drop_eq_nil_of_le (by omega)];rfl
 rw [<- e,take_append_drop]
end Rl
namespace Rl
def spotA (ns:List Int) (a k:Nat):Nat:=(cellN ns (a + k) % ((k:Int) + 1)).toNat
def drawA (ns:List Int) (a:Nat):Nat->List Nat
 | 0=>[]
 | k + 1=>insAt (drawA ns a k) (spotA ns a k) k
theorem spotA_le (ns:List Int) (a k:Nat):spotA ns a k<=k/\((spotA ns a k:Nat):Int)=cellN ns (a + k) % ((k:Int) + 1):=by
 have h0:0<=cellN ns (a + k) % ((k:Int) + 1):=Int.emod_nonneg _ (by omega);have h1:cellN ns (a + k) % ((k:Int) + 1) < (k:Int) + 1:=Int.emod_lt_of_pos _ (by omega);unfold spotA;omega
theorem J20 (ns:List Int) (a:Nat):∀ k,(drawA ns a k).Perm (List.range k)
 | 0=>List.Perm.refl _
 | k + 1=>by
  have h1:=J3a (drawA ns a k) (spotA ns a k) k;have h2:(k :: drawA ns a k).Perm (k :: List.range k):=(J20 ns a k).cons k;have h3:(k :: List.range k).Perm (List.range (k + 1)):=by
   rw [range_succ];exact (List.perm_append_singleton k (List.range k)).symm
  exact h1.trans (h2.trans h3)
theorem J2s (ns:List Int) (a k:Nat):(drawA ns a k).length=k:=by
 rw [(J20 ns a k).length_eq,length_range]
theorem drawA_isO (ns:List Int) (a k:Nat):IsO (drawA ns a k):=by
 unfold IsO;rw [J2s];exact J20 ns a k
def OrdX (xs:List Int) (n:Nat):Prop:=∃ os:List Nat,xs=natI os/\os.Perm (List.range n)
theorem Jh (os:List Nat):(natI os).length=os.length:=length_map ..
theorem ordX_of {xs:List Int} {n:Nat} (h:(natI (List.range n)).Perm xs):OrdX xs n:=by
 refine ⟨xs.map Int.toNat,?_,?_⟩
 ·unfold natI;rw [map_map]
  conv=>lhs;rw [<- map_id xs]
  apply List.map_congr_left;intro x hx;obtain ⟨k,_,rfl⟩:=mem_map.mp (h.symm.mem_iff.mp hx);simp
 ·have e:(natI (List.range n)).map Int.toNat=List.range n:=by
   unfold natI;rw [map_map]
   conv=>rhs;rw [<- map_id (List.range n)]
   apply List.map_congr_left;intro x _;simp
  have:=(h.map Int.toNat).symm;rwa [e] at this
theorem OrdX.isO {xs:List Int} (h:OrdX xs xs.length):∃ os,xs=natI os/\IsO os:=by
 obtain ⟨os,rfl,p⟩:=h;rw [Jh] at p;exact ⟨os,rfl,p⟩
theorem J1v {a b:List Nat} (h:natI a=natI b):a=b:=by
 have:=congrArg (List.map Int.toNat) h;unfold natI at this;rw [map_map,map_map] at this;have e:(Int.toNat ∘ fun (n:Nat)=>(n:Int))=id:=by funext x;simp
 rwa [e,map_id,map_id] at this
def J1w (os:List Nat) (k:Nat):Bool:=(os.take k).all fun x=>decide (x < k)
theorem looseB_max {os:List Nat} {k:Nat} {M:Int} (hM:M∈natI (os.take k)) (ha:∀ a∈natI (os.take k),a<=M):decide (M < (k:Int))=J1w os k:=by
 obtain ⟨m,hm,rfl⟩:=mem_map.mp hM;unfold J1w;by_cases c:m < k
 ·rw [decide_eq_true (by omega),eq_comm,all_eq_true];intro x hx;have:=ha _ (mem_map.mpr ⟨x,hx,rfl⟩);exact decide_eq_true (by omega)
 ·rw [decide_eq_false (by omega),eq_comm,<- Bool.not_eq_true,all_eq_true];intro h;exact c (of_decide_eq_true (h m hm))
theorem loose_any {os:List Nat}:((List.range (os.length - 1)).map fun i=>J1w os (i + 1)).any id=true↔¬ Tight os:=by
 rw [List.any_eq_true];constructor
 ·rintro ⟨b,hb,h1⟩ t;obtain ⟨i,hi,rfl⟩:=mem_map.mp hb;have hi:=mem_range.mp hi;obtain ⟨x,hx,hk⟩:=t (i + 1) (by omega) (by omega);have h2:J1w os (i + 1)=true:=h1;unfold J1w at h2;rw [all_eq_true] at h2;have:=of_decide_eq_true (h2 x hx);omega
 ·intro h;apply Classical.byContradiction;intro c;apply h;intro k h1 h2;apply Classical.byContradiction;intro q;apply c;refine ⟨J1w os k,mem_map.mpr ⟨k - 1,mem_range.mpr (by omega),by rw [show k - 1 + 1=k by omega]⟩,?_⟩;show J1w os k=true;unfold J1w;rw [all_eq_true];intro x hx;apply decide_eq_true;apply Classical.byContradiction;intro z;exact q ⟨x,hx,by omega⟩
theorem overO_len {os:List Nat} (h:IsO os) (t:Tight os) (h2:2<=os.length):(overO os).length=os.length:=by
 have:=J1c h t h2;unfold overO;simp only [length_append,length_take,length_drop,length_cons,length_nil];omega
end Rl
namespace Rl
def numU (n b p:Nat):Nat:=if p<=b then p else if p=n - 1 then b + 1 else p + 1
def J17 (os:List Nat):List Nat:=os.map (numU os.length (os.getD (os.length - 1) 0))
def J1t (n b:Nat):List Nat:=insAt (List.range (n - 1)) (b + 1) (n - 1)
theorem idx_get {l:List Nat} (nd:l.Nodup) {j p:Nat} (h:l[j]?=some p):l.idxOf p=j:=by
 have hj:j < l.length:=(List.getElem?_eq_some_iff.mp h).1;have e:l[j]=p:=(List.getElem?_eq_some_iff.mp h).2;have hm:p∈l:=e ▸ List.getElem_mem hj;have h1:=List.idxOf_lt_length_of_mem hm;have h2:l[l.idxOf p]=p:=getElem_idxOf h1;exact (List.getElem_inj nd).mp (h2.trans e.symm)
theorem placesU_nd {n b:Nat} (hn:1<=n):(J1t n b).Nodup:=by
 unfold J1t;rw [(J3a _ _ _).nodup_iff,nodup_cons];exact ⟨fun h=>by have:=mem_range.mp h;omega,nodup_range⟩
theorem J1s {n b p:Nat} (hb:b + 1<=n - 1) (hp:p < n):(J1t n b)[numU n b p]?=some p:=by
 unfold J1t insAt numU;have hl:((List.range (n - 1)).take (b + 1)).length=b + 1:=by rw [length_take,length_range];omega
 by_cases c:p<=b
 ·rw [if_pos c,getElem?_append_left (by omega),List.getElem?_take_of_lt (by omega),List.getElem?_range (by omega)]
 ·rw [if_neg c];by_cases c2:p=n - 1
  ·rw [if_pos c2,getElem?_append_right (by omega),hl,Nat.sub_self];simp [c2]
  ·rw [if_neg c2,getElem?_append_right (by omega),hl,show p + 1 - (b + 1)=(p - (b + 1)) + 1 by omega,List.getElem?_cons_succ,List.getElem?_drop,List.getElem?_range (by omega)]
   congr 1
   omega
theorem J2e {os:List Nat} (h:IsO os) (t:Tight os) (h2:2<=os.length):os.getD (os.length - 1) 0 + 1<=os.length - 1:=by
 have hm:os.getD (os.length - 1) 0∈os:=J2r (by omega);have h1:=h.lt _ hm;have h3:=J1c h t h2;apply Classical.byContradiction;intro c;have e:os.getD (os.length - 1) 0=os.length - 1:=by omega
 have h4:os[os.length - 1]?=some (os.length - 1):=by
  rw [getD_eq_getElem?_getD,List.getElem?_eq_getElem (show os.length - 1 < os.length by omega)] at e;rw [List.getElem?_eq_getElem (show os.length - 1 < os.length by omega)];exact congrArg some e
 have:=idx_get h.nd h4;omega
theorem numU_lt {n b p:Nat} (hb:b + 1<=n - 1) (hp:p < n):numU n b p < n:=by
 unfold numU;by_cases c:p<=b
 ·rw [if_pos c];omega
 ·rw [if_neg c];by_cases c2:p=n - 1
  ·rw [if_pos c2];omega
  ·rw [if_neg c2];omega
theorem J1n (os:List Nat):(J17 os).length=os.length:=length_map ..
end Rl
namespace Rl
structure OvU (ls:List Int) (os:List Nat) (n:Nat):Prop where
 io:IsO os
 lo:os.length=n
 ll:ls.length=n
 two:2<=n
 pos:∀ j,j < n->1<=ls.getD j 0
 tight:Tight os
theorem OvU.split {ls:List Int} {os:List Nat} {n:Nat} (h:OvU ls os n):∃ A B,os=A ++ (n - 1) :: (B ++ [os.getD (n - 1) 0])/\overO os=A ++ (n - 1) :: os.getD (n - 1) 0 :: B:=by
 have hb:=J1c h.io h.tight (by rw [h.lo];exact h.two);have e:=over_back (os:=os) (by rw [h.lo];exact h.two) hb;rw [h.lo] at e hb;obtain ⟨s,es⟩:∃ s,s=os.idxOf (n - 1):=⟨_,rfl⟩;have hs:s < os.length:=by rw [<- es] at hb;rw [h.lo];have:=h.two;omega
 have e1:os.take (s + 1)=os.take s ++ [n - 1]:=by
  rw [take_succ,List.getElem?_eq_getElem hs];have:os[s]=n - 1:=by
   have h2:os.idxOf (n - 1) < os.length:=by rw [<- es];exact hs
   have:=getElem_idxOf h2;simp only [<- es] at this;exact this
  rw [this];rfl
 refine ⟨os.take s,(os.drop (s + 1)).take (n - 1 - (s + 1)),?_,?_⟩
 ·conv=>lhs;rw [<- e,<- es,e1]
  simp only [List.append_assoc,cons_append,nil_append,List.singleton_append]
 ·unfold overO;rw [h.lo,<- es,e1];simp only [List.append_assoc,cons_append,nil_append,List.singleton_append]
theorem J3l {n b p q:Nat} (hb:b + 1<=n - 1) (hp:p < n) (hq:q < n) (e:numU n b p=numU n b q):p=q:=by
 have h1:=J1s hb hp;rw [e,J1s hb hq] at h1;exact (Option.some.inj h1).symm
theorem isO_of {l:List Nat} (nd:l.Nodup) (h:∀ x∈l,x < l.length):IsO l :=
 (List.perm_ext_iff_of_nodup nd nodup_range).mpr fun j=>⟨fun q=>mem_range.mpr (h j q),fun q=>J1u nd h (Nat.le_refl _) (mem_range.mp q)⟩
theorem OvU.over_isO {ls:List Int} {os:List Nat} {n:Nat} (h:OvU ls os n):IsO (overO os):=by
 obtain ⟨A,B,e1,e2⟩:=h.split;refine h.io.perm ?_;rw [e2]
 conv=>rhs;rw [e1]
 refine List.Perm.append_left _ (List.Perm.cons _ ?_);exact (List.perm_append_singleton _ _).symm
theorem J12 {f:Nat->Nat}:∀ {l:List Nat},l.Nodup->(∀ x∈l,∀ y∈l,f x=f y->x=y)->(l.map f).Nodup
 | [],_,_=>List.nodup_nil
 | a :: l,h,hi=>by
  rw [map_cons,nodup_cons];refine ⟨fun q=>?_,J12 (nodup_cons.mp h).2 fun x hx y hy=>hi x (mem_cons_of_mem _ hx) y (mem_cons_of_mem _ hy)⟩;obtain ⟨x,hx,e⟩:=mem_map.mp q;have:=hi x (mem_cons_of_mem _ hx) a (mem_cons_self ..) e;exact (nodup_cons.mp h).1 (this ▸ hx)
theorem underO_isO {os:List Nat} (io:IsO os) (t:Tight os) (h2:2<=os.length):IsO (J17 os):=by
 have hb:=J2e io t h2;refine isO_of (J12 io.nd fun x hx y hy e=>J3l hb (io.lt x hx) (io.lt y hy) e) fun x hx=>?_;rw [J1n];obtain ⟨p,hp,rfl⟩:=mem_map.mp hx;exact numU_lt hb (io.lt p hp)
end Rl
namespace Rl
theorem tight_over {os:List Nat} (io:IsO os) (t:Tight os) (h2:2<=os.length):Tight (overO os):=by
 have hs:=J1c io t h2;have ol:=overO_len io t h2;intro k k1 k2;rw [ol] at k2;generalize hs':os.idxOf (os.length - 1)=s at *;have lA:(os.take (s + 1)).length=s + 1:=by rw [length_take];omega
 have eo:overO os=os.take (s + 1) ++ ([os.getD (os.length - 1) 0] ++ (os.drop (s + 1)).take (os.length - 1 - (s + 1))):=by
  unfold overO;rw [hs',List.append_assoc]
 by_cases c:k<=s + 1
 ·have e:(overO os).take k=os.take k:=by
   rw [eo,List.take_append_of_le_length (by omega),List.take_take]
   congr 1
   omega
  rw [e];exact t k k1 k2
 ·refine ⟨os.length - 1,?_,by omega⟩;rw [eo,List.take_append,List.take_of_length_le (by omega)];refine mem_append_left _ ?_;have hlt:s < os.length:=by omega
  have h4:os[s]=os.length - 1:=by
   have h3:os.idxOf (os.length - 1) < os.length:=by rw [hs'];exact hlt
   have:=getElem_idxOf h3;simp only [hs'] at this;exact this
  rw [<- h4];exact List.mem_take_iff_getElem.mpr ⟨s,by omega,rfl⟩
theorem J2w {os:List Nat} {k:Nat} (h:k<=os.length - 1):∀ x∈os.take k,x∈os.take (os.length - 1):=fun x hx=>by
 have e:os.take k=(os.take (os.length - 1)).take k:=by rw [List.take_take];congr 1;omega
 rw [e] at hx;exact mem_of_mem_take hx
theorem last_notin {os:List Nat} (nd:os.Nodup) (h:1<=os.length):os.getD (os.length - 1) 0 ∉ os.take (os.length - 1):=fun q=>by
 have e:os.drop (os.length - 1)=[os.getD (os.length - 1) 0]:=by
  rw [drop_eq_getElem_cons (show os.length - 1 < os.length by omega),getD_eq_getElem?_getD,List.getElem?_eq_getElem (show os.length - 1 < os.length by omega),List.drop_eq_nil_of_le (by omega)];rfl
 have hn:(os.take (os.length - 1) ++ os.drop (os.length - 1)).Nodup:=by rw [take_append_drop];exact nd
 rw [e] at hn;exact (nodup_append.mp hn).2.2 _ q _ (mem_singleton_self _) rfl
theorem tight_under {os:List Nat} (io:IsO os) (t:Tight os) (h2:2<=os.length):Tight (J17 os):=by
 have hb:=J2e io t h2;intro k k1 k2;rw [J1n] at k2;have e:(J17 os).take k=(os.take k).map (numU os.length (os.getD (os.length - 1) 0)):=by unfold J17;rw [map_take]
 rw [e];have ni:=last_notin io.nd (by omega);generalize os.getD (os.length - 1) 0=b at *;apply Classical.byContradiction;intro c;have all:∀ x∈os.take k,numU os.length b x < k:=fun x hx=>by
  apply Classical.byContradiction;intro q;exact c ⟨_,mem_map.mpr ⟨x,hx,rfl⟩,by omega⟩
 obtain ⟨x,hx,hk⟩:=t k k1 k2;have hx1:=all x hx;have hbk:b < k:=by
  unfold numU at hx1;split at hx1
  ·omega
  ·split at hx1 <;> omega
 have lt_:∀ y∈os.take k,y < os.length:=fun y hy=>io.lt y (mem_of_mem_take hy);have nd:((os.take k).map (numU os.length b)).Nodup:=J12 (take_nd io.nd k) fun x hx y hy e=>J3l hb (lt_ x hx) (lt_ y hy) e;have hl:((os.take k).map (numU os.length b)).length=k:=by rw [length_map,length_take];omega
 have hm:=J1u (n:=k) nd (fun y hy=>by obtain ⟨z,hz,rfl⟩:=mem_map.mp hy;exact all z hz) (by omega) hbk;obtain ⟨z,hz,ez⟩:=mem_map.mp hm;have eb:numU os.length b b=b:=by unfold numU;rw [if_pos (Nat.le_refl _)]
 have:=J3l hb (lt_ z hz) (show b < os.length by omega) (ez.trans eb.symm);subst this;exact ni (J2w (by omega) _ hz)
structure OkO (n:Nat) (o:List Nat):Prop where
 io:IsO o
 t:Tight o
 len:o.length=n
theorem OkO.over {n:Nat} {o:List Nat} (h:OkO n o) (h2:2<=n):OkO n (overO o):=by
 have h3:2<=o.length:=by rw [h.len];exact h2
 refine ⟨?_,tight_over h.io h.t h3,(overO_len h.io h.t h3).trans h.len⟩;exact (OvU.mk (ls:=List.replicate o.length 1) h.io rfl List.length_replicate h3 (fun j hj=>by rw [getD_eq_getElem?_getD,List.getElem?_replicate,if_pos hj];exact Int.le_refl _) h.t).over_isO
theorem OkO.under {n:Nat} {o:List Nat} (h:OkO n o) (h2:2<=n):OkO n (J17 o):=by
 have h3:2<=o.length:=by rw [h.len];exact h2
 exact ⟨underO_isO h.io h.t h3,tight_under h.io h.t h3,(J1n o).trans h.len⟩
def encO:List Nat->Nat
 | []=>0
 | x :: r=>x + 7 * encO r
theorem encO_lt:∀ {l:List Nat},(∀ x∈l,x < 7)->encO l < 7 ^ l.length
 | [],_=>by decide
 | x :: r,h=>by
  have h1:=encO_lt (l:=r) fun y hy=>h y (mem_cons_of_mem _ hy);have h2:=h x (mem_cons_self ..);show x + 7 * encO r < 7 ^ (r.length + 1);rw [Nat.pow_succ];omega
theorem encO_inj:∀ {l m:List Nat},l.length=m.length->(∀ x∈l,x < 7)->(∀ x∈m,x < 7)->encO l=encO m->l=m
 | [],[],_,_,_,_=>rfl
 | [],_ :: _,h,_,_,_=>by simp at h
 | _ :: _,[],h,_,_,_=>by simp at h
 | x :: r,y :: q,h,h1,h2,e=>by
  have e:x + 7 * encO r=y + 7 * encO q:=e;have a:=h1 x (mem_cons_self ..);have b:=h2 y (mem_cons_self ..);have exy:x=y:=by omega
  have er:encO r=encO q:=by omega
  rw [exy,encO_inj (by simpa using h) (fun z hz=>h1 z (mem_cons_of_mem _ hz)) (fun z hz=>h2 z (mem_cons_of_mem _ hz)) er]
theorem J37 {α:Type} {f:α->Nat}:∀ {l:List α},l.Nodup->(∀ x∈l,∀ y∈l,f x=f y->x=y)->(l.map f).Nodup
 | [],_,_=>List.nodup_nil
 | a :: l,h,hi=>by
  rw [map_cons,nodup_cons];refine ⟨fun q=>?_,J37 (nodup_cons.mp h).2 fun x hx y hy=>hi x (mem_cons_of_mem _ hx) y (mem_cons_of_mem _ hy)⟩;obtain ⟨x,hx,e⟩:=mem_map.mp q;have:=hi x (mem_cons_of_mem _ hx) a (mem_cons_self ..) e;exact (nodup_cons.mp h).1 (this ▸ hx)
theorem J2p {n:Nat} {ks:List (List Nat)} (hn:n<=7) (nd:ks.Nodup) (h:∀ o∈ks,OkO n o):ks.length<=823543:=by
 have lt:∀ o∈ks,∀ x∈o,x < 7:=fun o ho x hx=>by have:=(h o ho).io.lt x hx;rw [(h o ho).len] at this;omega
 have h1:=J3m (l:=ks.map encO) (n:=823543) (J37 nd fun x hx y hy e=>encO_inj (by rw [(h x hx).len,(h y hy).len]) (lt x hx) (lt y hy) e) fun z hz=>by
  obtain ⟨o,ho,rfl⟩:=mem_map.mp hz;have h2:=encO_lt (lt o ho);have h3:7 ^ o.length<=7 ^ 7:=Nat.pow_le_pow_right (by decide) (by rw [(h o ho).len];exact hn);have h4:(7:Nat) ^ 7=823543:=by decide
  omega
 rwa [length_map] at h1
end Rl
namespace Rl
def BadX (xs:List Int):Prop:=¬ (OrdX xs xs.length/\(2:Int)<=xs.length/\(xs.length:Int)<=7)
def LooseX (xs:List Int):Prop:=∃ os:List Nat,xs=natI os/\IsO os/\2<=os.length/\os.length<=7/\¬ Tight os
def GoodX (xs:List Int) (os:List Nat):Prop:=xs=natI os/\IsO os/\2<=os.length/\os.length<=7/\Tight os
theorem GoodX.notBad {xs:List Int} {os:List Nat} (h:GoodX xs os):¬ BadX xs:=fun b=>by
 obtain ⟨rfl,io,h2,h7,_⟩:=h;exact b ⟨⟨os,rfl,by rw [Jh];exact io⟩,by rw [Jh];omega,by rw [Jh];omega⟩
theorem GoodX.notLoose {xs:List Int} {os:List Nat} (h:GoodX xs os):¬ LooseX xs:=fun h9=>by
 obtain ⟨o,e,_,_,_,nt⟩:=h9;have:=J1v (h.1.symm.trans e);exact nt (this ▸ h.2.2.2.2)
theorem okDown:OkO 7 [6,5,4,3,2,1,0]:=by
 refine ⟨?_,?_,rfl⟩
 ·unfold IsO;exact (List.perm_ext_iff_of_nodup (by decide) nodup_range).mpr fun j=>by
   constructor
   ·intro h;have:∀ x∈[6,5,4,3,2,1,0],x < 7:=by decide
    exact mem_range.mpr (this j h)
   ·intro h;have h:=mem_range.mp h;have:∀ x,x < 7->x∈[6,5,4,3,2,1,0]:=by decide
    exact this j h
 ·intro k k1 k2;refine ⟨6,?_,by simp at k2;omega⟩
  cases k with
  | zero=>omega
  | succ k=>simp
end Rl
namespace Rl
def stepO (w:Bool) (o:List Nat):List Nat:=if w=true then overO o else J17 o
def Clo (ks:List (List Nat)) (d:List Nat->Nat) (o:List Nat):Prop:=∀ w,stepO w o∈ks/\d (stepO w o)<=d o + 1
structure Fam (s:List Nat) (ks:List (List Nat)) (d:List Nat->Nat):Prop where
 st:s∈ks
 d0:d s=0
 clo:∀ o∈ks,Clo ks d o
 pre:∀ o∈ks,o≠s->∃ p∈ks,∃ w,o=stepO w p/\d o=d p + 1
def setD (d:List Nat->Nat) (o:List Nat) (m:Nat):List Nat->Nat:=fun x=>if x=o then m else d x
theorem setD_ne {d:List Nat->Nat} {o x:List Nat} {m:Nat} (h:x≠o):setD d o m x=d x:=if_neg h
theorem J2a {d:List Nat->Nat} {o:List Nat} {m:Nat}:setD d o m o=m:=if_pos rfl
theorem Ju {d:List Nat->Nat} {o x:List Nat} {m:Nat} {ks:List (List Nat)} (ho:o ∉ ks) (hx:x∈ks):setD d o m x=d x:=setD_ne fun e=>ho (e ▸ hx)
theorem Clo.add {ks:List (List Nat)} {d:List Nat->Nat} {o x:List Nat} {m:Nat} (h:Clo ks d x) (hx:x∈ks) (ho:o ∉ ks):Clo (ks ++ [o]) (setD d o m) x:=fun w=>by
 obtain ⟨h1,h2⟩:=h w;exact ⟨mem_append_left _ h1,by rw [Ju ho h1,Ju ho hx];exact h2⟩
theorem J26 {n b:Nat} (h:b + 1<=n):(List.range n).filter (fun x=>decide (x<=b))=(List.range n).take (b + 1):=by
 conv=>lhs;rw [<- take_append_drop (b + 1) (List.range n)]
 rw [List.filter_append,List.filter_eq_self.mpr,List.filter_eq_nil_iff.mpr,append_nil]
 ·intro x hx;obtain ⟨i,hi,e⟩:=getElem_of_mem hx;rw [getElem_drop,List.getElem_range] at e;simp;omega
 ·intro x hx;rw [List.take_range,Nat.min_eq_left (by omega)] at hx;have:=mem_range.mp hx;exact decide_eq_true (by omega)
theorem J27 {n b:Nat} (h:b + 1<=n):(List.range n).filter (fun x=>decide (b < x))=(List.range n).drop (b + 1):=by
 conv=>lhs;rw [<- take_append_drop (b + 1) (List.range n)]
 rw [List.filter_append,List.filter_eq_nil_iff.mpr,List.filter_eq_self.mpr,nil_append]
 ·intro x hx;obtain ⟨i,hi,e⟩:=getElem_of_mem hx;rw [getElem_drop,List.getElem_range] at e;exact decide_eq_true (by omega)
 ·intro x hx;rw [List.take_range,Nat.min_eq_left (by omega)] at hx;have:=mem_range.mp hx;simp;omega
end Rl
namespace L2
open PySem PySem.Spec PyProof.Rows
end L2
namespace Rl
noncomputable section
def unR (n l:Nat) (os:List Nat):List Nat:=@List.rec Nat (fun _=>List Nat) [] (fun h _ ih=>cond (Nat.ble h l) h (cond (Nat.beq h (Nat.pred n)) (Nat.succ l) (Nat.succ h)) :: ih) os
end
end Rl
namespace Rl
end Rl
namespace Rl
open L2
end Rl
namespace Tm
open PySem PyProof.Rows
abbrev kv (κ:KeyKind) (x:Keyed):κ.α:=(κ.keyOf x.1).getD κ.dflt
theorem KK_at {κ:KeyKind} {xs:Array Keyed} {i:Nat} {x:Keyed} (h:xs[i]?=some x):KK κ xs i=kv κ x:=by unfold KK;rw [h]
structure SB (sk:SortKind) (a₀:Array Keyed) (st:SortSt):Prop where
 perm:(arrOf st).Perm a₀
 kind:kindOf st=sk
 failed:failedOf st=none
theorem SB.size {sk:SortKind} {a₀:Array Keyed} {st:SortSt} (h:SB sk a₀ st):(arrOf st).size=a₀.size:=h.perm.size_eq
theorem SB.at {sk:SortKind} {a₀:Array Keyed} {st:SortSt} (h:SB sk a₀ st) {i:Nat} (hi:i < a₀.size):∃ x,(arrOf st)[i]?=some x/\x∈a₀.toList:=by
 have hi':i < (arrOf st).size:=by rw [h.size];exact hi
 exact ⟨_,getElem?_pos _ i hi',(Array.perm_iff_toList_perm.mp h.perm).mem_iff.mp (by simp)⟩
theorem SB.mem {sk:SortKind} {a₀:Array Keyed} {st:SortSt} (h:SB sk a₀ st) {i:Nat} {x:Keyed} (hx:(arrOf st)[i]?=some x):x∈a₀.toList :=
 (Array.perm_iff_toList_perm.mp h.perm).mem_iff.mp (mem_toList_iff.mpr (Array.mem_of_getElem? hx))
theorem SB.setArr {sk:SortKind} {a₀:Array Keyed} {st:SortSt} (h:SB sk a₀ st) {xs:Array Keyed} (hp:xs.Perm (arrOf st)):SB sk a₀ (setArr st xs):=⟨hp.trans h.perm,h.kind,h.failed⟩
structure Cmp (prog:Program) (w:World) (A:Around) (s:Shared) (κ:KeyKind) (sk:SortKind) (a₀:Array Keyed):Prop where
 lt:∀ x y,x∈a₀.toList->y∈a₀.toList->∀ (E:Value->Shared->Prop) (Q:Bool->Shared->Prop),Q (κ.blt (kv κ x) (kv κ y)) s->wpAny (model prog w) A (keyLt' sk x.1 y.1) Q E s
def SOn (κ:KeyKind) (xs:Array Keyed) (lo hi:Nat):Prop:=∀ i j,lo<=i->i<=j->j < hi->κ.kle (KK κ xs i) (KK κ xs j)
def NOn (κ:KeyKind) (xs:Array Keyed) (lo hi:Nat):Prop:=∀ i j,lo<=i->i<=j->j < hi->κ.kle (KK κ xs j) (KK κ xs i)
section
variable {prog:Program} {w:World} {A:Around} {E:Value->Shared->Prop} {s:Shared} {a₀:Array Keyed} {κ:KeyKind} {sk:SortKind}
open KeyOrd
theorem wp_lt {st:SortSt} {x y:Keyed} {Q:Option Bool->SortSt->Prop} (C:Cmp prog w A s κ sk a₀) (hB:SB sk a₀ st) (hx:x∈a₀.toList) (hy:y∈a₀.toList) (h:Q (some (κ.blt (kv κ x) (kv κ y))) st) :
  wpS (model prog w) A E s (lt' x y) Q st:=by
 rw [lt'_eq];refine wpS_bind (wpS_get ?_);rw [hB.kind];refine wpS_bind (wpS_lift (wpAny_attempt (C.lt x y hx hy _ _ ⟨rfl,?_⟩)));exact wpS_pure h
theorem J2t {st:SortSt} {i j:Nat} {Q:Option Bool->SortSt->Prop} (C:Cmp prog w A s κ sk a₀) (hB:SB sk a₀ st) (hi:i < a₀.size) (hj:j < a₀.size)
  (h1:κ.klt (KK κ (arrOf st) i) (KK κ (arrOf st) j)->Q (some true) st) (h2:κ.kle (KK κ (arrOf st) j) (KK κ (arrOf st) i)->Q (some false) st):wpS (model prog w) A E s (ltAt' i j) Q st:=by
 obtain ⟨x,ex,hx⟩:=hB.at hi;obtain ⟨y,ey,hy⟩:=hB.at hj;rw [ltAt'_eq];refine wpS_bind (wpS_get ?_);show wpS _ _ _ _ (do let x <- elem' (arrOf st) i;let y <- elem' (arrOf st) j;lt' x y) Q st;rw [elem'_eq,elem'_eq,ex,ey];refine wpS_bind (wpS_pure (wpS_bind (wpS_pure (wp_lt C hB hx hy ?_))));rw [KK_at ex,KK_at ey] at h1 h2
 cases c:κ.blt (kv κ x) (kv κ y) with
 | true=>exact h1 c
 | false=>exact h2 c
theorem wp_rev {st:SortSt} {i j:Nat} {Q:Unit->SortSt->Prop} (h:Q () (setArr st (mirror (arrOf st) i j ((j - i) / 2)))) :
  wpS (model prog w) A E s (reverseSlice' i j) Q st:=by
 rw [reverseSlice'_eq];exact wpS_modify h
theorem wp_asc {lo a nrem:Nat} {st:SortSt} {f:Nat->AscSt->StateT SortSt Sem (ForInStep AscSt)} {Q:AscSt->SortSt->Prop}
  (hf:∀ i n (Q':ForInStep AscSt->SortSt->Prop),1<=n->n < nrem->(κ.klt (KK κ (arrOf st) (lo + n)) (KK κ (arrOf st) (lo + n - 1))->Q' (.done (none,n)) st)->(κ.kle (KK κ (arrOf st) (lo + n - 1)) (KK κ (arrOf st) (lo + n))->Q' (.yield (none,n + 1)) st)->wpS (model prog w) A E s (f i (none,n)) Q' st)
  (ha:1<=a) (han:a<=nrem) (hs:SOn κ (arrOf st) lo (lo + a))
  (h:∀ n,a<=n->n<=nrem->SOn κ (arrOf st) lo (lo + n)->(n=nrem\/κ.klt (KK κ (arrOf st) (lo + n)) (KK κ (arrOf st) (lo + n - 1)))->Q (none,n) st) :
  wpS (model prog w) A E s (forIn [a:nrem] (none,a) f) Q st:=by
 refine wpS_forRange (I:=fun x c st'=>st'=st/\c=(none,x)/\SOn κ (arrOf st) lo (lo + x)) ?step ?fin ⟨rfl,rfl,hs⟩
 case fin =>
  rintro c st' ⟨rfl,rfl,hs'⟩;rw [show max a nrem=nrem by omega] at hs' ⊢;exact h nrem han (Nat.le_refl _) hs' (.inl rfl)
 case step =>
  rintro x c st' hax hxn ⟨rfl,rfl,hs'⟩;refine hf x x _ (by omega) hxn (fun l=>h x hax (by omega) hs' (.inr l)) fun l=>⟨rfl,rfl,fun i j h0 hij hj=>?_⟩;by_cases hjx:j < lo + x
  ·exact hs' i j h0 hij hjx
  ·have hj':j=lo + x:=by omega
   subst hj';by_cases hi':i=lo + x
   ·subst hi';exact kle_refl _
   ·exact kle_trans (hs' i (lo + x - 1) h0 (by omega) (by omega)) l
theorem wp_desc {lo n nrem:Nat} {st:SortSt} {f:Nat->DescSt->StateT SortSt Sem (ForInStep DescSt)} {Q:DescSt->SortSt->Prop} (hz:lo + nrem<=a₀.size)
  (hf:∀ i m neq st (Q':ForInStep DescSt->SortSt->Prop),SB sk a₀ st->1<=m->m < nrem->
   (κ.klt (KK κ (arrOf st) (lo + m)) (KK κ (arrOf st) (lo + m - 1))->(neq > 0->Q' (.yield (none,m + 1,0)) (setArr st (mirror (arrOf st) (lo + m - (neq + 1)) (lo + m) ((lo + m - (lo + m - (neq + 1))) / 2))))/\(¬ neq > 0->Q' (.yield (none,m + 1,0)) st))->
   (κ.klt (KK κ (arrOf st) (lo + m - 1)) (KK κ (arrOf st) (lo + m))->Q' (.done (none,m,neq)) st)->
   (KK κ (arrOf st) (lo + m)=KK κ (arrOf st) (lo + m - 1)->Q' (.yield (none,m + 1,neq + 1)) st)->wpS (model prog w) A E s (f i (none,m,neq)) Q' st)
  (h1:1<=n) (hnn:n<=nrem) (hB:SB sk a₀ st) (hs:NOn κ (arrOf st) lo (lo + n))
  (h:∀ m neq st',SB sk a₀ st'->pendingOf st'=pendingOf st->(∀ k,k < lo->(arrOf st')[k]?=(arrOf st)[k]?)->n<=m->m<=nrem->NOn κ (arrOf st') lo (lo + m)->neq + 1<=m->(∀ i,lo + m - (neq + 1)<=i->i < lo + m->KK κ (arrOf st') i=KK κ (arrOf st') (lo + m - 1))->Q (none,m,neq) st') :
  wpS (model prog w) A E s (forIn [n:nrem] (none,n,0) f) Q st:=by
 refine wpS_forRange (I:=fun x c st'=>∃ neq,c=(none,x,neq)/\SB sk a₀ st'/\pendingOf st'=pendingOf st/\(∀ k,k < lo->(arrOf st')[k]?=(arrOf st)[k]?)/\NOn κ (arrOf st') lo (lo + x)/\neq + 1<=x/\
   (∀ i,lo + x - (neq + 1)<=i->i < lo + x->KK κ (arrOf st') i=KK κ (arrOf st') (lo + x - 1))) ?step ?fin ⟨0,rfl,hB,rfl,fun _ _=>rfl,hs,by omega,fun i h1 h2=>by congr 1;omega⟩
 case fin =>
  rintro c st' ⟨neq,rfl,hB',hp,hk,hs',hq,he⟩;rw [show max n nrem=nrem by omega] at hs' hq he ⊢;exact h nrem neq st' hB' hp hk hnn (Nat.le_refl _) hs' hq he
 case step =>
  rintro x c st' hax hxn ⟨neq,rfl,hB',hp,hk,hs',hq,he⟩;have hsz:lo + x<=(arrOf st').size:=by rw [hB'.size];omega
  have step1:∀ xs:Array Keyed,(∀ k,KK κ xs k=KK κ (arrOf st') k)->κ.kle (KK κ (arrOf st') (lo + x)) (KK κ (arrOf st') (lo + x - 1))->NOn κ xs lo (lo + (x + 1)):=by
   intro xs hk hl i j h0 hij hj;rw [hk,hk];by_cases hjx:j < lo + x
   ·exact hs' i j h0 hij hjx
   ·have hj':j=lo + x:=by omega
    subst hj';by_cases hi':i=lo + x
    ·subst hi';exact kle_refl _
    ·exact kle_trans hl (hs' i (lo + x - 1) h0 (by omega) (by omega))
  refine hf x x neq st' _ hB' (by omega) hxn (fun l=>⟨fun hn=>?_,fun hn=>?_⟩) (fun l=>h x neq st' hB' hp hk hax (by omega) hs' hq he) fun l=>?_
  ·refine ⟨0,rfl,hB'.setArr (mirror_perm _ _ _ _),hp,fun k hkl=>?_,step1 _ (KK_mirror_equal hsz he) (kle_of_klt l),by omega,fun i h1 h2=>by congr 1;omega⟩;show (mirror (arrOf st') _ _ _)[k]?=_;rw [getElem?_mirror_all hsz,if_neg (by omega)];exact hk k hkl
  ·exact ⟨0,rfl,hB',hp,hk,step1 _ (fun _=>rfl) (kle_of_klt l),by omega,fun i h1 h2=>by congr 1;omega⟩
  ·refine ⟨neq + 1,rfl,hB',hp,hk,step1 _ (fun _=>rfl) (by rw [l];exact kle_refl _),by omega,fun i h1 h2=>?_⟩;rw [show lo + (x + 1) - 1=lo + x by omega,l];by_cases hix:i=lo + x
   ·subst hix;exact l
   ·exact he i (by omega) (by omega)
theorem J1d {xs:Array Keyed} {i j k:Nat} (hj:j<=xs.size) (h:k < i):(mirror xs i j ((j - i) / 2))[k]?=xs[k]?:=by
 rw [getElem?_mirror_all hj,if_neg (by omega)]
theorem wp_countRun {st:SortSt} {lo nrem:Nat} {Q:Option Nat->SortSt->Prop} (C:Cmp prog w A s κ sk a₀) (hn:lo + nrem<=a₀.size) (h1:1<=nrem) (hB:SB sk a₀ st)
  (h:∀ m st',SB sk a₀ st'->pendingOf st'=pendingOf st->(∀ k,k < lo->(arrOf st')[k]?=(arrOf st)[k]?)->1<=m->m<=nrem->SOn κ (arrOf st') lo (lo + m)->Q (some m) st') :
  wpS (model prog w) A E s (countRun' lo nrem) Q st:=by
 rw [countRun'_eq];have asc:∀ (st1:SortSt),SB sk a₀ st1->∀ n (Q':ForInStep AscSt->SortSt->Prop),1<=n->n < nrem->(κ.klt (KK κ (arrOf st1) (lo + n)) (KK κ (arrOf st1) (lo + n - 1))->Q' (.done (none,n)) st1)->(κ.kle (KK κ (arrOf st1) (lo + n - 1)) (KK κ (arrOf st1) (lo + n))->Q' (.yield (none,n + 1)) st1)->
   wpS (model prog w) A E s (do
    let __x <- ltAt' (lo + n) (lo + n - 1)
    match __x with
    | some smaller=>if smaller=true then pure (ForInStep.done (none,n)) else pure (ForInStep.yield (none,n + 1))
    | _=>pure (ForInStep.done (some none,n))) Q' st1:=fun st1 hB1 n Q' n1 n2 k1 k2=>by
  refine wpS_bind (J2t C hB1 (by omega) (by omega) (fun l=>?_) fun l=>?_)
  ·exact wpS_pure (k1 l)
  ·exact wpS_pure (k2 l)
 have tail:∀ (m:Nat) (st1:SortSt),SB sk a₀ st1->pendingOf st1=pendingOf st->(∀ k,k < lo->(arrOf st1)[k]?=(arrOf st)[k]?)->1<=m->m<=nrem->NOn κ (arrOf st1) lo (lo + m)->
   ∀ (f:Nat->AscSt->StateT SortSt Sem (ForInStep AscSt)),(∀ i n (Q':ForInStep AscSt->SortSt->Prop) (st1:SortSt),SB sk a₀ st1->1<=n->n < nrem->(κ.klt (KK κ (arrOf st1) (lo + n)) (KK κ (arrOf st1) (lo + n - 1))->Q' (.done (none,n)) st1)->(κ.kle (KK κ (arrOf st1) (lo + n - 1)) (KK κ (arrOf st1) (lo + n))->Q' (.yield (none,n + 1)) st1)->wpS (model prog w) A E s (f i (none,n)) Q' st1)->
   ∀ (g:AscSt->StateT SortSt Sem (Option Nat)),(∀ k,g (none,k)=pure (some k))->wpS (model prog w) A E s (do reverseSlice' lo (lo + m);let x <- forIn [m:nrem] ((none,m):AscSt) f;g x) Q st1:=by
  intro m st1 hB1 hp1 hk1 m1 m2 hs1 f hf g hg;have hsz:lo + m<=(arrOf st1).size:=by rw [hB1.size];omega
  refine wpS_bind (wp_rev ?_);have hB':SB sk a₀ (setArr st1 (mirror (arrOf st1) lo (lo + m) ((lo + m - lo) / 2))):=hB1.setArr (mirror_perm _ _ _ _);refine wpS_bind (wp_asc (κ:=κ) (lo:=lo) (fun i n Q' a1 a2 a3 a4=>hf i n Q' _ hB' a1 a2 a3 a4) m1 m2 (fun i j h0 hij hj=>?_) fun n n1 n2 hsn _=>?_)
  ·show κ.kle (KK κ (mirror (arrOf st1) _ _ _) i) (KK κ (mirror (arrOf st1) _ _ _) j);rw [KK_mirror hsz,KK_mirror hsz,if_pos (by omega),if_pos (by omega)];exact hs1 _ _ (by omega) (by omega) (by omega)
  ·rw [hg];exact wpS_pure (h n _ hB' hp1 (fun k hk=>(J1d hsz hk).trans (hk1 k hk)) (by omega) n2 hsn)
 refine wpS_bind (wp_asc (κ:=κ) (lo:=lo) (fun i n Q' a1 a2 a3 a4=>asc st hB n Q' a1 a2 a3 a4) (Nat.le_refl 1) h1 (fun i j h0 hij hj=>?_) fun n n1 n2 hsn hor=>?_)
 ·have:i=j:=by omega
  subst this;exact kle_refl _
 have dsc:∀ (m:Nat) (st1:SortSt),SB sk a₀ st1->pendingOf st1=pendingOf st->(∀ k,k < lo->(arrOf st1)[k]?=(arrOf st)[k]?)->1<=m->m<=nrem->NOn κ (arrOf st1) lo (lo + m)->
   ∀ (f:Nat->DescSt->StateT SortSt Sem (ForInStep DescSt)) (g:DescSt->StateT SortSt Sem (Option Nat)),
   (∀ i m neq st (Q':ForInStep DescSt->SortSt->Prop),SB sk a₀ st->1<=m->m < nrem->
    (κ.klt (KK κ (arrOf st) (lo + m)) (KK κ (arrOf st) (lo + m - 1))->(neq > 0->Q' (.yield (none,m + 1,0)) (setArr st (mirror (arrOf st) (lo + m - (neq + 1)) (lo + m) ((lo + m - (lo + m - (neq + 1))) / 2))))/\(¬ neq > 0->Q' (.yield (none,m + 1,0)) st))->
    (κ.klt (KK κ (arrOf st) (lo + m - 1)) (KK κ (arrOf st) (lo + m))->Q' (.done (none,m,neq)) st)->
    (KK κ (arrOf st) (lo + m)=KK κ (arrOf st) (lo + m - 1)->Q' (.yield (none,m + 1,neq + 1)) st)->wpS (model prog w) A E s (f i (none,m,neq)) Q' st)->
   (∀ m neq st',SB sk a₀ st'->pendingOf st'=pendingOf st->(∀ k,k < lo->(arrOf st')[k]?=(arrOf st)[k]?)->1<=m->m<=nrem->NOn κ (arrOf st') lo (lo + m)->neq + 1<=m->(∀ i,lo + m - (neq + 1)<=i->i < lo + m->KK κ (arrOf st') i=KK κ (arrOf st') (lo + m - 1))->wpS (model prog w) A E s (g (none,m,neq)) Q st')->
   wpS (model prog w) A E s (do liftM (rule "list.sort.descending-run");let x <- forIn [m:nrem] ((none,m,0):DescSt) f;g x) Q st1:=by
  intro m st1 hB1 hp1 hk1 m1 m2 hs1 f g hf hg;refine wpS_bind (wpS_lift (wpAny_rule ⟨rfl,?_⟩));exact wpS_bind (wp_desc hn hf m1 m2 hB1 hs1 fun m neq st' b1 b2 b3 b4 b5 b6 b7 b8=>hg m neq st' b1 (b2.trans hp1) (fun k hk=>(b3 k hk).trans (hk1 k hk)) (by omega) b5 b6 b7 b8)
 dsimp only;by_cases hnn:n=nrem
 ·rw [if_pos (by simpa using hnn)];exact wpS_pure (h n st hB rfl (fun _ _=>rfl) n1 n2 hsn)
 rw [if_neg (by simpa using hnn)];have hlt:κ.klt (KK κ (arrOf st) (lo + n)) (KK κ (arrOf st) (lo + n - 1)):=hor.resolve_left hnn;have hsz:lo + n<=(arrOf st).size:=by rw [hB.size];omega
 rcases Nat.lt_or_ge 1 n with hgt | hgt
 case' inl =>
  rw [if_pos hgt];refine wpS_bind (J2t C hB (by omega) (by omega) (fun l=>wpS_pure (h n st hB rfl (fun _ _=>rfl) n1 n2 hsn)) fun l=>?_);have hall:∀ k,lo<=k->k < lo + n->KK κ (arrOf st) k=KK κ (arrOf st) (lo + n - 1):=fun k k1 k2 =>
   kle_antisymm (hsn k (lo + n - 1) k1 (by omega) (by omega)) (kle_trans l (hsn lo k (Nat.le_refl _) k1 k2))
  refine wpS_bind (wp_rev (dsc (n + 1) _ (hB.setArr (mirror_perm _ _ _ _)) rfl (fun k hk=>J1d hsz hk) (by omega) (by omega) (fun i j h0 hij hj=>?_) _ _ ?hf1 ?hg1))
  ·show κ.kle (KK κ (mirror (arrOf st) _ _ _) j) (KK κ (mirror (arrOf st) _ _ _) i);rw [KK_mirror_equal hsz hall,KK_mirror_equal hsz hall];by_cases hjn:j < lo + n
   ·rw [hall i (by omega) (by omega),hall j (by omega) hjn];exact kle_refl _
   ·have hj':j=lo + n:=by omega
    subst hj';by_cases hi':i=lo + n
    ·subst hi';exact kle_refl _
    ·rw [hall i (by omega) (by omega)];exact kle_of_klt hlt
 case' inr =>
  rw [if_neg (by omega)];refine dsc (n + 1) st hB rfl (fun k hk=>rfl) (by omega) (by omega) (fun i j h0 hij hj=>?_) _ _ ?hf2 ?hg2
  ·by_cases hi':i=j
   ·subst hi';exact kle_refl _
   ·have hi0:i=lo:=by omega
    have hj1:j=lo + n:=by omega
    subst hi0;subst hj1;have e:i + n - 1=i:=by omega
    rw [e] at hlt;exact kle_of_klt hlt
 case hf1 | hf2 =>
  intro i m neq st1 Q' hB1 m1 m2 k1 k2 k3;dsimp only;refine wpS_bind (J2t C hB1 (by omega) (by omega) (fun l=>?_) fun l=>?_)
  ·obtain ⟨j1,j2⟩:=k1 l;dsimp only;rw [if_pos rfl];by_cases c:neq > 0
   ·rw [if_pos c];exact wpS_bind (wp_rev (wpS_pure (j1 c)))
   ·rw [if_neg c];exact wpS_pure (j2 c)
  ·dsimp only;rw [if_neg Bool.false_ne_true];refine wpS_bind (J2t C hB1 (by omega) (by omega) (fun l2=>wpS_pure (k2 l2)) fun l2=>wpS_pure (k3 (kle_antisymm l2 l)))
 case hg1 | hg2 =>
  intro m neq st1 hB1 hp1 hk1 m1 m2 hs1 hq he;have hz1:lo + m<=(arrOf st1).size:=by rw [hB1.size];omega
  dsimp only;by_cases c:neq > 0
  ·rw [if_pos c];refine wpS_bind (wp_rev (tail m _ (hB1.setArr (mirror_perm _ _ _ _)) hp1 (fun k hk=>(J1d hz1 (by omega)).trans (hk1 k hk)) m1 m2 (fun i j h0 hij hj=>?_) _ (fun i n Q' st2 hB2 a1 a2 a3 a4=>asc st2 hB2 n Q' a1 a2 a3 a4) _ fun k=>rfl));show κ.kle (KK κ (mirror (arrOf st1) _ _ _) j) (KK κ (mirror (arrOf st1) _ _ _) i);rw [KK_mirror_equal hz1 he,KK_mirror_equal hz1 he];exact hs1 i j h0 hij hj
  ·rw [if_neg c];exact tail m _ hB1 hp1 hk1 m1 m2 hs1 _ (fun i n Q' st2 hB2 a1 a2 a3 a4=>asc st2 hB2 n Q' a1 a2 a3 a4) _ fun k=>rfl
theorem wp_bin {st:SortSt} {lo n ok:Nat} {Q:Bool->SortSt->Prop} (C:Cmp prog w A s κ sk a₀) (hn:lo + n<=a₀.size) (hok:ok<=n) (hB:SB sk a₀ st) (hs:SOn κ (arrOf st) lo (lo + ok))
  (h:∀ st',SB sk a₀ st'->pendingOf st'=pendingOf st->(∀ k,k < lo->(arrOf st')[k]?=(arrOf st)[k]?)->SOn κ (arrOf st') lo (lo + n)->Q true st'):wpS (model prog w) A E s (binarySort' lo n ok) Q st:=by
 rw [binarySort'_eq];refine wpS_bind (wpS_mono (wpS_forRange (I:=fun k c st'=>c=(none,())/\SB sk a₀ st'/\pendingOf st'=pendingOf st/\(∀ k,k < lo->(arrOf st')[k]?=(arrOf st)[k]?)/\SOn κ (arrOf st') lo (lo + min k n))
  (Q:=fun c st'=>c=(none,())/\SB sk a₀ st'/\pendingOf st'=pendingOf st/\(∀ k,k < lo->(arrOf st')[k]?=(arrOf st)[k]?)/\SOn κ (arrOf st') lo (lo + n)) ?step ?fin ?init) ?post)
 case post =>
  rintro c st' ⟨rfl,hB',hp,hk,hs'⟩;exact wpS_pure (h st' hB' hp hk hs')
 case init =>
  refine ⟨rfl,hB,rfl,fun _ _=>rfl,fun i j h0 hij hj=>?_⟩;by_cases h1:ok=0
  ·have:i=j:=by omega
   subst this;exact kle_refl _
  ·exact hs i j h0 hij (by omega)
 case fin =>
  rintro c st' ⟨hc,hB',hp,hk,hs'⟩;refine ⟨hc,hB',hp,hk,?_⟩;rwa [show min (max (max ok 1) n) n=n by omega] at hs'
 case step =>
  rintro k c st' hak hkn ⟨rfl,hB',hp,hkk,hs'⟩;rw [show min k n=k by omega] at hs';refine wpS_bind (wpS_mono (wpS_forRange (I:=fun x c st''=>st''=st'/\∃ l r,c=(none,l,r)/\l<=r/\r<=k/\r - l<=k - x/\
    (∀ i,i < l->κ.kle (KK κ (arrOf st') (lo + i)) (KK κ (arrOf st') (lo + k)))/\(∀ i,r<=i->i < k->κ.kle (KK κ (arrOf st') (lo + k)) (KK κ (arrOf st') (lo + i))))
   (Q:=fun c st''=>st''=st'/\∃ l r,c=(none,l,r)/\l<=k/\
    (∀ i,i < l->κ.kle (KK κ (arrOf st') (lo + i)) (KK κ (arrOf st') (lo + k)))/\(∀ i,l<=i->i < k->κ.kle (KK κ (arrOf st') (lo + k)) (KK κ (arrOf st') (lo + i)))) ?istep ?ifin ?iinit) ?ipost)
  case iinit=>exact ⟨rfl,0,k,rfl,by omega,by omega,by omega,fun i hi=>by omega,fun i h1 h2=>by omega⟩
  case ifin =>
   rintro c st'' ⟨rfl,l,r,rfl,hlr,hrk,hm,hlo,hhi⟩;have:l=r:=by omega
   subst this;exact ⟨rfl,l,l,rfl,hrk,hlo,hhi⟩
  case istep =>
   rintro x c st'' _ hxk ⟨rfl,l,r,rfl,hlr,hrk,hm,hlo,hhi⟩;dsimp only;by_cases hge:l>=r
   ·rw [if_pos hge];have:l=r:=by omega
    subst this;exact wpS_pure ⟨rfl,l,l,rfl,hrk,hlo,hhi⟩
   ·rw [if_neg hge];refine wpS_bind (J2t C hB' (by omega) (by omega) (fun hl=>?_) fun hl=>?_)
    ·refine wpS_pure ⟨rfl,l,(l + r) / 2,rfl,by omega,by omega,by omega,hlo,fun i h1 h2=>?_⟩;exact kle_trans (kle_of_klt hl) (hs' _ _ (by omega) (by omega) (by omega))
    ·refine wpS_pure ⟨rfl,(l + r) / 2 + 1,r,rfl,by omega,by omega,by omega,fun i h1=>?_,hhi⟩;exact kle_trans (hs' (lo + i) (lo + (l + r) / 2) (by omega) (by omega) (by omega)) hl
  case ipost =>
   rintro c st'' ⟨rfl,l,r,rfl,hlk,hlo,hhi⟩;show wpS _ _ _ _ (do moveDown' (lo + k) (lo + l);pure (ForInStep.yield (none,()))) _ _;rw [moveDown'_eq];have hks:lo + k < (arrOf st'').size:=by rw [hB'.size];omega
   refine wpS_bind (wpS_modify (wpS_pure ⟨rfl,hB'.setArr (bubble_perm _ _ _),hp,fun b hb=>?_,?_⟩))
   ·show (bubble (arrOf st'') (lo + k) (lo + k - (lo + l)))[b]?=_;rw [getElem?_bubble hks _ (by omega),if_neg (by omega),if_neg (by omega)];exact hkk b hb
   rw [show min (k + 1) n=k + 1 by omega];intro i j h0 hij hj;show κ.kle (KK κ (bubble (arrOf st'') (lo + k) (lo + k - (lo + l))) i) (KK κ (bubble (arrOf st'') (lo + k) (lo + k - (lo + l))) j);rw [KK_bubble hks (by omega),KK_bubble hks (by omega),show lo + k - (lo + k - (lo + l))=lo + l by omega];have hlo':∀ i,lo<=i->i < lo + l->κ.kle (KK κ (arrOf st'') i) (KK κ (arrOf st'') (lo + k)):=fun i a b=>by
    have:=hlo (i - lo) (by omega);rwa [show lo + (i - lo)=i by omega] at this
   have hhi':∀ i,lo + l<=i->i < lo + k->κ.kle (KK κ (arrOf st'') (lo + k)) (KK κ (arrOf st'') i):=fun i a b=>by
    have:=hhi (i - lo) (by omega) (by omega);rwa [show lo + (i - lo)=i by omega] at this
   repeat' split
   all_goals first
    | (exfalso;omega)
    | exact kle_refl _
    | exact hlo' _ (by omega) (by omega)
    | exact hhi' _ (by omega) (by omega)
    | exact hs' _ _ (by omega) (by omega) (by omega)
end
end Tm
namespace Tm
open PySem PyProof.Rows
def gallop':Bool->Keyed->Array Keyed->Nat->Nat->Nat->StateT SortSt Sem (Option Nat):=sortPriv% PySem.Builtin.gallop
def mergeLo':Array Keyed->Array Keyed->StateT SortSt Sem (Array Keyed):=sortPriv% PySem.Builtin.mergeLo
def mergeHi':Array Keyed->Array Keyed->StateT SortSt Sem (Array Keyed):=sortPriv% PySem.Builtin.mergeHi
section
variable {prog:Program} {w:World} {A:Around} {E:Value->Shared->Prop} {s:Shared} {a₀:Array Keyed} {κ:KeyKind} {sk:SortKind}
open KeyOrd
def bd (κ:KeyKind) (left:Bool) (key:Keyed) (arr:Array Keyed) (base i:Nat):Bool:=if left=true then κ.blt (KK κ arr (base + i)) (kv κ key) else !κ.blt (kv κ key) (KK κ arr (base + i))
theorem bd_mono {left:Bool} {key:Keyed} {arr:Array Keyed} {base n i j:Nat} (hs:SOn κ arr base (base + n)) (hij:i<=j) (hj:j < n) (h:bd κ left key arr base j=true):bd κ left key arr base i=true:=by
 have l:=hs (base + i) (base + j) (by omega) (by omega) (by omega);unfold bd at h ⊢
 cases left with
 | true =>
  simp only [if_true] at h ⊢;exact klt_of_kle_of_klt l h
 | false =>
  simp only [Bool.false_eq_true,if_false,Bool.not_eq_true'] at h ⊢;exact kle_trans l h
theorem J16 {st:SortSt} {left:Bool} {key:Keyed} {arr:Array Keyed} {base i:Nat} {Q:Option Bool->SortSt->Prop} (C:Cmp prog w A s κ sk a₀) (hB:SB sk a₀ st) (hk:key∈a₀.toList) (hm:∀ (i:Nat) (x:Keyed),arr[i]?=some x->x∈a₀.toList) (hi:base + i < arr.size)
  (h1:bd κ left key arr base i=true->Q (some true) st) (h2:bd κ left key arr base i=false->Q (some false) st) :
  wpS (model prog w) A E s (elem' arr (base + i) >>= fun y=>if left=true then lt' y key else (lt' key y >>= fun r=>pure (Option.map (fun x=>!x) r))) Q st:=by
 have ex:arr[base + i]?=some arr[base + i]:=getElem?_pos arr _ hi;rw [elem'_eq,ex];refine wpS_bind (wpS_pure ?_);have hx:=hm _ _ ex;unfold bd at h1 h2;rw [KK_at ex] at h1 h2
 cases left with
 | true =>
  simp only [if_true] at h1 h2 ⊢;refine wp_lt C hB hx hk ?_
  cases c:κ.blt (kv κ arr[base + i]) (kv κ key) with
  | true=>exact h1 c
  | false=>exact h2 c
 | false =>
  simp only [Bool.false_eq_true,if_false] at h1 h2 ⊢;refine wpS_bind (wp_lt C hB hk hx (wpS_pure ?_))
  cases c:κ.blt (kv κ key) (kv κ arr[base + i]) with
  | true=>exact h2 (by rw [c];rfl)
  | false=>exact h1 (by rw [c];rfl)
theorem Jx {st:SortSt} {left:Bool} {key:Keyed} {arr:Array Keyed} {base n hint:Nat} {Q:Option Nat->SortSt->Prop} (C:Cmp prog w A s κ sk a₀) (hB:SB sk a₀ st) (hk:key∈a₀.toList) (hz:base + n<=arr.size) (hm:∀ (i:Nat) (x:Keyed),arr[i]?=some x->x∈a₀.toList)
  (hs:SOn κ arr base (base + n)) (hh:hint < n) (h:∀ k,k<=n->(∀ i,i < k->bd κ left key arr base i=true)->(∀ i,k<=i->i < n->bd κ left key arr base i=false)->Q (some k) st) :
  wpS (model prog w) A E s (gallop' left key arr base n hint) Q st:=by
 have up:∀ {j},j < n->bd κ left key arr base j=true->∀ i,i < j + 1->bd κ left key arr base i=true:=fun hj e i hi=>bd_mono hs (by omega) hj e;have dn:∀ {j},bd κ left key arr base j=false->∀ i,j<=i->i < n->bd κ left key arr base i=false:=fun e i h1 h2=>by
  cases c:bd κ left key arr base i with
  | false=>rfl
  | true=>rw [bd_mono hs h1 h2 c] at e;cases e
 have fin:∀ (lo hi:Nat) (f:Nat->Option (Option Nat) × Nat × Nat->StateT SortSt Sem (ForInStep (Option (Option Nat) × Nat × Nat))) (g:Option (Option Nat) × Nat × Nat->StateT SortSt Sem (Option Nat)),lo<=hi->hi<=n->(∀ i,i < lo->bd κ left key arr base i=true)->(∀ i,hi<=i->i < n->bd κ left key arr base i=false)->
   (∀ x lo hi (Q':ForInStep (Option (Option Nat) × Nat × Nat)->SortSt->Prop),lo<=hi->hi<=n->(lo=hi->Q' (.done (none,lo,hi)) st)->(lo < hi->∀ m,m=lo + (hi - lo) / 2->(bd κ left key arr base m=true->Q' (.yield (none,m + 1,hi)) st)/\(bd κ left key arr base m=false->Q' (.yield (none,lo,m)) st))->wpS (model prog w) A E s (f x (none,lo,hi)) Q' st)->
   (∀ lo hi,g (none,lo,hi)=pure (some hi))->wpS (model prog w) A E s (forIn [:n] (none,lo,hi) f >>= g) Q st:=by
  intro lo hi f g l1 l2 l3 l4 hf hg;refine wpS_bind (wpS_mono (wpS_forRange (I:=fun x c st'=>st'=st/\∃ lo hi,c=(none,lo,hi)/\lo<=hi/\hi<=n/\hi - lo<=n - x/\(∀ i,i < lo->bd κ left key arr base i=true)/\(∀ i,hi<=i->i < n->bd κ left key arr base i=false))
   (Q:=fun c st'=>st'=st/\∃ hi,c=(none,hi,hi)/\hi<=n/\(∀ i,i < hi->bd κ left key arr base i=true)/\(∀ i,hi<=i->i < n->bd κ left key arr base i=false)) ?step ?fin ⟨rfl,lo,hi,rfl,l1,l2,by omega,l3,l4⟩) ?post)
  case fin =>
   rintro c st' ⟨rfl,lo,hi,rfl,a1,a2,a3,a4,a5⟩;have:lo=hi:=by omega
   subst this;exact ⟨rfl,lo,rfl,a2,a4,a5⟩
  case post =>
   rintro c st' ⟨rfl,hi,rfl,a2,a4,a5⟩;rw [hg];exact wpS_pure (h hi a2 a4 a5)
  case step =>
   rintro x c st' _ hx ⟨rfl,lo,hi,rfl,a1,a2,a3,a4,a5⟩;refine hf x lo hi _ a1 a2 (fun e=>?_) fun l m em=>⟨fun b=>?_,fun b=>?_⟩
   ·subst e;exact ⟨rfl,lo,rfl,a2,a4,a5⟩
   ·exact ⟨rfl,m + 1,hi,rfl,by omega,a2,by omega,up (by omega) b,a5⟩
   ·exact ⟨rfl,lo,m,rfl,by omega,by omega,by omega,a4,dn b⟩
 refine wpS_bind (J16 C hB hk hm (by omega) (fun b=>?_) fun b=>?_)
 ·dsimp only;rw [if_pos rfl];refine wpS_bind (wpS_mono (wpS_forRange (I:=fun x c st'=>st'=st/\∃ la ofs,c=(none,la,ofs)/\la < ofs/\x + 1<=ofs/\hint + la < n/\bd κ left key arr base (hint + la)=true)
   (Q:=fun c st'=>st'=st/\∃ la ofs,c=(none,la,ofs)/\la < ofs/\hint + la < n/\bd κ left key arr base (hint + la)=true/\(n - hint<=ofs\/bd κ left key arr base (hint + ofs)=false)) ?s1 ?f1 ⟨rfl,0,1,rfl,by omega,by omega,by omega,b⟩) ?p1)
  case f1 =>
   rintro c st' ⟨rfl,la,ofs,rfl,a1,a2,a3,a4⟩;exact ⟨rfl,la,ofs,rfl,a1,a3,a4,.inl (by omega)⟩
  case p1 =>
   rintro c st' ⟨rfl,la,ofs,rfl,a1,a3,a4,a5⟩;dsimp only;refine fin _ _ _ _ ?_ ?_ (up a3 a4) ?_ ?_ (fun _ _=>rfl)
   ·omega
   ·omega
   ·intro i i1 i2;rcases a5 with a5 | a5
    ·omega
    ·by_cases c:n - hint<=ofs
     ·omega
     ·exact dn a5 i (by omega) i2
   ·intro x lo hi Q' l1 l2 k1 k2;dsimp only;by_cases c:lo>=hi
    ·rw [if_pos c];exact wpS_pure (k1 (by omega))
    ·rw [if_neg c];obtain ⟨k3,k4⟩:=k2 (by omega) _ rfl;exact wpS_bind (J16 C hB hk hm (by omega) (fun b=>wpS_pure (k3 b)) fun b=>wpS_pure (k4 b))
  case s1 =>
   rintro x c st' _ hx ⟨rfl,la,ofs,rfl,a1,a2,a3,a4⟩;dsimp only;by_cases c:ofs>=n - hint
   ·rw [if_pos c];exact wpS_pure ⟨rfl,la,ofs,rfl,a1,a3,a4,.inl c⟩
   ·rw [if_neg c];exact wpS_bind (J16 C hB hk hm (by omega) (fun b=>wpS_pure ⟨rfl,ofs,_,rfl,by omega,by omega,by omega,b⟩) fun b=>wpS_pure ⟨rfl,la,ofs,rfl,a1,a3,a4,.inr b⟩)
 ·dsimp only;rw [if_neg Bool.false_ne_true];refine wpS_bind (wpS_mono (wpS_forRange (I:=fun x c st'=>st'=st/\∃ la ofs,c=(none,la,ofs)/\la < ofs/\x + 1<=ofs/\la<=hint/\bd κ left key arr base (hint - la)=false)
   (Q:=fun c st'=>st'=st/\∃ la ofs,c=(none,la,ofs)/\la < ofs/\la<=hint/\bd κ left key arr base (hint - la)=false/\(hint + 1<=ofs\/bd κ left key arr base (hint - ofs)=true)) ?s2 ?f2 ⟨rfl,0,1,rfl,by omega,by omega,by omega,b⟩) ?p2)
  case f2 =>
   rintro c st' ⟨rfl,la,ofs,rfl,a1,a2,a3,a4⟩;exact ⟨rfl,la,ofs,rfl,a1,a3,a4,.inl (by omega)⟩
  case p2 =>
   rintro c st' ⟨rfl,la,ofs,rfl,a1,a3,a4,a5⟩;dsimp only;refine fin _ _ _ _ ?_ ?_ ?_ (dn a4) ?_ (fun _ _=>rfl)
   ·omega
   ·omega
   ·intro i i1;rcases a5 with a5 | a5
    ·omega
    ·by_cases c:hint + 1<=ofs
     ·omega
     ·exact up (j:=hint - ofs) (by omega) a5 i (by omega)
   ·intro x lo hi Q' l1 l2 k1 k2;dsimp only;by_cases c:lo>=hi
    ·rw [if_pos c];exact wpS_pure (k1 (by omega))
    ·rw [if_neg c];obtain ⟨k3,k4⟩:=k2 (by omega) _ rfl;exact wpS_bind (J16 C hB hk hm (by omega) (fun b=>wpS_pure (k3 b)) fun b=>wpS_pure (k4 b))
  case s2 =>
   rintro x c st' _ hx ⟨rfl,la,ofs,rfl,a1,a2,a3,a4⟩;dsimp only;by_cases c:ofs>=hint + 1
   ·rw [if_pos c];exact wpS_pure ⟨rfl,la,ofs,rfl,a1,a3,a4,.inl c⟩
   ·rw [if_neg c];exact wpS_bind (J16 C hB hk hm (by omega) (fun b=>wpS_pure ⟨rfl,la,ofs,rfl,a1,a3,a4,.inr b⟩) fun b=>wpS_pure ⟨rfl,ofs,_,rfl,by omega,by omega,by omega,b⟩)
end
end Tm
namespace Tm
open PySem PyProof.Rows
section
variable {prog:Program} {w:World} {A:Around} {E:Value->Shared->Prop} {s:Shared} {a₀:Array Keyed} {κ:KeyKind} {sk:SortKind}
open KeyOrd
abbrev le (κ:KeyKind) (x y:Keyed):Prop:=κ.kle (kv κ x) (kv κ y)
abbrev SL (κ:KeyKind) (l:List Keyed):Prop:=l.Pairwise (le κ)
theorem SL.on {a:Array Keyed} (h:SL κ a.toList):SOn κ a 0 (0 + a.size):=fun i j _ hij hj=>by
 have hj:j < a.size:=by omega
 have hi:i < a.size:=by omega
 rw [KK_at (getElem?_pos a i hi),KK_at (getElem?_pos a j hj)];by_cases e:i=j
 ·subst e;exact kle_refl _
 ·have:=List.pairwise_iff_getElem.mp h i j (by simpa using hi) (by simpa using hj) (by omega);simpa using this
theorem SL.le_drop {l:List Keyed} (h:SL κ l) {i:Nat} {x y:Keyed} (hx:l[i]?=some x) (hy:y∈l.drop i):le κ x y:=by
 have hi:=(List.getElem?_eq_some_iff.mp hx).1;have e:l.drop i=x :: l.drop (i + 1):=by
  rw [drop_eq_getElem_cons hi,(List.getElem?_eq_some_iff.mp hx).2]
 rw [e] at hy;have h2:(l.drop i).Pairwise (le κ):=h.sublist (List.drop_sublist _ _);rw [e] at h2;rcases mem_cons.mp hy with rfl | q
 ·exact kle_refl _
 ·exact (List.pairwise_cons.mp h2).1 y q
structure MI (κ:KeyKind) (a b:List Keyed) (out:List Keyed) (ia ib:Nat):Prop where
 pm:out.Perm (a.take ia ++ b.take ib)
 so:SL κ out
 la:∀ x∈out,∀ y∈a.drop ia,le κ x y
 lb:∀ x∈out,∀ y∈b.drop ib,le κ x y
theorem J1b {l:List Keyed} {i:Nat} {x:Keyed} (hx:l[i]?=some x):l.take (i + 1)=l.take i ++ [x]:=by rw [take_succ,hx];rfl
theorem drop_sub {l:List Keyed} {i j:Nat} (h:i<=j) {y:Keyed} (hy:y∈l.drop j):y∈l.drop i:=by
 have:l.drop j=(l.drop i).drop (j - i):=by rw [List.drop_drop];congr 1;omega
 rw [this] at hy;exact List.mem_of_mem_drop hy
theorem MI.swap {a b out:List Keyed} {ia ib:Nat} (h:MI κ a b out ia ib):MI κ b a out ib ia:=⟨h.pm.trans perm_append_comm,h.so,h.lb,h.la⟩
theorem MI.pushB {a b out:List Keyed} {ia ib:Nat} {x:Keyed} (h:MI κ a b out ia ib) (hb:SL κ b) (hx:b[ib]?=some x) (hl:∀ y∈a.drop ia,le κ x y):MI κ a b (out ++ [x]) ia (ib + 1):=by
 have hxm:x∈b.drop ib:=by
  have hi:=(List.getElem?_eq_some_iff.mp hx).1;rw [drop_eq_getElem_cons hi,(List.getElem?_eq_some_iff.mp hx).2];exact mem_cons_self ..
 refine ⟨?_,?_,fun z hz y hy=>?_,fun z hz y hy=>?_⟩
 ·rw [J1b hx,<- List.append_assoc];exact h.pm.append_right _
 ·refine pairwise_append.mpr ⟨h.so,by simp,fun z hz y hy=>?_⟩;rw [mem_singleton.mp hy];exact h.lb z hz x hxm
 ·rcases mem_append.mp hz with q | q
  ·exact h.la z q y hy
  ·rw [mem_singleton.mp q];exact hl y hy
 ·have hy':=drop_sub (Nat.le_succ ib) hy;rcases mem_append.mp hz with q | q
  ·exact h.lb z q y hy'
  ·rw [mem_singleton.mp q];exact hb.le_drop hx hy'
theorem MI.pushA {a b out:List Keyed} {ia ib:Nat} {x:Keyed} (h:MI κ a b out ia ib) (ha:SL κ a) (hx:a[ia]?=some x) (hl:∀ y∈b.drop ib,le κ x y):MI κ a b (out ++ [x]) (ia + 1) ib:=(h.swap.pushB ha hx hl).swap
theorem ext_one {a:Array Keyed} {i k:Nat} (h:i + k < a.size):(a.extract i (i + (k + 1))).toList=(a.extract i (i + k)).toList ++ [a[i + k]]:=by
 rw [toList_extract,toList_extract,extract_eq_take_drop,extract_eq_take_drop,show i + (k + 1) - i=k + 1 by omega,show i + k - i=k by omega];rw [take_succ,List.getElem?_drop,List.getElem?_eq_getElem (by simpa using h)];simp
theorem MI.pushAs {a b:Array Keyed} {out:Array Keyed} {ia ib:Nat} (h:MI κ a.toList b.toList out.toList ia ib) (ha:SL κ a.toList):∀ k,ia + k<=a.size->(∀ i,i < k->∀ x,a[ia + i]?=some x->∀ y∈b.toList.drop ib,le κ x y)->MI κ a.toList b.toList (out ++ a.extract ia (ia + k)).toList (ia + k) ib
 | 0,_,_=>by
  have e:(out ++ a.extract ia (ia + 0)).toList=out.toList:=by simp
  rw [e];exact h
 | k + 1,hk,hl=>by
  have ih:=MI.pushAs h ha k (by omega) fun i hi=>hl i (by omega);have hx:a.toList[ia + k]?=some a[ia + k]:=by rw [getElem?_toList];exact getElem?_pos a _ (by omega)
  have:=ih.pushA ha hx (hl k (by omega) _ (getElem?_pos a _ (by omega)));have e:(out ++ a.extract ia (ia + (k + 1))).toList=(out ++ a.extract ia (ia + k)).toList ++ [a[ia + k]]:=by
   rw [toList_append,ext_one (by omega),<- List.append_assoc];congr 1;rw [toList_append]
  rw [e];exact this
theorem MI.pushBs {a b:Array Keyed} {out:Array Keyed} {ia ib:Nat} (h:MI κ a.toList b.toList out.toList ia ib) (hb:SL κ b.toList) (k:Nat) (hk:ib + k<=b.size) (hl:∀ i,i < k->∀ x,b[ib + i]?=some x->∀ y∈a.toList.drop ia,le κ x y):MI κ a.toList b.toList (out ++ b.extract ib (ib + k)).toList ia (ib + k) :=
 (MI.pushAs (a:=b) (b:=a) h.swap hb k hk hl).swap
def Mg (κ:KeyKind) (a b out:Array Keyed):Prop:=out.toList.Perm (a.toList ++ b.toList)/\SL κ out.toList
theorem J2g (a:Array Keyed) (i:Nat):(a.extract i).toList=a.toList.drop i:=by
 rw [toList_extract,extract_eq_take_drop,List.take_of_length_le (by rw [length_drop,length_toList];exact Nat.le_refl _)]
theorem SL.drop {l:List Keyed} (h:SL κ l) (i:Nat):SL κ (l.drop i):=h.sublist (List.drop_sublist _ _)
theorem MI.doneB {a b out:Array Keyed} {ia ib:Nat} (h:MI κ a.toList b.toList out.toList ia ib) (ha:SL κ a.toList) (hb:ib=b.size):Mg κ a b (out ++ a.extract ia ++ b.extract ib):=by
 have e:(out ++ a.extract ia ++ b.extract ib).toList=out.toList ++ a.toList.drop ia:=by
  rw [toList_append,toList_append,J2g,J2g,hb,<- length_toList,List.drop_length,append_nil]
 unfold Mg;rw [e];refine ⟨?_,pairwise_append.mpr ⟨h.so,ha.drop ia,h.la⟩⟩;have p:=h.pm.append_right (a.toList.drop ia);rw [hb,<- length_toList,List.take_length] at p;refine p.trans ?_;rw [List.append_assoc];refine (perm_append_comm.append_left _).trans ?_;rw [<- List.append_assoc,take_append_drop]
theorem MI.doneA {a b out:Array Keyed} {ia ib:Nat} (h:MI κ a.toList b.toList out.toList ia ib) (hb:SL κ b.toList) (ha:ia=a.size):Mg κ a b (out ++ a.extract ia ++ b.extract ib):=by
 have e:(out ++ a.extract ia ++ b.extract ib).toList=out.toList ++ b.toList.drop ib:=by
  rw [toList_append,toList_append,J2g,J2g,ha,<- length_toList,List.drop_length,append_nil]
 unfold Mg;rw [e];refine ⟨?_,pairwise_append.mpr ⟨h.so,hb.drop ib,h.lb⟩⟩;have p:=h.pm.append_right (b.toList.drop ib);rw [ha,<- length_toList,List.take_length,List.append_assoc,take_append_drop] at p;exact p
theorem MI.lastA {a b out:Array Keyed} {ia ib:Nat} (h:MI κ a.toList b.toList out.toList ia ib) (hb:SL κ b.toList) (ha:ia + 1=a.size) (hl:∀ x∈b.toList,∀ y,a[a.size - 1]?=some y->le κ x y):Mg κ a b (out ++ b.extract ib ++ a.extract ia):=by
 have hx:a[ia]?=some a[ia]:=getElem?_pos a _ (by omega);have ed:a.toList.drop ia=[a[ia]]:=by
  rw [drop_eq_getElem_cons (by simpa using (show ia < a.size by omega)),List.drop_of_length_le (by rw [length_toList];omega)];simp
 have e:(out ++ b.extract ib ++ a.extract ia).toList=out.toList ++ b.toList.drop ib ++ [a[ia]]:=by
  rw [toList_append,toList_append,J2g,J2g,ed]
 unfold Mg;rw [e];have lst:∀ x∈b.toList,le κ x a[ia]:=fun x hxb=>hl x hxb _ (by rw [show a.size - 1=ia by omega];exact hx);refine ⟨?_,pairwise_append.mpr ⟨pairwise_append.mpr ⟨h.so,hb.drop ib,h.lb⟩,by simp,fun z hz y hy=>?_⟩⟩
 ·have p:=(h.pm.append_right (b.toList.drop ib)).append_right [a[ia]];refine p.trans ?_;rw [List.append_assoc (a.toList.take ia),take_append_drop];have t:a.toList=a.toList.take ia ++ [a[ia]]:=by
   conv=>lhs;rw [<- take_append_drop ia a.toList,ed]
  conv=>rhs;rw [t]
  rw [List.append_assoc,List.append_assoc];exact perm_append_comm.append_left _
 ·rw [mem_singleton.mp hy];rcases mem_append.mp hz with q | q
  ·exact h.la z q _ (by rw [ed];exact mem_singleton_self _)
  ·exact lst z (List.mem_of_mem_drop q)
end
end Tm
namespace Tm
open PySem PyProof.Rows
section
variable {prog:Program} {w:World} {A:Around} {E:Value->Shared->Prop} {s:Shared} {a₀:Array Keyed} {κ:KeyKind} {sk:SortKind}
open KeyOrd
theorem Jg {st:SortSt} {arr:Array Keyed} {i:Nat} {Q:Keyed->SortSt->Prop} (hi:i < arr.size) (h:Q arr[i] st):wpS (model prog w) A E s (elem' arr i) Q st:=by
 rw [elem'_eq,getElem?_pos arr i hi];exact wpS_pure h
theorem Jc {σ α:Type} {c:Prop} [Decidable c] {m n:StateT σ Sem α} {Q:α->σ->Prop} {st:σ} (h1:c->wpS (model prog w) A E s m Q st) (h2:¬ c->wpS (model prog w) A E s n Q st):wpS (model prog w) A E s (if c then m else n) Q st:=by
 by_cases h:c
 ·rw [if_pos h];exact h1 h
 ·rw [if_neg h];exact h2 h
structure Sim (st st':SortSt):Prop where
 kind:kindOf st'=kindOf st
 arr:arrOf st'=arrOf st
 pend:pendingOf st'=pendingOf st
 failed:failedOf st'=failedOf st
theorem Sim.refl (st:SortSt):Sim st st:=⟨rfl,rfl,rfl,rfl⟩
theorem Sim.trans {a b c:SortSt} (h:Sim a b) (g:Sim b c):Sim a c:=⟨g.kind.trans h.kind,g.arr.trans h.arr,g.pend.trans h.pend,g.failed.trans h.failed⟩
theorem Sim.sb {st st':SortSt} (h:Sim st st') (b:SB sk a₀ st):SB sk a₀ st':=⟨by rw [h.arr];exact b.perm,h.kind.trans b.kind,h.failed.trans b.failed⟩
theorem Sim.gallop (st:SortSt) (g:Nat):Sim st (SortSt.mk' (kindOf st) (arrOf st) (pendingOf st) g (failedOf st)):=⟨rfl,rfl,rfl,rfl⟩
theorem gt_of {a:Array Keyed} {i:Nat} {y:Keyed} (ha:SL κ a.toList) {v:κ.α} (h:∀ j,i<=j->∀ (hj:j < a.size),κ.klt v (kv κ a[j])) (hy:y∈a.toList.drop i):κ.kle v (kv κ y):=by
 obtain ⟨n,hn,e⟩:=getElem_of_mem hy;rw [length_drop,length_toList] at hn;rw [getElem_drop] at e;have:=h (i + n) (by omega) (by omega);rw [<- e];exact kle_of_klt (by simpa using this)
theorem wp_mergeLo {st:SortSt} {a b:Array Keyed} {Q:Array Keyed->SortSt->Prop} (C:Cmp prog w A s κ sk a₀) (hB:SB sk a₀ st) (ma:∀ x∈a.toList,x∈a₀.toList) (mb:∀ x∈b.toList,x∈a₀.toList) (ha:SL κ a.toList) (hb:SL κ b.toList) (a1:0 < a.size) (b1:0 < b.size)
  (h0:∀ y∈a.toList,le κ b[0] y) (hl:∀ x∈b.toList,∀ y,a[a.size - 1]?=some y->le κ x y) (h:∀ out st',Sim st st'->Mg κ a b out->Q out st'):wpS (model prog w) A E s (mergeLo' a b) Q st:=by
 have ga:∀ i (hi:i < a.size),a.toList[i]?=some a[i]:=fun i hi=>by rw [getElem?_toList];exact getElem?_pos a _ hi
 have gb:∀ i (hi:i < b.size),b.toList[i]?=some b[i]:=fun i hi=>by rw [getElem?_toList];exact getElem?_pos b _ hi
 have mA:∀ i (hi:i < a.size),a[i]∈a₀.toList:=fun i hi=>ma _ (List.mem_of_getElem? (ga i hi));have mB:∀ i (hi:i < b.size),b[i]∈a₀.toList:=fun i hi=>mb _ (List.mem_of_getElem? (gb i hi));have mA':∀ (i:Nat) (x:Keyed),a[i]?=some x->x∈a₀.toList:=fun i x hx=>ma _ (mem_toList_iff.mpr (Array.mem_of_getElem? hx));have mB':∀ (i:Nat) (x:Keyed),b[i]?=some x->x∈a₀.toList:=fun i x hx=>mb _ (mem_toList_iff.mpr (Array.mem_of_getElem? hx));have sA:∀ i,i<=a.size->SOn κ a i (i + (a.size - i)):=fun i hi x y h1 h2 h3=>ha.on x y (by omega) h2 (by omega);have sB:∀ i,i<=b.size->SOn κ b i (i + (b.size - i)):=fun i hi x y h1 h2 h3=>hb.on x y (by omega) h2 (by omega);refine wpS_bind (wpS_lift (wpAny_rule ⟨rfl,?_⟩));refine wpS_bind (Jg b1 ?_);dsimp only;have M0:MI κ a.toList b.toList (#[b[0]]:Array Keyed).toList 0 1:=by
  have z:MI κ a.toList b.toList [] 0 0:=⟨by simp,.nil,fun x hx=>(by cases hx),fun x hx=>(by cases hx)⟩;exact z.pushB hb (gb 0 b1) fun y hy=>h0 y (List.mem_of_mem_drop hy)
 by_cases c1:1=b.size
 ·rw [if_pos (by simpa using c1)];exact wpS_pure (h _ st (Sim.refl _) (M0.doneB ha c1))
 rw [if_neg (by simpa using c1)];by_cases c2:0 + 1=a.size
 ·rw [if_pos (by simpa using c2)];exact wpS_pure (h _ st (Sim.refl _) (M0.lastA hb c2 hl))
 rw [if_neg (by simpa using c2)];refine wpS_bind (wpS_get ?_);refine wpS_bind (wpS_mono (wpS_forRange (I:=fun x c st'=>Sim st st'/\∃ out ia ib mg,c=(none,out,ia,ib,mg)/\MI κ a.toList b.toList out.toList ia ib/\ib < b.size/\ia + 1 < a.size/\x + 1<=ia + ib)
  (Q:=fun c st'=>Sim st st'/\∃ r z,c=(some r,z)/\Mg κ a b r) ?step ?fin ⟨Sim.refl _,_,0,1,_,rfl,M0,by omega,by omega,by omega⟩) ?post)
 case post =>
  rintro c st' ⟨S,r,z,rfl,g⟩;exact wpS_pure (h r st' S g)
 case fin =>
  rintro c st' ⟨S,out,ia,ib,mg,rfl,M,l1,l2,l3⟩;omega
 case step =>
  rintro x c st' _ hx ⟨S,out,ia,ib,mg,rfl,M,l1,l2,l3⟩;refine wpS_bind (wpS_mono (wpS_forRange (I:=fun y c st'=>Sim st st'/\∃ out ia ib ac bc,c=(none,out,ia,ib,ac,bc)/\MI κ a.toList b.toList out.toList ia ib/\ib < b.size/\ia + 1 < a.size/\x + 1 + y<=ia + ib)
   (Q:=fun c st'=>Sim st st'/\((∃ r z,c=(some r,z)/\Mg κ a b r)\/(∃ out ia ib ac bc,c=(none,out,ia,ib,ac,bc)/\MI κ a.toList b.toList out.toList ia ib/\ib < b.size/\ia + 1 < a.size/\x + 2<=ia + ib))) ?s1 ?f1 ⟨S,out,ia,ib,_,_,rfl,M,l1,l2,by omega⟩) ?p1)
  case f1 =>
   rintro c st' ⟨S,out,ia,ib,ac,bc,rfl,M,l1,l2,l3⟩;exact ⟨S,.inr ⟨out,ia,ib,ac,bc,rfl,M,l1,l2,by omega⟩⟩
  case s1 =>
   rintro y c st' _ hy ⟨S,out,ia,ib,ac,bc,rfl,M,l1,l2,l3⟩;dsimp only;refine wpS_bind (Jg l1 (wpS_bind (Jg (show ia < a.size by omega) (wpS_bind (wp_lt C (S.sb hB) (mB ib l1) (mA ia (by omega)) ?_)))))
   cases cc:κ.blt (kv κ b[ib]) (kv κ a[ia]) with
   | true =>
    dsimp only;rw [if_pos rfl];refine wpS_bind (Jg l1 ?_);have M':MI κ a.toList b.toList (out.push b[ib]).toList ia (ib + 1):=by
     rw [toList_push];exact M.pushB hb (gb ib l1) fun z hz=>kle_trans (kle_of_klt cc) (ha.le_drop (ga ia (by omega)) hz)
    by_cases d1:ib + 1=b.size
    ·rw [if_pos (by simpa using d1)];exact wpS_pure ⟨S,.inl ⟨_,_,rfl,M'.doneB ha d1⟩⟩
    rw [if_neg (by simpa using d1)];by_cases d2:bc + 1>=mg
    ·rw [if_pos d2];exact wpS_pure ⟨S,.inr ⟨_,_,_,_,_,rfl,M',by omega,by omega,by omega⟩⟩
    ·rw [if_neg d2];exact wpS_pure ⟨S,_,_,_,_,_,rfl,M',by omega,by omega,by omega⟩
   | false =>
    dsimp only;rw [if_neg Bool.false_ne_true];refine wpS_bind (Jg (show ia < a.size by omega) ?_);have M':MI κ a.toList b.toList (out.push a[ia]).toList (ia + 1) ib:=by
     rw [toList_push];exact M.pushA ha (ga ia (by omega)) fun z hz=>kle_trans cc (hb.le_drop (gb ib l1) hz)
    by_cases d1:ia + 1 + 1=a.size
    ·rw [if_pos (by simpa using d1)];exact wpS_pure ⟨S,.inl ⟨_,_,rfl,M'.lastA hb d1 hl⟩⟩
    rw [if_neg (by simpa using d1)];by_cases d2:ac + 1>=mg
    ·rw [if_pos d2];exact wpS_pure ⟨S,.inr ⟨_,_,_,_,_,rfl,M',by omega,by omega,by omega⟩⟩
    ·rw [if_neg d2];exact wpS_pure ⟨S,_,_,_,_,_,rfl,M',by omega,by omega,by omega⟩
  case p1 =>
   rintro c st1 ⟨S1,⟨r,z,rfl,g⟩ | ⟨out,ia,ib,ac,bc,rfl,M,l1,l2,l3⟩⟩
   ·exact wpS_pure ⟨S1,r,_,rfl,g⟩
   dsimp only;refine wpS_bind (wpS_lift (wpAny_rule ⟨rfl,?_⟩));refine wpS_bind (wpS_mono (wpS_forRange (I:=fun y c st'=>Sim st st'/\∃ out ia ib mg ac bc,c=(none,out,ia,ib,mg,ac,bc)/\MI κ a.toList b.toList out.toList ia ib/\ib < b.size/\ia + 1 < a.size/\x + 2<=ia + ib)
    (Q:=fun c st'=>Sim st st'/\((∃ r z,c=(some r,z)/\Mg κ a b r)\/(∃ out ia ib mg ac bc,c=(none,out,ia,ib,mg,ac,bc)/\MI κ a.toList b.toList out.toList ia ib/\ib < b.size/\ia + 1 < a.size/\x + 2<=ia + ib))) ?s2 ?f2 ⟨S1,out,ia,ib,_,_,_,rfl,M,l1,l2,l3⟩) ?p2)
   case f2=>exact fun c st' h9=>by obtain ⟨S,q⟩:=h9;exact ⟨S,.inr q⟩
   case p2 =>
    rintro c st2 ⟨S2,⟨r,z,rfl,g⟩ | ⟨out,ia,ib,mg,ac,bc,rfl,M,l1,l2,l3⟩⟩
    ·exact wpS_pure ⟨S2,r,_,rfl,g⟩
    dsimp only;exact wpS_bind (wpS_modify (wpS_pure ⟨S2.trans (Sim.gallop _ _),out,ia,ib,_,rfl,M,l1,l2,by omega⟩))
   case s2 =>
    rintro y c st2 _ hy ⟨S2,out,ia,ib,mg,ac,bc,rfl,M,l1,l2,l3⟩;dsimp only;refine Jc (fun _=>?_) fun _=>?_
    all_goals
     refine wpS_bind (wpS_modify ?_);refine wpS_bind (Jg l1 (wpS_bind (Jx C ((S2.trans (Sim.gallop st2 _)).sb hB) (mB ib l1) (by omega) mA' (sA ia (by omega)) (by omega) fun k k1 k2 k3=>?_)));have S3:∀ g,Sim st (SortSt.mk' (kindOf st2) (arrOf st2) (pendingOf st2) g (failedOf st2)):=fun g=>S2.trans (Sim.gallop st2 g);have kl:∀ i,i < k->∀ z,a[ia + i]?=some z->∀ y∈b.toList.drop ib,le κ z y:=fun i hi z hz y hy=>by
      have:=k2 i hi;unfold bd at this;rw [KK_at hz] at this;simp only [Bool.false_eq_true,if_false,Bool.not_eq_true'] at this;exact kle_trans this (hb.le_drop (gb ib l1) hy)
     have kg:∀ j,ia + k<=j->∀ (hj:j < a.size),κ.klt (kv κ b[ib]) (kv κ a[j]):=fun j h1 hj=>by
      have:=k3 (j - ia) (by omega) (by omega);unfold bd at this;rw [show ia + (j - ia)=j by omega,KK_at (getElem?_pos a j hj)] at this;simp only [Bool.false_eq_true,if_false,Bool.not_eq_false'] at this;exact this
     have Mk:=M.pushAs ha k (by omega) kl;dsimp only;refine Jc (fun kp=>Jc (fun d=>wpS_pure ⟨S3 _,.inl ⟨_,_,rfl,Mk.lastA hb (by simpa using d) hl⟩⟩) fun d=>Jc (fun d2=>wpS_pure ⟨S3 _,.inl ⟨_,_,rfl,Mk.doneA hb (by simpa using d2)⟩⟩) fun d2=>?_) fun kp=>?_;have d':ia + k + 1≠a.size:=by simpa using d
     have d2':ia + k≠a.size:=by simpa using d2
     have l4:ia + k + 1 < a.size:=by omega
     have l5:x + 2<=ia + k + ib:=by omega
     generalize out ++ a.extract ia (ia + k)=out1 at Mk ⊢;generalize ia + k=ia1 at Mk l4 l5 kg ⊢
     rotate_left
     have e0:k=0:=by omega
     subst e0;have l4:ia + 1 < a.size:=l2;have l5:x + 2<=ia + ib:=l3;have eo:out ++ a.extract ia (ia + 0)=out:=by
      apply toList_inj.mp;simp
     rw [eo] at Mk;have Mk:MI κ a.toList b.toList out.toList ia ib:=Mk;have kg:∀ j,ia<=j->∀ (hj:j < a.size),κ.klt (kv κ b[ib]) (kv κ a[j]):=kg;generalize out=out1 at Mk ⊢;generalize ia=ia1 at Mk l4 l5 kg ⊢
     all_goals
      refine wpS_bind (Jg l1 ?_);have M2:MI κ a.toList b.toList (out1.push b[ib]).toList ia1 (ib + 1):=by
       rw [toList_push];exact Mk.pushB hb (gb ib l1) fun z hz=>gt_of ha kg hz
      refine Jc (fun d=>wpS_pure ⟨S3 _,.inl ⟨_,_,rfl,M2.doneB ha (by simpa using d)⟩⟩) fun d=>?_;have d':ib + 1≠b.size:=by simpa using d
      refine wpS_bind (Jg (show ia1 < a.size by omega) (wpS_bind (Jx C ((S3 _).sb hB) (mA ia1 (by omega)) (by omega) mB' (sB (ib + 1) (by omega)) (by omega) fun q q1 q2 q3=>?_)));have ql:∀ i,i < q->∀ z,b[ib + 1 + i]?=some z->∀ y∈a.toList.drop ia1,le κ z y:=fun i hi z hz y hy=>by
       have:=q2 i hi;unfold bd at this;rw [KK_at hz] at this;simp only [if_true] at this;exact kle_trans (kle_of_klt this) (ha.le_drop (ga ia1 (by omega)) hy)
      have qg:∀ y∈b.toList.drop (ib + 1 + q),le κ a[ia1] y:=fun y hy=>by
       obtain ⟨n,hn,e⟩:=getElem_of_mem hy;rw [length_drop,length_toList] at hn;rw [getElem_drop] at e;have:=q3 (q + n) (by omega) (by omega);unfold bd at this;rw [show ib + 1 + (q + n)=ib + 1 + q + n by omega,KK_at (getElem?_pos b _ (show ib + 1 + q + n < b.size by omega))] at this;simp only [if_true] at this;rw [<- e];rw [getElem_toList];exact this
      have M3:=M2.pushBs hb q (by omega) ql;have M4:MI κ a.toList b.toList ((out1.push b[ib] ++ b.extract (ib + 1) (ib + 1 + q)).push a[ia1]).toList (ia1 + 1) (ib + 1 + q):=by
       rw [toList_push];exact M3.pushA ha (ga ia1 (by omega)) qg
      dsimp only;refine Jc (fun qp=>Jc (fun d=>wpS_pure ⟨S3 _,.inl ⟨_,_,rfl,M3.doneB ha (by simpa using d)⟩⟩) fun d=>wpS_bind (Jg (show ia1 < a.size by omega) (Jc (fun d2=>wpS_pure ⟨S3 _,.inl ⟨_,_,rfl,M4.lastA hb (by simpa using d2) hl⟩⟩) fun d2=>?_))) fun qp=>wpS_bind (Jg (show ia1 < a.size by omega) ?_)
      ·have d3:ib + 1 + q≠b.size:=by simpa using d
       have d4:ia1 + 1 + 1≠a.size:=by simpa using d2
       exact Jc (fun _=>wpS_pure ⟨S3 _,.inr ⟨_,_,_,_,_,_,rfl,M4,by omega,by omega,by omega⟩⟩) fun _=>wpS_pure ⟨S3 _,_,_,_,_,_,_,rfl,M4,by omega,by omega,by omega⟩
      ·have e0:q=0:=by omega
       subst e0;have eo:out1.push b[ib] ++ b.extract (ib + 1) (ib + 1 + 0)=out1.push b[ib]:=by
        apply toList_inj.mp;simp
       rw [eo] at M4;have M4:MI κ a.toList b.toList ((out1.push b[ib]).push a[ia1]).toList (ia1 + 1) (ib + 1):=M4;refine Jc (fun d2=>wpS_pure ⟨S3 _,.inl ⟨_,_,rfl,M4.lastA hb (by simpa using d2) hl⟩⟩) fun d2=>?_;have d4:ia1 + 1 + 1≠a.size:=by simpa using d2
       exact Jc (fun _=>wpS_pure ⟨S3 _,.inr ⟨_,_,_,_,_,_,rfl,M4,by omega,by omega,by omega⟩⟩) fun _=>wpS_pure ⟨S3 _,_,_,_,_,_,_,rfl,M4,by omega,by omega,by omega⟩
end
end Tm
namespace Tm
open PySem PyProof.Rows
section
variable {prog:Program} {w:World} {A:Around} {E:Value->Shared->Prop} {s:Shared} {a₀:Array Keyed} {κ:KeyKind} {sk:SortKind}
open KeyOrd
structure MH (κ:KeyKind) (a b:List Keyed) (out:List Keyed) (na nb:Nat):Prop where
 pm:out.Perm (a.drop na ++ b.drop nb)
 so:SL κ out.reverse
 la:∀ x∈out,∀ y∈a.take na,le κ y x
 lb:∀ x∈out,∀ y∈b.take nb,le κ y x
theorem MH.swap {a b out:List Keyed} {na nb:Nat} (h:MH κ a b out na nb):MH κ b a out nb na:=⟨h.pm.trans perm_append_comm,h.so,h.lb,h.la⟩
theorem SL.take_le {l:List Keyed} (h:SL κ l) {i:Nat} {x y:Keyed} (hx:l[i]?=some x) (hy:y∈l.take (i + 1)):le κ y x:=by
 rw [J1b hx] at hy;have h2:(l.take (i + 1)).Pairwise (le κ):=h.sublist (take_sublist _ _);rw [J1b hx] at h2;rcases mem_append.mp hy with q | q
 ·exact (pairwise_append.mp h2).2.2 y q x (mem_singleton_self _)
 ·rw [mem_singleton.mp q];exact kle_refl _
theorem MH.pushA {a b out:List Keyed} {n nb:Nat} {x:Keyed} (h:MH κ a b out (n + 1) nb) (ha:SL κ a) (hx:a[n]?=some x) (hl:∀ y∈b.take nb,le κ y x):MH κ a b (out ++ [x]) n nb:=by
 have hn:=(List.getElem?_eq_some_iff.mp hx).1;have e:a.drop n=x :: a.drop (n + 1):=by rw [drop_eq_getElem_cons hn,(List.getElem?_eq_some_iff.mp hx).2]
 have xm:x∈a.take (n + 1):=by rw [J1b hx];exact mem_append_right _ (mem_singleton_self _)
 refine ⟨?_,?_,fun z hz y hy=>?_,fun z hz y hy=>?_⟩
 ·rw [e];exact perm_append_comm.trans (h.pm.cons x)
 ·rw [List.reverse_append];exact List.pairwise_cons.mpr ⟨fun y hy=>h.la y (mem_reverse.mp hy) x xm,h.so⟩
 ·have hy':y∈a.take (n + 1):=by rw [J1b hx];exact mem_append_left _ hy
  rcases mem_append.mp hz with q | q
  ·exact h.la z q y hy'
  ·rw [mem_singleton.mp q];exact ha.take_le hx hy'
 ·rcases mem_append.mp hz with q | q
  ·exact h.lb z q y hy
  ·rw [mem_singleton.mp q];exact hl y hy
theorem ext_rev {a:Array Keyed} {n m:Nat} (h:n < m) (hm:m<=a.size):(a.extract n m).reverse.toList=(a.extract (n + 1) m).reverse.toList ++ [a[n]]:=by
 rw [toList_reverse,toList_reverse,toList_extract,toList_extract,extract_eq_take_drop,extract_eq_take_drop];obtain ⟨k,hk⟩:∃ k,m - n=k + 1:=⟨m - n - 1,by omega⟩;rw [hk,show m - (n + 1)=k by omega,drop_eq_getElem_cons (by simpa using (show n < a.size by omega)),List.take_succ_cons,List.reverse_cons];simp
theorem MH.pushAs {a b out:Array Keyed} {nb m:Nat} (h:MH κ a.toList b.toList out.toList m nb) (ha:SL κ a.toList) (hm:m<=a.size):∀ k n,n + k=m->(∀ i,n<=i->i < m->∀ x,a[i]?=some x->∀ y∈b.toList.take nb,le κ y x)->MH κ a.toList b.toList (out ++ (a.extract n m).reverse).toList n nb
 | 0,n,e,_=>by
  have e0:n=m:=by omega
  subst e0;have e:(out ++ (a.extract n n).reverse).toList=out.toList:=by simp
  rw [e];exact h
 | k + 1,n,e,hl=>by
  have ih:=MH.pushAs h ha hm k (n + 1) (by omega) fun i h1 h2=>hl i (by omega) h2;have hx:a.toList[n]?=some a[n]:=by rw [getElem?_toList];exact getElem?_pos a _ (by omega)
  have:=ih.pushA ha hx (hl n (Nat.le_refl _) (by omega) _ (getElem?_pos a _ (by omega)));have e2:(out ++ (a.extract n m).reverse).toList=(out ++ (a.extract (n + 1) m).reverse).toList ++ [a[n]]:=by
   rw [toList_append,ext_rev (by omega) hm,<- List.append_assoc];congr 1;rw [toList_append]
  rw [e2];exact this
theorem Jy (a:Array Keyed) (n:Nat):(a.extract 0 n).toList=a.toList.take n:=by
 rw [toList_extract,extract_eq_take_drop,drop_zero,Nat.sub_zero]
theorem SL.take {l:List Keyed} (h:SL κ l) (i:Nat):SL κ (l.take i):=h.sublist (take_sublist _ _)
theorem MH.done0 {a b out:Array Keyed} {na nb:Nat} (h:MH κ a.toList b.toList out.toList na nb) (hb:SL κ b.toList) (ha:na=0):Mg κ a b (a.extract 0 na ++ b.extract 0 nb ++ out.reverse):=by
 subst ha;have e:(a.extract 0 0 ++ b.extract 0 nb ++ out.reverse).toList=b.toList.take nb ++ out.toList.reverse:=by
  rw [toList_append,toList_append,Jy,Jy,List.take_zero,nil_append,toList_reverse]
 unfold Mg;rw [e];refine ⟨?_,pairwise_append.mpr ⟨hb.take nb,h.so,fun y hy x hx=>h.lb x (mem_reverse.mp hx) y hy⟩⟩;have p:=(List.reverse_perm out.toList).trans h.pm;rw [drop_zero] at p;refine (p.append_left _).trans ?_;rw [<- List.append_assoc];refine (perm_append_comm.append_right _).trans ?_;rw [List.append_assoc,take_append_drop]
theorem MH.doneB0 {a b out:Array Keyed} {na nb:Nat} (h:MH κ a.toList b.toList out.toList na nb) (ha:SL κ a.toList) (hb:nb=0):Mg κ a b (a.extract 0 na ++ b.extract 0 nb ++ out.reverse):=by
 subst hb;have e:(a.extract 0 na ++ b.extract 0 0 ++ out.reverse).toList=a.toList.take na ++ out.toList.reverse:=by
  rw [toList_append,toList_append,Jy,Jy,List.take_zero,append_nil,toList_reverse]
 unfold Mg;rw [e];refine ⟨?_,pairwise_append.mpr ⟨ha.take na,h.so,fun y hy x hx=>h.la x (mem_reverse.mp hx) y hy⟩⟩;have p:=(List.reverse_perm out.toList).trans h.pm;rw [drop_zero] at p;refine (p.append_left _).trans ?_;rw [<- List.append_assoc,take_append_drop]
theorem MH.first1 {a b out:Array Keyed} {na nb:Nat} (h:MH κ a.toList b.toList out.toList na nb) (ha:SL κ a.toList) (hb:nb=1) (b1:0 < b.size) (h0:∀ y∈a.toList,le κ b[0] y):Mg κ a b (b.extract 0 nb ++ a.extract 0 na ++ out.reverse):=by
 subst hb;have et:b.toList.take 1=[b[0]]:=by
  have hx:b.toList[0]?=some b[0]:=by rw [getElem?_toList];exact getElem?_pos b _ b1
  rw [J1b hx];rfl
 have e:(b.extract 0 1 ++ a.extract 0 na ++ out.reverse).toList=[b[0]] ++ a.toList.take na ++ out.toList.reverse:=by
  rw [toList_append,toList_append,Jy,Jy,et,toList_reverse]
 unfold Mg;rw [e];have bm:b[0]∈b.toList.take 1:=by rw [et];exact mem_singleton_self _
 refine ⟨?_,pairwise_append.mpr ⟨pairwise_append.mpr ⟨by simp,ha.take na,fun x hx y hy=>?_⟩,h.so,fun y hy x hx=>?_⟩⟩
 ·have p:=(List.reverse_perm out.toList).trans h.pm;have t:b.toList=[b[0]] ++ b.toList.drop 1:=by
   conv=>lhs;rw [<- take_append_drop 1 b.toList,et]
  refine (p.append_left _).trans ?_;rw [List.append_assoc,<- List.append_assoc (a.toList.take na),take_append_drop]
  conv=>rhs;rw [t]
  rw [<- List.append_assoc,<- List.append_assoc];exact perm_append_comm.append_right _
 ·rw [mem_singleton.mp hx];exact h0 y (mem_of_mem_take hy)
 ·have hx:=mem_reverse.mp hx;rcases mem_append.mp hy with q | q
  ·rw [mem_singleton.mp q];exact h.lb x hx _ bm
  ·exact h.la x hx y q
theorem wp_mergeHi {st:SortSt} {a b:Array Keyed} {Q:Array Keyed->SortSt->Prop} (C:Cmp prog w A s κ sk a₀) (hB:SB sk a₀ st) (ma:∀ x∈a.toList,x∈a₀.toList) (mb:∀ x∈b.toList,x∈a₀.toList) (ha:SL κ a.toList) (hb:SL κ b.toList) (a1:0 < a.size) (b1:0 < b.size)
  (h0:∀ y∈a.toList,le κ b[0] y) (hl:∀ x∈b.toList,∀ y,a[a.size - 1]?=some y->le κ x y) (h:∀ out st',Sim st st'->Mg κ a b out->Q out st'):wpS (model prog w) A E s (mergeHi' a b) Q st:=by
 have ga:∀ i (hi:i < a.size),a.toList[i]?=some a[i]:=fun i hi=>by rw [getElem?_toList];exact getElem?_pos a _ hi
 have gb:∀ i (hi:i < b.size),b.toList[i]?=some b[i]:=fun i hi=>by rw [getElem?_toList];exact getElem?_pos b _ hi
 have mA:∀ i (hi:i < a.size),a[i]∈a₀.toList:=fun i hi=>ma _ (List.mem_of_getElem? (ga i hi));have mB:∀ i (hi:i < b.size),b[i]∈a₀.toList:=fun i hi=>mb _ (List.mem_of_getElem? (gb i hi));have mA':∀ (i:Nat) (x:Keyed),a[i]?=some x->x∈a₀.toList:=fun i x hx=>ma _ (mem_toList_iff.mpr (Array.mem_of_getElem? hx));have mB':∀ (i:Nat) (x:Keyed),b[i]?=some x->x∈a₀.toList:=fun i x hx=>mb _ (mem_toList_iff.mpr (Array.mem_of_getElem? hx));have sA:∀ n,n<=a.size->SOn κ a 0 (0 + n):=fun i hi x y h1 h2 h3=>ha.on x y (by omega) h2 (by omega);have sB:∀ n,n<=b.size->SOn κ b 0 (0 + n):=fun i hi x y h1 h2 h3=>hb.on x y (by omega) h2 (by omega);have pA:∀ {out:Array Keyed} {na nb:Nat},MH κ a.toList b.toList out.toList na nb->1<=na->∀ (hn:na<=a.size),(∀ y∈b.toList.take nb,le κ y (a[na - 1]'(by omega)))->MH κ a.toList b.toList (out.push (a[na - 1]'(by omega))).toList (na - 1) nb:=fun {out na nb} M h1 hn hc=>by
  rw [toList_push];have M':MH κ a.toList b.toList out.toList (na - 1 + 1) nb:=by rw [show na - 1 + 1=na by omega];exact M
  exact M'.pushA ha (ga (na - 1) (by omega)) hc
 have pB:∀ {out:Array Keyed} {na nb:Nat},MH κ a.toList b.toList out.toList na nb->1<=nb->∀ (hn:nb<=b.size),(∀ y∈a.toList.take na,le κ y (b[nb - 1]'(by omega)))->MH κ a.toList b.toList (out.push (b[nb - 1]'(by omega))).toList na (nb - 1):=fun {out na nb} M h1 hn hc=>by
  rw [toList_push];have M':MH κ a.toList b.toList out.toList na (nb - 1 + 1):=by rw [show nb - 1 + 1=nb by omega];exact M
  exact (M'.swap.pushA hb (gb (nb - 1) (by omega)) hc).swap
 have tA:∀ {na:Nat} (h1:1<=na) (hn:na<=a.size) (y:Keyed),y∈a.toList.take na->le κ y (a[na - 1]'(by omega)):=fun {na} h1 hn y hy=>ha.take_le (ga (na - 1) (by omega)) (by rw [show na - 1 + 1=na by omega];exact hy);have tB:∀ {nb:Nat} (h1:1<=nb) (hn:nb<=b.size) (y:Keyed),y∈b.toList.take nb->le κ y (b[nb - 1]'(by omega)):=fun {nb} h1 hn y hy=>hb.take_le (gb (nb - 1) (by omega)) (by rw [show nb - 1 + 1=nb by omega];exact hy);refine wpS_bind (wpS_lift (wpAny_rule ⟨rfl,?_⟩));refine wpS_bind (Jg (show a.size - 1 < a.size by omega) ?_);dsimp only;have M0:MH κ a.toList b.toList (#[a[a.size - 1]]:Array Keyed).toList (a.size - 1) b.size:=by
  have z:MH κ a.toList b.toList (#[]:Array Keyed).toList a.size b.size:=⟨by rw [List.drop_of_length_le (by simp),List.drop_of_length_le (by simp)];simp,.nil,fun x hx=>(by cases hx),fun x hx=>(by cases hx)⟩;have:=pA z a1 (Nat.le_refl _) fun y hy=>hl y (mem_of_mem_take hy) _ (getElem?_pos a _ (by omega));exact this
 refine Jc (fun d=>wpS_pure (h _ st (Sim.refl _) (M0.done0 hb (by simpa using d)))) fun d1=>Jc (fun d=>wpS_pure (h _ st (Sim.refl _) (M0.first1 ha (by simpa using d) b1 h0))) fun d2=>?_;have c1:a.size - 1≠0:=by simpa using d1
 have c2:b.size≠1:=by simpa using d2
 refine wpS_bind (wpS_get ?_);refine wpS_bind (wpS_mono (wpS_forRange (I:=fun x c st'=>Sim st st'/\∃ na nb out mg,c=(none,na,nb,out,mg)/\MH κ a.toList b.toList out.toList na nb/\1<=na/\na<=a.size/\2<=nb/\nb<=b.size/\x + 1<=a.size - na + (b.size - nb))
  (Q:=fun c st'=>Sim st st'/\∃ r z,c=(some r,z)/\Mg κ a b r) ?step ?fin ⟨Sim.refl _,a.size - 1,b.size,_,_,rfl,M0,by omega,by omega,by omega,by omega,by omega⟩) ?post)
 case post =>
  rintro c st' ⟨S,r,z,rfl,g⟩;exact wpS_pure (h r st' S g)
 case fin =>
  rintro c st' ⟨S,na,nb,out,mg,rfl,M,l1,l2,l3,l4,l5⟩;omega
 case step =>
  rintro x c st' _ hx ⟨S,na,nb,out,mg,rfl,M,l1,l2,l3,l4,l5⟩;refine wpS_bind (wpS_mono (wpS_forRange (I:=fun y c st'=>Sim st st'/\∃ na nb out ac bc,c=(none,na,nb,out,ac,bc)/\MH κ a.toList b.toList out.toList na nb/\1<=na/\na<=a.size/\2<=nb/\nb<=b.size/\x + 1 + y<=a.size - na + (b.size - nb))
   (Q:=fun c st'=>Sim st st'/\((∃ r z,c=(some r,z)/\Mg κ a b r)\/(∃ na nb out ac bc,c=(none,na,nb,out,ac,bc)/\MH κ a.toList b.toList out.toList na nb/\1<=na/\na<=a.size/\2<=nb/\nb<=b.size/\x + 2<=a.size - na + (b.size - nb)))) ?s1 ?f1 ⟨S,na,nb,out,_,_,rfl,M,l1,l2,l3,l4,by omega⟩) ?p1)
  case f1 =>
   rintro c st' ⟨S,na,nb,out,ac,bc,rfl,M,l1,l2,l3,l4,l5⟩;exact ⟨S,.inr ⟨na,nb,out,ac,bc,rfl,M,l1,l2,l3,l4,by omega⟩⟩
  case s1 =>
   rintro y c st' _ hy ⟨S,na,nb,out,ac,bc,rfl,M,l1,l2,l3,l4,l5⟩;dsimp only;refine wpS_bind (Jg (show nb - 1 < b.size by omega) (wpS_bind (Jg (show na - 1 < a.size by omega) (wpS_bind (wp_lt C (S.sb hB) (mB (nb - 1) (by omega)) (mA (na - 1) (by omega)) ?_)))))
   cases cc:κ.blt (kv κ b[nb - 1]) (kv κ a[na - 1]) with
   | true =>
    dsimp only;rw [if_pos rfl];refine wpS_bind (Jg (show na - 1 < a.size by omega) ?_);have M':=pA M l1 l2 fun z hz=>kle_trans (tB (by omega) l4 z hz) (kle_of_klt cc);refine Jc (fun d=>wpS_pure ⟨S,.inl ⟨_,_,rfl,M'.done0 hb (by simpa using d)⟩⟩) fun d=>?_;have d':na - 1≠0:=by simpa using d
    exact Jc (fun _=>wpS_pure ⟨S,.inr ⟨_,_,_,_,_,rfl,M',by omega,by omega,by omega,by omega,by omega⟩⟩) fun _=>wpS_pure ⟨S,_,_,_,_,_,rfl,M',by omega,by omega,by omega,by omega,by omega⟩
   | false =>
    dsimp only;rw [if_neg Bool.false_ne_true];refine wpS_bind (Jg (show nb - 1 < b.size by omega) ?_);have M':=pB M (by omega) l4 fun z hz=>kle_trans (tA l1 l2 z hz) cc;refine Jc (fun d=>wpS_pure ⟨S,.inl ⟨_,_,rfl,M'.first1 ha (by simpa using d) b1 h0⟩⟩) fun d=>?_;have d':nb - 1≠1:=by simpa using d
    exact Jc (fun _=>wpS_pure ⟨S,.inr ⟨_,_,_,_,_,rfl,M',by omega,by omega,by omega,by omega,by omega⟩⟩) fun _=>wpS_pure ⟨S,_,_,_,_,_,rfl,M',by omega,by omega,by omega,by omega,by omega⟩
  case p1 =>
   rintro c st1 ⟨S1,⟨r,z,rfl,g⟩ | ⟨na,nb,out,ac,bc,rfl,M,l1,l2,l3,l4,l5⟩⟩
   ·exact wpS_pure ⟨S1,r,_,rfl,g⟩
   dsimp only;refine wpS_bind (wpS_lift (wpAny_rule ⟨rfl,?_⟩));refine wpS_bind (wpS_mono (wpS_forRange (I:=fun y c st'=>Sim st st'/\∃ na nb out mg ac bc,c=(none,na,nb,out,mg,ac,bc)/\MH κ a.toList b.toList out.toList na nb/\1<=na/\na<=a.size/\2<=nb/\nb<=b.size/\x + 2<=a.size - na + (b.size - nb))
    (Q:=fun c st'=>Sim st st'/\((∃ r z,c=(some r,z)/\Mg κ a b r)\/(∃ na nb out mg ac bc,c=(none,na,nb,out,mg,ac,bc)/\MH κ a.toList b.toList out.toList na nb/\1<=na/\na<=a.size/\2<=nb/\nb<=b.size/\x + 2<=a.size - na + (b.size - nb)))) ?s2 ?f2 ⟨S1,na,nb,out,_,_,_,rfl,M,l1,l2,l3,l4,l5⟩) ?p2)
   case f2=>exact fun c st' h9=>by obtain ⟨S,q⟩:=h9;exact ⟨S,.inr q⟩
   case p2 =>
    rintro c st2 ⟨S2,⟨r,z,rfl,g⟩ | ⟨na,nb,out,mg,ac,bc,rfl,M,l1,l2,l3,l4,l5⟩⟩
    ·exact wpS_pure ⟨S2,r,_,rfl,g⟩
    dsimp only;exact wpS_bind (wpS_modify (wpS_pure ⟨S2.trans (Sim.gallop _ _),na,nb,out,_,rfl,M,l1,l2,l3,l4,by omega⟩))
   case s2 =>
    rintro y c st2 _ hy ⟨S2,na,nb,out,mg,ac,bc,rfl,M,l1,l2,l3,l4,l5⟩;dsimp only;refine Jc (fun _=>?_) fun _=>?_
    all_goals
     refine wpS_bind (wpS_modify ?_);refine wpS_bind (Jg (show nb - 1 < b.size by omega) (wpS_bind (Jx C ((S2.trans (Sim.gallop st2 _)).sb hB) (mB (nb - 1) (by omega)) (by omega) mA' (sA na l2) (by omega) fun k k1 k2 k3=>?_)));have S3:∀ g,Sim st (SortSt.mk' (kindOf st2) (arrOf st2) (pendingOf st2) g (failedOf st2)):=fun g=>S2.trans (Sim.gallop st2 g);have kg:∀ i,k<=i->i < na->∀ z,a[i]?=some z->∀ y∈b.toList.take nb,le κ y z:=fun i h1 h2 z hz y hy=>by
      have:=k3 i h1 h2;unfold bd at this;rw [Nat.zero_add,KK_at hz] at this;simp only [Bool.false_eq_true,if_false,Bool.not_eq_false'] at this;exact kle_trans (tB (by omega) l4 y hy) (kle_of_klt this)
     have kl:∀ y∈a.toList.take k,le κ y (b[nb - 1]'(by omega)):=fun y hy=>by
      obtain ⟨n,hn,e⟩:=getElem_of_mem hy;rw [length_take,length_toList] at hn;rw [List.getElem_take,getElem_toList] at e;have:=k2 n (by omega);unfold bd at this;rw [Nat.zero_add,KK_at (getElem?_pos a n (by omega)),e] at this;simp only [Bool.false_eq_true,if_false,Bool.not_eq_true'] at this;exact this
     have Mk:=M.pushAs ha l2 (na - k) k (by omega) kg;dsimp only;refine Jc (fun kp=>Jc (fun d=>wpS_pure ⟨S3 _,.inl ⟨_,_,rfl,Mk.done0 hb (by simpa using d)⟩⟩) fun d=>?_) fun kp=>?_;have l6:1<=k:=Nat.one_le_iff_ne_zero.mpr (by simpa using d);have l7:k<=a.size:=by omega
     have l8:x + 2<=a.size - k + (b.size - nb):=by omega
     generalize out ++ (a.extract k na).reverse=out1 at Mk ⊢;generalize na - k=nk;generalize k=na1 at Mk l6 l7 l8 kl ⊢
     rotate_left
     have e0:k=na:=by omega
     subst e0;have l6:1<=k:=l1;have l7:k<=a.size:=l2;have l8:x + 2<=a.size - k + (b.size - nb):=l5;have eo:out ++ (a.extract k k).reverse=out:=by
      apply toList_inj.mp;simp
     rw [eo] at Mk;generalize out=out1 at Mk ⊢;generalize k - k=nk;generalize k=na1 at Mk l6 l7 l8 kl ⊢
     all_goals
      refine wpS_bind (Jg (show nb - 1 < b.size by omega) ?_);have M2:=pB Mk (by omega) l4 kl;refine Jc (fun d=>wpS_pure ⟨S3 _,.inl ⟨_,_,rfl,M2.first1 ha (by simpa using d) b1 h0⟩⟩) fun d=>?_;have d':nb - 1≠1:=by simpa using d
      refine wpS_bind (Jg (show na1 - 1 < a.size by omega) (wpS_bind (Jx C ((S3 _).sb hB) (mA (na1 - 1) (by omega)) (by omega) mB' (sB (nb - 1) (by omega)) (by omega) fun q q1 q2 q3=>?_)));have qg:∀ i,q<=i->i < nb - 1->∀ z,b[i]?=some z->∀ y∈a.toList.take na1,le κ y z:=fun i h1 h2 z hz y hy=>by
       have:=q3 i h1 h2;unfold bd at this;rw [Nat.zero_add,KK_at hz] at this;simp only [if_true] at this;exact kle_trans (tA l6 l7 y hy) this
      have ql:∀ y∈b.toList.take q,le κ y (a[na1 - 1]'(by omega)):=fun y hy=>by
       obtain ⟨n,hn,e⟩:=getElem_of_mem hy;rw [length_take,length_toList] at hn;rw [List.getElem_take,getElem_toList] at e;have:=q2 n (by omega);unfold bd at this;rw [Nat.zero_add,KK_at (getElem?_pos b n (by omega)),e] at this;simp only [if_true] at this;exact kle_of_klt this
      have M3:=(M2.swap.pushAs hb (by omega) (nb - 1 - q) q (by omega) qg).swap;have M4:=pA M3 l6 l7 ql;dsimp only;refine Jc (fun qp=>Jc (fun d=>wpS_pure ⟨S3 _,.inl ⟨_,_,rfl,M3.first1 ha (by simpa using d) b1 h0⟩⟩) fun d=>Jc (fun d2=>wpS_pure ⟨S3 _,.inl ⟨_,_,rfl,M3.doneB0 ha (by simpa using d2)⟩⟩) fun d2=>wpS_bind (Jg (show na1 - 1 < a.size by omega) (Jc (fun d3=>wpS_pure ⟨S3 _,.inl ⟨_,_,rfl,M4.done0 hb (by simpa using d3)⟩⟩) fun d3=>?_))) fun qp=>wpS_bind (Jg (show na1 - 1 < a.size by omega) ?_)
      ·have e1:q≠1:=by simpa using d
       have e2:q≠0:=by simpa using d2
       have e3:na1 - 1≠0:=by simpa using d3
       exact Jc (fun _=>wpS_pure ⟨S3 _,.inr ⟨_,_,_,_,_,_,rfl,M4,by omega,by omega,by omega,by omega,by omega⟩⟩) fun _=>wpS_pure ⟨S3 _,_,_,_,_,_,_,rfl,M4,by omega,by omega,by omega,by omega,by omega⟩
      ·have e0:q=nb - 1:=by omega
       subst e0;have eo:out1.push (b[nb - 1]'(by omega)) ++ (b.extract (nb - 1) (nb - 1)).reverse=out1.push (b[nb - 1]'(by omega)):=by
        apply toList_inj.mp;simp
       rw [eo] at M4;refine Jc (fun d3=>wpS_pure ⟨S3 _,.inl ⟨_,_,rfl,M4.done0 hb (by simpa using d3)⟩⟩) fun d3=>?_;have e3:na1 - 1≠0:=by simpa using d3
       exact Jc (fun _=>wpS_pure ⟨S3 _,.inr ⟨_,_,_,_,_,_,rfl,M4,by omega,by omega,by omega,by omega,by omega⟩⟩) fun _=>wpS_pure ⟨S3 _,_,_,_,_,_,_,rfl,M4,by omega,by omega,by omega,by omega,by omega⟩
end
end Tm
namespace Tm
open PySem PyProof.Rows
section
variable {prog:Program} {w:World} {A:Around} {E:Value->Shared->Prop} {s:Shared} {a₀:Array Keyed} {κ:KeyKind} {sk:SortKind}
open KeyOrd
theorem put_list {α:Type} (t:Nat):∀ (l:List α) (k:Nat) (arr:Array α),t + k + l.length<=arr.size->
  ((l.zipIdx k).foldl (fun a (p:α × Nat)=>a.setIfInBounds (t + p.2) p.1) arr).toList=arr.toList.take (t + k) ++ l ++ arr.toList.drop (t + k + l.length)
 | [],k,arr,h=>by simp
 | x :: l,k,arr,h=>by
  rw [List.zipIdx_cons,List.foldl_cons];have hl:t + k + (l.length + 1)<=arr.size:=h;rw [put_list t l (k + 1) _ (by rw [Array.size_setIfInBounds];omega),Array.toList_setIfInBounds];have hk:t + k < arr.toList.length:=by rw [length_toList];omega
  rw [List.drop_set_of_lt (by omega),show t + (k + 1)=t + k + 1 by omega,List.take_set,length_cons,show t + k + (l.length + 1)=t + k + 1 + l.length by omega]
  congr 1
  rw [take_succ,List.getElem?_eq_getElem hk,Option.toList_some,List.set_append_right _ _ (by rw [length_take];omega),length_take,Nat.min_eq_left (by omega),Nat.sub_self];simp
theorem ext_mid (arr:Array Keyed) (i j:Nat):(arr.extract i j).toList=(arr.toList.drop i).take (j - i):=by
 rw [toList_extract,extract_eq_take_drop]
theorem sub_sl {arr:Array Keyed} {i j:Nat} (h:SOn κ arr i j) (hj:j<=arr.size):SL κ (arr.extract i j).toList:=by
 refine List.pairwise_iff_getElem.mpr fun x y hx hy hxy=>?_;rw [length_toList,size_extract] at hx hy;have:=h (i + x) (i + y) (by omega) (by omega) (by omega);rw [KK_at (getElem?_pos arr _ (show i + x < arr.size by omega)),KK_at (getElem?_pos arr _ (show i + y < arr.size by omega))] at this;rw [getElem_toList,getElem_toList,getElem_extract,getElem_extract];exact this
theorem J2c {arr:Array Keyed} {i j:Nat} {x:Keyed} (hx:x∈(arr.extract i j).toList):∃ k,i<=k/\k < j/\arr[k]?=some x:=by
 obtain ⟨n,hn,e⟩:=getElem_of_mem hx;rw [length_toList,size_extract] at hn;rw [getElem_toList,getElem_extract] at e;exact ⟨i + n,by omega,by omega,by rw [getElem?_pos arr _ (show i + n < arr.size by omega),e]⟩
theorem wp_set {σ:Type} {st st':σ} {Q:PUnit->σ->Prop} (h:Q ⟨⟩ st'):wpS (model prog w) A E s (set st':StateT σ Sem PUnit) Q st:=by
 unfold wpS;rw [StateT.run_set];exact wpAny_pure ⟨rfl,h⟩
theorem seg_ok {arr arr':Array Keyed} {sa t sb e2 hi:Nat} {m:Array Keyed} (hs1:SOn κ arr sa sb) (hs2:SOn κ arr sb hi) (o1:sa<=t) (o2:t < sb) (o3:sb < e2) (o4:e2<=hi) (o5:hi<=arr.size)
  (c1:∀ i,sa<=i->i < t->κ.kle (KK κ arr i) (KK κ arr sb)) (c2:∀ i,e2<=i->i < hi->κ.kle (KK κ arr (sb - 1)) (KK κ arr i))
  (mg:Mg κ (arr.extract t sb) (arr.extract sb e2) m) (ea:arr'.toList=arr.toList.take t ++ m.toList ++ arr.toList.drop (t + m.toList.length)) :
  arr'.Perm arr/\(∀ k,k < sa\/hi<=k->arr'[k]?=arr[k]?)/\SOn κ arr' sa hi:=by
 obtain ⟨mp,ms⟩:=mg;have ml:m.toList.length=e2 - t:=by
  rw [mp.length_eq,length_append,length_toList,length_toList,size_extract,size_extract];omega
 have lt:(arr.toList.take t).length=t:=by rw [length_take,length_toList];omega
 rw [ml,show t + (e2 - t)=e2 by omega] at ea;have seg:(arr.extract t sb).toList ++ (arr.extract sb e2).toList=(arr.toList.drop t).take (e2 - t):=by
  rw [ext_mid,ext_mid,show e2 - t=(sb - t) + (e2 - sb) by omega,List.take_add,List.drop_drop,show t + (sb - t)=sb by omega]
 have at1:∀ k,k < t->arr'[k]?=arr[k]?:=fun k hk=>by
  rw [<- getElem?_toList,ea,List.append_assoc,getElem?_append_left (by omega),List.getElem?_take,if_pos hk,getElem?_toList]
 have at3:∀ k,e2<=k->arr'[k]?=arr[k]?:=fun k hk=>by
  rw [<- getElem?_toList,ea,getElem?_append_right (by rw [length_append,lt,ml];omega),length_append,lt,ml,List.getElem?_drop,getElem?_toList]
  congr 1
  omega
 have at2:∀ k,t<=k->k < e2->arr'[k]?=m.toList[k - t]?:=fun k h1 h2=>by
  rw [<- getElem?_toList,ea,getElem?_append_left (by rw [length_append,lt,ml];omega),getElem?_append_right (by omega),lt]
 have in2:∀ k,t<=k->k < e2->∃ j,t<=j/\j < e2/\KK κ arr' k=KK κ arr j:=fun k h1 h2=>by
  have hk:k - t < m.toList.length:=by omega
  have e0:=(at2 k h1 h2).trans (List.getElem?_eq_getElem hk);have hmem:m.toList[k - t]∈(arr.extract t sb).toList ++ (arr.extract sb e2).toList:=mp.mem_iff.mp (List.getElem_mem hk);rcases mem_append.mp hmem with q | q
  ·obtain ⟨j,j1,j2,ej⟩:=J2c q;exact ⟨j,j1,by omega,by rw [KK_at e0,KK_at ej]⟩
  ·obtain ⟨j,j1,j2,ej⟩:=J2c q;exact ⟨j,by omega,j2,by rw [KK_at e0,KK_at ej]⟩
 refine ⟨?_,fun k hk=>?_,fun i j i1 ij jh=>?_⟩
 ·refine Array.perm_iff_toList_perm.mpr ?_;have p:(arr.toList.take t ++ m.toList ++ arr.toList.drop e2).Perm (arr.toList.take t ++ (arr.toList.drop t).take (e2 - t) ++ arr.toList.drop e2):=((seg ▸ mp).append_left _).append_right _;have e3:arr.toList.take t ++ (arr.toList.drop t).take (e2 - t) ++ arr.toList.drop e2=arr.toList:=by
   have:arr.toList.drop e2=(arr.toList.drop t).drop (e2 - t):=by rw [List.drop_drop];congr 1;omega
   rw [this,List.append_assoc,take_append_drop,take_append_drop]
  rw [ea];exact p.trans (by rw [e3])
 ·rcases hk with hk | hk
  ·exact at1 k (by omega)
  ·exact at3 k (by omega)
 ·-- what lies in the second row is above what lies ahead of it
  have low:∀ x y,sa<=x->x < t->t<=y->y < e2->κ.kle (KK κ arr x) (KK κ arr y):=fun x y x1 x2 y1 y2=>by
   by_cases c:y < sb
   ·exact hs1 x y x1 (by omega) c
   ·exact kle_trans (c1 x x1 x2) (hs2 sb y (Nat.le_refl _) (by omega) (by omega))
  have high:∀ x y,t<=x->x < e2->e2<=y->y < hi->κ.kle (KK κ arr x) (KK κ arr y):=fun x y x1 x2 y1 y2=>by
   by_cases c:x < sb
   ·exact kle_trans (hs1 x (sb - 1) (by omega) (by omega) (by omega)) (c2 y y1 y2)
   ·exact hs2 x y (by omega) (by omega) y2
  have far:∀ x y,sa<=x->x < t->e2<=y->y < hi->κ.kle (KK κ arr x) (KK κ arr y):=fun x y x1 x2 y1 y2=>kle_trans (c1 x x1 x2) (hs2 sb y (Nat.le_refl _) (by omega) y2);by_cases ci:i < t
  ·rw [KK_congr (at1 i ci)];by_cases cj:j < t
   ·rw [KK_congr (at1 j cj)];exact hs1 i j i1 ij (by omega)
   ·by_cases cj2:j < e2
    ·obtain ⟨z,z1,z2,ez⟩:=in2 j (by omega) cj2;rw [ez];exact low i z i1 ci z1 z2
    ·rw [KK_congr (at3 j (by omega))];exact far i j i1 ci (by omega) jh
  ·by_cases ci2:i < e2
   ·by_cases cj2:j < e2
    ·have hi':i - t < m.toList.length:=by omega
     have hj':j - t < m.toList.length:=by omega
     rw [KK_at ((at2 i (by omega) ci2).trans (List.getElem?_eq_getElem hi')),KK_at ((at2 j (by omega) cj2).trans (List.getElem?_eq_getElem hj'))];by_cases eij:i=j
     ·subst eij;exact kle_refl _
     ·exact List.pairwise_iff_getElem.mp ms (i - t) (j - t) hi' hj' (by omega)
    ·obtain ⟨z,z1,z2,ez⟩:=in2 i (by omega) ci2;rw [ez,KK_congr (at3 j (by omega))];exact high z j z1 z2 (by omega) jh
   ·rw [KK_congr (at3 i (by omega)),KK_congr (at3 j (by omega))];exact hs2 i j (by omega) ij jh
theorem wp_mergeAt {st:SortSt} {i sa na p sb nb q:Nat} {Q:Bool->SortSt->Prop} (C:Cmp prog w A s κ sk a₀) (hB:SB sk a₀ st) (h1:(pendingOf st)[i]?=some (sa,na,p)) (h2:(pendingOf st)[i + 1]?=some (sb,nb,q)) (e:sb=sa + na) (n1:1<=na) (n2:1<=nb) (hz:sb + nb<=a₀.size)
  (s1:SOn κ (arrOf st) sa sb) (s2:SOn κ (arrOf st) sb (sb + nb))
  (h:∀ st',SB sk a₀ st'->pendingOf st'=((pendingOf st).setIfInBounds i (sa,na + nb,p)).eraseIdxIfInBounds (i + 1)->(∀ k,k < sa\/sb + nb<=k->(arrOf st')[k]?=(arrOf st)[k]?)->SOn κ (arrOf st') sa (sb + nb)->Q true st') :
  wpS (model prog w) A E s (mergeAt' i) Q st:=by
 refine wpS_bind (wpS_get ?_);have hm:((pendingOf st)[i]?,(pendingOf st)[i + 1]?)=(some (sa,na,p),some (sb,nb,q)):=by rw [h1,h2]
 dsimp only;rw [h1,h2];dsimp only;refine wpS_bind (wp_set ?_);have hsz:=hB.size;have B1:∀ g,SB sk a₀ (SortSt.mk' (kindOf st) (arrOf st) g (gallopOf st) (failedOf st)):=fun g=>⟨hB.perm,hB.kind,hB.failed⟩;have mem:∀ (i:Nat) (x:Keyed),(arrOf st)[i]?=some x->x∈a₀.toList:=fun i x hx=>hB.mem hx;have one:κ.kle (KK κ (arrOf st) (sb - 1)) (KK κ (arrOf st) sb)->SOn κ (arrOf st) sa (sb + nb):=fun l x y x1 xy yh=>by
  by_cases c:y < sb
  ·exact s1 x y x1 xy c
  ·by_cases c2:x < sb
   ·exact kle_trans (s1 x (sb - 1) x1 (by omega) (by omega)) (kle_trans l (s2 sb y (Nat.le_refl _) (by omega) yh))
   ·exact s2 x y (by omega) xy yh
 refine wpS_bind (Jg (show sb < (arrOf st).size by omega) (wpS_bind (Jx C (B1 _) (mem sb _ (getElem?_pos _ _ (by omega))) (show sa + na<=(arrOf st).size by omega) mem (by rw [<- e];exact s1) (by omega) fun k k1 k2 k3=>?_)));have kl:∀ i,sa<=i->i < sa + k->κ.kle (KK κ (arrOf st) i) (KK κ (arrOf st) sb):=fun i i1 i2=>by
  have:=k2 (i - sa) (by omega);unfold bd at this;rw [show sa + (i - sa)=i by omega] at this;simp only [Bool.false_eq_true,if_false,Bool.not_eq_true'] at this;rw [KK_at (getElem?_pos (arrOf st) sb (by omega))];exact this
 have kg:∀ i,sa + k<=i->i < sb->κ.klt (KK κ (arrOf st) sb) (KK κ (arrOf st) i):=fun i i1 i2=>by
  have:=k3 (i - sa) (by omega) (by omega);unfold bd at this;rw [show sa + (i - sa)=i by omega] at this;simp only [Bool.false_eq_true,if_false,Bool.not_eq_false'] at this;rw [KK_at (getElem?_pos (arrOf st) sb (by omega))];exact this
 dsimp only;refine Jc (fun d=>wpS_pure (h _ (B1 _) rfl (fun _ _=>rfl) (one (kl (sb - 1) (by omega) (by have:na - k=0:=(by simpa using d);omega))))) fun d=>?_;have d':na - k≠0:=by simpa using d
 refine wpS_bind (Jg (show sa + k + (na - k) - 1 < (arrOf st).size by omega) (wpS_bind (Jx C (B1 _) (mem _ _ (getElem?_pos _ _ (by omega))) (show sb + nb<=(arrOf st).size by omega) mem s2 (by omega) fun q q1 q2 q3=>?_)));have eL:KK κ (arrOf st) (sb - 1)=kv κ ((arrOf st)[sa + k + (na - k) - 1]'(by omega)):=by
  rw [show sb - 1=sa + k + (na - k) - 1 by omega];exact KK_at (getElem?_pos (arrOf st) _ (by omega))
 have ql:∀ i,sb<=i->i < sb + q->κ.kle (KK κ (arrOf st) i) (KK κ (arrOf st) (sb - 1)):=fun i i1 i2=>by
  have:=q2 (i - sb) (by omega);unfold bd at this;rw [show sb + (i - sb)=i by omega] at this;simp only [if_true] at this;rw [eL];exact kle_of_klt this
 have qg:∀ i,sb + q<=i->i < sb + nb->κ.kle (KK κ (arrOf st) (sb - 1)) (KK κ (arrOf st) i):=fun i i1 i2=>by
  have:=q3 (i - sb) (by omega) (by omega);unfold bd at this;rw [show sb + (i - sb)=i by omega] at this;simp only [if_true] at this;rw [eL];exact this
 dsimp only;refine Jc (fun d=>wpS_pure (h _ (B1 _) rfl (fun _ _=>rfl) (one (qg sb (by have:q=0:=(by simpa using d);omega) (by omega))))) fun d2=>?_;have d2':q≠0:=by simpa using d2
 have sx:((arrOf st).extract (sa + k) sb).size=sb - (sa + k):=by rw [size_extract];omega
 have sy:((arrOf st).extract sb (sb + q)).size=q:=by rw [size_extract];omega
 have SX:=sub_sl (κ:=κ) (arr:=arrOf st) (i:=sa + k) (j:=sb) (fun x y x1 xy yh=>s1 x y (by omega) xy yh) (by omega);have SY:=sub_sl (κ:=κ) (arr:=arrOf st) (i:=sb) (j:=sb + q) (fun x y x1 xy yh=>s2 x y x1 xy (by omega)) (by omega);have mx:∀ x∈((arrOf st).extract (sa + k) sb).toList,x∈a₀.toList:=fun x hx=>by obtain ⟨_,_,_,ej⟩:=J2c hx;exact mem _ _ ej
 have my:∀ x∈((arrOf st).extract sb (sb + q)).toList,x∈a₀.toList:=fun x hx=>by obtain ⟨_,_,_,ej⟩:=J2c hx;exact mem _ _ ej
 have y0:0 < ((arrOf st).extract sb (sb + q)).size:=by rw [sy];omega
 have ey0:kv κ ((arrOf st).extract sb (sb + q))[0]=KK κ (arrOf st) sb:=by
  rw [getElem_extract,KK_at (getElem?_pos (arrOf st) sb (by omega))];rfl
 have hx0:∀ y∈((arrOf st).extract (sa + k) sb).toList,le κ ((arrOf st).extract sb (sb + q))[0] y:=fun y hy=>by
  obtain ⟨j,j1,j2,ej⟩:=J2c hy;show κ.kle (kv κ _) (kv κ y);rw [ey0,<- KK_at ej];exact kle_of_klt (kg j j1 j2)
 have hxl:∀ x∈((arrOf st).extract sb (sb + q)).toList,∀ y,((arrOf st).extract (sa + k) sb)[((arrOf st).extract (sa + k) sb).size - 1]?=some y->le κ x y:=fun x hx y hy=>by
  obtain ⟨j,j1,j2,ej⟩:=J2c hx;rw [sx,Array.getElem?_extract,if_pos (by omega),show sa + k + (sb - (sa + k) - 1)=sb - 1 by omega] at hy;show κ.kle (kv κ x) (kv κ y);rw [<- KK_at ej,<- KK_at hy];exact ql j j1 j2
 refine Jc (fun _=>wpS_bind (wp_mergeLo C (B1 _) mx my SX SY (show 0 < ((arrOf st).extract (sa + k) sb).size by rw [sx];omega) y0 hx0 hxl fun m st2 S2 mg=>?_)) fun _=>wpS_bind (wp_mergeHi C (B1 _) mx my SX SY (show 0 < ((arrOf st).extract (sa + k) sb).size by rw [sx];omega) y0 hx0 hxl fun m st2 S2 mg=>?_)
 all_goals
  have ml:m.toList.length=sb + q - (sa + k):=by
   rw [mg.1.length_eq,length_append,length_toList,length_toList,sx,sy];omega
  have ea:=put_list (sa + k) m.toList 0 (arrOf st2) (by rw [ml,S2.arr];show sa + k + 0 + _<=(arrOf st).size;omega);have ar:arrOf st2=arrOf st:=S2.arr;rw [ar,Nat.add_zero] at ea;obtain ⟨w1,w2,w3⟩:=seg_ok s1 s2 (show sa<=sa + k by omega) (by omega) (show sb < sb + q by omega) (show sb + q<=sb + nb by omega) (by omega) kl qg mg ea;refine wpS_bind (wpS_modify (wpS_bind (wpS_get ?_)));have hf:failedOf st2=none:=S2.failed.trans hB.failed;have en:(failedOf st2).isNone=true:=by rw [hf];rfl
  show wpS (model prog w) A E s (pure (failedOf st2).isNone) Q _;rw [en];rw [<- ar] at w1 w2 w3;refine wpS_pure (h _ ⟨?_,S2.kind.trans hB.kind,hf⟩ S2.pend (fun k hk=>?_) ?_)
  ·have:=w1.trans (show (arrOf st2).Perm a₀ by rw [ar];exact hB.perm);exact this
  ·have:=w2 k hk;rw [ar] at this;rw [<- this,<- ar]
  ·exact w3
end
end Tm
namespace Tm
open PySem PyProof.Rows
def Runs (κ:KeyKind) (xs:Array Keyed):Nat->List (Nat × Nat × Nat)->Nat->Prop
 | lo,[],hi=>lo=hi
 | lo,r :: rs,hi=>r.1=lo/\1<=r.2.1/\SOn κ xs lo (lo + r.2.1)/\Runs κ xs (lo + r.2.1) rs hi
section
variable {κ:KeyKind} {xs ys:Array Keyed}
theorem Runs.le:∀ {P:List (Nat × Nat × Nat)} {lo hi:Nat},Runs κ xs lo P hi->lo + P.length<=hi
 | [],lo,hi,h=>Nat.le_of_eq h
 | r :: rs,lo,hi,h=>by
  have:=Runs.le h.2.2.2;have:=h.2.1;rw [length_cons];omega
theorem SOn.congr {lo hi:Nat} (h:SOn κ xs lo hi) (e:∀ k,lo<=k->k < hi->ys[k]?=xs[k]?):SOn κ ys lo hi:=fun i j i1 ij jh=>by
 rw [KK_congr (e i i1 (by omega)),KK_congr (e j (by omega) jh)];exact h i j i1 ij jh
theorem Runs.congr:∀ {P:List (Nat × Nat × Nat)} {lo hi:Nat},Runs κ xs lo P hi->(∀ k,lo<=k->k < hi->ys[k]?=xs[k]?)->Runs κ ys lo P hi
 | [],lo,hi,h,e=>h
 | r :: rs,lo,hi,h,e=>by
  have l:=Runs.le h.2.2.2;exact ⟨h.1,h.2.1,h.2.2.1.congr fun k k1 k2=>e k k1 (by omega),Runs.congr h.2.2.2 fun k k1 k2=>e k (by omega) k2⟩
theorem Runs.app:∀ {P R:List (Nat × Nat × Nat)} {lo hi:Nat},Runs κ xs lo (P ++ R) hi↔∃ mid,Runs κ xs lo P mid/\Runs κ xs mid R hi
 | [],R,lo,hi=>⟨fun h=>⟨lo,rfl,h⟩,fun h9=>by
   obtain ⟨mid,e,h⟩:=h9;have e:lo=mid:=e;subst e;exact h⟩
 | r :: rs,R,lo,hi=>by
  constructor
  ·rintro ⟨h1,h2,h3,h4⟩;obtain ⟨mid,a,b⟩:=Runs.app.mp h4;exact ⟨mid,⟨h1,h2,h3,a⟩,b⟩
  ·rintro ⟨mid,⟨h1,h2,h3,a⟩,b⟩;exact ⟨h1,h2,h3,Runs.app.mpr ⟨mid,a,b⟩⟩
theorem Runs.power (pw:Nat):∀ {P:List (Nat × Nat × Nat)} {lo hi:Nat} (i:Nat),Runs κ xs lo P hi->Runs κ xs lo (P.modify i fun x=>(x.1,x.2.1,pw)) hi
 | [],lo,hi,i,h=>by
  have e:([]:List (Nat × Nat × Nat)).modify i (fun x=>(x.1,x.2.1,pw))=[]:=by cases i <;> rfl
  rw [e];exact h
 | r :: rs,lo,hi,0,h=>⟨h.1,h.2.1,h.2.2.1,h.2.2.2⟩
 | r :: rs,lo,hi,i + 1,h=>⟨h.1,h.2.1,h.2.2.1,Runs.power pw i h.2.2.2⟩
theorem Runs.merge {A B:List (Nat × Nat × Nat)} {sa na p sb nb q lo hi:Nat} (h:Runs κ xs lo (A ++ (sa,na,p) :: (sb,nb,q) :: B) hi) (hs:SOn κ ys sa (sb + nb)) (e:∀ k,k < sa\/sb + nb<=k->ys[k]?=xs[k]?):Runs κ ys lo (A ++ (sa,na + nb,p) :: B) hi:=by
 obtain ⟨mid,a,⟨e1,n1,s1,⟨e2,n2,s2,b⟩⟩⟩:=Runs.app.mp h;dsimp only at e1 n1 s1 e2 n2 s2 b;subst e1;subst e2;refine Runs.app.mpr ⟨sa,a.congr fun k _ k2=>e k (.inl k2),rfl,?_,?_,?_⟩
 ·show 1<=na + nb;omega
 ·show SOn κ ys sa (sa + (na + nb));rw [<- Nat.add_assoc];exact hs
 ·show Runs κ ys (sa + (na + nb)) B hi;rw [<- Nat.add_assoc];exact b.congr fun k k1 _=>e k (.inr k1)
theorem Runs.parts {A B:List (Nat × Nat × Nat)} {sa na p sb nb q lo hi:Nat} (h:Runs κ xs lo (A ++ (sa,na,p) :: (sb,nb,q) :: B) hi):sb=sa + na/\1<=na/\1<=nb/\SOn κ xs sa sb/\SOn κ xs sb (sb + nb)/\sb + nb<=hi:=by
 obtain ⟨mid,a,⟨e1,n1,s1,⟨e2,n2,s2,b⟩⟩⟩:=Runs.app.mp h;dsimp only at e1 n1 s1 e2 n2 s2 b;subst e1;subst e2;exact ⟨rfl,n1,n2,s1,s2,Nat.le_trans (Nat.le_add_right _ _) b.le⟩
theorem split_at {α:Type} {P:List α} {i:Nat} (h:i + 1 < P.length):∃ A B x y,P=A ++ x :: y :: B/\A.length=i:=by
 refine ⟨P.take i,P.drop (i + 1 + 1),P[i],P[i + 1],?_,by rw [length_take];omega⟩;rw [<- drop_eq_getElem_cons h,<- drop_eq_getElem_cons (by omega),take_append_drop]
theorem J33 {P:Array (Nat × Nat × Nat)} {A B:List (Nat × Nat × Nat)} {x y v:Nat × Nat × Nat} (h:P.toList=A ++ x :: y :: B):((P.setIfInBounds A.length v).eraseIdxIfInBounds (A.length + 1)).toList=A ++ v :: B:=by
 have hl:P.size=A.length + (B.length + 2):=by rw [<- length_toList,h];simp
 have e:(P.setIfInBounds A.length v).toList=A ++ v :: y :: B:=by
  rw [Array.toList_setIfInBounds,h,List.set_append_right _ _ (Nat.le_refl _),Nat.sub_self];rfl
 have hlt:A.length + 1 < (P.setIfInBounds A.length v).size:=by rw [Array.size_setIfInBounds,hl];omega
 rw [Array.eraseIdxIfInBounds,dif_pos hlt,Array.toList_eraseIdx,e,List.eraseIdx_append_of_length_le (by omega),show A.length + 1 - A.length=1 by omega];rfl
end
section
variable {prog:Program} {w:World} {A:Around} {E:Value->Shared->Prop} {s:Shared} {a₀:Array Keyed} {κ:KeyKind} {sk:SortKind}
open KeyOrd
theorem J1l {st:SortSt} {i hi:Nat} {Q:Bool->SortSt->Prop} (C:Cmp prog w A s κ sk a₀) (hB:SB sk a₀ st) (hr:Runs κ (arrOf st) 0 (pendingOf st).toList hi) (hh:hi<=a₀.size) (hi2:i + 1 < (pendingOf st).size)
  (h:∀ st',SB sk a₀ st'->Runs κ (arrOf st') 0 (pendingOf st').toList hi->(pendingOf st').size + 1=(pendingOf st).size->(∀ k,hi<=k->(arrOf st')[k]?=(arrOf st)[k]?)->Q true st'):wpS (model prog w) A E s (mergeAt' i) Q st:=by
 obtain ⟨L,B,⟨sa,na,p⟩,⟨sb,nb,q⟩,eP,eL⟩:=split_at (P:=(pendingOf st).toList) (i:=i) (by rw [length_toList];exact hi2);subst eL;rw [eP] at hr;obtain ⟨e1,n1,n2,s1,s2,lz⟩:=hr.parts;have g1:(pendingOf st)[L.length]?=some (sa,na,p):=by
  rw [<- getElem?_toList,eP,getElem?_append_right (Nat.le_refl _),Nat.sub_self];rfl
 have g2:(pendingOf st)[L.length + 1]?=some (sb,nb,q):=by
  rw [<- getElem?_toList,eP,getElem?_append_right (by omega),show L.length + 1 - L.length=1 by omega];rfl
 refine wp_mergeAt C hB g1 g2 e1 n1 n2 (by omega) s1 s2 fun st' b1 b2 b3 b4=>h st' b1 ?_ ?_ fun k hk=>b3 k (.inr (by omega))
 ·rw [b2,J33 eP];exact hr.merge b4 b3
 ·have l1:(pendingOf st').toList.length=(L ++ (sa,na + nb,p) :: B).length:=by rw [b2,J33 eP]
  have l2:(pendingOf st).toList.length=(L ++ (sa,na,p) :: (sb,nb,q) :: B).length:=by rw [eP]
  rw [length_toList,length_append,length_cons] at l1 l2;rw [length_cons] at l2;omega
theorem wp_sortRuns {st:SortSt} {Q:Unit->SortSt->Prop} (C:Cmp prog w A s κ sk a₀) (hB:SB sk a₀ st) (hp:pendingOf st=#[]) (h:∀ st',SB sk a₀ st'->SOn κ (arrOf st') 0 a₀.size->Q () st'):wpS (model prog w) A E s sortRuns' Q st:=by
 rw [sortRuns'_eq];refine wpS_bind (wpS_get ?_);dsimp only;simp only [hB.size];refine wpS_bind (wpS_mono (wpS_forRange (I:=fun x c st'=>SB sk a₀ st'/\∃ lo,c=(none,lo)/\x<=lo/\lo<=a₀.size/\Runs κ (arrOf st') 0 (pendingOf st').toList lo)
  (Q:=fun c st'=>SB sk a₀ st'/\c=(none,a₀.size)/\Runs κ (arrOf st') 0 (pendingOf st').toList a₀.size) ?step ?fin ⟨hB,0,rfl,by omega,by omega,by rw [hp];rfl⟩) ?post)
 case fin =>
  rintro c st' ⟨b,lo,rfl,l1,l2,r⟩;have e:lo=a₀.size:=by omega
  subst e;exact ⟨b,rfl,r⟩
 case post =>
  rintro c st1 ⟨b1,rfl,r1⟩;dsimp only;refine wpS_bind (wpS_mono (wpS_forRange (I:=fun x c st'=>c=(none,())/\SB sk a₀ st'/\Runs κ (arrOf st') 0 (pendingOf st').toList a₀.size/\(pendingOf st').size<=a₀.size + 1 - x)
   (Q:=fun c st'=>c=(none,())/\SB sk a₀ st'/\Runs κ (arrOf st') 0 (pendingOf st').toList a₀.size/\(pendingOf st').size<=1) ?s2 ?f2 ⟨rfl,b1,r1,?i2⟩) ?p2)
  case i2 =>
   have:=r1.le;rw [length_toList] at this;omega
  case f2 =>
   rintro c st2 ⟨rfl,b2,r2,z2⟩;exact ⟨rfl,b2,r2,by omega⟩
  case p2 =>
   rintro c st2 ⟨rfl,b2,r2,z2⟩;dsimp only;refine wpS_pure (h st2 b2 ?_);have z3:(pendingOf st2).toList.length<=1:=by rw [length_toList];exact z2
   match hP:(pendingOf st2).toList,z3 with
   | [],_ =>
    rw [hP] at r2;have r2:0=a₀.size:=r2;exact fun i j _ _ hj=>by omega
   | [r],_ =>
    rw [hP] at r2;obtain ⟨_,_,so,e⟩:=r2;have e:0 + r.2.1=a₀.size:=e;rw [e] at so;exact so
   | _ :: _ :: _,z3=>exact absurd z3 (by simp)
  case s2 =>
   rintro x c st2 _ hx ⟨rfl,b2,r2,z2⟩;refine wpS_bind (wpS_get (Jc (fun d=>wpS_pure ⟨rfl,b2,r2,d⟩) fun d=>?_));refine wpS_bind (J1l C b2 r2 (Nat.le_refl _) ?_ fun st3 b3 r3 z3 _=>wpS_pure ⟨rfl,b3,r3,by omega⟩);by_cases c:(pendingOf st2).size - 2 > 0
   ·rw [if_pos c];split <;> omega
   ·rw [if_neg c,if_neg (by simp)];omega
 case step =>
  rintro x c st1 _ hx ⟨b1,lo,rfl,l1,l2,r1⟩;dsimp only;refine Jc (fun d=>wpS_pure ⟨b1,?_,?_⟩) fun d=>?_
  ·have e:lo=a₀.size:=by omega
   rw [e]
  ·have e:lo=a₀.size:=by omega
   rw [e] at r1;exact r1
  refine wpS_bind (wp_countRun C (by omega) (by omega) b1 fun m st2 b2 p2 k2 m1 m2 s2=>?_);have r2:Runs κ (arrOf st2) 0 (pendingOf st2).toList lo:=by rw [p2];exact r1.congr fun k _ hk=>k2 k hk
  dsimp only;refine Jc (fun c=>wpS_bind (wpS_lift (wpAny_rule ⟨rfl,wpS_bind (wp_bin C (by omega) (by omega) b2 s2 fun st3 b3 p3 k3 s3=>?_)⟩))) fun c=>?_;have r3:Runs κ (arrOf st3) 0 (pendingOf st3).toList lo:=by rw [p3];exact r2.congr fun k _ hk=>k3 k hk
  have n1:1<=min (a₀.size - lo) (minRun' a₀.size a₀.size 0):=by omega
  have n2:lo + min (a₀.size - lo) (minRun' a₀.size a₀.size 0)<=a₀.size:=by omega
  rw [if_neg (by simp)];generalize min (a₀.size - lo) (minRun' a₀.size a₀.size 0)=n at s3 n1 n2 ⊢
  rotate_left
  have r3:=r2;have s3:=s2;have b3:=b2;have n2:lo + m<=a₀.size:=by omega
  generalize st2=st3 at r3 s3 b3 ⊢;have n1:=m1;generalize m=n at s3 n1 n2 ⊢
  all_goals
   refine wpS_bind (wpS_get ?_);have fin:∀ st4,SB sk a₀ st4->Runs κ (arrOf st4) 0 (pendingOf st4).toList lo->SOn κ (arrOf st4) lo (lo + n)->SB sk a₀ (setPending st4 ((pendingOf st4).push (lo,n,0)))/\∃ lo',((none:Option Unit),lo + n)=(none,lo')/\x + 1<=lo'/\lo'<=a₀.size/\Runs κ (arrOf st4) 0 ((pendingOf st4).push (lo,n,0)).toList lo':=fun st4 b4 r4 s4 =>
    ⟨⟨b4.perm,b4.kind,b4.failed⟩,lo + n,rfl,by omega,n2,by rw [toList_push];exact Runs.app.mpr ⟨lo,r4,rfl,n1,s4,rfl⟩⟩
   cases hb:(pendingOf st3).back? with
   | none=>exact wpS_bind (wpS_modify (wpS_pure (fin st3 b3 r3 s3)))
   | some v =>
    obtain ⟨v1,v2,v3⟩:=v;dsimp only;refine wpS_bind (wpS_mono (wpS_forRange (I:=fun x c st'=>c=(none,())/\SB sk a₀ st'/\Runs κ (arrOf st') 0 (pendingOf st').toList lo/\SOn κ (arrOf st') lo (lo + n))
     (Q:=fun c st'=>c=(none,())/\SB sk a₀ st'/\Runs κ (arrOf st') 0 (pendingOf st').toList lo/\SOn κ (arrOf st') lo (lo + n)) ?_ (fun c st' q=>q) ⟨rfl,b3,r3,s3⟩) ?_)
    ·rintro x c st4 _ hx ⟨rfl,b4,r4,s4⟩;refine wpS_bind (wpS_get ?_);by_cases c:(pendingOf st4).size > 1
     ·rw [if_pos c,getElem?_pos (pendingOf st4) ((pendingOf st4).size - 2) (by omega)];dsimp only;refine Jc (fun _=>wpS_pure ⟨rfl,b4,r4,s4⟩) fun _=>wpS_bind (J1l C b4 r4 l2 (by omega) fun st5 b5 r5 _ k5=>wpS_pure ⟨rfl,b5,r5,s4.congr fun k k1 _=>k5 k k1⟩)
     ·rw [if_neg c];exact wpS_pure ⟨rfl,b4,r4,s4⟩
    ·rintro c st4 ⟨rfl,b4,r4,s4⟩;dsimp only;refine wpS_bind (wpS_modify (wpS_bind (wpS_modify (wpS_pure (fin (setPending st4 _) ⟨b4.perm,b4.kind,b4.failed⟩ ?_ s4)))));show Runs κ (arrOf st4) 0 ((pendingOf st4).modify _ _).toList lo;rw [Array.toList_modify];exact r4.power _ _
end
end Tm
namespace Tm
open PySem PyProof.Rows
def lexB:List Int->List Int->Bool
 | _,[]=>false
 | [],_ :: _=>true
 | a :: as,b :: bs=>if a=b then lexB as bs else decide (a < b)
theorem lex_irr:∀ a,lexB a a=false
 | []=>rfl
 | a :: as=>by
  show (if a=a then lexB as as else decide (a < a))=false;rw [if_pos rfl];exact lex_irr as
theorem lex_tot:∀ a b,lexB a b=false->lexB b a=false->a=b
 | [],[],_,_=>rfl
 | [],_ :: _,h,_=>by cases h
 | _ :: _,[],_,h=>by cases h
 | a :: as,b :: bs,h,g=>by
  have h:(if a=b then lexB as bs else decide (a < b))=false:=h;have g:(if b=a then lexB bs as else decide (b < a))=false:=g;by_cases e:a=b
  ·subst e;rw [if_pos rfl] at h g;rw [lex_tot as bs h g]
  ·rw [if_neg e] at h;rw [if_neg (Ne.symm e)] at g;have h:=of_decide_eq_false h;have g:=of_decide_eq_false g;omega
theorem lex_neg:∀ a b c,lexB a c=true->lexB a b=true\/lexB b c=true
 | [],_,[],h=>by cases h
 | _ :: _,_,[],h=>by cases h
 | [],[],_ :: _,_=>.inr rfl
 | [],_ :: _,_ :: _,_=>.inl rfl
 | _ :: _,[],_ :: _,_=>.inr rfl
 | a :: as,b :: bs,c :: cs,h=>by
  have h:(if a=c then lexB as cs else decide (a < c))=true:=h;show (if a=b then lexB as bs else decide (a < b))=true\/(if b=c then lexB bs cs else decide (b < c))=true;by_cases e:a=c
  ·subst e;rw [if_pos rfl] at h;by_cases e2:a=b
   ·subst e2;rw [if_pos rfl,if_pos rfl];exact lex_neg as bs cs h
   ·rw [if_neg e2,if_neg (Ne.symm e2),decide_eq_true_iff,decide_eq_true_iff];omega
  ·rw [if_neg e,decide_eq_true_iff] at h;by_cases e2:a=b
   ·subst e2;rw [if_neg e];exact .inr (decide_eq_true h)
   ·rw [if_neg e2];by_cases e3:b=c
    ·subst e3;exact .inl (decide_eq_true h)
    ·rw [if_neg e3,decide_eq_true_iff,decide_eq_true_iff];omega
theorem lex_asym (a b:List Int) (h:lexB a b=true):lexB b a=false:=by
 match a,b,h with
 | [],b :: bs,_=>rfl
 | a :: as,b :: bs,h =>
  have h:(if a=b then lexB as bs else decide (a < b))=true:=h;show (if b=a then lexB bs as else decide (b < a))=false;by_cases e:a=b
  ·subst e;rw [if_pos rfl] at h ⊢;exact lex_asym as bs h
  ·rw [if_neg e,decide_eq_true_iff] at h;rw [if_neg (Ne.symm e)];exact decide_eq_false (by omega)
theorem lex_trans (a b c:List Int) (h:lexB a b=true) (g:lexB b c=true):lexB a c=true:=by
 rcases lex_neg a c b h with q | q
 ·exact q
 ·rw [lex_asym b c g] at q;cases q
def keyAt (h:Heap):Value->Option (List Int)
 | .ref a=>(h.get? a).bind fun o=>match o.data with
  | .seq xs _=>some (xs.toList.map numOf)
  | _=>none
 | _=>none
def J1r (h:Heap):KeyKind where
 α:=List Int
 blt:=lexB
 irrefl:=lex_irr
 trans:=lex_trans
 negTrans:=lex_neg
 total:=lex_tot
 keyOf:=keyAt h
 dflt:=[]
def RowAt (h:Heap) (v:Value) (t:List Int):Prop:=∃ a o us n,v=.ref a/\h.get? a=some o/\o.cls=.type "tuple"/\o.data=.seq us n/\IntsAre us.toList t
theorem RowAt.key {h:Heap} {v:Value} {t:List Int} (r:RowAt h v t):keyAt h v=some t:=by
 obtain ⟨a,o,us,n,rfl,ho,_,hd,hi⟩:=r;show (h.get? a).bind _=_;rw [ho];show (match o.data with | .seq xs _=>some (xs.toList.map numOf) | _=>none)=some t;rw [hd];show some (us.toList.map numOf)=some t;rw [hi.nums]
theorem RowAt.ext {h h':Heap} {v:Value} {t:List Int} (r:RowAt h v t) (k:∀ b o,h.get? b=some o->h'.get? b=some o):RowAt h' v t:=by
 obtain ⟨a,o,us,n,e,ho,q⟩:=r;exact ⟨a,o,us,n,e,k _ _ ho,q⟩
section
variable {prog:Program} {w:World} {A:Around} {E:Value->Shared->Prop} {s:Shared}
theorem lex_run {Q:Bool->Shared->Prop}:∀ {us vs:List Value} {x y:List Int} (i:Nat),IntsAre us x->IntsAre vs y->Q (lexB x y) s->PySem.W.KatLex prog w A true (decide (us.length < vs.length)) Q (us.zip vs) i s
 | _,_,_,_,i,.nil,.nil,h=>h
 | _,_,_,_,i,.nil,.cons m u _,h=>by
  have h:Q true s:=h;have e:∀ l:List Value,decide (([]:List Value).length < (Value.int m u :: l).length)=true:=fun l=>decide_eq_true (Nat.succ_pos _);rw [e];exact h
 | _,_,_,_,i,.cons m u _,.nil,h=>by
  have h:Q false s:=h;have e:∀ l:List Value,decide ((Value.int m u :: l).length < ([]:List Value).length)=false:=fun l=>decide_eq_false (Nat.not_lt_zero _);rw [e];exact h
 | _,_,_,_,i,.cons (vs:=us) (ns:=xs) m t hu,.cons (vs:=vs) (ns:=ys) n u hv,h=>by
  have h:Q (if m=n then lexB xs ys else decide (m < n)) s:=h;rw [List.zip_cons_cons];refine PySem.W.kat_cons (wpAny_eqBool_int ?_);have el:decide ((Value.int m t :: us).length < (Value.int n u :: vs).length)=decide (us.length < vs.length):=by
   rw [length_cons,length_cons]
   congr 1
   exact propext ⟨Nat.lt_of_succ_lt_succ,Nat.succ_lt_succ⟩
  by_cases e:m=n
  ·have eb:(m == n)=true:=by simpa using e
   rw [if_pos e] at h;rw [eb,el];exact PySem.W.kat_yes (lex_run (i + 1) hu hv h)
  ·have eb:(m == n)=false:=by simpa using e
   rw [if_neg e] at h;rw [eb,el];refine PySem.W.kat_no ?_
   cases c:(true && i == 0) with
   | true=>exact oneLt_int h
   | false=>exact PySem.W.kat_one _ _ (wpAny_lt_int h)
theorem row_cmp {vs:List Value} (hr:∀ v∈vs,∃ t,RowAt s.heap v t):Cmp prog w A s (J1r s.heap) (tuples' true) (pairsOf vs):=⟨fun x y hx hy E Q h=>by
 have mm:∀ z,z∈(pairsOf vs).toList->z.1∈vs:=fun z hz=>by
  rw [pairsOf_toList] at hz;exact (mem_zip_self hz).2
 obtain ⟨tx,rx⟩:=hr _ (mm x hx);obtain ⟨ty,ry⟩:=hr _ (mm y hy);have ex:kv (J1r s.heap) x=tx:=by show (keyAt s.heap x.1).getD []=tx;rw [rx.key];rfl
 have ey:kv (J1r s.heap) y=ty:=by show (keyAt s.heap y.1).getD []=ty;rw [ry.key];rfl
 rw [ex,ey] at h;obtain ⟨a,o,us,n,e1,ho,_,hd,hi⟩:=rx;obtain ⟨b,o2,us2,n2,e2,ho2,_,hd2,hi2⟩:=ry;rw [e1,e2];refine PySem.W.kat_lt ho hd ho2 hd2 ?_;rw [<- length_toList,<- length_toList];exact lex_run 0 hi hi2 h⟩
theorem row_kind {vs:List Value} (h2:2<=vs.length) (hr:∀ v∈vs,∃ t,t≠[]/\RowAt s.heap v t) {Q:SortKind->Shared->Prop} (h:Q (tuples' true) s):wpAny (model prog w) A (keyKind' vs.toArray) Q E s:=by
 have fs:∀ (vs:List Value),(∀ v∈vs,∃ t,t≠[]/\RowAt s.heap v t)->∃ fs:List Value,PySem.W.KatTups s.heap vs fs/\fs.length=vs.length/\∀ f∈fs,∃ n t,f=.int n t:=by
  intro vs
  induction vs with
  | nil=>exact fun _=>⟨[],.nil,rfl,fun f hf=>by cases hf⟩
  | cons v vs ih =>
   intro hv;obtain ⟨fs,k,l,ki⟩:=ih fun v hv'=>hv v (mem_cons_of_mem _ hv');obtain ⟨t,nt,a,o,us,n,e,ho,hc,hd,hi⟩:=hv v (mem_cons_self ..);subst e
   cases hus:us.toList with
   | nil=>rw [hus] at hi;cases hi;exact absurd rfl nt
   | cons u ur =>
    have h0:us[0]?=some u:=by rw [<- getElem?_toList,hus];rfl
    rw [hus] at hi
    cases hi with
    | cons m tk _=>exact ⟨.int m tk :: fs,.cons ho hc hd h0 k,by rw [length_cons,length_cons,l],fun f hf=>by
      rcases mem_cons.mp hf with rfl | q
      ·exact ⟨m,tk,rfl⟩
      ·exact ki f q⟩
 obtain ⟨fs,k,l,ki⟩:=fs vs hr;refine PySem.W.kat_kind (T:=.type "int") k (by omega) (fun v hv=>?_) rfl h;obtain ⟨n,t,rfl⟩:=ki v hv;exact PySem.W.Looks.of_pure rfl
end
end Tm
namespace Tm
open PySem PyProof.Rows
section
variable {prog:Program} {w:World} {A:Around} {E:Value->Shared->Prop} {s:Shared}
def Jj (h:Heap) (a:Addr) (vs:List Value):Heap:=((h.update a (Obj.mapSeq fun _=>#[])).push (seqObj "tuple" vs.toArray 0)).push (seqObj "list" #[] 0)
theorem before_keep {h:Heap} {a b:Addr} {vs:List Value} {o:Obj} (e:h.get? b=some o) (ne:b≠a):(Jj h a vs).get? b=some o:=by
 unfold Jj;refine get?_push_of_some _ (get?_push_of_some _ ?_);exact ((Heap.SameBut.update h a _).2 b ne).trans e
theorem out_ok {κ:KeyKind} {vs:List Value} {xs:Array Keyed} (hp:xs.Perm (pairsOf vs)) (hs:SOn κ xs 0 (pairsOf vs).size) :
  (xs.map (·.2)).toList.Perm vs/\(xs.map (·.2)).toList.Pairwise fun x y=>κ.kle ((κ.keyOf x).getD κ.dflt) ((κ.keyOf y).getD κ.dflt):=by
 have lp:=Array.perm_iff_toList_perm.mp hp;have e12:∀ z∈xs.toList,z.1=z.2:=fun z hz=>by
  have:=lp.mem_iff.mp hz;rw [pairsOf_toList] at this;exact (mem_zip_self this).1
 refine ⟨?_,?_⟩
 ·rw [Array.toList_map];have:=lp.map (·.2);rw [pairsOf_toList] at this;have e:(vs.zip vs).map (·.2)=vs:=by rw [List.map_snd_zip (Nat.le_refl _)]
  rwa [e] at this
 ·rw [Array.toList_map];refine pairwise_map.mpr (List.pairwise_iff_getElem.mpr fun i j hi hj hij=>?_);rw [length_toList] at hi hj;have sz:=hp.size_eq;have:=hs i j (Nat.zero_le _) (by omega) (by omega);rw [KK_at (getElem?_pos xs i hi),KK_at (getElem?_pos xs j hj)] at this;have h1:=e12 xs[i] (by simp);have h2:=e12 xs[j] (by simp);rw [getElem_toList,getElem_toList,<- h1,<- h2];exact this
theorem J38 {a:Addr} {vs:List Value} {n:Nat} {P:Fin->Shared->Prop} {κ:KeyKind} {sk:SortKind} (ho:s.heap.get? a=some (seqObj "list" vs.toArray n)) (hz:vs.length<=sizeLine)
  (hk:2<=vs.length->∀ (Q:SortKind->Shared->Prop),Q sk { s with heap:=Jj s.heap a vs }->wpAny (model prog w) A (keyKind' vs.toArray) Q E { s with heap:=Jj s.heap a vs })
  (C:Cmp prog w A { s with heap:=Jj s.heap a vs } κ sk (pairsOf vs))
  (h:∀ (out:Array Value),out.toList.Perm vs->out.toList.Pairwise (fun x y=>κ.kle ((κ.keyOf x).getD κ.dflt) ((κ.keyOf y).getD κ.dflt))->P (.done (.ret .none)) { s with heap:=sortedHeap s.heap a vs out }) :
  wpAny (model prog w) A (Builtin.«list.sort» ⟨[.ref a],[]⟩) P E s:=by
 rw [list_sort_plain];have ha:a < s.heap.objs.size:=lt_size ho;refine wpAny_bind (listItems_at ho rfl ?_);refine wpAny_bind (listUpdate_at ho rfl ?_ (by rw [size_toArray];exact hz) (Nat.zero_le _));obtain ⟨e1,ho1⟩:∃ e1,(s.heap.update a (Obj.mapSeq fun _=>#[])).get? a=some (seqObj "list" #[] e1):=⟨_,get?_update_seq ho (fun _=>#[])⟩;refine wpAny_bind (seqEpoch_at ho1 rfl ?_);refine wpAny_bind (wpAny_newTuple ?_ (by show vs.length<=_;exact hz));refine wpAny_bind (wpAny_newList ?_ (Nat.zero_le _));refine wpAny_holding ?_;have ho6:(Jj s.heap a vs).get? a=some (seqObj "list" #[] e1):=by
  unfold Jj;rw [Heap.get?_push_ne _ _ _ (by rw [size_push',Heap.size_update];exact Nat.ne_of_lt (Nat.lt_succ_of_lt ha)),Heap.get?_push_ne _ _ _ (by rw [Heap.size_update];exact Nat.ne_of_lt ha)];exact ho1
 show wpAny (model prog w) A _ P E { s with heap:=Jj s.heap a vs };dsimp only;have fin:∀ st':SortSt,(arrOf st').Perm (pairsOf vs)->SOn κ (arrOf st') 0 (pairsOf vs).size->P (.done (.ret .none)) { s with heap:=sortedHeap s.heap a vs ((arrOf st').map (·.2)) }:=fun st' hp hs=>by
  obtain ⟨q1,q2⟩:=out_ok hp hs;exact h _ q1 q2
 have hsz:vs.toArray.size=vs.length:=by simp
 by_cases h2:vs.toArray.size < 2
 ·rw [if_pos h2,if_pos h2];refine wpAny_bind (wpAny_pure ?_);rw [StateT.run_pure];refine wpAny_bind (wpAny_pure ?_);dsimp only;refine wpAny_bind (seqEpoch_at ho6 rfl ?_);refine wpAny_bind (listUpdate_at ho6 rfl ?_ (Nat.zero_le _) (by rw [Array.size_map];show (pairsOf vs).size<=_;rw [pairsOf_size];omega));simp only [bne_self_eq_false,Bool.false_eq_true,if_false];refine wpAny_pure (fin (SortSt.mk' general' (vs.toArray.zip vs.toArray) #[] 7 none) (Array.Perm.refl _) ?_);intro i j _ hij hj;have:i=j:=by rw [pairsOf_size] at hj;omega
  subst this;exact KeyOrd.kle_refl _
 ·rw [if_neg h2,if_neg h2];refine wpAny_bind (hk (by omega) _ ?_);refine wpAny_bind (wpAny_mono (wp_sortRuns (st:=SortSt.mk' sk (pairsOf vs) #[] 7 none) (Q:=fun _ st'=>(arrOf st').Perm (pairsOf vs)/\failedOf st'=none/\SOn κ (arrOf st') 0 (pairsOf vs).size) C ⟨Array.Perm.refl _,rfl,rfl⟩ rfl fun st' b1 b2=>⟨b1.perm,b1.failed,b2⟩) ?_ fun _ _ e=>e);rintro ⟨⟨⟩,st'⟩ s' ⟨rfl,hp,hf,hs⟩;dsimp only;refine wpAny_bind (seqEpoch_at ho6 rfl ?_);refine wpAny_bind (listUpdate_at ho6 rfl ?_ (Nat.zero_le _) (by refine Nat.le_trans (Nat.le_of_eq ((Array.size_map ..).trans (hp.size_eq.trans (pairsOf_size _)))) ?_;omega));rw [hf];simp only [bne_self_eq_false,Bool.false_eq_true,if_false];exact wpAny_pure (fin st' hp hs)
theorem sorted_of {T:Heap} {vs:List Value} {Q:Shared->Prop} {κ:Heap->KeyKind} {sk:SortKind} (hz:vs.length<=sizeLine)
  (hk:∀ (A:Around) (E:Value->Shared->Prop) (s':Shared),(∀ b o,T.get? b=some o->s'.heap.get? b=some o)->2<=vs.length->∀ (Q:SortKind->Shared->Prop),Q sk s'->wpAny (model prog w) A (keyKind' vs.toArray) Q E s')
  (C:∀ (A:Around) (s':Shared),(∀ b o,T.get? b=some o->s'.heap.get? b=some o)->Cmp prog w A s' (κ T) sk (pairsOf vs)) {t':Tok}
  (h:∀ (out:Array Value),out.toList.Perm vs->out.toList.Pairwise (fun x y=>(κ T).kle (((κ T).keyOf x).getD (κ T).dflt) (((κ T).keyOf y).getD (κ T).dflt))->Q { s with heap:=sortedHeap (T.push (seqObj "list" vs.toArray 0)) T.objs.size vs out,toks:=t' }) :
  wpAny (model prog w) A (call (.builtin "list.sort") [.ref T.objs.size]) (fun _ s'=>Q s') E { s with heap:=T.push (seqObj "list" vs.toArray 0),toks:=t' }:=by
 have hoL:(T.push (seqObj "list" vs.toArray 0)).get? T.objs.size=some (seqObj "list" vs.toArray 0):=get?_push_size _ rfl;have keep:∀ b o,T.get? b=some o->(Jj (T.push (seqObj "list" vs.toArray 0)) T.objs.size vs).get? b=some o:=fun b o e=>before_keep (get?_push_of_some _ e) (Nat.ne_of_lt (lt_size e));exact wpAny_call_entry slot_list_sort ⟨_,hoL,rfl⟩ entry_list_sort (J38 hoL hz (fun h2 Q q=>hk _ _ _ keep h2 Q q) (C _ _ keep) fun out a1 a2=>⟨_,rfl,h out a1 a2⟩) (args_list_sort _)
end
end Tm
namespace L2
open PySem PySem.Spec PyProof.Rows Tm
structure TupsAt (H:Hp) (ys:List V) (ts:List (List Int)):Prop where
 len:ys.length=ts.length
 at_:∀ (i:Nat) (t:List Int),ts[i]?=some t->∃ q,ys[i]?=some (.ref q)/\H q=some (.tup (t.map V.int))
theorem TupsAt.same {H H':Hp} {ys:List V} {ts:List (List Int)} (h:TupsAt H ys ts) (s:Same H H'):TupsAt H' ys ts:=⟨h.len,fun i t e=>by obtain ⟨q,e1,e2⟩:=h.at_ i t e;exact ⟨q,e1,s _ _ e2⟩⟩
def refV:Value->V
 | .ref q=>.ref q
 | _=>.non
theorem J2j:∀ {out:List Value},(∀ v∈out,∃ q,v=.ref q)->Vals (out.map refV) out
 | [],_=>.nil
 | v :: out,h=>by
  obtain ⟨q,rfl⟩:=h v (mem_cons_self ..);exact .cons rfl (J2j fun v hv=>h v (mem_cons_of_mem _ hv))
section
variable {X:Cx}
theorem tups_out {pins:List (Addr × Obj)} {σ:St} {H:Hp} {s:Shared} {ys:List V} {ts:List (List Int)} {its:List Value} (I:Inv X pins σ H s) (tu:TupsAt H ys ts) (r:Vals ys its) :
  (∀ v∈its,∃ t∈ts,RowAt s.heap v t/\∃ q,v=.ref q/\H q=some (.tup (t.map V.int)))/\ts=its.map fun v=>(keyAt s.heap v).getD []:=by
 have at_:∀ (i:Nat) (v:Value),its[i]?=some v->∃ t,ts[i]?=some t/\RowAt s.heap v t/\∃ q,v=.ref q/\H q=some (.tup (t.map V.int)):=fun i v hv=>by
  have hi:=(List.getElem?_eq_some_iff.mp hv).1;have hl:=r.length;have hlt:i < ts.length:=by rw [<- tu.len,hl];exact hi
  obtain ⟨q,e1,e2⟩:=tu.at_ i _ (List.getElem?_eq_getElem hlt);obtain ⟨u,hu,ru⟩:=r.get e1;obtain rfl:u=v:=Option.some.inj (hu.symm.trans hv);cases ru;obtain ⟨us,rv,⟨o,ho,hc,n,hd⟩,_⟩:=I.tuple (SqT.of e2);exact ⟨_,List.getElem?_eq_getElem hlt,⟨q,o,us.toArray,n,rfl,ho,hc,hd,by simpa using Je rv⟩,q,rfl,e2⟩
 refine ⟨fun v hv=>?_,List.ext_getElem? fun i=>?_⟩
 ·obtain ⟨i,hi,e⟩:=getElem_of_mem hv;obtain ⟨t,h1,h2,h3⟩:=at_ i v (by rw [List.getElem?_eq_getElem hi,e])
  exact ⟨t,List.mem_of_getElem? h1,h2,h3⟩
 ·rw [getElem?_map];by_cases c:i < its.length
  ·obtain ⟨t,h1,h2,_⟩:=at_ i _ (List.getElem?_eq_getElem c)
   rw [h1,List.getElem?_eq_getElem c];show some t=some ((keyAt s.heap its[i]).getD []);rw [h2.key];rfl
  ·rw [List.getElem?_eq_none (by rw [<- tu.len,r.length];omega),List.getElem?_eq_none (by omega)];rfl
theorem sortT_fin {pins:List (Addr × Obj)} {σ:St} {H:Hp} {s s2:Shared} {T:Heap} {ys:List V} {ts:List (List Int)} {its:List Value} {Q:VK} (I:Inv X pins σ H s) (tu:TupsAt H ys ts) (r:Vals ys its) (hz:ys.length<=sizeLine) (out:Array Value) (a1:out.toList.Perm its)
  (a2:out.toList.Pairwise fun x y=>(J1r s.heap).kle (((J1r s.heap).keyOf x).getD []) (((J1r s.heap).keyOf y).getD []))
  (q:∀ l zs ts',H l=none->ts'.Perm ts->ts'.Pairwise (fun a b=>lexB b a=false)->TupsAt H zs ts'->Q (.ref l) (upd H l (.lst zs))) :
  ∃ zs,Vals zs out.toList/\zs.length<=sizeLine/\∀ l,H l=none->Q (.ref l) (upd H l (.lst zs)):=by
 obtain ⟨w1,w2⟩:=tups_out I tu r;have rf:∀ v∈out.toList,∃ t∈ts,RowAt s.heap v t/\∃ q,v=.ref q/\H q=some (.tup (t.map V.int)):=fun v hv=>w1 v (a1.mem_iff.mp hv);have rr:∀ v∈out.toList,∃ q,v=.ref q:=fun v hv=>by obtain ⟨_,_,_,q,e,_⟩:=rf v hv;exact ⟨q,e⟩
 refine ⟨out.toList.map refV,J2j rr,by rw [length_map,a1.length_eq,<- r.length];exact hz,fun l hl=>q l _ (out.toList.map fun v=>(keyAt s.heap v).getD []) hl ?_ ?_ ⟨by rw [length_map,length_map],fun i t e=>?_⟩⟩
 ·rw [w2];exact a1.map _
 ·exact pairwise_map.mpr a2
 ·rw [getElem?_map] at e;obtain ⟨v,e1,e2⟩:=map_eq_some_iff.mp e;obtain ⟨t',_,h2,p,rfl,h3⟩:=rf v (List.mem_of_getElem? e1);rw [h2.key] at e2;have e2:t'=t:=e2;subst e2;exact ⟨p,by rw [getElem?_map,e1];rfl,h3⟩
end
end L2
namespace Rl
open L2 Tm
theorem map_inv {α β:Type} {f:α->β} {m:List α}:∀ l:List β,(∀ x∈l,∃ a,a∈m/\f a=x)->∃ m':List α,l=m'.map f
 | [],_=>⟨[],rfl⟩
 | x :: l,hl=>by
  obtain ⟨m',e⟩:=map_inv l fun y hy=>hl y (mem_cons_of_mem _ hy);obtain ⟨a,_,ea⟩:=hl x (mem_cons_self ..);exact ⟨a :: m',by rw [map_cons,ea,e]⟩
end Rl
namespace Rl
open L2 Tm
end Rl
namespace Rl
open L2 Tm
end Rl
namespace Rl
theorem list_getD {a b:List Nat} (hl:a.length=b.length) (h:∀ x,x < a.length->a.getD x 0=b.getD x 0):a=b:=by
 refine List.ext_getElem hl fun i h1 h2=>?_;have:=h i h1;rwa [getD_eq_getElem?_getD,List.getElem?_eq_getElem h1,getD_eq_getElem?_getD,List.getElem?_eq_getElem h2] at this
end Rl
namespace Rl
theorem getD_app2 {a:List Nat} {y:Nat}:(a ++ [y]).getD a.length 0=y:=by
 rw [getD_eq_getElem?_getD,getElem?_append_right (Nat.le_refl _),Nat.sub_self];rfl
end Rl
namespace Rl
end Rl
namespace Rl
end Rl
namespace Rl
theorem row_two {row:List Nat} {a b:Nat} (ha:a∈row) (hb:row.getD (row.length - 1) 0=b) (hab:a≠b):∃ s t,row=s ++ a :: (t ++ [b]):=by
 have hne:row≠[]:=fun e=>by rw [e] at ha;cases ha
 have e:=split_last hne;rw [hb] at e;generalize row.dropLast=d at e;subst e;have had:a∈d:=(mem_append.mp ha).resolve_right fun q=>hab (mem_singleton.mp q);obtain ⟨s,t,rfl⟩:=List.append_of_mem had;exact ⟨s,t,by simp⟩
end Rl
namespace Rl
theorem over_form {u v:List Nat} {a l:Nat} (hu:a ∉ u) (ha:a + 1=(u ++ a :: (v ++ [l])).length):overO (u ++ a :: (v ++ [l]))=u ++ a :: l :: v:=by
 have ln:(u ++ a :: (v ++ [l])).length=u.length + v.length + 2:=by
  rw [length_append,length_cons,length_append];show u.length + (v.length + 1 + 1)=_;omega
 unfold overO;have e1:(u ++ a :: (v ++ [l])).length - 1=a:=by omega
 rw [e1,idx_app _ hu];have t1:(u ++ a :: (v ++ [l])).take (u.length + 1)=u ++ [a]:=by
  rw [show u ++ a :: (v ++ [l])=(u ++ [a]) ++ (v ++ [l]) by simp,show u.length + 1=(u ++ [a]).length by simp,List.take_left]
 have t2:(u ++ a :: (v ++ [l])).drop (u.length + 1)=v ++ [l]:=by
  rw [show u ++ a :: (v ++ [l])=(u ++ [a]) ++ (v ++ [l]) by simp,show u.length + 1=(u ++ [a]).length by simp,List.drop_left]
 have t3:(u ++ a :: (v ++ [l])).getD a 0=l:=by
  have hl:(u ++ a :: v).length=a:=by rw [length_append,length_cons];omega
  have:=getD_app2 (a:=u ++ a :: v) (y:=l);rw [hl] at this;rwa [show u ++ a :: (v ++ [l])=(u ++ a :: v) ++ [l] by simp]
 rw [t1,t2,t3,show a - (u.length + 1)=v.length by omega,List.take_left];simp
theorem J36 {n:Nat} {o:List Nat} (h:OkO n o) (h2:2<=n):∃ u v l,o=u ++ (n - 1) :: (v ++ [l])/\overO o=u ++ (n - 1) :: l :: v/\(n - 1) ∉ u:=by
 have l2:2<=o.length:=by rw [h.len];exact h2
 have ln:=J2e h.io h.t l2;have hm:n - 1∈o:=h.io.mem (by rw [h.len];omega);obtain ⟨u,v,e⟩:=row_two (b:=o.getD (o.length - 1) 0) hm rfl (by rw [h.len] at ln ⊢;omega);refine ⟨u,v,_,e,?_,?_⟩
 ·have hu:n - 1 ∉ u:=fun q=>by
   have nd:=h.io.nd;rw [e] at nd;exact (nodup_append.mp nd).2.2 _ q _ (mem_cons_self ..) rfl
  have:=over_form (v:=v) (l:=o.getD (o.length - 1) 0) hu (by rw [<- e,h.len];omega);rwa [<- e] at this
 ·intro q;have nd:=h.io.nd;rw [e] at nd;exact (nodup_append.mp nd).2.2 _ q _ (mem_cons_self ..) rfl
theorem over_inj {n:Nat} {o p:List Nat} (h:OkO n o) (g:OkO n p) (h2:2<=n) (e:overO o=overO p):o=p:=by
 obtain ⟨u,v,l,e1,e2,e3⟩:=J36 h h2;obtain ⟨u',v',l',f1,f2,f3⟩:=J36 g h2;rw [e2,f2] at e;have hl:u.length=u'.length:=by
  have:=congrArg (List.idxOf (n - 1)) e;rwa [idx_app _ e3,idx_app _ f3] at this
 obtain ⟨q1,q2⟩:=List.append_inj e hl;injection q2 with _ q3
 injection q3 with q4 q5
 rw [e1,f1,q1,q4,q5]
theorem numU_inj2 {n b x y:Nat} (hb:b < n - 1) (hx:x < n) (hy:y < n) (e:numU n b x=numU n b y):x=y:=by
 unfold numU at e;split at e <;> split at e <;> (try split at e) <;> (try split at e) <;> omega
theorem under_inj {n:Nat} {o p:List Nat} (h:OkO n o) (g:OkO n p) (h2:2<=n) (e:J17 o=J17 p):o=p:=by
 have lo:=J2e h.io h.t (by rw [h.len];exact h2);have lp:=J2e g.io g.t (by rw [g.len];exact h2);unfold J17 at e;rw [h.len] at e lo;rw [g.len] at e lp;have at_:∀ (q:List Nat) (b i:Nat),i < q.length->(q.map (numU n b)).getD i 0=numU n b (q.getD i 0):=fun q b i hi=>by
  rw [getD_eq_getElem?_getD,getElem?_map,getD_eq_getElem?_getD,List.getElem?_eq_getElem hi];rfl
 have el:o.getD (n - 1) 0=p.getD (n - 1) 0:=by
  have:=congrArg (fun q=>q.getD (n - 1) 0) e;rw [at_ o _ _ (by rw [h.len];omega),at_ p _ _ (by rw [g.len];omega)] at this;unfold numU at this;rwa [if_pos (Nat.le_refl _),if_pos (Nat.le_refl _)] at this
 rw [el] at e lo;refine list_getD (by rw [h.len,g.len]) fun i hi=>?_;have hi':i < p.length:=by rw [g.len,<- h.len];exact hi
 have:=congrArg (fun q=>q.getD i 0) e;rw [at_ o _ i hi,at_ p _ i hi'] at this;have mo:o.getD i 0 < n:=by rw [<- h.len];exact h.io.lt _ (J2r hi)
 have mp:p.getD i 0 < n:=by rw [<- g.len];exact g.io.lt _ (J2r hi')
 exact numU_inj2 (by omega) mo mp this
theorem step_inj {n:Nat} {o p:List Nat} (h:OkO n o) (g:OkO n p) (h2:2<=n) (w:Bool) (e:stepO w o=stepO w p):o=p:=by
 cases w with
 | true=>first | exact over_inj h g h2 e | exact under_inj h g h2 e
 | false=>first | exact under_inj h g h2 e | exact over_inj h g h2 e
theorem full_of {α:Type} [DecidableEq α] {l m:List α} (nl:l.Nodup) (hs:∀ x∈l,x∈m) (hl:l.length=m.length):∀ x∈m,x∈l:=fun x hx=>by
 refine Classical.byContradiction fun c=>?_;have:=(nodup_cons.mpr ⟨c,nl⟩).length_le_of_subset (l₂:=m) fun y hy=>by
  rcases mem_cons.mp hy with rfl | hy
  ·exact hx
  ·exact hs y hy
 rw [length_cons,hl] at this;omega
theorem fam_pred {n:Nat} {ks:List (List Nat)} (nd:ks.Nodup) (ok:∀ o∈ks,OkO n o) (h2:2<=n) (w:Bool) (cl:∀ o∈ks,stepO w o∈ks) {y:List Nat} (hy:OkO n y) (h:stepO w y∈ks):y∈ks:=by
 have nm:(ks.map (stepO w)).Nodup:=by
  refine nodup_iff_pairwise_ne.mpr (pairwise_map.mpr ?_);exact List.Pairwise.imp_of_mem (fun {a b} ha hb h e=>h (step_inj (ok a ha) (ok b hb) h2 w e)) (nodup_iff_pairwise_ne.mp nd)
 have:=full_of nm (fun x hx=>by
  obtain ⟨o,ho,rfl⟩:=mem_map.mp hx;exact cl o ho) (length_map ..) _ h
 obtain ⟨x,hx,e⟩:=mem_map.mp this;rw [<- step_inj (ok x hx) hy h2 w e];exact hx
theorem Fam.cl {s:List Nat} {ks:List (List Nat)} {d:List Nat->Nat} (a:Fam s ks d) (w:Bool):∀ o∈ks,stepO w o∈ks:=fun o ho=>by
 have c:=a.clo o ho;exact (c w).1
theorem fam_sub {s q:List Nat} {ks ls:List (List Nat)} {d e:List Nat->Nat} (a:Fam s ks d) (b:Fam q ls e) (hq:q∈ks):∀ (m:Nat) (o:List Nat),o∈ls->e o=m->o∈ks
 | m,o,ho,hm=>by
  by_cases c:o=q
  ·rw [c];exact hq
  ·obtain ⟨p,hp,w,rfl,e2⟩:=b.pre o ho c;exact a.cl w p (fam_sub a b hq (e p) p hp rfl)
termination_by m=>m
decreasing_by omega
theorem fam_back {n:Nat} {s q:List Nat} {ks ls:List (List Nat)} {d e:List Nat->Nat} (a:Fam s ks d) (b:Fam q ls e) (h2:2<=n) (oka:∀ o∈ks,OkO n o) (ndl:ls.Nodup) (okl:∀ o∈ls,OkO n o):∀ (m:Nat) (o:List Nat),o∈ks->d o=m->o∈ls->s∈ls
 | m,o,ho,hm,hl=>by
  by_cases c:o=s
  ·rw [<- c];exact hl
  ·obtain ⟨p,hp,w,rfl,e2⟩:=a.pre o ho c;exact fam_back a b h2 oka ndl okl (d p) p hp rfl (fam_pred ndl okl h2 w (b.cl w) (oka p hp) hl)
termination_by m=>m
decreasing_by omega
theorem fam_same {n:Nat} {s q:List Nat} {ks ls:List (List Nat)} {d e:List Nat->Nat} (a:Fam s ks d) (b:Fam q ls e) (h2:2<=n) (oka:∀ o∈ks,OkO n o) (ndl:ls.Nodup) (okl:∀ o∈ls,OkO n o) (hq:q∈ks):∀ o,o∈ls↔o∈ks:=fun o =>
 ⟨fun ho=>fam_sub a b hq _ o ho rfl,fun ho=>fam_sub b a (fam_back a b h2 oka ndl okl _ q hq rfl b.st) _ o ho rfl⟩
end Rl
namespace L2
open PySem PyProof.Rows
end L2
namespace L2
open PySem PyProof.Rows
end L2
namespace L2
open PySem PySem.Spec PyProof.Rows
end L2
namespace Dx
open PySem PySem.Spec
section
variable {prog:Program} {w:World} {A:Around} {E:Value->Shared->Prop} {s:Shared} {d it:Addr} {es:Array DictEntry} {ep i:Nat}
def RawAt (h:Heap) (d:Addr) (es:Array DictEntry) (ep:Nat):Prop:=∃ o,h.get? d=some o/\o.ExactDict/\o.data=.dict es ep
theorem RawAt.at_ {h h':Heap} (x:RawAt h d es ep) (k:∀ o,h.get? d=some o->h'.get? d=some o):RawAt h' d es ep:=by obtain ⟨o,e,r⟩:=x;exact ⟨o,k o e,r⟩
theorem RawAt.lt {h:Heap} (x:RawAt h d es ep):d < h.objs.size:=by obtain ⟨_,e,_⟩:=x;exact lt_size e
theorem RawAt.ty {s:Shared} (x:RawAt s.heap d es ep):s.TypeIs (.ref d) "dict":=by obtain ⟨o,e,c,_⟩:=x;exact ⟨o,e,c.1⟩
theorem raw_iter {Q:Value->Shared->Prop} (hd:(d == sysModules)=false) (hm:RawAt s.heap d es ep)
  (hQ:Q (.ref s.heap.objs.size) { s with heap:=s.heap.push { cls:=.type "dict_keyiterator",data:=.fields #[.ref d,.int 0 0,.int es.size 0,.int ep 0] } }):wpAny (model prog w) A (pyIter (.ref d)) Q E s:=by
 obtain ⟨o,ho,hc,hdat⟩:=id hm;refine wpAny_pyIter_slot hm.ty F.slot_dict_iter (wpAny_call_entry F.slot_dict_iter hm.ty F.entry_dict_iter ?_ (F.args_dict_iter_1 _));unfold Builtin.«dict.__iter__»;refine wpAny_bind ?_;unfold Builtin.Dict.dictSlotNone;refine wpAny_bind (wpAny_notOrdered_dict hm.ty (wpAny_pure ?_));show wpAny _ _ (Builtin.Dict.showsAll d >>= _) _ _ s;unfold Builtin.Dict.showsAll;rw [if_neg (by rw [hd];exact Bool.false_ne_true)];refine wpAny_bind (wpAny_pure (wpAny_bind (wpAny_dictEntries ho hdat (wpAny_bind (wpAny_dictEpoch ho hdat ?_)))));exact wpAny_bind (wpAny_newObj_type (wpAny_pure ⟨_,rfl,"dict_keyiterator",_,⟨_,get?_push_size _ rfl,rfl⟩,F.slot_dict_keyiterator_next.lookup,by simpa [rawInt] using hQ⟩))
theorem raw_item {Q:Option Value->Shared->Prop} (hit:s.heap.IsKeyIter it d i es.size ep) (hm:RawAt s.heap d es ep) (hi:i < es.size)
  (hQ:∀ h',h'.IsKeyIter it d (i + 1) es.size ep->Heap.SameBut it s.heap h'->Q (some es[i].key) { s with heap:=h' }):wpAny (model prog w) A (pyNext (.ref it)) Q E s:=by
 obtain ⟨o,ho,hc,hd⟩:=id hit;obtain ⟨od,hod,hcd,hdd⟩:=id hm;unfold pyNext;refine wpAny_bind (wpAny_attempt (wpAny_callSpecial?_slot (name:=Str.ofString "__next__") hit.typeIs F.slot_dict_keyiterator_next (wpAny_call_entry F.slot_dict_keyiterator_next hit.typeIs F.entry_dict_keyiterator_next ?_ (F.args_dict_keyiterator_next_1 _))));refine wpAny_bind (wpAny_pure (wpAny_bind (wpAny_bind ?_)))
 first | refine wpAny_bind (wpAny_typeNameOfWhole_keyiter hit.typeIs (wpAny_pure ?_)) | refine wpAny_bind (wpAny_typeNameOf_keyiter hit.typeIs (wpAny_pure ?_))
 refine wpAny_bind (wpAny_fieldsOf ho hd ?_);simp only [show Builtin.Dict_items.ownsTuple "dict_keyiterator"=false by decide,Bool.false_eq_true,if_false];show wpAny _ _ (if (Value.ref d == Value.none)=true then _ else _) _ _ s;rw [if_neg (show ¬ ((Value.ref d == Value.none)=true) from Bool.false_ne_true)];refine wpAny_bind (wpAny_pure (wpAny_bind (wpAny_dictEntries hod hdd ?_)));rw [if_neg (by simp)];refine wpAny_bind (wpAny_pure (wpAny_bind (wpAny_dictEpoch hod hdd ?_)));rw [if_neg (by simp)];refine wpAny_pure ?_;simp only [show ¬ ((i:Int) < 0) from by omega,if_false,Int.toNat_natCast,Array.getElem?_eq_getElem hi];refine wpAny_bind ?_
 first | refine wpAny_bind (wpAny_typeNameOfWhole_keyiter hit.typeIs (wpAny_pure ?_)) | refine wpAny_bind (wpAny_typeNameOf_keyiter hit.typeIs (wpAny_pure ?_))
 refine wpAny_bind (wpAny_isOneOf_keyiter hit.typeIs ?_);show wpAny _ _ (setField (.ref it) 1 (rawInt ((i:Int) + 1)) >>= _) _ _ s;refine wpAny_bind (wpAny_setField ho hd (by simp) ?_);have hit':(s.heap.update it (Obj.mapFields (·.setIfInBounds 1 (rawInt ((i:Int) + 1))))).IsKeyIter it d (i + 1) es.size ep :=
  ⟨_,Heap.get?_update_self _ ho (Obj.isFreed_of_fields (Obj.data_mapFields hd _)),(Obj.cls_mapFields ..).trans hc,by rw [Obj.data_mapFields hd];simp [rawInt]⟩
 refine wpAny_bind (wpAny_holding (wpAny_bind (wpAny_isOneOf_keyiter (s:={ s with heap:=s.heap.update it (Obj.mapFields (·.setIfInBounds 1 (rawInt ((i:Int) + 1)))) }) hit'.typeIs ?_)));show wpAny _ _ (pure es[i].key) _ _ _;exact wpAny_pure (wpAny_pure ⟨_,rfl,wpAny_pure (hQ _ hit' (Heap.SameBut.update ..))⟩)
theorem raw_end {Q:Option Value->Shared->Prop} (hh:A.handled=none) (hit:s.heap.IsKeyIter it d i es.size ep) (hm:RawAt s.heap d es ep) (hi:es.size<=i)
  (hQ:∀ h',Heap.ExtBut it s.heap h'->Q none { s with heap:=h' }):wpAny (model prog w) A (pyNext (.ref it)) Q E s:=by
 obtain ⟨o,ho,hc,hd⟩:=id hit;obtain ⟨od,hod,hcd,hdd⟩:=id hm;unfold pyNext;refine wpAny_bind (wpAny_attempt (wpAny_callSpecial?_slot (name:=Str.ofString "__next__") hit.typeIs F.slot_dict_keyiterator_next (wpAny_call_entry F.slot_dict_keyiterator_next hit.typeIs F.entry_dict_keyiterator_next ?_ (F.args_dict_keyiterator_next_1 _))));refine wpAny_bind (wpAny_pure (wpAny_bind (wpAny_bind ?_)))
 first | refine wpAny_bind (wpAny_typeNameOfWhole_keyiter hit.typeIs (wpAny_pure ?_)) | refine wpAny_bind (wpAny_typeNameOf_keyiter hit.typeIs (wpAny_pure ?_))
 refine wpAny_bind (wpAny_fieldsOf ho hd ?_);simp only [show Builtin.Dict_items.ownsTuple "dict_keyiterator"=false by decide,Bool.false_eq_true,if_false];show wpAny _ _ (if (Value.ref d == Value.none)=true then _ else _) _ _ s;rw [if_neg (show ¬ ((Value.ref d == Value.none)=true) from Bool.false_ne_true)];refine wpAny_bind (wpAny_pure (wpAny_bind (wpAny_dictEntries hod hdd ?_)));rw [if_neg (by simp)];refine wpAny_bind (wpAny_pure (wpAny_bind (wpAny_dictEpoch hod hdd ?_)));rw [if_neg (by simp)];refine wpAny_pure ?_;simp only [show ¬ ((i:Int) < 0) from by omega,if_false,Int.toNat_natCast,Array.getElem?_eq_none hi];refine wpAny_bind ?_
 first | refine wpAny_bind (wpAny_typeNameOfWhole_keyiter hit.typeIs (wpAny_pure ?_)) | refine wpAny_bind (wpAny_typeNameOf_keyiter hit.typeIs (wpAny_pure ?_))
 show wpAny _ _ (setField (.ref it) 0 .none >>= _) _ _ s;refine wpAny_bind (wpAny_setField ho hd (by simp) ?_);show wpAny _ _ (newExc (.type "StopIteration") [] >>= _) _ _ _;refine wpAny_bind ?_;simp only [newExc,newTuple];refine wpAny_bind (wpAny_newObj_type ?_ (by size_fits));refine wpAny_bind (m:=firstArgMember _ _) (wpAny_of_eq (a:=Value.none) (by first | rfl | (simp only [firstArgMember];rfl)) ?_);refine wpAny_newObj_type ?_ (by size_fits);simp only [raiseNew];refine wpAny_bind (wpAny_handled ?_);rw [show A.in1.handled=none from hh];refine wpAny_bind (wpAny_pure (wpAny_throw ?_));refine wpAny_bind (wpAny_isInstance (T:="StopIteration") (b:=true) ⟨_,get?_push_size _ rfl,rfl⟩ isSubtype_stop ?_);exact wpAny_pure (hQ _ (((Heap.SameBut.update ..).extBut.push _).push _))
theorem raw_walks (hh:A.handled=none) (I:Addr) (hne:d≠I):Walks prog w A I [I,d] [I] es.size (fun i v=>∃ e,es[i]?=some e/\e.key=v) (fun i h=>h.IsKeyIter I d i es.size ep/\RawAt h d es ep) where
 sub:=fun b hb=>by simp at hb;simp [hb]
 frame:=fun _ _ _ st hk=>⟨st.1.at fun o e=>hk I (by simp) o e,st.2.at_ fun o e=>hk d (by simp) o e⟩
 item:=fun i s Q E hi st hQ=>raw_item st.1 st.2 hi fun h' hit' hs'=>hQ _ h' s.toks ⟨es[i],Array.getElem?_eq_getElem hi,rfl⟩ ⟨hit',st.2.at_ fun o e=>hs'.extBut d o hne e⟩ fun b o hb e=>hs'.extBut b o (fun h=>hb (by simp [h])) e
 done:=fun s Q E st hQ=>raw_end hh st.1 st.2 (Nat.le_refl _) fun h' he'=>hQ h' s.toks fun b o hb e=>he' b o (fun h=>hb (by simp [h])) e
 self:=fun _ _ _ _ st hQ=>wpAny_pyIter_keyiter st.1 hQ
theorem raw_src (lo:(d == sysModules)=false):PySem.W.KdlSrc prog w "dict" d d es.size (fun i v=>∃ e,es[i]?=some e/\e.key=v) (fun h=>RawAt h d es ep) where
 type:=fun _ hm=>hm.ty
 there:=fun _ hm=>⟨hm.lt,hm.lt⟩
 keep:=fun _ _ hm hk=>hm.at_ fun o e=>hk d (.inl rfl) o e
 notList:=by decide
 notTuple:=by decide
 hint:=fun _ _ _ _ hm hq=>PySem.W.kdl_hint_dict hm.ty hq
 iter:=fun _ _ hh hm=>⟨_,_,(fun _ _ hq=>raw_iter lo hm hq),raw_walks hh _ (Nat.ne_of_lt hm.lt),⟨⟨_,get?_push_size _ rfl,rfl,rfl⟩,hm.at_ fun o e=>get?_push_of_some _ e⟩⟩
end
end Dx
namespace Rl
open PySem
end Rl
namespace L2
open PySem PySem.Spec PyProof.Rows Rl
end L2
namespace L2
open PySem PySem.Spec PyProof.Rows Rl
end L2
namespace Rl
end Rl
namespace L2
open PySem PySem.Spec PyProof.Rows Rl
end L2
namespace L2
open PySem PySem.Spec PyProof.Rows Rl
end L2
namespace L2
open PySem PySem.Spec PyProof.Rows Rl
section
variable {prog:Program} {w:World} {A:Around} {E:Value->Shared->Prop} {s:Shared}
theorem sHeap_old {h:Heap} {a b:Addr} {vs:List Value} {out:Array Value} {o:Obj} (ne:b≠a) (e:h.get? b=some o):(sortedHeap h a vs out).get? b=some o:=by
 unfold sortedHeap;rw [Heap.get?_update_other _ _ (Ne.symm ne)];exact get?_push_of_some _ (get?_push_of_some _ ((Heap.get?_update_other _ _ (Ne.symm ne)).trans e))
theorem sHeap_at {h:Heap} {a:Addr} {vs:List Value} {out:Array Value} {xs:Array Value} {n:Nat} (e:h.get? a=some (seqObj "list" xs n)):∃ k,(sortedHeap h a vs out).get? a=some (seqObj "list" out k) :=
 ⟨_,get?_update_seq (get?_push_of_some _ (get?_push_of_some _ (get?_update_seq e (fun _=>#[])))) (fun _=>out)⟩
end
end L2
namespace L2
open PySem PySem.Spec PyProof.Rows Tm
theorem paired_at {α β:Type} {R:α->β->Prop}:∀ {l:List α} {m:List β},Paired R l m->∀ (i:Nat) (b:β),m[i]?=some b->∃ a,l[i]?=some a/\R a b
 | _,_,.nil,i,b,h=>by rw [List.getElem?_nil] at h;cases h
 | _,_,.cons r t,0,b,h=>⟨_,rfl,by obtain rfl:=Option.some.inj h;exact r⟩
 | _,_,.cons r t,i + 1,b,h=>paired_at t i b h
theorem J35 {α β:Type} {R:α->β->Prop}:∀ {l:List α} {m:List β},Paired R l m->l.length=m.length
 | _,_,.nil=>rfl
 | _,_,.cons r t=>congrArg (· + 1) (J35 t)
section
variable {X:Cx}
theorem J3r (hc:X.calm=true):CallR X (.builtin "sorted") (fun xs H Q=>∃ (p:Addr) (kvs:List (List Key × V)) (ts:List (List Int)),xs=[.ref p]/\H p=some (.dT kvs)/\kvs.map (·.1)=ts.map (·.map Sum.inl)/\(∀ t∈ts,t≠[])/\
  ∀ l zs ts',H l=none->ts'.Perm ts->ts'.Pairwise (fun a b=>lexB b a=false)->TupsAt H zs ts'->Q (.ref l) (upd H l (.lst zs))):=by
 intro pins s σ H xs us Q I r h;obtain ⟨p,kvs,ts,rfl,hp,hk,ne,q⟩:=h;obtain ⟨u,rfl,rx⟩:=vals1 r;cases rx;obtain ⟨hz,hd,ws,pr,o,es,ep,ho,he,hdt,hes,_⟩:=(show ObjOk X.prog X.w H s.heap p (.dT kvs) from I.hok p _ hp);have hat:Dx.RawAt s.heap p es ep:=⟨o,ho,he,hdt⟩;have hl:es.size=kvs.length:=by
  have h1:=congrArg List.length hes;rw [length_map,length_toList] at h1;rw [h1,J35 pr]
 have hlk:kvs.length=ts.length:=by have:=congrArg List.length hk;rwa [length_map,length_map] at this
 refine Calls.call_function_entry kind_sorted plain_sorted entry_sorted (args_sorted1 _) ?_;unfold Builtin.«sorted»;refine wpAny_bind (m:=checkCount "sorted" 1 1 _) (wpAny_pure ?_);refine wpAny_bind (PySem.W.kdu_collect (Dx.raw_src (es:=es) (ep:=ep) hd) (I.ok.hd hc) hat (by rw [hl];exact hz) fun h' tk acc hk' hacc=>?_);have I1:Inv X pins σ H { s with heap:=h',toks:=tk }:=I.kept hk';have at_:∀ (i:Nat) (v:Value),acc.toList[i]?=some v->∃ (t:List Int) (q:Addr),ts[i]?=some t/\v=.ref q/\H q=some (.tup (t.map V.int)):=fun i v e=>by
  obtain ⟨en,e1,e2⟩:=hacc.2 i v (by rw [<- getElem?_toList];exact e);have e3:es.toList[i]?=some en:=by rw [getElem?_toList];exact e1
  rw [hes,getElem?_map] at e3;obtain ⟨x,e4,e5⟩:=map_eq_some_iff.mp e3;obtain ⟨kv,e6,e7,e8,_⟩:=paired_at pr i x e4;have e9:(kvs.map (·.1))[i]?=some kv.1:=by rw [getElem?_map,e6];rfl
  rw [hk,getElem?_map] at e9;obtain ⟨t,e10,e11⟩:=map_eq_some_iff.mp e9;refine ⟨t,x.2.1,e10,by rw [<- e2,<- e5];rfl,?_⟩;rw [e8,<- e11,map_map];rfl
 have ai:acc.toList.length=ts.length:=by rw [length_toList,hacc.1,hl,hlk]
 have rr:∀ v∈acc.toList,∃ q,v=.ref q:=fun v hv=>by
  obtain ⟨i,hi,e⟩:=getElem_of_mem hv;obtain ⟨_,q,_,e',_⟩:=at_ i v (by rw [List.getElem?_eq_getElem hi,e])
  exact ⟨q,e'⟩
 have rv:Vals (acc.toList.map refV) acc.toList:=J2j rr;have tu:TupsAt H (acc.toList.map refV) ts:=⟨by rw [length_map,ai],fun i t e=>by
  have hi:i < acc.toList.length:=by rw [ai];exact (List.getElem?_eq_some_iff.mp e).1
  obtain ⟨t',q,e1,e2,e3⟩:=at_ i _ (List.getElem?_eq_getElem hi)
  obtain rfl:t'=t:=Option.some.inj (e1.symm.trans e);refine ⟨q,?_,e3⟩;rw [getElem?_map,List.getElem?_eq_getElem hi,e2];rfl⟩
 have hzi:acc.toList.length<=sizeLine:=by rw [ai,<- hlk];exact hz
 obtain ⟨w1,w2⟩:=tups_out I1 tu rv;refine wpAny_bind (wpAny_newList ?_ hzi);have kAt:∀ (s':Shared),(∀ b o,h'.get? b=some o->s'.heap.get? b=some o)->∀ v∈acc.toList,∃ t,t≠[]/\RowAt s'.heap v t:=fun s' k v hv =>
  by obtain ⟨t,ht,ra,_⟩:=w1 v hv;exact ⟨t,ne t ht,ra.ext fun b o e=>k _ _ e⟩
 refine wpAny_bind (wpAny_holding (sorted_of (s:={ s with heap:=h',toks:=tk }) (T:=h') (t':=tk) (κ:=fun _=>J1r h') (sk:=tuples' true) hzi (fun A' E' s' k h2 Q' q'=>row_kind h2 (kAt s' k) q') (fun A' s' k=>⟨fun x y hx hy E' Q' hb=>?_⟩) fun out a1 a2=>?_))
 ·have mm:∀ z,z∈(pairsOf acc.toList).toList->z.1∈acc.toList:=fun z hz=>by
   rw [pairsOf_toList] at hz;exact (mem_zip_self hz).2
  refine (row_cmp (s:=s') (vs:=acc.toList) (fun v hv=>let ⟨t,_,ra⟩:=kAt s' k v hv;⟨t,ra⟩)).lt x y hx hy E' Q' ?_;obtain ⟨tx,_,rx,_⟩:=w1 _ (mm x hx);obtain ⟨ty,_,ry,_⟩:=w1 _ (mm y hy);have ek:∀ {z:Value} {t:List Int},RowAt h' z t->keyAt s'.heap z=keyAt h' z:=fun {z t} ra=>by
   rw [ra.key,(ra.ext fun b o e=>k _ _ e).key]
  show Q' (lexB ((keyAt s'.heap x.1).getD []) ((keyAt s'.heap y.1).getD [])) s';rw [ek rx,ek ry];exact hb
 ·obtain ⟨zs,v1,v2,v3⟩:=sortT_fin (s2:=s) (T:=h') I1 tu rv (by rw [length_map];exact hzi) out a1 a2 q;refine wpAny_pure ⟨_,rfl,?_⟩;have hoL:(h'.push (seqObj "list" acc.toList.toArray 0)).get? h'.objs.size=some (seqObj "list" acc.toList.toArray 0):=get?_push_size _ rfl;obtain ⟨e,he⟩:=sHeap_at (vs:=acc.toList) (out:=out) hoL;exact ⟨.ref _,_,I1.laid (t':=tk) (a:=h'.objs.size) (o:=.lst zs) (fun b o eb=>sHeap_old (Nat.ne_of_lt (lt_size eb)) (get?_push_of_some _ eb)) (Nat.le_refl _) ⟨v2,out.toList,e,v1,he⟩,rfl,v3 _ (I1.hok.fresh (Nat.le_refl _))⟩
end
end L2
namespace Tm
open PySem PySem.Spec PyProof.Rows
theorem rc_le_int {prog:Program} {w:World} {A:Around} {E:Value->Shared->Prop} {s:Shared} {a b:Int} {t u:Tok} {Q:Value->Shared->Prop} (h:Q (.bool (decide (a<=b))) s):wpAny (model prog w) A (richCompare .LtE (.int a t) (.int b u)) Q E s:=PyProof.Rows.le_int h
theorem tuple_leI (l b:Addr) (items items2:Array Value) (n n2:Nat) (dd dd2:Option Addr) (sl sl2:Array (Option Value)) (as bs:List Int) :
  Meets (Builtin.«tuple.__le__» ⟨[.ref l,.ref b],[]⟩)
   (fun A R s=>s.heap.get? l=some { cls:=.type "tuple",dict:=dd,data:=.seq items n,slots:=sl }/\s.heap.get? b=some { cls:=.type "tuple",dict:=dd2,data:=.seq items2 n2,slots:=sl2 }/\
    (IntsAre items.toList as/\IntsAre items2.toList bs/\as.length=bs.length)/\R (.ok (.ret (.bool (!lexB bs as)))) s) :=
 .of_wp fun prog w A R s h=>by
  obtain ⟨hp,g,d,tk,os⟩:=s;obtain ⟨hl,hb,⟨ia,ib,hlen⟩,h⟩:=h;have f2:=AutoSeq1.sub_tuple_tuple;have hsz:items.size=items2.size:=by rw [<- length_toList,<- length_toList,ia.length,ib.length,hlen]
  wp_walk using wpAny_loadPart' hl,wpAny_loadPart' hb,wpAny_forIn_list _ (fun rest b s'=>b.1=none/\s'=⟨hp,g,d,tk,os⟩/\∃ (X Y:List Value) (xs ys:List Int),rest=X.zip Y/\IntsAre X xs/\IntsAre Y ys/\xs.length=ys.length/\
   R (.ok (.ret (.bool (!lexB ys xs)))) ⟨hp,g,d,tk,os⟩) _
  case turn =>
   rintro ⟨y,x⟩ rest b s' ⟨hb',rfl,X,Y,xs,ys,hz,iX,iY,hl',hR⟩
   cases iX with
   | nil=>cases hz
   | cons p t iX =>
    cases iY with
    | nil=>cases hz
    | cons q u iY =>
     injection hz with hyx hrest
     injection hyx with e1 e2
     subst e1 e2;refine wpAny_bind (wpAny_eqBool_int ?_);by_cases c:p=q
     ·rw [show (p == q)=true from by simpa using c];have hR':R (.ok (.ret (.bool (!(if q=p then lexB _ _ else decide (q < p)))))) ⟨hp,g,d,tk,os⟩:=hR;rw [if_pos c.symm] at hR'
      wp_walk
      exact ⟨rfl,rfl,_,_,_,_,hrest,iX,iY,Nat.succ.inj hl',hR'⟩
     ·rw [show (p == q)=false from by simpa using c];have hR':R (.ok (.ret (.bool (!(if q=p then lexB _ _ else decide (q < p)))))) ⟨hp,g,d,tk,os⟩:=hR;rw [if_neg (fun z=>c z.symm)] at hR'
      wp_walk using rc_le_int
      have e:(!decide (q < p))=decide (p<=q):=by
       rw [Bool.eq_iff_iff,Bool.not_eq_true',decide_eq_false_iff_not,decide_eq_true_eq];omega
      rw [e] at hR';exact ⟨_,rfl,hR'⟩
  case fin =>
   rintro ⟨b1,b2⟩ s' ⟨hb',rfl,X,Y,xs,ys,hz,iX,iY,hl',hR⟩;simp only at hb';subst hb';have hn:xs=[]/\ys=[]:=by
    cases iX with
    | nil=>exact ⟨rfl,List.length_eq_zero_iff.mp hl'.symm⟩
    | cons p t iX =>
     cases iY with
     | nil=>cases hl'
     | cons q u iY=>cases hz
   rw [hn.1,hn.2,show (!lexB [] [])=true from rfl] at hR
   wp_walk
   exact ⟨_,rfl,by simpa [Builtin.Tuple.tupleCompareSizes,hsz] using hR⟩
  case h =>
   exact ⟨rfl,rfl,_,_,as,bs,rfl,ia,ib,hlen,h⟩
end Tm
namespace L2
open PySem PySem.Spec PyProof.Rows Tm
section
variable {X:Cx}
def rLeT (K:Frag):R2:=fun x y H Q=>∃ (p q:Addr) (as bs:List Int),x=.ref p/\y=.ref q/\SqT K H p (as.map V.int)/\SqT K H q (bs.map V.int)/\as.length=bs.length/\Q (.bl (!lexB bs as)) H
theorem op_leT (hu:X.A.units < cLine):OpR X (compareOp .LtE) (rLeT X.K):=by
 intro pins s σ H x y v u Q I rx ry h;obtain ⟨p,q,as,bs,rfl,rfl,hp,hq,hl,hQ⟩:=h;cases rx;cases ry;obtain ⟨its,r,pl,_⟩:=I.tuple hp;obtain ⟨its2,r2,pl2,_⟩:=I.tuple hq;obtain ⟨⟨cls,dd,data,sl⟩,ho,hc,n,hd⟩:=id pl;obtain ⟨⟨cls2,dd2,data2,sl2⟩,ho2,hc2,n2,hd2⟩:=id pl2;simp only at hc hd hc2 hd2;subst hc hd hc2 hd2;exact richCompare_meets_room (op:=.LtE) ⟨_,ho,rfl⟩ ⟨_,ho2,rfl⟩ F.slot_tuple_le F.entry_tuple_le (F.args_tuple_le_2 _ _) (tuple_leI p q its.toArray its2.toArray n n2 dd dd2 sl sl2 as bs)
  ⟨ho,ho2,⟨by simpa using Je r,by simpa using Je r2,hl⟩,show Value.bool (!lexB bs as)≠Value.notImplemented/\_ from ⟨(fun x=>nomatch x),⟨.bl _,H,I,rfl,hQ⟩⟩⟩ hu
end
end L2
namespace L2
open PySem PySem.Spec PyProof.Rows
def Eq1 (K:Frag) (H:Hp) (x y:V) (r:Bool):Prop:=(flatV x=true/\flatV y=true/\r=eqV x y)\/
 ∃ (a b:Addr) (xs ys:List V),x=.ref a/\y=.ref b/\((SqT K H a xs/\SqT K H b ys)\/(SqL K H a xs/\SqL K H b ys))/\Kin xs ys/\r=decide (xs=ys)
theorem eq1_at {X:Cx} {pins:List (Addr × Obj)} {σ:St} {H:Hp} {s:Shared} (I:Inv X pins σ H s) {A:Around} (hu:A.units < cLine) {a b:V} {u v:Value} {r:Bool} (ra:RelV a u) (rb:RelV b v) (h:Eq1 X.K H a b r):SeqAt.EqAt A s u v r:=by
 rcases h with ⟨f,g,rfl⟩ | ⟨p,q,xs,ys,rfl,rfl,z,kz,rfl⟩
 ·exact eqAt_V (A:=A) (s:=s) ra rb f g
 ·cases (show u=Value.ref p from ra);cases (show v=Value.ref q from rb);by_cases hne:p=q
  ·subst hne;have e:xs=ys:=by
    rcases z with ⟨z1,z2⟩ | ⟨z1,z2⟩
    ·exact I.tuple_inj z1 z2
    ·exact I.list_inj z1 z2
   rw [decide_eq_true e];exact SeqAt.EqAt.same _
  ·refine SeqAt.EqAt.of_refs hne ?_;rcases z with ⟨z1,z2⟩ | ⟨z1,z2⟩
   ·obtain ⟨i1,t1,l1,_⟩:=I.tuple z1;obtain ⟨i2,t2,l2,_⟩:=I.tuple z2;have:=SeqAt.RcAt.tuples (A:=A) (s:=s) (e:=eAt xs ys) (show s.heap.IsTuple p i1.toArray from l1) (show s.heap.IsTuple q i2.toArray from l2) hu (fun j h1 h2=>eAt_at t1 t2 kz j h1 h2);rw [tup_all t1.length t2.length kz] at this;exact this
   ·obtain ⟨i1,t1,l1,_⟩:=I.list z1;obtain ⟨i2,t2,l2,_⟩:=I.list z2;have n1:=t1.length;have n2:=t2.length;by_cases hl:xs.length=ys.length
    ·have:=SeqAt.RcAt.lists (A:=A) (s:=s) (e:=eAt xs ys) l1.isList l2.isList (by rw [size_toArray,size_toArray];omega) hu (fun j h1 h2=>eAt_at t1 t2 kz j h1 h2);rw [size_toArray,<- n1,all_eAt hl kz] at this;exact this
    ·have:=SeqAt.RcAt.lists_lengths (A:=A) (s:=s) l1.isList l2.isList (by rw [size_toArray,size_toArray];simp;omega) hu;rw [decide_eq_false (fun e=>hl (congrArg List.length e))];exact this
def rEqN (K:Frag) (neg:Bool):R2:=fun x y H Q=>∃ (p q:Addr) (xs ys:List V) (e:Nat->Bool),x=.ref p/\y=.ref q/\((SqT K H p xs/\SqT K H q ys)\/(SqL K H p xs/\SqL K H q ys))/\xs.length=ys.length/\
 (∀ (j:Nat) (a b:V),xs[j]?=some a->ys[j]?=some b->Eq1 K H a b (e j))/\Q (.bl (if neg then !(List.range xs.length).all e else (List.range xs.length).all e)) H
theorem eqN_at {X:Cx} {pins:List (Addr × Obj)} {σ:St} {H:Hp} {s:Shared} (I:Inv X pins σ H s) {A:Around} (hu:A.units < cLine) {xs ys:List V} {i1 i2:List Value} {e:Nat->Bool} (t1:Vals xs i1) (t2:Vals ys i2) (h:∀ (j:Nat) (a b:V),xs[j]?=some a->ys[j]?=some b->Eq1 X.K H a b (e j))
  (j:Nat) (h1:j < i1.toArray.size) (h2:j < i2.toArray.size):SeqAt.EqAt A s i1.toArray[j] i2.toArray[j] (e j):=by
 obtain ⟨a,e1,r1⟩:=items_at t1 h1;obtain ⟨b,e2,r2⟩:=items_at t2 h2;exact eq1_at I hu r1 r2 (h j a b e1 e2)
theorem op_eqN {X:Cx} (hu:X.A.units + 1 < cLine):OpR X (compareOp .Eq) (rEqN X.K false):=by
 intro pins s σ H x y v u Q I rx ry h;obtain ⟨p,q,xs,ys,e,rfl,rfl,hpq,len,al,hQ⟩:=h;cases rx;cases ry;have hQ:Q (.bl ((List.range xs.length).all e)) H:=hQ;rcases hpq with ⟨hp,hq⟩ | ⟨hp,hq⟩
 ·obtain ⟨its,r,pl,_⟩:=I.tuple hp;obtain ⟨its2,r2,pl2,_⟩:=I.tuple hq;have l1:=r.length;have l2:=r2.length;refine SeqAt.eq_tupleAt (e:=e) (show s.heap.IsTuple p its.toArray from pl) (show s.heap.IsTuple q its2.toArray from pl2) (by omega) (fun j h1 h2=>eqN_at I hu r r2 al j h1 h2) ?_;have e':((List.range (min its.toArray.size its2.toArray.size)).all e && its.toArray.size == its2.toArray.size)=(List.range xs.length).all e:=by
   rw [size_toArray,size_toArray,<- l1,<- l2,len];simp
  rw [e'];exact ⟨.bl _,H,I,rfl,hQ⟩
 ·obtain ⟨its,r,pl,_⟩:=I.list hp;obtain ⟨its2,r2,pl2,_⟩:=I.list hq;have l1:=r.length;have l2:=r2.length;refine SeqAt.eq_listAt (e:=e) pl.isList pl2.isList (by rw [size_toArray,size_toArray];omega) (by omega) (fun j h1 h2=>eqN_at I hu r r2 al j h1 h2) ?_;rw [size_toArray,<- l1];exact ⟨.bl _,H,I,rfl,hQ⟩
end L2
namespace L2
open PySem PySem.Spec PyProof.Rows
end L2
namespace L2
open PySem PySem.Spec PyProof.Rows
end L2
namespace L2
open PySem PySem.Spec PyProof.Rows
end L2
namespace L2
open PySem PySem.Spec PyProof.Rows
end L2
namespace L2
open PySem PySem.Spec PyProof.Rows
end L2
namespace L2
open PySem PySem.Spec PyProof.Rows
end L2
namespace R61
open PySem L2 Rl
def top (i:Nat):Stmt:=PySem.Challenge.pw_relaid_k61_whole_families.main.body.getD i (.Pass ⟨0,0,0,0⟩)
abbrev sRefO:Stmt:=top 5
abbrev sRefOf:Stmt:=top 6
abbrev sFalls:Stmt:=top 10
abbrev sToldO:Stmt:=top 11
abbrev sLedO:Stmt:=top 12
abbrev sNumU:Stmt:=top 13
abbrev sLedU:Stmt:=top 14
abbrev sWordsF:Stmt:=top 15
abbrev sFamily:Stmt:=top 16
abbrev sCell:Stmt:=top 18
abbrev sOrder:Stmt:=top 19
abbrev sOverL:Stmt:=top 20
abbrev sUnderL:Stmt:=top 21
abbrev sTupl:Stmt:=top 22
abbrev sClosed:Stmt:=top 23
abbrev sLaw:Stmt:=top 24
abbrev iV (ns:List Int):List V:=ns.map V.int
abbrev nV (os:List Nat):List V:=(natI os).map V.int
def SqH (H:Hp) (p:Addr) (xs:List V):Prop:=H p=some (.lst xs)\/H p=some (.tup xs)
theorem SqH.sq {K:Frag} {H:Hp} {p:Addr} {xs:List V} (h:SqH H p xs):SqL K H p xs\/SqT K H p xs:=h.elim (fun h=>.inl (SqL.of h)) fun h=>.inr (SqT.of h)
theorem SqH.same {H H':Hp} {p:Addr} {xs:List V} (h:SqH H p xs) (s:Same H H'):SqH H' p xs:=h.elim (fun h=>.inl (s _ _ h)) fun h=>.inr (s _ _ h)
theorem J3 {H:Hp} {l:Addr} {o:HO} (h:H l=none):Same H (upd H l o):=fun b u e=>by rw [Ja (J6 e h)];exact e
theorem iteD {c A B:Prop} [Decidable c] (hc:¬ c) (h:B):if decide c=true then A else B:=by
 rw [decide_eq_false hc];exact iteF h
theorem iteDT {c A B:Prop} [Decidable c] (hc:c) (h:A):if decide c=true then A else B:=by
 rw [decide_eq_true hc];exact iteT h
theorem iteND {c A B:Prop} [Decidable c] (hc:¬ c) (h:A):if (!decide c)=true then A else B:=by
 rw [decide_eq_false hc];exact iteT h
theorem J10 {K:Frag} {H:Hp} {p:Addr} {xs:List V} {Q:VK} (h:SqH H p xs) (k:∀ l H',Same H H'->H' l=some (.tup xs)->Q (.ref l) H'):rTup K [V.ref p] H Q:=by
 unfold rTup;rcases h with h | h
 ·exact ⟨p,xs,rfl,.inl ⟨SqL.of h,fun l hl=>k l _ (J3 hl) upd_same⟩⟩
 ·exact ⟨p,xs,rfl,.inr ⟨SqT.of h,k p H (Same.refl _) h⟩⟩
theorem vint_ne {i j:Int} (h:i≠j):¬ V.int i=V.int j:=fun e=>h (V.int.inj e)
theorem ixN_nat {n o:Nat} (h:o < n):ixN n (o:Int)=some o:=by
 unfold ixN;rw [if_pos (by omega),if_pos (by omega)];simp
theorem iV_get {ns:List Int} {j:Nat} (h:j < ns.length):(iV ns)[j]?=some (V.int (ns.getD j 0)):=by
 rw [getElem?_map,List.getElem?_eq_getElem h,getD_eq_getElem?_getD,List.getElem?_eq_getElem h];rfl
structure TxtX (K:Frag) (mg:Str->Option Value) (x:Str) (CO:Addr):Prop where
 mg:mg x=some (.ref CO)
 ex:excIn K CO bmV "ValueError.__new__"=true
structure TxtR (mg:Str->Option Value):Prop where
 len:mg "len"=none
 sum:mg "sum"=none
 tuple:mg "tuple"=none
 list:mg "list"=none
 range:mg "range"=none
theorem nV_eq (row:List Nat):nV row=row.map fun (j:Nat)=>V.int (j:Int):=by
 show (row.map fun (n:Nat)=>(n:Int)).map V.int=_;rw [map_map];rfl
theorem Js (row:List Nat):(nV row).length=row.length:=by rw [nV_eq,length_map]
theorem nV_at {row:List Nat} {i:Nat} (h:i < row.length):(nV row)[i]?=some (V.int (row.getD i 0:Nat)):=by
 rw [nV_eq,getElem?_map,getD_eq_getElem?_getD,List.getElem?_eq_getElem h];rfl
section
def tCut (t:TS):TS:=fun D σ H=>∃ post:St->Hp->Prop,t { D with nx:=post } σ H/\∀ σ' H',post σ' H'->D.nx σ' H'
theorem ps_cut {X:Cx} {st:Stmt} {t:TS} (h:PS X st t):PS X st (tCut t):=by
 intro pins s σ H D I ⟨post,q,m⟩;refine thn (h pins s σ H _ I q) fun f s' z=>?_
 cases f with
 | next=>obtain ⟨σ',H',I',z⟩:=z;exact ⟨σ',H',I',m σ' H' z⟩
 | brk=>exact z
 | cont=>exact z
 | ret u=>exact z
end
end R61
namespace R61
open PySem L2 Rl
section
variable {P:Program} {w:World} {K:Frag} {mg:Str->Option Value} {base:Heap}
theorem J1e (row:List Nat) (n:Nat) (h:n<=row.length):cutV (nV row) none (some (n:Int))=nV (row.take n):=by
 unfold cutV;rw [Js,HT.sIx_nat,HT.sIx_none,Nat.min_eq_left h,nV_eq,nV_eq,map_take,drop_zero,Nat.sub_zero]
theorem sIx_m1 (n d:Nat) (h:1<=n):HT.sIx n d (some (-1))=n - 1:=by
 show (if (-1:Int) < 0 then ((-1:Int) + (n:Int)).toNat else min (-1:Int).toNat n)=n - 1;rw [if_pos (by decide)];omega
theorem cut_mid (row:List Nat) (n:Nat) (h:n<=row.length) (h1:1<=row.length):cutV (nV row) (some (n:Int)) (some (-1))=nV ((row.drop n).take (row.length - 1 - n)):=by
 unfold cutV;rw [Js,HT.sIx_nat,sIx_m1 _ _ h1,Nat.min_eq_left h,nV_eq,nV_eq,map_take,List.map_drop]
theorem nV_app (xs ys:List Nat):nV (xs ++ ys)=nV xs ++ nV ys:=by rw [nV_eq,nV_eq,nV_eq,map_append]
theorem nV_ne {xs:List Nat} (h:xs≠[]):nV xs≠[]:=by rw [nV_eq];exact fun e=>h (List.map_eq_nil_iff.mp e)
theorem nV_nil {xs:List Nat} (h:nV xs=[]):xs=[]:=by rw [nV_eq] at h;exact List.map_eq_nil_iff.mp h
theorem J1k {row:List Nat} (h:1<=row.length):atI (nV row) (-1)=some (V.int (row.getD (row.length - 1) 0:Nat)):=by
 have e:ixN (nV row).length (-1)=some (row.length - 1):=by
  unfold ixN;rw [Js,if_neg (by decide),if_pos (by omega)]
  congr 1
  omega
 unfold atI;rw [e];exact nV_at (by omega)
theorem idx_nat (row:List Nat) (a:Nat):(natI row).idxOf (a:Int)=row.idxOf a:=by
 unfold natI
 induction row with
 | nil=>rfl
 | cons x r ih =>
  rw [map_cons,List.idxOf_cons,List.idxOf_cons,ih];have e:((x:Int) == (a:Int))=(x == a):=by
   rw [Bool.eq_iff_iff,beq_iff_eq,beq_iff_eq];exact Int.ofNat_inj
  rw [e]
theorem mem_nat {row:List Nat} {a:Nat} (h:a∈row):(a:Int)∈natI row:=mem_map.mpr ⟨a,h,rfl⟩
theorem insV (os:List Nat) (i y:Nat):(nV os).take i ++ V.int (y:Int) :: (nV os).drop i=nV (insAt os i y):=by
 show ((os.map fun (n:Nat)=>(n:Int)).map V.int).take i ++ V.int (y:Int) :: ((os.map fun (n:Nat)=>(n:Int)).map V.int).drop i=((insAt os i y).map fun (n:Nat)=>(n:Int)).map V.int;unfold insAt;simp only [map_append,map_cons,map_take,List.map_drop]
theorem ints_inj {a b:List Int} (h:iV a=iV b):a=b:=(List.map_inj_right fun x y e=>V.int.inj e).mp h
def spRefOE (CB:Addr):Sp:=fun vs H Q E=>∃ (q:Addr) (xs:List Int) (n:Nat),vs=[.ref q,.int n]/\SqH H q (iV xs)/\xs.length < 64/\n<=100/\(OrdX xs n->∀ H',Same H H'->Q .non H')/\(¬ OrdX xs n->∀ H',Same H H'->E (.ref CB) none H')
theorem scRefOE:FnScope ["order","pieces"] ["order","pieces"] (J9 sRefO):=fS
theorem ok_refOE {f  CB : Addr} {fd  : FuncData}  (F : Fun K "refuse_order" "refuse_order" sRefO f fd) (T : TxtR mg) (hsorted : mg "sorted" = none) (TB : TxtX K mg "BadOrder" CB)
 :
    FnOk P w K mg base (Exc1 P w) 1 f fd ["order", "pieces"] (spRefOE CB) := by
  refine F.okX scRefOE (fun vs H Q E h => ?_) (fun cdv A outer s H vs Q E hr h => ?_)
  · obtain ⟨q, xs, n, rfl, _⟩ := h
    rfl
  · obtain ⟨q, xs, n, rfl, hq, hx, hn, kg, kb⟩ := h
    have hu := hr.units0;refine ⟨_, (J7 (ps_if (Jk (op_neL hu) (J8 J2i (by rfl) hsorted boot_sorted (J0 (pv 0) J2)) (Jb (J1g rfl) (by rfl) T.list boot_list (J0 (Jb call_rng (by rfl) T.range PyProof.Rows.boot_range (J0 (pv 1) J2)) J2)) (Jv _)) (J7 (J3i rfl TB.mg TB.ex)) Jl)), ?_⟩;refine ⟨_, rfl, q, xs, rfl, hq.sq, hx, fun l ns' hl h1 h2 => ?_⟩;refine ⟨_, rfl, (n : Int), rfl, fun r hr' => ⟨r, n, rfl, upd_same, by omega, fun l2 hl2 => ?_⟩⟩;have n1 : l ≠ r := J6 (H := upd H l (.lst (ns'.map V.int))) upd_same hr';have s1 : Same (upd H l (.lst (ns'.map V.int))) (upd (upd (upd H l (.lst (ns'.map V.int))) r (.rng 0 n)) l2 (.lst (((List.range n).map fun (i : Nat) => (i : Int)).map V.int))) := (J3 hr').trans (J3 hl2);refine ⟨l, l2, _, _, rfl, rfl, SqL.of (s1 _ _ upd_same), SqL.of upd_same, Kin.ints _ _, _, rfl, ?_⟩;by_cases c : OrdX xs n
    · obtain ⟨os, rfl, hp⟩ := c
      have e := J1p hp h1 h2;exact iteNS (by rw [e]; rfl) (kg ⟨os, rfl, hp⟩ _ ((J3 hl).trans s1))
    · refine iteND (fun e => c ?_) (kb c _ ((J3 hl).trans s1))
      have e2 : ns' = natI (List.range n) := ints_inj e;rw [e2] at h1;exact ordX_of h1
def spRefOf (CB:Addr):Sp:=fun vs H Q E=>∃ (q:Addr) (xs:List Int) (a b:Int),vs=[.ref q,.int a,.int b]/\SqH H q (iV xs)/\xs.length < 64/\(OrdX xs xs.length/\a<=xs.length/\(xs.length:Int)<=b->∀ H',Same H H'->Q .non H')/\(¬ (OrdX xs xs.length/\a<=xs.length/\(xs.length:Int)<=b)->∀ H',Same H H'->E (.ref CB) none H')
theorem scRefOf:FnScope ["order","fewest","most"] ["order","fewest","most"] (J9 sRefOf):=fS
theorem ok_refOf {f fRO CB:Addr} {fd fdRO:FuncData}  (F:Fun K "refuse_order_of" "refuse_order_of" sRefOf f fd) (T:TxtR mg) (TB:TxtX K mg "BadOrder" CB)
  (GRO:FnOk P w K mg base (Exc1 P w) 1 fRO fdRO ["order","pieces"] (spRefOE CB)) (bRO:Binds K fdRO ["order","pieces"] []) (mRO:mg "refuse_order"=some (.ref fRO)) (kRO:keepIn K (.ref fRO)=true) :
  FnOk P w K mg base (Exc1 P w) 2 f fd ["order","fewest","most"] (spRefOf CB):=by
 refine F.okX scRefOf (fun vs H Q E h=>?_) (fun cdv A outer s H vs Q E hr h=>?_)
 ·obtain ⟨q,xs,a,b,rfl,_⟩:=h;rfl
 ·obtain ⟨q,xs,a,b,rfl,hq,hx,kg,kb⟩:=h;have hr1:Room 1 _:=rm hr;refine ⟨_,(J1 (ps_if (PW.pt (pw_or (Jk op_lt (J8 J4 (by rfl) T.len boot_len (J0 (pv 0) J2)) (pv 1) (Jv _)) (pw_or1 (Jk op_gt (J8 J4 (by rfl) T.len boot_len (J0 (pv 0) J2)) (pv 2) (Jv _))))) (J7 (J3i rfl TB.mg TB.ex)) Jl)
   (J7 (J30 (Jm GRO hr1 rfl mRO kRO bRO .nil pass1 (J0 (pv 0) (J0 (J8 J4 (by rfl) T.len boot_len (J0 (pv 0) J2)) J2)))))),?_⟩
  have ll:(iV xs).length=xs.length:=length_map ..;refine ⟨_,rfl,q,_,rfl,hq.sq,_,rfl,_,_,rfl,rfl,_,rfl,?_⟩;by_cases c1:(xs.length:Int) < a
  ·refine iteDT (by rw [ll];exact c1) ?_;exact kb (fun z=>by omega) _ (Same.refl _)
  refine iteD (by rw [ll];exact c1) ?_;refine ⟨_,rfl,q,_,rfl,hq.sq,_,rfl,_,_,rfl,rfl,_,rfl,?_⟩;by_cases c2:b < (xs.length:Int)
  ·refine iteDT (by rw [ll];exact c2) ?_;exact kb (fun z=>by omega) _ (Same.refl _)
  refine iteD (by rw [ll];exact c2) ?_;refine ⟨_,rfl,_,rfl,q,_,rfl,hq.sq,q,xs,xs.length,(by rw [ll];rfl),hq,hx,by omega,fun c H' s'=>kg ⟨c,by omega,by omega⟩ H' s',fun c H' s'=>kb (fun z=>c z.1) H' s'⟩
def spFalls:Sp:=fun vs H Q _=>∃ (q:Addr) (os:List Nat),vs=[.ref q]/\SqH H q (nV os)/\1<=os.length/\os.length<=24/\(Tight os->∀ H',Same H H'->Q (.bl false) H')/\(¬ Tight os->∀ H',Same H H'->Q (.bl true) H')
theorem scFalls:FnScope ["order"] ["order"] (J9 sFalls):=fS
theorem ok_falls {f   : Addr} {fd  : FuncData}  (F : Fun K "falls_apart" "falls_apart" sFalls f fd) (T : TxtR mg) (hany : mg "any" = none) (hmax : mg "max" = none)
 :
    FnOk P w K mg base CX0 1 f fd ["order"] spFalls := by
  refine F.ok scFalls (fun vs H Q E h => ?_) (fun cdv A outer s H vs Q E hr h => ?_)
  · obtain ⟨q, os, rfl, _⟩ := h
    rfl
  · obtain ⟨q, os, rfl, hq, h1, h2, kt, kl⟩ := h
    refine ⟨_, (J7 (Jp (J8 (call_any rfl) (by rfl) hany PyProof.Rows.boot_any (J0 (pe_lc (caps := ["order"]) (js := [0]) rfl (J2m rfl T.range (J0 Jd (J0 (J8 J4 (by rfl) T.len boot_len (J0 (pv 0) J2)) J2))) rfl (fun _ _ _ _ => pts_nil) (fun C fp s H => (pe_cmpR op_lt (J8 (call_maxK K) (by rfl) hmax boot_max (J0 (J11 (sl_seqK K) (pv 1) J31 (J18 (pv 0))) J2)) (pv 0) (Jv _))) (by decide +kernel) (by decide +kernel) (by decide +kernel) (by intro p hp; simp only [mem_cons, not_mem_nil, or_false] at hp; rcases hp with rfl; rfl)) J2)))), ?_⟩;refine ⟨_, rfl, q, _, rfl, hq.sq, _, _, rfl, ⟨by decide, by decide, by omega, by rw [Js]; omega⟩, fun d hd => ?_⟩;have en : (((nV os).length : Int) - 1).toNat = os.length - 1 := by rw [Js]; omega
    rw [en];refine lc_rng 1 (os.length - 1) (fun _ => true) (fun i => V.bl (J1w os (i + 1))) (by omega) hd (fun i hi H Qt s kt => kt H (Same.refl _)) (fun i hi H3 Qe _ s3 ke => ?_) (fun H3 s3 hd' => ?_)
    · have e1 : (1 : Int) + (i : Nat) = ((i + 1 : Nat) : Int) := by omega
      have hlt : (os.take (i + 1)).length = i + 1 := by rw [length_take]; omega
      rw [e1];have fin : ∀ (p : Addr) (H4 : Hp), Same H3 H4 -> SqH H4 p (nV (os.take (i + 1))) -> ∀ M, M ∈ natI (os.take (i + 1)) -> (∀ a ∈ natI (os.take (i + 1)), a <= M) -> Qe (.bl (decide (M < ((i + 1 : Nat) : Int)))) H4 := fun p H4 s4 _ M hM hA => by
        rw [looseB_max hM hA]; exact ke H4 s4
      rcases hq.same s3 with hL | hT
      · refine ⟨_, rfl, _, rfl, _, rfl, .inl ⟨q, _, rfl, SqL.of hL, fun p hp => ?_⟩⟩
        rw [J1e _ _ (by omega)];refine ⟨p, natI (os.take (i + 1)), rfl, .inl (SqL.of upd_same), by rw [Jh]; omega, fun M hM hA => ⟨_, rfl, _, _, rfl, rfl, ?_⟩⟩;exact fin p _ (J3 hp) (.inl upd_same) M hM hA
      · refine ⟨_, rfl, _, rfl, _, rfl, .inr ⟨q, _, rfl, SqT.of hT, ?_, fun p hp => ?_⟩⟩
        · rw [Js, HT.sIx_nat]
          omega
        rw [J1e _ _ (by omega)];refine ⟨p, natI (os.take (i + 1)), rfl, .inr (SqT.of upd_same), by rw [Jh]; omega, fun M hM hA => ⟨_, rfl, _, _, rfl, rfl, ?_⟩⟩;exact fin p _ (J3 hp) (.inr upd_same) M hM hA
    · rw [J1z] at hd'
      refine ⟨d, (List.range (os.length - 1)).map fun i => J1w os (i + 1), rfl, SqL.of (by rw [hd', map_map]; rfl), ?_⟩;by_cases c : Tight os
      · have e : ((List.range (os.length - 1)).map fun i => J1w os (i + 1)).any id = false := by
          rw [<- Bool.not_eq_true];exact fun z => loose_any.mp z c
        rw [e]; exact kt c _ s3
      · rw [loose_any.mpr c]; exact kl c _ s3
def spToldO (CB CLo:Addr):Sp:=fun vs H Q E=>∃ (q:Addr) (xs:List Int),vs=[.ref q]/\SqH H q (iV xs)/\xs.length < 64/\
 (∀ os,xs=natI os->IsO os->2<=os.length->os.length<=7->Tight os->∀ l H',Same H H'->H' l=some (.tup (nV os))->Q (.ref l) H')/\
 (¬ (OrdX xs xs.length/\(2:Int)<=xs.length/\(xs.length:Int)<=7)->∀ H',Same H H'->E (.ref CB) none H')/\
 (∀ os,xs=natI os->IsO os->2<=os.length->os.length<=7->¬ Tight os->∀ H',Same H H'->E (.ref CLo) none H')
theorem scToldO:FnScope ["order"] ["order"] (J9 sToldO):=fS
theorem ok_toldO {f fRF fFA CB CLo:Addr} {fd fdRF fdFA:FuncData}  (F:Fun K "order_told" "order_told" sToldO f fd) (T:TxtR mg) (TLo:TxtX K mg "Loose" CLo) {t2 t7:Tok} (hfew:mg "FEWEST"=some (.int 2 t2)) (hmost:mg "MOST"=some (.int 7 t7))
  (GRF:FnOk P w K mg base (Exc1 P w) 2 fRF fdRF ["order","fewest","most"] (spRefOf CB)) (bRF:Binds K fdRF ["order","fewest","most"] []) (mRF:mg "refuse_order_of"=some (.ref fRF)) (kRF:keepIn K (.ref fRF)=true)
  (GFA:FnOk P w K mg base CX0 1 fFA fdFA ["order"] spFalls) (bFA:Binds K fdFA ["order"] []) (mFA:mg "falls_apart"=some (.ref fFA)) (kFA:keepIn K (.ref fFA)=true) :
  FnOk P w K mg base (Exc1 P w) 3 f fd ["order"] (spToldO CB CLo):=by
 refine F.okX scToldO (fun vs H Q E h=>?_) (fun cdv A outer s H vs Q E hr h=>?_)
 ·obtain ⟨q,xs,rfl,_⟩:=h;rfl
 ·obtain ⟨q,xs,rfl,hq,hx,kt,kb,kl⟩:=h;have hr1:Room 1 _:=rm hr;have hr2:Room 2 _:=rm hr;refine ⟨_,(J1 (J30 (Jm GRF hr2 rfl mRF kRF bRF .nil pass1 (J0 (pv 0) (J0 (pe_glob (v:=.int 2) rfl hfew ⟨_,rfl⟩) (J0 (pe_glob (v:=.int 7) rfl hmost ⟨_,rfl⟩) J2)))))
   (J1 (ps_if (J2l (Jm GFA hr1 rfl mFA kFA bFA .nil pass0 (J0 (pv 0) J2))) (J7 (J3i rfl TLo.mg TLo.ex)) Jl)
   (J7 (Jp (Jb J14 (by rfl) T.tuple boot_tuple (J0 (pv 0) J2)))))),?_⟩
  refine ⟨_,rfl,q,xs,2,7,rfl,hq,hx,fun c H1 s1=>?_,fun c H1 s1=>kb c H1 s1⟩;obtain ⟨c0,c1,c2⟩:=c;obtain ⟨os,rfl,io⟩:=c0.isO;rw [Jh] at c1 c2;have hq1:=hq.same s1;refine ⟨_,rfl,q,os,rfl,hq1,by omega,by omega,fun t H2 s2=>⟨_,rfl,iteF ?_⟩,fun t H2 s2=>⟨_,rfl,iteT ?_⟩⟩
  ·exact ⟨_,rfl,J10 (hq1.same s2) fun l H3 s3 hl=>kt os rfl io (by omega) (by omega) t l H3 (s1.trans (s2.trans s3)) hl⟩
  ·exact kl os rfl io (by omega) (by omega) t _ (s1.trans s2)
def spLedO:Sp:=fun vs H Q _=>∃ (p:Addr) (os:List Nat),vs=[.ref p]/\H p=some (.tup (nV os))/\IsO os/\2<=os.length/\os.length<=24/\Tight os/\∀ l H',Same H H'->H' l=some (.tup (nV (overO os)))->Q (.ref l) H'
theorem scLedO:FnScope ["order","last","behind"] ["order"] (J9 sLedO):=fS
theorem ok_ledO {f   : Addr} {fd  : FuncData}  (F : Fun K "led_over" "led_over" sLedO f fd) (T : TxtR mg)
 :
    FnOk P w K mg base CX0 1 f fd ["order"] spLedO := by
  refine F.ok scLedO (fun vs H Q E h => ?_) (fun cdv A outer s H vs Q E hr h => ?_)
  · obtain ⟨p, os, rfl, _⟩ := h
    rfl
  · obtain ⟨p, os, rfl, hp, io, h2, h24, t, k⟩ := h
    refine ⟨_, (J1 (Jq (i := 1) scLedO.nd rfl (Or.inl rfl) (pe_ix ix_tup (pv 0) (pe_un J2u Jd) (fun _ _ => rfl)))
      (J1 (Jq (i := 2) scLedO.nd rfl (Or.inl rfl) (pe_op J3k (pe_bmT PySem.F.slot_tuple_index PySem.F.type_tuple_index mt_indexT (pv 0) (J0 (pe_op J23 (J8 J4 (by rfl) T.len boot_len (J0 (pv 0) J2)) Jd) J2)) Jd))
      (J7 (Jp (pe_op op_catT (pe_op op_catT (J11 sl_tup (pv 0) J31 (J18 (pv 2))) (pe_tup (J0 (pv 1) J2))) (J11 sl_tup (pv 0) (J18 (pv 2)) (J18 (pe_un J2u Jd)))))))), ?_⟩
    have ll := Js os;have hb := J1c io t h2;have hz : ∀ n : Nat, n <= 100 -> n <= sizeLine := fun n h => Nat.le_of_lt (Jt (by omega));have e1 : ((nV os).length : Int) - 1 = ((os.length - 1 : Nat) : Int) := by rw [ll]; omega
    refine ⟨_, rfl, _, rfl, p, _, _, _, rfl, rfl, SqT.of hp, J1k (by omega), ?_⟩;refine ⟨_, rfl, ⟨p, _, rfl, hp⟩, _, rfl, p, _, rfl, .inr (SqT.of hp), _, _, rfl, rfl, p, natI os, ((nV os).length : Int) - 1, rfl, rfl, hp, (by rw [e1]; exact mem_nat (io.mem (by omega))), _, _, rfl, rfl, ?_⟩;rw [e1, idx_nat];obtain ⟨s, es⟩ : ∃ s, s = os.idxOf (os.length - 1) := ⟨_, rfl⟩;unfold overO at k;rw [<- es] at hb k ⊢;have e2 : (s : Int) + 1 = ((s + 1 : Nat) : Int) := by omega
    have ct : cutV (nV os) none (some ((s : Int) + 1)) = nV (os.take (s + 1)) := by rw [e2]; exact J1e _ _ (by omega)
    have cm : cutV (nV os) (some ((s : Int) + 1)) (some (-1)) = nV ((os.drop (s + 1)).take (os.length - 1 - (s + 1))) := by rw [e2]; exact cut_mid _ _ (by omega) (by omega)
    refine ⟨_, rfl, _, rfl, _, rfl, p, _, rfl, SqT.of hp, ?_, fun a ha => ?_⟩
    · rw [ll, e2, HT.sIx_nat]; omega
    rw [ct];have s1 := J3 (o := .tup (nV (os.take (s + 1)))) ha;refine ⟨_, rfl, (by show 1 <= sizeLine; decide), fun b hb' => ?_⟩;have s2 := s1.trans (J3 (o := .tup [V.int ((os.getD (os.length - 1) 0 : Nat) : Int)]) hb');have ha2 := J3 (o := .tup [V.int ((os.getD (os.length - 1) 0 : Nat) : Int)]) hb' a _ upd_same;refine ⟨a, b, _, _, rfl, rfl, SqT.of ha2, SqT.of upd_same, nV_ne ?_, ?_, fun z => ?_, fun _ c hc => ?_⟩
    · intro z
      have := congrArg List.length z;rw [length_take, length_nil] at this;omega
    · rw [Js, length_take]; exact hz _ (by show min (s + 1) os.length + 1 <= 100; omega)
    · cases z
    have s3 := s2.trans (J3 (o := .tup (nV (os.take (s + 1)) ++ [V.int ((os.getD (os.length - 1) 0 : Nat) : Int)])) hc);refine ⟨_, rfl, _, rfl, _, rfl, _, rfl, _, rfl, p, _, rfl, SqT.of (s3 _ _ hp), ?_, fun e he => ?_⟩
    · rw [ll, e2, HT.sIx_nat]; omega
    rw [cm];have s4 := s3.trans (J3 (o := .tup (nV ((os.drop (s + 1)).take (os.length - 1 - (s + 1))))) he);have hc4 := J3 (o := .tup (nV ((os.drop (s + 1)).take (os.length - 1 - (s + 1))))) he c _ upd_same;have eo : nV (os.take (s + 1)) ++ [V.int ((os.getD (os.length - 1) 0 : Nat) : Int)] = nV (os.take (s + 1) ++ [os.getD (os.length - 1) 0]) := by rw [nV_app]; rfl
    have hc5 := hc4.trans (congrArg (fun z => some (HO.tup z)) eo);refine ⟨c, e, _, _, rfl, rfl, SqT.of hc5, SqT.of upd_same, nV_ne (by simp), ?_, fun z => ?_, fun _ g hg => ?_⟩
    · rw [Js, Js, length_append, length_take, length_take, length_drop]
      exact hz _ (by show min (s + 1) os.length + 1 + min (os.length - 1 - (s + 1)) (os.length - (s + 1)) <= 100; omega)
    · refine k c _ s4 (hc5.trans ?_)
      rw [nV_nil z, append_nil]
    · refine k g _ (s4.trans (J3 hg)) ?_
      rw [upd_same, nV_app (_ ++ _)]
def spNumU:Sp:=fun vs H Q _=>∃ (p:Addr) (os:List Nat) (j:Nat),vs=[.ref p,.int (j:Nat)]/\H p=some (.tup (nV os))/\1<=os.length/\Q (.int (numU os.length (os.getD (os.length - 1) 0) j:Nat)) H
theorem scNumU:FnScope ["order","piece","last"] ["order","piece"] (J9 sNumU):=fS
theorem ok_numU {f   : Addr} {fd  : FuncData}  (F : Fun K "number_under" "number_under" sNumU f fd) (T : TxtR mg)
 :
    FnOk P w K mg base CX0 1 f fd ["order", "piece"] spNumU := by
  refine F.ok scNumU (fun vs H Q E h => ?_) (fun cdv A outer s H vs Q E hr h => ?_)
  · obtain ⟨p, os, j, rfl, _⟩ := h
    rfl
  · obtain ⟨p, os, j, rfl, hp, h1, k⟩ := h
    refine ⟨_, (J1 (Jq (i := 2) scNumU.nd rfl (Or.inl rfl) (pe_ix ix_tup (pv 0) (pe_un J2u Jd) (fun _ _ => rfl)))
      (J1 (ps_if (Jk op_le (pv 1) (pv 2) (Jv _)) (J7 (Jp (pv 1))) Jl)
      (J7 (Jp (pe_ifExp (Jk op_eq (pv 1) (pe_op J23 (J8 J4 (by rfl) T.len boot_len (J0 (pv 0) J2)) Jd) (Jv _)) (pe_op J3k (pv 2) Jd) (pe_op J3k (pv 1) Jd)))))), ?_⟩
    have ll := Js os;refine ⟨_, rfl, _, rfl, p, _, _, _, rfl, rfl, SqT.of hp, J1k h1, ?_⟩;unfold numU at k;refine ⟨_, rfl, _, rfl, _, _, rfl, rfl, _, rfl, ?_⟩;by_cases c : j <= os.getD (os.length - 1) 0
    · rw [if_pos c] at k
      exact iteDT (by omega) ⟨_, rfl, k⟩
    rw [if_neg c] at k;refine iteD (by omega) ?_;refine ⟨_, rfl, _, rfl, p, _, rfl, .inr (SqT.of hp), _, _, rfl, rfl, rfl, _, rfl, ?_⟩;by_cases c2 : j = os.length - 1
    · rw [if_pos c2] at k
      refine iteDT (by rw [ll]; congr 1; omega) ?_;exact ⟨_, rfl, _, _, rfl, rfl, k⟩
    · rw [if_neg c2] at k
      refine iteD (vint_ne (by rw [ll]; omega)) ?_;exact ⟨_, rfl, _, _, rfl, rfl, k⟩
def spLedU:Sp:=fun vs H Q _=>∃ (p:Addr) (os:List Nat),vs=[.ref p]/\H p=some (.tup (nV os))/\IsO os/\2<=os.length/\os.length<=24/\Tight os/\∀ l H',Same H H'->H' l=some (.tup (nV (J17 os)))->Q (.ref l) H'
theorem scLedU:FnScope ["order"] ["order"] (J9 sLedU):=fS
theorem ok_ledU {f fNU :Addr} {fd fdNU:FuncData}  (F:Fun K "led_under" "led_under" sLedU f fd) (T:TxtR mg)
  (GNU:FnOk P w K mg base CX0 1 fNU fdNU ["order","piece"] spNumU) (bNU:Binds K fdNU ["order","piece"] []) (mNU:mg "number_under"=some (.ref fNU)) (kNU:keepIn K (.ref fNU)=true) :
  FnOk P w K mg base CX0 2 f fd ["order"] spLedU:=by
 refine F.ok scLedU (fun vs H Q E h=>?_) (fun cdv A outer s H vs Q E hr h=>?_)
 ·obtain ⟨p,os,rfl,_⟩:=h;rfl
 ·obtain ⟨p,os,rfl,hp,io,h2,h24,t,k⟩:=h;have hr1:Room 1 _:=rm hr;refine ⟨_,(J7 (Jp (Jb J14 (by rfl) T.tuple boot_tuple (J0 (pe_lc (caps:=["order"]) (js:=[0]) rfl (pi_tup (pv 0)) rfl (fun _ _ _ _=>pts_nil) (fun C fp s H=>(Jm GNU hr1 rfl mNU kNU bNU .nil pass0 (J0 (pv 1) (J0 (pv 0) J2)))) (by decide +kernel) (by decide +kernel) (by decide +kernel) (by intro p hp;simp only [mem_cons,not_mem_nil,or_false] at hp;rcases hp with rfl;rfl)) J2)))),?_⟩;refine ⟨_,rfl,p,rfl,⟨_,SqT.of hp⟩,fun d hd=>lc_tup (fun (j:Nat)=>V.int (j:Int)) os (fun _=>true) (fun (j:Nat)=>V.int (numU os.length (os.getD (os.length - 1) 0) j:Nat)) (by rw [<- nV_eq];exact SqT.of hp) (by omega) hd
    (fun j _ H2 Qt _ k=>k H2 (Same.refl _)) (fun j hj H2 Qe _ s2 ke=>?_) (fun H2 s2 hd2=>?_)⟩
  ·exact ⟨_,rfl,_,rfl,p,os,j,rfl,s2 _ _ hp,by omega,ke _ (Same.refl _)⟩
  ·rw [J1z] at hd2;refine J10 (.inl hd2) fun l H3 s3 hl=>k l _ (s2.trans s3) ?_;rw [hl];unfold J17;rw [nV_eq,map_map];rfl
def keyO (o:List Nat):List Key:=o.map fun (x:Nat)=>(Sum.inl (x:Int):Key)
theorem J24 (o:List Nat):(keyO o).map kV=nV o:=by rw [nV_eq];unfold keyO;rw [map_map];rfl
theorem J1x {a b:List Nat} (h:keyO a=keyO b):a=b:=by
 unfold keyO at h;exact (List.map_inj_right fun x y e=>by cases e;rfl).mp h
structure KeysO (n:Nat) (kvs:List (List Key × V)) (ks:List (List Nat)):Prop where
 eq:kvs.map (·.1)=ks.map keyO
 nd:ks.Nodup
 ok:∀ o∈ks,OkO n o
theorem valV_none {kvs:List (List Key × V)} {k:List Key} (h:k ∉ kvs.map (·.1)):valV kvs k=none:=by
 unfold valV;rw [List.find?_eq_none.mpr fun p hp q=>h (mem_map.mpr ⟨p,hp,of_decide_eq_true q⟩)];rfl
theorem valV_some {kvs:List (List Key × V)} {k:List Key} (h:k∈kvs.map (·.1)):(valV kvs k).isSome=true:=by
 unfold valV;rw [isSome_map,List.find?_isSome];obtain ⟨p,hp,e⟩:=mem_map.mp h;exact ⟨p,hp,decide_eq_true e⟩
theorem putK_new {kvs:List (List Key × V)} {k:List Key} {v:V} (h:k ∉ kvs.map (·.1)):putK kvs k v=kvs ++ [(k,v)]:=by
 unfold putK;rw [if_neg];intro q;rw [List.any_eq_true] at q;obtain ⟨p,hp,e⟩:=q;exact h (mem_map.mpr ⟨p,hp,of_decide_eq_true e⟩)
theorem KeysO.in_ {n:Nat} {kvs:List (List Key × V)} {ks:List (List Nat)} (h:KeysO n kvs ks) {o:List Nat}:keyO o∈kvs.map (·.1)↔o∈ks:=by
 rw [h.eq];constructor
 ·intro q;obtain ⟨z,hz,e⟩:=mem_map.mp q;exact J1x e ▸ hz
 ·intro q;exact mem_map.mpr ⟨o,q,rfl⟩
theorem KeysO.len {n:Nat} {kvs:List (List Key × V)} {ks:List (List Nat)} (h:KeysO n kvs ks):kvs.length=ks.length:=by
 have:=congrArg List.length h.eq;rwa [length_map,length_map] at this
theorem KeysO.put {n:Nat} {kvs:List (List Key × V)} {ks:List (List Nat)} (h:KeysO n kvs ks) {o:List Nat} (ho:OkO n o) (hn:o ∉ ks) (v:V):KeysO n (putK kvs (keyO o) v) (ks ++ [o]):=by
 rw [putK_new fun q=>hn (h.in_.mp q)];refine ⟨by rw [map_append,map_append,h.eq];rfl,?_,fun z hz=>?_⟩
 ·rw [nodup_append];refine ⟨h.nd,by simp,fun a ha b hb e=>?_⟩;rw [mem_singleton.mp hb] at e;exact hn (e ▸ ha)
 ·rcases mem_append.mp hz with q | q
  ·exact h.ok z q
  ·rw [mem_singleton.mp q];exact ho
def TupKeep (H H':Hp):Prop:=∀ b xs,H b=some (.tup xs)->H' b=some (.tup xs)
theorem TupKeep.of {H H':Hp} (s:Same H H'):TupKeep H H':=fun b xs e=>s _ _ e
theorem TupKeep.trans {H H1 H2:Hp} (a:TupKeep H H1) (b:TupKeep H1 H2):TupKeep H H2:=fun c xs e=>b _ _ (a _ _ e)
theorem TupKeep.lst {H:Hp} {l:Addr} {xs:List V} {o:HO} (h:H l=some (.lst xs)):TupKeep H (upd H l o):=fun b ys e=>by rw [Ja (ne_of e h (by intro z;cases z))];exact e
theorem TupKeep.dict {H:Hp} {l:Addr} {kvs:List (List Key × V)} {o:HO} (h:H l=some (.dT kvs)):TupKeep H (upd H l o):=fun b ys e=>by rw [Ja (ne_of e h (by intro z;cases z))];exact e
def wS (w:Bool):Str:=if w=true then Str.ofString "over" else Str.ofString "under"
def PathV (Hx:Hp) (kvs:List (List Key × V)) (ks:List (List Nat)) (os:List Nat) (d:List Nat->Nat):Prop:=∀ o∈ks,o≠os->∃ (t c:Addr) (w:Bool) (p:List Nat),valV kvs (keyO o)=some (.ref t)/\Hx t=some (.tup [.str (wS w),.ref c])/\Hx c=some (.tup (nV p))/\p∈ks/\o=stepO w p/\d o=d p + 1
structure LvI (n L i:Nat) (os:List Nat) (Hx:Hp) (fs cs:List V) (kvs:List (List Key × V)) (ks:List (List Nat)) (d:List Nat->Nat):Prop where
 K:KeysO n kvs ks
 o:os∈ks
 d0:d os=0
 A:∀ o∈ks,d o<=L + 1
 B:∀ o∈ks,d o < L->Clo ks d o
 C:∀ o∈ks,d o=L->Clo ks d o\/∃ j c,i<=j/\fs[j]?=some (.ref c)/\Hx c=some (.tup (nV o))
 D:∀ o∈ks,d o=L + 1->∃ c,V.ref c∈cs/\Hx c=some (.tup (nV o))
 F:∀ v∈fs,∃ c o,v=.ref c/\Hx c=some (.tup (nV o))/\OkO n o/\o∈ks/\d o=L
 G:∀ v∈cs,∃ c o,v=.ref c/\Hx c=some (.tup (nV o))/\OkO n o/\o∈ks/\d o=L + 1
 P:PathV Hx kvs ks os d
theorem LvI.keep {n L i:Nat} {os:List Nat} {Hx Hy:Hp} {fs cs:List V} {kvs:List (List Key × V)} {ks:List (List Nat)} {d:List Nat->Nat} (h:LvI n L i os Hx fs cs kvs ks d) (tk:TupKeep Hx Hy):LvI n L i os Hy fs cs kvs ks d where
 K:=h.K
 o:=h.o
 d0:=h.d0
 A:=h.A
 B:=h.B
 C o ho e:=(h.C o ho e).elim .inl fun h9=>by obtain ⟨j,c,h1,h2,h3⟩:=h9;exact .inr ⟨j,c,h1,h2,tk _ _ h3⟩
 D o ho e:=by obtain ⟨c,h1,h2⟩:=h.D o ho e;exact ⟨c,h1,tk _ _ h2⟩
 F v hv:=by obtain ⟨c,o,h1,h2,h3⟩:=h.F v hv;exact ⟨c,o,h1,tk _ _ h2,h3⟩
 G v hv:=by obtain ⟨c,o,h1,h2,h3⟩:=h.G v hv;exact ⟨c,o,h1,tk _ _ h2,h3⟩
 P o ho e:=by obtain ⟨t,c,w,p,h1,h2,h3,h4⟩:=h.P o ho e;exact ⟨t,c,w,p,h1,tk _ _ h2,tk _ _ h3,h4⟩
theorem LvI.add {n L i:Nat} {os o oo:List Nat} {Hx:Hp} {fs cs:List V} {kvs:List (List Key × V)} {ks:List (List Nat)} {d:List Nat->Nat} {c aa vt:Addr} {w:Bool} (h:LvI n L i os Hx fs cs kvs ks d) (hn:oo ∉ ks) (ho:o∈ks) (hL:d o=L) (e:oo=stepO w o) (ok:OkO n oo)
  (hc:Hx c=some (.tup (nV o))) (ha:Hx aa=some (.tup (nV oo))) (hv:Hx vt=some (.tup [.str (wS w),.ref c])):LvI n L i os Hx fs (cs ++ [.ref aa]) (putK kvs (keyO oo) (.ref vt)) (ks ++ [oo]) (setD d oo (L + 1)):=by
 have sp:∀ x,x∈ks ++ [oo]->x∈ks\/x=oo:=fun x hx=>(mem_append.mp hx).imp id mem_singleton.mp;refine ⟨h.K.put ok hn _,mem_append_left _ h.o,by rw [Ju hn h.o];exact h.d0,fun x hx=>?_,fun x hx hd=>?_,fun x hx hd=>?_,fun x hx hd=>?_,fun v hv'=>?_,fun v hv'=>?_,fun x hx ne=>?_⟩
 ·rcases sp x hx with z | rfl
  ·rw [Ju hn z];exact h.A x z
  ·rw [J2a];exact Nat.le_refl _
 ·rcases sp x hx with z | rfl
  ·rw [Ju hn z] at hd;exact (h.B x z hd).add z hn
  ·rw [J2a] at hd;omega
 ·rcases sp x hx with z | rfl
  ·rw [Ju hn z] at hd;exact (h.C x z hd).imp (fun q=>q.add z hn) id
  ·rw [J2a] at hd;omega
 ·rcases sp x hx with z | rfl
  ·rw [Ju hn z] at hd;obtain ⟨c',q1,q2⟩:=h.D x z hd;exact ⟨c',mem_append_left _ q1,q2⟩
  ·exact ⟨aa,mem_append_right _ (mem_singleton_self _),ha⟩
 ·obtain ⟨c',x,e1,e2,e3,e4,e5⟩:=h.F v hv';exact ⟨c',x,e1,e2,e3,mem_append_left _ e4,by rw [Ju hn e4];exact e5⟩
 ·rcases mem_append.mp hv' with q | q
  ·obtain ⟨c',x,e1,e2,e3,e4,e5⟩:=h.G v q;exact ⟨c',x,e1,e2,e3,mem_append_left _ e4,by rw [Ju hn e4];exact e5⟩
  ·exact ⟨aa,oo,mem_singleton.mp q,ha,ok,mem_append_right _ (mem_singleton_self _),J2a⟩
 ·rcases sp x hx with z | rfl
  ·obtain ⟨t,c',v,p,e1,e2,e3,e4,e5,e6⟩:=h.P x z ne;refine ⟨t,c',v,p,?_,e2,e3,mem_append_left _ e4,e5,by rw [Ju hn z,Ju hn e4];exact e6⟩;rw [valV_put,if_neg (fun q=>hn ((show x=oo from J1x q) ▸ z))];exact e1
  ·exact ⟨vt,c,w,o,by rw [valV_put,if_pos rfl],hv,hc,mem_append_left _ ho,e,by rw [J2a,Ju hn ho,hL]⟩
structure WSg (H:Hp) (d cl:Addr) (c0:Nat) (Hx:Hp) (cs:List V) (kvs:List (List Key × V)) (ks:List (List Nat)):Prop where
 hd:Hx d=some (.dT kvs)
 hc:Hx cl=some (.lst cs)
 l:ks.length=c0 + cs.length
 s:Same H Hx
theorem WSg.same {H Hx Hy:Hp} {c0:Nat} {d cl:Addr} {cs:List V} {kvs:List (List Key × V)} {ks:List (List Nat)} (h:WSg H d cl c0 Hx cs kvs ks) (s:Same Hx Hy):WSg H d cl c0 Hy cs kvs ks:=⟨s _ _ h.hd,s _ _ h.hc,h.l,h.s.trans s⟩
theorem WSg.add {H Hx:Hp} {c0:Nat} {oo:List Nat} {d cl aa:Addr} {cs:List V} {kvs:List (List Key × V)} {ks:List (List Nat)} (h:WSg H d cl c0 Hx cs kvs ks) (nd:H d=none) (nc:H cl=none) (v:V) :
  WSg H d cl c0 (upd (upd Hx d (.dT (putK kvs (keyO oo) v))) cl (.lst (cs ++ [.ref aa]))) (cs ++ [.ref aa]) (putK kvs (keyO oo) v) (ks ++ [oo])/\TupKeep Hx (upd (upd Hx d (.dT (putK kvs (keyO oo) v))) cl (.lst (cs ++ [.ref aa]))):=by
 have ne:d≠cl:=ne_of h.hd h.hc (by intro z;cases z);have hc1:upd Hx d (.dT (putK kvs (keyO oo) v)) cl=some (.lst cs):=by rw [Ja ne.symm];exact h.hc
 refine ⟨⟨by rw [Ja ne];exact upd_same,upd_same,by rw [length_append,length_append,h.l];simp only [length_cons,length_nil];omega,fun b o e=>?_⟩,(TupKeep.dict h.hd).trans (TupKeep.lst hc1)⟩;rw [Ja (J6 e nc),Ja (J6 e nd)];exact h.s _ _ e
def spWordsG:Sp:=fun vs H Q _=>∃ (p:Addr) (os:List Nat) (n:Nat),vs=[.ref p]/\H p=some (.tup (nV os))/\OkO n os/\2<=n/\n<=7/\
 ∀ d H' kvs ks dist,Same H H'->H' d=some (.dT kvs)->KeysO n kvs ks->Fam os ks dist->PathV H' kvs ks os dist->Q (.ref d) H'
theorem scWordsF:FnScope ["order","found","fresh","coming","one","word","reached"] ["order"] (J9 sWordsF):=fS
theorem ok_wordsG {f fLO fLU :Addr} {fd fdLO fdLU:FuncData}  (F:Fun K "words_from" "words_from" sWordsF f fd)
  (GLO:FnOk P w K mg base CX0 1 fLO fdLO ["order"] spLedO) (bLO:Binds K fdLO ["order"] []) (mLO:mg "led_over"=some (.ref fLO)) (kLO:keepIn K (.ref fLO)=true)
  (GLU:FnOk P w K mg base CX0 2 fLU fdLU ["order"] spLedU) (bLU:Binds K fdLU ["order"] []) (mLU:mg "led_under"=some (.ref fLU)) (kLU:keepIn K (.ref fLU)=true) :
  FnOk P w K mg base CX0 3 f fd ["order"] spWordsG:=by
 refine F.ok scWordsF (fun vs H Q E h=>?_) (fun cdv A outer s H vs Q E hr h=>?_)
 ·obtain ⟨p,os,n,rfl,_⟩:=h;rfl
 ·obtain ⟨p,os,n,rfl,hp,ok,n2,n7,k⟩:=h;have hr1:Room 1 _:=rm hr;have hr2:Room 2 _:=rm hr;have hu1:=Nat.lt_of_le_of_lt (Nat.add_le_add_left (by decide:1<=64) _) hr.units;refine ⟨_,(J1 (Jq (i:=1) scWordsF.nd rfl (Or.inl rfl) (pe_disp1 hu1 (pv 0) pe_non))
   (J1 (Jq (i:=2) scWordsF.nd rfl (Or.inl rfl) (J3j (J0 (pv 0) J2)))
   (J1 (ps_while PassesOwn.never (pt_truth (pv 2) (fun _=>rfl))
    (J1 (Jq (i:=3) scWordsF.nd rfl (Or.inl rfl) (J3j J2))
    (J1 (J2z PassesOwn.never rfl (J32 (pv 2)) (Jz (i:=4) scWordsF.nd rfl (Or.inl rfl))
     (J7 (J2z PassesOwn.never rfl (pi_tup (pe_tup (J0 (pe_tup (J0 pe_str (J0 (Jm GLO hr1 rfl mLO kLO bLO .nil pass0 (J0 (pv 4) J2)) J2))) (J0 (pe_tup (J0 pe_str (J0 (Jm GLU hr2 rfl mLU kLU bLU .nil pass0 (J0 (pv 4) J2)) J2))) J2)))) (pg_tup rfl (pgs_cons (Jz (i:=5) scWordsF.nd rfl (Or.inl rfl)) (pgs_cons (Jz (i:=6) scWordsF.nd rfl (Or.inl rfl)) pgs_nil)))
      (J7 (ps_if (pt_cmp (J2n hu1 (pv 6) (pv 1))) (J1 (ps_dput hu1 (pv 1) (pv 6) (pe_tup (J0 (pv 5) (J0 (pv 4) J2))) rfl)
       (J7 (J30 (pe_bm PySem.F.plainAttrs_list PySem.F.slot_list_append PySem.F.type_list_append J2o (pv 3) (J0 (pv 6) J2))))) Jl)))))
    (J7 (Jq (i:=2) scWordsF.nd rfl (Or.inl rfl) (pv 3))))))
   (J7 (Jp (pv 1)))))),?_⟩
  have hz:∀ m:Nat,m<=2000000->m < sizeLine:=fun m h=>by rw [sizeLine_eq];omega
  intro d hd;have s1:=J3 (o:=.dT []) hd;refine ⟨_,rfl,p,keyO os,rfl,(by rw [J24];exact s1 _ _ hp),upd_same,?_⟩;have sd:Same H (upd (upd H d (.dT [])) d (.dT (putK [] (keyO os) .non))):=fun b o e=>by rw [Ja (J6 e hd)];exact s1 _ _ e
  have hd2:upd (upd H d (.dT [])) d (.dT (putK [] (keyO os) .non)) d=some (.dT (putK [] (keyO os) .non)):=upd_same;generalize upd (upd H d (.dT [])) d (.dT (putK [] (keyO os) .non))=H2 at *;have K0:KeysO n (putK [] (keyO os) .non) [os]:=⟨rfl,by simp,fun o ho=>by rw [mem_singleton.mp ho];exact ok⟩;refine ⟨_,rfl,(by show 1<=sizeLine;decide),fun fr hfr=>?_⟩;have s3:=J3 (o:=.lst [V.ref p]) hfr;have hp3:=s3 _ _ (sd _ _ hp);refine ⟨fun m σ Hw=>∃ (v3 v4 v5 v6:Option V) (fr:Addr) (fs:List V) (kvs:List (List Key × V)) (ks:List (List Nat)) (dist:List Nat->Nat) (L:Nat),σ=[some (.ref p),some (.ref d),some (.ref fr),v3,v4,v5,v6]/\Hw d=some (.dT kvs)/\Hw fr=some (.lst fs)/\LvI n L 0 os Hw fs [] kvs ks dist/\Same H Hw/\m=2 * (823544 - ks.length) + (if fs.isEmpty=true then 0 else 1),
   ⟨_,none,none,none,none,fr,[.ref p],_,[os],fun _=>0,0,rfl,s3 _ _ hd2,upd_same,⟨K0,mem_singleton_self _,rfl,fun _ _=>Nat.zero_le _,fun _ _ q=>(Nat.not_lt_zero _ q).elim,fun o ho _=>.inr ⟨0,p,Nat.le_refl _,rfl,(by rw [mem_singleton.mp ho];exact hp3)⟩,fun _ _ q=>(by cases q),fun v hv=>⟨p,os,mem_singleton.mp hv,hp3,ok,mem_singleton_self _,rfl⟩,fun v hv=>(by cases hv),fun o ho ne=>(ne (mem_singleton.mp ho)).elim⟩,sd.trans s3,rfl⟩,?_⟩
  rintro m σ Hw ⟨v3,v4,v5,v6,fr,fs,kvs,ks,dist,L,rfl,hd1,hf,LI,sw,rfl⟩;refine ⟨_,rfl,!fs.isEmpty,.inl ⟨fs,SqL.of hf,rfl⟩,?_⟩
  cases hfs:fs.isEmpty with
  | true =>
   refine iteF ?_;have fs0:fs=[]:=List.isEmpty_iff.mp hfs;refine ⟨_,rfl,k d Hw kvs ks dist sw hd1 LI.K ⟨LI.o,LI.d0,fun o ho=>?_,fun o ho ne=>?_⟩ LI.P⟩
   ·have hA:dist o < L\/dist o=L\/dist o=L + 1:=by have:=LI.A o ho;omega
    rcases hA with q | q | q
    ·exact LI.B o ho q
    ·rcases LI.C o ho q with z | ⟨j,c,_,z,_⟩
     ·exact z
     ·rw [fs0] at z;cases z
    ·obtain ⟨c,z,_⟩:=LI.D o ho q;cases z
   ·obtain ⟨t,c,w,p',_,_,_,e4,e5,e6⟩:=LI.P o ho ne;exact ⟨p',e4,w,e5,e6⟩
  | false =>
   refine iteT ?_;refine ⟨fun σ' H'=>∃ (v4 v5 v6:Option V) (cl:Addr) (cs:List V) (kvs':List (List Key × V)) (ks':List (List Nat)) (dist':List Nat->Nat),σ'=[some (.ref p),some (.ref d),some (.ref cl),some (.ref cl),v4,v5,v6]/\WSg H d cl ks.length H' cs kvs' ks'/\LvI n L fs.length os H' fs cs kvs' ks' dist',?_,?_⟩
   ·rintro σ' H' ⟨v4,v5,v6,cl,cs,kvs',ks',dist',rfl,W,I⟩;refine ⟨_,?_,_,v4,v5,v6,cl,cs,kvs',ks',dist',L + 1,rfl,W.hd,W.hc,⟨I.K,I.o,I.d0,fun o ho=>Nat.le_succ_of_le (I.A o ho),fun o ho q=>?_,fun o ho q=>?_,fun o ho q=>?_,I.G,fun v hv=>(by cases hv),I.P⟩,W.s,rfl⟩
    ·have few:=J2p n7 I.K.nd I.K.ok;have hl:=W.l
     cases hcs:cs.isEmpty with
     | true =>
      have:cs.length=0:=by rw [List.isEmpty_iff.mp hcs];rfl
      rw [if_pos rfl,if_neg Bool.false_ne_true];omega
     | false =>
      have:cs.length≠0:=fun z=>by rw [List.length_eq_zero_iff.mp z] at hcs;cases hcs
      rw [if_neg Bool.false_ne_true];omega
    ·by_cases z:dist' o=L
     ·rcases I.C o ho z with q' | ⟨j,c,h1,h2,_⟩
      ·exact q'
      ·rw [List.getElem?_eq_none h1] at h2;cases h2
     ·exact I.B o ho (by omega)
    ·obtain ⟨c,h1,h2⟩:=I.D o ho q;obtain ⟨j,hj,e⟩:=getElem_of_mem h1;exact .inr ⟨j,c,Nat.zero_le _,by rw [List.getElem?_eq_getElem hj,e],h2⟩
    ·have:=I.A o ho;omega
   refine ⟨Nat.zero_le _,fun cl hcl=>?_⟩;have s4:=J3 (o:=.lst []) hcl;have nc:H cl=none:=by
    cases e:H cl with
    | none=>rfl
    | some o=>rw [sw _ _ e] at hcl;cases hcl
   have W0:WSg H d cl ks.length (upd Hw cl (.lst [])) [] kvs ks:=⟨s4 _ _ hd1,upd_same,by simp,sw.trans s4⟩;have hf4:=s4 _ _ hf;have hcf:cl≠fr:=(J6 hf hcl).symm;refine ⟨_,rfl,fr,rfl,⟨_,SqL.of hf4⟩,J3q (K:=K) (a:=fr) (xs:=fs) (fun i σ Hx=>∃ (v4 v5 v6:Option V) (cs:List V) (kvs':List (List Key × V)) (ks':List (List Nat)) (dist':List Nat->Nat),σ=[some (.ref p),some (.ref d),some (.ref fr),some (.ref cl),v4,v5,v6]/\WSg H d cl ks.length Hx cs kvs' ks'/\LvI n L i os Hx fs cs kvs' ks' dist'/\Hx fr=some (.lst fs))
    ⟨_,_,_,[],kvs,ks,dist,rfl,W0,LI.keep (TupKeep.of s4),hf4⟩ (fun i σ Hx _ ⟨_,_,_,_,_,_,_,_,_,_,e⟩=>SqL.of e) ?_ ?_⟩
   ·rintro i v σ Hx hv ⟨v4,v5,v6,cs,kvs',ks',dist',rfl,W,I,hfx⟩;obtain ⟨c,o,rfl,hc,oko,ho,hoL⟩:=I.F _ (List.mem_of_getElem? hv);have lo:=oko.len;refine ⟨_,rfl,c,o,rfl,hc,oko.io,by omega,by omega,oko.t,fun a1 H5 s5 ha1=>?_⟩;refine ⟨(by show 2<=sizeLine;decide),fun t1 ht1=>?_⟩;have s6:=J3 (o:=.tup [.str (Str.ofString "over"),.ref a1]) ht1;have s56:=s5.trans s6;refine ⟨_,rfl,c,o,rfl,s56 _ _ hc,oko.io,by omega,by omega,oko.t,fun a2 H7 s7 ha2=>?_⟩;refine ⟨(by show 2<=sizeLine;decide),fun t2 ht2=>?_⟩;have s8:=J3 (o:=.tup [.str (Str.ofString "under"),.ref a2]) ht2;refine ⟨(by show 2<=sizeLine;decide),fun tt htt=>?_⟩;have s9:=J3 (o:=.tup [.ref t1,.ref t2]) htt;have s59:=s56.trans (s7.trans (s8.trans s9));have s79:=s7.trans (s8.trans s9);have e1:=s79 t1 _ upd_same;have e2:=s9 t2 _ upd_same;have f1:=s79 _ _ (s6 _ _ ha1);have f2:=s9 _ _ (s8 _ _ ha2);have et:upd (upd H7 t2 (.tup [.str (Str.ofString "under"),.ref a2])) tt (.tup [.ref t1,.ref t2]) tt=some (.tup [.ref t1,.ref t2]):=upd_same;have Wz:=W.same s59;have Iz:=I.keep (TupKeep.of s59);have hfz:=s59 _ _ hfx;have hcz:=s59 _ _ hc;generalize upd (upd H7 t2 (.tup [.str (Str.ofString "under"),.ref a2])) tt (.tup [.ref t1,.ref t2])=Hz at *;refine ⟨tt,rfl,⟨_,SqT.of et⟩,for_tup (K:=K) (a:=tt) (xs:=[.ref t1,.ref t2]) (fun j σ Hy=>∃ (v5 v6:Option V) (cs:List V) (kvs':List (List Key × V)) (ks':List (List Nat)) (dist':List Nat->Nat),σ=[some (.ref p),some (.ref d),some (.ref fr),some (.ref cl),some (.ref c),v5,v6]/\WSg H d cl ks.length Hy cs kvs' ks'/\LvI n L i os Hy fs cs kvs' ks' dist'/\Hy fr=some (.lst fs)/\TupKeep Hz Hy/\(o∈ks'/\dist' o=L)/\∀ w:Bool,(if w=true then 1 else 2)<=j->stepO w o∈ks'/\dist' (stepO w o)<=L + 1)
     ⟨_,_,cs,kvs',ks',dist',rfl,Wz,Iz,hfz,fun _ _ e=>e,⟨ho,hoL⟩,fun w hw=>by cases w <;> simp at hw⟩ (fun j σ Hy _ ⟨_,_,_,_,_,_,_,_,_,_,q,_⟩=>SqT.of (q _ _ et)) ?_ ?_⟩
    ·rintro j v σ Hy hv ⟨v5,v6,cs,kvs',ks',dist',rfl,Wy,Iy,hfy,tk,⟨hoy,hdy⟩,don⟩;obtain ⟨t0,w0,aa,oo,rfl,ht0,haa,okk,eoo,hjw⟩:∃ t0 w0 aa oo,v=.ref t0/\Hy t0=some (.tup [.str (wS w0),.ref aa])/\Hy aa=some (.tup (nV oo))/\OkO n oo/\oo=stepO w0 o/\j + 1=(if w0=true then 1 else 2):=by
      rcases j with _ | _ | j
      ·cases hv;exact ⟨t1,true,a1,_,rfl,tk _ _ e1,tk _ _ f1,oko.over n2,rfl,rfl⟩
      ·cases hv;exact ⟨t2,false,a2,_,rfl,tk _ _ e2,tk _ _ f2,oko.under n2,rfl,rfl⟩
      ·cases hv
     have don':∀ {ks'':List (List Nat)} {d'':List Nat->Nat},(∀ x∈ks',x∈ks''/\d'' x=dist' x)->(oo∈ks''/\d'' oo<=L + 1)->∀ w:Bool,(if w=true then 1 else 2)<=j + 1->stepO w o∈ks''/\d'' (stepO w o)<=L + 1:=fun {ks'' d''} mono hoo w hw=>by
      by_cases z:w=w0
      ·subst z;rw [<- eoo];exact hoo
      ·have:(if w=true then 1 else 2)<=j:=by
        cases w <;> cases w0 <;> simp at hw hjw z ⊢ <;> omega
       obtain ⟨q1,q2⟩:=don w this;obtain ⟨q3,q4⟩:=mono _ q1;exact ⟨q3,by rw [q4];exact q2⟩
     refine ⟨t0,_,rfl,SqT.of ht0,rfl,_,_,rfl,_,_,rfl,rfl,?_⟩;refine ⟨_,rfl,_,rfl,d,_,rfl,DGet.t Wy.hd (by rw [J24];exact haa),_,rfl,?_⟩;by_cases hin:oo∈ks'
     ·rw [valV_some (Iy.K.in_.mpr hin)];exact iteF ⟨_,_,cs,kvs',ks',dist',rfl,Wy,Iy,hfy,tk,⟨hoy,hdy⟩,don' (fun x hx=>⟨hx,rfl⟩) ⟨hin,Iy.A _ hin⟩⟩
     ·rw [valV_none fun q=>hin (Iy.K.in_.mp q)];refine iteT ?_;refine ⟨_,rfl,_,rfl,(by show 2<=sizeLine;decide),fun vt hvt=>?_⟩;have s10:=J3 (o:=.tup [.str (wS w0),.ref c]) hvt;have W10:=Wy.same s10;have I10:=Iy.keep (TupKeep.of s10);have few:=J2p n7 I10.K.nd I10.K.ok;have kl:=I10.K.len;have cl_:=W10.l;have I11:=I10.add hin hoy hdy eoo okk (s10 _ _ (tk _ _ hcz)) (s10 _ _ haa) upd_same;obtain ⟨W11,t11⟩:=W10.add (oo:=oo) (aa:=aa) hd nc (.ref vt);have ndc:d≠cl:=ne_of W10.hd W10.hc (by intro z;cases z);have nfd:fr≠d:=ne_of (s10 _ _ hfy) W10.hd (by intro z;cases z);refine ⟨_,rfl,_,rfl,d,_,rfl,DPut.t W10.hd (by rw [J24];exact s10 _ _ haa) (hz _ (by omega)),?_⟩;have hc12:upd (upd Hy vt (.tup [.str (wS w0),.ref c])) d (.dT (putK kvs' (keyO oo) (.ref vt))) cl=some (.lst cs):=by rw [Ja ndc.symm];exact W10.hc
      refine ⟨_,rfl,.inl ⟨rfl,_,SqL.of hc12⟩,_,rfl,cl,cs,.ref aa,rfl,rfl,hc12,hz _ (by omega),?_⟩;refine ⟨_,_,_,_,_,_,rfl,W11,I11.keep t11,?_,(tk.trans (TupKeep.of s10)).trans t11,⟨mem_append_left _ hoy,by rw [Ju hin hoy];exact hdy⟩,don' (fun x hx=>⟨mem_append_left _ hx,Ju hin hx⟩) ⟨mem_append_right _ (mem_singleton_self _),by rw [J2a];exact Nat.le_refl _⟩⟩;rw [Ja hcf.symm,Ja nfd];exact s10 _ _ hfy
    ·rintro σ Hy ⟨v5,v6,cs,kvs',ks',dist',rfl,Wy,Iy,hfy,tk,⟨hoy,hdy⟩,don⟩;refine ⟨_,_,_,cs,kvs',ks',dist',rfl,Wy,⟨Iy.K,Iy.o,Iy.d0,Iy.A,Iy.B,fun x hx hd=>?_,Iy.D,Iy.F,Iy.G,Iy.P⟩,hfy⟩;rcases Iy.C x hx hd with q | ⟨j,c',h1,h2,h3⟩
     ·exact .inl q
     ·by_cases z:j=i
      ·left;subst z;have ec:c'=c:=by
        rw [hv] at h2;cases h2;rfl
       subst ec;have ex:nV x=nV o:=by
        rw [tk _ _ hcz] at h3;exact (HO.tup.inj (Option.some.inj h3)).symm
       have ex:x=o:=J1v (ints_inj ex);subst ex;intro w;have:=don w (by cases w <;> simp);rw [hdy];exact this
      ·exact .inr ⟨j,c',by omega,h2,h3⟩
   ·rintro σ Hx ⟨v4,v5,v6,cs,kvs',ks',dist',rfl,W,I,hfx⟩;exact ⟨_,rfl,_,_,_,cl,cs,kvs',ks',dist',rfl,W,I⟩
theorem fam_of {s:List Nat} {ks rows:List (List Nat)} {d:List Nat->Nat} (a:Fam s ks d) (h:∀ o,o∈rows↔o∈ks):Fam s rows d:=⟨(h s).mpr a.st,a.d0,fun o ho w=>⟨(h _).mpr (a.clo o ((h o).mp ho) w).1,(a.clo o ((h o).mp ho) w).2⟩,fun o ho ne=>by obtain ⟨p,hp,w,e1,e2⟩:=a.pre o ((h o).mp ho) ne;exact ⟨p,(h p).mpr hp,w,e1,e2⟩⟩
theorem rows_of {ks:List (List Nat)} (nd:ks.Nodup) {ts:List (List Int)} (h:ts.Perm (ks.map natI)):∃ rows:List (List Nat),ts=rows.map natI/\rows.Nodup/\∀ o,o∈rows↔o∈ks:=by
 obtain ⟨rows,rfl⟩:=map_inv ts fun x hx=>mem_map.mp (h.mem_iff.mp hx);have inj:∀ {a b:List Nat},natI a=natI b->a=b:=fun e=>J1v e;have e:∀ (o:List Nat) (l:List (List Nat)),o∈l↔natI o∈l.map natI:=fun o l=>⟨fun h=>mem_map.mpr ⟨o,h,rfl⟩,fun h=>by obtain ⟨q,hq,e⟩:=mem_map.mp h;exact inj e ▸ hq⟩;refine ⟨rows,rfl,?_,fun o=>by rw [e o rows,e o ks];exact h.mem_iff⟩;have n2:(ks.map natI).Nodup:=nodup_iff_pairwise_ne.mpr (pairwise_map.mpr ((nodup_iff_pairwise_ne.mp nd).imp fun h z=>h (inj z)));exact nodup_iff_pairwise_ne.mpr ((pairwise_map.mp (nodup_iff_pairwise_ne.mp (h.nodup_iff.mpr n2))).imp fun h z=>h (by rw [z]))
def spFamG (CB CLo:Addr):Sp:=fun vs H Q E=>∃ (q:Addr) (os:List Nat) (n:Nat),vs=[.ref q]/\SqH H q (nV os)/\OkO n os/\2<=n/\n<=7/\
 ∀ l zs rows dist H',Same H H'->H' l=some (.lst zs)->TupsAt H' zs (rows.map natI)->(rows.map natI).Pairwise (fun a b=>Tm.lexB b a=false)->rows.Nodup->(∀ o∈rows,OkO n o)->Fam os rows dist->Q (.ref l) H'
theorem scFamily:FnScope ["order"] ["order"] (J9 sFamily):=fS
theorem ok_famG {f fOT fWF CB CLo:Addr} {fd fdOT fdWF:FuncData}  (F:Fun K "family" "family" sFamily f fd) (hsorted:mg "sorted"=none)
  (GOT:FnOk P w K mg base (Exc1 P w) 3 fOT fdOT ["order"] (spToldO CB CLo)) (bOT:Binds K fdOT ["order"] []) (mOT:mg "order_told"=some (.ref fOT)) (kOT:keepIn K (.ref fOT)=true)
  (GWF:FnOk P w K mg base CX0 3 fWF fdWF ["order"] spWordsG) (bWF:Binds K fdWF ["order"] []) (mWF:mg "words_from"=some (.ref fWF)) (kWF:keepIn K (.ref fWF)=true) :
  FnOk P w K mg base (Exc1 P w) 4 f fd ["order"] (spFamG CB CLo):=by
 refine F.okX scFamily (fun vs H Q E h=>?_) (fun cdv A outer s H vs Q E hr h=>?_)
 ·obtain ⟨q,os,n,rfl,_⟩:=h;rfl
 ·obtain ⟨q,os,n,rfl,hq,ok,n2,n7,k⟩:=h;have hr3:Room 3 _:=rm hr;refine ⟨_,(J7 (Jp (J8 (J3r rfl) (by rfl) hsorted boot_sorted (J0 (Jm GWF hr3 rfl mWF kWF bWF .nil pass0 (J0 (Jm GOT hr3 rfl mOT kOT bOT .nil pass1 (J0 (pv 0) J2)) J2)) J2)))),?_⟩;have ln:=ok.len;have g1:GoodX (natI os) os:=⟨rfl,ok.io,by omega,by omega,ok.t⟩;refine ⟨_,rfl,q,natI os,rfl,hq,by rw [Jh];omega,fun os' e _ _ _ _ a1 H1 s1 ha1=>?_,fun z=>(g1.notBad z).elim,fun os' e io h2 h7 nt=>(g1.notLoose ⟨os',e,io,h2,h7,nt⟩).elim⟩;obtain rfl:=J1v e;refine ⟨a1,os,n,rfl,ha1,ok,n2,n7,fun d H3 kvs ks dist s3 hd K3 Fm P3=>?_⟩;have ek:kvs.map (·.1)=(ks.map natI).map (·.map Sum.inl):=by
   rw [K3.eq,map_map];refine List.map_congr_left fun o _=>?_;unfold keyO natI;show _=(o.map fun (n:Nat)=>(n:Int)).map Sum.inl;rw [map_map];rfl
  refine ⟨d,kvs,ks.map natI,rfl,hd,ek,fun t ht=>?_,fun l zs ts' hl p1 p2 tz=>?_⟩
  ·obtain ⟨o,ho,rfl⟩:=mem_map.mp ht;intro z;have:=congrArg List.length z;rw [Jh,(K3.ok o ho).len] at this;have:n=0:=this;omega
  ·obtain ⟨rows,rfl,nd,mem⟩:=rows_of K3.nd p1;have s4:=J3 (o:=.lst zs) hl;exact k l zs rows dist _ (s1.trans (s3.trans s4)) upd_same (tz.same s4) p2 nd (fun o ho=>K3.ok o ((mem o).mp ho)) (fam_of Fm mem)
def spCell (K:Frag):Sp:=fun vs H Q _=>∃ (a:Addr) (ns:List Int) (j:Nat),vs=[.ref a,.int j]/\SqL K H a (iV ns)/\Q (.int (cellN ns j)) H
theorem scCell:FnScope ["script","k"] ["script","k"] (J9 sCell):=fS
theorem ok_cell {f:Addr} {fd:FuncData} (F:Fun K "_law_cell" "_law_cell" sCell f fd) (T:TxtR mg):FnOk P w K mg base CX0 1 f fd ["script","k"] (spCell K):=by
 refine F.ok scCell (fun vs H Q E h=>?_) (fun cdv A outer s H vs Q E hr h=>?_)
 ·obtain ⟨a,ns,j,rfl,_⟩:=h;rfl
 ·obtain ⟨a,ns,j,rfl,hS,k⟩:=h;refine ⟨_,J1 (ps_if (Jk op_lt (pv 1) (J8 J4 (by rfl) T.len boot_len (J0 (pv 0) J2)) (Jv _)) (J7 (Jp (pe_ix J1y (pv 0) (pv 1) (fun _ _=>rfl)))) Jl) (J7 (Jp Jd)),?_⟩;refine ⟨_,rfl,_,rfl,a,_,rfl,.inl hS,_,_,rfl,rfl,_,rfl,?_⟩;have hl:(iV ns).length=ns.length:=length_map ..;by_cases hj:j < ns.length
  ·refine iteDT (by rw [hl];omega) ?_;exact ⟨_,rfl,_,rfl,a,_,_,_,rfl,rfl,hS,J1h (iV_get hj),k⟩
  ·refine iteD (by rw [hl];omega) ?_;have e:cellN ns j=0:=by
    unfold cellN;rw [getD_eq_getElem?_getD,List.getElem?_eq_none (by omega)];rfl
   rw [e] at k;exact k
def spOrder (K:Frag):Sp:=fun vs H Q _=>∃ (a:Addr) (ns:List Int) (at_ many:Nat),vs=[.ref a,.int (at_:Nat),.int (many:Nat)]/\SqL K H a (iV ns)/\2<=many/\many<=7/\
 ∀ l H' (os:List Nat),Same H H'->H' l=some (.lst (nV os))->H l=none->IsO os->Tight os->os.length=many->Q (.ref l) H'
theorem scOrder:FnScope ["script","at","many","order","k","kept"] ["script","at","many"] (J9 sOrder):=fS
theorem ok_orderT {f fC :Addr} {fd fdC:FuncData}  (F:Fun K "_law_order" "_law_order" sOrder f fd) (T:TxtR mg) (hmax:mg "max"=none)
  (GC:FnOk P w K mg base CX0 1 fC fdC ["script","k"] (spCell K)) (bC:Binds K fdC ["script","k"] []) (mC:mg "_law_cell"=some (.ref fC)) (kC:keepIn K (.ref fC)=true) :
  FnOk P w K mg base CX0 2 f fd ["script","at","many"] (spOrder K):=by
 refine F.ok scOrder (fun vs H Q E h=>?_) (fun cdv A outer s H vs Q E hr h=>?_)
 ·obtain ⟨a,ns,at_,many,rfl,_⟩:=h;rfl
 ·obtain ⟨a,ns,at_,many,rfl,hS,h2,h7,k⟩:=h;have hr1:Room 1 _:=rm hr;refine ⟨_,(J1 (Jq (i:=3) scOrder.nd rfl (Or.inl rfl) (J3j J2))
   (J1 (J2z PassesOwn.never rfl (J1i rfl T.range (J0 (pv 2) J2)) (Jz (i:=4) scOrder.nd rfl (Or.inl rfl))
    (J7 (J30 (pe_bm PySem.F.plainAttrs_list PySem.F.slot_list_insert PySem.F.type_list_insert mt_insert (pv 3) (J0 (pe_op op_mod (Jm GC hr1 rfl mC kC bC .nil pass0 (J0 (pv 0) (J0 (pe_op J3k (pv 1) (pv 4)) J2))) (pe_op J3k (pv 4) Jd)) (J0 (pv 4) J2))))))
   (J1 (J2z PassesOwn.never rfl (J2m rfl T.range (J0 Jd (J0 (pv 2) J2))) (Jz (i:=4) scOrder.nd rfl (Or.inl rfl))
    (J7 (ps_if (Jk op_eq (J8 (J3s rfl) (by rfl) hmax boot_max (J0 (J11 sl_list (pv 3) J31 (J18 (pv 4))) J2)) (pe_op J23 (pv 4) Jd) (Jv _)) (J1 (Jq (i:=5) scOrder.nd rfl (Or.inl rfl) (pe_ix J1y (pv 3) (pe_op J23 (pv 4) Jd) (fun _ _=>rfl)))
     (J1 (ps_asg (pe_ix J1y (pv 3) (pv 4) (fun _ _=>rfl)) (pg_sub (pv 3) (pe_op J23 (pv 4) Jd) set_list))
     (J7 (ps_asg (pv 5) (pg_sub (pv 3) (pv 4) set_list))))) Jl)))
   (J7 (Jp (pv 3)))))),?_⟩
  refine ⟨Nat.zero_le _,fun ol hol=>?_⟩;refine ⟨_,rfl,(many:Int),rfl,by omega,by omega,J1j (lo:=0) (n:=many) (fun i σ H2=>∃ v,σ=[some (.ref a),some (.int at_),some (.int many),some (.ref ol),v,none]/\H2 ol=some (.lst (nV (drawA ns at_ i)))/\Same H H2)
   ⟨none,rfl,upd_same,J3 hol⟩ ?_ ?_⟩
  ·rintro i σ H2 hi ⟨v,rfl,ho,s2⟩;rw [Int.zero_add];obtain ⟨q1,q2⟩:=spotA_le ns at_ i
   have e:((at_:Nat):Int) + (i:Int)=((at_ + i:Nat):Int):=by omega
   have hlen:(nV (drawA ns at_ i)).length=i:=by rw [Js,J2s]
   refine ⟨_,rfl,.inl ⟨rfl,_,SqL.of ho⟩,_,rfl,_,rfl,_,rfl,_,_,rfl,rfl,a,ns,at_ + i,(by rw [<- e];rfl),s2.seq hS,_,rfl,_,_,rfl,rfl,_,_,rfl,rfl,(by omega),_,rfl,
    ol,_,spotA ns at_ i,V.int (i:Int),rfl,(by rw [q2]),ho,(by rw [hlen];exact q1),(by rw [hlen];exact Jt (by omega)),?_⟩
   refine ⟨_,rfl,?_,fun b o z=>?_⟩
   ·rw [upd_same,insV];rfl
   ·rw [Ja (J6 z hol)];exact s2 _ _ z
  rintro σ H2 ⟨v,rfl,ho,s2⟩;have em:((many:Int) - 1).toNat=many - 1:=by omega
  refine ⟨_,rfl,_,_,rfl,⟨by decide,by decide,by omega,by omega⟩,?_⟩;rw [em];refine J1j (lo:=1) (n:=many - 1) (fun i σ H3=>∃ (v v5:Option V) (os:List Nat),σ=[some (.ref a),some (.int at_),some (.int many),some (.ref ol),v,v5]/\H3 ol=some (.lst (nV os))/\IsO os/\os.length=many/\TightTo os i/\Same H H3)
   ⟨_,_,drawA ns at_ many,rfl,ho,drawA_isO _ _ _,J2s _ _ _,fun k h1 h2 _=>by omega,s2⟩ ?_ ?_
  ·rintro i σ H3 hi ⟨v,v5,os,rfl,ho3,io,lo,tt,s3⟩;have e1:(1:Int) + (i:Nat)=((i + 1:Nat):Int):=by omega
   rw [e1];have hlt:(os.take (i + 1)).length=i + 1:=by rw [length_take];omega
   refine ⟨_,rfl,_,rfl,_,rfl,ol,_,rfl,SqL.of ho3,fun p hp=>?_⟩;rw [J1e _ _ (by omega)];refine ⟨p,natI (os.take (i + 1)),rfl,.inl (SqL.of upd_same),by rw [Jh];omega,fun M hM hA=>?_⟩;have s4:=J3 (o:=.lst (nV (os.take (i + 1)))) hp;have ho4:=s4 _ _ ho3;have np:H ol=none:=hol;have sK:Same H _:=s3.trans s4;obtain ⟨m,hm,rfl⟩:=mem_map.mp hM;refine ⟨_,rfl,_,_,rfl,rfl,rfl,_,rfl,?_⟩;by_cases c:m=i
   ·refine iteDT (by congr 1;omega) ?_;have e2:((i + 1:Nat):Int) - 1=((i:Nat):Int):=by omega
    refine ⟨_,rfl,_,rfl,_,_,rfl,rfl,ol,_,_,_,rfl,rfl,SqL.of ho4,(by rw [e2];exact J1h (nV_at (by omega))),?_⟩;refine ⟨_,rfl,_,rfl,ol,_,_,_,rfl,rfl,SqL.of ho4,J1h (nV_at (by omega)),_,rfl,_,rfl,_,_,rfl,rfl,ol,_,_,i,rfl,rfl,ho4,(by rw [e2];exact ixN_nat (by rw [Js];omega)),?_⟩;refine ⟨_,rfl,_,rfl,_,rfl,ol,_,_,i + 1,rfl,rfl,upd_same,ixN_nat (by rw [List.length_set,Js];omega),?_⟩;refine ⟨_,_,swapO os (i + 1),rfl,?_,io.perm (J1o (by omega) (by omega)),((J1o (by omega) (by omega)).length_eq).trans lo,tight_swap io (by omega) (by omega) (fun x hx=>?_) (by simpa using tt),fun b o z=>?_⟩
    ·rw [upd_same];have:=swapO_set (os:=os) (k:=i + 1) (by omega) (by omega);rw [Nat.add_sub_cancel] at this;have w:=congrArg (List.map V.int) this;rw [map_set,map_set] at w;exact congrArg (fun z=>some (HO.lst z)) w
    ·have:=hA _ (mem_map.mpr ⟨x,hx,rfl⟩);omega
    ·rw [Ja (J6 z np),Ja (J6 z np)];exact sK _ _ z
   ·refine iteD (vint_ne (by omega)) ?_;have hm':m∈os.take (i + 1):=hm;obtain ⟨x,hx,hxk⟩:=take_hi io.nd (k:=i + 1) (by omega) (by omega);have:=hA _ (mem_map.mpr ⟨x,hx,rfl⟩);exact ⟨_,_,os,rfl,ho4,io,lo,tight_stay (by omega) hm' (by omega) (by simpa using tt),sK⟩
  ·rintro σ H3 ⟨v,v5,os,rfl,ho3,io,lo,tt,s3⟩;refine ⟨_,rfl,k ol H3 os s3 ho3 hol io (TightTo.tight (by rw [lo];exact tt)) lo⟩
def spTupl:Sp:=fun vs H Q _=>∃ (p q:Addr) (xs:List Int),vs=[.ref p,.ref q]/\H p=some (.tup (iV xs))/\H q=some (.lst (iV xs))/\xs.length<=100/\Q (.bl true) H
theorem scTupl:FnScope ["found","due","k"] ["found","due"] (J9 sTupl):=fS
theorem ok_tupl {f   : Addr} {fd  : FuncData}  (F : Fun K "_law_tuple" "_law_tuple" sTupl f fd) (T : TxtR mg) (hisi : mg "isinstance" = none) (hint : mg "int" = none) (hbool : mg "bool" = none) (kib : kitOne K (.type "int") (.type "bool") = some false)
 :
    FnOk P w K mg base CX0 1 f fd ["found", "due"] spTupl := by
  refine F.ok scTupl (fun vs H Q E h => ?_) (fun cdv A outer s H vs Q E hr h => ?_)
  · obtain ⟨p, q, xs, rfl, _⟩ := h
    rfl
  · obtain ⟨p, q, xs, rfl, hp, hq, hl, k⟩ := h
    refine ⟨_, (J1 (ps_if (PW.pt (pw_or (J3h (J2l (J8 (Jw rfl) (by rfl) hisi boot_isinstance (J0 (pv 0) (J0 (J34 (v := .ty "tuple") rfl T.tuple boot_tuple rfl) J2))))) (pw_or1 (Jk op_ne (J8 J4 (by rfl) T.len boot_len (J0 (pv 0) J2)) (J8 J4 (by rfl) T.len boot_len (J0 (pv 1) J2)) (Jv _))))) (J7 (Jp pe_bl)) Jl)
      (J1 (J2z PassesOwn.never rfl (J1i rfl T.range (J0 (J8 J4 (by rfl) T.len boot_len (J0 (pv 1) J2)) J2)) (Jz (i := 2) scTupl.nd rfl (Or.inl rfl))
        (J7 (ps_if (PW.pt (pw_or (J3h (J2l (J8 (Jw rfl) (by rfl) hisi boot_isinstance (J0 (pe_ix ix_tup (pv 0) (pv 2) (fun _ _ => rfl)) (J0 (J34 (v := .ty "int") rfl hint PyProof.Rows.boot_int rfl) J2))))) (pw_or (J2l (J8 (Jw rfl) (by rfl) hisi boot_isinstance (J0 (pe_ix ix_tup (pv 0) (pv 2) (fun _ _ => rfl)) (J0 (J34 (v := .ty "bool") rfl hbool PyProof.Rows.boot_bool rfl) J2)))) (pw_or1 (Jk op_ne (pe_ix ix_tup (pv 0) (pv 2) (fun _ _ => rfl)) (pe_ix J1y (pv 1) (pv 2) (fun _ _ => rfl)) (Jv _)))))) (J7 (Jp pe_bl)) Jl)))
      (J7 (Jp pe_bl)))), ?_⟩
    have ll : (iV xs).length = xs.length := length_map ..;refine ⟨_, rfl, _, .ty "tuple", .type "tuple", .type "tuple", true, rfl, rfl, fun v h => h, .tup hp, rfl, true, rfl, iteF ?_⟩;refine ⟨_, rfl, p, _, rfl, .inr (SqT.of hp), _, rfl, q, _, rfl, .inl (SqL.of hq), rfl, _, rfl, iteNS rfl ?_⟩;refine ⟨_, rfl, q, _, rfl, .inl (SqL.of hq), _, rfl, by omega, by omega, J1j (lo := 0) (n := (((iV xs).length : Nat) : Int).toNat) (fun i σ Hw => ∃ v, σ = [some (.ref p), some (.ref q), v] /\ H = Hw) ⟨none, rfl, rfl⟩ ?_ ?_⟩
    · rintro i σ _ hi ⟨v, rfl, rfl⟩
      rw [Int.zero_add];have hi : i < xs.length := by omega
      refine ⟨_, rfl, _, rfl, p, _, _, _, rfl, rfl, SqT.of hp, J1h (iV_get hi), _, .ty "int", .type "int", .type "int", true, rfl, rfl, fun v h => h, .int _, rfl, true, rfl, iteF ?_⟩;refine ⟨_, rfl, _, rfl, p, _, _, _, rfl, rfl, SqT.of hp, J1h (iV_get hi), _, .ty "bool", .type "int", .type "bool", false, rfl, rfl, fun v h => h, .int _, kib, _, rfl, iteF ?_⟩;exact ⟨_, rfl, _, rfl, p, _, _, _, rfl, rfl, SqT.of hp, J1h (iV_get hi), _, rfl, _, rfl, q, _, _, _, rfl, rfl, SqL.of hq, J1h (iV_get hi), rfl, _, rfl, iteNS rfl ⟨_, rfl, rfl⟩⟩
    · rintro σ _ ⟨v, rfl, rfl⟩
      exact k
def spOverL (K:Frag):Sp:=fun vs H Q _=>∃ (l:Addr) (os:List Nat) (n:Nat),vs=[.ref l]/\H l=some (.lst (nV os))/\OkO n os/\2<=n/\n<=7/\∀ b H',Same H H'->H' b=some (.lst (nV (stepO true os)))->Q (.ref b) H'
def spUnderL (K:Frag):Sp:=fun vs H Q _=>∃ (l:Addr) (os:List Nat) (n:Nat),vs=[.ref l]/\H l=some (.lst (nV os))/\OkO n os/\2<=n/\n<=7/\∀ b H',Same H H'->H' b=some (.lst (nV (stepO false os)))->Q (.ref b) H'
theorem scOverL:FnScope ["order","at"] ["order"] (J9 sOverL):=fS
theorem ok_overL {f   : Addr} {fd  : FuncData}  (F : Fun K "_law_over" "_law_over" sOverL f fd) (T : TxtR mg)
 :
    FnOk P w K mg base CX0 1 f fd ["order"] (spOverL K) := by
  refine F.ok scOverL (fun vs H Q E h => ?_) (fun cdv A outer s H vs Q E hr h => ?_)
  · obtain ⟨l, os, n, rfl, _⟩ := h
    rfl
  · obtain ⟨l, os, n, rfl, hl, ok, n2, n7, k⟩ := h
    refine ⟨_, (J1 (Jq (i := 1) scOverL.nd rfl (Or.inl rfl) (pe_op J3k (pe_bm PySem.F.plainAttrs_list PySem.F.slot_list_index PySem.F.type_list_index mt_indexL (pv 0) (J0 (pe_op J23 (J8 J4 (by rfl) T.len boot_len (J0 (pv 0) J2)) Jd) J2)) Jd))
      (J7 (Jp (pe_op op_cat (pe_op op_cat (J11 sl_list (pv 0) J31 (J18 (pv 1))) (J3j (J0 (pe_ix J1y (pv 0) (pe_un J2u Jd) (fun _ _ => rfl)) J2))) (J11 sl_list (pv 0) (J18 (pv 1)) (J18 (pe_un J2u Jd))))))), ?_⟩
    have lo := ok.len;have ll := Js os;have hb := J1c ok.io ok.t (by omega);have hz : ∀ n : Nat, n <= 100 -> n <= sizeLine := fun n h => Nat.le_of_lt (Jt (by omega));have e1 : ((nV os).length : Int) - 1 = ((os.length - 1 : Nat) : Int) := by rw [ll]; omega
    refine ⟨_, rfl, .inl ⟨rfl, _, SqL.of hl⟩, _, rfl, l, _, rfl, .inl (SqL.of hl), _, _, rfl, rfl, l, natI os, ((nV os).length : Int) - 1, rfl, rfl, SqL.of hl, (by rw [e1]; exact mem_nat (ok.io.mem (by omega))), _, _, rfl, rfl, ?_⟩;rw [e1, idx_nat];have k' : ∀ b H', Same H H' -> H' b = some (.lst (nV (overO os))) -> Q (.ref b) H' := k;unfold overO at k';obtain ⟨s, es⟩ : ∃ s, s = os.idxOf (os.length - 1) := ⟨_, rfl⟩;rw [<- es] at hb k' ⊢;have e2 : (s : Int) + 1 = ((s + 1 : Nat) : Int) := by omega
    have ct : cutV (nV os) none (some ((s : Int) + 1)) = nV (os.take (s + 1)) := by rw [e2]; exact J1e _ _ (by omega)
    have cm : cutV (nV os) (some ((s : Int) + 1)) (some (-1)) = nV ((os.drop (s + 1)).take (os.length - 1 - (s + 1))) := by rw [e2]; exact cut_mid _ _ (by omega) (by omega)
    refine ⟨_, rfl, _, rfl, _, rfl, l, _, rfl, SqL.of hl, fun d1 hd1 => ?_⟩;rw [ct];have u1 := J3 (o := .lst (nV (os.take (s + 1)))) hd1;refine ⟨_, rfl, _, rfl, l, _, _, _, rfl, rfl, SqL.of (u1 _ _ hl), J1k (by omega), (by show 1 <= sizeLine; decide), fun d2 hd2 => ?_⟩;have u2 := J3 (o := .lst [V.int ((os.getD (os.length - 1) 0 : Nat) : Int)]) hd2;refine ⟨d1, d2, _, _, rfl, rfl, u2 _ _ upd_same, upd_same, ?_, fun d3 hd3 => ?_⟩
    · rw [Js, length_take]; exact hz _ (by show min (s + 1) os.length + 1 <= 100; omega)
    have u3 := J3 (o := .lst (nV (os.take (s + 1)) ++ [V.int ((os.getD (os.length - 1) 0 : Nat) : Int)])) hd3;have u123 := u1.trans (u2.trans u3);refine ⟨_, rfl, _, rfl, _, rfl, _, rfl, _, rfl, l, _, rfl, SqL.of (u123 _ _ hl), fun d4 hd4 => ?_⟩;rw [cm];have u4 := J3 (o := .lst (nV ((os.drop (s + 1)).take (os.length - 1 - (s + 1))))) hd4;have eo : nV (os.take (s + 1)) ++ [V.int ((os.getD (os.length - 1) 0 : Nat) : Int)] = nV (os.take (s + 1) ++ [os.getD (os.length - 1) 0]) := by rw [nV_app]; rfl
    refine ⟨d3, d4, _, _, rfl, rfl, u4 _ _ upd_same, upd_same, ?_, fun d5 hd5 => ?_⟩
    · rw [eo, Js, Js, length_append, length_take, length_take, length_drop]
      exact hz _ (by show min (s + 1) os.length + 1 + min (os.length - 1 - (s + 1)) (os.length - (s + 1)) <= 100; omega)
    refine k' d5 _ (u123.trans (u4.trans (J3 hd5))) (upd_same.trans (congrArg (fun z => some (HO.lst z)) ?_));rw [eo, <- nV_app]
theorem scUnderL:FnScope ["order","last","places"] ["order"] (J9 sUnderL):=fS
theorem ok_underL {f   : Addr} {fd  : FuncData}  (F : Fun K "_law_under" "_law_under" sUnderL f fd) (T : TxtR mg)
 :
    FnOk P w K mg base CX0 1 f fd ["order"] (spUnderL K) := by
  refine F.ok scUnderL (fun vs H Q E h => ?_) (fun cdv A outer s H vs Q E hr h => ?_)
  · obtain ⟨l, os, n, rfl, _⟩ := h
    rfl
  · obtain ⟨l, os, n, rfl, hl, ok, n2, n7, k⟩ := h
    refine ⟨_, (J1 (Jq (i := 1) scUnderL.nd rfl (Or.inr rfl) (pe_ix J1y (pv 0) (pe_un J2u Jd) (fun _ _ => rfl)))
      (J1 (Jq (i := 2) scUnderL.nd rfl (Or.inr rfl) (pe_op op_cat (pe_lc (caps := ["last"]) (js := [1]) rfl (J1i rfl T.range (J0 (pe_op J23 (J8 J4 (by rfl) T.len boot_len (J0 (pv 0) J2)) Jd) J2)) rfl (fun _ _ _ _ => (pts_one (Jk op_le (pv 0) (pv 1) (Jv _)))) (fun C fp s H => (pv 0)) (by decide +kernel) (by decide +kernel) (by decide +kernel) (by intro p hp; simp only [mem_cons, not_mem_nil, or_false] at hp; rcases hp with rfl; rfl)) (J3j (J0 (pe_op J23 (J8 J4 (by rfl) T.len boot_len (J0 (pv 0) J2)) Jd) J2))))
      (J1 (Jq (i := 2) scUnderL.nd rfl (Or.inr rfl) (pe_op op_cat (pv 2) (pe_lc (caps := ["last"]) (js := [1]) rfl (J1i rfl T.range (J0 (pe_op J23 (J8 J4 (by rfl) T.len boot_len (J0 (pv 0) J2)) Jd) J2)) rfl (fun _ _ _ _ => (pts_one (Jk op_gt (pv 0) (pv 1) (Jv _)))) (fun C fp s H => (pv 0)) (by decide +kernel) (by decide +kernel) (by decide +kernel) (by intro p hp; simp only [mem_cons, not_mem_nil, or_false] at hp; rcases hp with rfl; rfl))))
      (J7 (Jp (pe_lc (caps := ["places"]) (js := [2]) rfl (J32 (pv 0)) rfl (fun _ _ _ _ => pts_nil) (fun C fp s H => (pe_bmK K PySem.F.plainAttrs_list PySem.F.slot_list_index PySem.F.type_list_index (mt_indexLK K) (pv 1) (J0 (pv 0) J2))) (by decide +kernel) (by decide +kernel) (by decide +kernel) (by intro p hp; simp only [mem_cons, not_mem_nil, or_false] at hp; rcases hp with rfl; rfl))))))), ?_⟩
    have lo := ok.len;have ll := Js os;have hb := J2e ok.io ok.t (by omega);have hz : ∀ n : Nat, n <= 100 -> n <= sizeLine := fun n h => Nat.le_of_lt (Jt (by omega));have e1 : ((nV os).length : Int) - 1 = ((os.length - 1 : Nat) : Int) := by rw [ll]; omega
    have en : (((nV os).length : Int) - 1).toNat = os.length - 1 := by rw [e1]; omega
    refine ⟨_, rfl, _, rfl, l, _, _, _, rfl, rfl, SqL.of hl, J1k (by omega), ?_⟩;have k' : ∀ b H', Same H H' -> H' b = some (.lst (nV (J17 os))) -> Q (.ref b) H' := k;unfold J17 at k';obtain ⟨b, eb⟩ : ∃ b, b = os.getD (os.length - 1) 0 := ⟨_, rfl⟩;rw [<- eb] at hb k' ⊢;refine ⟨_, rfl, l, _, rfl, .inl (SqL.of hl), _, _, rfl, rfl, _, rfl, by omega, by omega, ?_⟩;rw [en];refine fun d hd => lc_rng 0 (os.length - 1) (fun j => decide (j <= b)) (fun (j : Nat) => V.int (j : Int)) (by omega) hd (fun j _ H2 Qt _ k => ?_) (fun j hj H2 Qe _ s2 ke => ⟨_, rfl, (by rw [Int.zero_add]; exact ke _ (Same.refl _))⟩) (fun H2 s2 hd2 => ?_)
    · refine ⟨_, rfl, _, rfl, _, _, rfl, rfl, _, rfl, ?_⟩
      have e : decide ((0 : Int) + (j : Int) <= (b : Int)) = decide (j <= b) := decide_eq_decide.mpr (by omega);rw [e];exact k H2 (Same.refl _)
    rw [J26 hb] at hd2;have hl2 := s2 _ _ hl;refine ⟨_, rfl, l, _, rfl, .inl (SqL.of hl2), _, _, rfl, rfl, (by show 1 <= sizeLine; decide), fun d3 hd3 => ?_⟩;have u3 := J3 (o := .lst [V.int (((nV os).length : Int) - 1)]) hd3;have lA : ((List.range (os.length - 1)).take (b + 1)).length = b + 1 := by rw [length_take, length_range]; omega
    refine ⟨d, d3, _, _, rfl, rfl, u3 _ _ hd2, upd_same, ?_, fun d4 hd4 => ?_⟩
    · rw [length_map, lA]; exact hz _ (by show b + 1 + 1 <= 100; omega)
    have u4 := J3 (o := .lst (((List.range (os.length - 1)).take (b + 1)).map (fun (j : Nat) => V.int (j : Int)) ++ [V.int (((nV os).length : Int) - 1)])) hd4;have h4 : upd (upd H2 d3 (.lst [V.int (((nV os).length : Int) - 1)])) d4 (.lst (((List.range (os.length - 1)).take (b + 1)).map (fun (j : Nat) => V.int (j : Int)) ++ [V.int (((nV os).length : Int) - 1)])) d4 = some (.lst (nV ((List.range (os.length - 1)).take (b + 1) ++ [os.length - 1]))) := by
      rw [upd_same, e1, nV_app, nV_eq]; rfl
    have s24 := s2.trans (u3.trans u4);have hl4 := s24 _ _ hl;generalize upd (upd H2 d3 (.lst [V.int (((nV os).length : Int) - 1)])) d4 (.lst (((List.range (os.length - 1)).take (b + 1)).map (fun (j : Nat) => V.int (j : Int)) ++ [V.int (((nV os).length : Int) - 1)])) = H4 at *;refine ⟨_, rfl, _, rfl, l, _, rfl, .inl (SqL.of hl4), _, _, rfl, rfl, _, rfl, by omega, by omega, ?_⟩;rw [en];refine fun d5 hd5 => lc_rng 0 (os.length - 1) (fun j => decide (b < j)) (fun (j : Nat) => V.int (j : Int)) (by omega) hd5 (fun j _ H2 Qt _ k => ?_) (fun j hj H2 Qe _ s2 ke => ⟨_, rfl, (by rw [Int.zero_add]; exact ke _ (Same.refl _))⟩) (fun H6 s6 hd6 => ?_)
    · refine ⟨_, rfl, _, rfl, _, _, rfl, rfl, _, rfl, ?_⟩
      have e : decide ((b : Int) < (0 : Int) + (j : Int)) = decide (b < j) := decide_eq_decide.mpr (by omega);rw [e];exact k H2 (Same.refl _)
    rw [J27 hb] at hd6;refine ⟨d4, d5, _, _, rfl, rfl, s6 _ _ h4, hd6, ?_, fun d7 hd7 => ?_⟩
    · rw [Js, length_append, lA, length_map, length_drop, length_range]
      exact hz _ (by show b + 1 + 1 + (os.length - 1 - (b + 1)) <= 100; omega)
    have u7 := J3 (o := .lst (nV ((List.range (os.length - 1)).take (b + 1) ++ [os.length - 1]) ++ ((List.range (os.length - 1)).drop (b + 1)).map (fun (j : Nat) => V.int (j : Int)))) hd7;have h7 : upd H6 d7 (.lst (nV ((List.range (os.length - 1)).take (b + 1) ++ [os.length - 1]) ++ ((List.range (os.length - 1)).drop (b + 1)).map (fun (j : Nat) => V.int (j : Int)))) d7 = some (.lst (nV (J1t os.length b))) := by
      rw [upd_same, <- nV_eq, <- nV_app];unfold J1t insAt;rw [List.append_assoc]; rfl
    have s27 := s24.trans (s6.trans u7);have hl7 := s27 _ _ hl;generalize upd H6 d7 (.lst (nV ((List.range (os.length - 1)).take (b + 1) ++ [os.length - 1]) ++ ((List.range (os.length - 1)).drop (b + 1)).map (fun (j : Nat) => V.int (j : Int)))) = H7 at *;refine ⟨_, rfl, l, rfl, ⟨_, SqL.of hl7⟩, fun d8 hd8 => lc_lst (fun (j : Nat) => V.int (j : Int)) os (fun _ => true) (fun j => V.int (numU os.length b j : Nat)) (by rw [<- nV_eq]; exact SqL.of hl7) (by omega) hd8 (fun j _ H2 Qt _ k => k H2 (Same.refl _)) (fun j hj H8 Qe _ s8 ke => ?_) (fun H8 s8 hd9 => ?_)⟩
    · have at_ := J1s hb (ok.io.lt j hj)
      refine ⟨_, rfl, .inl ⟨rfl, _, SqL.of (s8 _ _ h7)⟩, _, rfl, d7, natI (J1t os.length b), (j : Int), rfl, rfl, SqL.of (s8 _ _ h7), mem_nat (List.mem_of_getElem? at_), ?_⟩;rw [idx_nat, idx_get (placesU_nd (by omega)) at_];exact ke _ (Same.refl _)
    rw [J1z] at hd9;refine k' d8 H8 (s27.trans s8) ?_;rw [hd9, nV_eq, map_map]; rfl
end
end R61
namespace L2
open PySem PyProof.Rows
theorem lc_lstW {K:Frag} {a:Addr} {H1:Hp} {te:TE} {σ:St} {js:List Nat} {Q:VK} {d:Addr} (xs:List V) (F:Nat->V) (hx:SqL K H1 a xs) (hn:xs.length<=sizeLine) (hd:H1 d=none)
  (he:∀ (i:Nat) (H:Hp) (Qe:VK) (v:V),xs[i]?=some v->Same H1 H->(∀ H',Same H H'->Qe (F i) H')->te (some v :: capv σ js) H Qe)
  (hq:∀ H',Same H1 H'->H' d=some (.lst ((List.range xs.length).map F))->Q (.ref d) H'):LCW (Itl K a) tYes te σ js Q H1 d:=by
 have s0:∀ o,Same H1 (upd H1 d o):=fun o b u e=>by rw [Ja (J6 e hd)];exact e
 refine ⟨fun i m ys H=>m=xs.length - i/\i<=xs.length/\ys=(List.range i).map F/\Same H1 H/\H d=some (.lst ys),⟨xs.length,rfl,Nat.zero_le _,rfl,s0 _,upd_same⟩,?_⟩;rintro i m ys H2 ⟨rfl,hi,rfl,sm,h2⟩;refine ⟨h2,?_⟩;by_cases hlt:i < xs.length
 ·refine .inr ⟨⟨_,_,sm.seq hx,List.getElem?_eq_getElem hlt⟩,?_,fun v H3 y3=>?_⟩
  ·rw [length_map,length_range];omega
  ·obtain ⟨rfl,hv⟩:=y3;have hv:=hv _ (sm.seq hx);unfold tYes;dsimp only;rw [if_pos rfl];refine he i H3 _ v hv sm fun H5 s5=>⟨s5 _ _ h2,xs.length - (i + 1),by omega,rfl,hlt,?_,?_,upd_same⟩
   ·rw [range_succ,map_append];rfl
   ·intro b u e;rw [Ja (J6 e hd)];exact s5 _ _ (sm _ _ e)
 ·have e:i=xs.length:=by omega
  subst e;exact .inl ⟨⟨_,sm.seq hx,Nat.le_refl _⟩,hq H2 sm h2⟩
end L2
namespace R61
open PySem L2 Rl
section
variable {P:Program} {w:World} {K:Frag} {mg:Str->Option Value} {base:Heap}
def kvM (rows:List (List Nat)) (mk:List Nat->Bool):List (List Key × V):=rows.map fun o=>(keyO o,V.bl (mk o))
def setM (mk:List Nat->Bool) (o:List Nat):List Nat->Bool:=fun x=>mk x || decide (x=o)
theorem kvM_keys (rows:List (List Nat)) (mk:List Nat->Bool):(kvM rows mk).map (·.1)=rows.map keyO:=by unfold kvM;rw [map_map];rfl
theorem J2f {mk:List Nat->Bool} {o:List Nat}:∀ {rows:List (List Nat)},o∈rows->valV (kvM rows mk) (keyO o)=some (V.bl (mk o))
 | x :: r,h=>by
  show valV ((keyO x,V.bl (mk x)) :: kvM r mk) (keyO o)=_;by_cases e:x=o
  ·subst e;exact Jn rfl
  ·rw [Jo (fun z=>e (J1x z))];exact J2f ((mem_cons.mp h).resolve_left fun q=>e q.symm)
theorem kvM_put {mk:List Nat->Bool} {o:List Nat} {rows:List (List Nat)} (h:o∈rows):putK (kvM rows mk) (keyO o) (V.bl true)=kvM rows (setM mk o):=by
 have a:((kvM rows mk).any fun kv=>decide (kv.1=keyO o))=true:=by rw [J1m,J2f h];rfl
 unfold putK;rw [if_pos a];unfold kvM;rw [map_map];refine List.map_congr_left fun x _=>?_;show (if keyO x=keyO o then (keyO x,V.bl true) else (keyO x,V.bl (mk x)))=(keyO x,V.bl (setM mk o x));unfold setM;by_cases e:x=o
 ·rw [if_pos (by rw [e]),decide_eq_true e,Bool.or_true]
 ·rw [if_neg (fun z=>e (J1x z)),decide_eq_false e,Bool.or_false]
def unR (mk:List Nat->Bool) (rows:List (List Nat)):Nat:=(rows.filter fun o=>!mk o).length
theorem unR_le (mk:List Nat->Bool) (rows:List (List Nat)):unR mk rows<=rows.length:=List.length_filter_le ..
theorem unR_set {mk:List Nat->Bool} {o:List Nat} (hm:mk o=false):∀ {rows:List (List Nat)},rows.Nodup->o∈rows->unR (setM mk o) rows + 1=unR mk rows
 | x :: r,nd,h=>by
  obtain ⟨n1,n2⟩:=nodup_cons.mp nd;unfold unR;by_cases e:x=o
  ·subst e;have h1:setM mk x x=true:=by unfold setM;rw [decide_eq_true rfl,Bool.or_true]
   have h2:(r.filter fun o=>!setM mk x o)=r.filter fun o=>!mk o:=List.filter_congr fun y hy=>by
    unfold setM;rw [decide_eq_false (fun (z:y=x)=>n1 (by rw [<- z];exact hy)),Bool.or_false]
   rw [List.filter_cons_of_neg (p:=fun o=>!setM mk x o) (by rw [h1];decide),List.filter_cons_of_pos (p:=fun o=>!mk o) (by rw [hm];rfl),h2];rfl
  ·have ih:=unR_set hm n2 ((mem_cons.mp h).resolve_left fun q=>e q.symm);unfold unR at ih;have h1:setM mk o x=mk x:=by unfold setM;rw [decide_eq_false e,Bool.or_false]
   cases c:mk x with
   | true=>rw [List.filter_cons_of_neg (p:=fun y=>!setM mk o y) (by rw [h1,c];decide),List.filter_cons_of_neg (p:=fun y=>!mk y) (by rw [c];decide)];exact ih
   | false =>
    rw [List.filter_cons_of_pos (p:=fun y=>!setM mk o y) (by rw [h1,c];rfl),List.filter_cons_of_pos (p:=fun y=>!mk y) (by rw [c];rfl),length_cons,length_cons];omega
def LsAt (H:Hp) (as:List Addr) (ws:List (List Nat)):Prop:=as.length=ws.length/\∀ (i:Nat) (a:Addr) (w:List Nat),as[i]?=some a->ws[i]?=some w->H a=some (.lst (nV w))
theorem LsAt.same {H H':Hp} {as:List Addr} {ws:List (List Nat)} (h:LsAt H as ws) (s:Same H H'):LsAt H' as ws:=⟨h.1,fun i a w e f=>s _ _ (h.2 i a w e f)⟩
theorem refs_ne {as:List Addr} {w:List Nat} (h:w≠[]):(HO.lst (nV w))≠.lst (as.map V.ref):=fun z=>by
 have z:=HO.lst.inj z
 match w,as with
 | [],_=>exact h rfl
 | x :: r,[]=>cases z
 | x :: r,a :: as=>cases z
theorem LsAt.updL {H:Hp} {as bs:List Addr} {ws:List (List Nat)} {wl:Addr} {o:HO} (h:LsAt H as ws) (hw:H wl=some (.lst (bs.map V.ref))) (ne:∀ w∈ws,w≠[]):LsAt (upd H wl o) as ws:=⟨h.1,fun i a w e f=>by
 have:=h.2 i a w e f;rw [Ja (ne_of this hw (refs_ne (ne w (List.mem_of_getElem? f))))];exact this⟩
theorem LsAt.updD {H:Hp} {as:List Addr} {ws:List (List Nat)} {d:Addr} {kvs:List (List Key × V)} {o:HO} (h:LsAt H as ws) (hd:H d=some (.dT kvs)):LsAt (upd H d o) as ws:=⟨h.1,fun i a w e f=>by
 have:=h.2 i a w e f;rw [Ja (ne_of this hd (by intro z;cases z))];exact this⟩
theorem LsAt.snoc {H:Hp} {as:List Addr} {ws:List (List Nat)} {a:Addr} {w:List Nat} (h:LsAt H as ws) (ha:H a=some (.lst (nV w))):LsAt H (as ++ [a]) (ws ++ [w]):=by
 refine ⟨by rw [length_append,length_append,h.1];rfl,fun i b x e f=>?_⟩;by_cases c:i < as.length
 ·rw [getElem?_append_left c] at e;rw [getElem?_append_left (by rw [<- h.1];exact c)] at f;exact h.2 i b x e f
 ·rw [getElem?_append_right (by omega)] at e;rw [getElem?_append_right (by rw [<- h.1];omega),<- h.1] at f
  match hj:i - as.length with
  | 0 =>
   rw [hj] at e f;obtain rfl:=Option.some.inj e;obtain rfl:=Option.some.inj f;exact ha
  | j + 1=>rw [hj] at e;cases e
theorem LsAt.pop {H:Hp} {as:List Addr} {ws:List (List Nat)} {a:Addr} {w:List Nat} (h:LsAt H (as ++ [a]) (ws ++ [w])):as.length=ws.length/\LsAt H as ws/\H a=some (.lst (nV w)):=by
 have hl:as.length=ws.length:=by
  have:=h.1;rw [length_append,length_append] at this;simpa using this
 refine ⟨hl,⟨hl,fun i b x e f=>h.2 i b x ?_ ?_⟩,h.2 as.length a w List.getElem?_concat_length (by rw [hl];exact List.getElem?_concat_length)⟩
 ·rw [getElem?_append_left (List.getElem?_eq_some_iff.mp e).1];exact e
 ·rw [getElem?_append_left (List.getElem?_eq_some_iff.mp f).1];exact f
structure ClosI (rows:List (List Nat)) (os:List Nat) (mk:List Nat->Bool) (ws:List (List Nat)) (op:List Nat->Bool->Prop):Prop where
 me:mk os=true
 wm:∀ w∈ws,w∈rows
 cl:∀ o∈rows,mk o=true->o ∉ ws->∀ b,¬ op o b->mk (stepO b o)=true
theorem setM_of {mk:List Nat->Bool} {y x:List Nat} (h:mk x=true):setM mk y x=true:=by unfold setM;rw [h,Bool.true_or]
theorem setM_self (mk:List Nat->Bool) (y:List Nat):setM mk y y=true:=by unfold setM;rw [decide_eq_true rfl,Bool.or_true]
theorem setM_ne {mk:List Nat->Bool} {y x:List Nat} (h:setM mk y x=true) (n:x≠y):mk x=true:=by unfold setM at h;rwa [decide_eq_false n,Bool.or_false] at h
theorem ClosI.mark {rows:List (List Nat)} {os:List Nat} {mk:List Nat->Bool} {ws:List (List Nat)} {op:List Nat->Bool->Prop} (h:ClosI rows os mk ws op) {y:List Nat} (hy:y∈rows):ClosI rows os (setM mk y) (ws ++ [y]) op:=by
 refine ⟨setM_of h.me,fun w hw=>?_,fun o ho m nw b no=>?_⟩
 ·rcases mem_append.mp hw with hw | hw
  ·exact h.wm w hw
  ·rw [mem_singleton.mp hw];exact hy
 ·have c:o≠y:=fun z=>nw (by rw [z];exact mem_append_right _ (mem_singleton.mpr rfl));exact setM_of (h.cl o ho (setM_ne m c) (fun z=>nw (mem_append_left _ z)) b no)
theorem J3c {rows:List (List Nat)} {os:List Nat} {dist:List Nat->Nat} (Fm:Fam os rows dist) {mk:List Nat->Bool} (me:mk os=true) (cl:∀ o∈rows,mk o=true->∀ b,mk (stepO b o)=true):∀ (m:Nat) (o:List Nat),o∈rows->dist o=m->mk o=true
 | m,o,ho,hm=>by
  by_cases c:o=os
  ·rw [c];exact me
  ·obtain ⟨p,hp,w,rfl,e2⟩:=Fm.pre o ho c;exact cl p hp (J3c Fm me cl (dist p) p hp rfl) w
termination_by m=>m
decreasing_by omega
def spClosed (K:Frag):Sp:=fun vs H Q _=>∃ (fl l:Addr) (zs:List V) (rows:List (List Nat)) (os:List Nat) (n:Nat) (dist:List Nat->Nat),vs=[.ref fl,.ref l]/\H fl=some (.lst zs)/\H l=some (.lst (nV os))/\TupsAt H zs (rows.map natI)/\(rows.map natI).Pairwise (fun a b=>Tm.lexB b a=false)/\rows.Nodup/\(∀ o∈rows,OkO n o)/\Fam os rows dist/\2<=n/\n<=7/\
 ∀ H',Same H H'->Q (.bl true) H'
theorem scClosed:FnScope ["found","order","inside","last","told","waiting","here","there"] ["found","order"] (J9 sClosed):=fS
theorem ok_closed {f fTU fOL fUL :Addr} {fd fdTU fdOL fdUL:FuncData}  (F:Fun K "_law_closed" "_law_closed" sClosed f fd) (T:TxtR mg) (hisi:mg "isinstance"=none) (hsorted:mg "sorted"=none) (hall:mg "all"=none)
  (GTU:FnOk P w K mg base CX0 1 fTU fdTU ["found","due"] spTupl) (bTU:Binds K fdTU ["found","due"] []) (mTU:mg "_law_tuple"=some (.ref fTU)) (kTU:keepIn K (.ref fTU)=true)
  (GOL:FnOk P w K mg base CX0 1 fOL fdOL ["order"] (spOverL K)) (bOL:Binds K fdOL ["order"] []) (mOL:mg "_law_over"=some (.ref fOL)) (kOL:keepIn K (.ref fOL)=true)
  (GUL:FnOk P w K mg base CX0 1 fUL fdUL ["order"] (spUnderL K)) (bUL:Binds K fdUL ["order"] []) (mUL:mg "_law_under"=some (.ref fUL)) (kUL:keepIn K (.ref fUL)=true) :
  FnOk P w K mg base CX0 2 f fd ["found","order"] (spClosed K):=by
 refine F.ok scClosed (fun vs H Q E h=>?_) (fun cdv A outer s H vs Q E hr h=>?_)
 ·obtain ⟨fl,l,zs,rows,os,n,dist,rfl,_⟩:=h;rfl
 ·obtain ⟨fl,l,zs,rows,os,n,dist,rfl,hfl,hl,tz,lx,nd,okr,Fm,n2,n7,k⟩:=h;have hr1:Room 1 _:=rm hr;have hu:=hr.units0;have hu1:=Nat.lt_of_le_of_lt (Nat.add_le_add_left (by decide:1<=64) _) hr.units;refine ⟨_,(J1 (ps_if (J3h (J2l (J8 (Jw rfl) (by rfl) hisi boot_isinstance (J0 (pv 0) (J0 (J34 (v:=.ty "list") rfl T.list boot_list rfl) J2))))) (J7 (Jp pe_bl)) Jl)
   (J1 (Jq (i:=2) scClosed.nd rfl (Or.inr rfl) pe_dnewT)
   (J1 (Jq (i:=3) scClosed.nd rfl (Or.inl rfl) pe_non)
   (J1 (J2z PassesOwn.never rfl (J32 (pv 0)) (Jz (i:=4) scClosed.nd rfl (Or.inl rfl))
    (J1 (ps_if (PW.pt (pw_or (J3h (J2l (J8 (Jw rfl) (by rfl) hisi boot_isinstance (J0 (pv 4) (J0 (J34 (v:=.ty "tuple") rfl T.tuple boot_tuple rfl) J2))))) (pw_or (J3h (J2l (Jm GTU hr1 rfl mTU kTU bTU .nil pass0 (J0 (pv 4) (J0 (Jb J15 (by rfl) T.list boot_list (J0 (pv 4) J2)) J2))))) (pw_or1 (Jk (op_neL hu) (J8 J2i (by rfl) hsorted boot_sorted (J0 (pv 4) J2)) (Jb (J1g rfl) (by rfl) T.list boot_list (J0 (Jb call_rng (by rfl) T.range PyProof.Rows.boot_range (J0 (J8 J4 (by rfl) T.len boot_len (J0 (pv 1) J2)) J2)) J2)) (Jv _)))))) (J7 (Jp pe_bl)) Jl)
    (J1 (ps_if (PW.pt (pw_and (Jk op_notN (pv 3) pe_non (Jv _)) (pw_and1 (Jk (op_leT hu) (pv 4) (pv 3) (Jv _))))) (J7 (Jp pe_bl)) Jl)
    (J1 (Jq (i:=3) scClosed.nd rfl (Or.inl rfl) (pv 4))
    (J7 (ps_dput hu1 (pv 2) (pv 4) pe_bl rfl))))))
   (J1 (ps_if (pt_cmp (J2n hu1 (Jb J14 (by rfl) T.tuple boot_tuple (J0 (pv 1) J2)) (pv 2))) (J7 (Jp pe_bl)) Jl)
   (J1 (ps_dput hu1 (pv 2) (Jb J14 (by rfl) T.tuple boot_tuple (J0 (pv 1) J2)) pe_bl rfl)
   (J1 (Jq (i:=5) scClosed.nd rfl (Or.inl rfl) (J3j (J0 (Jb J15 (by rfl) T.list boot_list (J0 (pv 1) J2)) J2)))
   (J1 (ps_while PassesOwn.never (Jk op_gt (J8 J4 (by rfl) T.len boot_len (J0 (pv 5) J2)) Jd (Jv _))
    (J1 (Jq (i:=6) scClosed.nd rfl (Or.inl rfl) (pe_bm0 PySem.F.plainAttrs_list PySem.F.slot_list_pop PySem.F.type_list_pop mt_pop (pv 5)))
    (J7 (J2z PassesOwn.never rfl (J32 (J3j (J0 (Jm GOL hr1 rfl mOL kOL bOL .nil pass0 (J0 (pv 6) J2)) (J0 (Jm GUL hr1 rfl mUL kUL bUL .nil pass0 (J0 (pv 6) J2)) J2)))) (Jz (i:=7) scClosed.nd rfl (Or.inl rfl))
     (J1 (ps_if (pt_cmp (J2n hu1 (Jb J14 (by rfl) T.tuple boot_tuple (J0 (pv 7) J2)) (pv 2))) (J7 (Jp pe_bl)) Jl)
     (J7 (ps_if (J3h (J2l (pe_dget hu1 (pv 2) (Jb J14 (by rfl) T.tuple boot_tuple (J0 (pv 7) J2)) (fun _ _=>rfl)))) (J1 (ps_dput hu1 (pv 2) (Jb J14 (by rfl) T.tuple boot_tuple (J0 (pv 7) J2)) pe_bl rfl)
      (J7 (J30 (pe_bm PySem.F.plainAttrs_list PySem.F.slot_list_append PySem.F.type_list_append J2o (pv 5) (J0 (pv 7) J2))))) Jl)))))))
   (J7 (Jp (J8 (call_all rfl) (by rfl) hall PyProof.Rows.boot_all (J0 (pe_lc (caps:=["inside"]) (js:=[2]) rfl (J32 (pv 0)) rfl (fun _ _ _ _=>pts_nil) (fun C fp s H=>(pe_dget hu1 (pv 1) (pv 0) (fun _ _=>rfl))) (by decide +kernel) (by decide +kernel) (by decide +kernel) (by intro p hp;simp only [mem_cons,not_mem_nil,or_false] at hp;rcases hp with rfl;rfl)) J2)))))))))))),?_⟩
  have oko:=okr os Fm.st;have lo:=oko.len;have lz:zs.length=rows.length:=by rw [tz.len,length_map]
  have few:=J2p n7 nd okr;refine ⟨_,rfl,_,.ty "list",.type "list",.type "list",true,rfl,rfl,fun v h=>h,.lst hfl,rfl,true,rfl,iteF ?_⟩;intro d hd;have hdn:=hd;have s1:=J3 (o:=.dT []) hd;have fst:∀ i,i < rows.length->∃ q o,rows[i]?=some o/\zs[i]?=some (.ref q)/\H q=some (.tup (nV o))/\o∈rows:=fun i hi=>by
   obtain ⟨q,e1,e2⟩:=tz.at_ i (natI rows[i]) (by rw [getElem?_map,List.getElem?_eq_getElem hi];rfl);exact ⟨q,rows[i],List.getElem?_eq_getElem hi,e1,e2,List.getElem_mem hi⟩
  refine ⟨_,rfl,fl,rfl,⟨_,SqL.of (s1 _ _ hfl)⟩,J3q (K:=K) (a:=fl) (xs:=zs) (fun i σ Hw=>∃ (v3:V) (v4:Option V),σ=[some (.ref fl),some (.ref l),some (.ref d),some v3,v4,none,none,none]/\Hw d=some (.dT (kvM (rows.take i) fun _=>false))/\Same H Hw/\(i=0->v3=.non)/\∀ j,i=j + 1->∃ q o,v3=.ref q/\rows[j]?=some o/\H q=some (.tup (nV o)))
   ⟨_,_,rfl,by rw [List.take_zero];exact upd_same,s1,fun _=>rfl,fun j z=>by omega⟩ (fun i σ Hw _ ⟨_,_,_,_,sw,_⟩=>SqL.of (sw _ _ hfl)) ?_ ?_⟩
  ·rintro i v σ Hw hv ⟨v3,v4,rfl,hdw,sw,l0,l1⟩;have hi:i < rows.length:=by rw [<- lz];exact (List.getElem?_eq_some_iff.mp hv).1
   obtain ⟨q,o,eo,ez,hq,hm⟩:=fst i hi;obtain rfl:V.ref q=v:=Option.some.inj (ez.symm.trans hv);have ok:=okr o hm;have lno:=ok.len;have hqw:=sw _ _ hq;refine ⟨_,rfl,_,.ty "tuple",.type "tuple",.type "tuple",true,rfl,rfl,fun v h=>h,.tup hqw,rfl,true,rfl,iteF ?_⟩;refine ⟨_,rfl,_,rfl,q,_,rfl,.inr (SqT.of hqw),fun la hla=>?_⟩;have u1:=J3 (o:=.lst (nV o)) hla;refine ⟨q,la,natI o,rfl,u1 _ _ hqw,upd_same,by rw [Jh];omega,_,rfl,iteF ?_⟩;refine ⟨_,rfl,q,natI o,rfl,.inr (SqT.of (u1 _ _ hqw)),by rw [Jh];omega,fun sl ns' hsl p1 p2=>?_⟩;have u2:=J3 (o:=.lst (ns'.map V.int)) hsl;have ll:=Js os;refine ⟨_,rfl,l,_,rfl,.inl (SqL.of ((sw.trans (u1.trans u2)) _ _ hl)),_,rfl,fun r hr'=>⟨r,os.length,rfl,(by rw [<- ll];exact upd_same),by omega,fun rl hrl=>?_⟩⟩;have u3:=J3 (o:=.rng 0 ((nV os).length:Int)) hr';have u4:=J3 (o:=.lst (nV (List.range os.length))) hrl;have u14:=u1.trans (u2.trans (u3.trans u4));refine ⟨sl,rl,_,_,rfl,rfl,SqL.of ((u3.trans u4) _ _ upd_same),SqL.of upd_same,Kin.ints _ _,_,rfl,iteNS ?_ ?_⟩
   ·have e:=J1p (n:=os.length) (by have:=ok.io;unfold IsO at this;rwa [lno,<- lo] at this) p1 p2;rw [e];rfl
   have hd4:=u14 _ _ hdw;have sw4:=sw.trans u14;have hq4:=u14 _ _ hqw;have fin:∃ (a:Addr) (H4:Hp),V.ref d=.ref a/\DPut (upd (upd (upd (upd Hw la (.lst (nV o))) sl (.lst (ns'.map V.int))) r (.rng 0 ((nV os).length:Int))) rl (.lst (nV (List.range os.length)))) a (.ref q) (.bl false) H4/\∃ (v3:V) (v4:Option V),[some (.ref fl),some (.ref l),some (.ref d),some (.ref q),some (.ref q),none,none,none]=[some (.ref fl),some (.ref l),some (.ref d),some v3,v4,none,none,none]/\H4 d=some (.dT (kvM (rows.take (i + 1)) fun _=>false))/\Same H H4/\(i + 1=0->v3=.non)/\∀ j,i + 1=j + 1->∃ q o,v3=.ref q/\rows[j]?=some o/\H q=some (.tup (nV o)):=by
    have no:o ∉ rows.take i:=fun z=>by
     obtain ⟨j,hj,e⟩:=getElem_of_mem z;rw [length_take] at hj;rw [List.getElem_take] at e;have e2:rows[j]?=rows[i]?:=by rw [List.getElem?_eq_getElem (by omega),e,eo]
     have:=(List.getElem?_inj (by omega) nd).mp e2;omega
    have ep:putK (kvM (rows.take i) fun _=>false) (keyO o) (V.bl false)=kvM (rows.take (i + 1)) fun _=>false:=by
     rw [putK_new (fun z=>by rw [kvM_keys] at z;obtain ⟨x,hx,e⟩:=mem_map.mp z;exact no (J1x e ▸ hx)),take_succ,eo];unfold kvM;rw [map_append];rfl
    refine ⟨d,_,rfl,DPut.t hd4 (by rw [J24];exact hq4) ?_,_,_,rfl,by rw [upd_same,ep],fun b ob e=>?_,fun z=>by omega,fun j z=>⟨q,o,rfl,?_,hq⟩⟩
    ·unfold kvM;rw [length_map,length_take,sizeLine_eq];omega
    ·rw [Ja (J6 e hd)];exact sw4 _ _ e
    ·rw [<- eo];congr 1;omega
   match i,l0,l1 with
   | 0,l0,_ =>
    obtain rfl:=l0 rfl;refine ⟨_,rfl,rfl,_,rfl,iteNS rfl ?_⟩;exact ⟨_,rfl,_,rfl,_,rfl,fin⟩
   | j + 1,_,l1 =>
    obtain ⟨q',o',rfl,eo',hq'⟩:=l1 j rfl;have m':=List.mem_of_getElem? eo';refine ⟨_,rfl,rfl,_,rfl,iteND (by intro z;cases z) ?_⟩;have lt:Tm.lexB (natI o') (natI o)=true:=by
     have pw:=List.pairwise_iff_getElem.mp lx j (j + 1) (by rw [length_map];omega) (by rw [length_map];omega) (by omega);have e1:(rows.map natI)[j]'(by rw [length_map];omega)=natI o':=by rw [List.getElem_map];congr 1;exact Option.some.inj ((List.getElem?_eq_getElem _).symm.trans eo')
     have e2:(rows.map natI)[j + 1]'(by rw [length_map];omega)=natI o:=by rw [List.getElem_map];congr 1;exact Option.some.inj ((List.getElem?_eq_getElem _).symm.trans eo)
     rw [e1,e2] at pw
     cases c:Tm.lexB (natI o') (natI o) with
     | true=>rfl
     | false =>
      have:=J1v (Tm.lex_tot _ _ c pw);rw [this,<- eo] at eo';have:=(List.getElem?_inj (by omega) nd).mp eo';omega
    refine ⟨_,rfl,_,rfl,q,q',natI o,natI o',rfl,rfl,SqT.of hq4,SqT.of (sw4 _ _ hq'),by rw [Jh,Jh,lno,(okr o' m').len],_,rfl,?_⟩;rw [lt];refine iteF ?_;exact ⟨_,rfl,_,rfl,_,rfl,fin⟩
  rintro σ Hw ⟨v3,v4,rfl,hdw,sw,_,_⟩;rw [lz,List.take_length] at hdw;refine ⟨_,rfl,J10 (.inl (sw _ _ hl)) fun t1 H2 u2 ht1=>?_⟩;refine ⟨_,rfl,d,_,rfl,DGet.t (u2 _ _ hdw) (by rw [J24];exact ht1),_,rfl,?_⟩;rw [J2f Fm.st];refine iteF ?_;have hz2:(kvM rows fun _=>false).length < sizeLine:=by
   unfold kvM;rw [length_map,sizeLine_eq];omega
  refine ⟨_,rfl,_,rfl,J10 (.inl ((sw.trans u2) _ _ hl)) fun t2 H3 u3 ht2=>?_⟩;refine ⟨d,_,rfl,DPut.t (u3 _ _ (u2 _ _ hdw)) (by rw [J24];exact ht2) hz2,?_⟩;rw [kvM_put Fm.st];have sd:Same H (upd H3 d (.dT (kvM rows (setM (fun _=>false) os)))):=fun b o e=>by
   rw [Ja (J6 e hd)];exact (sw.trans (u2.trans u3)) _ _ e
  have hd3:=upd_same (H:=H3) (a:=d) (o:=.dT (kvM rows (setM (fun _=>false) os)));generalize upd H3 d (.dT (kvM rows (setM (fun _=>false) os)))=H4 at *;refine ⟨_,rfl,l,_,rfl,.inl (SqL.of (sd _ _ hl)),fun b0 hb0=>⟨(by show 1<=sizeLine;decide),fun wl hwl=>?_⟩⟩;have u5:=J3 (o:=.lst (nV os)) hb0;have u6:=J3 (o:=.lst [V.ref b0]) hwl;have nwl:H wl=none:=by
   cases z:H wl with
   | none=>rfl
   | some o=>rw [u5 _ _ (sd _ _ z)] at hwl;cases hwl
  have neo:∀ w∈rows,w≠[]:=fun w hw z=>by
   have:=(okr w hw).len;rw [z] at this;have:(0:Nat)=n:=this;omega
  have ci0:ClosI rows os (setM (fun _=>false) os) [os] (fun _ _=>False):=⟨setM_self _ _,fun w hw=>by rw [mem_singleton.mp hw];exact Fm.st,fun o ho m nw=>by
   have:=setM_ne m (fun z=>nw (mem_singleton.mpr z));cases this⟩
  have un0:=unR_le (setM (fun _=>false) os) rows;refine ⟨fun m σ Hw=>∃ (v6 v7:Option V) (mk:List Nat->Bool) (as:List Addr) (ws:List (List Nat)),σ=[some (.ref fl),some (.ref l),some (.ref d),some v3,v4,some (.ref wl),v6,v7]/\Hw d=some (.dT (kvM rows mk))/\Hw wl=some (.lst (as.map V.ref))/\LsAt Hw as ws/\Same H Hw/\ClosI rows os mk ws (fun _ _=>False)/\m=2 * unR mk rows + ws.length/\m<=2 * rows.length + 1,
   ⟨2 * unR (setM (fun _=>false) os) rows + 1,_,_,_,[b0],[os],rfl,(u5.trans u6) _ _ hd3,upd_same,⟨rfl,fun i a w e f=>by
    match i with
    | 0 =>
     obtain rfl:=Option.some.inj e;obtain rfl:=Option.some.inj f;exact u6 _ _ upd_same
    | i + 1=>cases e⟩,sd.trans (u5.trans u6),ci0,rfl,by omega⟩,?_⟩
  rintro m σ Hw ⟨v6,v7,mk,as,ws,rfl,hdw,hw,la,sw,ci,hm,mle⟩;have lm:(as.map V.ref).length=ws.length:=by rw [length_map,la.1]
  refine ⟨_,rfl,wl,_,rfl,.inl (SqL.of hw),_,_,rfl,rfl,_,rfl,?_⟩;by_cases cw:ws=[]
  ·subst cw;refine iteD (by rw [lm];decide) ?_;have alls:=J3c Fm ci.me (fun o ho m b=>ci.cl o ho m (fun z=>by cases z) b (fun z=>z));refine ⟨_,rfl,fl,rfl,⟨_,SqL.of (sw _ _ hfl)⟩,fun e he=>lc_lstW zs (fun i=>V.bl (mk (rows.getD i []))) (SqL.of (sw _ _ hfl)) (by rw [lz,sizeLine_eq];omega) he (fun i H5 Qe v hv s5 ke=>?_) (fun H5 s5 he5=>?_)⟩
   ·have hi:i < rows.length:=by rw [<- lz];exact (List.getElem?_eq_some_iff.mp hv).1
    obtain ⟨q,o,eo,ez,hq,hm⟩:=fst i hi;obtain rfl:V.ref q=v:=Option.some.inj (ez.symm.trans hv);have eg:rows.getD i []=o:=by rw [getD_eq_getElem?_getD,eo];rfl
    have dg:DGet H5 d (.ref q) (some (.bl (mk o))):=by
     rw [<- J2f hm];exact DGet.t (s5 _ _ hdw) (by rw [J24];exact s5 _ _ (sw _ _ hq))
    rw [eg] at ke;exact ⟨_,rfl,_,rfl,d,_,rfl,dg,ke _ (Same.refl _)⟩
   ·have eb:(List.range zs.length).map (fun i=>V.bl (mk (rows.getD i [])))=((List.range zs.length).map fun i=>mk (rows.getD i [])).map V.bl:=by rw [map_map];rfl
    rw [eb] at he5;refine ⟨e,_,rfl,SqL.of he5,?_⟩;have ea:((List.range zs.length).map fun i=>mk (rows.getD i [])).all id=true:=all_eq_true.mpr fun b hb=>by
     obtain ⟨i,hi,rfl⟩:=mem_map.mp hb;have hi:=mem_range.mp hi;rw [lz] at hi;refine alls _ _ ?_ rfl;rw [getD_eq_getElem?_getD,List.getElem?_eq_getElem hi];exact List.getElem_mem hi
    rw [ea];exact k _ (sw.trans s5)
  refine iteDT (by rw [lm];have:=List.length_pos_iff.mpr cw;omega) ?_;refine ⟨_,fun _ _ h=>h,?_⟩;obtain ⟨as',a',eas⟩:∃ as' a',as=as' ++ [a']:=⟨as.dropLast,as.getLast (fun z=>cw (List.length_eq_zero_iff.mp (by rw [<- la.1,z];rfl))),(List.dropLast_concat_getLast _).symm⟩;obtain ⟨ws',w,ews⟩:∃ ws' w,ws=ws' ++ [w]:=⟨ws.dropLast,ws.getLast cw,(List.dropLast_concat_getLast cw).symm⟩;rw [eas,ews] at la;obtain ⟨lp,la',ha'⟩:=la.pop;have hwr:w∈rows:=ci.wm w (by rw [ews];exact mem_append_right _ (mem_singleton.mpr rfl));have okw:=okr w hwr;have eL':as.map V.ref=as'.map V.ref ++ [V.ref a']:=by rw [eas,map_append];rfl
  have hy:(as.map V.ref)[(as.map V.ref).length - 1]?=some (V.ref a'):=by
   rw [eL',length_append];exact List.getElem?_concat_length
  have hdr:(as.map V.ref).dropLast=as'.map V.ref:=by rw [eL',List.dropLast_concat]
  have lws:ws.length=ws'.length + 1:=by rw [ews,length_append];rfl
  have neW:∀ x∈ws',x≠[]:=fun x hx=>neo x (ci.wm x (by rw [ews];exact mem_append_left _ hx));refine ⟨_,rfl,.inl ⟨rfl,_,SqL.of hw⟩,wl,as.map V.ref,_,rfl,rfl,hw,hy,?_⟩;rw [hdr];have nwd:d≠wl:=ne_of hdw hw (by intro z;cases z);have hd2:upd Hw wl (.lst (as'.map V.ref)) d=some (.dT (kvM rows mk)):=by rw [Ja nwd];exact hdw
  have hw2:=upd_same (H:=Hw) (a:=wl) (o:=.lst (as'.map V.ref));have ha2:upd Hw wl (.lst (as'.map V.ref)) a'=some (.lst (nV w)):=by rw [Ja (ne_of ha' hw (refs_ne (neo w hwr)))];exact ha'
  have la2:=la'.updL (o:=.lst (as'.map V.ref)) hw neW;have s2':Same H (upd Hw wl (.lst (as'.map V.ref))):=fun b o z=>by
   rw [Ja (J6 z nwl)];exact sw _ _ z
  have ci2:ClosI rows os mk ws' (fun o b=>o=w/\0 < (if b=true then 1 else 2)):=⟨ci.me,fun x hx=>ci.wm x (by rw [ews];exact mem_append_left _ hx),fun o ho m nw b no=>by
   by_cases z:o=w
   ·exact absurd ⟨z,by cases b <;> decide⟩ no
   ·refine ci.cl o ho m (fun h=>?_) b (fun h=>h);rw [ews] at h;rcases mem_append.mp h with h | h
    ·exact nw h
    ·exact z (mem_singleton.mp h)⟩
  generalize upd Hw wl (.lst (as'.map V.ref))=Ha at *;refine ⟨_,rfl,a',w,n,rfl,ha2,okw,n2,n7,fun c1 Hb sb hc1=>?_⟩;refine ⟨_,rfl,a',w,n,rfl,sb _ _ ha2,okw,n2,n7,fun c2 Hc sc hc2=>⟨(by show 2<=sizeLine;decide),fun pl hpl=>?_⟩⟩;have sp:=J3 (o:=.lst [V.ref c1,V.ref c2]) hpl;have sbc:=sb.trans (sc.trans sp);have npw:pl≠wl:=(J6 ((sb.trans sc) _ _ hw2) hpl).symm;refine ⟨pl,rfl,⟨_,SqL.of upd_same⟩,J3q (K:=K) (a:=pl) (xs:=[.ref c1,.ref c2]) (fun j σ Hv=>∃ (v7:Option V) (mk:List Nat->Bool) (as:List Addr) (ws:List (List Nat)),σ=[some (.ref fl),some (.ref l),some (.ref d),some v3,v4,some (.ref wl),some (.ref a'),v7]/\Hv d=some (.dT (kvM rows mk))/\Hv wl=some (.lst (as.map V.ref))/\LsAt Hv as ws/\(Hv pl=some (.lst [.ref c1,.ref c2])/\Hv c1=some (.lst (nV (stepO true w)))/\Hv c2=some (.lst (nV (stepO false w))))/\Same H Hv/\ClosI rows os mk ws (fun o b=>o=w/\j < (if b=true then 1 else 2))/\2 * unR mk rows + ws.length < m)
   ⟨_,mk,as',ws',rfl,sbc _ _ hd2,sbc _ _ hw2,la2.same sbc,⟨upd_same,(sc.trans sp) _ _ hc1,sp _ _ hc2⟩,s2'.trans sbc,ci2,by omega⟩ (fun i σ Hw _ ⟨_,_,_,_,_,_,_,_,q,_⟩=>SqL.of q.1) ?_ ?_⟩
  ·rintro j v σ Hv hv ⟨v7,mk,as,ws,rfl,hd,hw,la,⟨hp,h1,h2⟩,sv,ci,hlt⟩;obtain ⟨c,b,rfl,hc,hj⟩:∃ c b,v=.ref c/\Hv c=some (.lst (nV (stepO b w)))/\j + 1=(if b=true then 1 else 2):=by
    rcases j with _ | _ | j
    ·cases hv;exact ⟨c1,true,rfl,h1,rfl⟩
    ·cases hv;exact ⟨c2,false,rfl,h2,rfl⟩
    ·cases hv
   have hoo:stepO b w∈rows:=Fm.cl b w hwr;refine ⟨_,rfl,J10 (.inl hc) fun t1 H6 u6 ht1=>?_⟩;refine ⟨_,rfl,d,_,rfl,DGet.t (u6 _ _ hd) (by rw [J24];exact ht1),_,rfl,?_⟩;rw [J2f hoo];refine iteF ?_;refine ⟨_,rfl,_,rfl,J10 (.inl (u6 _ _ hc)) fun t2 H7 u7 ht2=>?_⟩;have dg:DGet H7 d (.ref t2) (some (.bl (mk (stepO b w)))):=by
    rw [<- J2f hoo];exact DGet.t (u7 _ _ (u6 _ _ hd)) (by rw [J24];exact ht2)
   refine ⟨d,_,rfl,dg,_,rfl,?_⟩;have s67:=u6.trans u7;have fin:∀ {mk':List Nat->Bool} {ws':List (List Nat)},ClosI rows os mk' ws' (fun o b=>o=w/\j < (if b=true then 1 else 2))->mk' (stepO b w)=true->ClosI rows os mk' ws' (fun o b=>o=w/\j + 1 < (if b=true then 1 else 2)):=fun {mk' ws'} ci hb=>by
    refine ⟨ci.me,ci.wm,fun o ho m nw b' no=>?_⟩;by_cases z:o=w/\j < (if b'=true then 1 else 2)
    ·have e:b'=b:=by
      have n1:¬ j + 1 < (if b'=true then 1 else 2):=fun q=>no ⟨z.1,q⟩;have n2:=z.2;cases b' <;> cases b <;> simp at n1 n2 hj ⊢ <;> omega
     rw [z.1,e];exact hb
    ·exact ci.cl o ho m nw b' z
   cases cm:mk (stepO b w) with
   | true =>
    refine iteF ?_;exact ⟨_,mk,as,ws,rfl,s67 _ _ hd,s67 _ _ hw,la.same s67,⟨s67 _ _ hp,s67 _ _ h1,s67 _ _ h2⟩,sv.trans s67,fin ci cm,hlt⟩
   | false =>
    refine iteT ?_;have hz3:(kvM rows mk).length < sizeLine:=by
     unfold kvM;rw [length_map,sizeLine_eq];omega
    refine ⟨_,rfl,_,rfl,J10 (.inl (s67 _ _ hc)) fun t3 H8 u8 ht3=>⟨d,_,rfl,DPut.t (u8 _ _ (s67 _ _ hd)) (by rw [J24];exact ht3) hz3,?_⟩⟩;rw [kvM_put hoo];have s8:=s67.trans u8;have hd8:=s8 _ _ hd;have keep:∀ {a:Addr} {xs:List V},H8 a=some (.lst xs)->upd H8 d (.dT (kvM rows (setM mk (stepO b w)))) a=some (.lst xs):=fun {a xs} e=>by
     rw [Ja (ne_of e hd8 (by intro z;cases z))];exact e
    have hw9:=keep (s8 _ _ hw);have la9:=(la.same s8).updD (o:=.dT (kvM rows (setM mk (stepO b w)))) hd8;have hc9:=keep (s8 _ _ hc);have hp9:=keep (s8 _ _ hp);have h19:=keep (s8 _ _ h1);have h29:=keep (s8 _ _ h2);have hd9:=upd_same (H:=H8) (a:=d) (o:=.dT (kvM rows (setM mk (stepO b w))));have s9:Same H (upd H8 d (.dT (kvM rows (setM mk (stepO b w))))):=fun x o e=>by
     rw [Ja (J6 e hdn)];exact (sv.trans s8) _ _ e
    generalize upd H8 d (.dT (kvM rows (setM mk (stepO b w))))=H9 at *;have lw:as.length=ws.length:=la.1;have sm:∀ bb,stepO bb w≠[]:=fun bb=>neo _ (Fm.cl bb w hwr);have eas2:as.map V.ref ++ [V.ref c]=(as ++ [c]).map V.ref:=by rw [map_append];rfl
    refine ⟨_,rfl,.inl ⟨rfl,_,SqL.of hw9⟩,_,rfl,wl,as.map V.ref,_,rfl,rfl,hw9,by rw [length_map,sizeLine_eq];omega,?_⟩;rw [eas2];refine ⟨_,setM mk (stepO b w),as ++ [c],ws ++ [stepO b w],rfl,by rw [Ja (ne_of hd9 hw9 (by intro z;cases z))];exact hd9,upd_same,(la9.snoc hc9).updL hw9 (fun x hx=>?_),⟨by rw [Ja npw];exact hp9,by rw [Ja (ne_of h19 hw9 (refs_ne (sm true)))];exact h19,by rw [Ja (ne_of h29 hw9 (refs_ne (sm false)))];exact h29⟩,fun x o e=>by rw [Ja (J6 e nwl)];exact s9 _ _ e,fin (ci.mark hoo) (setM_self _ _),?_⟩
    ·rcases mem_append.mp hx with hx | hx
     ·exact neo x (ci.wm x hx)
     ·rw [mem_singleton.mp hx];exact sm b
    ·have:=unR_set cm nd hoo;rw [length_append];show _ + (ws.length + 1) < m;omega
  ·rintro σ Hv ⟨v7,mk,as,ws,rfl,hd,hw,la,_,sv,ci,hlt⟩;exact ⟨2 * unR mk rows + ws.length,hlt,_,_,mk,as,ws,rfl,hd,hw,la,sv,⟨ci.me,ci.wm,fun o ho m nw b _=>ci.cl o ho m nw b (fun z=>by have:=z.2;cases b <;> simp at this)⟩,rfl,by omega⟩
def spLaw (K:Frag):Sp:=fun vs H Q _=>∃ (a:Addr) (ns:List Int),vs=[.ref a]/\SqL K H a (iV ns)/\ns.length<=63/\∀ H',Q (.bl true) H'
theorem downV:((List.range 7).map fun (i:Nat)=>(6:Int) + (i:Int) * (-1)).map V.int=nV [6,5,4,3,2,1,0]:=by rfl
theorem rows_same {a b:List (List Nat)} (na:a.Nodup) (nb:b.Nodup) (h:∀ o,o∈a↔o∈b) (pa:(a.map natI).Pairwise fun x y=>Tm.lexB y x=false) (pb:(b.map natI).Pairwise fun x y=>Tm.lexB y x=false):a.map natI=b.map natI:=by
 have p:a.Perm b:=(List.perm_ext_iff_of_nodup na nb).mpr h;exact List.Perm.eq_of_pairwise (le:=fun x y=>Tm.lexB y x=false) (fun x y _ _ h1 h2=>Tm.lex_tot x y h2 h1) pa pb (p.map natI)
theorem scLaw:FnScope ["script","cell","order","handed","found","drawn","k"] ["script"] (J9 sLaw):=fS
theorem ok_law {f fC fLO2 fFM fCD CB CLo:Addr} {fd fdC fdLO2 fdFM fdCD:FuncData}  (F:Fun K "law" "law" sLaw f fd) (T:TxtR mg) (hmax:mg "max"=none)
  (GC:FnOk P w K mg base CX0 1 fC fdC ["script","k"] (spCell K)) (bC:Binds K fdC ["script","k"] []) (mC:mg "_law_cell"=some (.ref fC)) (kC:keepIn K (.ref fC)=true)
  (GLO2:FnOk P w K mg base CX0 2 fLO2 fdLO2 ["script","at","many"] (spOrder K)) (bLO2:Binds K fdLO2 ["script","at","many"] []) (mLO2:mg "_law_order"=some (.ref fLO2)) (kLO2:keepIn K (.ref fLO2)=true)
  (GFM:FnOk P w K mg base (Exc1 P w) 4 fFM fdFM ["order"] (spFamG CB CLo)) (bFM:Binds K fdFM ["order"] []) (mFM:mg "family"=some (.ref fFM)) (kFM:keepIn K (.ref fFM)=true)
  (GCD:FnOk P w K mg base CX0 2 fCD fdCD ["found","order"] (spClosed K)) (bCD:Binds K fdCD ["found","order"] []) (mCD:mg "_law_closed"=some (.ref fCD)) (kCD:keepIn K (.ref fCD)=true) :
  FnOk P w K mg base CX0 5 f fd ["script"] (spLaw K):=by
 refine F.ok scLaw (fun vs H Q E h=>?_) (fun cdv A outer s H vs Q E hr h=>?_)
 ·obtain ⟨a,ns,rfl,_⟩:=h;rfl
 ·obtain ⟨a,ns,rfl,hS,hn,k⟩:=h;have hr1:Room 1 _:=rm hr;have hr2:Room 2 _:=rm hr;have hr4:Room 4 _:=rm hr;have hu:=hr.units0;have hu1:=Nat.lt_of_le_of_lt (Nat.add_le_add_left (by decide:1<=64) _) hr.units;refine ⟨_,(J1 (Jq (i:=1) scLaw.nd rfl (Or.inl rfl) (Jm GC hr1 rfl mC kC bC .nil pass0 (J0 (pv 0) (J0 Jd J2))))
   (J1 (Jq (i:=2) scLaw.nd rfl (Or.inl rfl) (Jm GLO2 hr2 rfl mLO2 kLO2 bLO2 .nil pass0 (J0 (pv 0) (J0 Jd (J0 (pe_op J3k Jd (pe_op op_mod (pv 1) Jd)) J2)))))
   (J1 (ps_cut (ps_if (Jk op_eq (pe_op op_mod (pv 1) Jd) Jd (Jv _)) (J7 (Jq (i:=2) scLaw.nd rfl (Or.inl rfl) (pe_lrng rfl rfl T.list rfl T.range (J0 Jd (J0 (pe_un J2u Jd) (J0 (pe_un J2u Jd) J2)))))) Jl))
   (J1 (Jq (i:=3) scLaw.nd rfl (Or.inl rfl) (Jb J15 (by rfl) T.list boot_list (J0 (pv 2) J2)))
   (J1 (Jq (i:=4) scLaw.nd rfl (Or.inl rfl) (Jm GFM hr4 rfl mFM kFM bFM .nil passF (J0 (pv 3) J2)))
   (J1 (ps_if (PW.pt (pw_or (Jk (op_neL hu) (pv 3) (pv 2) (Jv _)) (pw_or1 (J3h (J2l (Jm GCD hr2 rfl mCD kCD bCD .nil pass0 (J0 (pv 4) (J0 (pv 2) J2)))))))) (J7 (Jp pe_bl)) Jl)
   (J1 (Jq (i:=5) scLaw.nd rfl (Or.inl rfl) (pe_ix J1y (pv 4) (pe_op op_mod (J8 (call_sum rfl) (by rfl) T.sum PyProof.Rows.boot_sum (J0 (pv 0) J2)) (J8 J4 (by rfl) T.len boot_len (J0 (pv 4) J2))) (fun _ _=>rfl)))
   (J1 (J2z PassesOwn.never rfl (J2m rfl T.range (J0 Jd (J0 (J8 J4 (by rfl) T.len boot_len (J0 (pv 5) J2)) J2))) (Jz (i:=6) scLaw.nd rfl (Or.inl rfl))
    (J7 (ps_if (Jk op_eq (J8 (J3s rfl) (by rfl) hmax boot_max (J0 (J11 sl_tup (pv 5) J31 (J18 (pv 6))) J2)) (pe_op J23 (pv 6) Jd) (Jv _)) (J7 (Jp pe_bl)) Jl)))
   (J7 (Jp (pe_cmpR (op_eqN hu1) (Jm GFM hr4 rfl mFM kFM bFM .nil passF (J0 (pv 5) J2)) (pv 4) (Jv _)))))))))))),?_⟩
  have c0:=Int.emod_nonneg (cellN ns 0) (show (5:Int)≠0 by decide);have c1:=Int.emod_lt_of_pos (cellN ns 0) (show (0:Int) < 5 by decide);obtain ⟨many,em⟩:∃ many:Nat,2 + cellN ns 0 % 5=(many:Int):=⟨(2 + cellN ns 0 % 5).toNat,by omega⟩;refine ⟨_,rfl,a,ns,0,rfl,hS,?_⟩;refine ⟨_,rfl,_,rfl,_,_,rfl,rfl,(by show (0:Int) < 5;decide),_,_,rfl,rfl,a,ns,1,many,(by rw [<- em];rfl),hS,by omega,by omega,fun ol H1 os s1 hol nol io t lo=>?_⟩;refine ⟨fun σ' H'=>∃ ol os n,σ'=[some (.ref a),some (.int (cellN ns 0)),some (.ref ol),none,none,none,none]/\H' ol=some (.lst (nV os))/\OkO n os/\2<=n/\n<=7/\Same H H',?_,?_⟩
  ·refine ⟨_,rfl,_,_,rfl,rfl,(by show (0:Int) < 31;decide),rfl,_,rfl,?_⟩;by_cases c:cellN ns 0 % 31=30
   ·refine iteDT (congrArg V.int c) ?_;refine ⟨_,rfl,_,rfl,6,-1,-1,7,rfl,by decide,(by decide +kernel),(by decide +kernel),(by decide +kernel),by decide,fun l hl=>?_⟩;exact ⟨l,[6,5,4,3,2,1,0],7,rfl,upd_same.trans (congrArg (fun z=>some (HO.lst z)) downV),okDown,by decide,by decide,s1.trans (J3 hl)⟩
   ·refine iteD (fun z=>c (V.int.inj z)) ?_;exact ⟨ol,os,many,rfl,hol,⟨io,t,lo⟩,by omega,by omega,s1⟩
  rintro σ' H2 ⟨ol,os,n,rfl,hol,ok,n2,n7,s2⟩;have ln:=ok.len;refine ⟨_,rfl,ol,_,rfl,.inl (SqL.of hol),fun hl hhl=>?_⟩;have s3:=J3 (o:=.lst (nV os)) hhl;have hol3:=s3 _ _ hol;have hh3:=upd_same (H:=H2) (a:=hl) (o:=.lst (nV os));generalize upd H2 hl (.lst (nV os))=H3 at *;refine ⟨_,rfl,hl,os,n,rfl,.inl hh3,ok,n2,n7,fun fl zs rows dist H4 s4 hfl tz lx nd okr Fm=>?_⟩;refine ⟨_,rfl,_,rfl,hl,ol,_,_,rfl,rfl,SqL.of (s4 _ _ hh3),SqL.of (s4 _ _ hol3),Kin.ints _ _,_,rfl,iteNS rfl ?_⟩;refine ⟨_,rfl,_,rfl,fl,ol,zs,rows,os,n,dist,rfl,hfl,s4 _ _ hol3,tz,lx,nd,okr,Fm,n2,n7,fun H5 s5=>⟨_,rfl,iteF ?_⟩⟩;have s05:=s2.trans (s3.trans (s4.trans s5));have hfl5:=s5 _ _ hfl;have tz5:=tz.same s5;have lz:zs.length=rows.length:=by rw [tz.len,length_map]
  have rp:0 < rows.length:=List.length_pos_of_mem Fm.st;have few:=J2p n7 nd okr;have i0:=Int.emod_nonneg ns.sum (show (zs.length:Int)≠0 by omega);have i1:=Int.emod_lt_of_pos ns.sum (show (0:Int) < (zs.length:Int) by omega);obtain ⟨i,ei⟩:∃ i:Nat,ns.sum % (zs.length:Int)=(i:Int):=⟨(ns.sum % (zs.length:Int)).toNat,by omega⟩;have hi:i < rows.length:=by omega
  obtain ⟨q,e1,e2⟩:=tz5.at_ i (natI rows[i]) (by rw [getElem?_map,List.getElem?_eq_getElem hi];rfl);obtain ⟨o,eo⟩:∃ o,o=rows[i]:=⟨_,rfl⟩;rw [<- eo] at e2;have e2:H5 q=some (.tup (nV o)):=e2;have ho:o∈rows:=by rw [eo];exact List.getElem_mem hi
  have oko:=okr o ho;have lno:=oko.len;refine ⟨_,rfl,_,rfl,a,ns,rfl,.inl (s05.seq hS),_,rfl,fl,_,rfl,.inl (SqL.of hfl5),_,_,rfl,rfl,(by show (0:Int) < ((zs.length:Nat):Int);omega),fl,zs,_,_,rfl,rfl,SqL.of hfl5,(by rw [ei];exact J1h e1),?_⟩;have llo:=Js o;refine ⟨_,rfl,q,_,rfl,.inr (SqT.of e2),_,_,rfl,⟨by decide,by decide,by omega,by omega⟩,?_⟩;have en:(((nV o).length:Int) - 1).toNat=n - 1:=by omega
  rw [en];refine J1j (lo:=1) (n:=n - 1) (fun j σ Hw=>∃ v6:Option V,σ=[some (.ref a),some (.int (cellN ns 0)),some (.ref ol),some (.ref hl),some (.ref fl),some (.ref q),v6]/\Same H5 Hw) ⟨none,rfl,Same.refl _⟩ ?_ ?_
  ·rintro j σ Hw hj ⟨v6,rfl,sw⟩;have ej:(1:Int) + (j:Nat)=((j + 1:Nat):Int):=by omega
   rw [ej];refine ⟨_,rfl,_,rfl,_,rfl,q,_,rfl,SqT.of (sw _ _ e2),?_,fun p hp=>?_⟩
   ·rw [llo,HT.sIx_nat];omega
   rw [J1e o (j + 1) (by omega)];have s7:=J3 (o:=.tup (nV (o.take (j + 1)))) hp;refine ⟨p,natI (o.take (j + 1)),rfl,.inr (SqT.of upd_same),by rw [Jh,length_take];omega,fun M hM ha=>?_⟩;refine ⟨_,rfl,_,_,rfl,rfl,rfl,_,rfl,iteD (fun z=>?_) ⟨_,rfl,sw.trans s7⟩⟩;obtain ⟨x,hx,hk⟩:=oko.t (j + 1) (by omega) (by omega);have h1:=ha (x:Int) (mem_map.mpr ⟨x,hx,rfl⟩);have h2:=V.int.inj z;omega
  rintro σ Hw ⟨v6,rfl,sw⟩;refine ⟨_,rfl,q,o,n,rfl,.inr (sw _ _ e2),oko,n2,n7,fun fl2 zs2 rows2 dist2 H6 s6 hfl2 tz2 lx2 nd2 okr2 Fm2=>?_⟩;have sm:=fam_same Fm Fm2 n2 okr nd2 okr2 ho;have er:=rows_same nd2 nd sm lx2 lx;have tz6:=tz5.same (sw.trans s6);rw [er] at tz2;refine ⟨_,rfl,fl2,fl,zs2,zs,fun _=>true,rfl,rfl,.inr ⟨SqL.of hfl2,SqL.of ((sw.trans s6) _ _ hfl5)⟩,by rw [tz2.len,tz.len],fun j x y hx hy=>?_,?_⟩
  ·have hj:j < (rows.map natI).length:=by rw [<- tz2.len];exact (List.getElem?_eq_some_iff.mp hx).1
   obtain ⟨qa,f1,f2⟩:=tz2.at_ j _ (List.getElem?_eq_getElem hj);obtain ⟨qb,f3,f4⟩:=tz6.at_ j _ (List.getElem?_eq_getElem hj);obtain rfl:V.ref qa=x:=Option.some.inj (f1.symm.trans hx);obtain rfl:V.ref qb=y:=Option.some.inj (f3.symm.trans hy);exact .inr ⟨qa,qb,_,_,rfl,rfl,.inl ⟨SqT.of f2,SqT.of f4⟩,Kin.ints _ _,(decide_eq_true rfl).symm⟩
  ·rw [if_neg Bool.false_ne_true,all_eq_true.mpr fun _ _=>rfl];exact k _
end
end R61
namespace R61
open PySem L2 Rl
theorem kib (K:Frag):kitOne K (.type "int") (.type "bool")=some false:=by kernel_rfl
abbrev DfI (K:Frag) (x:Str) (st:Stmt) (f:Addr) (od an:Option Addr) (sl:Array (Option Value)) (oc kV dc pm cd ct:Value):Prop:=nsIn K mainGlobals x=some (some (.ref f))/\K.lookup f=some ⟨oc,od,.func (fnOf x x (J21 st) (J1a st) (J9 st) .none kV dc pm an cd ct),sl⟩/\codeIn K cd x=true/\keepIn K (.ref f)=true
abbrev NzI (K:Frag) (x:Str):Prop:=nsIn K mainGlobals x=some none
theorem dfn {K:Frag} {h:Heap} {mg:Str->Option Value} (X:K.In h) (G:h.Ns mainGlobals mg) {x:Str} {st:Stmt} {f:Addr} {od an:Option Addr} {sl:Array (Option Value)} {oc kV dc pm cd ct:Value} (d:DfI K x st f od an sl oc kV dc pm cd ct) :
  Fun K x x st f (fnOf x x (J21 st) (J1a st) (J9 st) .none kV dc pm an cd ct)/\mg x=some (.ref f)/\keepIn K (.ref f)=true:=⟨fun_mk d.2.1 d.2.2.1 d.2.2.2,mg_of X G d.1,d.2.2.2⟩
theorem usOf0 {P:List PySem.Value → Prop} (h : P []) : ∀ us : List PySem.Value,us.length = 0 → P us := fun us e => by
  cases us with
  | nil => exact h
  | cons a l => cases e
theorem usS {P:List PySem.Value → Prop} {n : Nat} (h : ∀ a us,us.length = n → P (a :: us)) : ∀ us : List PySem.Value,us.length = n + 1 → P us := fun us e => by
  cases us with
  | nil => cases e
  | cons a l => exact h a l (Nat.succ.inj e)
theorem usOf1 {P:List PySem.Value → Prop} (h : ∀ a0,P [a0]) : ∀ us : List PySem.Value,us.length = 1 → P us := usS fun a => usOf0 (P := fun us => P (a :: us)) (h a)
theorem usOf2 {P:List PySem.Value → Prop} (h : ∀ a0 a1,P [a0,a1]) : ∀ us : List PySem.Value,us.length = 2 → P us := usS fun a => usOf1 (P := fun us => P (a :: us)) (h a)
theorem usOf3 {P:List PySem.Value → Prop} (h : ∀ a0 a1 a2,P [a0,a1,a2]) : ∀ us : List PySem.Value,us.length = 3 → P us := usS fun a => usOf2 (P := fun us => P (a :: us)) (h a)
theorem all_mk {l : PySem.W.OpenLaw} {w : World} {K : Frag} {h : Heap} {mg : Str -> Option Value} {fa  CBadOrder CLoose : Addr} (X : K.In h) (G : h.Ns mainGlobals mg) (hfa : mg "law" = some (.ref fa))
    {f0 f1 f2 f3 f4 f5 f6 f7 f8 f9 f10 f11 f12 f13 f14 f15 : Addr} {od0 an0 od1 an1 od2 an2 od3 an3 od4 an4 od5 an5 od6 an6 od7 an7 od8 an8 od9 an9 od10 an10 od11 an11 od12 an12 od13 an13 od14 an14 od15 an15 : Option Addr} {sl0 sl1 sl2 sl3 sl4 sl5 sl6 sl7 sl8 sl9 sl10 sl11 sl12 sl13 sl14 sl15 : Array (Option Value)} {oc0 kV0 dc0 pm0 cd0 ct0 oc1 kV1 dc1 pm1 cd1 ct1 oc2 kV2 dc2 pm2 cd2 ct2 oc3 kV3 dc3 pm3 cd3 ct3 oc4 kV4 dc4 pm4 cd4 ct4 oc5 kV5 dc5 pm5 cd5 ct5 oc6 kV6 dc6 pm6 cd6 ct6 oc7 kV7 dc7 pm7 cd7 ct7 oc8 kV8 dc8 pm8 cd8 ct8 oc9 kV9 dc9 pm9 cd9 ct9 oc10 kV10 dc10 pm10 cd10 ct10 oc11 kV11 dc11 pm11 cd11 ct11 oc12 kV12 dc12 pm12 cd12 ct12 oc13 kV13 dc13 pm13 cd13 ct13 oc14 kV14 dc14 pm14 cd14 ct14 oc15 kV15 dc15 pm15 cd15 ct15 : Value}
     {t_FEWEST : Tok} {t_MOST : Tok}
    (d0 : DfI K "refuse_order" sRefO f0 od0 an0 sl0 oc0 kV0 dc0 pm0 cd0 ct0) (d1 : DfI K "refuse_order_of" sRefOf f1 od1 an1 sl1 oc1 kV1 dc1 pm1 cd1 ct1) (d2 : DfI K "falls_apart" sFalls f2 od2 an2 sl2 oc2 kV2 dc2 pm2 cd2 ct2) (d3 : DfI K "order_told" sToldO f3 od3 an3 sl3 oc3 kV3 dc3 pm3 cd3 ct3) (d4 : DfI K "led_over" sLedO f4 od4 an4 sl4 oc4 kV4 dc4 pm4 cd4 ct4) (d5 : DfI K "number_under" sNumU f5 od5 an5 sl5 oc5 kV5 dc5 pm5 cd5 ct5) (d6 : DfI K "led_under" sLedU f6 od6 an6 sl6 oc6 kV6 dc6 pm6 cd6 ct6) (d7 : DfI K "words_from" sWordsF f7 od7 an7 sl7 oc7 kV7 dc7 pm7 cd7 ct7) (d8 : DfI K "family" sFamily f8 od8 an8 sl8 oc8 kV8 dc8 pm8 cd8 ct8) (d9 : DfI K "_law_cell" sCell f9 od9 an9 sl9 oc9 kV9 dc9 pm9 cd9 ct9) (d10 : DfI K "_law_order" sOrder f10 od10 an10 sl10 oc10 kV10 dc10 pm10 cd10 ct10) (d11 : DfI K "_law_over" sOverL f11 od11 an11 sl11 oc11 kV11 dc11 pm11 cd11 ct11) (d12 : DfI K "_law_under" sUnderL f12 od12 an12 sl12 oc12 kV12 dc12 pm12 cd12 ct12) (d13 : DfI K "_law_tuple" sTupl f13 od13 an13 sl13 oc13 kV13 dc13 pm13 cd13 ct13) (d14 : DfI K "_law_closed" sClosed f14 od14 an14 sl14 oc14 kV14 dc14 pm14 cd14 ct14) (d15 : DfI K "law" sLaw f15 od15 an15 sl15 oc15 kV15 dc15 pm15 cd15 ct15) (z_len : NzI K "len") (z_max : NzI K "max") (z_sum : NzI K "sum") (z_sorted : NzI K "sorted") (z_list : NzI K "list") (z_range : NzI K "range") (z_tuple : NzI K "tuple") (z_isinstance : NzI K "isinstance") (z_int : NzI K "int") (z_bool : NzI K "bool") (z_all : NzI K "all") (z_any : NzI K "any") (z_ValueError : NzI K "ValueError") (v_FEWEST : nsIn K mainGlobals "FEWEST" = some (some (.int 2 t_FEWEST))) (v_MOST : nsIn K mainGlobals "MOST" = some (some (.int 7 t_MOST))) (aBadOrder : nsIn K mainGlobals "BadOrder" = some (some (.ref CBadOrder))) (xBadOrder : excIn K CBadOrder bmV "ValueError.__new__" = true) (aLoose : nsIn K mainGlobals "Loose" = some (some (.ref CLoose))) (xLoose : excIn K CLoose bmV "ValueError.__new__" = true)
    : ∃ fd : FuncData, (∀ (s : Shared) (v : Value), BindsTo s fd ⟨[v], []⟩ [("script", v)]) /\ ∀ base : Heap, K.In base -> base.Ns mainGlobals mg -> FnOk l.prog w K mg base CX0 5 fa fd ["script"] (spLaw K) := by
  have e := hfa.symm.trans (mg_of X G d15.1);cases e;obtain ⟨F0, m0, k0⟩ := dfn X G d0;have b0 := F0.binds (ps := ["order", "pieces"]) fun _ _ _ _ _ _ => usOf2 fun _ _ => rfl
  obtain ⟨F1, m1, k1⟩ := dfn X G d1;have b1 := F1.binds (ps := ["order", "fewest", "most"]) fun _ _ _ _ _ _ => usOf3 fun _ _ _ => rfl
  obtain ⟨F2, m2, k2⟩ := dfn X G d2;have b2 := F2.binds (ps := ["order"]) fun _ _ _ _ _ _ => usOf1 fun _ => rfl
  obtain ⟨F3, m3, k3⟩ := dfn X G d3;have b3 := F3.binds (ps := ["order"]) fun _ _ _ _ _ _ => usOf1 fun _ => rfl
  obtain ⟨F4, m4, k4⟩ := dfn X G d4;have b4 := F4.binds (ps := ["order"]) fun _ _ _ _ _ _ => usOf1 fun _ => rfl
  obtain ⟨F5, m5, k5⟩ := dfn X G d5;have b5 := F5.binds (ps := ["order", "piece"]) fun _ _ _ _ _ _ => usOf2 fun _ _ => rfl
  obtain ⟨F6, m6, k6⟩ := dfn X G d6;have b6 := F6.binds (ps := ["order"]) fun _ _ _ _ _ _ => usOf1 fun _ => rfl
  obtain ⟨F7, m7, k7⟩ := dfn X G d7;have b7 := F7.binds (ps := ["order"]) fun _ _ _ _ _ _ => usOf1 fun _ => rfl
  obtain ⟨F8, m8, k8⟩ := dfn X G d8;have b8 := F8.binds (ps := ["order"]) fun _ _ _ _ _ _ => usOf1 fun _ => rfl
  obtain ⟨F9, m9, k9⟩ := dfn X G d9;have b9 := F9.binds (ps := ["script", "k"]) fun _ _ _ _ _ _ => usOf2 fun _ _ => rfl
  obtain ⟨F10, m10, k10⟩ := dfn X G d10;have b10 := F10.binds (ps := ["script", "at", "many"]) fun _ _ _ _ _ _ => usOf3 fun _ _ _ => rfl
  obtain ⟨F11, m11, k11⟩ := dfn X G d11;have b11 := F11.binds (ps := ["order"]) fun _ _ _ _ _ _ => usOf1 fun _ => rfl
  obtain ⟨F12, m12, k12⟩ := dfn X G d12;have b12 := F12.binds (ps := ["order"]) fun _ _ _ _ _ _ => usOf1 fun _ => rfl
  obtain ⟨F13, m13, k13⟩ := dfn X G d13;have b13 := F13.binds (ps := ["found", "due"]) fun _ _ _ _ _ _ => usOf2 fun _ _ => rfl
  obtain ⟨F14, m14, k14⟩ := dfn X G d14;have b14 := F14.binds (ps := ["found", "order"]) fun _ _ _ _ _ _ => usOf2 fun _ _ => rfl
  obtain ⟨F15, m15, k15⟩ := dfn X G d15;have b15 := F15.binds (ps := ["script"]) fun _ _ _ _ _ _ => usOf1 fun _ => rfl
  have T : TxtR mg := ⟨mg_none_of X G z_len, mg_none_of X G z_sum, mg_none_of X G z_tuple, mg_none_of X G z_list, mg_none_of X G z_range⟩;have TBadOrder : TxtX K mg "BadOrder" CBadOrder := ⟨mg_of X G aBadOrder, xBadOrder⟩;have TLoose : TxtX K mg "Loose" CLoose := ⟨mg_of X G aLoose, xLoose⟩;refine ⟨fnOf "law" "law" (J21 sLaw) (J1a sLaw) (J9 sLaw) .none kV15 dc15 pm15 an15 cd15 ct15, fun s v => .of_eq rfl, fun base _ _ => ?_⟩;have GC := ok_cell (P := l.prog) (w := w) (base := base) F9 T;have GRO := ok_refOE (P := l.prog) (w := w) (base := base) F0 T (mg_none_of X G z_sorted) TBadOrder;have GRF := ok_refOf F1 T TBadOrder GRO b0 m0 k0;have GFA := ok_falls (P := l.prog) (w := w) (base := base) F2 T (mg_none_of X G z_any) (mg_none_of X G z_max);have GOT := ok_toldO F3 T TLoose (mg_of X G v_FEWEST) (mg_of X G v_MOST) GRF b1 m1 k1 GFA b2 m2 k2;have GLO := ok_ledO (P := l.prog) (w := w) (base := base) F4 T;have GNU := ok_numU (P := l.prog) (w := w) (base := base) F5 T;have GLU := ok_ledU F6 T GNU b5 m5 k5;have GWF := ok_wordsG F7 GLO b4 m4 k4 GLU b6 m6 k6;have GFM := ok_famG F8 (mg_none_of X G z_sorted) GOT b3 m3 k3 GWF b7 m7 k7;have GLR := ok_orderT F10 T (mg_none_of X G z_max) GC b9 m9 k9;have GTU := ok_tupl (P := l.prog) (w := w) (base := base) F13 T (mg_none_of X G z_isinstance) (mg_none_of X G z_int) (mg_none_of X G z_bool) (kib K);have GOL := ok_overL (P := l.prog) (w := w) (base := base) F11 T;have GUL := ok_underL (P := l.prog) (w := w) (base := base) F12 T;have GCD := ok_closed F14 T (mg_none_of X G z_isinstance) (mg_none_of X G z_sorted) (mg_none_of X G z_all) GTU b13 m13 k13 GOL b11 m11 k11 GUL b12 m12 k12;exact ok_law F15 T (mg_none_of X G z_max) GC b9 m9 k9 GLR b10 m10 k10 GFM b8 m8 k8 GCD b14 m14 k14
theorem walk {l:PySem.W.OpenLaw} {q:Program} {loose:List Str} {XP:(Str->Option Value)->Heap->Prop} {YP:World->Heap->Prop} {d:DefRec} {K:Params->Frag} (hn:l.most=some 63) (hdf:d.params.defaults=[])
  (hY:∀ (w:World) (h:Heap),YP w h->(K w.params).In h)
  (F:∀ (w:World) (mg:Str->Option Value) (fa:Addr) (h:Heap),(K w.params).In h->h.Ns mainGlobals mg->mg d.name=some (.ref fa)->
   ∃ fd:FuncData,(∀ (s:Shared) (u:Value),BindsTo s fd ⟨[u],[]⟩ [("script",u)])/\∀ base:Heap,(K w.params).In base->base.Ns mainGlobals mg->FnOk l.prog w (K w.params) mg base CX0 5 fa fd ["script"] (spLaw (K w.params))) :
  PySem.W.WalkO q loose XP YP l.row.toRowW d [] (fun f vs=>PySem.call f vs) :=
 L2.walk_of (n:=63) (k:=5) (x:="script") (CX:=fun _=>CX0) (sp:=fun w=>spLaw (K w.params)) hn (by decide) hdf ⟨rfl,by decide,by decide⟩ hY F (fun _ _ a ns hl _ hS=>⟨a,ns,rfl,hS,hl,fun _=>rfl⟩) fun _ _ _ _ _ z=>z
end R61
open PySem PySem.W PyProof.Rows
namespace PySem.W.Fast
def tw2565752253422128879:=()
def tw5646832830987205544:=()
def tw10295528151236405274:=()
def tw13825344675297693110:=()
def tw13050204821366897258:=()
def tw6463482173859960820:=()
end PySem.W.Fast
namespace PySem.W.Fast
def tw2433237497024554196:=()
def tw14346578946152659157:=()
def tw9545451932536052839:=()
def tw1431143770010241906:=()
def tw14139780880422948834:=()
def tw14198687435492885378:=()
def tw13670019184272127194:=()
def tw12802652099877268555:=()
def tw2521546647987492632:=()
def tw6649962086067132729:=()
def tw741727987952494611:=()
def tw12704580187517631553:=()
def tw11067267582194187567:=()
def tw12342360001958643542:=()
def tw12871145075736579089:=()
def tw2709214485665270230:=()
def tw17041291666675336263:=()
def tw2115255309744025718:=()
def tw7388682595010203955:=()
def tw2324713005246947833:=()
def tw14892832956378046236:=()
def tw16461575232851281721:=()
def tw3138005089938742558:=()
def tw17084146179024221831:=()
def tw16146272423910075226:=()
def tw6190166703217068889:=()
def tw3528502687885332727:=()
def tw8506501944923544920:=()
def tw12404981678830395708:=()
def tw3284738330541181217:=()
def tw6749808706904890792:=()
def tw17078056244875015078:=()
def tw11249763408779035810:=()
def tw15616202821643825879:=()
def tw2036658284499155282:=()
def tw15498555816906824773:=()
def tw7129313826660448773:=()
def tw13377174659795861990:=()
def tw11494243363083728395:=()
def tw10978321387273519270:=()
def tw16575874568134204987:=()
def tw9303145433582890522:=()
def tw14237819555015567162:=()
def tw6520611400602877991:=()
def tw15245721629021275570:=()
def tw3446007018584002661:=()
def tw17856014715534007506:=()
def tw1474068042618434178:=()
def tw5550567591937690001:=()
def tw16226014117000345940:=()
def tw2678759166539615731:=()
def tw7942937870772044160:=()
def tw3403387335088266802:=()
def tw1730298233806129332:=()
def tw7378872640496877896:=()
def tw15976153836551576807:=()
def tw13427610026077968673:=()
def tw11415612090668132887:=()
def tw15972684455373124311:=()
def tw7731124114942524893:=()
def tw10721657665855120161:=()
def tw4660539874389686339:=()
def tw4902785958602599803:=()
def tw2391130051716766143:=()
def tw13088144000537670651:=()
def tw5224828741556071849:=()
def tw15820168188843721946:=()
def tw16066708830130662239:=()
def tw15687926496465574340:=()
def tw14291834264592276510:=()
def tw13996378540783008969:=()
def tw8490941689957478516:=()
end PySem.W.Fast
set_option maxRecDepth 100000 in
set_option maxHeartbeats 0 in
theorem PySem.Challenge.cw_relaid_k61_whole_families_holds : PySem.Challenge.rw_relaid_k61_whole_families.Holds := by
  w_on; o_law; k_head; (case hw => w_witness2)
  k_fill
  refine R61.walk (l := PySem.Challenge.rw_relaid_k61_whole_families) rfl rfl (fun w h Y => PySem.W.kIn_of Y) ?F
  case F =>
    intro w mg fa h KX G hmg;refine' R61.all_mk KX G hmg ?d0 ?d1 ?d2 ?d3 ?d4 ?d5 ?d6 ?d7 ?d8 ?d9 ?d10 ?d11 ?d12 ?d13 ?d14 ?d15 ?z_len ?z_max ?z_sum ?z_sorted ?z_list ?z_range ?z_tuple ?z_isinstance ?z_int ?z_bool ?z_all ?z_any ?z_ValueError ?v_FEWEST ?v_MOST ?aBadOrder ?xBadOrder ?aLoose ?xLoose
    case d0 | d1 | d2 | d3 | d4 | d5 | d6 | d7 | d8 | d9 | d10 | d11 | d12 | d13 | d14 | d15 => (refine ⟨?_, ?_, ?_, ?_⟩; k_is; k_is; k_is; k_is)
    case z_len | z_max | z_sum | z_sorted | z_list | z_range | z_tuple | z_isinstance | z_int | z_bool | z_all | z_any | z_ValueError => (show _ = _; k_is)
    case v_FEWEST | v_MOST | aBadOrder => k_is
    case xBadOrder => k_exc
    case aLoose => k_is
    case xLoose => k_exc
#print axioms PySem.Challenge.cw_relaid_k61_whole_families_holds
