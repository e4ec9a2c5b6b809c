import PyProof.Rows.All
import Wide.All
import OpenK.AllK
import Wide.FinOn
import Lean
import PyProof.EqAt
import PyProof.EqKinds
import PyProof.TupleCall
import KE.KEqDeep
import PyProof.Rows.SortRuns
import KE.KRevIter
import PySem.Challenge.RW_pourhall_k53_what_holds_cores
set_option Elab.async false
set_option linter.all false
set_option maxRecDepth 1000000
set_option maxHeartbeats 0
set_option bootstrap.genMatcherCode false
set_option compiler.extract_closed false
namespace L2
open PySem PySem.Spec PyProof.Rows
noncomputable abbrev Key:=Sum Int Str
noncomputable def keyIs:Key->Value->Bool
 | .inl k,v=>Value.isInt k v
 | .inr x,v=>Value.isStrOf x v
noncomputable def keyH (w:World):Key->Int
 | .inl k=>hashInt k
 | .inr x=>hashStr w x
theorem keyIs_shape:∀ {k:Key} {v:Value},keyIs k v=true->(∃ i t,k=Sum.inl i/\v=Value.int i t)\/(∃ x t,k=Sum.inr x/\v=Value.str x t)
 | .inl i,v,h=>by
  obtain ⟨t,e⟩:=Value.isInt_shape (k:=i) (v:=v) h
  exact .inl ⟨i,t,rfl,e⟩
 | .inr x,v,h=>by
  obtain ⟨t,e⟩:=Value.isStrOf_shape (x:=x) (v:=v) h
  exact .inr ⟨x,t,rfl,e⟩
theorem keyIs_int (i:Int) (t:Tok):keyIs (.inl i) (.int i t)=true:=by simp [keyIs,Value.isInt]
theorem keyIs_str (x:Str) (t:Tok):keyIs (.inr x) (.str x t)=true:=by simp [keyIs,Value.isStrOf]
theorem key_ll (a b:Int):decide ((Sum.inl a:Key)=Sum.inl b)=(a==b):=by
 by_cases e:a=b
 ·subst e;simp
 ·have h:¬ (Sum.inl a:Key)=Sum.inl b:=fun q=>e (Sum.inl.inj q)
  rw [decide_eq_false h]
  exact (beq_eq_false_iff_ne.mpr e).symm
theorem key_rr (a b:Str):decide ((Sum.inr a:Key)=Sum.inr b)=decide (a=b):=by
 by_cases e:a=b
 ·subst e;simp
 ·have h:¬ (Sum.inr a:Key)=Sum.inr b:=fun q=>e (Sum.inr.inj q)
  rw [decide_eq_false h,decide_eq_false e]
theorem key_lr (a:Int) (b:Str):decide ((Sum.inl a:Key)=Sum.inr b)=false:=decide_eq_false (fun q=>nomatch q)
theorem key_rl (a:Str) (b:Int):decide ((Sum.inr a:Key)=Sum.inl b)=false:=decide_eq_false (fun q=>nomatch q)
noncomputable def mixKind (prog:Program) (w:World):PySem.KeyKind prog w Key where
 is:=keyIs
 hash:=keyH w
 inj:=fun v a b ha hb=>by
  rcases keyIs_shape ha with ⟨i,t,rfl,rfl⟩ | ⟨x,t,rfl,rfl⟩
  ·rcases keyIs_shape hb with ⟨j,u,rfl,e⟩ | ⟨y,u,rfl,e⟩
   ·injection e with e1 _;rw [e1]
   ·exact nomatch e
  ·rcases keyIs_shape hb with ⟨j,u,rfl,e⟩ | ⟨y,u,rfl,e⟩
   ·exact nomatch e
   ·injection e with e1 _;rw [e1]
 byValue:=fun k v h=>by
  rcases keyIs_shape h with ⟨i,t,rfl,rfl⟩ | ⟨x,t,rfl,rfl⟩ <;> rfl
 pyHash:=fun hv h=>by
  rcases keyIs_shape hv with ⟨i,t,rfl,rfl⟩ | ⟨x,t,rfl,rfl⟩
  ·exact wpAny_pyHash_int h
  ·exact wpAny_pyHash_str h
 eqBool:=fun hu hv h=>by
  rcases keyIs_shape hu with ⟨i,t,rfl,rfl⟩ | ⟨x,t,rfl,rfl⟩
  ·rcases keyIs_shape hv with ⟨j,u,rfl,rfl⟩ | ⟨y,u,rfl,rfl⟩
   ·rw [key_ll] at h;exact wpAny_eqBool_int h
   ·rw [key_lr] at h;exact SeqAt.EqAt.int_str i t y u _ _ _ _ h
  ·rcases keyIs_shape hv with ⟨j,u,rfl,rfl⟩ | ⟨y,u,rfl,rfl⟩
   ·rw [key_rl] at h;exact SeqAt.EqAt.str_int x t j u _ _ _ _ h
   ·rw [key_rr] at h;exact wpAny_eqBool_str h
 «strs»:=fun k x t v h=>by
  rcases keyIs_shape h with ⟨i,u,rfl,e⟩ | ⟨y,u,rfl,e⟩
  ·exact nomatch e
  ·injection e with e1 _
   subst e1
   cases v <;> rfl
theorem mixKind_int (prog:Program) (w:World) (i:Int) (t:Tok):(mixKind prog w).is (.inl i) (.int i t)=true:=keyIs_int i t
theorem mixKind_str (prog:Program) (w:World) (x:Str) (t:Tok):(mixKind prog w).is (.inr x) (.str x t)=true:=keyIs_str x t
inductive V where
 | non | bl (b:Bool) | int (i:Int) | str (x:Str) | byt (b:Array UInt8) | flt (b:UInt64) | ref (a:Addr) | ty (n:String)
 deriving DecidableEq
noncomputable def RelV:V->Value->Prop
 | .non,u=>u=Value.none
 | .bl b,u=>u=Value.bool b
 | .int i,u=>∃ t,u=Value.int i t
 | .str x,u=>∃ t,u=Value.str x t
 | .byt b,u=>∃ t,u=Value.bytes b t
 | .flt b,u=>∃ t,u=Value.float b t
 | .ref a,u=>u=Value.ref a
 | .ty n,u=>u=Value.type n
noncomputable abbrev Vals:List V->List Value->Prop:=Paired RelV
theorem Vals.length {xs:List V} {us:List Value} (r:Vals xs us):xs.length=us.length:=Paired.length r
theorem Vals.get:∀ {xs:List V} {us:List Value} {i:Nat} {x:V},Vals xs us->xs[i]?=some x->∃ u,us[i]?=some u/\RelV x u
 | _,_,_,_,.nil,e=>by simp at e
 | _,_,0,_,.cons r _,e=>by simp at e;subst e;exact ⟨_,rfl,r⟩
 | _,_,i+1,x,.cons _ t,e=>by
  obtain ⟨u,h1,h2⟩:=Vals.get (i:=i) (x:=x) t (by simpa using e)
  exact ⟨u,by simpa using h1,h2⟩
theorem Vals.set {x:V} {u:Value} (r:RelV x u):∀ {xs:List V} {us:List Value} (i:Nat),Vals xs us->Vals (xs.set i x) (us.set i u)
 | _,_,_,.nil=>.nil
 | _,_,0,.cons _ t=>.cons r t
 | _,_,i+1,.cons q t=>.cons q (Vals.set r i t)
theorem Vals.append:∀ {xs ys:List V} {us ws:List Value},Vals xs us->Vals ys ws->Vals (xs ++ ys) (us ++ ws)
 | _,_,_,_,.nil,s=>s
 | _,_,_,_,.cons r t,s=>.cons r (Vals.append t s)
theorem Vals.take:∀ {xs:List V} {us:List Value} (n:Nat),Vals xs us->Vals (xs.take n) (us.take n)
 | _,_,0,_=>.nil
 | _,_,_+1,.nil=>.nil
 | _,_,n+1,.cons r t=>.cons r (Vals.take n t)
theorem Vals.drop:∀ {xs:List V} {us:List Value} (n:Nat),Vals xs us->Vals (xs.drop n) (us.drop n)
 | _,_,0,r=>r
 | _,_,_+1,.nil=>.nil
 | _,_,n+1,.cons _ t=>Vals.drop n t
noncomputable def RelO:Option V->Option Value->Prop
 | some v,some u=>RelV v u
 | none,none=>True
 | _,_=>False
noncomputable def KV {κ:Type}:List (κ×V)->List (κ×Value)->Prop:=Paired fun (p:κ×V) (q:κ×Value)=>p.1=q.1/\RelV p.2 q.2
noncomputable def kV:Key->V
 | .inl i=>.int i
 | .inr x=>.str x
inductive HO where
 | lst (xs:List V)
 | tup (xs:List V)
 | dK (kvs:List (Key×V)) | dT (kvs:List (List Key×V))
 | set (S:Int->Bool) (n:Nat)
 | ins (C dx:Addr) (fs:List (Str×V))
 | own (x:Addr)
 | xd (fs:List (Str×V))
 | met (f x:Addr)
 | rng (lo hi:Int)
 | frz (o:Obj) (u:HO)
 | tbl (ps:Array Value)
 | ext (φ:Heap->Prop)
noncomputable abbrev Hp:=Addr->Option HO
noncomputable def upd (H:Hp) (a:Addr) (o:HO):Hp:=fun b=>if b=a then some o else H b
theorem upd_same {H:Hp} {a:Addr} {o:HO}:upd H a o a=some o:=by unfold upd;rw [if_pos rfl]
theorem upd_ne {H:Hp} {a b:Addr} {o:HO} (h:b≠a):upd H a o b=H b:=by unfold upd;rw [if_neg h]
theorem ne_of {H:Hp} {a b:Addr} {o u:HO} (h:H a=some o) (h':H b=some u) (d:o≠u):a≠b:=by
 intro e;subst e;rw [h] at h';exact d (Option.some.inj h')
theorem ne_of_none {H:Hp} {a b:Addr} {o:HO} (h:H a=some o) (h':H b=none):a≠b:=by
 intro e;subst e;rw [h] at h';cases h'
section
variable (P:Program) (w:World)
noncomputable def ObjOk (H:Hp) (h:Heap) (a:Addr):HO->Prop
 | .lst xs=>xs.length≤sizeLine/\∃ (its:List Value) (n:Nat),Vals xs its/\h.get? a=some { cls:=.type "list",data:=.seq its.toArray n }
 | .tup xs=>xs.length≤sizeLine/\∃ its:List Value,Vals xs its/\IsTup h a its.toArray
 | .dK kvs=>kvs.length≤sizeLine/\(a==sysModules)=false/\∃ vs,KV kvs vs/\h.DictOf (mixKind P w) a vs
 | .dT kvs=>kvs.length≤sizeLine/\(a==sysModules)=false/\∃ xs:List (List Key×Addr×Value),
   Paired (fun (p:List Key×V) (q:List Key×Addr×Value)=>p.1=q.1/\H q.2.1=some (.tup (p.1.map kV))/\RelV p.2 q.2.2) kvs xs /\
   ∃ o es ep,h.get? a=some o/\o.ExactDict/\o.data=.dict es ep/\es.toList=xs.map (entryOfKey (tupleKind (mixKind P w)))/\(xs.map (·.1)).Nodup
 | .set S n=>h.SetOf (intKind P w) a S n
 | .ins C dx fs=>H dx=some (.own a)/\fs.length≤1000/\dx≠a/\h.get? a=some (PySem.W.instObj C dx) /\
   ∃ mA,h.Ns1 dx mA/\(∀ f,RelO (fs.lookup f) (mA f))/\PySem.Within mA (fs.map (·.1))
 | .own _=>∃ o,h.get? a=some o
 | .xd fs=>∃ mA,h.Ns1 a mA/\∀ f,RelO (fs.lookup f) (mA f)
 | .rng lo hi=>∃ t u v,h.get? a=some { cls:=.type "range",data:=.fields #[.int lo t,.int hi u,.int 1 v] }
 | .frz o u=>h.get? a=some o/\ObjOk H h a u
 | .tbl ps=>h.get? a=some { cls:=.none,data:=.fields ps }
 | .met f x=>h.get? a=some (PySem.W.methodObj (.ref f) (.ref x))
 | .ext φ=>φ h/\(∃ o,h.get? a=some o)/\∀ h1 h2:Heap,φ h1->(∀ o,h1.get? a=some o->h2.get? a=some o)->φ h2
noncomputable def HOk (H:Hp) (h:Heap):Prop:=∀ a o,H a=some o->ObjOk P w H h a o
end
section
variable {P:Program} {w:World} {H H':Hp} {h h':Heap} {a:Addr} {o:HO}
theorem ObjOk.lt (x:ObjOk P w H h a o):a < h.objs.size:=by
 cases o with
 | lst xs=>obtain ⟨_,_,_,_,e⟩:=x;exact Heap.lt_size e
 | tup xs=>obtain ⟨_,_,_,p⟩:=x;exact p.lt
 | dK kvs=>obtain ⟨_,_,_,_,o,_,_,e,_⟩:=x;exact Heap.lt_size e
 | dT kvs=>obtain ⟨_,_,_,_,o,_,_,e,_⟩:=x;exact Heap.lt_size e
 | set S n=>obtain ⟨o,_,_,_,e,_⟩:=x;exact Heap.lt_size e
 | ins C dx fs=>obtain ⟨_,_,_,e,_⟩:=x;exact Heap.lt_size e
 | own y=>obtain ⟨_,e⟩:=x;exact Heap.lt_size e
 | xd fs=>obtain ⟨_,⟨_,_,_,e,_⟩,_⟩:=x;exact Heap.lt_size e
 | rng lo hi=>obtain ⟨_,_,_,e⟩:=x;exact Heap.lt_size e
 | frz ob u=>obtain ⟨e,_⟩:=x;exact Heap.lt_size e
 | tbl ps=>exact Heap.lt_size (show h.get? a=some _ from x)
 | met f y=>exact Heap.lt_size (show h.get? a=some _ from x)
 | ext φ=>obtain ⟨_,⟨_,e⟩,_⟩:=x;exact Heap.lt_size e
theorem Paired.mapP {α β:Type} {F G:α->β->Prop}:∀ {l₁:List α} {l₂:List β},Paired F l₁ l₂->(∀ a b,F a b->G a b)->Paired G l₁ l₂
 | _,_,.nil,_=>.nil
 | _,_,.cons r t,f=>.cons (f _ _ r) (Paired.mapP t f)
theorem ObjOk.stay (x:ObjOk P w H h a o) (k:∀ b u,(b=a\/H b=some (.own a))->h.get? b=some u->h'.get? b=some u)
  (ho:∀ b,H b=some (.own a)->H' b=some (.own a)) (ht:∀ b xs,H b=some (.tup xs)->H' b=some (.tup xs)):ObjOk P w H' h' a o:=by
 induction o with
 | lst xs=>obtain ⟨z,its,n,r,e⟩:=x;exact ⟨z,its,n,r,k _ _ (.inl rfl) e⟩
 | tup xs=>obtain ⟨z,its,r,ob,e,c⟩:=x;exact ⟨z,its,r,ob,k _ _ (.inl rfl) e,c⟩
 | dK kvs=>obtain ⟨z,y,vs,r,ob,es,ep,e,c⟩:=x;exact ⟨z,y,vs,r,ob,es,ep,k _ _ (.inl rfl) e,c⟩
 | dT kvs =>
  obtain ⟨z,y,xs,r,ob,es,ep,e,c⟩:=x
  exact ⟨z,y,xs,Paired.mapP r fun p q z=>⟨z.1,ht _ _ z.2.1,z.2.2⟩,ob,es,ep,k _ _ (.inl rfl) e,c⟩
 | set S n=>obtain ⟨ob,es,ep,t,e,c⟩:=x;exact ⟨ob,es,ep,t,k _ _ (.inl rfl) e,c⟩
 | ins C dx fs =>
  obtain ⟨d,z,ne,e,mA,⟨od,es,ep,e2,c⟩,r⟩:=x
  exact ⟨ho _ d,z,ne,k _ _ (.inl rfl) e,mA,⟨od,es,ep,k _ _ (.inr d) e2,c⟩,r⟩
 | own y=>obtain ⟨ob,e⟩:=x;exact ⟨ob,k _ _ (.inl rfl) e⟩
 | xd fs=>obtain ⟨mA,⟨od,es,ep,e,c⟩,r⟩:=x;exact ⟨mA,⟨od,es,ep,k _ _ (.inl rfl) e,c⟩,r⟩
 | rng lo hi=>obtain ⟨t,u,v,e⟩:=x;exact ⟨t,u,v,k _ _ (.inl rfl) e⟩
 | frz ob u ih=>obtain ⟨e,q⟩:=x;exact ⟨k _ _ (.inl rfl) e,ih q⟩
 | tbl ps =>
  have e:h.get? a=some { cls:=.none,data:=.fields ps }:=x
  show h'.get? a=some { cls:=.none,data:=.fields ps }
  exact k a _ (.inl rfl) e
 | met f y =>
  have e:h.get? a=some (PySem.W.methodObj (.ref f) (.ref y)):=x
  show h'.get? a=some (PySem.W.methodObj (.ref f) (.ref y))
  exact k a _ (.inl rfl) e
 | ext φ=>obtain ⟨p,⟨o,e⟩,st⟩:=x;exact ⟨st _ _ p fun o q=>k _ _ (.inl rfl) q,⟨o,k _ _ (.inl rfl) e⟩,st⟩
theorem HOk.lt (x:HOk P w H h) (e:H a=some o):a < h.objs.size:=(x a o e).lt
theorem HOk.fresh (x:HOk P w H h) (e:h.objs.size≤a):H a=none:=by
 cases q:H a with
 | none=>rfl
 | some u=>exact absurd (Nat.lt_of_lt_of_le (x.lt q) e) (Nat.lt_irrefl _)
theorem HOk.kept (x:HOk P w H h) (k:∀ b u,h.get? b=some u->h'.get? b=some u):HOk P w H h':=fun a o e =>
 (x a o e).stay (fun b u _ q=>k b u q) (fun _ q=>q) fun _ _ q=>q
theorem HOk.laid (x:HOk P w H h) (k:∀ b u,h.get? b=some u->h'.get? b=some u) (hp:h.objs.size≤a) (new:ObjOk P w (upd H a o) h' a o):HOk P w (upd H a o) h':=fun b u e=>by
 have hn:=x.fresh hp
 by_cases hb:b=a
 ·subst hb;rw [upd_same] at e;cases e;exact new
 ·rw [upd_ne hb] at e
  exact (x b u e).stay (fun c v _ q=>k c v q) (fun c q=>by rw [upd_ne (ne_of_none q hn)];exact q) fun c xs q=>by rw [upd_ne (ne_of_none q hn)];exact q
end
noncomputable def Rd (H:Hp) (a:Addr) (u:HO):Prop:=H a=some u\/∃ o,H a=some (.frz o u)
theorem Rd.ok {P:Program} {w:World} {H:Hp} {h:Heap} {a:Addr} {u:HO} (r:Rd H a u) (x:HOk P w H h):ObjOk P w H h a u:=by
 rcases r with r | ⟨o,r⟩
 ·exact x a u r
 ·obtain ⟨_,q⟩:=x a _ r
  exact q
noncomputable def Mut:Option HO->Prop
 | some (.lst _)=>True
 | some (.dK _)=>True
 | some (.dT _)=>True
 | some (.set _ _)=>True
 | some (.ins _ _ _)=>True
 | some (.ext _)=>True
 | _=>False
section
variable {P:Program} {w:World} {H:Hp} {h h':Heap} {x e:Addr} {o':HO}
theorem HOk.write (ok:HOk P w H h) (mu:Mut (H x)) (he:e=x\/H e=some (.own x)) (k:∀ b u,b≠e->h.get? b=some u->h'.get? b=some u) (heo:∃ u,h'.get? e=some u)
  (new:ObjOk P w (upd H x o') h' x o'):HOk P w (upd H x o') h':=fun b u q=>by
 have nown:∀ c y,H c=some (.own y)->c≠x:=fun c y r z=>by subst z;rw [r] at mu;exact mu
 have ntup:∀ c xs,H c=some (.tup xs)->c≠x:=fun c xs r z=>by subst z;rw [r] at mu;exact mu
 by_cases hb:b=x
 ·subst hb;rw [upd_same] at q;cases q;exact new
 ·rw [upd_ne hb] at q
  by_cases hbe:b=e
  ·have q':H b=some (.own x):=by
    rcases he with z | z
    ·exact absurd (hbe.trans z) hb
    ·rw [hbe];exact z
   rw [q] at q';cases q'
   obtain ⟨v,hv⟩:=heo
   exact ⟨v,by rw [hbe];exact hv⟩
  ·refine (ok b u q).stay (fun c v hc r=>k c v ?_ r) (fun c r=>by rw [upd_ne (nown c b r)];exact r) fun c xs r=>by rw [upd_ne (ntup c xs r)];exact r
   rcases hc with rfl | hc
   ·exact hbe
   ·rintro rfl
    rcases he with z | z
    ·exact nown c b hc z
    ·rw [hc] at z;cases z;exact hb rfl
end
structure Un (fs ex:List Addr) (H H':Hp) (h h':Heap):Prop where
 keep:∀ b o,h.get? b=some o->H b=none->b∉fs->b∉ex->h'.get? b=some o
 slot:∀ b o,h.get? b=some o->H b=none->b∈fs->b∉ex->∃ sl,h'.get? b=some { o with slots:=sl }
 free:∀ b o,h.get? b=some o->H b=none->b∉ex->H' b=none
 there:∀ b o,h.get? b=some o->b∉ex->∃ o',h'.get? b=some o'
 tups:∀ b xs,H b=some (.tup xs)->H' b=some (.tup xs)
 frzs:∀ b o u,H b=some (.frz o u)->H' b=some (.frz o u)
 tbls:∀ b ps,H b=some (.tbl ps)->∃ more,H' b=some (.tbl (ps ++ more))
section
variable {fs fs' ex ex':List Addr} {H H1 H2:Hp} {h h1 h2 h':Heap} {a x e:Addr} {o:HO}
theorem Un.any (u:Un fs ex H H1 h h1) {b:Addr} {ob:Obj} (q:h.get? b=some ob) (n:H b=none) (hx:b∉ex):∃ sl,h1.get? b=some { ob with slots:=sl }:=by
 by_cases hb:b∈fs
 ·exact u.slot b ob q n hb hx
 ·exact ⟨ob.slots,u.keep b ob q n hb hx⟩
theorem Un.kept (k:∀ b u,h.get? b=some u->h'.get? b=some u):Un fs ex H H h h' :=
 ⟨fun b ob q _ _ _=>k b ob q,fun b ob q _ _ _=>⟨ob.slots,k b ob q⟩,fun _ _ _ n _=>n,fun b ob q _=>⟨ob,k b ob q⟩,fun _ _ q=>q,fun _ _ _ q=>q,fun _ ps q=>⟨#[],by rw [q];simp⟩⟩
theorem Un.refl:Un fs ex H H h h:=Un.kept fun _ _ q=>q
theorem Un.laid (k:∀ b u,h.get? b=some u->h'.get? b=some u) (hp:h.objs.size≤a) (hn:H a=none):Un fs ex H (upd H a o) h h' where
 keep:=fun b u q _ _ _=>k b u q
 slot:=fun b u q _ _ _=>⟨u.slots,k b u q⟩
 free:=fun b u q n _=>by rw [upd_ne (Nat.ne_of_lt (Nat.lt_of_lt_of_le (Heap.lt_size q) hp))];exact n
 there:=fun b u q _=>⟨u,k b u q⟩
 tups:=fun b xs q=>by rw [upd_ne (ne_of_none q hn)];exact q
 frzs:=fun b u xs q=>by rw [upd_ne (ne_of_none q hn)];exact q
 tbls:=fun b ps q=>⟨#[],by rw [upd_ne (ne_of_none q hn),q];simp⟩
theorem Un.write (mu:Mut (H x)) (he:e=x\/H e=some (.own x)) (k:∀ b u,b≠e->h.get? b=some u->h'.get? b=some u) (heo:∃ u,h'.get? e=some u):Un fs ex H (upd H x o) h h':=by
 have hx:∀ b,H b=none->b≠x:=fun b n z=>by subst z;rw [n] at mu;exact mu
 have hb:∀ b,H b=none->b≠e:=fun b n z=>by
  subst z
  rcases he with r | r
  ·exact hx b n r
  ·rw [n] at r;cases r
 have hm:∀ b u,H b=some u->¬ Mut (some u)->b≠x:=fun b u q nm z=>by subst z;rw [q] at mu;exact nm mu
 refine ⟨fun b u q n _ _=>k b u (hb b n) q,fun b u q n _ _=>⟨u.slots,k b u (hb b n) q⟩,fun b u q n _=>by rw [upd_ne (hx b n)];exact n,fun b u q _=>?_,
  fun b xs q=>by rw [upd_ne (hm b _ q fun z=>z)];exact q,fun b u xs q=>by rw [upd_ne (hm b _ q fun z=>z)];exact q,fun b ps q=>⟨#[],by rw [upd_ne (hm b _ q fun z=>z),q];simp⟩⟩
 by_cases hbe:b=e
 ·subst hbe;exact heo
 ·exact ⟨u,k b u hbe q⟩
end
noncomputable def trk (h:Heap) (H:Hp):List Addr:=(List.range h.objs.size).filter fun a=>(H a).isSome
noncomputable def hidT (h:Heap) (H:Hp):Heap:=PySem.W.hideAll h (trk h H)
theorem hidT_size (h:Heap) (H:Hp):(hidT h H).objs.size=h.objs.size:=PySem.W.hideAll_size _ _
theorem hidT_get {h:Heap} {H:Hp} {b:Addr} {o:Obj} (e:h.get? b=some o) (n:H b=none):(hidT h H).get? b=some o :=
 PySem.W.hideAll_get _ e fun hm=>by
  have q:(H b).isSome=true:=(List.mem_filter.mp hm).2
  rw [n] at q;simp at q
theorem of_hidT {h:Heap} {H:Hp} {b:Addr} {o:Obj} (e:(hidT h H).get? b=some o):h.get? b=some o/\H b=none:=by
 have e':h.get? b=some o:=PySem.W.of_hideAll (trk h H) e
 refine ⟨e',?_⟩
 cases q:H b with
 | none=>rfl
 | some x =>
  have hm:b∈trk h H:=List.mem_filter.mpr ⟨List.mem_range.mpr (Heap.lt_size e'),by simp [q]⟩
  have z:(hidT h H).get? b=none:=PySem.W.hideAll_none (trk h H) hm
  rw [z] at e;cases e
noncomputable def allNews (g h:Heap) (L:Addr):List (Addr×Obj):=(List.range h.objs.size).filterMap fun a=>if a=L\/(g.get? a).isSome=true then none else (h.get? a).map fun o=>(a,o)
theorem mem_allNews {g h:Heap} {L a:Addr} {o:Obj} (h1:a≠L) (h2:g.get? a=none) (h3:h.get? a=some o):(a,o)∈allNews g h L :=
 List.mem_filterMap.mpr ⟨a,List.mem_range.mpr (Heap.lt_size h3),by simp [h1,h2,h3]⟩
theorem of_mem_allNews {g h:Heap} {L:Addr} {p:Addr×Obj} (hp:p∈allNews g h L):p.1≠L/\g.get? p.1=none/\h.get? p.1=some p.2:=by
 obtain ⟨b,_,e⟩:=List.mem_filterMap.mp hp
 split at e
 ·cases e
 ·rename_i hn
  cases q:h.get? b with
  | none=>rw [q] at e;simp at e
  | some u =>
   rw [q] at e
   simp only [Option.map_some,Option.some.injEq] at e
   subst e
   refine ⟨fun z=>hn (.inl z),?_,q⟩
   show g.get? b=none
   cases r:g.get? b with
   | none=>rfl
   | some v=>exact (hn (.inr (by simp [r]))).elim
noncomputable def rest (g h:Heap) (L d:Addr):List (Addr×Obj):=(allNews g h L).filter fun p=>decide (p.1≠d)
theorem news_all {g h:Heap} {L:Addr}:News g L h (allNews g h L):=fun p hp=>let ⟨a,b,c⟩:=of_mem_allNews hp;⟨c,a,b⟩
structure Mod (K:PySem.W.Frag) (mg:Str->Option Value) (base:Heap):Prop where
 kin:K.In base
 glob:base.Ns mainGlobals mg
 blt:∃ mb,base.Ns builtinsNs mb/\∀ x:Str,x≠"__name__"->mb x=bootBuiltins x
 nolimit:base.NoLimit
set_option genInjectivity false in
set_option genSizeOf false in
structure Cx where
 prog:Program
 w:World
 K:PySem.W.Frag
 mg:Str->Option Value
 base:Heap
 A:Around
 N:List Str
 s₀:Shared
 H₀:Hp
 env:Env
 outer:List Env
 stack:List Env
 ex:List Addr
 fn:Str->Bool
 calm:Bool
 pn:List (Addr×Obj)
 xe:Value->Shared->Prop
noncomputable def frs (l:List Env):List Addr:=l.filterMap (·.frame)
noncomputable abbrev Cx.fs (X:Cx):List Addr:=frs X.outer
noncomputable def Vis (sc:Scope) (x:Str):Prop:=sc.names.lookup x=some .local\/sc.names.lookup x=some .cell\/sc.names.lookup x=some .free
noncomputable def Loc (sc:Scope) (x:Str):Prop:=sc.names.lookup x=some .local\/sc.names.lookup x=some .cell
noncomputable def Look (env:Env) (h:Heap) (m:Str->Option Value) (x:Str) (u:Value):Prop :=
 (env.kindOf x=some .local/\m x=some u)\/((env.kindOf x=some .cell\/env.kindOf x=some .free)/\∃ c,env.cells.lookup x=some c/\h.IsCell c (some u))
structure Cx.Ok (X:Cx):Prop where
 mod:Mod X.K X.mg X.base
 kind:X.env.scope.kind=.function
 glob:X.env.globals=mainGlobals
 blt:X.env.builtins=builtinsNs
 above:X.s₀.heap.objs.size≤X.env.locals
 inj:∀ x y c,X.env.cells.lookup x=some c->X.env.cells.lookup y=some c->x=y
 has:∀ x,(X.env.kindOf x=some .cell\/X.env.kindOf x=some .free)->∃ c,X.env.cells.lookup x=some c
 cab:∀ x c,X.fn x=true->X.env.cells.lookup x=some c->X.s₀.heap.objs.size≤c
 hd:X.calm=true->X.A.handled=none
 frames:X.A.frames=some X.stack
 stk:X.stack=X.outer\/(X.stack=X.env :: X.outer/\X.env.frame=some X.env.locals)
 exf:∀ b∈X.ex,b≠X.env.locals/\∀ x c,X.env.cells.lookup x=some c->c≠b
 bs:∀ b o,X.base.get? b=some o->X.s₀.heap.get? b=some o/\X.H₀ b=none
 bsz:X.base.objs.size≤X.s₀.heap.objs.size
 noex:∀ b o,X.base.get? b=some o->b∉X.ex
 exfs:∀ b∈X.ex,b∉X.fs
 funs:X.s₀.heap.FunFrames X.base X.outer
 frf:∀ b∈X.fs,X.H₀ b=none
structure Inv (X:Cx) (pins:List (Addr×Obj)) (σ:List (Option V)) (H:Hp) (s:Shared):Prop where
 ok:X.Ok
 os:s.os=X.s₀.os
 bare:AllBare s.gens
 base:Un X.fs X.ex X.H₀ H X.s₀.heap s.heap
 loc:∃ m,s.heap.Ns X.env.locals m/\∀ (i:Nat) (x:Str) (v:V),X.N[i]?=some x->σ[i]?=some (some v)->Vis X.env.scope x->∃ u,RelV v u/\Look X.env s.heap m x u
 cell:∀ x c,X.env.cells.lookup x=some c->∃ v,s.heap.IsCell c v
 free:H X.env.locals=none
 freeC:∀ x c,X.env.cells.lookup x=some c->H c=none
 pin:∀ p∈X.pn ++ pins,s.heap.get? p.1=some p.2/\H p.1=none/\p.1≠X.env.locals/\p.1∉X.fs/\∀ v,p.2.data≠.cell v
 hok:HOk X.prog X.w H s.heap
 len:σ.length=X.N.length
section
variable {X:Cx} {pins:List (Addr×Obj)} {σ:List (Option V)} {H H':Hp} {s:Shared} {h':Heap}
theorem Cx.Ok.nofr (ok:X.Ok) {b:Addr} {o:Obj} (e:X.base.get? b=some o):b∉X.fs:=fun hb=>by
 have:=(ok.funs.mem hb).1
 rw [e] at this;cases this
theorem Inv.bs (I:Inv X pins σ H s):∀ b o,X.base.get? b=some o->s.heap.get? b=some o/\H b=none:=fun b o e =>
 ⟨I.base.keep b o (I.ok.bs b o e).1 (I.ok.bs b o e).2 (I.ok.nofr e) (I.ok.noex b o e),I.base.free b o (I.ok.bs b o e).1 (I.ok.bs b o e).2 (I.ok.noex b o e)⟩
theorem Inv.bk (I:Inv X pins σ H s):∀ b o,X.base.get? b=some o->s.heap.get? b=some o:=fun b o e=>(I.bs b o e).1
theorem Inv.mod (I:Inv X pins σ H s):Mod X.K X.mg X.base:=I.ok.mod
theorem Inv.kIn (I:Inv X pins σ H s):X.K.In s.heap:=I.ok.mod.kin.keeps I.bk
theorem Inv.fr (I:Inv X pins σ H s):∃ m,Fr X.base X.env.locals s.heap m :=
 let ⟨m,hn,_⟩:=I.loc
 ⟨m,hn,I.bk,Nat.le_trans I.ok.bsz I.ok.above⟩
theorem Inv.lt (I:Inv X pins σ H s):X.env.locals < s.heap.objs.size:=let ⟨_,hn,_⟩:=I.loc;hn.lt
theorem Inv.sz (I:Inv X pins σ H s):X.s₀.heap.objs.size≤s.heap.objs.size:=Nat.le_trans I.ok.above (Nat.le_of_lt I.lt)
theorem Inv.nofs (I:Inv X pins σ H s) {a:Addr} (h:s.heap.objs.size≤a):a∉X.fs:=fun hb=>by
 obtain ⟨_,o,ho,_⟩:=I.ok.funs.mem hb
 exact absurd (Nat.lt_of_lt_of_le (Heap.lt_size ho) (Nat.le_trans I.sz h)) (Nat.lt_irrefl _)
theorem Inv.cne (I:Inv X pins σ H s):∀ x c,X.env.cells.lookup x=some c->c≠X.env.locals:=fun x c e z=>by
 obtain ⟨v,o,ho,hd⟩:=I.cell x c e
 obtain ⟨m,⟨o',es,ep,ho',hd',_⟩,_⟩:=I.loc
 rw [z,ho'] at ho;cases ho;rw [hd'] at hd;cases hd
theorem Inv.funs (I:Inv X pins σ H s):s.heap.FunFrames X.base X.outer:=by
 have all:∀ (l:List Env),(∀ b∈frs l,b∈X.fs)->X.s₀.heap.FunFrames X.base l->s.heap.FunFrames X.base l:=by
  intro l
  induction l with
  | nil=>intro _ _;trivial
  | cons env r ih =>
   intro hs hl
   obtain ⟨hk,⟨L,o,hf,hn,ho,hd⟩,hr⟩:=hl
   have hL:L∈X.fs:=hs L (by unfold frs;rw [List.filterMap_cons,hf];exact List.mem_cons_self)
   obtain ⟨sl,e⟩:=I.base.slot L o ho (I.ok.frf L hL) hL fun z=>I.ok.exfs L z hL
   exact ⟨hk,⟨L,_,hf,hn,e,hd⟩,ih (fun b hb=>hs b (by unfold frs;rw [List.filterMap_cons,hf];exact List.mem_cons_of_mem _ hb)) hr⟩
 exact all X.outer (fun _ hb=>hb) I.ok.funs
theorem Inv.stack (I:Inv X pins σ H s):s.heap.FunFrames X.base X.stack:=by
 rcases I.ok.stk with e | ⟨e,hf⟩
 ·rw [e];exact I.funs
 ·rw [e]
  obtain ⟨m,hn,_⟩:=I.loc
  refine .cons (by rw [I.ok.kind];decide) hf hn ?_ I.funs
  exact Heap.get?_none_of_le (Nat.le_trans I.ok.bsz I.ok.above)
theorem Inv.stkSub (I:Inv X pins σ H s):∀ b∈frs X.stack,b∈X.env.locals :: X.fs:=fun b hb=>by
 rcases I.ok.stk with e | ⟨e,hf⟩
 ·rw [e] at hb;exact List.mem_cons_of_mem _ hb
 ·rw [e] at hb
  unfold frs at hb
  rw [List.filterMap_cons,hf] at hb
  exact hb
theorem Inv.stkFree (I:Inv X pins σ H s):∀ b∈frs X.stack,H b=none:=fun b hb=>by
 rcases List.mem_cons.mp (I.stkSub b hb) with e | hb
 ·rw [e];exact I.free
 ·obtain ⟨_,o,ho,_⟩:=I.ok.funs.mem hb
  exact I.base.free b o ho (I.ok.frf b hb) fun z=>I.ok.exfs b z hb
theorem Inv.step {g':Array GenState} {t':Nat} {d':Drawn} {ch:List Addr} (I:Inv X pins σ H s)
  (hch:∀ b∈ch,(b∈X.ex\/X.s₀.heap.objs.size≤b)/\b≠X.env.locals/\(∀ x c,X.env.cells.lookup x=some c->c≠b)/\∀ p∈X.pn ++ pins,p.1≠b)
  (keep:∀ b o,b≠X.env.locals->b∉X.fs->b∉ch->s.heap.get? b=some o->H b=none->h'.get? b=some o)
  (slot:∀ b o,b≠X.env.locals->b∈X.fs->b∉ch->s.heap.get? b=some o->H b=none->∃ sl,h'.get? b=some { o with slots:=sl }) (free:∀ b o,b∉ch->s.heap.get? b=some o->H b=none->H' b=none)
  (there:∀ b o,b∉ch->s.heap.get? b=some o->∃ o',h'.get? b=some o')
  (tups:∀ b xs,H b=some (.tup xs)->H' b=some (.tup xs)) (frzs:∀ b o u,H b=some (.frz o u)->H' b=some (.frz o u)) (tbls:∀ b ps,H b=some (.tbl ps)->∃ more,H' b=some (.tbl (ps ++ more)))
  (ns:∀ m,s.heap.Ns X.env.locals m->h'.Ns X.env.locals m) (hok:HOk X.prog X.w H' h') (hg:AllBare g') :
  Inv X pins σ H' { s with heap:=h',gens:=g',drawn:=d',toks:=t' }:=by
 have neL:∀ b o,X.s₀.heap.get? b=some o->b≠X.env.locals:=fun b o e=>Nat.ne_of_lt (Nat.lt_of_lt_of_le (Heap.lt_size e) I.ok.above)
 have neC:∀ b o,X.s₀.heap.get? b=some o->b∉X.ex->b∉ch:=fun b o e hx hb=>by
  rcases (hch b hb).1 with z | z
  ·exact hx z
  ·exact absurd (Nat.lt_of_lt_of_le (Heap.lt_size e) z) (Nat.lt_irrefl _)
 have cellK:∀ x c,X.env.cells.lookup x=some c->∀ v,s.heap.IsCell c v->h'.IsCell c v:=fun x c e v ⟨o,ho,hd⟩=>by
  have nch:c∉ch:=fun z=>(hch c z).2.2.1 x c e rfl
  by_cases hc:c∈X.fs
  ·obtain ⟨sl,q⟩:=slot c o (I.cne x c e) hc nch ho (I.freeC x c e)
   exact ⟨_,q,hd⟩
  ·exact ⟨o,keep c o (I.cne x c e) hc nch ho (I.freeC x c e),hd⟩
 refine ⟨I.ok,I.os,hg,⟨fun b o e n hb hx=>?_,fun b o e n hb hx=>?_,fun b o e n hx=>?_,fun b o e hx=>?_,fun b xs e=>tups b xs (I.base.tups b xs e),fun b o xs e=>frzs b o xs (I.base.frzs b o xs e),fun b ps e=>?_⟩,?_,fun x c e=>?_,?_,fun x c e=>?_,fun p hp=>?_,hok,I.len⟩
 ·exact keep b o (neL b o e) hb (neC b o e hx) (I.base.keep b o e n hb hx) (I.base.free b o e n hx)
 ·obtain ⟨sl,e1⟩:=I.base.slot b o e n hb hx
  obtain ⟨sl',e2⟩:=slot b _ (neL b o e) hb (neC b o e hx) e1 (I.base.free b o e n hx)
  exact ⟨sl',e2⟩
 ·obtain ⟨o',e1⟩:=I.base.there b o e hx
  exact free b o' (neC b o e hx) e1 (I.base.free b o e n hx)
 ·obtain ⟨o',e1⟩:=I.base.there b o e hx
  exact there b o' (neC b o e hx) e1
 ·obtain ⟨m1,e1⟩:=I.base.tbls b ps e
  obtain ⟨m2,e2⟩:=tbls b _ e1
  exact ⟨m1 ++ m2,by rw [e2,Array.append_assoc]⟩
 ·obtain ⟨m,hn,hl⟩:=I.loc
  refine ⟨m,ns m hn,fun i x v e1 e2 e3=>?_⟩
  obtain ⟨u,r,l⟩:=hl i x v e1 e2 e3
  refine ⟨u,r,?_⟩
  rcases l with l | ⟨k,c,e,z⟩
  ·exact .inl l
  ·exact .inr ⟨k,c,e,cellK x c e _ z⟩
 ·obtain ⟨v,z⟩:=I.cell x c e
  exact ⟨v,cellK x c e v z⟩
 ·obtain ⟨m,⟨o,_,_,ho,_⟩,_⟩:=I.loc
  exact free _ o (fun z=>(hch _ z).2.1 rfl) ho I.free
 ·obtain ⟨v,o,ho,hd⟩:=I.cell x c e
  exact free c o (fun z=>(hch c z).2.2.1 x c e rfl) ho (I.freeC x c e)
 ·obtain ⟨e,n,ne,nf,d⟩:=I.pin p hp
  have nch:p.1∉ch:=fun z=>(hch p.1 z).2.2.2 p hp rfl
  exact ⟨keep p.1 p.2 ne nf nch e n,free p.1 p.2 nch e n,ne,nf,d⟩
theorem Inv.un {t':Nat} (I:Inv X pins σ H s) (u:Un X.fs [] H H' s.heap h') (hok:HOk X.prog X.w H' h'):Inv X pins σ H' { s with heap:=h',toks:=t' }:=by
 obtain ⟨m,⟨o,es,ep,ho,r⟩,_⟩:=id I.loc
 obtain ⟨sl,hL⟩:=u.any ho I.free (by simp)
 exact I.step (g':=s.gens) (d':=s.drawn) (ch:=[]) (fun _ z=>nomatch z) (fun b o _ hb _ e n=>u.keep b o e n hb (by simp)) (fun b o _ hb _ e n=>u.slot b o e n hb (by simp)) (fun b o _ e n=>u.free b o e n (by simp)) (fun b o _ e=>u.there b o e (by simp)) u.tups u.frzs u.tbls (fun m' hm=>by
  obtain ⟨o',es',ep',ho',r'⟩:=hm
  rw [ho] at ho';cases ho'
  exact ⟨_,es',ep',hL,r'⟩) hok I.bare
theorem Inv.call {g':Array GenState} {t':Nat} {d':Drawn} {ch:List Addr} (I:Inv X pins σ H s) (u:Un (frs X.stack) ch H H' s.heap h') (hok:HOk X.prog X.w H' h') (hg:AllBare g')
  (hch:∀ b∈ch,(b∈X.ex\/X.s₀.heap.objs.size≤b)/\b≠X.env.locals/\(∀ x c,X.env.cells.lookup x=some c->c≠b)/\∀ p∈X.pn ++ pins,p.1≠b) :
  Inv X pins σ H' { s with heap:=h',gens:=g',drawn:=d',toks:=t' }:=by
 obtain ⟨m,⟨o,es,ep,ho,r⟩,_⟩:=id I.loc
 obtain ⟨sl,hL⟩:=u.any ho I.free fun z=>(hch _ z).2.1 rfl
 exact I.step (ch:=ch) hch (fun b o hL hb hc e n=>u.keep b o e n (fun z=>(List.mem_cons.mp (I.stkSub b z)).elim hL hb) hc) (fun b o _ _ hc e n=>u.any e n hc) (fun b o hc e n=>u.free b o e n hc) (fun b o hc e=>u.there b o e hc) u.tups u.frzs u.tbls (fun m' hm=>by
  obtain ⟨o',es',ep',ho',r'⟩:=hm
  rw [ho] at ho';cases ho'
  exact ⟨_,es',ep',hL,r'⟩) hok hg
theorem Inv.turned {t':Nat} {it:Addr} (I:Inv X pins σ H s) (k:∀ b o,b≠it->s.heap.get? b=some o->h'.get? b=some o) (hn:H it=none) (hL:it≠X.env.locals)
  (h1:it∈X.ex\/X.s₀.heap.objs.size≤it) (h2:∀ x c,X.env.cells.lookup x=some c->c≠it) (h3:∀ p∈X.pn ++ pins,p.1≠it):Inv X pins σ H { s with heap:=h',toks:=t' }:=by
 have nit:∀ b u,H b=some u->b≠it:=fun b u e z=>by rw [z,hn] at e;cases e
 refine I.step (g':=s.gens) (d':=s.drawn) (ch:=[it]) (fun b hb=>?_) (fun b o _ _ hc e _=>k b o (fun z=>hc (by simp [z])) e) (fun b o _ _ hc e _=>⟨o.slots,k b o (fun z=>hc (by simp [z])) e⟩) (fun _ _ _ _ n=>n)
  (fun b o hc e=>⟨o,k b o (fun z=>hc (by simp [z])) e⟩) (fun _ _ e=>e) (fun _ _ _ e=>e) (fun b ps e=>⟨#[],by rw [e];simp⟩) (fun m hm=>?_) (fun b u e=>?_) I.bare
 ·have e:b=it:=by simpa using hb
  subst e
  exact ⟨h1,hL,h2,h3⟩
 ·obtain ⟨o,es,ep,ho,r⟩:=hm
  exact ⟨o,es,ep,k _ o (Ne.symm hL) ho,r⟩
 ·refine (I.hok b u e).stay (fun c v hc q=>k c v ?_ q) (fun _ q=>q) fun _ _ q=>q
  rcases hc with z | z
  ·rw [z];exact nit b u e
  ·exact nit c _ z
theorem Inv.tok (I:Inv X pins σ H s) (t:Nat):Inv X pins σ H { s with toks:=t }:=I.un (h':=s.heap) (t':=t) Un.refl I.hok
theorem Inv.kept {t':Nat} (I:Inv X pins σ H s) (k:∀ b u,s.heap.get? b=some u->h'.get? b=some u):Inv X pins σ H { s with heap:=h',toks:=t' }:=I.un (Un.kept k) (I.hok.kept k)
theorem Inv.laid {a:Addr} {o:HO} {t':Nat} (I:Inv X pins σ H s) (k:∀ b u,s.heap.get? b=some u->h'.get? b=some u) (hp:s.heap.objs.size≤a) (new:ObjOk X.prog X.w (upd H a o) h' a o) :
  Inv X pins σ (upd H a o) { s with heap:=h',toks:=t' }:=I.un (Un.laid k hp (I.hok.fresh hp)) (I.hok.laid k hp new)
theorem Inv.write {x e:Addr} {o:HO} {t':Nat} (I:Inv X pins σ H s) (mu:Mut (H x)) (he:e=x\/H e=some (.own x)) (k:∀ b u,b≠e->s.heap.get? b=some u->h'.get? b=some u) (heo:∃ u,h'.get? e=some u)
  (new:ObjOk X.prog X.w (upd H x o) h' x o):Inv X pins σ (upd H x o) { s with heap:=h',toks:=t' }:=I.un (Un.write mu he k heo) (I.hok.write mu he k heo new)
theorem Inv.pins_of {pins':List (Addr×Obj)} (I:Inv X pins σ H s) (h:∀ p∈pins',s.heap.get? p.1=some p.2/\H p.1=none/\p.1≠X.env.locals/\p.1∉X.fs/\∀ v,p.2.data≠.cell v):Inv X pins' σ H s :=
 ⟨I.ok,I.os,I.bare,I.base,I.loc,I.cell,I.free,I.freeC,fun p hp=>(List.mem_append.mp hp).elim (fun z=>I.pin p (List.mem_append_left _ z)) (h p),I.hok,I.len⟩
theorem nodup_ix {N:List Str} (hN:N.Nodup) {i j:Nat} {x:Str} (a:N[i]?=some x) (b:N[j]?=some x):i=j:=by
 obtain ⟨h1,e1⟩:=List.getElem?_eq_some_iff.mp a
 obtain ⟨h2,e2⟩:=List.getElem?_eq_some_iff.mp b
 exact (List.getElem_inj hN).mp (e1.trans e2.symm)
theorem store_ok2 {M:Model} {A:Around} {E:Value->Shared->Prop} {i:Nat} {x:Str} {v:V} {u:Value} {Q:Unit->Shared->Prop} (I:Inv X pins σ H s) (hN:X.N.Nodup) (hi:X.N[i]?=some x) (hx:Loc X.env.scope x) (r:RelV v u)
  (h:∀ s',Inv X pins (σ.set i (some v)) H s'->(∃ a,Heap.SameBut a s.heap s'.heap/\(a=X.env.locals\/X.env.cells.lookup x=some a))->Q () s') (hf:X.fn x=true\/X.env.scope.names.lookup x=some .local:=by first | exact .inl rfl | exact .inr rfl | assumption):wpAny M A (storeName X.env x u) Q E s:=by
 obtain ⟨m,hn,hl⟩:=id I.loc
 have hcls:(X.env.scope.kind==.class||(X.env.scope.kind==.module&&X.env.locals != X.env.globals))=false:=by rw [I.ok.kind];rfl
 have hiσ:i < σ.length:=by rw [I.len];exact (List.getElem?_eq_some_iff.mp hi).1
 have cne:=I.cne
 have tracked:∀ {a:Addr} {h':Heap},(∃ o,s.heap.get? a=some o/\H a=none)->Heap.SameBut a s.heap h'->HOk X.prog X.w H h':=fun {a h'} ha hs b ob e=>by
  obtain ⟨_,_,hfree⟩:=ha
  refine (I.hok b ob e).stay (fun c w' hc q=>(hs.2 c ?_).trans q) (fun _ q=>q) fun _ _ q=>q
  rintro rfl
  rcases hc with rfl | hc
  ·rw [hfree] at e;cases e
  ·rw [hfree] at hc;cases hc
 rcases hx with hk | hk
 ·refine wpAny_storeName_local hk hn (fun h' hn' hs=>?_) hcls
  obtain ⟨oL,_,_,hoL,_⟩:=id hn
  refine h _ ⟨I.ok,I.os,I.bare,⟨fun b o e n hb hx=>?_,fun b o e n hb hx=>?_,I.base.free,fun b o e hx=>?_,I.base.tups,I.base.frzs,I.base.tbls⟩,⟨_,hn',fun j y v' e1 e2 e3=>?_⟩,fun y c e=>?_,I.free,I.freeC,fun p hp=>?_,tracked ⟨oL,hoL,I.free⟩ hs,by simpa using I.len⟩ ⟨_,hs,.inl rfl⟩
  ·exact (hs.2 b (Nat.ne_of_lt (Nat.lt_of_lt_of_le (Heap.lt_size e) I.ok.above))).trans (I.base.keep b o e n hb hx)
  ·obtain ⟨sl,e1⟩:=I.base.slot b o e n hb hx
   exact ⟨sl,(hs.2 b (Nat.ne_of_lt (Nat.lt_of_lt_of_le (Heap.lt_size e) I.ok.above))).trans e1⟩
  ·obtain ⟨o',e1⟩:=I.base.there b o e hx
   exact ⟨o',(hs.2 b (Nat.ne_of_lt (Nat.lt_of_lt_of_le (Heap.lt_size e) I.ok.above))).trans e1⟩
  ·by_cases hj:j=i
   ·subst hj
    rw [hi] at e1;cases e1
    rw [List.getElem?_set_self hiσ] at e2
    cases e2
    exact ⟨u,r,.inl ⟨hk,by simp⟩⟩
   ·rw [List.getElem?_set_ne (Ne.symm hj)] at e2
    obtain ⟨u',r',q⟩:=hl j y v' e1 e2 e3
    refine ⟨u',r',?_⟩
    rcases q with ⟨k,e⟩ | ⟨k,c,e,z⟩
    ·refine .inl ⟨k,?_⟩
     have:y≠x:=fun e=>hj (nodup_ix hN e1 (e▸hi))
     simp [this,e]
    ·exact .inr ⟨k,c,e,z.sameBut hs (cne y c e)⟩
  ·obtain ⟨w',z⟩:=I.cell y c e
   exact ⟨w',z.sameBut hs (cne y c e)⟩
  ·obtain ⟨e,n,ne,nf,d⟩:=I.pin p hp
   exact ⟨(hs.2 p.1 ne).trans e,n,ne,nf,d⟩
 ·have hfn:X.fn x=true:=by
   rcases hf with z | z
   ·exact z
   ·rw [z] at hk;cases hk
  obtain ⟨c,hc⟩:=I.ok.has x (.inl hk)
  obtain ⟨w',z⟩:=I.cell x c hc
  refine wpAny_storeName_cell I.ok.kind hk hc z (fun h' hc' hs=>?_)
  obtain ⟨oc,hoc,hocd⟩:=id z
  refine h { s with heap:=h' } ⟨I.ok,I.os,I.bare,⟨fun b o e n hb hx=>?_,fun b o e n hb hx=>?_,I.base.free,fun b o e hx=>?_,I.base.tups,I.base.frzs,I.base.tbls⟩,⟨m,hn.sameBut hs (Ne.symm (cne x c hc)),fun j y v' e1 e2 e3=>?_⟩,fun y c' e=>?_,I.free,I.freeC,fun p hp=>?_,tracked ⟨oc,hoc,I.freeC x c hc⟩ hs,by simpa using I.len⟩ ⟨c,hs,.inr hc⟩
  ·exact (hs.2 b (Nat.ne_of_lt (Nat.lt_of_lt_of_le (Heap.lt_size e) (I.ok.cab x c hfn hc)))).trans (I.base.keep b o e n hb hx)
  ·obtain ⟨sl,e1⟩:=I.base.slot b o e n hb hx
   exact ⟨sl,(hs.2 b (Nat.ne_of_lt (Nat.lt_of_lt_of_le (Heap.lt_size e) (I.ok.cab x c hfn hc)))).trans e1⟩
  ·obtain ⟨o',e1⟩:=I.base.there b o e hx
   exact ⟨o',(hs.2 b (Nat.ne_of_lt (Nat.lt_of_lt_of_le (Heap.lt_size e) (I.ok.cab x c hfn hc)))).trans e1⟩
  ·by_cases hj:j=i
   ·subst hj
    rw [hi] at e1;cases e1
    rw [List.getElem?_set_self hiσ] at e2
    cases e2
    exact ⟨u,r,.inr ⟨.inl hk,c,hc,hc'⟩⟩
   ·rw [List.getElem?_set_ne (Ne.symm hj)] at e2
    obtain ⟨u',r',q⟩:=hl j y v' e1 e2 e3
    refine ⟨u',r',?_⟩
    rcases q with q | ⟨k,c',e,z'⟩
    ·exact .inl q
    ·refine .inr ⟨k,c',e,z'.sameBut hs ?_⟩
     rintro rfl
     exact hj (nodup_ix hN e1 (I.ok.inj _ _ _ e hc▸hi))
  ·by_cases hcc:c'=c
   ·subst hcc;exact ⟨_,hc'⟩
   ·obtain ⟨w2,z2⟩:=I.cell y c' e
    exact ⟨w2,z2.sameBut hs hcc⟩
  ·obtain ⟨e,n,ne,nf,d⟩:=I.pin p hp
   refine ⟨(hs.2 p.1 ?_).trans e,n,ne,nf,d⟩
   intro q
   rw [q,hoc] at e
   have q':oc=p.2:=Option.some.inj e
   exact d w' (by rw [←q'];exact hocd)
theorem store_ok {M:Model} {A:Around} {E:Value->Shared->Prop} {i:Nat} {x:Str} {v:V} {u:Value} {Q:Unit->Shared->Prop} (I:Inv X pins σ H s) (hN:X.N.Nodup) (hi:X.N[i]?=some x) (hx:Loc X.env.scope x) (r:RelV v u)
  (h:∀ s',Inv X pins (σ.set i (some v)) H s'->Q () s') (hf:X.fn x=true\/X.env.scope.names.lookup x=some .local:=by first | exact .inl rfl | exact .inr rfl | assumption):wpAny M A (storeName X.env x u) Q E s :=
 store_ok2 I hN hi hx r (fun s' I' _=>h s' I') hf
theorem Inv.call' {s':Shared} {ch:List Addr} (I:Inv X pins σ H s) (ho:s'.os=s.os) (u:Un (frs X.stack) ch H H' s.heap s'.heap) (hok:HOk X.prog X.w H' s'.heap) (hg:AllBare s'.gens)
  (hch:∀ b∈ch,(b∈X.ex\/X.s₀.heap.objs.size≤b)/\b≠X.env.locals/\(∀ x c,X.env.cells.lookup x=some c->c≠b)/\∀ p∈X.pn ++ pins,p.1≠b):Inv X pins σ H' s':=by
 obtain ⟨h',g',d',t',o'⟩:=s'
 have e:o'=s.os:=ho
 subst e
 exact I.call (g':=g') (t':=t') (d':=d') u hok hg hch
end
noncomputable abbrev XK:=Value->Option Addr->Hp->Prop
noncomputable abbrev St:=List (Option V)
noncomputable abbrev VK:=V->Hp->Prop
noncomputable abbrev TE:=St->Hp->VK->Prop
noncomputable abbrev TT:=St->Hp->(Bool->Hp->Prop)->Prop
noncomputable abbrev TA:=St->Hp->(List V->Hp->Prop)->Prop
set_option genInjectivity false in
set_option genSizeOf false in
structure Ends where
 nx:St->Hp->Prop
 rt:VK
 bk:St->Hp->Prop:=fun _ _=>False
 ct:St->Hp->Prop:=fun _ _=>False
noncomputable abbrev TS:=Ends->St->Hp->Prop
noncomputable def EP (X:Cx) (pins:List (Addr×Obj)) (σ:St) (Q:VK) (u:Value) (s':Shared):Prop:=∃ v H',Inv X pins σ H' s'/\RelV v u/\Q v H'
noncomputable def TP (X:Cx) (pins:List (Addr×Obj)) (σ:St) (Q:Bool->Hp->Prop) (b:Bool) (s':Shared):Prop:=∃ H',Inv X pins σ H' s'/\Q b H'
noncomputable def AP (X:Cx) (pins:List (Addr×Obj)) (σ:St) (Q:List V->Hp->Prop) (us:List Value) (s':Shared):Prop:=∃ vs H',Inv X pins σ H' s'/\Vals vs us/\Q vs H'
noncomputable def SP (X:Cx) (pins:List (Addr×Obj)) (D:Ends) (f:Flow) (s':Shared):Prop :=
 match f with
 | .next=>∃ σ' H',Inv X pins σ' H' s'/\D.nx σ' H'
 | .brk=>∃ σ' H',Inv X pins σ' H' s'/\D.bk σ' H'
 | .cont=>∃ σ' H',Inv X pins σ' H' s'/\D.ct σ' H'
 | .ret u=>∃ v σ' H',Inv X pins σ' H' s'/\RelV v u/\D.rt v H'
noncomputable def PE (X:Cx) (e:Expr) (t:TE):Prop :=
 ∀ (pins:List (Addr×Obj)) (s:Shared) (σ:St) (H:Hp) (Q:VK),Inv X pins σ H s->t σ H Q->wpAny (model X.prog X.w) X.A (eval e X.env) (EP X pins σ Q) X.xe s
noncomputable def PT (X:Cx) (e:Expr) (t:TT):Prop :=
 ∀ (pins:List (Addr×Obj)) (s:Shared) (σ:St) (H:Hp) (Q:Bool->Hp->Prop),Inv X pins σ H s->t σ H Q->wpAny (model X.prog X.w) X.A (isTrue e X.env (eval e X.env)) (TP X pins σ Q) X.xe s
noncomputable def PW (X:Cx) (e:Expr) (t:TT):Prop :=
 ∀ (whole:Sem Value) (pins:List (Addr×Obj)) (s:Shared) (σ:St) (H:Hp) (Q:Bool->Hp->Prop),Inv X pins σ H s->t σ H Q->wpAny (model X.prog X.w) X.A (isTrue e X.env whole) (TP X pins σ Q) X.xe s
theorem PW.pt {X:Cx} {e:Expr} {t:TT} (h:PW X e t):PT X e t:=h _
noncomputable def PA (X:Cx) (es:List Expr) (t:TA):Prop :=
 ∀ (pos:Pos) (pins:List (Addr×Obj)) (s:Shared) (σ:St) (H:Hp) (Q:List V->Hp->Prop),Inv X pins σ H s->t σ H Q->wpAny (model X.prog X.w) X.A (spliced (backTo pos (starEach es X.env))) (AP X pins σ Q) X.xe s
noncomputable def PS (X:Cx) (st:Stmt) (t:TS):Prop :=
 ∀ (pins:List (Addr×Obj)) (s:Shared) (σ:St) (H:Hp) (D:Ends),Inv X pins σ H s->t D σ H->wpAny (model X.prog X.w) X.A (exec st X.env) (SP X pins D) X.xe s
noncomputable def PSs (X:Cx) (st:List Stmt) (t:TS):Prop :=
 ∀ (pins:List (Addr×Obj)) (s:Shared) (σ:St) (H:Hp) (D:Ends),Inv X pins σ H s->t D σ H->wpAny (model X.prog X.w) X.A (execs st X.env) (SP X pins D) X.xe s
theorem thn {α:Type} {t:Sem α} {Q Q':α->Shared->Prop} {M:Model} {A:Around} {E:Value->Shared->Prop} {s:Shared} (h:wpAny M A t Q E s) (hQ:∀ a s,Q a s->Q' a s):wpAny M A t Q' E s:=wpAny_mono h hQ fun _ _ x=>x
section
variable {X:Cx}
noncomputable def tVar (i:Nat):TE:=fun σ H Q=>∃ v,σ[i]?=some (some v)/\Q v H
noncomputable def tC (v:V):TE:=fun _ H Q=>Q v H
theorem pe_var {i:Nat} {x:Str} {pos:Pos} (hN:X.N[i]?=some x) (hv:Vis X.env.scope x) (hd:(x==("__debug__":Str))=false:=by decide) (hcd:(x==("__classdict__":Str))=false:=by decide):PE X (.Name x pos) (tVar i):=by
 intro pins s σ H Q I h
 obtain ⟨v,e,h⟩:=h
 obtain ⟨m,hn,hl⟩:=I.loc
 obtain ⟨u,r,l⟩:=hl i x v hN e hv
 have fin:EP X pins σ Q u s:=⟨v,H,I,r,h⟩
 rcases l with ⟨hk,hm⟩ | ⟨hk,c,hc,hcell⟩
 ·exact wpAny_Name (wpAny_loadName_local I.ok.kind hk hn hm fin) hd
 ·rcases hk with hk | hk
  ·exact wpAny_Name (wpAny_loadName_cell I.ok.kind hk hc hcell fin) hd
  ·exact wpAny_Name (wpAny_loadName_free I.ok.kind hk hc hcell fin hcd) hd
theorem pe_int {i j pos}:PE X (.Constant (.int i) j pos) (tC (.int i)):=fun _ _ _ H _ I h=>wpAny_Constant_int ⟨.int i,H,I.tok _,⟨_,rfl⟩,h⟩
theorem pe_bl {b j pos}:PE X (.Constant (.bool b) j pos) (tC (.bl b)):=fun _ _ _ H _ I h=>Constant_bool ⟨.bl b,H,I,rfl,h⟩
theorem pe_non {j pos}:PE X (.Constant .none j pos) (tC .non):=fun _ _ _ H _ I h=>Constant_none ⟨.non,H,I,rfl,h⟩
theorem pe_str {x j pos}:PE X (.Constant (.str x) j pos) (tC (.str x)):=fun _ _ _ H _ I h=>Calls.Constant_str ⟨.str x,H,I.tok _,⟨_,rfl⟩,h⟩
noncomputable def Gl (X:Cx) (x:Str):Prop:=X.env.kindOf x=some .globalImplicit
theorem ld_glob {E:Value->Shared->Prop} {pins:List (Addr×Obj)} {s:Shared} {σ:St} {H:Hp} {x:Str} {u:Value} {pos:Pos} {Q:Value->Shared->Prop} (I:Inv X pins σ H s) (hg:Gl X x) (hm:X.mg x=some u) (h:Q u s)
  (hd:(x==("__debug__":Str))=false:=by decide):wpAny (model X.prog X.w) X.A (eval (.Name x pos) X.env) Q E s :=
 Calls.Name_function_global I.ok.kind hg (Calls.loadGlobal_global (by rw [I.ok.glob];exact I.mod.glob.keeps I.bk) hm h) hd
theorem ld_blt {E:Value->Shared->Prop} {pins:List (Addr×Obj)} {s:Shared} {σ:St} {H:Hp} {x:Str} {u:Value} {pos:Pos} {Q:Value->Shared->Prop} (I:Inv X pins σ H s) (hg:Gl X x) (hm:X.mg x=none) (hv:bootBuiltins x=some u) (h:Q u s)
  (hn:x≠"__name__":=by decide) (hd:(x==("__debug__":Str))=false:=by decide):wpAny (model X.prog X.w) X.A (eval (.Name x pos) X.env) Q E s:=by
 obtain ⟨mb,h1,h2⟩:=I.mod.blt
 exact Calls.Name_function_global I.ok.kind hg (Calls.loadGlobal_builtin (by rw [I.ok.glob];exact I.mod.glob.keeps I.bk) hm (by rw [I.ok.blt];exact h1.keeps I.bk) ((h2 x hn).trans hv) h) hd
theorem pe_glob {x:Str} {v:V} {u:Value} {pos:Pos} (hg:Gl X x) (hm:X.mg x=some u) (r:RelV v u) (hd:(x==("__debug__":Str))=false:=by decide):PE X (.Name x pos) (tC v) :=
 fun _ _ _ H _ I h=>ld_glob I hg hm ⟨v,H,I,r,h⟩ hd
theorem pe_bltn {x:Str} {v:V} {u:Value} {pos:Pos} (hg:Gl X x) (hm:X.mg x=none) (hv:bootBuiltins x=some u) (r:RelV v u) (hn:x≠"__name__":=by decide) (hd:(x==("__debug__":Str))=false:=by decide):PE X (.Name x pos) (tC v) :=
 fun _ _ _ H _ I h=>ld_blt I hg hm hv ⟨v,H,I,r,h⟩ hn hd
variable {a b:Expr} {ta tb:TE} {pos:Pos}
noncomputable def PC (X:Cx) (op:CmpOp) (a b:Expr) (t:TE):Prop :=
 ∀ (pins:List (Addr×Obj)) (s:Shared) (σ:St) (H:Hp) (Q:VK),Inv X pins σ H s->t σ H Q ->
  wpAny (model X.prog X.w) X.A (eval a X.env) (fun v s₁=>wpAny (model X.prog X.w) X.A (eval b X.env) (fun u s₂=>wpAny (model X.prog X.w) X.A (compareOp op v u) (EP X pins σ Q) X.xe s₂) X.xe s₁) X.xe s
noncomputable def tB (t:TE):TT:=fun σ H Q=>t σ H fun x H1=>∃ c,x=.bl c/\Q c H1
theorem pt_cmp {op:CmpOp} {t:TE} (h:PC X op a b t) (h1:behindInMarks op b=false:=by first | exact nobehind _ (by decide) (by decide) | rfl):PT X (.Compare a [op] [b] pos) (tB t):=by
 intro pins s σ H Q I hw
 refine wpAny_isTrue_Compare1 (thn (h pins s σ H _ I hw) fun v s1 h1=>thn h1 fun u s2 h2=>thn h2 fun c s3 ⟨x,H1,I1,r1,q1⟩=>?_) h1
 obtain ⟨d,rfl,q⟩:=q1
 cases r1
 exact wpAny_truthy_bool ⟨H1,I1,q⟩
theorem pt_val {e:Expr} {t:TE} (h:PE X e t) (he:∀ whole,isTrue e X.env whole=(do let v ←whole;standAt e.pos;holding [v] (truthy v)):=by intro _;rfl):PT X e (tB t):=by
 intro pins s σ H Q I hw
 refine isTrue_plain (thn (h pins s σ H _ I hw) fun v s1 ⟨x,H1,I1,r1,q1⟩=>?_) (he _)
 obtain ⟨d,rfl,q⟩:=q1
 cases r1
 exact wpAny_truthy_bool ⟨H1,I1,q⟩
variable {tA tB':TT} {rest:List Expr}
noncomputable def tAnd (t u:TT):TT:=fun σ H Q=>t σ H fun c H1=>if c=true then u σ H1 Q else Q false H1
noncomputable def tOr (t u:TT):TT:=fun σ H Q=>t σ H fun c H1=>if c=true then Q true H1 else u σ H1 Q
noncomputable def tNot (t:TT):TT:=fun σ H Q=>t σ H fun c H1=>Q (!c) H1
theorem pw_and1 (ha:PT X a tA):PW X (.BoolOp .And [a] pos) tA:=by
 intro wh pins s σ H Q I h
 refine isTrue_and (thn (ha pins s σ H Q I h) fun c s1 e=>?_)
 cases c with
 | true=>exact isTrue_and_nil e
 | false=>exact e
theorem pw_or1 (ha:PT X a tA):PW X (.BoolOp .Or [a] pos) tA:=by
 intro wh pins s σ H Q I h
 refine isTrue_or (thn (ha pins s σ H Q I h) fun c s1 e=>?_)
 cases c with
 | false=>exact isTrue_or_nil e
 | true=>exact e
theorem pw_and (ha:PT X a tA) (hb:PW X (.BoolOp .And (b :: rest) pos) tB'):PW X (.BoolOp .And (a :: b :: rest) pos) (tAnd tA tB'):=by
 intro wh pins s σ H Q I h
 refine isTrue_and (thn (ha pins s σ H _ I h) fun c s1 ⟨H1,I1,q1⟩=>?_)
 cases c with
 | true=>exact hb wh pins s1 σ H1 Q I1 q1
 | false=>exact ⟨H1,I1,q1⟩
theorem pw_or (ha:PT X a tA) (hb:PW X (.BoolOp .Or (b :: rest) pos) tB'):PW X (.BoolOp .Or (a :: b :: rest) pos) (tOr tA tB'):=by
 intro wh pins s σ H Q I h
 refine isTrue_or (thn (ha pins s σ H _ I h) fun c s1 ⟨H1,I1,q1⟩=>?_)
 cases c with
 | true=>exact ⟨H1,I1,q1⟩
 | false=>exact hb wh pins s1 σ H1 Q I1 q1
theorem pt_not (ha:PT X a tA):PT X (.UnaryOp .Not a pos) (tNot tA):=by
 intro pins s σ H Q I h
 exact isTrue_not (ha pins s σ H (fun c H1=>Q (!c) H1) I h)
noncomputable def tAndV (ta tb:TE):TE:=fun σ H Q=>ta σ H fun x H1=>∃ c,x=.bl c/\if c=true then tb σ H1 Q else Q (.bl false) H1
noncomputable def tNotV (ta:TE):TE:=fun σ H Q=>ta σ H fun x H1=>∃ c,x=.bl c/\Q (.bl (!c)) H1
theorem pe_one {op} {t:TE} (h:PE X a t):PE X (.BoolOp op [a] pos) t:=fun pins s σ H Q I hw=>BoolOp_one (h pins s σ H Q I hw)
theorem pe_and (ha:PE X a ta) (hb:PE X (.BoolOp .And (b :: rest) pos) tb):PE X (.BoolOp .And (a :: b :: rest) pos) (tAndV ta tb):=by
 intro pins s σ H Q I h
 refine BoolOp_and (thn (ha pins s σ H _ I h) fun v s1 ⟨x,H1,I1,r1,q1⟩=>?_)
 obtain ⟨c,rfl,q1⟩:=q1
 cases r1
 refine wpAny_truthy_bool ?_
 cases c with
 | true=>exact hb pins s1 σ H1 Q I1 q1
 | false=>exact ⟨.bl false,H1,I1,rfl,q1⟩
theorem pe_not (ha:PE X a ta):PE X (.UnaryOp .Not a pos) (tNotV ta):=by
 intro pins s σ H Q I h
 refine UnaryOp_ (thn (ha pins s σ H _ I h) fun v s1 ⟨x,H1,I1,r1,q1⟩=>?_)
 obtain ⟨c,rfl,q1⟩:=q1
 cases r1
 exact not_of (wpAny_truthy_bool ⟨.bl (!c),H1,I1,rfl,q1⟩)
noncomputable def tIf (t:TT) (ta tb:TE):TE:=fun σ H Q=>t σ H fun c H1=>if c=true then ta σ H1 Q else tb σ H1 Q
theorem pe_ifExp {c:Expr} (hc:PT X c tA) (ha:PE X a ta) (hb:PE X b tb):PE X (.IfExp c a b pos) (tIf tA ta tb):=by
 intro pins s σ H Q I h
 refine wpAny_IfExp (thn (hc pins s σ H _ I h) fun d s1 ⟨H1,I1,q1⟩=>?_)
 cases d with
 | true=>exact ha pins s1 σ H1 Q I1 q1
 | false=>exact hb pins s1 σ H1 Q I1 q1
end
noncomputable def SqL (K:PySem.W.Frag) (H:Hp) (a:Addr) (xs:List V):Prop :=
 Rd H a (.lst xs) \/
  ∃ (o:Obj) (its:Array Value) (n:Nat),K.lookup a=some o/\o.cls=.type "list"/\o.dict=none/\o.data=.seq its n/\its.size≤sizeLine/\Vals xs its.toList
noncomputable def SqT (K:PySem.W.Frag) (H:Hp) (a:Addr) (xs:List V):Prop :=
 Rd H a (.tup xs) \/
  ∃ (o:Obj) (its:Array Value) (n:Nat),K.lookup a=some o/\o.cls=.type "tuple"/\o.data=.seq its n/\its.size≤sizeLine/\Vals xs its.toList
noncomputable def absV:Value->Option V
 | .none=>some .non
 | .bool b=>some (.bl b)
 | .int i _=>some (.int i)
 | .str x _=>some (.str x)
 | .bytes b _=>some (.byt b)
 | .float b _=>some (.flt b)
 | .ref a=>some (.ref a)
 | .type n=>some (.ty n)
 | _=>none
theorem RelV.abs {x:V} {u:Value} (r:RelV x u):absV u=some x:=by
 cases x with
 | non=>cases r;rfl
 | bl _=>cases r;rfl
 | int _=>obtain ⟨t,rfl⟩:=r;rfl
 | str _=>obtain ⟨t,rfl⟩:=r;rfl
 | byt _=>obtain ⟨t,rfl⟩:=r;rfl
 | flt _=>obtain ⟨t,rfl⟩:=r;rfl
 | ref _=>cases r;rfl
 | ty _=>cases r;rfl
theorem RelV.inj {x y:V} {u:Value} (r:RelV x u) (q:RelV y u):x=y:=Option.some.inj (r.abs.symm.trans q.abs)
theorem Vals.inj:∀ {xs ys:List V} {us:List Value},Vals xs us->Vals ys us->xs=ys
 | _,_,_,.nil,.nil=>rfl
 | _,_,_,.cons r t,.cons r' t'=>by rw [r.inj r',Vals.inj t t']
section
variable {X:Cx} {pins:List (Addr×Obj)} {σ:St} {H:Hp} {s:Shared} {a:Addr} {xs ys:List V}
theorem SqL.of {K:PySem.W.Frag} (h:H a=some (.lst xs)):SqL K H a xs:=.inl (.inl h)
theorem SqT.of {K:PySem.W.Frag} (h:H a=some (.tup xs)):SqT K H a xs:=.inl (.inl h)
theorem Inv.list (I:Inv X pins σ H s) (h:SqL X.K H a xs):∃ its:List Value,Vals xs its/\PlainL s.heap a its.toArray/\xs.length≤sizeLine:=by
 rcases h with h | ⟨o,its,n,hk,hc,hd,hs,hz,r⟩
 ·obtain ⟨z,its,n,r,e⟩:=h.ok I.hok
  exact ⟨its,r,⟨_,n,e,rfl,rfl,rfl⟩,z⟩
 ·refine ⟨its.toList,r,⟨o,n,I.kIn a o hk,hc,hd,by simpa using hs⟩,?_⟩
  have e:=r.length
  simp only [Array.length_toList] at e
  lia
theorem Inv.tuple (I:Inv X pins σ H s) (h:SqT X.K H a xs):∃ its:List Value,Vals xs its/\IsTup s.heap a its.toArray/\xs.length≤sizeLine:=by
 rcases h with h | ⟨o,its,n,hk,hc,hs,hz,r⟩
 ·obtain ⟨z,its,r,p⟩:=h.ok I.hok
  exact ⟨its,r,p,z⟩
 ·refine ⟨its.toList,r,⟨o,I.kIn a o hk,hc,n,by simpa using hs⟩,?_⟩
  have e:=r.length
  simp only [Array.length_toList] at e
  lia
theorem Inv.list_inj (I:Inv X pins σ H s) (h:SqL X.K H a xs) (h':SqL X.K H a ys):xs=ys:=by
 obtain ⟨its,r,⟨o,n,e,_,_,d⟩,_⟩:=I.list h
 obtain ⟨its',r',⟨o',n',e',_,_,d'⟩,_⟩:=I.list h'
 rw [e] at e';cases e'
 rw [d] at d'
 injection d' with d1 _
 have:its=its':=by simpa using congrArg Array.toList d1
 subst this
 exact r.inj r'
theorem Inv.tuple_inj (I:Inv X pins σ H s) (h:SqT X.K H a xs) (h':SqT X.K H a ys):xs=ys:=by
 obtain ⟨its,r,⟨o,e,_,n,d⟩,_⟩:=I.tuple h
 obtain ⟨its',r',⟨o',e',_,n',d'⟩,_⟩:=I.tuple h'
 rw [e] at e';cases e'
 rw [d] at d'
 injection d' with d1 _
 have:its=its':=by simpa using congrArg Array.toList d1
 subst this
 exact r.inj r'
end
noncomputable abbrev Cx.wish (X:Cx) (E:Value->Shared->Prop):Cx:={ X with xe:=E }
noncomputable abbrev Cx.nox (X:Cx):Cx:=X.wish fun _ _=>False
theorem Cx.Ok.wish {X:Cx} (ok:X.Ok) (E:Value->Shared->Prop):(X.wish E).Ok :=
 ⟨ok.mod,ok.kind,ok.glob,ok.blt,ok.above,ok.inj,ok.has,ok.cab,ok.hd,ok.frames,ok.stk,ok.exf,ok.bs,ok.bsz,ok.noex,ok.exfs,ok.funs,ok.frf⟩
theorem Cx.Ok.unwish {X:Cx} {E:Value->Shared->Prop} (ok:(X.wish E).Ok):X.Ok :=
 ⟨ok.mod,ok.kind,ok.glob,ok.blt,ok.above,ok.inj,ok.has,ok.cab,ok.hd,ok.frames,ok.stk,ok.exf,ok.bs,ok.bsz,ok.noex,ok.exfs,ok.funs,ok.frf⟩
section
variable {X:Cx} {pins:List (Addr×Obj)} {σ:St} {H:Hp} {s:Shared} {E:Value->Shared->Prop}
theorem Inv.wish (I:Inv X pins σ H s) (E:Value->Shared->Prop):Inv (X.wish E) pins σ H s:=⟨I.ok.wish E,I.os,I.bare,I.base,I.loc,I.cell,I.free,I.freeC,I.pin,I.hok,I.len⟩
theorem Inv.unwish (I:Inv (X.wish E) pins σ H s):Inv X pins σ H s:=⟨I.ok.unwish,I.os,I.bare,I.base,I.loc,I.cell,I.free,I.freeC,I.pin,I.hok,I.len⟩
theorem SP.unwish {D:Ends} {f:Flow} {s':Shared} (h:SP (X.wish E) pins D f s'):SP X pins D f s':=by
 cases f with
 | next=>obtain ⟨σ',H',I,q⟩:=h;exact ⟨σ',H',I.unwish,q⟩
 | brk=>obtain ⟨σ',H',I,q⟩:=h;exact ⟨σ',H',I.unwish,q⟩
 | cont=>obtain ⟨σ',H',I,q⟩:=h;exact ⟨σ',H',I.unwish,q⟩
 | ret u=>obtain ⟨v,σ',H',I,r,q⟩:=h;exact ⟨v,σ',H',I.unwish,r,q⟩
theorem PSs.nox {st:List Stmt} {t:TS} (h:PSs X.nox st t):PSs X st t:=fun pins s σ H D I hw =>
 wpAny_mono (h pins s σ H D (I.wish _) hw) (fun _ _ q=>q.unwish) fun _ _ z=>False.elim z
end
section
variable {X:Cx} {st:Stmt} {rest:List Stmt} {t u:TS} {e:Expr} {te:TE} {pos:Pos}
noncomputable def tNext:TS:=fun D σ H=>D.nx σ H
noncomputable def tSeq (t u:TS):TS:=fun D σ H=>t { D with nx:=u D } σ H
theorem pss_nil:PSs X [] tNext:=fun _ _ σ H _ I h=>wpAny_execs_nil ⟨σ,H,I,h⟩
theorem pss_cons (h1:PS X st t) (h2:PSs X rest u):PSs X (st :: rest) (tSeq t u):=by
 intro pins s σ H D I h
 refine wpAny_execs_cons (thn (h1 pins s σ H { D with nx:=u D } I h) fun f s1 q=>?_)
 cases f with
 | next =>
  obtain ⟨σ',H',I',q⟩:=q
  exact h2 pins s1 σ' H' D I' q
 | ret v=>exact q
 | brk=>exact q
 | cont=>exact q
theorem pss_one (h1:PS X st t):PSs X [st] t:=by
 intro pins s σ H D I h
 refine wpAny_execs_cons (thn (h1 pins s σ H D I h) fun f s1 q=>?_)
 cases f with
 | next=>exact wpAny_execs_nil q
 | ret v=>exact q
 | brk=>exact q
 | cont=>exact q
theorem Inv.quiet {pins:List (Addr×Obj)} {σ:St} {H:Hp} {s:Shared} (I:Inv X pins σ H s):interactive X.env=false:=by simp [interactive,I.ok.kind]
noncomputable def tDrop (te:TE):TS:=fun D σ H=>te σ H fun _ H1=>D.nx σ H1
theorem ps_expr (he:PE X e te) (hs:swapsWith e none pos.line X.env=pure false:=by rfl):PS X (.Expr e pos) (tDrop te):=by
 intro pins s σ H D I h
 exact wpAny_Expr_any (thn (he pins s σ H _ I h) fun v s1 ⟨x,H1,I1,r1,q1⟩=>⟨σ,H1,I1,q1⟩) I.quiet hs
noncomputable def tRet (te:TE):TS:=fun D σ H=>te σ H D.rt
theorem ps_ret (he:PE X e te):PS X (.Return (some e) pos) (tRet te):=by
 intro pins s σ H D I h
 exact wpAny_Return_some (thn (he pins s σ H _ I h) fun v s1 ⟨x,H1,I1,r1,q1⟩=>⟨x,σ,H1,I1,r1,q1⟩)
noncomputable def tIfS (c:TT) (t u:TS):TS:=fun D σ H=>c σ H fun b H1=>if b=true then t D σ H1 else u D σ H1
theorem ps_if {c:Expr} {a b:List Stmt} {tc:TT} (hc:PT X c tc) (ha:PSs X a t) (hb:PSs X b u):PS X (.If c a b pos) (tIfS tc t u):=by
 intro pins s σ H D I h
 refine wpAny_If (thn (hc pins s σ H _ I h) fun d s1 ⟨H1,I1,q1⟩=>?_)
 cases d with
 | true=>exact ha pins s1 σ H1 D I1 q1
 | false=>exact hb pins s1 σ H1 D I1 q1
end
noncomputable abbrev TG:=V->St->Hp->(St->Hp->Prop)->Prop
noncomputable abbrev TGs:=List V->St->Hp->(St->Hp->Prop)->Prop
noncomputable def PG (X:Cx) (target:Expr) (t:TG):Prop :=
 ∀ (pins:List (Addr×Obj)) (s:Shared) (σ:St) (H:Hp) (v:V) (u:Value) (Q:St->Hp->Prop),Inv X pins σ H s->RelV v u->t v σ H Q ->
  wpAny (model X.prog X.w) X.A (assign target X.env u) (fun _ s'=>∃ σ' H',Inv X pins σ' H' s'/\Q σ' H') X.xe s
noncomputable def PGs (X:Cx) (ts:List Expr) (t:TGs):Prop :=
 ∀ (pins:List (Addr×Obj)) (s:Shared) (σ:St) (H:Hp) (vs:List V) (us:List Value) (Q:St->Hp->Prop),Inv X pins σ H s->Vals vs us->t vs σ H Q ->
  wpAny (model X.prog X.w) X.A (assignInOrder ((assignEach ts X.env).map (·.2)) us) (fun _ s'=>∃ σ' H',Inv X pins σ' H' s'/\Q σ' H') X.xe s
noncomputable abbrev TSet:=V->V->V->Hp->(Hp->Prop)->Prop
noncomputable def PSet (X:Cx) (t:TSet):Prop :=
 ∀ (pins:List (Addr×Obj)) (s:Shared) (σ:St) (H:Hp) (o i v:V) (ov iv u:Value) (Q:Hp->Prop),Inv X pins σ H s->RelV o ov->RelV i iv->RelV v u->t o i v H Q ->
  wpAny (model X.prog X.w) X.A (setItem ov iv u) (fun _ s'=>∃ H',Inv X pins σ H' s'/\Q H') X.xe s
section
variable {X:Cx} {pos:Pos}
noncomputable def gName (i:Nat):TG:=fun v σ H Q=>Q (σ.set i (some v)) H
theorem pg_name {i:Nat} {x:Str} (hN:X.N.Nodup) (hi:X.N[i]?=some x) (hx:Loc X.env.scope x) (hf:X.fn x=true\/X.env.scope.names.lookup x=some .local:=by first | exact .inl rfl | exact .inr rfl | assumption):PG X (.Name x pos) (gName i):=by
 intro pins s σ H v u Q I r h
 exact wpAny_assign_Name (store_ok I hN hi hx r (fun s' I'=>⟨_,H,I',h⟩) hf)
noncomputable def gNil:TGs:=fun vs σ H Q=>vs=[]/\Q σ H
noncomputable def gCons (t:TG) (u:TGs):TGs:=fun vs σ H Q=>∃ v r,vs=v :: r/\t v σ H fun σ' H'=>u r σ' H' Q
theorem pgs_nil:PGs X [] gNil:=by
 intro pins s σ H vs us Q I r h
 obtain ⟨e,h⟩:=h
 subst e
 cases r
 exact assignInOrder_nil ⟨σ,H,I,h⟩
theorem pgs_cons {e:Expr} {es:List Expr} {t:TG} {u:TGs} (h1:PG X e t) (h2:PGs X es u)
  (hs:(assignEach (e :: es) X.env).map (·.2)=assign e X.env :: (assignEach es X.env).map (·.2):=by rfl):PGs X (e :: es) (gCons t u):=by
 intro pins s σ H vs us Q I r h
 obtain ⟨v,vr,e1,h⟩:=h
 subst e1
 cases r with
 | cons r rr =>
  rw [hs]
  refine assignInOrder_cons (thn (h1 pins s σ H _ _ _ I r h) fun _ s1 ⟨σ1,H1,I1,q1⟩=>?_)
  exact h2 pins s1 σ1 H1 _ _ Q I1 rr q1
noncomputable def gTup (K:PySem.W.Frag) (n:Nat) (t:TGs):TG:=fun v σ H Q=>∃ a xs,v=.ref a/\SqT K H a xs/\xs.length=n/\t xs σ H Q
theorem pg_tup {es:List Expr} {k:Nat} {t:TGs} {n:Nat} (hc:X.calm=true) (h:PGs X es t)
  (hn:(assignEach es X.env).length=n:=by rfl) (hst:(assignEach es X.env).findIdx? (·.1)=none:=by rfl):PG X (.Tuple es k pos) (gTup X.K n t):=by
 intro pins s σ H v u Q I r hw
 obtain ⟨a,xs,e1,hq,hl,hw⟩:=hw
 subst e1
 cases r
 obtain ⟨its,rv,ht,hz⟩:=I.tuple hq
 refine assign_Tuple_tuple (I.ok.hd hc) ht (by simp [hn,←hl,rv.length]) hst fun h' hx=>?_
 have I1:Inv X pins σ H { s with heap:=h' }:=I.kept (t':=s.toks) fun b o e=>hx b o (Nat.ne_of_lt (Heap.lt_size e)) e
 exact h pins _ σ H xs _ Q I1 (by simpa using rv) hw
noncomputable def gSub (to ti:TE) (t:TSet):TG:=fun v σ H Q=>to σ H fun o H1=>ti σ H1 fun i H2=>t o i v H2 fun H3=>Q σ H3
theorem pg_sub {o i:Expr} {to ti:TE} {t:TSet} (ho:PE X o to) (hi:PE X i ti) (hs:PSet X t)
  (ha:∀ v,assign (.Subscript o i pos) X.env v=(do
   let ov ←holding [v] (eval o X.env)
   let iv ←holding [v,ov] (eval i X.env)
   standAt pos
   holding [v,ov,iv] (setItem ov iv v)
   release [v,ov,iv] []):=by intro _;rfl):PG X (.Subscript o i pos) (gSub to ti t):=by
 intro pins s σ H v u Q I r h
 rw [ha]
 refine wpAny_bind (wpAny_holding (thn (ho pins s σ H _ I h) fun ov s1 ⟨x,H1,I1,r1,q1⟩=>?_))
 refine wpAny_bind (wpAny_holding (thn (hi pins s1 σ H1 _ I1 q1) fun iv s2 ⟨y,H2,I2,r2,q2⟩=>?_))
 refine wpAny_bind (wpAny_standAt (wpAny_bind (wpAny_holding (thn (hs pins s2 σ H2 x y v ov iv u _ I2 r1 r2 r q2) fun _ s3 ⟨H3,I3,q3⟩=>?_))))
 exact wpAny_release ⟨σ,H3,I3,q3⟩
noncomputable def tAsg (te:TE) (g:TG):TS:=fun D σ H=>te σ H fun x H1=>g x σ H1 D.nx
theorem ps_asg {tg e:Expr} {te:TE} {g:TG} (he:PE X e te) (hg:PG X tg g) (hs:swapsWithSole [tg] e pos.line X.env=pure false:=by rfl) (hw:swappedStores [tg] e X.env=pure none:=by rfl)
  (h1:(assignEach [tg] X.env).map (·.2)=[assign tg X.env]:=by rfl):PS X (.Assign [tg] e pos) (tAsg te g):=by
 intro pins s σ H D I h
 refine wpAny_Assign_stores (thn (he pins s σ H _ I h) fun v s1 ⟨x,H1,I1,r1,q1⟩=>?_) hs hw
 rw [h1]
 exact thn (hg pins s1 σ H1 x v _ I1 r1 q1) fun _ s2 q=>q
theorem ps_set {i:Nat} {x:Str} {e:Expr} {te:TE} {pos':Pos} (hN:X.N.Nodup) (hi:X.N[i]?=some x) (hx:Loc X.env.scope x) (he:PE X e te) (hs:swapsWith e (some (.Name x pos')) pos.line X.env=pure false:=by rfl) (hf:X.fn x=true\/X.env.scope.names.lookup x=some .local:=by first | exact .inl rfl | exact .inr rfl | assumption) :
  PS X (.Assign [.Name x pos'] e pos) (tAsg te (gName i)):=by
 intro pins s σ H D I h
 refine wpAny_Assign_Name (thn (he pins s σ H _ I h) fun v s1 ⟨y,H1,I1,r1,q1⟩=>?_) hs
 exact store_ok I1 hN hi hx r1 (fun s2 I2=>⟨_,H1,I2,q1⟩) hf
end
section
variable {X:Cx} {pos:Pos}
noncomputable def tWhile (c:TT) (tb:TS):TS:=fun D σ H=>∃ W:Nat->St->Hp->Prop,(∃ m,W m σ H)/\∀ m σ H,W m σ H ->
 c σ H fun b H1=>if b=true then ∃ N:St->Hp->Prop,(∀ σ' H',N σ' H'->∃ m',m' < m/\W m' σ' H')/\tb { D with nx:=N,ct:=N,bk:=D.nx } σ H1 else D.nx σ H1
theorem ps_while {c:Expr} {body:List Stmt} {tc:TT} {tb:TS} (hp:PassesOwn (model X.prog X.w) X.A X.env X.xe) (hc:PT X c tc) (hb:PSs X body tb):PS X (.While c body [] pos) (tWhile tc tb):=by
 intro pins s σ H D I h
 obtain ⟨W,⟨m0,w0⟩,turn⟩:=h
 refine wpAny_While (codeAny_whileLoop (fun n s'=>∃ σ' H',Inv X pins σ' H' s'/\W n σ' H') ?_ m0 ⟨σ,H,I,w0⟩)
 rintro n s1 ⟨σ1,H1,I1,w1⟩
 refine wpAny_passesOwn hp (thn (hc pins s1 σ1 H1 _ I1 (turn n σ1 H1 w1)) fun b s2 ⟨H2,I2,q2⟩=>?_)
 cases b with
 | true =>
  obtain ⟨N,hN,q2⟩:=q2
  rw [if_pos rfl]
  refine wpAny_passesOwn hp (thn (hb pins s2 σ1 H2 _ I2 q2) fun f s3 q3=>?_)
  cases f with
  | next =>
   obtain ⟨σ3,H3,I3,n3⟩:=q3
   obtain ⟨m',hm,w3⟩:=hN σ3 H3 n3
   exact ⟨m',hm,σ3,H3,I3,w3⟩
  | cont =>
   obtain ⟨σ3,H3,I3,n3⟩:=q3
   obtain ⟨m',hm,w3⟩:=hN σ3 H3 n3
   exact ⟨m',hm,σ3,H3,I3,w3⟩
  | brk=>exact q3
  | ret v=>exact q3
 | false =>
  rw [if_neg Bool.false_ne_true]
  exact wpAny_execs_nil ⟨σ1,H2,I2,q2⟩
end
set_option genInjectivity false in
set_option genSizeOf false in
structure It where
 go:Nat->Hp->Prop
 yld:Nat->Hp->V->Hp->Prop
 stop:Nat->Hp->Prop
noncomputable def FpOk (X:Cx) (pins:List (Addr×Obj)) (H:Hp) (b:Addr):Prop :=
 H b=none/\b≠X.env.locals/\b∉X.fs/\(b∈X.ex\/X.s₀.heap.objs.size≤b)/\(∀ x c,X.env.cells.lookup x=some c->c≠b)/\∀ p∈X.pn ++ pins,p.1≠b
theorem Inv.fpOk {X:Cx} {pins:List (Addr×Obj)} {σ:St} {H H':Hp} {s:Shared} {b:Addr} (I:Inv X pins σ H s) (hb:s.heap.objs.size≤b) (hn:H' b=none):FpOk X pins H' b:=by
 refine ⟨hn,Nat.ne_of_gt (Nat.lt_of_lt_of_le I.lt hb),I.nofs hb,.inr (Nat.le_trans I.sz hb),fun x c e z=>?_,fun p hp z=>?_⟩
 ·obtain ⟨v,q⟩:=I.cell x c e
  exact absurd (Nat.lt_of_lt_of_le q.lt (by rw [z];exact hb)) (Nat.lt_irrefl _)
 ·exact absurd (Nat.lt_of_lt_of_le (Heap.lt_size (I.pin p hp).1) (by rw [z];exact hb)) (Nat.lt_irrefl _)
structure Turn (P:Program) (w:World) (K:PySem.W.Frag) (tg:Expr) (J:It) (fp:List Addr) (it:Addr) (tn:Nat->Heap->Prop):Prop where
 mem:it∈fp
 obj:∀ i h,tn i h->∀ b∈fp,∃ o,h.get? b=some o/\∀ v,o.data≠.cell v
 keep:∀ i h h',tn i h->(∀ b∈fp,∀ o,h.get? b=some o->h'.get? b=some o)->tn i h'
 item:∀ (X:Cx),X.prog=P->X.w=w->X.K=K->X.calm=true->∀ (i:Nat) (pins:List (Addr×Obj)) (s:Shared) (σ:St) (H:Hp) (E:Value->Shared->Prop),Inv X pins σ H s->(∀ b∈fp,FpOk X pins H b)->tn i s.heap->J.go i H ->
  wpAny (model P w) X.A (pyNext (.ref it)) (fun r s1=>∃ u,r=some u /\
   wpAny (model P w) X.A (letOwnedTupleGo tg (.ref it) u) (fun _ s2=>∃ x H',Inv X pins σ H' s2/\RelV x u/\J.yld i H x H'/\tn (i+1) s2.heap/\∀ b∈fp,H' b=none) E s1) E s
 done:∀ (X:Cx),X.prog=P->X.w=w->X.K=K->X.calm=true->∀ (i:Nat) (pins:List (Addr×Obj)) (s:Shared) (σ:St) (H:Hp) (E:Value->Shared->Prop),Inv X pins σ H s->(∀ b∈fp,FpOk X pins H b)->tn i s.heap->J.stop i H ->
  wpAny (model P w) X.A (pyNext (.ref it)) (fun r s1=>r=none/\Inv X pins σ H s1) E s
 self:∀ (A:Around) (i:Nat) (s:Shared) (Q:Value->Shared->Prop) (E:Value->Shared->Prop),tn i s.heap->Q (.ref it) s->wpAny (model P w) A (pyIter (.ref it)) Q E s
noncomputable abbrev TI:=St->Hp->(It->Hp->Prop)->Prop
noncomputable def PIE (X:Cx) (pins:List (Addr×Obj)) (σ:St) (tg:Expr) (R:It->Hp->Prop) (itv:Value) (s2:Shared):Prop :=
 ∃ (it:Addr) (fp:List Addr) (tn:Nat->Heap->Prop) (J:It) (H':Hp),itv=.ref it/\Inv X pins σ H' s2/\Turn X.prog X.w X.K tg J fp it tn/\tn 0 s2.heap/\(∀ b∈fp,FpOk X pins H' b)/\R J H'
noncomputable def PI (X:Cx) (tg iter:Expr) (wi:TI):Prop :=
 ∀ (pins:List (Addr×Obj)) (s:Shared) (σ:St) (H:Hp) (R:It->Hp->Prop),Inv X pins σ H s->wi σ H R ->
  wpAny (model X.prog X.w) X.A (eval iter X.env) (fun v s1=>wpAny (model X.prog X.w) X.A (pyIter v) (PIE X pins σ tg R) X.xe s1) X.xe s
theorem go_of {M:Model} {A:Around} {E:Value->Shared->Prop} {s:Shared} {tg:Expr} {it:Addr} {u:Value} {o:Obj} {n:String} {vs:Array Value} {Q:Unit->Shared->Prop} (ho:s.heap.get? it=some o) (hc:o.cls=.type n) (hd:o.data=.fields vs)
  (hn:["enumerate","zip","dict_itemiterator","dict_reverseitemiterator","odict_iterator","itertools.zip_longest","itertools.pairwise"].contains n=false) (hQ:Q () s):wpAny M A (letOwnedTupleGo tg (.ref it) u) Q E s:=by
 unfold letOwnedTupleGo
 cases tg <;> first
  | exact wpAny_pure hQ
  | (cases u <;> first
    | exact wpAny_pure hQ
    | (refine wpAny_bind (wpAny_load ho ?_)
       rw [hc,hd]
       show wpAny M A (if (["enumerate","zip","dict_itemiterator","dict_reverseitemiterator","odict_iterator","itertools.zip_longest","itertools.pairwise"].contains n&&vs[0]?==some (rawInt _))=true then _ else _) Q E s
       rw [if_neg (by intro h;rw [hn,Bool.false_and] at h;cases h)]
       exact wpAny_pure hQ))
noncomputable def Itl (K:PySem.W.Frag) (a:Addr):It :=
 ⟨fun i H=>∃ xs x,SqL K H a xs/\xs[i]?=some x,fun i H x H'=>H'=H/\∀ xs,SqL K H a xs->xs[i]?=some x,fun i H=>∃ xs,SqL K H a xs/\xs.length≤i⟩
noncomputable def Itt (K:PySem.W.Frag) (a:Addr):It :=
 ⟨fun i H=>∃ xs x,SqT K H a xs/\xs[i]?=some x,fun i H x H'=>H'=H/\∀ xs,SqT K H a xs->xs[i]?=some x,fun i H=>∃ xs,SqT K H a xs/\xs.length≤i⟩
noncomputable def Itr (lo:Int) (n:Nat):It:=⟨fun i _=>i < n,fun i H x H'=>H'=H/\x=.int (lo+i),fun i _=>n≤i⟩
theorem turn_list {P:Program} {w:World} {K:PySem.W.Frag} {tg:Expr} (a it:Addr):Turn P w K tg (Itl K a) [it] it (fun i h=>h.IsListIter it a i) where
 mem:=by simp
 obj:=fun i h st b hb=>by
  have e:b=it:=by simpa using hb
  subst e
  obtain ⟨o,e,c,d⟩:=st
  exact ⟨o,e,fun v z=>by rw [d] at z;cases z⟩
 keep:=fun i h h' st k=>st.at fun o e=>k it (by simp) o e
 item:=by
  intro X hP hw hK hc i pins s σ H E I hf st hg
  subst hP hw hK
  obtain ⟨xs,x,hq,hx⟩:=hg
  obtain ⟨its,rv,p,hz⟩:=I.list hq
  obtain ⟨u,hu,ru⟩:=rv.get hx
  obtain ⟨f0,f1,f2,f3,f4,f5⟩:=hf it (by simp)
  refine wpAny_pyNext_list_item st p.isList (x:=u) (by simpa using hu) fun h' st' sb=>?_
  have I1:Inv X pins σ H { s with heap:=h' }:=I.turned (t':=s.toks) (fun b o hb e=>(sb.2 b hb).trans e) f0 f1 f3 f4 f5
  obtain ⟨o,e,c,d⟩:=id st'
  exact ⟨u,rfl,go_of (s:={ s with heap:=h' }) e c d (by decide) ⟨x,H,I1,ru,⟨rfl,fun ys hy=>by rw [I.list_inj hy hq];exact hx⟩,st',fun b hb=>(hf b hb).1⟩⟩
 done:=by
  intro X hP hw hK hc i pins s σ H E I hf st hg
  subst hP hw hK
  obtain ⟨xs,hq,hx⟩:=hg
  obtain ⟨its,rv,p,hz⟩:=I.list hq
  obtain ⟨f0,f1,f2,f3,f4,f5⟩:=hf it (by simp)
  have hl:=rv.length
  exact wpAny_pyNext_list_end (I.ok.hd hc) st p.isList (by simp;lia) fun h' eb=>⟨rfl,I.turned (t':=s.toks) (fun b o hb e=>eb b o hb e) f0 f1 f3 f4 f5⟩
 self:=fun _ _ _ _ _ st h=>wpAny_pyIter_listiter st h
theorem turn_tuple {P:Program} {w:World} {K:PySem.W.Frag} {tg:Expr} (a it:Addr):Turn P w K tg (Itt K a) [it] it (fun i h=>h.IsTupleIter it a i) where
 mem:=by simp
 obj:=fun i h st b hb=>by
  have e:b=it:=by simpa using hb
  subst e
  obtain ⟨o,e,c,d⟩:=st
  exact ⟨o,e,fun v z=>by rw [d] at z;cases z⟩
 keep:=fun i h h' st k=>st.at fun o e=>k it (by simp) o e
 item:=by
  intro X hP hw hK hc i pins s σ H E I hf st hg
  subst hP hw hK
  obtain ⟨xs,x,hq,hx⟩:=hg
  obtain ⟨its,rv,p,hz⟩:=I.tuple hq
  obtain ⟨u,hu,ru⟩:=rv.get hx
  obtain ⟨f0,f1,f2,f3,f4,f5⟩:=hf it (by simp)
  refine wpAny_pyNext_tuple_item st (show s.heap.IsTuple a its.toArray from p) (x:=u) (by simpa using hu) fun h' st' sb=>?_
  have I1:Inv X pins σ H { s with heap:=h' }:=I.turned (t':=s.toks) (fun b o hb e=>(sb.2 b hb).trans e) f0 f1 f3 f4 f5
  obtain ⟨o,e,c,d⟩:=id st'
  exact ⟨u,rfl,go_of (s:={ s with heap:=h' }) e c d (by decide) ⟨x,H,I1,ru,⟨rfl,fun ys hy=>by rw [I.tuple_inj hy hq];exact hx⟩,st',fun b hb=>(hf b hb).1⟩⟩
 done:=by
  intro X hP hw hK hc i pins s σ H E I hf st hg
  subst hP hw hK
  obtain ⟨xs,hq,hx⟩:=hg
  obtain ⟨its,rv,p,hz⟩:=I.tuple hq
  obtain ⟨f0,f1,f2,f3,f4,f5⟩:=hf it (by simp)
  have hl:=rv.length
  exact wpAny_pyNext_tuple_end (I.ok.hd hc) st (show s.heap.IsTuple a its.toArray from p) (by simp;lia) fun h' eb=>⟨rfl,I.turned (t':=s.toks) (fun b o hb e=>eb b o hb e) f0 f1 f3 f4 f5⟩
 self:=fun _ _ _ _ _ st h=>wpAny_pyIter_tupleiter st h
theorem turn_range {P:Program} {w:World} {K:PySem.W.Frag} {tg:Expr} (it:Addr) (lo:Int) (n:Nat):Turn P w K tg (Itr lo n) [it] it (fun i h=>IsRangeIter h it (lo+(i:Nat) * 1) ((n:Int) - (i:Nat)) 1) where
 mem:=by simp
 obj:=fun i h st b hb=>by
  have e:b=it:=by simpa using hb
  subst e
  exact ⟨_,st,fun v z=>by
   have z':Data.fields _=Data.cell v:=z
   cases z'⟩
 keep:=fun i h h' st k=>k it (by simp) _ st
 item:=by
  intro X hP hw hK hc i pins s σ H E I hf st hg
  subst hP hw hK
  obtain ⟨f0,f1,f2,f3,f4,f5⟩:=hf it (by simp)
  have W:=Walks.range (prog:=X.prog) (w:=X.w) (I.ok.hd hc) it lo 1 n
  refine W.item i s _ _ hg st fun v h' tk hv st' kk=>?_
  obtain ⟨t,rfl⟩:=hv
  have I1:Inv X pins σ H { s with heap:=h',toks:=tk }:=I.turned (fun b o hb e=>kk b o (by simpa using hb) e) f0 f1 f3 f4 f5
  refine ⟨_,rfl,go_of (s:={ s with heap:=h',toks:=tk }) (n:="range_iterator") st' rfl rfl (by decide) ⟨.int (lo+i),H,I1,⟨t,?_⟩,⟨rfl,rfl⟩,st',fun b hb=>(hf b hb).1⟩⟩
  rw [Int.mul_one]
 done:=by
  intro X hP hw hK hc i pins s σ H E I hf st hg
  subst hP hw hK
  obtain ⟨f0,f1,f2,f3,f4,f5⟩:=hf it (by simp)
  exact wpAny_pyNext_range_end (I.ok.hd hc) st (by have:n≤i:=hg;lia) fun h' eb=>⟨rfl,I.turned (t':=s.toks) (fun b o hb e=>eb b o hb e) f0 f1 f3 f4 f5⟩
 self:=fun _ _ _ _ _ st h=>wpAny_pyIter_rangeiter st h
section
variable {X:Cx} {tg:Expr}
noncomputable def iList (K:PySem.W.Frag) (tl:TE):TI:=fun σ H R=>tl σ H fun x H1=>∃ a,x=.ref a/\(∃ xs,SqL K H1 a xs)/\R (Itl K a) H1
noncomputable def iTup (K:PySem.W.Frag) (tl:TE):TI:=fun σ H R=>tl σ H fun x H1=>∃ a,x=.ref a/\(∃ xs,SqT K H1 a xs)/\R (Itt K a) H1
theorem pi_list {l:Expr} {tl:TE} (hl:PE X l tl):PI X tg l (iList X.K tl):=by
 intro pins s σ H R I h
 refine thn (hl pins s σ H _ I h) fun v s1 ⟨x,H1,I1,r1,q1⟩=>?_
 obtain ⟨a,e,⟨xs,hq⟩,q⟩:=q1
 subst e
 cases r1
 obtain ⟨its,rv,p,hz⟩:=I1.list hq
 refine wpAny_pyIter_list p.isList ?_
 refine ⟨s1.heap.objs.size,[s1.heap.objs.size],_,_,H1,rfl,I1.kept (t':=s1.toks) fun b o e=>Heap.get?_push_of_some _ e,turn_list a _,⟨_,Heap.get?_push_size _ rfl,rfl,rfl⟩,fun b hb=>?_,q⟩
 have e:b=s1.heap.objs.size:=by simpa using hb
 subst e
 exact I1.fpOk (Nat.le_refl _) (I1.hok.fresh (Nat.le_refl _))
theorem pi_tup {l:Expr} {tl:TE} (hl:PE X l tl):PI X tg l (iTup X.K tl):=by
 intro pins s σ H R I h
 refine thn (hl pins s σ H _ I h) fun v s1 ⟨x,H1,I1,r1,q1⟩=>?_
 obtain ⟨a,e,⟨xs,hq⟩,q⟩:=q1
 subst e
 cases r1
 obtain ⟨its,rv,p,hz⟩:=I1.tuple hq
 refine wpAny_pyIter_tuple (show s1.heap.IsTuple a its.toArray from p) ?_
 refine ⟨s1.heap.objs.size,[s1.heap.objs.size],_,_,H1,rfl,I1.kept (t':=s1.toks) fun b o e=>Heap.get?_push_of_some _ e,turn_tuple a _,⟨_,Heap.get?_push_size _ rfl,rfl,rfl⟩,fun b hb=>?_,q⟩
 have e:b=s1.heap.objs.size:=by simpa using hb
 subst e
 exact I1.fpOk (Nat.le_refl _) (I1.hok.fresh (Nat.le_refl _))
theorem range_it {pins:List (Addr×Obj)} {σ:St} {H:Hp} {s:Shared} {R:It->Hp->Prop} {E:Value->Shared->Prop} {lo hi:Int} {t u v:Tok} {tk:Nat} (I:Inv X pins σ H s) (h1:-(2 ^ 62)≤lo) (h2:lo < 2 ^ 62) (h3:-(2 ^ 62)≤hi) (h4:hi < 2 ^ 62)
  (q:R (Itr lo (hi - lo).toNat) H):wpAny (model X.prog X.w) X.A (pyIter (.ref s.heap.objs.size)) (PIE X pins σ tg R) E { s with heap:=s.heap.push { cls:=.type "range",data:=.fields #[.int lo t,.int hi u,.int 1 v] },toks:=tk }:=by
 refine wpAny_pyIter_range (IsRange.new ..) (small_one h1 h2 h3 h4) ?_
 have I1:Inv X pins σ H { s with heap:=s.heap.push { cls:=.type "range",data:=.fields #[.int lo t,.int hi u,.int 1 v] },toks:=tk }:=I.kept fun b o e=>Heap.get?_push_of_some _ e
 refine ⟨(s.heap.push { cls:=.type "range",data:=.fields #[.int lo t,.int hi u,.int 1 v] }).objs.size,[(s.heap.push { cls:=.type "range",data:=.fields #[.int lo t,.int hi u,.int 1 v] }).objs.size],_,_,H,rfl,
  I1.kept (t':=tk) fun b o e=>Heap.get?_push_of_some _ e,turn_range _ lo (hi - lo).toNat,?_,fun b hb=>?_,q⟩
 ·have e1:lo+((0:Nat):Int) * 1=lo:=by simp
  have e2:(((hi - lo).toNat:Nat):Int) - ((0:Nat):Int)=Builtin.Range.rangeSize lo hi 1:=by rw [rangeSize_one];split <;> lia
  show IsRangeIter _ _ (lo+((0:Nat):Int) * 1) ((((hi - lo).toNat:Nat):Int) - ((0:Nat):Int)) 1
  rw [e1,e2]
  exact Heap.get?_push_size _ rfl
 ·have e:b=(s.heap.push { cls:=.type "range",data:=.fields #[.int lo t,.int hi u,.int 1 v] }).objs.size:=by simpa using hb
  subst e
  exact I1.fpOk (Nat.le_refl _) (I1.hok.fresh (Nat.le_refl _))
noncomputable def iRng1 (ta:TA):TI:=fun σ H R=>ta σ H fun vs H1=>∃ j:Int,vs=[.int j]/\-(2 ^ 62)≤j/\j < 2 ^ 62/\R (Itr 0 j.toNat) H1
noncomputable def iRng2 (ta:TA):TI:=fun σ H R=>ta σ H fun vs H1=>∃ i j:Int,vs=[.int i,.int j]/\(-(2 ^ 62)≤i/\i < 2 ^ 62/\-(2 ^ 62)≤j/\j < 2 ^ 62)/\R (Itr i (j - i).toNat) H1
theorem pi_range1 {a:Expr} {ta:TA} {p pos:Pos} (hg:Gl X "range") (hm:X.mg "range"=none) (ha:PA X [a] ta) (hs:starEach [a] X.env=[(false,eval a X.env)]:=by rfl):PI X tg (.Call (.Name "range" p) [a] [] pos) (iRng1 ta):=by
 intro pins s σ H R I h
 refine Call_ (ld_blt I hg hm boot_range (PyProof.Rows.callWith_type1 (thn (ha pos pins s σ H _ I h) fun us s1 ⟨vs,H1,I1,r1,q1⟩=>?_) hs rfl))
 obtain ⟨j,e,q1,q2,q⟩:=q1
 subst e
 cases r1 with
 | cons r rr =>
  cases rr
  obtain ⟨t,rfl⟩:=r
  exact call_range_1 (range_it I1 (by lia) (by lia) q1 q2 (by simpa using q))
theorem pi_range2 {a b:Expr} {ta:TA} {p pos:Pos} (hg:Gl X "range") (hm:X.mg "range"=none) (ha:PA X [a,b] ta) (hs:starEach [a,b] X.env=[(false,eval a X.env),(false,eval b X.env)]:=by rfl) (hs2:starEach [b] X.env=[(false,eval b X.env)]:=by rfl) :
  PI X tg (.Call (.Name "range" p) [a,b] [] pos) (iRng2 ta):=by
 intro pins s σ H R I h
 refine Call_ (ld_blt I hg hm boot_range (PyProof.Rows.callWith_type1 (thn (ha pos pins s σ H _ I h) fun us s1 ⟨vs,H1,I1,r1,q1⟩=>?_) (by rw [hs,hs2]) (by rw [hs2];rfl)))
 obtain ⟨i,j,e,⟨q1,q2,q3,q4⟩,q⟩:=q1
 subst e
 cases r1 with
 | cons r rr =>
  cases rr with
  | cons r' rr =>
   cases rr
   obtain ⟨t,rfl⟩:=r
   obtain ⟨t',rfl⟩:=r'
   exact call_range_2 (range_it I1 q1 q2 q3 q4 q)
noncomputable def tFor (wi:TI) (g:TG) (tb:TS):TS:=fun D σ H=>wi σ H fun J H1=>∃ W:Nat->Nat->St->Hp->Prop,(∃ m,W 0 m σ H1)/\∀ i m σ H,W i m σ H ->
 (J.stop i H/\D.nx σ H)\/(J.go i H/\∃ N:St->Hp->Prop,(∀ σ' H',N σ' H'->∃ m',m' < m/\W (i+1) m' σ' H')/\∀ x H',J.yld i H x H'->g x σ H' fun σ2 H2=>tb { D with nx:=N,ct:=N,bk:=D.nx } σ2 H2)
noncomputable def pinsAt (fp:List Addr) (h:Heap):List (Addr×Obj):=fp.filterMap fun b=>(h.get? b).map fun o=>(b,o)
theorem mem_pinsAt {fp:List Addr} {h:Heap} {b:Addr} {o:Obj} (hb:b∈fp) (e:h.get? b=some o):(b,o)∈pinsAt fp h:=List.mem_filterMap.mpr ⟨b,hb,by rw [e];rfl⟩
theorem of_pinsAt {fp:List Addr} {h:Heap} {p:Addr×Obj} (hp:p∈pinsAt fp h):p.1∈fp/\h.get? p.1=some p.2:=by
 obtain ⟨b,hb,e⟩:=List.mem_filterMap.mp hp
 cases q:h.get? b with
 | none=>rw [q] at e;cases e
 | some o =>
  rw [q] at e
  have e':(b,o)=p:=Option.some.inj e
  subst e'
  exact ⟨hb,q⟩
theorem Inv.pinned {pins:List (Addr×Obj)} {σ:St} {H:Hp} {s:Shared} {fp:List Addr} (I:Inv X pins σ H s) (hf:∀ b∈fp,FpOk X pins H b) (ho:∀ b∈fp,∃ o,s.heap.get? b=some o/\∀ v,o.data≠.cell v):Inv X (pins ++ pinsAt fp s.heap) σ H s :=
 I.pins_of fun p hp=>(List.mem_append.mp hp).elim (fun z=>I.pin p (List.mem_append_right _ z)) fun z=>by
  obtain ⟨hb,e⟩:=of_pinsAt z
  obtain ⟨f0,f1,f2,_⟩:=hf p.1 hb
  obtain ⟨o,e',d⟩:=ho p.1 hb
  rw [e] at e';cases e'
  exact ⟨e,f0,f1,f2,d⟩
theorem Inv.unpinned {pins pl:List (Addr×Obj)} {σ:St} {H:Hp} {s:Shared} (I:Inv X (pins ++ pl) σ H s):Inv X pins σ H s:=I.pins_of fun p hp=>I.pin p (List.mem_append_right _ (List.mem_append_left _ hp))
theorem ps_for {iter:Expr} {body:List Stmt} {wi:TI} {g:TG} {tb:TS} {pos:Pos} (hp:PassesOwn (model X.prog X.w) X.A X.env X.xe) (hc:X.calm=true) (hi:PI X tg iter wi) (hg:PG X tg g) (hb:PSs X body tb)
  (hs:∀ x,foldedSetIterable iter X.env x=pure x:=by intro _;rfl):PS X (.For tg iter body [] pos) (tFor wi g tb):=by
 intro pins s σ H D I h
 refine wpAny_For (thn (hi pins s σ H _ I h) fun v s1 h1=>thn h1 fun itv s2 h2=>?_) hs
 obtain ⟨it,fp,tn,J,H2,e,I2,T,st2,f2,W,⟨m0,w0⟩,turn⟩:=h2
 subst e
 have stat:∀ {H':Hp},(∀ b∈fp,H' b=none)->∀ b∈fp,FpOk X pins H' b:=fun hn b hb=>⟨hn b hb,(f2 b hb).2⟩
 refine codeAny_forLoop_any (fun n s'=>∃ i σ' H',Inv X pins σ' H' s'/\tn i s'.heap/\(∀ b∈fp,H' b=none)/\W i n σ' H') ?_ m0 ⟨0,σ,H2,I2,st2,fun b hb=>(f2 b hb).1,w0⟩
 rintro n s3 ⟨i,σ3,H3,I3,st3,fr3,w3⟩
 rcases turn i n σ3 H3 w3 with ⟨stop,qn⟩ | ⟨go,N,hN,step⟩
 ·refine wpAny_passesOwn hp (thn (T.done X rfl rfl rfl hc i pins s3 σ3 H3 X.xe I3 (stat fr3) st3 stop) fun r s4 ⟨hr,I4⟩=>?_)
  subst hr
  exact wpAny_execs_nil ⟨σ3,H3,I4,qn⟩
 ·refine wpAny_passesOwn hp (thn (T.item X rfl rfl rfl hc i pins s3 σ3 H3 X.xe I3 (stat fr3) st3 go) fun r s4 ⟨u,hr,h4⟩=>?_)
  subst hr
  refine wpAny_passesOwn hp (thn h4 fun _ s5 ⟨x,H5,I5,r5,y5,st5,fr5⟩=>?_)
  have I5':=I5.pinned (stat fr5) (T.obj _ _ st5)
  refine wpAny_passesOwn hp (thn (hg _ s5 σ3 H5 x u _ I5' r5 (step x H5 y5)) fun _ s6 ⟨σ6,H6,I6,q6⟩=>?_)
  refine wpAny_passesOwn hp (thn (hb _ s6 σ6 H6 _ I6 q6) fun f s7 q7=>?_)
  have again:∀ {σ7:St} {H7:Hp},Inv X (pins ++ pinsAt fp s5.heap) σ7 H7 s7->N σ7 H7->∃ m,m < n/\∃ i σ' H',Inv X pins σ' H' s7/\tn i s7.heap/\(∀ b∈fp,H' b=none)/\W i m σ' H':=fun {σ7 H7} I7 n7=>by
   obtain ⟨m',hm,w7⟩:=hN σ7 H7 n7
   refine ⟨m',hm,i+1,σ7,H7,I7.unpinned,T.keep _ _ _ st5 fun b hb o e=>(I7.pin (b,o) (List.mem_append_right _ (List.mem_append_right _ (mem_pinsAt hb e)))).1,fun b hb=>?_,w7⟩
   obtain ⟨o,e,d⟩:=T.obj _ _ st5 b hb
   exact (I7.pin (b,o) (List.mem_append_right _ (List.mem_append_right _ (mem_pinsAt hb e)))).2.1
  cases f with
  | next=>obtain ⟨σ7,H7,I7,n7⟩:=q7;exact again I7 n7
  | cont=>obtain ⟨σ7,H7,I7,n7⟩:=q7;exact again I7 n7
  | brk=>obtain ⟨σ7,H7,I7,q7⟩:=q7;exact ⟨σ7,H7,I7.unpinned,q7⟩
  | ret v=>obtain ⟨x7,σ7,H7,I7,r7,q7⟩:=q7;exact ⟨x7,σ7,H7,I7.unpinned,r7,q7⟩
end
noncomputable abbrev R2:=V->V->Hp->VK->Prop
noncomputable def OpR (X:Cx) (f:Value->Value->Sem Value) (r:R2):Prop :=
 ∀ (pins:List (Addr×Obj)) (s:Shared) (σ:St) (H:Hp) (x y:V) (v u:Value) (Q:VK),Inv X pins σ H s->RelV x v->RelV y u->r x y H Q ->
  wpAny (model X.prog X.w) X.A (f v u) (EP X pins σ Q) X.xe s
noncomputable def UnR (X:Cx) (f:Value->Sem Value) (r:V->Hp->VK->Prop):Prop :=
 ∀ (pins:List (Addr×Obj)) (s:Shared) (σ:St) (H:Hp) (x:V) (v:Value) (Q:VK),Inv X pins σ H s->RelV x v->r x H Q ->
  wpAny (model X.prog X.w) X.A (f v) (EP X pins σ Q) X.xe s
noncomputable def CallR (X:Cx) (f:Value) (r:List V->Hp->VK->Prop):Prop :=
 ∀ (pins:List (Addr×Obj)) (s:Shared) (σ:St) (H:Hp) (xs:List V) (us:List Value) (Q:VK),Inv X pins σ H s->Vals xs us->r xs H Q ->
  wpAny (model X.prog X.w) X.A (call f us) (EP X pins σ Q) X.xe s
noncomputable def tOp (r:R2) (ta tb:TE):TE:=fun σ H Q=>ta σ H fun x H1=>tb σ H1 fun y H2=>r x y H2 Q
noncomputable def tUn (r:V->Hp->VK->Prop) (ta:TE):TE:=fun σ H Q=>ta σ H fun x H1=>r x H1 Q
noncomputable def rI (C:Int->Int->Prop) (g:Int->Int->V):R2:=fun x y H Q=>∃ i j,x=.int i/\y=.int j/\C i j/\Q (g i j) H
noncomputable def rI0 (g:Int->Int->V):R2:=fun x y H Q=>∃ i j,x=.int i/\y=.int j/\Q (g i j) H
noncomputable def rU (g:Int->V):V->Hp->VK->Prop:=fun x H Q=>∃ i,x=.int i/\Q (g i) H
section
variable {X:Cx} {a b c:Expr} {ta tb tc:TE} {pos:Pos}
theorem binT (ha:PE X a ta) (hb:PE X b tb) {pins:List (Addr×Obj)} {s:Shared} {σ:St} {H:Hp} {R:V->V->Hp->Prop} (I:Inv X pins σ H s)
  (h:ta σ H fun x H1=>tb σ H1 fun y H2=>R x y H2) {Q:Value->Shared->Prop} {f:Value->Value->Sem Value}
  (hf:∀ v u s2 x y H2,Inv X pins σ H2 s2->RelV x v->RelV y u->R x y H2->wpAny (model X.prog X.w) X.A (f v u) Q X.xe s2) :
  wpAny (model X.prog X.w) X.A (eval a X.env) (fun v s₁=>wpAny (model X.prog X.w) X.A (eval b X.env) (fun u s₂=>wpAny (model X.prog X.w) X.A (f v u) Q X.xe s₂) X.xe s₁) X.xe s:=by
 refine thn (ha pins s σ H _ I h) fun v s1 ⟨x,H1,I1,r1,q1⟩=>?_
 refine thn (hb pins s1 σ H1 _ I1 q1) fun u s2 ⟨y,H2,I2,r2,q2⟩=>?_
 exact hf v u s2 x y H2 I2 r1 r2 q2
theorem pe_op {op:Operator} {r:R2} (ho:OpR X (binaryOp op) r) (ha:PE X a ta) (hb:PE X b tb):PE X (.BinOp a op b pos) (tOp r ta tb):=by
 intro pins s σ H Q I h
 exact wpAny_BinOp (binT ha hb I h fun v u s2 x y H2 I2 rx ry q=>ho pins s2 σ H2 x y v u Q I2 rx ry q)
theorem pe_un {op:UnaryOp} {r:V->Hp->VK->Prop} (ho:UnR X (unaryOp op) r) (ha:PE X a ta):PE X (.UnaryOp op a pos) (tUn r ta):=by
 intro pins s σ H Q I h
 exact UnaryOp_ (thn (ha pins s σ H _ I h) fun v s1 ⟨x,H1,I1,r1,q1⟩=>ho pins s1 σ H1 x v Q I1 r1 q1)
theorem opI {f:Value->Value->Sem Value} {C:Int->Int->Prop} {g:Int->Int->Int}
  (rule:∀ (i j:Int) (t u:Tok) (s:Shared) (Q:Value->Shared->Prop) (E:Value->Shared->Prop),C i j->Q (.int (g i j) s.toks) { s with toks:=s.toks+1 }->wpAny (model X.prog X.w) X.A (f (.int i t) (.int j u)) Q E s) :
  OpR X f (rI C fun i j=>.int (g i j)):=by
 intro pins s σ H x y v u Q I rx ry h
 obtain ⟨i,j,rfl,rfl,hc,q⟩:=h
 obtain ⟨t,rfl⟩:=rx
 obtain ⟨t',rfl⟩:=ry
 exact rule i j t t' s _ _ hc ⟨.int (g i j),H,I.tok _,⟨_,rfl⟩,q⟩
theorem opI0 {f:Value->Value->Sem Value} {g:Int->Int->Int}
  (rule:∀ (i j:Int) (t u:Tok) (s:Shared) (Q:Value->Shared->Prop) (E:Value->Shared->Prop),Q (.int (g i j) s.toks) { s with toks:=s.toks+1 }->wpAny (model X.prog X.w) X.A (f (.int i t) (.int j u)) Q E s) :
  OpR X f (rI0 fun i j=>.int (g i j)):=by
 intro pins s σ H x y v u Q I rx ry h
 obtain ⟨i,j,rfl,rfl,q⟩:=h
 obtain ⟨t,rfl⟩:=rx
 obtain ⟨t',rfl⟩:=ry
 exact rule i j t t' s _ _ ⟨.int (g i j),H,I.tok _,⟨_,rfl⟩,q⟩
theorem opB0 {f:Value->Value->Sem Value} {g:Int->Int->Bool}
  (rule:∀ (i j:Int) (t u:Tok) (s:Shared) (Q:Value->Shared->Prop) (E:Value->Shared->Prop),Q (.bool (g i j)) s->wpAny (model X.prog X.w) X.A (f (.int i t) (.int j u)) Q E s) :
  OpR X f (rI0 fun i j=>.bl (g i j)):=by
 intro pins s σ H x y v u Q I rx ry h
 obtain ⟨i,j,rfl,rfl,q⟩:=h
 obtain ⟨t,rfl⟩:=rx
 obtain ⟨t',rfl⟩:=ry
 exact rule i j t t' s _ _ ⟨.bl (g i j),H,I,rfl,q⟩
noncomputable def CDiv (i j:Int):Prop:=0 < j/\j < 1073741824
noncomputable def CMul (i j:Int):Prop:=(-(2 ^ 64) < i/\i < 2 ^ 64)\/(-(2 ^ 64) < j/\j < 2 ^ 64)
theorem CMul.ok {i j:Int} (h:CMul i j):IntMulOk i j:=by
 rcases h with ⟨h1,h2⟩ | ⟨h1,h2⟩
 ·exact .of_left (intBits_le_64 h1 h2)
 ·exact .of_right (intBits_le_64 h1 h2)
theorem op_add:OpR X (binaryOp .Add) (rI0 fun i j=>.int (i+j)):=opI0 fun _ _ _ _ _ _ _ q=>add_int q
theorem op_sub:OpR X (binaryOp .Sub) (rI0 fun i j=>.int (i - j)):=opI0 fun _ _ _ _ _ _ _ q=>sub_int q
theorem op_mul:OpR X (binaryOp .Mult) (rI CMul fun i j=>.int (i * j)):=opI fun _ _ _ _ _ _ _ hc q=>mul_int q hc.ok
theorem op_fdiv:OpR X (binaryOp .FloorDiv) (rI CDiv fun i j=>.int (i / j)):=opI fun i j _ _ _ _ _ hc q=>by
 have h1:(0:Int) < j:=hc.1
 have h2:j < 1073741824:=hc.2
 exact floordiv_int (by lia) (by rw [Int.fdiv_eq_ediv_of_nonneg i (by lia)];exact q) (.inl (PyProof.noPylong_small (by omega)))
theorem op_mod:OpR X (binaryOp .Mod) (rI (fun _ j=>0 < j) fun i j=>.int (i % j)):=opI fun i j _ _ _ _ _ hc q=>by
 have h1:(0:Int) < j:=hc
 exact mod_int' (by lia) (by rw [Int.fmod_eq_emod_of_nonneg i (by lia)];exact q)
theorem unI {f:Value->Sem Value} {g:Int->Int}
  (rule:∀ (i:Int) (t:Tok) (s:Shared) (Q:Value->Shared->Prop) (E:Value->Shared->Prop),Q (.int (g i) s.toks) { s with toks:=s.toks+1 }->wpAny (model X.prog X.w) X.A (f (.int i t)) Q E s) :
  UnR X f (rU fun i=>.int (g i)):=by
 intro pins s σ H x v Q I rx h
 obtain ⟨i,rfl,q⟩:=h
 obtain ⟨t,rfl⟩:=rx
 exact rule i t s _ _ ⟨.int (g i),H,I.tok _,⟨_,rfl⟩,q⟩
theorem un_neg:UnR X (unaryOp .USub) (rU fun i=>.int (-i)):=unI fun _ _ _ _ _ q=>neg_int q
end
noncomputable def scal:V->V->Bool
 | .non,.non=>true | .non,.int _=>true | .int _,.non=>true | .non,.bl _=>true | .bl _,.non=>true | .non,.str _=>true | .str _,.non=>true
 | .int _,.int _=>true | .bl _,.bl _=>true | .str _,.str _=>true | .byt _,.byt _=>true
 | .int _,.str _=>true | .str _,.int _=>true | .bl _,.str _=>true | .str _,.bl _=>true
 | _,_=>false
noncomputable def rEq:R2:=fun x y H Q=>scal x y=true/\Q (.bl (decide (x=y))) H
noncomputable def rNe:R2:=fun x y H Q=>scal x y=true/\Q (.bl (!decide (x=y))) H
theorem dec_int {i j:Int}:decide (V.int i=V.int j)=(i==j):=by
 rw [Bool.eq_iff_iff]
 simp
theorem dec_bl {i j:Bool}:decide (V.bl i=V.bl j)=(i==j):=by
 rw [Bool.eq_iff_iff]
 simp
theorem dec_str {i j:Str}:decide (V.str i=V.str j)=(i==j):=by
 rw [Bool.eq_iff_iff]
 simp
theorem dec_byt {i j:Array UInt8}:decide (V.byt i=V.byt j)=(i.toList==j.toList):=by
 rw [Bool.eq_iff_iff]
 cases i
 cases j
 simp
section
variable {X:Cx} {a b c:Expr} {ta tb tc:TE} {pos:Pos}
theorem fin_bl {pins:List (Addr×Obj)} {σ:St} {H:Hp} {s:Shared} {Q:VK} {k k':Bool} (I:Inv X pins σ H s) (q:Q (.bl k) H) (e:k=k'):EP X pins σ Q (.bool k') s:=by
 subst e
 exact ⟨.bl k,H,I,rfl,q⟩
theorem op_eq:OpR X (compareOp .Eq) rEq:=by
 intro pins s σ H x y v u Q I rx ry h
 obtain ⟨hs,q⟩:=h
 cases x with
 | non =>
  cases rx
  cases y with
  | non=>cases ry;exact PySem.EqNone.eq_none_none (fin_bl I q (by simp))
  | bl j=>cases ry;exact PySem.EqNone.eq_none_bool (fin_bl I q (by simp))
  | int j=>obtain ⟨t',rfl⟩:=ry;exact PySem.EqNone.eq_none_int (fin_bl I q (by simp))
  | str j=>obtain ⟨t',rfl⟩:=ry;exact PySem.EqNone.eq_none_str (fin_bl I q (by simp))
  | _=>exact absurd (show false=true from hs) Bool.false_ne_true
 | bl i =>
  cases rx
  cases y with
  | non=>cases ry;exact PySem.EqNone.eq_bool_none (fin_bl I q (by simp))
  | bl j=>cases ry;exact eq_bool (fin_bl I q dec_bl)
  | str j=>obtain ⟨t',rfl⟩:=ry;exact PySem.EqMixed.eq_bool_str (fin_bl I q (by simp))
  | _=>exact absurd (show false=true from hs) Bool.false_ne_true
 | int i =>
  obtain ⟨t,rfl⟩:=rx
  cases y with
  | non=>cases ry;exact PySem.EqNone.eq_int_none (fin_bl I q (by simp))
  | int j=>obtain ⟨t',rfl⟩:=ry;exact eq_int (fin_bl I q dec_int)
  | str j=>obtain ⟨t',rfl⟩:=ry;exact PySem.EqMixed.eq_int_str (fin_bl I q (by simp))
  | _=>exact absurd (show false=true from hs) Bool.false_ne_true
 | str i =>
  obtain ⟨t,rfl⟩:=rx
  cases y with
  | non=>cases ry;exact PySem.EqNone.eq_str_none (fin_bl I q (by simp))
  | bl j=>cases ry;exact PySem.EqMixed.eq_str_bool (fin_bl I q (by simp))
  | int j=>obtain ⟨t',rfl⟩:=ry;exact PySem.EqMixed.eq_str_int (fin_bl I q (by simp))
  | str j=>obtain ⟨t',rfl⟩:=ry;exact eq_str (fin_bl I q dec_str)
  | _=>exact absurd (show false=true from hs) Bool.false_ne_true
 | byt i =>
  obtain ⟨t,rfl⟩:=rx
  cases y with
  | byt j=>obtain ⟨t',rfl⟩:=ry;exact PySem.W.eq_bytes (fin_bl I q dec_byt)
  | _=>exact absurd (show false=true from hs) Bool.false_ne_true
 | _=>cases y <;> exact absurd (show false=true from hs) Bool.false_ne_true
theorem op_ne:OpR X (compareOp .NotEq) rNe:=by
 intro pins s σ H x y v u Q I rx ry h
 obtain ⟨hs,q⟩:=h
 cases x with
 | non =>
  cases rx
  cases y with
  | non=>cases ry;exact PySem.EqNone.ne_none_none (fin_bl I q (by simp))
  | bl j=>cases ry;exact PySem.EqNone.ne_none_bool (fin_bl I q (by simp))
  | int j=>obtain ⟨t',rfl⟩:=ry;exact PySem.EqNone.ne_none_int (fin_bl I q (by simp))
  | str j=>obtain ⟨t',rfl⟩:=ry;exact PySem.EqNone.ne_none_str (fin_bl I q (by simp))
  | _=>exact absurd (show false=true from hs) Bool.false_ne_true
 | bl i =>
  cases rx
  cases y with
  | non=>cases ry;exact PySem.EqNone.ne_bool_none (fin_bl I q (by simp))
  | bl j=>cases ry;exact ne_bool (fin_bl I q (congrArg not dec_bl))
  | str j=>obtain ⟨t',rfl⟩:=ry;exact PySem.EqMixed.ne_bool_str (fin_bl I q (by simp))
  | _=>exact absurd (show false=true from hs) Bool.false_ne_true
 | int i =>
  obtain ⟨t,rfl⟩:=rx
  cases y with
  | non=>cases ry;exact PySem.EqNone.ne_int_none (fin_bl I q (by simp))
  | int j=>obtain ⟨t',rfl⟩:=ry;exact ne_int (fin_bl I q (congrArg not dec_int))
  | str j=>obtain ⟨t',rfl⟩:=ry;exact PySem.EqMixed.ne_int_str (fin_bl I q (by simp))
  | _=>exact absurd (show false=true from hs) Bool.false_ne_true
 | str i =>
  obtain ⟨t,rfl⟩:=rx
  cases y with
  | non=>cases ry;exact PySem.EqNone.ne_str_none (fin_bl I q (by simp))
  | bl j=>cases ry;exact PySem.EqMixed.ne_str_bool (fin_bl I q (by simp))
  | int j=>obtain ⟨t',rfl⟩:=ry;exact PySem.EqMixed.ne_str_int (fin_bl I q (by simp))
  | str j=>obtain ⟨t',rfl⟩:=ry;exact ne_str (fin_bl I q (congrArg not dec_str))
  | _=>exact absurd (show false=true from hs) Bool.false_ne_true
 | byt i =>
  obtain ⟨t,rfl⟩:=rx
  cases y with
  | byt j=>obtain ⟨t',rfl⟩:=ry;exact PySem.W.ne_bytes (fin_bl I q (congrArg not dec_byt))
  | _=>exact absurd (show false=true from hs) Bool.false_ne_true
 | _=>cases y <;> exact absurd (show false=true from hs) Bool.false_ne_true
theorem op_lt:OpR X (compareOp .Lt) (rI0 fun i j=>.bl (decide (i < j))):=opB0 fun _ _ _ _ _ _ _ q=>lt_int q
theorem op_le:OpR X (compareOp .LtE) (rI0 fun i j=>.bl (decide (i≤j))):=opB0 fun _ _ _ _ _ _ _ q=>le_int q
theorem op_gt:OpR X (compareOp .Gt) (rI0 fun i j=>.bl (decide (j < i))):=opB0 fun _ _ _ _ _ _ _ q=>gt_int q
theorem op_notN:OpR X (compareOp .IsNot) (fun x y H Q=>y=.non/\Q (.bl (!decide (x=.non))) H):=by
 intro pins s σ H x y v u Q I rx ry h
 obtain ⟨rfl,q⟩:=h
 cases ry
 refine isnot_none_gen (fin_bl I q ?_)
 cases x <;> first
  | (cases rx;rfl)
  | (obtain ⟨t,rfl⟩:=rx;rfl)
theorem nomark (b:Expr) {op:CmpOp} (h:op≠.In:=by decide) (h2:op≠.NotIn:=by decide):behindInMarks op b=false:=by
 have e1:(op==CmpOp.In)=false:=by cases op <;> first | rfl | exact absurd rfl h
 have e2:(op==CmpOp.NotIn)=false:=by cases op <;> first | rfl | exact absurd rfl h2
 cases b <;> simp [behindInMarks,e1,e2]
noncomputable def tTest (t:TE):TT:=fun σ H Q=>t σ H fun x H'=>∃ k,x=.bl k/\Q k H'
theorem pt_cmpR {op:CmpOp} {r:R2} (ho:OpR X (compareOp op) r) (ha:PE X a ta) (hb:PE X b tb) (hm:behindInMarks op b=false):PT X (.Compare a [op] [b] pos) (tTest (tOp r ta tb)):=by
 intro pins s σ H Q I h
 refine wpAny_isTrue_Compare1 (thn (ha pins s σ H _ I h) fun v s1 ⟨x,H1,I1,r1,q1⟩=>thn (hb pins s1 σ H1 _ I1 q1) fun u s2 ⟨y,H2,I2,r2,q2⟩ =>
  thn (ho pins s2 σ H2 x y v u _ I2 r1 r2 q2) fun c s3 ⟨z,H3,I3,r3,k,e,q3⟩=>?_) hm
 subst e
 cases r3
 exact wpAny_truthy_bool ⟨H3,I3,q3⟩
noncomputable def tChain (r r':R2) (ta tb tc:TE):TE:=fun σ H Q=>ta σ H fun x H1=>tb σ H1 fun y H2=>r x y H2 fun z H3=>∃ k,z=.bl k /\
 (if k=true then tc σ H3 fun w' H4=>r' y w' H4 Q else Q (.bl false) H3)
theorem pe_chain {op op':CmpOp} {r r':R2} (ho:OpR X (compareOp op) r) (ho':OpR X (compareOp op') r') (ha:PE X a ta) (hb:PE X b tb) (hc:PE X c tc)
  (hm:lastMarks [op,op'] [b,c]=false:=by with_unfolding_all rfl):PE X (.Compare a [op,op'] [b,c] pos) (tChain r r' ta tb tc):=by
 intro pins s σ H Q I h
 refine Compare_chain (thn (ha pins s σ H _ I h) fun v s1 ⟨x,H1,I1,r1,q1⟩=>chain_link (thn (hb pins s1 σ H1 _ I1 q1) fun u s2 ⟨y,H2,I2,r2,q2⟩ =>
  thn (ho pins s2 σ H2 x y v u _ I2 r1 r2 q2) fun d s3 ⟨z,H3,I3,r3,k,e,q3⟩=>?_)) hm
 subst e
 cases r3
 refine wpAny_truthy_bool ?_
 cases k with
 | false=>exact ite_ff ⟨.bl false,H3,I3,rfl,q3⟩
 | true=>exact ite_tt (chain_last (thn (hc pins s3 σ H3 _ I3 q3) fun w' s4 ⟨z',H4,I4,r4,q4⟩=>ho' pins s4 σ H4 y z' u w' Q I4 r2 r4 q4))
theorem line63:(sizeLine:Nat) < 2 ^ 63:=by rw [sizeLine_eq];decide
theorem vals1 {x:V} {us:List Value} (r:Vals [x] us):∃ u,us=[u]/\RelV x u:=by
 cases r with
 | cons r1 r2=>cases r2;exact ⟨_,rfl,r1⟩
theorem vals2 {x y:V} {us:List Value} (r:Vals [x,y] us):∃ u w',us=[u,w']/\RelV x u/\RelV y w':=by
 cases r with
 | cons r1 r2 =>
  cases r2 with
  | cons r3 r4=>cases r4;exact ⟨_,_,rfl,r1,r3⟩
theorem call_min2 (hc:X.calm=true):CallR X (.builtin "min") (fun xs H Q=>∃ i j,xs=[.int i,.int j]/\Q (.int (if j < i then j else i)) H):=by
 intro pins s σ H xs us Q I r h
 obtain ⟨i,j,rfl,q⟩:=h
 obtain ⟨u,w',rfl,⟨t,rfl⟩,⟨t',rfl⟩⟩:=vals2 r
 refine min_two_ints (I.ok.hd hc) fun h' tk k=>⟨_,H,I.kept k,?_,q⟩
 by_cases hj:j < i
 ·rw [if_pos hj,if_pos hj];exact ⟨_,rfl⟩
 ·rw [if_neg hj,if_neg hj];exact ⟨_,rfl⟩
end
structure ObjM (h:Heap) (x dx C:Addr) (mA:Str->Option Value):Prop where
 obj:h.get? x=some (PySem.W.instObj C dx)
 ns:h.Ns1 dx mA
 ne:dx≠x
theorem lookIn_ns {h:Heap} {dx:Addr} {mA:Str->Option Value} (n:h.Ns1 dx mA):∃ od,h.get? dx=some od/\∀ name,PySem.W.lookIn name od=some (mA name):=by
 obtain ⟨o,es,ep,ho,hd,hk,_,hm⟩:=n
 refine ⟨o,ho,fun name=>?_⟩
 have e:=hm name
 unfold nsFind findBy at e
 rw [←Array.find?_toList] at e
 unfold PySem.W.lookIn
 rw [hd]
 dsimp only
 split
 ·rename_i y q
  rw [q] at e
  exact congrArg some e
 ·rename_i q
  rw [q] at e
  have a:es.toList.any (·.refKey)=false:=by
   rw [List.any_eq_false]
   intro y hy
   obtain ⟨z,t,hkey⟩:=hk y (Array.mem_toList_iff.mp hy)
   simp [DictEntry.refKey,hkey]
  have a':¬ es.toList.any (·.refKey)=true:=by rw [a];exact Bool.false_ne_true
  rw [if_neg a']
  exact congrArg some e
theorem ObjM.look {h:Heap} {x dx C:Addr} {mA:Str->Option Value} (I:ObjM h x dx C mA):∃ od,PySem.W.InstAt h x (PySem.W.instObj C dx) C (some od)/\∀ name,PySem.W.lookIn name od=some (mA name) :=
 let ⟨od,ho,hl⟩:=lookIn_ns I.ns
 ⟨od,⟨I.obj,rfl,rfl,ho⟩,hl⟩
theorem RelO.some_of {v:V} {o:Option Value} (r:RelO (some v) o):∃ u,o=some u/\RelV v u:=by
 cases o with
 | none=>exact (show False from r).elim
 | some u=>exact ⟨u,rfl,r⟩
section
variable {P:Program} {w:World} {H H':Hp} {h h':Heap} {a C dx:Addr} {fs fs':List (Str×V)}
theorem ins_get (hok:HOk P w H h) (e:H a=some (.ins C dx fs)):∃ mA,ObjM h a dx C mA/\(∀ f,RelO (fs.lookup f) (mA f))/\PySem.Within mA (fs.map (·.1))/\fs.length≤1000/\H dx=some (.own a):=by
 obtain ⟨d,z,ne,ob,mA,n,r,q⟩:=(show ObjOk P w H h a (.ins C dx fs) from hok a _ e)
 exact ⟨mA,⟨ob,n,ne⟩,r,q,z,d⟩
end
structure Cls (K:PySem.W.Frag) (C:Addr):Prop where
 pg:PySem.W.plainGet K C Str.empty=true
 hd:PySem.W.hasDictIn K C=true
 po:PySem.W.plainOver K C=true
 sa:PySem.W.findIn K (.ref C) "__setattr__"=some (some (.builtin "object.__setattr__"))
theorem Cls.get {K:PySem.W.Frag} {C:Addr} (c:Cls K C) (f:Str):PySem.W.plainGet K C f=true:=c.pg
section
variable {X:Cx} {pins:List (Addr×Obj)} {σ:St} {H:Hp} {s:Shared} {A:Around} {E:Value->Shared->Prop} {Q:Value->Shared->Prop} {c:Value} {b:Bool}
inductive TyOf (K:PySem.W.Frag) (H:Hp):V->Value->Prop where
 | non:TyOf K H .non (.type "NoneType")
 | bl (x:Bool):TyOf K H (.bl x) (.type "bool")
 | int (i:Int):TyOf K H (.int i) (.type "int")
 | str (x:Str):TyOf K H (.str x) (.type "str")
 | flt (x:UInt64):TyOf K H (.flt x) (.type "float")
 | lst {a:Addr} {xs:List V} (e:H a=some (.lst xs)):TyOf K H (.ref a) (.type "list")
 | frz {a:Addr} {o:Obj} {xs:List V} (e:H a=some (.frz o (.lst xs))):TyOf K H (.ref a) (.type "list")
 | tup {a:Addr} {xs:List V} (e:H a=some (.tup xs)):TyOf K H (.ref a) (.type "tuple")
 | dK {a:Addr} {kvs:List (Key×V)} (e:H a=some (.dK kvs)):TyOf K H (.ref a) (.type "dict")
 | dT {a:Addr} {kvs:List (List Key×V)} (e:H a=some (.dT kvs)):TyOf K H (.ref a) (.type "dict")
 | ins {a C dx:Addr} {fs:List (Str×V)} (e:H a=some (.ins C dx fs)) (cl:Cls K C) (ha:PySem.W.findIn K (.ref C) "__class__"=some (some (.builtin "object.__class__")))
   (hn:PySem.W.specialIn K (.builtin "object.__class__") "__get__"=some (some (.builtin "getset_descriptor.__get__"))) (htk:PySem.W.takesIn K (.builtin "object.__class__")=some true)
   (hm:PySem.W.mroIn K C (.type "object")=some true):TyOf K H (.ref a) (.ref C)
theorem isinst_ok {x:V} {u t:Value} (I:Inv X pins σ H s) (rx:RelV x u) (ty:TyOf X.K H x t) (e:PySem.W.kitOne X.K t c=some b) (h:∀ tk,Q (.bool b) { s with toks:=tk }) :
  wpAny (model X.prog X.w) A (call (.builtin "isinstance") [u,c]) Q E s:=by
 cases ty with
 | non=>cases (show u=Value.none from rx);exact PySem.W.kia_one PySem.W.kitx_none I.kIn True.intro e (fun z=>nomatch z) h
 | bl y=>cases (show u=Value.bool y from rx);exact PySem.W.kia_one PySem.W.kitx_bool I.kIn True.intro e (fun z=>nomatch z) h
 | int i=>obtain ⟨t,q⟩:=(show ∃ t,u=Value.int i t from rx);cases q;exact PySem.W.kia_one PySem.W.kitx_int I.kIn True.intro e (fun z=>nomatch z) h
 | str y=>obtain ⟨t,q⟩:=(show ∃ t,u=Value.str y t from rx);cases q;exact PySem.W.kia_one PySem.W.kitx_str I.kIn True.intro e (fun z=>nomatch z) h
 | flt y=>obtain ⟨t,q⟩:=(show ∃ t,u=Value.float y t from rx);cases q;exact PySem.W.kia_one PySem.W.kitx_float I.kIn True.intro e (fun z=>nomatch z) h
 | @lst a xs ea =>
  cases (show u=Value.ref a from rx)
  obtain ⟨_,_,n,_,h1⟩:=(show ObjOk X.prog X.w H s.heap a (.lst xs) from I.hok a _ ea)
  exact PySem.W.kia_one PySem.W.kitx_list I.kIn ⟨_,h1,rfl⟩ e (fun z=>nomatch z) h
 | @frz a ob xs ea =>
  cases (show u=Value.ref a from rx)
  obtain ⟨_,_,_,n,_,h1⟩:=(show ObjOk X.prog X.w H s.heap a (.frz ob (.lst xs)) from I.hok a _ ea)
  exact PySem.W.kia_one PySem.W.kitx_list I.kIn ⟨_,h1,rfl⟩ e (fun z=>nomatch z) h
 | @tup a xs ea =>
  cases (show u=Value.ref a from rx)
  obtain ⟨_,_,_,p⟩:=(show ObjOk X.prog X.w H s.heap a (.tup xs) from I.hok a _ ea)
  obtain ⟨o,h1,h2,_⟩:=p
  exact PySem.W.kia_one PySem.W.kitx_tuple I.kIn ⟨o,h1,h2⟩ e (fun z=>nomatch z) h
 | @dK a kvs ea =>
  cases (show u=Value.ref a from rx)
  obtain ⟨_,_,vs,_,p⟩:=(show ObjOk X.prog X.w H s.heap a (.dK kvs) from I.hok a _ ea)
  obtain ⟨o,es,ep,h1,h2,_⟩:=p
  exact PySem.W.kia_one PySem.W.kitx_dict I.kIn ⟨o,h1,h2.1⟩ e (fun z=>nomatch z) h
 | @dT a kvs ea =>
  cases (show u=Value.ref a from rx)
  obtain ⟨_,_,xs,_,o,es,ep,h1,h2,_⟩:=(show ObjOk X.prog X.w H s.heap a (.dT kvs) from I.hok a _ ea)
  exact PySem.W.kia_one PySem.W.kitx_dict I.kIn ⟨o,h1,h2.1⟩ e (fun z=>nomatch z) h
 | @ins a C dx fs ea cl ha hn htk hm =>
  cases (show u=Value.ref a from rx)
  obtain ⟨mA,O,_⟩:=ins_get I.hok ea
  obtain ⟨od,J,_⟩:=O.look
  exact PySem.W.kia_one (PySem.W.kitx_own (cl.get _) cl.hd ha hn htk hm) I.kIn J e (fun z=>nomatch z) h
end
structure Room (k:Nat) (A:Around):Prop where
 hd:A.handled=none
 dp:A.depth+3 * k+5 < recursionLimit
 un:A.units+16 * k+200 < cLine
 gd:A.guards=some []
theorem Room.mono {j k:Nat} {A:Around} (r:Room k A) (h:j≤k):Room j A:=⟨r.hd,by have:=r.dp;lia,by have:=r.un;lia,r.gd⟩
theorem Room.deeper {k:Nat} {A:Around} (r:Room (k+1) A) (env:Env):Room k (A.deeper env) :=
 ⟨r.hd,by have:=r.dp;show A.depth+1+3 * k+5 < _;lia,by have:=r.un;show A.units+3+16 * k+200 < _;lia,r.gd⟩
theorem Room.depth {k:Nat} {A:Around} (r:Room k A):A.depth < recursionLimit:=by have:=r.dp;lia
theorem Room.units {k:Nat} {A:Around} (r:Room k A):A.units+64 < cLine:=by have:=r.un;lia
noncomputable def tNil:TA:=fun _ H Q=>Q [] H
noncomputable def tCons (ta:TE) (tr:TA):TA:=fun σ H Q=>ta σ H fun x H1=>tr σ H1 fun xs H2=>Q (x :: xs) H2
section
variable {X:Cx} {e:Expr} {es:List Expr} {te:TE} {t:TA} {pos:Pos}
theorem pa_nil:PA X [] tNil:=fun _ _ _ _ H Q I h=>Calls.spliced_nil ⟨[],H,I,.nil,h⟩
theorem pa_cons (ha:PE X e te) (hr:PA X es t) (hs:starEach (e :: es) X.env=(false,eval e X.env) :: starEach es X.env:=by rfl):PA X (e :: es) (tCons te t):=by
 intro pos pins s σ H Q I h
 rw [hs]
 show wpAny _ _ (spliced ((false,eval e X.env) :: backTo pos (starEach es X.env))) _ _ s
 refine Calls.spliced_cons (thn (ha pins s σ H _ I h) fun u s1 ⟨x,H1,I1,r1,q1⟩=>?_)
 exact thn (hr pos pins s1 σ H1 _ I1 q1) fun us s2 ⟨xs,H2,I2,r2,q2⟩=>⟨x :: xs,H2,I2,.cons r1 r2,q2⟩
noncomputable def tTup (t:TA):TE:=fun σ H Q=>t σ H fun xs H1=>xs.length≤sizeLine/\∀ p,H1 p=none->Q (.ref p) (upd H1 p (.tup xs))
noncomputable def tLst (t:TA):TE:=fun σ H Q=>t σ H fun xs H1=>xs.length≤sizeLine/\∀ p,H1 p=none->Q (.ref p) (upd H1 p (.lst xs))
theorem pe_tup {x1} (h:PA X es t):PE X (.Tuple es x1 pos) (tTup t):=by
 intro pins s σ H Q I hq
 refine wpAny_Tuple_spliced (thn (h pos pins s σ H _ I hq) fun us s1 ⟨xs,H1,I1,r,z,q⟩=>⟨by rw [←r.length];exact z,?_⟩)
 have hf:H1 s1.heap.objs.size=none:=I1.hok.fresh (Nat.le_refl _)
 refine ⟨.ref s1.heap.objs.size,upd H1 s1.heap.objs.size (.tup xs),I1.laid (t':=s1.toks) (fun b u e=>Heap.get?_push_of_some _ e) (Nat.le_refl _) ?_,rfl,q _ hf⟩
 exact ⟨z,us,r,⟨_,Heap.get?_push_size _ rfl,rfl,_,rfl⟩⟩
theorem pe_lst (h:PA X es t):PE X (.List es pos) (tLst t):=by
 intro pins s σ H Q I hq
 refine wpAny_List_spliced (thn (h pos pins s σ H _ I hq) fun us s1 ⟨xs,H1,I1,r,z,q⟩=>⟨by rw [←r.length];exact z,?_⟩)
 have hf:H1 s1.heap.objs.size=none:=I1.hok.fresh (Nat.le_refl _)
 refine ⟨.ref s1.heap.objs.size,upd H1 s1.heap.objs.size (.lst xs),I1.laid (t':=s1.toks) (fun b u e=>Heap.get?_push_of_some _ e) (Nat.le_refl _) ?_,rfl,q _ hf⟩
 exact ⟨z,us,0,r,Heap.get?_push_size _ rfl⟩
end
noncomputable abbrev Sp:=List V->Hp->VK->XK->Prop
noncomputable abbrev CXT:=List Env->Hp->Shared->XK->Value->Shared->Prop
structure Env0 (P:Program) (w:World) (K:PySem.W.Frag) (mg:Str->Option Value) (base:Heap) (A:Around) (outer:List Env) (s:Shared) (H:Hp):Prop where
 frames:A.frames=some outer
 mod:Mod K mg base
 bs:∀ b o,base.get? b=some o->s.heap.get? b=some o/\H b=none
 bsz:base.objs.size≤s.heap.objs.size
 funs:s.heap.FunFrames base outer
 frf:∀ b∈frs outer,H b=none
 hok:HOk P w H s.heap
 bare:AllBare s.gens
noncomputable def CE (outer:List Env) (P:Program) (w:World) (H:Hp) (s:Shared) (Q:VK) (u:Value) (s':Shared):Prop :=
 ∃ v H',s'.os=s.os/\AllBare s'.gens/\Un (frs outer) [] H H' s.heap s'.heap/\HOk P w H' s'.heap/\RelV v u/\Q v H'
noncomputable def CR (CX:CXT) (outer:List Env) (P:Program) (w:World) (H:Hp) (s:Shared) (Q:VK) (E:XK) (r:Result) (s':Shared):Prop :=
 match r with
 | .ok (.ret u)=>CE outer P w H s Q u s'
 | .ok _=>False
 | .error e=>CX outer H s E e s'
structure FnOk (P:Program) (w:World) (K:PySem.W.Frag) (mg:Str->Option Value) (base:Heap) (CX:CXT) (k:Nat) (f:Addr) (fd:FuncData) (ps:List Str) (sp:Sp):Prop where
 len:∀ vs H Q E,sp vs H Q E->vs.length=ps.length
 run:∀ (A:Around) (outer:List Env) (s:Shared) (H:Hp) (args:Args) (us:List Value) (vs:List V) (Q:VK) (E:XK),Room k A->Env0 P w K mg base A outer s H->BindsTo s fd args (ps.zip us)->Vals vs us->sp vs H Q E ->
  codeAny (model P w) A (.call (.ref f) args) (CR CX outer P w H s Q E) s
theorem FnOk.mono {P:Program} {w:World} {K:PySem.W.Frag} {mg:Str->Option Value} {base:Heap} {CX:CXT} {j k:Nat} {f:Addr} {fd:FuncData} {ps:List Str} {sp:Sp} (F:FnOk P w K mg base CX j f fd ps sp) (h:j≤k) :
  FnOk P w K mg base CX k f fd ps sp:=⟨F.len,fun A outer s H args us vs Q E hr=>F.run A outer s H args us vs Q E (hr.mono h)⟩
section
variable {X:Cx} {pins:List (Addr×Obj)} {σ:St} {H:Hp} {s s':Shared}
theorem Inv.env0 (I:Inv X pins σ H s):Env0 X.prog X.w X.K X.mg X.base X.A X.stack s H :=
 ⟨I.ok.frames,I.ok.mod,I.bs,Nat.le_trans I.ok.bsz I.sz,I.stack,I.stkFree,I.hok,I.bare⟩
theorem Inv.after {Q:VK} {u:Value} (I:Inv X pins σ H s) (h:CE X.stack X.prog X.w H s Q u s'):EP X pins σ Q u s':=by
 obtain ⟨v,H',os,bare,un,hok,r,q⟩:=h
 obtain ⟨hh,g,d,t,os'⟩:=s'
 obtain rfl:os'=s.os:=os
 exact ⟨v,H',I.call (h':=hh) (g':=g) (d':=d) (t':=t) (ch:=[]) un hok bare (fun b z=>absurd z (by simp)),r,q⟩
end
noncomputable def tCall (sp:Sp) (dvs:List V) (E:XK) (t:TA):TE:=fun σ H Q=>t σ H fun vs H1=>sp (vs ++ dvs) H1 Q E
noncomputable def Binds (K:PySem.W.Frag) (fd:FuncData) (ps:List Str) (ds:List Value):Prop :=
 ∀ (s:Shared) (us:List Value),K.In s.heap->(us ++ ds).length=ps.length->BindsTo s fd ⟨us,[]⟩ (ps.zip (us ++ ds))
theorem Binds.all {K:PySem.W.Frag} {fd:FuncData} {ps:List Str} (h:∀ us:List Value,us.length=ps.length->bindArgs fd ⟨us,[]⟩=pure (ps.zip us)):Binds K fd ps []:=fun s us _ hl=>by
 rw [List.append_nil] at hl ⊢
 exact .of_eq (h us hl)
noncomputable def Passes (CX:CXT) (X:Cx) (E:XK):Prop:=∀ (pins:List (Addr×Obj)) (σ:St) (H:Hp) (s:Shared) (e:Value) (s':Shared),Inv X pins σ H s->CX X.stack H s E e s'->X.xe e s'
section
variable {X:Cx} {CX:CXT} {k:Nat} {f C:Addr} {fd:FuncData} {ps:List Str} {sp:Sp} {dvs:List V} {ds:List Value} {E:XK} {x m:Str} {p pos apos:Pos} {e o:Expr} {es:List Expr} {ta:TE} {t:TA}
theorem run_fn {pins:List (Addr×Obj)} {σ:St} {H:Hp} {s:Shared} {Q:VK} {us:List Value} {vs:List V} (F:FnOk X.prog X.w X.K X.mg X.base CX k f fd ps sp) (hr:Room k X.A) (hb:Binds X.K fd ps ds) (hd:Vals dvs ds) (hx:Passes CX X E)
  (I:Inv X pins σ H s) (r:Vals vs us) (h:sp (vs ++ dvs) H Q E):wpAny (model X.prog X.w) X.A (call (.ref f) us) (EP X pins σ Q) X.xe s:=by
 have r2:Vals (vs ++ dvs) (us ++ ds):=r.append hd
 have hl:(us ++ ds).length=ps.length:=by rw [←r2.length];exact F.len _ _ _ _ h
 refine wpAny_call (codeAny_mono (F.run X.A X.stack s H ⟨us,[]⟩ (us ++ ds) (vs ++ dvs) Q E hr I.env0 (hb s us I.kIn hl) r2 h) fun r s' hq=>?_)
 cases r with
 | error e=>exact hx pins σ H s e s' I hq
 | ok fl =>
  cases fl with
  | ret u=>exact I.after hq
  | next=>exact False.elim hq
  | brk=>exact False.elim hq
  | cont=>exact False.elim hq
theorem pe_call (F:FnOk X.prog X.w X.K X.mg X.base CX k f fd ps sp) (hr:Room k X.A) (hg:Gl X x) (hm:X.mg x=some (.ref f)) (hk:PySem.W.keepIn X.K (.ref f)=true) (hb:Binds X.K fd ps ds) (hd:Vals dvs ds) (hx:Passes CX X E)
  (ha:PA X (e :: es) t) (hdb:(x==("__debug__":Str))=false:=by decide) (he:starEach (e :: es) X.env=(false,eval e X.env) :: starEach es X.env:=by rfl) (hpl:(backTo pos (starEach es X.env)).any (·.1)=false:=by rfl) :
  PE X (.Call (.Name x p) (e :: es) [] pos) (tCall sp dvs E t):=by
 intro pins s σ H Q I h
 refine wpAny_Call_Name_kw (ld_glob I hg hm ?_ hdb)
 refine PySem.W.callWith_K (h₀:=X.base) I.ok.mod.kin hk (thn (ha pos pins s σ H _ I h) fun us s1 ⟨vs,H1,I1,r,q⟩=>⟨I1.kIn,?_⟩) he hpl
 exact run_fn F hr hb hd hx I1 r q
end
structure FnScope (N P:List Str) (sc:Scope):Prop where
 kind:sc.kind=.function
 co:sc.isCoroutine=false
 gen:sc.isGenerator=false
 nd:N.Nodup
 pre:N.take P.length=P
 par:∀ x∈P,sc.names.lookup x=some .local\/sc.names.lookup x=some .cell
 nofree:∀ y∈sc.names,y.2≠.free
theorem bindL_out {kindOf:Str->Option NameKind} {x:Str}:∀ {binds:List (Str×Value)} {m:Str->Option Value},(∀ v,(x,v)∉binds)->bindL kindOf binds m x=m x
 | [],_,_=>rfl
 | (n,v) :: r,m,h=>by
  unfold bindL
  rw [bindL_out fun w hw=>h w (List.mem_cons_of_mem _ hw)]
  split
  ·have:x≠n:=by rintro rfl;exact h v List.mem_cons_self
   simp [this]
  ·rfl
theorem bindC_out {kindOf:Str->Option NameKind} {x:Str}:∀ {binds:List (Str×Value)} {m:Str->Option Value},(∀ v,(x,v)∉binds)->bindC kindOf binds m x=m x
 | [],_,_=>rfl
 | (n,v) :: r,m,h=>by
  unfold bindC
  rw [bindC_out fun w hw=>h w (List.mem_cons_of_mem _ hw)]
  split
  ·rfl
  ·have:x≠n:=by rintro rfl;exact h v List.mem_cons_self
   simp [this]
theorem bindL_get {kindOf:Str->Option NameKind} {x:Str} {v:Value}:∀ {P:List Str} {vs:List Value} {i:Nat} {m:Str->Option Value},P.Nodup->P[i]?=some x->vs[i]?=some v->kindOf x=some .local ->
  bindL kindOf (P.zip vs) m x=some v
 | [],_,_,_,_,h,_,_=>by simp at h
 | _ :: _,[],_,_,_,_,h,_=>by simp at h
 | p :: P,w :: vs,0,m,nd,h1,h2,hk=>by
  simp at h1 h2;subst h1;subst h2
  show bindL kindOf ((p,w) :: P.zip vs) m p=_
  unfold bindL
  rw [bindL_out fun v hv=>(List.nodup_cons.mp nd).1 (List.of_mem_zip hv).1,if_pos hk]
  simp
 | p :: P,w :: vs,i+1,m,nd,h1,h2,hk=>by
  show bindL kindOf ((p,w) :: P.zip vs) m x=_
  unfold bindL
  exact bindL_get (i:=i) (List.nodup_cons.mp nd).2 (by simpa using h1) (by simpa using h2) hk
theorem bindC_get {kindOf:Str->Option NameKind} {x:Str} {v:Value}:∀ {P:List Str} {vs:List Value} {i:Nat} {m:Str->Option Value},P.Nodup->P[i]?=some x->vs[i]?=some v->kindOf x≠some .local ->
  bindC kindOf (P.zip vs) m x=some v
 | [],_,_,_,_,h,_,_=>by simp at h
 | _ :: _,[],_,_,_,_,h,_=>by simp at h
 | p :: P,w :: vs,0,m,nd,h1,h2,hk=>by
  simp at h1 h2;subst h1;subst h2
  show bindC kindOf ((p,w) :: P.zip vs) m p=_
  unfold bindC
  rw [bindC_out fun v hv=>(List.nodup_cons.mp nd).1 (List.of_mem_zip hv).1,if_neg hk]
  simp
 | p :: P,w :: vs,i+1,m,nd,h1,h2,hk=>by
  show bindC kindOf ((p,w) :: P.zip vs) m x=_
  unfold bindC
  exact bindC_get (i:=i) (List.nodup_cons.mp nd).2 (by simpa using h1) (by simpa using h2) hk
noncomputable def start (N:List Str) (vs:List V):St:=vs.map some ++ List.replicate (N.length - vs.length) none
noncomputable def cxOf (CX:CXT) (P:Program) (w:World) (K:PySem.W.Frag) (mg:Str->Option Value) (base:Heap) (N:List Str) (qual:Str) (scope:Scope) (f:Addr) (cd:Value) (A:Around) (outer:List Env) (s:Shared) (H:Hp) (E:XK):Cx where
 prog:=P
 w:=w
 K:=K
 mg:=mg
 base:=base
 A:=A.deeper (envOfC qual scope s.heap.objs.size f cd)
 N:=N
 s₀:=s
 H₀:=H
 env:=envOfC qual scope s.heap.objs.size f cd
 outer:=outer
 stack:=envOfC qual scope s.heap.objs.size f cd :: outer
 ex:=[]
 calm:=true
 fn:=fun _=>true
 pn:=[]
 xe:=fun e s'=>wpAny (model P w) (A.deeper (envOfC qual scope s.heap.objs.size f cd)) (leaving (envOfC qual scope s.heap.objs.size f cd) e) (fun _ s''=>CX outer H s E e s'') (fun e' s''=>CX outer H s E e' s'') s'
theorem cell_has {sc:Scope} {n:Nat} {x:Str} (h:sc.names.lookup x=some .cell):∃ c,(cellsFrom n sc.names []).lookup x=some c:=by
 have q:=PySem.W.cellsFrom_some sc.names n [] (.inl h)
 exact Option.isSome_iff_exists.mp q
theorem inv_start {CX:CXT} {P:Program} {w:World} {K:PySem.W.Frag} {mg:Str->Option Value} {base:Heap} {N ps:List Str} {qual:Str} {scope:Scope} {f:Addr} {cd:Value} {A:Around} {outer:List Env} {s s1:Shared} {H:Hp} {E:XK} {us:List Value} {vs:List V}
  (S:FnScope N ps scope) (hd:A.handled=none) (e0:Env0 P w K mg base A outer s H) (hl:vs.length=ps.length) (r:Vals vs us)
  (x:InCallC s s.heap.objs.size (bindL (envOfC qual scope s.heap.objs.size f cd).kindOf (ps.zip us) fun _=>none) (cellsFrom (s.heap.objs.size+1) scope.names []) (bindC (envOfC qual scope s.heap.objs.size f cd).kindOf (ps.zip us) fun _=>none) s1) :
  Inv (cxOf CX P w K mg base N qual scope f cd A outer s H E) [] (start N vs) H s1:=by
 have hpl:ps.length≤N.length:=by have:=congrArg List.length S.pre;rw [List.length_take] at this;lia
 obtain ⟨h1,tk,rfl,hk⟩:=x.done
 have noA:∀ b:Addr,b∉(cxOf CX P w K mg base N qual scope f cd A outer s H E).ex:=fun b z=>absurd (show b∈([]:List Addr) from z) (by simp)
 refine ⟨⟨e0.mod,S.kind,rfl,rfl,Nat.le_refl _,fun y z c h1 h2=>?_,fun y hy=>?_,fun y c _ h=>?_,fun _=>hd,Around.frames_deeper e0.frames,.inr ⟨rfl,rfl⟩,fun b z=>absurd z (noA b),e0.bs,e0.bsz,fun b _ _=>noA b,fun b z=>absurd z (noA b),e0.funs,e0.frf⟩,
  rfl,e0.bare,Un.kept hk,⟨_,x.toInCall.ns,fun i y v h1 h2 h3=>?_⟩,fun y c h=>⟨_,x.cell y c h⟩,e0.hok.fresh (Nat.le_refl _),fun y c h=>?_,fun p hp=>absurd (show p∈([]:List (Addr×Obj)) from hp) (by simp),e0.hok.kept hk,?_⟩
 ·exact name_of_addr x.apart (PySem.mem_of_lookup h1) (PySem.mem_of_lookup h2)
 ·have hy:scope.names.lookup y=some .cell\/scope.names.lookup y=some .free:=hy
  rcases hy with hy | hy
  ·exact cell_has hy
  ·exact absurd rfl (S.nofree _ (PySem.mem_of_lookup hy))
 ·exact Nat.le_of_lt (x.above y c (PySem.mem_of_lookup h))
 ·have hi:i < vs.length:=by
   unfold start at h2
   by_cases hi:i < vs.length
   ·exact hi
   ·rw [List.getElem?_append_right (by simpa using hi)] at h2
    rw [List.getElem?_replicate] at h2
    split at h2 <;> cases h2
  have ha:vs[i]?=some v:=by
   unfold start at h2
   rw [List.getElem?_append_left (by simpa using hi),List.getElem?_map] at h2
   cases e:vs[i]? with
   | none=>rw [e] at h2;cases h2
   | some a=>rw [e] at h2;cases h2;rfl
  obtain ⟨u,hu,rv⟩:=r.get ha
  have hp:ps[i]?=some y:=by
   rw [←S.pre,List.getElem?_take_of_lt (by lia)];exact h1
  have ndP:ps.Nodup:=by rw [←S.pre];exact S.nd.sublist (List.take_sublist _ _)
  refine ⟨u,rv,?_⟩
  rcases S.par y (List.mem_of_getElem? hp) with k | k
  ·exact .inl ⟨k,bindL_get ndP hp hu k⟩
  ·obtain ⟨c,e⟩:=cell_has (n:=s.heap.objs.size+1) k
   refine .inr ⟨.inl k,c,e,?_⟩
   have q:=x.cell y c e
   rw [bindC_get ndP hp hu (by show scope.names.lookup y≠_;rw [k];decide)] at q
   exact q
 ·exact e0.hok.fresh (Nat.le_of_lt (x.above y c (PySem.mem_of_lookup h)))
 ·unfold start
  show _=N.length
  rw [List.length_append,List.length_map,List.length_replicate]
  lia
theorem fn_of {CX:CXT} {P:Program} {w:World} {K:PySem.W.Frag} {mg:Str->Option Value} {base:Heap} {k:Nat} {f:Addr} {name qual:Str} {params:Arguments} {body:List Stmt} {scope:Scope} {dV kV doc pm cdv ct oc:Value} {an od:Option Addr}
  {osl:Array (Option Value)} {N ps:List Str} {sp:Sp} (lk:K.lookup f=some ⟨oc,od,.func (PySem.W.fnOf name qual params body scope dV kV doc pm an cdv ct),osl⟩) (hcd:PySem.W.codeIn K cdv qual=true) (S:FnScope N ps scope)
  (len:∀ vs H Q E,sp vs H Q E->vs.length=ps.length)
  (hbody:∀ (A:Around) (outer:List Env) (s:Shared) (H:Hp) (vs:List V) (Q:VK) (E:XK),Room k (A.deeper (envOfC qual scope s.heap.objs.size f cdv))->sp vs H Q E ->
   ∃ t,PSs (cxOf CX P w K mg base N qual scope f cdv A outer s H E) body t/\t { nx:=fun _ H'=>Q .non H',rt:=Q } (start N vs) H) :
  FnOk P w K mg base CX (k+1) f (PySem.W.fnOf name qual params body scope dV kV doc pm an cdv ct) ps sp:=by
 refine ⟨len,fun A outer s H args us vs Q E hr e0 hb r hsp=>?_⟩
 have hl:=len _ _ _ _ hsp
 have KX:K.In s.heap:=e0.mod.kin.keeps fun b o e=>(e0.bs b o e).1
 have lim:s.heap.NoLimit:=e0.mod.nolimit.keeps fun b o e=>(e0.bs b o e).1
 have hkind:∀ y∈ps.zip us,scope.names.lookup y.1=some .local\/(scope.names.lookup y.1=some .cell/\((cellsFrom (s.heap.objs.size+1) scope.names []).lookup y.1).isSome=true):=fun ⟨n,v⟩ hy=>by
  rcases S.par n (List.of_mem_zip hy).1 with q | q
  ·exact .inl q
  ·exact .inr ⟨q,PySem.W.cellsFrom_some _ _ _ (.inl q)⟩
 refine codeAny_call_function hr.depth (KX _ _ lk) rfl S.co S.gen rfl (PySem.W.codeRec_of KX hcd) (hb _ _ _ _ ?_)
 refine wpAny_newFunctionEnv_cells S.kind hkind fun env he s1 x=>?_
 subst he
 refine ⟨lim.keeps x.toInCall.keep,codeAny_func ?_⟩
 obtain ⟨t,ht,hq⟩:=hbody A outer s H vs Q E (hr.deeper _) hsp
 have I:Inv (cxOf CX P w K mg base N qual scope f cdv A outer s H E) [] (start N vs) H s1:=inv_start S hr.hd e0 hl r x
 refine wpAny_mono (ht [] s1 (start N vs) H _ I hq) (fun fl s' hs=>?_) fun e s' hs=>hs
 have fin:∀ {σ':St} {H':Hp} {v:V} {u:Value},Inv (cxOf CX P w K mg base N qual scope f cdv A outer s H E) [] σ' H' s'->RelV v u->Q v H'->CE outer P w H s Q u s' :=
  fun {σ' H' v u} J rv q=>⟨v,H',J.os,J.bare,J.base,J.hok,rv,q⟩
 cases fl with
 | ret u =>
  obtain ⟨v,σ',H',J,rv,q⟩:=hs
  exact fin J rv q
 | next =>
  obtain ⟨σ',H',J,q⟩:=hs
  exact fin (v:=V.non) (u:=Value.none) J rfl q
 | brk =>
  obtain ⟨_,_,_,q⟩:=hs
  exact False.elim q
 | cont =>
  obtain ⟨_,_,_,q⟩:=hs
  exact False.elim q
section
variable {X:Cx} {x:Str} {p pos:Pos} {e:Expr} {es:List Expr} {t:TA} {id T:String} {r:List V->Hp->VK->Prop}
noncomputable def tCB (r:List V->Hp->VK->Prop) (t:TA):TE:=fun σ H Q=>t σ H fun vs H1=>r vs H1 Q
theorem pe_callB (hc:CallR X (.builtin id) r) (hg:Gl X x) (hm:X.mg x=none) (hv:bootBuiltins x=some (.builtin id)) (ha:PA X (e :: es) t) (hn:x≠"__name__":=by decide) (hdb:(x==("__debug__":Str))=false:=by decide)
  (he:starEach (e :: es) X.env=(false,eval e X.env) :: starEach es X.env:=by rfl) (hpl:(backTo pos (starEach es X.env)).any (·.1)=false:=by rfl):PE X (.Call (.Name x p) (e :: es) [] pos) (tCB r t):=by
 intro pins s σ H Q I h
 refine wpAny_Call_Name_kw (ld_blt I hg hm hv ?_ hn hdb)
 exact PyProof.Rows.callWith_builtin1 (thn (ha pos pins s σ H _ I h) fun us s1 ⟨vs,H1,I1,r1,q1⟩=>hc pins s1 σ H1 vs us Q I1 r1 q1) he hpl
theorem pe_callTy (hc:CallR X (.type T) r) (hg:Gl X x) (hm:X.mg x=none) (hv:bootBuiltins x=some (.type T)) (ha:PA X (e :: es) t) (hn:x≠"__name__":=by decide) (hdb:(x==("__debug__":Str))=false:=by decide)
  (he:starEach (e :: es) X.env=(false,eval e X.env) :: starEach es X.env:=by rfl) (hpl:(backTo pos (starEach es X.env)).any (·.1)=false:=by rfl):PE X (.Call (.Name x p) (e :: es) [] pos) (tCB r t):=by
 intro pins s σ H Q I h
 refine wpAny_Call_Name_kw (ld_blt I hg hm hv ?_ hn hdb)
 exact PyProof.Rows.callWith_type1 (thn (ha pos pins s σ H _ I h) fun us s1 ⟨vs,H1,I1,r1,q1⟩=>hc pins s1 σ H1 vs us Q I1 r1 q1) he hpl
end
end L2
namespace HT
open PySem PyProof.Rows
noncomputable def lexLt:List Int->List Int->Bool
 | [],[]=>false
 | [],_ :: _=>true
 | _ :: _,[]=>false
 | x :: xs,y :: ys=>if x=y then lexLt xs ys else decide (x < y)
theorem lexLt_cons (x y:Int) (xs ys:List Int):lexLt (x :: xs) (y :: ys)=if x=y then lexLt xs ys else decide (x < y):=rfl
theorem lexLt_nil_nil:lexLt [] []=false:=rfl
theorem lexLt_nil_cons (y:Int) (ys:List Int):lexLt [] (y :: ys)=true:=rfl
theorem lexLt_cons_nil (x:Int) (xs:List Int):lexLt (x :: xs) []=false:=rfl
section
variable {prog:Program} {w:World} {A:Around} {E:Value->Shared->Prop} {s:Shared}
theorem cat_tup {t b:Addr} {vs ws:List Value} {Q:Value->Shared->Prop} (ht:IsTup s.heap t vs.toArray) (hb:IsTup s.heap b ws.toArray) (hv:vs≠[])
  (h1:ws=[]->Q (.ref t) s) (h2:ws≠[]->Q (.ref s.heap.objs.size) { s with heap:=s.heap.push { cls:=.type "tuple",data:=.seq (vs ++ ws).toArray } })
  (hsz:vs.length+ws.length≤sizeLine):wpAny (model prog w) A (binaryOp .Add (.ref t) (.ref b)) Q E s:=by
 obtain ⟨⟨cls,dd,data,sl⟩,ho,hc,n,hd⟩:=id ht
 obtain ⟨⟨cls2,dd2,data2,sl2⟩,ho2,hc2,n2,hd2⟩:=id hb
 simp only at hc hd hc2 hd2
 subst hc hd hc2 hd2
 have e:vs.toArray ++ ws.toArray=(vs ++ ws).toArray:=by simp
 by_cases hw:ws=[]
 ·exact concat_meets ⟨_,ho,rfl⟩ ⟨_,ho2,rfl⟩ noFill_tuple_add seq_tuple_add PySem.F.slot_tuple_add PySem.F.entry_tuple_add (PySem.F.args_tuple_add_2 _ _)
   (tuple_addW1 t b vs.toArray ws.toArray n n2 dd dd2 sl sl2 (by simpa using hv) (by simp [hw])) ⟨ho,ho2,h1 hw⟩
 ·refine concat_meets ⟨_,ho,rfl⟩ ⟨_,ho2,rfl⟩ noFill_tuple_add seq_tuple_add PySem.F.slot_tuple_add PySem.F.entry_tuple_add (PySem.F.args_tuple_add_2 _ _)
   (tuple_addW2 t b vs.toArray ws.toArray n n2 dd dd2 sl sl2 (by simpa using hv) (by simpa using hw) (by rw [List.size_toArray,List.size_toArray];exact hsz)) ⟨ho,ho2,?_⟩
  rw [e]
  exact h2 hw
noncomputable def sIx (n d:Nat):Option Int->Nat
 | none=>d
 | some v=>if v < 0 then (v+(n:Int)).toNat else min v.toNat n
theorem sIx_none (n d:Nat):sIx n d none=d:=rfl
theorem sIx_nat (n d k:Nat):sIx n d (some (k:Int))=min k n:=by
 show (if (k:Int) < 0 then ((k:Int)+(n:Int)).toNat else min (k:Int).toNat n)=min k n
 rw [if_neg (by lia),Int.toNat_natCast]
theorem sIx_le (n d:Nat) (hd:d≤n) (o:Option Int):sIx n d o≤n:=by
 cases o with
 | none=>exact hd
 | some v =>
  show (if v < 0 then (v+(n:Int)).toNat else min v.toNat n)≤n
  by_cases hv:v < 0
  ·rw [if_pos hv];lia
  ·rw [if_neg hv];exact Nat.min_le_right _ _
theorem clip_eq (v:Int) (n d:Nat):(if v < 0 then max (v+(n:Int)) 0 else min v (n:Int))=((sIx n d (some v):Nat):Int):=by
 show (if v < 0 then max (v+(n:Int)) 0 else min v (n:Int))=(((if v < 0 then (v+(n:Int)).toNat else min v.toNat n):Nat):Int)
 by_cases hv:v < 0
 ·simp only [if_pos hv];lia
 ·simp only [if_neg hv];lia
theorem adjust_gen (lo hi:Option Int) (n:Nat):Builtin.Slice.sliceAdjust lo hi 1 (n:Int)=(((sIx n 0 lo:Nat):Int),((sIx n n hi:Nat):Int)):=by
 have h1:¬ ((1:Int) < 0):=by lia
 unfold Builtin.Slice.sliceAdjust
 simp only [h1,if_false]
 refine Prod.ext ?_ ?_
 ·cases lo with
  | none=>rfl
  | some v=>exact clip_eq v n 0
 ·cases hi with
  | none=>rfl
  | some v=>exact clip_eq v n n
theorem places_gen (i j:Nat):Builtin.Slice.slicePlaces (i:Int) (j:Int) 1=j - i:=by
 unfold Builtin.Slice.slicePlaces
 have h1:(1:Int) > 0:=by lia
 simp only [h1,if_true,Int.ediv_one]
 split <;> lia
theorem slicePart_ {v:Value} {o:Option Int} {Q:Option Int->Shared->Prop} (p:IsPart v o) (h:Q o s):wpAny (model prog w) A (Builtin.Slice.slicePartIndex v) Q E s:=by
 cases p with
 | none=>exact slicePart_none h
 | int i t=>exact slicePart_int h
theorem sliceApplied_gen {sl:Addr} {vl vu:Value} {lo hi:Option Int} {n:Nat} {Q:Int×Int×Nat->Shared->Prop} (hs:s.heap.IsSliceOf sl vl vu .none) (pl:IsPart vl lo) (pu:IsPart vu hi)
  (h:Q (((sIx n 0 lo:Nat):Int),1,sIx n n hi - sIx n 0 lo) s):wpAny (model prog w) A (Builtin.Slice.sliceApplied (.ref sl) (pure (n:Int))) Q E s:=by
 obtain ⟨os,hos,hcs,hds⟩:=id hs
 unfold Builtin.Slice.sliceApplied Builtin.Slice.sliceFields
 refine wpAny_bind (wpAny_bind (wpAny_field hos hds (x:=vl) rfl (wpAny_bind (wpAny_field hos hds (x:=vu) rfl (wpAny_bind (wpAny_field hos hds (x:=.none) rfl (wpAny_pure ?_)))))))
 refine wpAny_bind (slicePart_none ?_)
 show wpAny _ _ (if ((1:Int)==0)=true then _ else _) _ _ s
 rw [if_neg (by decide)]
 refine wpAny_bind (slicePart_ pl (wpAny_bind (slicePart_ pu (wpAny_bind (wpAny_pure ?_)))))
 show wpAny _ _ (match Builtin.Slice.sliceAdjust lo hi 1 (n:Int) with | (lo,hi)=>pure (lo,(1:Int),Builtin.Slice.slicePlaces lo hi 1)) _ _ s
 rw [adjust_gen lo hi n]
 show wpAny _ _ (pure (((sIx n 0 lo:Nat):Int),(1:Int),Builtin.Slice.slicePlaces ((sIx n 0 lo:Nat):Int) ((sIx n n hi:Nat):Int) 1)) _ _ s
 rw [places_gen]
 exact wpAny_pure h
theorem pick_gen (xs:Array Value) (i k:Nat):((List.range k).filterMap fun (m:Nat)=>xs[((i:Int)+(m:Int) * 1).toNat]?).toArray=((xs.toList.drop i).take k).toArray:=by
 have e:(fun (m:Nat)=>xs[((i:Int)+(m:Int) * 1).toNat]?)=fun m=>xs[i+m]?:=by
  funext m
  have:((i:Int)+(m:Int) * 1).toNat=i+m:=by lia
  rw [this]
 rw [e]
 have:=pick_run xs i k
 rw [List.filterMap_map] at this
 have e2:((fun x=>xs[x]?) ∘ fun x=>i+x)=fun m=>xs[i+m]?:=rfl
 rw [e2] at this
 rw [this]
theorem getItem_tuple_cut {t sl:Addr} {items:Array Value} {vl vu:Value} {lo hi:Option Int} {Q:Value->Shared->Prop} (ht:IsTup s.heap t items) (hs:s.heap.IsSliceOf sl vl vu .none) (pl:IsPart vl lo) (pu:IsPart vu hi)
  (hw:¬ (sIx items.size 0 lo=0/\sIx items.size items.size hi=items.size))
  (h:Q (.ref s.heap.objs.size) { s with heap:=s.heap.push { cls:=.type "tuple",data:=.seq ((items.toList.drop (sIx items.size 0 lo)).take (sIx items.size items.size hi - sIx items.size 0 lo)).toArray } })
  (hsz:items.size≤sizeLine):wpAny (model prog w) A (getItem (.ref t) (.ref sl)) Q E s:=by
 have htake:sizeOk (.seq ((items.toList.drop (sIx items.size 0 lo)).take (sIx items.size items.size hi - sIx items.size 0 lo)).toArray):=by
  show ((items.toList.drop (sIx items.size 0 lo)).take (sIx items.size items.size hi - sIx items.size 0 lo)).toArray.size≤sizeLine
  rw [List.size_toArray,List.length_take,List.length_drop,Array.length_toList]
  omega
 have hj:sIx items.size items.size hi≤items.size:=sIx_le _ _ (Nat.le_refl _) hi
 obtain ⟨os,hos,hcs,hds⟩:=id hs
 have hTs:s.TypeIs (.ref sl) "slice":=⟨os,hos,hcs⟩
 unfold getItem
 try with_reducible refine wpAny_holding ?_
 first | refine wpAny_bind (wpAny_pure ?_) | skip
 refine wpAny_bind (wpAny_sequenceKey ht.typeIs (by decide) ?_)
 refine wpAny_bind (wpAny_callSpecial?_slot (name:=Str.ofString "__getitem__") ht.typeIs PyProof.Rows.slot_tuple_getitem
  (wpAny_call_entry PyProof.Rows.slot_tuple_getitem ht.typeIs entry_tuple_getitem ?_ (args_tuple_getitem _ _)))
 show wpAny _ _ (Builtin.Tuple.tupleItemsOf (.ref t) >>= _) _ _ s
 refine wpAny_bind (tupleItemsOf_ ht ?_)
 refine wpAny_bind (wpAny_typeOf hTs ?_)
 rw [if_pos (by decide)]
 refine wpAny_bind (sliceApplied_gen hs pl pu ?_)
 have hno:¬ ((((sIx items.size 0 lo:Nat):Int)==0&&(1:Int)==1&&(sIx items.size items.size hi - sIx items.size 0 lo)==items.size)=true):=by
  intro q
  rw [Bool.and_eq_true,Bool.and_eq_true] at q
  have q1:((sIx items.size 0 lo:Nat):Int)=0:=eq_of_beq q.1.1
  have q2:sIx items.size items.size hi - sIx items.size 0 lo=items.size:=eq_of_beq q.2
  exact hw ⟨by lia,by lia⟩
 show wpAny _ _ (if (((sIx items.size 0 lo:Nat):Int)==0&&(1:Int)==1&&(sIx items.size items.size hi - sIx items.size 0 lo)==items.size)=true then _ else _) _ _ s
 rw [if_neg hno,pick_gen]
 first
  | exact wpAny_bind (m:=Builtin.Tuple.tupleExact _) (wpAny_newObj_type (wpAny_pure ⟨_,rfl,wpAny_pure h⟩) htake)
  | exact wpAny_bind (m:=Builtin.Tuple.tupleExact _) (wpAny_newObj_type (wpAny_bind (wpAny_pure (wpAny_pure ⟨_,rfl,wpAny_pure h⟩))) htake)
  | exact wpAny_bind (wpAny_bind (m:=Builtin.Tuple.tupleExact _) (wpAny_newObj_type (wpAny_pure (wpAny_pure ⟨_,rfl,wpAny_pure h⟩)) htake))
  | exact wpAny_bind (wpAny_bind (m:=Builtin.Tuple.tupleExact _) (wpAny_newObj_type (wpAny_pure ⟨_,rfl,wpAny_pure h⟩) htake))
end
end HT
namespace L2
open PySem PySem.Spec PyProof.Rows
noncomputable abbrev TO:=St->Hp->(Option Int->Hp->Prop)->Prop
noncomputable def PO (X:Cx) (e:Option Expr) (t:TO):Prop :=
 ∀ (pins:List (Addr×Obj)) (s:Shared) (σ:St) (H:Hp) (Q:Option Int->Hp->Prop),Inv X pins σ H s->t σ H Q ->
  wpAny (model X.prog X.w) X.A (evalPart e X.env) (fun u s'=>∃ o H',Inv X pins σ H' s'/\IsPart u o/\Q o H') X.xe s
noncomputable def tNoPart:TO:=fun _ H Q=>Q none H
noncomputable def tPart (t:TE):TO:=fun σ H Q=>t σ H fun x H1=>∃ i,x=.int i/\Q (some i) H1
theorem intsAre_of {ns:List Int}:∀ {us:List Value},Vals (ns.map V.int) us->IntsAre us ns:=by
 induction ns with
 | nil=>intro us r;rw [List.map_nil] at r;cases r;exact .nil
 | cons n ns ih =>
  intro us r
  rw [List.map_cons] at r
  cases r with
  | cons r1 r2 =>
   obtain ⟨t,e⟩:=r1
   subst e
   exact .cons n t (ih r2)
section
variable {X:Cx} {e:Expr} {te:TE} {lo hi:Option Expr} {tl th:TO} {pos p2:Pos}
theorem po_none:PO X none tNoPart:=by
 intro pins s σ H Q I h
 rw [evalPart_none]
 exact wpAny_pure ⟨none,H,I,.none,h⟩
theorem po_some (h:PE X e te):PO X (some e) (tPart te):=by
 intro pins s σ H Q I hw
 rw [evalPart_some]
 refine thn (h pins s σ H _ I hw) fun u s1 ⟨x,H1,I1,r1,q1⟩=>?_
 obtain ⟨i,rfl,q⟩:=q1
 obtain ⟨t,rfl⟩:=r1
 exact ⟨some i,H1,I1,.int i t,q⟩
noncomputable def SlR (X:Cx) (r:V->Option Int->Option Int->Hp->VK->Prop):Prop :=
 ∀ (pins:List (Addr×Obj)) (s:Shared) (σ:St) (H:Hp) (x:V) (v vl vu:Value) (lo hi:Option Int) (sl:Addr) (Q:VK),Inv X pins σ H s->RelV x v->s.heap.IsSliceOf sl vl vu .none->IsPart vl lo->IsPart vu hi->r x lo hi H Q ->
  ∃ T id,typeLookup (.type T) "__getitem__"=pure (some (.builtin id))/\s.TypeIs v T/\wpAny (model X.prog X.w) X.A (getItem v (.ref sl)) (EP X pins σ Q) X.xe s
noncomputable def tSl (r:V->Option Int->Option Int->Hp->VK->Prop) (te:TE) (tl th:TO):TE:=fun σ H Q=>te σ H fun x H1=>tl σ H1 fun l H2=>th σ H2 fun u H3=>r x l u H3 Q
theorem pe_slice {r:V->Option Int->Option Int->Hp->VK->Prop} (hr:SlR X r) (he:PE X e te) (hl:PO X lo tl) (hu:PO X hi th):PE X (.Subscript e (.Slice lo hi none p2) pos) (tSl r te tl th):=by
 intro pins s σ H Q I h
 refine Subscript_ (thn (he pins s σ H _ I h) fun v s1 ⟨x,H1,I1,r1,q1⟩=>?_)
 refine wpAny_Slice (thn (hl pins s1 σ H1 _ I1 q1) fun vl s2 ⟨l,H2,I2,pl,q2⟩=>thn (hu pins s2 σ H2 _ I2 q2) fun vu s3 ⟨u,H3,I3,pu,q3⟩=>?_)
 rw [evalPart_none]
 refine wpAny_pure ?_
 have I4:Inv X pins σ H3 { s3 with heap:=s3.heap.push { cls:=.type "slice",data:=.fields #[vl,vu,.none] } }:=I3.kept (t':=s3.toks) fun b ob q=>Heap.get?_push_of_some _ q
 obtain ⟨T,id,hT,ht,hg⟩:=hr pins { s3 with heap:=s3.heap.push { cls:=.type "slice",data:=.fields #[vl,vu,.none] } } σ H3 x v vl vu l u s3.heap.objs.size Q I4 r1 (Heap.IsSliceOf.new ..) pl pu q3
 show wpAny (model X.prog X.w) X.A (subscriptTail e (.Slice lo hi none p2) v (.ref s3.heap.objs.size)) (EP X pins σ Q) X.xe { s3 with heap:=s3.heap.push { cls:=.type "slice",data:=.fields #[vl,vu,.none] } }
 exact tail_any (ops:=[.ref s3.heap.objs.size,v]) ht hT hg (by with_unfolding_all rfl)
noncomputable def cutV (xs:List V) (lo hi:Option Int):List V:=(xs.drop (HT.sIx xs.length 0 lo)).take (HT.sIx xs.length xs.length hi - HT.sIx xs.length 0 lo)
theorem cutV_length (xs:List V) (lo hi:Option Int):(cutV xs lo hi).length≤xs.length:=by
 unfold cutV
 rw [List.length_take,List.length_drop]
 lia
noncomputable def rSlT (K:PySem.W.Frag):V->Option Int->Option Int->Hp->VK->Prop:=fun x lo hi H Q=>∃ a xs,x=.ref a/\SqT K H a xs /\
 ¬ (HT.sIx xs.length 0 lo=0/\HT.sIx xs.length xs.length hi=xs.length)/\∀ p,H p=none->Q (.ref p) (upd H p (.tup (cutV xs lo hi)))
theorem sl_tup:SlR X (rSlT X.K):=by
 intro pins s σ H x v vl vu lo hi sl Q I rx hs pl pu h
 obtain ⟨a,xs,rfl,hx,hw,q⟩:=h
 cases rx
 obtain ⟨its,r,ht,hz⟩:=I.tuple hx
 have hlen:its.toArray.size=xs.length:=by rw [List.size_toArray];exact r.length.symm
 refine ⟨"tuple",_,PyProof.Rows.slot_tuple_getitem.lookup,ht.typeIs,?_⟩
 refine HT.getItem_tuple_cut ht hs pl pu (by rw [hlen];exact hw) ?_ (by rw [hlen];exact hz)
 rw [hlen]
 refine ⟨.ref s.heap.objs.size,_,I.laid (t':=s.toks) (o:=.tup (cutV xs lo hi)) (fun b ob q=>Heap.get?_push_of_some _ q) (Nat.le_refl _) ?_,rfl,q _ (I.hok.fresh (Nat.le_refl _))⟩
 exact ⟨Nat.le_trans (cutV_length xs lo hi) hz,_,(r.drop (HT.sIx xs.length 0 lo)).take (HT.sIx xs.length xs.length hi - HT.sIx xs.length 0 lo),IsTup.new _ _⟩
noncomputable def rCatT (K:PySem.W.Frag):R2:=fun x y H Q=>∃ a b xs ys,x=.ref a/\y=.ref b/\SqT K H a xs/\SqT K H b ys/\xs≠[]/\xs.length+ys.length≤sizeLine /\
 (ys=[]->Q (.ref a) H)/\(ys≠[]->∀ p,H p=none->Q (.ref p) (upd H p (.tup (xs ++ ys))))
theorem Vals.nil_iff {xs:List V} {us:List Value} (r:Vals xs us):us=[]↔xs=[]:=by
 cases r with
 | nil=>simp
 | cons _ _=>simp
theorem op_catT:OpR X (binaryOp .Add) (rCatT X.K):=by
 intro pins s σ H x y v u Q I rx ry h
 obtain ⟨a,b,xs,ys,rfl,rfl,ha,hb,hx,hz,q1,q2⟩:=h
 cases rx
 cases ry
 obtain ⟨its,r1,p1,_⟩:=I.tuple ha
 obtain ⟨its2,r2,p2,_⟩:=I.tuple hb
 refine HT.cat_tup p1 p2 (fun z=>hx (r1.nil_iff.mp z)) (fun z=>⟨.ref a,H,I,rfl,q1 (r2.nil_iff.mp z)⟩) (fun z=>?_) (by rw [←r1.length,←r2.length];exact hz)
 refine ⟨.ref s.heap.objs.size,_,I.laid (t':=s.toks) (o:=.tup (xs ++ ys)) (fun b ob q=>Heap.get?_push_of_some _ q) (Nat.le_refl _) ?_,rfl,q2 (fun w=>z (r2.nil_iff.mpr w)) _ (I.hok.fresh (Nat.le_refl _))⟩
 exact ⟨by rw [List.length_append];exact hz,_,r1.append r2,IsTup.new _ _⟩
end
noncomputable def ixN (n:Nat) (i:Int):Option Nat:=if 0≤i then (if i < n then some i.toNat else none) else if -(n:Int)≤i then some (i+n).toNat else none
noncomputable def atI {α:Type} (xs:List α) (i:Int):Option α:=(ixN xs.length i).bind fun j=>xs[j]?
theorem ixN_seq {n:Nat} {i:Int} {j:Nat} (h:ixN n i=some j):seqIndex? i n=some j/\j < n/\-(n:Int)≤i/\i < n:=by
 unfold ixN at h
 by_cases h0:0≤i
 ·rw [if_pos h0] at h
  by_cases h1:i < n
  ·rw [if_pos h1] at h
   have e:i.toNat=j:=Option.some.inj h
   exact ⟨by rw [seqIndex_of h0 h1,e],by lia,by lia,h1⟩
  ·rw [if_neg h1] at h;cases h
 ·rw [if_neg h0] at h
  by_cases h1:-(n:Int)≤i
  ·rw [if_pos h1] at h
   have e:(i+n).toNat=j:=Option.some.inj h
   exact ⟨by rw [seqIndex_neg (by lia) h1,e],by lia,h1,by lia⟩
  ·rw [if_neg h1] at h;cases h
theorem atI_get {α:Type} {xs:List α} {i:Int} {v:α} (h:atI xs i=some v):∃ j,seqIndex? i xs.length=some j/\xs[j]?=some v/\j < xs.length/\-(xs.length:Int)≤i/\i < xs.length:=by
 unfold atI at h
 cases e:ixN xs.length i with
 | none=>rw [e] at h;cases h
 | some j =>
  rw [e] at h
  obtain ⟨h1,h2,h3,h4⟩:=ixN_seq e
  exact ⟨j,h1,h,h2,h3,h4⟩
theorem atI_nat {α:Type} {xs:List α} {j:Nat} {v:α} (h:xs[j]?=some v):atI xs (j:Int)=some v:=by
 have hj:j < xs.length:=(List.getElem?_eq_some_iff.mp h).1
 have e:ixN xs.length (j:Int)=some j:=by
  unfold ixN
  rw [if_pos (by lia),if_pos (by lia)];simp
 unfold atI;rw [e];exact h
noncomputable def PlainIx (b:Expr):Prop:=∀ o i,subscripted b false o i=operate [o,i] (getItem o i)
noncomputable def IxR (X:Cx) (r:R2):Prop :=
 ∀ (value slice:Expr) (pins:List (Addr×Obj)) (s:Shared) (σ:St) (H:Hp) (x y:V) (v u:Value) (Q:VK),Inv X pins σ H s->RelV x v->RelV y u->r x y H Q ->
  subscripted slice false v u=operate [v,u] (getItem v u)->wpAny (model X.prog X.w) X.A (subscriptTail value slice v u) (EP X pins σ Q) X.xe s
noncomputable def MtR (X:Cx) (id:String) (r:V->List V->Hp->VK->Prop):Prop :=
 ∀ (pins:List (Addr×Obj)) (s:Shared) (σ:St) (H:Hp) (x:V) (xs:List V) (v:Value) (us:List Value) (Q:VK),Inv X pins σ H s->RelV x v->Vals xs us->r x xs H Q ->
  wpAny (model X.prog X.w) X.A (call (.builtin id) (v :: us)) (EP X pins σ Q) X.xe s
section
variable {X:Cx} {a b:Expr} {ta tb:TE} {pos:Pos}
theorem pe_ix {r:R2} (hr:IxR X r) (ha:PE X a ta) (hb:PE X b tb) (hs:PlainIx b):PE X (.Subscript a b pos) (tOp r ta tb):=by
 intro pins s σ H Q I h
 exact Subscript_ (binT ha hb I h fun v u s2 x y H2 I2 rx ry q=>hr a b pins s2 σ H2 x y v u Q I2 rx ry q (hs _ _))
noncomputable def rIxL (K:PySem.W.Frag):R2:=fun x y H Q=>∃ p xs i v,x=.ref p/\y=.int i/\SqL K H p xs/\atI xs i=some v/\Q v H
noncomputable def rIxT (K:PySem.W.Frag):R2:=fun x y H Q=>∃ p xs i v,x=.ref p/\y=.int i/\SqT K H p xs/\atI xs i=some v/\Q v H
noncomputable def rIxS:R2:=fun x y H Q=>∃ z i c,x=.str z/\y=.int i/\z.length≤sizeLine/\atI z.cps.toList i=some c/\Q (.str ⟨#[c]⟩) H
theorem ix_list:IxR X (rIxL X.K):=by
 intro value slice pins s σ H x y v u Q I rx ry h hs
 obtain ⟨p,xs,i,z,rfl,rfl,hq,he,q⟩:=h
 cases rx
 obtain ⟨t,rfl⟩:=ry
 obtain ⟨its,r,pl,hz⟩:=I.list hq
 obtain ⟨j,h1,h2,h3,h4,h5⟩:=atI_get he
 obtain ⟨w,ew,rw'⟩:=r.get h2
 have hl:=r.length
 have hn:=line63
 have fin:EP X pins σ Q w s:=⟨z,H,I,rw',q⟩
 by_cases h0:0≤i
 ·have hj:i.toNat=j:=by
   rw [seqIndex_of h0 h5] at h1
   exact Option.some.inj h1
  exact item_listR pl.isList h0 (by lia) (by rw [hj];simpa using ew) fin hs
 ·have hj:(i+(its.toArray.size:Int)).toNat=j:=by
   rw [seqIndex_neg (by lia) h4] at h1
   rw [List.size_toArray,←hl]
   exact Option.some.inj h1
  exact subscriptTail_builtinR (x:=w) pl.isList.typeIs slot_list_getitem.lookup
   (wpAny_getItem_list_neg (Q:=fun r s'=>r=w/\EP X pins σ Q r s') pl.isList (by lia) (by rw [List.size_toArray] <;> lia) (by lia) (by rw [hj];simpa using ew) ⟨rfl,fin⟩) hs
theorem ix_tup:IxR X (rIxT X.K):=by
 intro value slice pins s σ H x y v u Q I rx ry h hs
 obtain ⟨p,xs,i,z,rfl,rfl,hq,he,q⟩:=h
 cases rx
 obtain ⟨t,rfl⟩:=ry
 obtain ⟨its,r,pl,hz⟩:=I.tuple hq
 obtain ⟨j,h1,h2,h3,h4,h5⟩:=atI_get he
 obtain ⟨w,ew,rw'⟩:=r.get h2
 have hl:=r.length
 have hn:=line63
 have fin:EP X pins σ Q w s:=⟨z,H,I,rw',q⟩
 exact subscriptTail_builtinR (x:=w) pl.typeIs slot_tuple_getitem.lookup
  (getItem_tuple (j:=j) (Q:=fun r s'=>r=w/\EP X pins σ Q r s') pl (by lia) (by lia) (by rw [List.size_toArray,←hl];exact h1) (by simpa using ew) ⟨rfl,fin⟩) hs
theorem ix_str:IxR X rIxS:=by
 intro value slice pins s σ H x y v u Q I rx ry h hs
 obtain ⟨z,i,c,rfl,rfl,hz,he,q⟩:=h
 obtain ⟨t,rfl⟩:=rx
 obtain ⟨t',rfl⟩:=ry
 obtain ⟨j,h1,h2,h3,h4,h5⟩:=atI_get he
 have hl:z.cps.toList.length=z.length:=by simp [Str.length]
 rw [hl] at h1 h4 h5
 have hn:=line63
 exact tail_any (typeIs_str s z t) slot_str_getitem.lookup (getItem_str (c:=c) (by
  have e1:decide (i < -(2 ^ 63:Int))=false:=decide_eq_false (by lia)
  have e2:decide (i ≥ 2 ^ 63)=false:=decide_eq_false (by lia)
  rw [e1,e2,Bool.or_false]) (by rw [h1];simpa using h2) ⟨.str ⟨#[c]⟩,H,I.tok _,⟨_,rfl⟩,q⟩) hs
theorem mapSeq_set (its:List Value) (n j:Nat) (u:Value):Obj.mapSeq (·.setIfInBounds j u) { cls:=.type "list",data:=.seq its.toArray n }={ cls:=.type "list",data:=.seq (its.set j u).toArray n }:=by
 simp [Obj.mapSeq]
theorem Inv.lst {pins:List (Addr×Obj)} {σ:St} {H:Hp} {s:Shared} {p:Addr} {xs:List V} (I:Inv X pins σ H s) (h:H p=some (.lst xs)) :
  ∃ (its:List Value) (n:Nat),Vals xs its/\s.heap.get? p=some { cls:=.type "list",data:=.seq its.toArray n }/\xs.length≤sizeLine:=by
 obtain ⟨z,its,n,r,e⟩:=I.hok p _ h
 exact ⟨its,n,r,e,z⟩
theorem Inv.lstUpd {pins:List (Addr×Obj)} {σ:St} {H:Hp} {s:Shared} {p:Addr} {xs ys:List V} {its its':List Value} {n n':Nat} {f:Obj->Obj} (I:Inv X pins σ H s) (h:H p=some (.lst xs))
  (ho:s.heap.get? p=some { cls:=.type "list",data:=.seq its.toArray n }) (hf:f { cls:=.type "list",data:=.seq its.toArray n }={ cls:=.type "list",data:=.seq its'.toArray n' }) (r:Vals ys its') (hz:ys.length≤sizeLine) (t:Nat) :
  Inv X pins σ (upd H p (.lst ys)) { s with heap:=s.heap.update p f,toks:=t }:=by
 have e:(s.heap.update p f).get? p=some { cls:=.type "list",data:=.seq its'.toArray n' }:=by
  rw [Heap.get?_update_self f ho (by rw [hf] <;> rfl),hf]
 refine I.write (x:=p) (e:=p) (by rw [h];trivial) (.inl rfl) (fun b u hb q=>(Heap.get?_update_other _ _ (Ne.symm hb)).trans q) ⟨_,e⟩ ?_
 exact ⟨hz,its',n',r,e⟩
noncomputable def rSetL:V->V->V->Hp->(Hp->Prop)->Prop:=fun o i v H Q=>∃ p xs k j,o=.ref p/\i=.int k/\H p=some (.lst xs)/\ixN xs.length k=some j/\Q (upd H p (.lst (xs.set j v)))
theorem set_list:PSet X rSetL:=by
 intro pins s σ H o i v ov iv u Q I ro ri rv h
 obtain ⟨p,xs,k,j,rfl,rfl,hp,hj,q⟩:=h
 cases ro
 obtain ⟨t,rfl⟩:=ri
 obtain ⟨its,n,r,ho,hz⟩:=I.lst hp
 obtain ⟨h1,h2,h3,h4⟩:=ixN_seq hj
 have hl:=r.length
 have hn:=line63
 have I':Inv X pins σ (upd H p (.lst (xs.set j v))) { s with heap:=s.heap.update p (Obj.mapSeq (·.setIfInBounds j u)) } :=
  I.lstUpd hp ho (mapSeq_set its n j u) (r.set rv j) (by rw [List.length_set];exact hz) s.toks
 by_cases h0:0≤k
 ·have hk:k.toNat=j:=by
   rw [seqIndex_of h0 h4] at h1
   exact Option.some.inj h1
  exact PySem.W.ki_setAt ho h0 (by lia) (by rw [List.size_toArray,←hl];exact h4) (by rw [hk];exact ⟨_,I',q⟩)
 ·have hk:(k+(its.toArray.size:Int)).toNat=j:=by
   rw [seqIndex_neg (by lia) h3] at h1
   rw [List.size_toArray,←hl]
   exact Option.some.inj h1
  exact PySem.W.ki_setBack ho (by lia) (by rw [List.size_toArray,←hl];exact h3) (by lia) (by rw [hk];exact ⟨_,I',q⟩)
theorem slice_bounds (lo hi:Option Int) (n:Nat):(sliceBounds lo hi none n).1=((HT.sIx n 0 lo:Nat):Int)/\(sliceBounds lo hi none n).2.1=((HT.sIx n n hi:Nat):Int)/\(sliceBounds lo hi none n).2.2=1:=by
 refine ⟨?_,?_,rfl⟩
 ·cases lo with
  | none=>simp [sliceBounds,HT.sIx]
  | some i =>
   simp only [sliceBounds,HT.sIx,Option.getD_none,show (1:Int) > 0 by decide,if_true]
   by_cases h:i < 0
   ·simp only [h,if_true] <;> lia
   ·simp only [h,if_false] <;> lia
 ·cases hi with
  | none=>simp [sliceBounds,HT.sIx]
  | some i =>
   simp only [sliceBounds,HT.sIx,Option.getD_none,show (1:Int) > 0 by decide,if_true]
   by_cases h:i < 0
   ·simp only [h,if_true] <;> lia
   ·simp only [h,if_false] <;> lia
theorem slicePick_cut (its:List Value) (lo hi:Option Int):slicePick its.toArray lo hi none=((its.drop (HT.sIx its.length 0 lo)).take (HT.sIx its.length its.length hi - HT.sIx its.length 0 lo)).toArray:=by
 obtain ⟨h1,h2,h3⟩:=slice_bounds lo hi its.toArray.size
 unfold slicePick
 rw [h1,h2,h3]
 simp only [sliceRange_one,pick_run,List.size_toArray] <;> rfl
noncomputable def rSlL (K:PySem.W.Frag):V->Option Int->Option Int->Hp->VK->Prop:=fun x lo hi H Q=>∃ a xs,x=.ref a/\SqL K H a xs/\∀ p,H p=none->Q (.ref p) (upd H p (.lst (cutV xs lo hi)))
theorem sl_list:SlR X (rSlL X.K):=by
 intro pins s σ H x v vl vu lo hi sl Q I rx hs pl pu h
 obtain ⟨a,xs,rfl,hx,q⟩:=h
 cases rx
 obtain ⟨its,r,ht,hz⟩:=I.list hx
 have hlen:=r.length
 refine ⟨"list",_,slot_list_getitem.lookup,ht.isList.typeIs,?_⟩
 refine wpAny_getItem_list_slice ht.isList hs pl pu .none (by simp) ?_ (by rw [List.size_toArray] <;> lia)
 rw [slicePick_cut,←hlen]
 refine ⟨.ref s.heap.objs.size,_,I.laid (t':=s.toks) (o:=.lst (cutV xs lo hi)) (fun b ob q=>Heap.get?_push_of_some _ q) (Nat.le_refl _) ?_,rfl,q _ (I.hok.fresh (Nat.le_refl _))⟩
 exact ⟨Nat.le_trans (cutV_length xs lo hi) hz,_,0,(r.drop (HT.sIx xs.length 0 lo)).take (HT.sIx xs.length xs.length hi - HT.sIx xs.length 0 lo),Heap.get?_push_size _ rfl⟩
noncomputable def flatV:V->Bool
 | .non=>true
 | .bl _=>true
 | .int _=>true
 | .str _=>true
 | _=>false
noncomputable def eqV:V->V->Bool
 | .non,.non=>true
 | .bl a,.bl b=>a==b
 | .bl a,.int b=>(if a then 1 else 0)==b
 | .int a,.bl b=>a==(if b then 1 else 0)
 | .int a,.int b=>a==b
 | .str a,.str b=>a==b
 | _,_=>false
theorem eqAt_V {A:Around} {s:Shared} {y x:V} {u v:Value} (ry:RelV y u) (rx:RelV x v) (fy:flatV y=true) (fx:flatV x=true):SeqAt.EqAt A s u v (eqV y x):=by
 cases y with
 | non =>
  cases ry
  cases x with
  | non=>cases rx;exact SeqAt.EqAt.same _
  | bl b=>cases rx;exact SeqAt.EqAt.none_bool b
  | int b=>obtain ⟨t,rfl⟩:=rx;exact SeqAt.EqAt.none_int b t
  | str b=>obtain ⟨t,rfl⟩:=rx;exact SeqAt.EqAt.none_str b t
  | _=>exact absurd (show false=true from fx) Bool.false_ne_true
 | bl a =>
  cases ry
  cases x with
  | non=>cases rx;exact SeqAt.EqAt.bool_none a
  | bl b=>cases rx;exact SeqAt.EqAt.bool_bool a b
  | int b=>obtain ⟨t,rfl⟩:=rx;exact SeqAt.EqAt.bool_int a b t
  | str b=>obtain ⟨t,rfl⟩:=rx;exact SeqAt.EqAt.bool_str a b t
  | _=>exact absurd (show false=true from fx) Bool.false_ne_true
 | int a =>
  obtain ⟨t',rfl⟩:=ry
  cases x with
  | non=>cases rx;exact SeqAt.EqAt.int_none a t'
  | bl b=>cases rx;exact SeqAt.EqAt.int_bool a t' b
  | int b=>obtain ⟨t,rfl⟩:=rx;exact SeqAt.EqAt.int_int a t' b t
  | str b=>obtain ⟨t,rfl⟩:=rx;exact SeqAt.EqAt.int_str a t' b t
  | _=>exact absurd (show false=true from fx) Bool.false_ne_true
 | str a =>
  obtain ⟨t',rfl⟩:=ry
  cases x with
  | non=>cases rx;exact SeqAt.EqAt.str_none a t'
  | bl b=>cases rx;exact SeqAt.EqAt.str_bool a t' b
  | int b=>obtain ⟨t,rfl⟩:=rx;exact SeqAt.EqAt.str_int a t' b t
  | str b=>obtain ⟨t,rfl⟩:=rx;exact SeqAt.EqAt.str_str a t' b t
  | _=>exact absurd (show false=true from fx) Bool.false_ne_true
 | _=>exact absurd (show false=true from fy) Bool.false_ne_true
noncomputable def eqU (x:V) (u:Value):Bool:=match u with
 | .none=>eqV .non x
 | .bool b=>eqV (.bl b) x
 | .int i _=>eqV (.int i) x
 | .str z _=>eqV (.str z) x
 | _=>false
theorem eqU_of {x y:V} {u:Value} (r:RelV y u) (f:flatV y=true):eqU x u=eqV y x:=by
 cases y with
 | non=>cases r;rfl
 | bl b=>cases r;rfl
 | int i=>obtain ⟨t,rfl⟩:=r;rfl
 | str z=>obtain ⟨t,rfl⟩:=r;rfl
 | _=>exact absurd (show false=true from f) Bool.false_ne_true
theorem any_eqU {x:V}:∀ {xs:List V} {us:List Value},Vals xs us->xs.all flatV=true->us.any (eqU x)=xs.any fun y=>eqV y x
 | _,_,.nil,_=>rfl
 | y :: xs,u :: us,.cons r t,f=>by
  rw [List.all_cons,Bool.and_eq_true] at f
  rw [List.any_cons,List.any_cons,eqU_of r f.1,any_eqU t f.2]
theorem mem_eqAt {A:Around} {s:Shared} {x:V} {v:Value} (rx:RelV x v) (fx:flatV x=true):∀ {xs:List V} {us:List Value},Vals xs us->xs.all flatV=true->∀ u∈us,SeqAt.EqAt A s u v (eqU x u)
 | _,_,.nil,_=>fun u hu=>by cases hu
 | y :: xs,u :: us,.cons r t,f=>fun u' hu=>by
  rw [List.all_cons,Bool.and_eq_true] at f
  rcases List.mem_cons.mp hu with rfl | hu
  ·rw [eqU_of r f.1];exact eqAt_V r rx f.1 fx
  ·exact mem_eqAt rx fx t f.2 u' hu
noncomputable def inV (x:V) (xs:List V):Bool:=xs.any fun y=>eqV y x
noncomputable def rIn (K:PySem.W.Frag) (neg:Bool):R2:=fun x y H Q=>∃ p xs,y=.ref p/\(SqL K H p xs\/SqT K H p xs)/\flatV x=true/\xs.all flatV=true/\Q (.bl (if neg then !inV x xs else inV x xs)) H
theorem op_notIn_seq:OpR X (compareOp .NotIn) (rIn X.K true):=by
 intro pins s σ H x y v u Q I rx ry h
 obtain ⟨p,xs,rfl,hq,fx,fs,q⟩:=h
 cases ry
 rcases hq with hq | hq
 ·obtain ⟨its,r,pl,hz⟩:=I.list hq
  refine SeqAt.notIn_listAt (eqU x) pl.isList (fun w hw=>mem_eqAt rx fx r fs w (by simpa using hw)) ⟨.bl _,H,I,rfl,?_⟩
  rw [show its.toArray.any (eqU x)=its.any (eqU x) by simp,any_eqU r fs]
  exact q
 ·obtain ⟨its,r,pl,hz⟩:=I.tuple hq
  refine SeqAt.notIn_tupleAt (eqU x) pl (fun w hw=>mem_eqAt rx fx r fs w (by simpa using hw)) ⟨.bl _,H,I,rfl,?_⟩
  rw [show its.toArray.any (eqU x)=its.any (eqU x) by simp,any_eqU r fs]
  exact q
theorem call_len_seq:CallR X (.builtin "len") (fun xs H Q=>∃ p ys,xs=[.ref p]/\(SqL X.K H p ys\/SqT X.K H p ys)/\Q (.int ys.length) H):=by
 intro pins s σ H xs us Q I r h
 obtain ⟨p,ys,rfl,hq,q⟩:=h
 obtain ⟨u,rfl,rx⟩:=vals1 r
 cases rx
 have hn:=line63
 rcases hq with hq | hq
 ·obtain ⟨its,r',pl,hz⟩:=I.list hq
  have hlen:=r'.length
  exact Calls.call_len_list pl.isList (by simp only [List.size_toArray] <;> lia) ⟨.int ys.length,H,I.tok _,⟨s.toks+1,by rw [List.size_toArray,hlen]⟩,q⟩
 ·obtain ⟨its,r',pl,hz⟩:=I.tuple hq
  have hlen:=r'.length
  exact len_tuple pl (by simp only [List.size_toArray] <;> lia) ⟨.int ys.length,H,I.tok _,⟨s.toks+1,by rw [List.size_toArray,hlen]⟩,q⟩
theorem call_list_of:CallR X (.type "list") (fun xs H Q=>∃ p ys,xs=[.ref p]/\(SqL X.K H p ys\/SqT X.K H p ys)/\∀ l,H l=none->Q (.ref l) (upd H l (.lst ys))):=by
 intro pins s σ H xs us Q I r h
 obtain ⟨p,ys,rfl,hq,q⟩:=h
 obtain ⟨u,rfl,rx⟩:=vals1 r
 cases rx
 have fin:∀ (its:List Value),Vals ys its->ys.length≤sizeLine->∀ (h':Heap) (c':Nat),(∀ b o',s.heap.get? b=some o'->h'.get? b=some o') ->
   h'.get? s.heap.objs.size=some { cls:=.type "list",dict:=none,data:=.seq its.toArray c',slots:=#[] }->EP X pins σ Q (.ref s.heap.objs.size) { s with heap:=h' }:=fun its r' hz h' c' kp e =>
  ⟨.ref s.heap.objs.size,_,I.laid (t':=s.toks) kp (Nat.le_refl _) (show ObjOk X.prog X.w _ h' _ (.lst ys) from ⟨hz,its,c',r',e⟩),rfl,q _ (I.hok.fresh (Nat.le_refl _))⟩
 rcases hq with hq | hq
 ·obtain ⟨its,r',pl,hz⟩:=I.list hq
  have hlen:=r'.length
  obtain ⟨o,ho,hc,n,hd⟩:=pl.isList
  exact call_list_seq p (.inl rfl) ho hc hd (fun h' c' kp e=>fin its r' hz h' c' kp e) (by simp only [List.size_toArray] <;> lia)
 ·obtain ⟨its,r',pl,hz⟩:=I.tuple hq
  have hlen:=r'.length
  obtain ⟨o,ho,hc,n,hd⟩:=pl
  exact call_list_seq p (.inr rfl) ho hc hd (fun h' c' kp e=>fin its r' hz h' c' kp e) (by simp only [List.size_toArray] <;> lia)
theorem call_tuple_of:CallR X (.type "tuple") (fun xs H Q=>∃ p ys,xs=[.ref p]/\((SqL X.K H p ys/\∀ l,H l=none->Q (.ref l) (upd H l (.tup ys)))\/(SqT X.K H p ys/\Q (.ref p) H))):=by
 intro pins s σ H xs us Q I r h
 obtain ⟨p,ys,rfl,h⟩:=h
 obtain ⟨u,rfl,rx⟩:=vals1 r
 cases rx
 rcases h with ⟨hq,q⟩ | ⟨hq,q⟩
 ·obtain ⟨its,r',pl,hz⟩:=I.list hq
  have hlen:=r'.length
  refine call_tuple_list pl.isList (fun h' kp=>?_) (by simp only [List.size_toArray] <;> lia)
  have I1:Inv X pins σ H { s with heap:=h' }:=I.kept (t':=s.toks) kp
  have I2:Inv X pins σ (upd H h'.objs.size (.tup ys)) { s with heap:=h'.push { cls:=.type "tuple",data:=.seq its.toArray } } :=
   I1.laid (t':=s.toks) (fun b o e=>Heap.get?_push_of_some _ e) (Nat.le_refl _) (show ObjOk X.prog X.w _ _ _ (.tup ys) from ⟨hz,its,r',IsTup.new _ _⟩)
  exact ⟨.ref h'.objs.size,_,I2,rfl,q _ (I1.hok.fresh (Nat.le_refl _))⟩
 ·obtain ⟨its,r',pl,hz⟩:=I.tuple hq
  exact call_tuple_same pl ⟨.ref p,H,I,rfl,q⟩
noncomputable def tyV (K:PySem.W.Frag) (T:String) (x:V) (H:Hp):Prop:=match x with
 | .str _=>T="str"
 | .int _=>T="int"
 | .ref p=>(T="list"/\∃ xs,SqL K H p xs)\/(T="tuple"/\∃ o,K.lookup p=some o/\o.cls=.type "tuple"/\o.dict=none) \/
   (T="dict"/\((∃ kvs,H p=some (.dK kvs))\/∃ kvs,H p=some (.dT kvs)))\/(T="set"/\∃ S n,H p=some (.set S n))
 | _=>False
theorem tyV_is {pins:List (Addr×Obj)} {σ:St} {H:Hp} {s:Shared} {T:String} {x:V} {v:Value} (I:Inv X pins σ H s) (r:RelV x v) (ty:tyV X.K T x H) :
  s.TypeIs v T/\∀ a,v=.ref a->∃ ob,s.heap.get? a=some ob/\ob.dict=none:=by
 cases x with
 | str z =>
  obtain ⟨t,rfl⟩:=r
  cases (show T="str" from ty)
  exact ⟨typeIs_str s z t,fun _ e=>nomatch e⟩
 | int i =>
  obtain ⟨t,rfl⟩:=r
  cases (show T="int" from ty)
  exact ⟨typeIs_int s i t,fun _ e=>nomatch e⟩
 | ref p =>
  cases r
  rcases ty with ⟨rfl,xs,hq⟩ | ⟨rfl,o,hk,hc,hd⟩ | ⟨rfl,hk⟩ | ⟨rfl,S,n,hk⟩
  ·obtain ⟨its,_,pl,_⟩:=I.list hq
   refine ⟨pl.isList.typeIs,fun a e=>?_⟩
   cases e
   obtain ⟨o,n,e,c,hd,_⟩:=pl
   exact ⟨o,e,hd⟩
  ·refine ⟨⟨o,I.kIn p o hk,hc⟩,fun a e=>?_⟩
   cases e
   exact ⟨o,I.kIn _ o hk,hd⟩
  ·have z:∃ o,s.heap.get? p=some o/\o.ExactDict:=by
    rcases hk with ⟨kvs,hk⟩ | ⟨kvs,hk⟩
    ·obtain ⟨_,_,_,_,o,_,_,e,ex,_⟩:=I.hok p _ hk
     exact ⟨o,e,ex⟩
    ·obtain ⟨_,_,_,_,o,_,_,e,ex,_⟩:=I.hok p _ hk
     exact ⟨o,e,ex⟩
   obtain ⟨o,e,ex⟩:=z
   refine ⟨⟨o,e,ex.1⟩,fun a e2=>?_⟩
   cases e2
   exact ⟨o,e,ex.2.1⟩
  ·obtain ⟨o,_,_,_,e,ex,_⟩:=I.hok p _ hk
   refine ⟨⟨o,e,ex.1⟩,fun a e2=>?_⟩
   cases e2
   exact ⟨o,e,ex.2.1⟩
 | _=>exact False.elim ty
noncomputable def tBM0 (K:PySem.W.Frag) (T:String) (r:V->List V->Hp->VK->Prop) (to:TE):TE:=fun σ H Q=>to σ H fun x H1=>tyV K T x H1/\r x [] H1 Q
noncomputable def tBM (K:PySem.W.Frag) (T:String) (r:V->List V->Hp->VK->Prop) (to:TE) (t:TA):TE:=fun σ H Q=>to σ H fun x H1=>tyV K T x H1/\t σ H1 fun xs H2=>r x xs H2 Q
variable {o e:Expr} {es:List Expr} {to:TE} {t:TA} {name:Str} {apos cpos:Pos} {T id:String} {r:V->List V->Hp->VK->Prop}
theorem pe_bm0 (pa:PlainAttrs T) (slot:Slot T name id) (hty:typeOf (.builtin id)=pure (.type "method_descriptor")) (hm:MtR X id r) (ho:PE X o to)
  (hbase:attributeBase o name X.env (eval o X.env)=eval o X.env:=by rfl) (hline:(apos.endLine==cpos.line)=true:=by rfl):PE X (.Call (.Attribute o name apos) [] [] cpos) (tBM0 X.K T r to):=by
 intro pins s σ H Q I h
 refine wpAny_Call_method0_late hbase hline (thn (ho pins s σ H _ I h) fun v s1 ⟨x,H1,I1,r1,ty,q1⟩=>?_)
 obtain ⟨h1,h2⟩:=tyV_is I1 r1 ty
 exact ⟨T,id,pa,slot,hty,h1,h2,Calls.callWith_builtin rfl (PySem.evalArgs_none (hm pins s1 σ H1 x [] v [] Q I1 r1 .nil q1))⟩
theorem pe_bm (pa:PlainAttrs T) (slot:Slot T name id) (hty:typeOf (.builtin id)=pure (.type "method_descriptor")) (hm:MtR X id r) (ho:PE X o to) (ha:PA X (e :: es) t)
  (hbase:attributeBase o name X.env (eval o X.env)=eval o X.env:=by rfl)
  (hfew:((backTo cpos (starEach (e :: es) X.env)).all (fun x=>!x.1)&&(backToKw cpos (keywordEach [] X.env)).all (fun x=>x.1.isSome)
   && decide ((e :: es).length+([]:List Keyword).length+(if ([]:List Keyword).isEmpty then 0 else 1) < 30))=true:=by rfl)
  (hline:(apos.endLine==cpos.line)=true:=by rfl) (hs:starEach (e :: es) X.env=(false,eval e X.env) :: starEach es X.env:=by rfl) (hplain:(backTo cpos (starEach es X.env)).any (·.1)=false:=by rfl) :
  PE X (.Call (.Attribute o name apos) (e :: es) [] cpos) (tBM X.K T r to t):=by
 intro pins s σ H Q I h
 refine wpAny_Call_method_late hbase hfew hline rfl (thn (ho pins s σ H _ I h) fun v s1 ⟨x,H1,I1,r1,ty,q1⟩=>?_)
 obtain ⟨h1,h2⟩:=tyV_is I1 r1 ty
 refine ⟨T,id,pa,slot,hty,h1,h2,?_⟩
 have hA:=ha cpos pins s1 σ H1 _ I1 q1
 rw [hs] at hA ⊢
 refine Calls.callWith_builtin (by show (false||(backTo cpos (starEach es X.env)).any (·.1))=false;rw [hplain] <;> rfl) (Calls.evalArgs_plain ?_)
 exact thn hA fun us s2 ⟨vs,H2,I2,r2,q2⟩=>hm pins s2 σ H2 x vs v us Q I2 r1 r2 q2
end
noncomputable def MtM (X:Cx) (id:String) (r:V->List V->Hp->VK->Prop):Prop :=
 ∀ (pins:List (Addr×Obj)) (s:Shared) (σ:St) (H:Hp) (x:V) (xs:List V) (v:Value) (us:List Value) (Q:VK),Inv X pins σ H s->RelV x v->Vals xs us->r x xs H Q ->
  wpAny (model X.prog X.w) X.A (call (.builtin id) (v :: us)) (EP X pins σ Q) X.xe s
theorem Vals.one:∀ {x:V} {us:List Value},Vals [x] us->∃ u,us=[u]/\RelV x u
 | _,_,.cons r .nil=>⟨_,rfl,r⟩
section
variable {X:Cx} {pins:List (Addr×Obj)} {σ:St} {H:Hp} {s:Shared} {l b:Addr} {xs ys zs:List V}
theorem Inv.lset {its its':List Value} {n:Nat} {f:Array Value->Array Value} {t':Nat} (I:Inv X pins σ H s) (hH:H l=some (.lst xs))
  (e:s.heap.get? l=some { cls:=.type "list",data:=.seq its.toArray n }) (hf:f its.toArray=its'.toArray) (hv:Vals ys its') (hz:ys.length≤sizeLine) :
  Inv X pins σ (upd H l (.lst ys)) { s with heap:=s.heap.update l (Obj.mapSeq f),toks:=t' }:=by
 have q:=PySem.IsL.update e f
 rw [hf] at q
 refine I.write (x:=l) (e:=l) (by rw [hH];exact trivial) (.inl rfl) (fun b' u hb hu=>(Heap.get?_update_other s.heap (Obj.mapSeq f) (Ne.symm hb)).trans hu) ⟨_,q⟩ ?_
 exact ⟨hz,its',_,hv,q⟩
theorem Inv.lnew {its:List Value} {t':Nat} (I:Inv X pins σ H s) (hv:Vals ys its) (hz:ys.length≤sizeLine) :
  Inv X pins σ (upd H s.heap.objs.size (.lst ys)) { s with heap:=s.heap.push { cls:=.type "list",data:=.seq its.toArray },toks:=t' } :=
 I.laid (fun _ _ q=>Heap.get?_push_of_some _ q) (Nat.le_refl _) ⟨hz,its,0,hv,Heap.get?_push_size _ rfl⟩
theorem Inv.fresh (I:Inv X pins σ H s):H s.heap.objs.size=none:=I.hok.fresh (Nat.le_refl _)
theorem Inv.lstM (I:Inv X pins σ H s) (hH:H l=some (.lst xs)):xs.length≤sizeLine/\∃ (its:List Value) (n:Nat),Vals xs its/\xs.length=its.length/\s.heap.get? l=some { cls:=.type "list",data:=.seq its.toArray n }:=by
 obtain ⟨z,its,n,r,e⟩:=I.hok l _ hH
 exact ⟨z,its,n,r,r.length,e⟩
theorem notLongL {n:Nat} (h:n≤sizeLine):Builtin.List.listTooLong n=false:=by
 unfold Builtin.List.listTooLong
 exact decide_eq_false (by lia)
end
section
variable {X:Cx}
noncomputable def rAppend:V->List V->Hp->VK->Prop:=fun x vs H Q=>∃ l xs y,x=.ref l/\vs=[y]/\H l=some (.lst xs)/\xs.length < sizeLine/\Q .non (upd H l (.lst (xs ++ [y])))
theorem mt_append:MtM X "list.append" rAppend:=by
 intro pins s σ H x vs v us Q I rx rv h
 obtain ⟨l,xs,y,rfl,rfl,hH,hz,q⟩:=h
 cases rx
 obtain ⟨u,rfl,ru⟩:=rv.one
 obtain ⟨z,its,n,r,hl,e⟩:=I.lstM hH
 refine call_meets F.slot_list_append ⟨_,e,rfl⟩ F.entry_list_append (F.args_list_append_2 _ _) (PySem.list_append l its.toArray n u (by rw [List.size_toArray];lia)) ⟨e,?_⟩
 refine ⟨.non,_,I.lset (its':=its ++ [u]) hH e (by simp) (r.append (.cons ru .nil)) ?_,rfl,q⟩
 rw [List.length_append,List.length_singleton]
 lia
noncomputable def rExtend:V->List V->Hp->VK->Prop:=fun x vs H Q=>∃ l b xs zs,x=.ref l/\vs=[.ref b]/\H l=some (.lst xs)/\H b=some (.lst zs)/\xs.length+zs.length≤sizeLine/\Q .non (upd H l (.lst (xs ++ zs)))
theorem mt_extend:MtM X "list.extend" rExtend:=by
 intro pins s σ H x vs v us Q I rx rv h
 obtain ⟨l,b,xs,zs,rfl,rfl,hH,hB,hz,q⟩:=h
 cases rx
 obtain ⟨u,rfl,ru⟩:=rv.one
 cases ru
 obtain ⟨z,its,n,r,hl,e⟩:=I.lstM hH
 obtain ⟨z2,its2,n2,r2,hl2,e2⟩:=I.lstM hB
 have hsz:its.toArray.size+its2.toArray.size≤sizeLine:=by rw [List.size_toArray,List.size_toArray];lia
 have hlong:¬ (!its.toArray.isEmpty&&Builtin.List.listTooLong (its.toArray.size+its2.toArray.size))=true:=by
  rw [notLongL hsz,Bool.and_false]
  exact Bool.false_ne_true
 refine call_meets F.slot_list_extend ⟨_,e,rfl⟩ F.entry_list_extend (F.args_list_extend_2 _ _)
  (AutoSeq1.list_extend_list_list_0 l its.toArray n b its2.toArray n2 hlong (by rw [List.size_toArray];lia) (by lia)) ⟨e,e2,?_⟩
 refine ⟨.non,_,I.lset (its':=its ++ its2) hH e (by simp) (r.append r2) ?_,rfl,q⟩
 rw [List.length_append]
 omega
noncomputable def rCat:R2:=fun x y H Q=>∃ l b xs zs,x=.ref l/\y=.ref b/\H l=some (.lst xs)/\H b=some (.lst zs)/\xs.length+zs.length≤sizeLine/\∀ p,H p=none->Q (.ref p) (upd H p (.lst (xs ++ zs)))
theorem op_cat:OpR X (binaryOp .Add) rCat:=by
 intro pins s σ H x y v u Q I rx ry h
 obtain ⟨l,b,xs,zs,rfl,rfl,hH,hB,hz,q⟩:=h
 cases rx
 cases ry
 obtain ⟨z,its,n,r,hl,e⟩:=I.lstM hH
 obtain ⟨z2,its2,n2,r2,hl2,e2⟩:=I.lstM hB
 refine PySem.P.add_list e e2 ?_ (by rw [List.size_toArray,List.size_toArray];lia)
 have ea:its.toArray ++ its2.toArray=(its ++ its2).toArray:=by simp
 rw [ea]
 exact ⟨.ref _,_,I.lnew (t':=s.toks) (r.append r2) (by rw [List.length_append];omega),rfl,q _ I.fresh⟩
end
section
variable {κ:Type} [DecidableEq κ]
noncomputable def valV (kvs:List (κ×V)) (k:κ):Option V:=(kvs.find? fun kv=>decide (kv.1=k)).map (·.2)
noncomputable def putK (kvs:List (κ×V)) (k:κ) (v:V):List (κ×V) :=
 if (kvs.any fun kv=>decide (kv.1=k))=true then kvs.map (fun kv=>if kv.1=k then (kv.1,v) else kv) else kvs ++ [(k,v)]
noncomputable def dropK (kvs:List (κ×V)) (k:κ):List (κ×V):=kvs.filter fun kv=>decide (kv.1≠k)
theorem valV_pos {p:κ×V} {r:List (κ×V)} {k:κ} (e:p.1=k):valV (p :: r) k=some p.2:=by simp [valV,List.find?_cons,e]
theorem valV_neg {p:κ×V} {r:List (κ×V)} {k:κ} (e:¬ p.1=k):valV (p :: r) k=valV r k:=by simp [valV,List.find?_cons,e]
theorem valV_any (k:κ):∀ kvs:List (κ×V),(kvs.any fun kv=>decide (kv.1=k))=(valV kvs k).isSome
 | []=>rfl
 | p :: r=>by
  rw [List.any_cons]
  by_cases e:p.1=k
  ·simp only [valV_pos e,decide_eq_true e,Bool.true_or,Option.isSome_some]
  ·rw [valV_neg e,decide_eq_false e,Bool.false_or];exact valV_any k r
theorem valV_map (k j:κ) (y:V):∀ kvs:List (κ×V),valV (kvs.map fun kv=>if kv.1=k then (kv.1,y) else kv) j=(valV kvs j).map fun x=>if j=k then y else x
 | []=>rfl
 | p :: r=>by
  have ih:=valV_map k j y r
  rw [List.map_cons]
  by_cases h:p.1=k
  ·rw [if_pos h]
   by_cases e:p.1=j
   ·rw [valV_pos (p:=(p.1,y)) e,valV_pos e,Option.map_some,if_pos (e.symm.trans h)]
   ·rw [valV_neg (p:=(p.1,y)) e,valV_neg e,ih]
  ·rw [if_neg h]
   by_cases e:p.1=j
   ·rw [valV_pos (p:=p) e,valV_pos e,Option.map_some,if_neg (fun z=>h (e.trans z))]
   ·rw [valV_neg (p:=p) e,valV_neg e,ih]
theorem valV_snoc (k j:κ) (y:V):∀ kvs:List (κ×V),valV kvs k=none->valV (kvs ++ [(k,y)]) j=if j=k then some y else valV kvs j
 | [],_=>by
  by_cases e:k=j
  ·rw [if_pos e.symm];exact valV_pos (p:=(k,y)) e
  ·rw [if_neg (fun z=>e z.symm)];exact valV_neg (p:=(k,y)) e
 | p :: r,hn=>by
  rw [List.cons_append]
  have hk:¬ p.1=k:=fun z=>by rw [valV_pos z] at hn;cases hn
  rw [valV_neg hk] at hn
  have ih:=valV_snoc k j y r hn
  by_cases e:p.1=j
  ·rw [valV_pos e,valV_pos e,if_neg (fun z=>hk (e.trans z))]
  ·rw [valV_neg e,valV_neg e,ih]
theorem valV_put (kvs:List (κ×V)) (k j:κ) (y:V):valV (putK kvs k y) j=if j=k then some y else valV kvs j:=by
 unfold putK
 by_cases a:(kvs.any fun kv=>decide (kv.1=k))=true
 ·rw [if_pos a,valV_map]
  rw [valV_any] at a
  by_cases e:j=k
  ·obtain ⟨x,hx⟩:=Option.isSome_iff_exists.mp a
   rw [if_pos e,e,hx,Option.map_some,if_pos rfl]
  ·rw [if_neg e]
   cases valV kvs j with
   | none=>rfl
   | some x=>rw [Option.map_some,if_neg e]
 ·rw [if_neg a]
  refine valV_snoc k j y kvs ?_
  rw [valV_any] at a
  cases q:valV kvs k with
  | none=>rfl
  | some x=>rw [q] at a;exact (a rfl).elim
theorem length_putK (kvs:List (κ×V)) (k:κ) (v:V):(putK kvs k v).length≤kvs.length+1:=by
 unfold putK
 split
 ·rw [List.length_map];lia
 ·rw [List.length_append,List.length_cons,List.length_nil];lia
theorem putK_new {kvs:List (κ×V)} {k:κ} (v:V) (h:valV kvs k=none):putK kvs k v=kvs ++ [(k,v)]:=by
 unfold putK
 rw [valV_any,h]
 exact if_neg (by decide)
theorem RelO.isSome_eq {o:Option V} {u:Option Value} (r:RelO o u):o.isSome=u.isSome:=by
 cases o with
 | none=>cases u with
  | none=>rfl
  | some _=>exact (show False from r).elim
 | some _=>cases u with
  | none=>exact (show False from r).elim
  | some _=>rfl
theorem KV.val {kvs:List (κ×V)} {vs:List (κ×Value)} (r:KV kvs vs) (k:κ):RelO (valV kvs k) (valueAt vs k):=by
 unfold KV at r
 induction r with
 | nil=>exact True.intro
 | @cons p q ps qs h t ih =>
  obtain ⟨h1,h2⟩:=h
  by_cases e:p.1=k
  ·have e':q.1=k:=h1.symm.trans e
   have b:valueAt (q :: qs) k=some q.2:=by simp [valueAt,List.find?_cons,e']
   rw [valV_pos e,b];exact h2
  ·have e':¬ q.1=k:=fun z=>e (h1.trans z)
   have b:valueAt (q :: qs) k=valueAt qs k:=by simp [valueAt,List.find?_cons,e']
   rw [valV_neg e,b];exact ih
theorem KV.any {kvs:List (κ×V)} {vs:List (κ×Value)} (r:KV kvs vs) (k:κ):(kvs.any fun kv=>decide (kv.1=k))=vs.any fun kv=>decide (kv.1=k):=by
 unfold KV at r
 induction r with
 | nil=>rfl
 | cons h t ih=>rw [List.any_cons,List.any_cons,ih,h.1]
theorem KV.repl {kvs:List (κ×V)} {vs:List (κ×Value)} (r:KV kvs vs) (k:κ) {y:V} {u:Value} (ry:RelV y u) :
  KV (kvs.map fun kv=>if kv.1=k then (kv.1,y) else kv) (vs.map fun kv=>if kv.1=k then (kv.1,u) else kv):=by
 unfold KV at r ⊢
 induction r with
 | nil=>exact .nil
 | @cons p q ps qs h t ih =>
  rw [List.map_cons,List.map_cons]
  refine .cons ?_ ih
  obtain ⟨h1,h2⟩:=h
  by_cases e:p.1=k
  ·rw [if_pos e,if_pos (h1.symm.trans e)];exact ⟨h1,ry⟩
  ·rw [if_neg e,if_neg (fun z=>e (h1.trans z))];exact ⟨h1,h2⟩
theorem KV.put {kvs:List (κ×V)} {vs:List (κ×Value)} (r:KV kvs vs) (k:κ) {y:V} {u:Value} (ry:RelV y u):KV (putK kvs k y) (stored vs k u):=by
 unfold putK stored
 rw [r.any k]
 by_cases e:(vs.any fun kv=>decide (kv.1=k))=true
 ·rw [if_pos e,if_pos e];exact r.repl k ry
 ·rw [if_neg e,if_neg e];exact Paired.snoc r ⟨rfl,ry⟩
theorem KV.length {kvs:List (κ×V)} {vs:List (κ×Value)} (r:KV kvs vs):kvs.length=vs.length:=Paired.length r
theorem dropK_le (kvs:List (κ×V)) (k:κ):(dropK kvs k).length≤kvs.length:=List.length_filter_le _ _
end
theorem kV_is {P:Program} {w:World} {k:Key} {u:Value} (r:RelV (kV k) u):(mixKind P w).is k u=true:=by
 cases k with
 | inl i=>obtain ⟨t,e⟩:=(show ∃ t,u=Value.int i t from r);subst e;exact mixKind_int P w i t
 | inr x=>obtain ⟨t,e⟩:=(show ∃ t,u=Value.str x t from r);subst e;exact mixKind_str P w x t
theorem items_are {P:Program} {w:World}:∀ {ks:List Key} {us:List Value},Vals (ks.map kV) us->ItemsAre (mixKind P w) ks us
 | [],_,r=>by rw [List.map_nil] at r;cases r;exact .nil
 | k :: ks,_,r=>by
  rw [List.map_cons] at r
  cases r with
  | cons h t=>exact .cons (kV_is h) (items_are t)
noncomputable abbrev KT (H:Hp):List (List Key×V)->List (List Key×Addr×Value)->Prop:=Paired fun p q=>p.1=q.1/\H q.2.1=some (.tup (p.1.map kV))/\RelV p.2 q.2.2
theorem KT.val {H:Hp} {kvs:List (List Key×V)} {xs:List (List Key×Addr×Value)} (r:KT H kvs xs) (k:List Key):RelO (valV kvs k) ((atKey xs k).map (·.2)):=by
 induction r with
 | nil=>exact True.intro
 | @cons p q ps qs h t ih =>
  obtain ⟨h1,_,h2⟩:=h
  by_cases e:p.1=k
  ·have e':q.1=k:=h1.symm.trans e
   have b:atKey (q :: qs) k=some q.2:=by simp [atKey,List.find?_cons,e']
   rw [valV_pos e,b];exact h2
  ·have e':¬ q.1=k:=fun z=>e (h1.trans z)
   have b:atKey (q :: qs) k=atKey qs k:=by simp [atKey,List.find?_cons,e']
   rw [valV_neg e,b];exact ih
theorem KT.repl {H:Hp} {kvs:List (List Key×V)} {xs:List (List Key×Addr×Value)} (r:KT H kvs xs) (k:List Key) {y:V} {u:Value} (ry:RelV y u) :
  KT H (kvs.map fun kv=>if kv.1=k then (kv.1,y) else kv) (xs.map (putAt k u)):=by
 induction r with
 | nil=>exact .nil
 | @cons p q ps qs h t ih =>
  rw [List.map_cons,List.map_cons]
  refine .cons ?_ ih
  obtain ⟨h1,h2,h3⟩:=h
  unfold putAt
  by_cases e:p.1=k
  ·rw [if_pos e,if_pos (h1.symm.trans e)];exact ⟨h1,h2,ry⟩
  ·rw [if_neg e,if_neg (fun z=>e (h1.trans z))];exact ⟨h1,h2,h3⟩
theorem KT.put {H:Hp} {kvs:List (List Key×V)} {xs:List (List Key×Addr×Value)} (r:KT H kvs xs) (k:List Key) {b:Addr} {y:V} {u:Value} (hb:H b=some (.tup (k.map kV))) (ry:RelV y u) :
  KT H (putK kvs k y) (storedH xs k b u):=by
 have e:(kvs.any fun kv=>decide (kv.1=k))=(atKey xs k).isSome:=by
  rw [valV_any,(r.val k).isSome_eq,Option.isSome_map]
 unfold putK storedH
 rw [e]
 by_cases q:(atKey xs k).isSome=true
 ·rw [if_pos q,if_pos q];exact r.repl k ry
 ·rw [if_neg q,if_neg q];exact Paired.snoc r ⟨rfl,hb,ry⟩
theorem KT.keeps {H H':Hp} {kvs:List (List Key×V)} {xs:List (List Key×Addr×Value)} (r:KT H kvs xs) (ht:∀ b ys,H b=some (.tup ys)->H' b=some (.tup ys)):KT H' kvs xs :=
 Paired.mapP r fun _ _ z=>⟨z.1,ht _ _ z.2.1,z.2.2⟩
section
variable {P:Program} {w:World} {H:Hp} {h:Heap} {a:Addr}
theorem rd_of {u:HO} (ok:HOk P w H h) (e:Rd H a u):ObjOk P w H h a u:=e.ok ok
theorem dk_rd {kvs:List (Key×V)} (ok:HOk P w H h) (e:Rd H a (.dK kvs)):kvs.length≤sizeLine/\(a==sysModules)=false/\∃ vs,KV kvs vs/\h.DictOf (mixKind P w) a vs :=
 show ObjOk P w H h a (.dK kvs) from rd_of ok e
theorem dk_of {kvs:List (Key×V)} (ok:HOk P w H h) (e:H a=some (.dK kvs)):kvs.length≤sizeLine/\(a==sysModules)=false/\∃ vs,KV kvs vs/\h.DictOf (mixKind P w) a vs:=dk_rd ok (.inl e)
theorem key_of {ks:List Key} (ok:HOk P w H h) (e:H a=some (.tup (ks.map kV))):(tupleKind (mixKind P w)).is h ks a:=by
 obtain ⟨_,its,r,o,h1,h2,n,h3⟩:=(show ObjOk P w H h a (.tup (ks.map kV)) from ok a _ e)
 exact ⟨o,its.toArray,n,h1,h2,h3,by simpa using items_are r⟩
theorem dt_rd {kvs:List (List Key×V)} (ok:HOk P w H h) (e:Rd H a (.dT kvs)):kvs.length≤sizeLine/\(a==sysModules)=false /\
  ∃ xs,KT H kvs xs/\h.DictOfH (tupleKind (mixKind P w)) a xs:=by
 obtain ⟨z,y,xs,r,o,es,ep,h1,h2,h3,h4,h5⟩:=(show ObjOk P w H h a (.dT kvs) from rd_of ok e)
 refine ⟨z,y,xs,r,o,es,ep,h1,h2,h3,h4,fun x hx=>?_,h5⟩
 have all:∀ {l:List (List Key×V)} {m:List (List Key×Addr×Value)},KT H l m->∀ x∈m,(tupleKind (mixKind P w)).is h x.1 x.2.1:=by
  intro l m q
  induction q with
  | nil=>intro x hx;exact nomatch hx
  | @cons p q ps qs hq t ih =>
   intro x hx
   rcases List.mem_cons.mp hx with e | hx
   ·subst e
    exact key_of ok (by rw [←hq.1];exact hq.2.1)
   ·exact ih x hx
 exact all r x hx
theorem dt_of {kvs:List (List Key×V)} (ok:HOk P w H h) (e:H a=some (.dT kvs)):kvs.length≤sizeLine/\(a==sysModules)=false /\
  ∃ xs,KT H kvs xs/\h.DictOfH (tupleKind (mixKind P w)) a xs:=dt_rd ok (.inl e)
end
noncomputable def DGet (H:Hp) (a:Addr) (y:V) (r:Option V):Prop :=
 (∃ kvs k,Rd H a (.dK kvs)/\y=kV k/\r=valV kvs k)\/∃ kvs k b,Rd H a (.dT kvs)/\y=.ref b/\H b=some (.tup (k.map kV))/\r=valV kvs k
noncomputable def DPut (H:Hp) (a:Addr) (y v:V) (H':Hp):Prop :=
 (∃ kvs k,H a=some (.dK kvs)/\y=kV k/\kvs.length < sizeLine/\H'=upd H a (.dK (putK kvs k v))) \/
 ∃ kvs k b,H a=some (.dT kvs)/\y=.ref b/\H b=some (.tup (k.map kV))/\kvs.length < sizeLine/\H'=upd H a (.dT (putK kvs k v))
theorem DGet.t {H:Hp} {a b:Addr} {kvs:List (List Key×V)} {k:List Key} (e:H a=some (.dT kvs)) (eb:H b=some (.tup (k.map kV))):DGet H a (.ref b) (valV kvs k):=.inr ⟨kvs,k,b,.inl e,rfl,eb,rfl⟩
theorem DPut.t {H:Hp} {a b:Addr} {kvs:List (List Key×V)} {k:List Key} {v:V} (e:H a=some (.dT kvs)) (eb:H b=some (.tup (k.map kV))) (hl:kvs.length < sizeLine) :
  DPut H a (.ref b) v (upd H a (.dT (putK kvs k v))):=.inr ⟨kvs,k,b,e,rfl,eb,hl,rfl⟩
section
variable {X:Cx} {pins:List (Addr×Obj)} {σ:St} {H:Hp} {s:Shared} {a:Addr} {y v:V} {u r:Value} {o:Option V} {A:Around} {E:Value->Shared->Prop}
theorem Inv.big (I:Inv X pins σ H s):sysModules < s.heap.objs.size:=by
 have h:mainGlobals < s.heap.objs.size:=(I.mod.glob.keeps I.bk).lt
 exact Nat.lt_trans (by decide) h
theorem d_getItem {Q:Value->Shared->Prop} (hu:A.units+1 < cLine) (I:Inv X pins σ H s) (g:DGet H a y (some v)) (ry:RelV y u) (h:∀ w' s',Inv X pins σ H s'->RelV v w'->Q w' s') :
  wpAny (model X.prog X.w) A (getItem (.ref a) u) Q E s:=by
 rcases g with ⟨kvs,k,e,ey,l⟩ | ⟨kvs,k,b,e,ey,eb,l⟩
 ·subst ey
  obtain ⟨z,hd,vs,rel,dd⟩:=dk_rd I.hok e
  obtain ⟨w',hw,rw'⟩:=RelO.some_of (v:=v) (o:=valueAt vs k) (by rw [l];exact rel.val k)
  exact wpAny_getItem_of (kV_is ry) dd.mapOf hw (h w' _ (I.tok _) rw')
 ·subst ey
  cases (show u=Value.ref b from ry)
  obtain ⟨z,hd,xs,rel,dd⟩:=dt_rd I.hok e
  obtain ⟨w',hw,rw'⟩:=RelO.some_of (v:=v) (o:=(atKey xs k).map (·.2)) (by rw [l];exact rel.val k)
  obtain ⟨p,hp,hp2⟩:=Option.map_eq_some_iff.mp hw
  refine wpAny_getItem_heap (tupleKind_room_in1 hu) (key_of I.hok eb) dd hp ?_
  rw [hp2]
  exact h w' _ (I.tok _) rw'
theorem d_in {Q:Value->Shared->Prop} (hu:A.units+1 < cLine) (I:Inv X pins σ H s) (g:DGet H a y o) (ry:RelV y u) (h:∀ s',Inv X pins σ H s'->Q (.bool o.isSome) s') :
  wpAny (model X.prog X.w) A (compareOp .In u (.ref a)) Q E s:=by
 rcases g with ⟨kvs,k,e,ey,l⟩ | ⟨kvs,k,b,e,ey,eb,l⟩
 ·subst ey
  obtain ⟨z,hd,vs,rel,dd⟩:=dk_rd I.hok e
  refine wpAny_in_of (kV_is ry) hd dd.mapOf ?_
  rw [←(rel.val k).isSome_eq,←l]
  exact h _ (I.tok _)
 ·subst ey
  cases (show u=Value.ref b from ry)
  obtain ⟨z,hd,xs,rel,dd⟩:=dt_rd I.hok e
  refine wpAny_in_heap (tupleKind_room_in1 hu) (key_of I.hok eb) hd dd ?_
  have q:=(rel.val k).isSome_eq
  rw [Option.isSome_map] at q
  rw [←q,←l]
  exact h _ (I.tok _)
theorem d_notIn {Q:Value->Shared->Prop} (hu:A.units+1 < cLine) (I:Inv X pins σ H s) (g:DGet H a y o) (ry:RelV y u) (h:∀ s',Inv X pins σ H s'->Q (.bool (!o.isSome)) s') :
  wpAny (model X.prog X.w) A (compareOp .NotIn u (.ref a)) Q E s:=by
 rcases g with ⟨kvs,k,e,ey,l⟩ | ⟨kvs,k,b,e,ey,eb,l⟩
 ·subst ey
  obtain ⟨z,hd,vs,rel,dd⟩:=dk_rd I.hok e
  refine wpAny_notIn_of (kV_is ry) hd dd.mapOf ?_
  rw [←(rel.val k).isSome_eq,←l]
  exact h _ (I.tok _)
 ·subst ey
  cases (show u=Value.ref b from ry)
  obtain ⟨z,hd,xs,rel,dd⟩:=dt_rd I.hok e
  refine wpAny_notIn_heap (tupleKind_room_in1 hu) (key_of I.hok eb) hd dd ?_
  have q:=(rel.val k).isSome_eq
  rw [Option.isSome_map] at q
  rw [←q,←l]
  exact h _ (I.tok _)
theorem d_write {h':Heap} {t':Nat} {ob:HO} (I:Inv X pins σ H s) (mu:Mut (H a)) (hs:Heap.SameBut a s.heap h') (he:∃ q,h'.get? a=some q) (new:ObjOk X.prog X.w (upd H a ob) h' a ob) :
  Inv X pins σ (upd H a ob) { s with heap:=h',toks:=t' } :=
 I.write (x:=a) (e:=a) mu (.inl rfl) (fun b q hb z=>(hs.2 b hb).trans z) he new
theorem dk_new {P:Program} {w:World} {H':Hp} {h':Heap} {kvs:List (Key×V)} {vs:List (Key×Value)} (z:kvs.length≤sizeLine) (hd:(a==sysModules)=false) (rel:KV kvs vs) (dd:h'.DictOf (mixKind P w) a vs) :
  ObjOk P w H' h' a (.dK kvs):=⟨z,hd,vs,rel,dd⟩
theorem d_setItem {H':Hp} {Q:Unit->Shared->Prop} (hu:A.units+1 < cLine) (I:Inv X pins σ H s) (g:DPut H a y v H') (ry:RelV y u) (rv:RelV v r) (h:∀ s',Inv X pins σ H' s'->Q () s') :
  wpAny (model X.prog X.w) A (setItem (.ref a) u r) Q E s:=by
 rcases g with ⟨kvs,k,e,ey,l,eH⟩ | ⟨kvs,k,b,e,ey,eb,l,eH⟩
 ·subst ey eH
  obtain ⟨z,hd,vs,rel,dd⟩:=dk_of I.hok e
  have hz:vs.length≤sizeLine:=by rw [←rel.length];exact z
  have hl:(putK kvs k v).length≤sizeLine:=by have:=length_putK kvs k v;lia
  refine wpAny_setItem_pairs (hsz:=hz) (kV_is ry) dd fun h' dd' hs=>h _ ?_
  have he:∃ q,h'.get? a=some q:=let ⟨q,_,_,hq,_⟩:=dd';⟨q,hq⟩
  exact d_write I (by rw [e];exact True.intro) hs he (dk_new hl hd (rel.put k rv) dd')
 ·subst ey eH
  cases (show u=Value.ref b from ry)
  obtain ⟨z,hd,xs,rel,dd⟩:=dt_of I.hok e
  have hz:xs.length≤sizeLine:=by rw [←Paired.length rel];exact z
  have hl:(putK kvs k v).length≤sizeLine:=by have:=length_putK kvs k v;lia
  refine wpAny_setItem_heap (hsz:=hz) (tupleKind_room_in1 hu) (key_of I.hok eb) dd fun h' dd' hs=>h _ ?_
  obtain ⟨q,es,ep,hq,h2,h3,h4,_,h5⟩:=dd'
  refine d_write I (by rw [e];exact True.intro) hs ⟨q,hq⟩ ⟨hl,hd,_,(rel.put k eb rv).keeps fun c ys ec=>?_,q,es,ep,hq,h2,h3,h4,h5⟩
  rw [upd_ne (ne_of ec e (fun z=>nomatch z))]
  exact ec
end
noncomputable def NoSl (i:Expr):Prop:=∀ ov iv,subscripted i false ov iv=operate [ov,iv] (getItem ov iv)
theorem subD_of {prog:Program} {w:World} {A:Around} {E:Value->Shared->Prop} {s:Shared} {env:Env} {value slice:Expr} {pos:Pos} {T id:String} {Q:Value->Shared->Prop}
  (hl:typeLookup (.type T) "__getitem__"=pure (some (.builtin id))) (hs:NoSl slice)
  (h:wpAny (model prog w) A (eval value env) (fun o s₁=>wpAny (model prog w) A (eval slice env) (fun i s₂=>s₂.TypeIs o T/\wpAny (model prog w) A (getItem o i) Q E s₂) E s₁) E s) :
  wpAny (model prog w) A (eval (.Subscript value slice pos) env) Q E s:=by
 refine Subscript_ (wpAny_mono h (fun o s₁ h₁=>wpAny_mono h₁ (fun i s₂ h₂=>?_) fun _ _ x=>x) fun _ _ x=>x)
 obtain ⟨hT,h₂⟩:=h₂
 unfold subscriptTail
 refine wpAny_bind ?_
 rw [getitemInPython_of_ne hT.not_modules]
 refine wpAny_bind (wpAny_specialOf hT hl ?_)
 have fin:wpAny (model prog w) A (subscripted slice false o i) (fun r s₃=>wpAny (model prog w) A (letTemporaryGo value o r >>= fun _=>pure r) Q E s₃) E s₂:=by
  rw [hs o i]
  exact wpAny_operating (wpAny_mono h₂ (fun r s₃ h₃=>wpAny_bind (wpAny_letTemporaryGo (wpAny_pure h₃))) fun _ _ x=>x)
 first
  | exact wpAny_pure (wpAny_bind fin)
  | exact wpAny_bind (wpAny_pure (wpAny_bind fin))
  | exact wpAny_bind fin
theorem dict_typeIs {X:Cx} {pins:List (Addr×Obj)} {σ:St} {H:Hp} {s:Shared} {a:Addr} {y:V} {o:Option V} (I:Inv X pins σ H s) (g:DGet H a y o):s.TypeIs (.ref a) "dict":=by
 rcases g with ⟨kvs,k,e,_,_⟩ | ⟨kvs,k,b,e,_,_,_⟩
 ·obtain ⟨_,_,vs,_,dd⟩:=dk_rd I.hok e
  exact dd.typeIs
 ·obtain ⟨_,_,xs,_,dd⟩:=dt_rd I.hok e
  exact dd.typeIs
noncomputable def tDGet (td ty:TE):TE:=fun σ H Q=>td σ H fun x H1=>ty σ H1 fun y H2=>∃ a v,x=.ref a/\DGet H2 a y (some v)/\Q v H2
noncomputable def tDIn (ty td:TE):TE:=fun σ H Q=>ty σ H fun y H1=>td σ H1 fun x H2=>∃ a o,x=.ref a/\DGet H2 a y o/\Q (.bl o.isSome) H2
noncomputable def tDNotIn (ty td:TE):TE:=fun σ H Q=>ty σ H fun y H1=>td σ H1 fun x H2=>∃ a o,x=.ref a/\DGet H2 a y o/\Q (.bl (!o.isSome)) H2
noncomputable def sDPut (td ty tv:TE):TS:=fun D σ H=>tv σ H fun v H1=>td σ H1 fun x H2=>ty σ H2 fun y H3=>∃ a H4,x=.ref a/\DPut H3 a y v H4/\D.nx σ H4
section
variable {X:Cx} {o i e value:Expr} {pos pos' tpos:Pos} {td ty tv:TE}
theorem pe_dget (hu:X.A.units+1 < cLine) (ho:PE X o td) (hi:PE X i ty) (hs:NoSl i):PE X (.Subscript o i pos) (tDGet td ty):=by
 intro pins s σ H Q I h
 refine subD_of PySem.F.slot_dict_getitem.lookup hs (thn (ho pins s σ H _ I h) fun u s1 ⟨x,H1,I1,rx,q1⟩=>thn (hi pins s1 σ H1 _ I1 q1) fun iv s2 ⟨y,H2,I2,ry,a,v,ex,g,q2⟩=>?_)
 subst ex
 obtain rfl:u=Value.ref a:=rx
 exact ⟨dict_typeIs I2 g,d_getItem hu I2 g ry fun w' s3 I3 rw'=>⟨v,H2,I3,rw',q2⟩⟩
theorem pc_din (hu:X.A.units+1 < cLine) (hi:PE X i ty) (ho:PE X o td):PC X .In i o (tDIn ty td):=by
 intro pins s σ H Q I h
 refine thn (hi pins s σ H _ I h) fun iv s1 ⟨y,H1,I1,ry,q1⟩=>thn (ho pins s1 σ H1 _ I1 q1) fun u s2 ⟨x,H2,I2,rx,a,ov,ex,g,q2⟩=>?_
 subst ex
 obtain rfl:u=Value.ref a:=rx
 exact d_in hu I2 g ry fun s3 I3=>⟨.bl ov.isSome,H2,I3,rfl,q2⟩
theorem pc_dnotin (hu:X.A.units+1 < cLine) (hi:PE X i ty) (ho:PE X o td):PC X .NotIn i o (tDNotIn ty td):=by
 intro pins s σ H Q I h
 refine thn (hi pins s σ H _ I h) fun iv s1 ⟨y,H1,I1,ry,q1⟩=>thn (ho pins s1 σ H1 _ I1 q1) fun u s2 ⟨x,H2,I2,rx,a,ov,ex,g,q2⟩=>?_
 subst ex
 obtain rfl:u=Value.ref a:=rx
 exact d_notIn hu I2 g ry fun s3 I3=>⟨.bl (!ov.isSome),H2,I3,rfl,q2⟩
theorem ps_dput (hu:X.A.units+1 < cLine) (ho:PE X o td) (hi:PE X i ty) (hv:PE X value tv) (hs:swapsWith value (some (.Subscript o i pos')) pos.line X.env=pure false) :
  PS X (.Assign [.Subscript o i pos'] value pos) (sDPut td ty tv):=by
 intro pins s σ H D I h
 refine wpAny_Assign_Subscript (thn (hv pins s σ H _ I h) fun r s1 ⟨v,H1,I1,rv,q1⟩=>thn (ho pins s1 σ H1 _ I1 q1) fun u s2 ⟨x,H2,I2,rx,q2⟩=>thn (hi pins s2 σ H2 _ I2 q2) fun iv s3 ⟨y,H3,I3,ry,a,H4,ex,g,q3⟩=>?_) hs
 subst ex
 obtain rfl:u=Value.ref a:=rx
 exact d_setItem hu I3 g ry rv fun s4 I4=>⟨σ,H4,I4,q3⟩
end
theorem dt_empty {P:Program} {w:World} {H:Hp} (h:Heap) (hb:sysModules < h.objs.size):ObjOk P w H (h.push { cls:=.type "dict",data:=.dict #[] }) h.objs.size (.dT []) :=
 ⟨Nat.zero_le _,beq_eq_false_iff_ne.mpr (Ne.symm (Nat.ne_of_lt hb)),[],.nil,_,#[],0,Heap.get?_push_size _ rfl,⟨rfl,rfl,rfl⟩,rfl,rfl,List.nodup_nil⟩
noncomputable def tDNewT:TE:=fun _ H Q=>∀ p,H p=none->Q (.ref p) (upd H p (.dT []))
section
variable {X:Cx} {pos:Pos}
theorem pe_dnewT:PE X (.Dict [] [] pos) tDNewT:=fun pins s σ H Q I h =>
 wpAny_Dict_empty ⟨.ref s.heap.objs.size,_,I.laid (a:=s.heap.objs.size) (o:=.dT []) (t':=s.toks) (fun _ _ q=>Heap.get?_push_of_some _ q) (Nat.le_refl _) (dt_empty s.heap I.big),rfl,h _ (I.hok.fresh (Nat.le_refl _))⟩
end
structure M1 (X:Cx) (o:Expr) (m:Str) (apos:Pos) (e:Expr) (cpos:Pos):Prop where
 base:attributeBase o m X.env (eval o X.env)=eval o X.env
 few:((backTo cpos (starEach [e] X.env)).all (fun x=>!x.1)&&(backToKw cpos (keywordEach [] X.env)).all (fun x=>x.1.isSome)
  && decide (([e]:List Expr).length+([]:List Keyword).length+(if ([]:List Keyword).isEmpty then 0 else 1) < 30))=true
 line:(apos.endLine==cpos.line)=true
 trees:backTo cpos (starEach [e] X.env)=[(false,eval e X.env)]
structure M2 (X:Cx) (o:Expr) (m:Str) (apos:Pos) (e f:Expr) (cpos:Pos):Prop where
 base:attributeBase o m X.env (eval o X.env)=eval o X.env
 few:((backTo cpos (starEach [e,f] X.env)).all (fun x=>!x.1)&&(backToKw cpos (keywordEach [] X.env)).all (fun x=>x.1.isSome)
  && decide (([e,f]:List Expr).length+([]:List Keyword).length+(if ([]:List Keyword).isEmpty then 0 else 1) < 30))=true
 line:(apos.endLine==cpos.line)=true
 trees:backTo cpos (starEach [e,f] X.env)=[(false,eval e X.env),(false,eval f X.env)]
noncomputable def IsD (H:Hp) (a:Addr):Prop:=(∃ kvs,Rd H a (.dK kvs))\/∃ kvs,Rd H a (.dT kvs)
theorem isD_at {X:Cx} {pins:List (Addr×Obj)} {σ:St} {H:Hp} {s:Shared} {a:Addr} (I:Inv X pins σ H s) (d:IsD H a) :
  s.TypeIs (.ref a) "dict"/\(∀ b,Value.ref a=.ref b->∃ ob,s.heap.get? b=some ob/\ob.dict=none)/\(a==sysModules)=false:=by
 rcases d with ⟨kvs,e⟩ | ⟨kvs,e⟩
 ·obtain ⟨_,hd,vs,_,dd⟩:=dk_rd I.hok e
  refine ⟨dd.typeIs,fun b q=>?_,hd⟩
  cases q
  obtain ⟨ob,_,_,h1,h2,_⟩:=dd
  exact ⟨ob,h1,h2.2.1⟩
 ·obtain ⟨_,hd,xs,_,dd⟩:=dt_rd I.hok e
  refine ⟨dd.typeIs,fun b q=>?_,hd⟩
  cases q
  obtain ⟨ob,_,_,h1,h2,_⟩:=dd
  exact ⟨ob,h1,h2.2.1⟩
end L2
namespace Att
open PySem PySem.W PySem.Calls PyProof.Rows
theorem ints_of_wellAll {P:Params} {h:Heap}:∀ (ns:List Int) (vs:List Value),WellAll P h vs (ns.map WData.int)->IntsAre vs ns:=by
 intro ns
 induction ns with
 | nil =>
  intro vs w
  rw [List.map_nil] at w
  cases w
  exact .nil
 | cons n ns ih =>
  intro vs w
  rw [List.map_cons] at w
  cases w with
  | cons a b =>
   cases a
   exact .cons _ _ (ih _ b)
theorem script_of {l:OpenLaw} {n:Nat} (hn:l.most=some n) {P:Params} {h:Heap} {args:List WData} {vals:List Value}
  (hpre:l.row.toRowW.claim.pre args=true) (hwl:WellAll P h vals args) :
  ∃ a vs ns,vals=[Value.ref a]/\args=[WData.list (ns.map WData.int)]/\h.get? a=some { cls:=.type "list",data:=.seq vs.toArray }/\IntsAre vs ns/\ns.length≤n:=by
 have hsh:WShape.hasAll [] args [.list .int]=true:=(pre_splitW hpre).1
 have hc:l.pre.holds [] { args:=args }=true:=(pre_splitW hpre).2
 obtain ⟨d,r,rfl,h1,h2⟩:=hasAllW_cons hsh
 obtain rfl:=hasAllW_nil h2
 obtain ⟨xs,rfl,h3⟩:=hasW_list h1
 obtain ⟨ns,rfl⟩:=items_int h3
 have hlen:ns.length≤n:=by
  unfold OpenLaw.pre at hc
  have h4:(WTm.not (.lt (.lit (.int (n:Int))) (.len (.arg 0)))).holds [] { args:=[.list (ns.map .int)] }=true:=by
   have h4:=(holds_andW hc).1
   rw [hn] at h4
   exact h4
  have h5:=condW_of h4 (w_not (w_lt w_lit (w_len_list (w_arg rfl))))
  rw [List.length_map] at h5
  refine Nat.le_of_not_lt fun q=>?_
  have q':(n:Int) < ((ns.length:Nat):Int):=by omega
  first
   | (rw [decide_eq_true q'] at h5;exact absurd h5 (by decide))
   | (simp at h5;lia)
 cases hwl with
 | cons w1 w2 =>
  cases w2
  cases w1 with
  | list ho hall=>exact ⟨_,_,ns,rfl,rfl,ho,ints_of_wellAll ns _ hall,hlen⟩
theorem post_true (l:OpenLaw) (args:List WData):l.row.toRowW.claim.post args (.bool true) args=true :=
 postW_of (r:=l.row.toRowW) (X:=(true==true))
  (show WShape.has [] (.bool true) .bool=true by first | rfl | decide | simp [WShape.has,WShape.arms,WShape.armsAll])
  (show (WTm.eq .res (.lit (.bool true))).value [] { args:=args,res:=some (.bool true),after:=args }=some (.bool (true==true)) from w_eq_bool (w_res rfl) w_lit) rfl
theorem attach_call {l:OpenLaw} {n:Nat} {q:Program} {loose:List Str} {XP:(Str->Option Value)->Heap->Prop} {YP:World->Heap->Prop} {d:DefRec}
  (hn:l.most=some n) (hdf:d.params.defaults=[])
  (call:∀ (w:World) (s₀ s₁:Shared) (mg mb:Str->Option Value) (fa:Addr) (o:Obj) (pm cd doc:Value) (a:Addr) (vs:List Value) (ns:List Int),
   Ground q loose [] XP w s₀ mg mb s₁.heap->YP w s₁.heap ->
   s₁.heap.get? fa=some o->o.data=.func (docDef d.name d.params d.body d.scope pm cd doc)->s₁.heap.CodeRec cd d.name->mg d.name=some (.ref fa) ->
   s₁.heap.get? a=some { cls:=.type "list",data:=.seq vs.toArray }->IntsAre vs ns->ns.length≤n->s₁.gens=#[] ->
   codeAny (model l.prog w) callerA (.call (.ref fa) ⟨[.ref a],[]⟩) (fun r s'=>r=.ok (.ret (.bool true))/\OldK s₁.heap s'.heap/\s'.os=s₁.os/\AllBare s'.gens) s₁) :
  WalkO q loose XP YP l.row.toRowW d [] (fun f vs=>PySem.call f vs):=by
 intro w s₀ s₁ mg mb G Y fa o pm cd doc dV kV ho hd hcd hD hmg hg args vals as hpre hlay hrd hwl hlo
 obtain rfl:dV=.none:=Dflts.none hD hdf
 obtain rfl:kV=.none:=Dflts.noKw hD
 obtain ⟨a,vs,ns,rfl,rfl,hobj,hints,hlen⟩:=script_of hn hpre hwl
 refine enter_call (codeAny_mono (call w s₀ s₁ mg mb fa o pm cd doc a vs ns G Y ho (fd_plain hd) hcd hmg hobj hints hlen hg) fun r s' hq=>?_)
 obtain ⟨rfl,h2,h3,h4⟩:=hq
 exact ⟨.inl ⟨.bool true,.bool true,[],rfl,fun _=>rfl,.bool true,post_true l _,fun _=>⟨List.Pairwise.nil,fun _ hm=>(nomatch hm)⟩⟩,h2,h3,h4⟩
section
variable {prog:Program} {w:World} {A:Around} {E:Value->Shared->Prop} {s:Shared} {K:Frag}
noncomputable def noObjs (h:Heap):Heap:={ h with objs:=#[] }
theorem noObjs_get (h:Heap) (b:Addr):(noObjs h).get? b=none:=by
 cases e:(noObjs h).get? b with
 | none=>rfl
 | some o=>exact absurd (Heap.lt_size e) (Nat.not_lt_zero _)
theorem fr_all {h:Heap} {L:Addr} {m:Str->Option Value} (n:h.Ns L m):Fr (noObjs h) L h m :=
 ⟨n,fun b o e=>(by rw [noObjs_get] at e;cases e),Nat.zero_le _⟩
end
end Att
namespace L2
open PySem PySem.Spec PyProof.Rows
theorem vals_ints:∀ {vs:List Value} {ns:List Int},IntsAre vs ns->Vals (ns.map V.int) vs
 | _,_,.nil=>.nil
 | _,_,.cons n t h=>.cons ⟨t,rfl⟩ (vals_ints h)
noncomputable def Only (H:Hp):Prop:=∀ b,H b=none\/∃ o xs,H b=some (.frz o (.lst xs))
theorem law_call {P:Program} {w:World} {K:PySem.W.Frag} {mg mb:Str->Option Value} {CX:CXT} {k:Nat} {fa a:Addr} {fd:FuncData} {x:Str} {sp:Sp} {s₁:Shared} {vs:List Value} {ns:List Int}
  (KX:K.In s₁.heap) (hns:s₁.heap.Ns mainGlobals mg) (hb:s₁.heap.Ns builtinsNs mb) (hbb:∀ x:Str,x≠"__name__"->mb x=bootBuiltins x) (hlim:s₁.heap.NoLimit) (hg:s₁.gens=#[])
  (ha:s₁.heap.get? a=some { cls:=.type "list",data:=.seq vs.toArray }) (hi:IntsAre vs ns) (hl:ns.length≤sizeLine) (hr:Room k callerA)
  (F:∀ base:Heap,K.In base->base.Ns mainGlobals mg->FnOk P w K mg base CX k fa fd [x] sp) (hbind:∀ (s:Shared) (u:Value),BindsTo s fd ⟨[u],[]⟩ [(x,u)])
  (hsp:∀ H:Hp,Only H->SqL K H a (ns.map V.int)->sp [.ref a] H (fun v _=>v=.bl true) fun _ _ _=>False)
  (hCX:∀ H e s',CX [] H s₁ (fun _ _ _=>False) e s'->False) :
  codeAny (model P w) callerA (.call (.ref fa) ⟨[.ref a],[]⟩) (fun r s'=>r=.ok (.ret (.bool true))/\OldK s₁.heap s'.heap/\s'.os=s₁.os/\AllBare s'.gens) s₁:=by
 have rv:=vals_ints hi
 have lenV:=hi.length
 have core:∀ H:Hp,Only H->SqL K H a (ns.map V.int)->HOk P w H s₁.heap->(∀ b,H b≠none->b=a)->(H a≠none->K.lookup a=none) ->
   codeAny (model P w) callerA (.call (.ref fa) ⟨[.ref a],[]⟩) (fun r s'=>r=.ok (.ret (.bool true))/\OldK s₁.heap s'.heap/\s'.os=s₁.os/\AllBare s'.gens) s₁:=by
  intro H hO hS hok hA hK
  have base_of:∀ {b:Addr} {o:Obj},s₁.heap.get? b=some o->H b=none->(hidT s₁.heap H).get? b=some o:=fun e n=>hidT_get e n
  have noA:∀ {b:Addr} {o:Obj} {es:Array DictEntry} {ep:Nat},s₁.heap.get? b=some o->o.data=.dict es ep->H b=none:=fun {b o es ep} e d=>by
   cases q:H b with
   | none=>rfl
   | some u =>
    have e':b=a:=hA b (by rw [q];simp)
    subst e'
    rw [ha] at e;cases e
    have d':Data.seq vs.toArray _=Data.dict es ep:=d
    cases d'
  have nsK:∀ {b:Addr} {m:Str->Option Value},s₁.heap.Ns b m->(hidT s₁.heap H).Ns b m:=fun {b m} ⟨o,es,ep,e,d,r⟩=>⟨o,es,ep,base_of e (noA e d),d,r⟩
  have hKb:K.In (hidT s₁.heap H):=fun b o e=>base_of (KX b o e) (by
   cases q:H b with
   | none=>rfl
   | some u =>
    have e':b=a:=hA b (by rw [q];simp)
    subst e'
    rw [hK (by rw [q];simp)] at e;cases e)
  have hM:Mod K mg (hidT s₁.heap H):=⟨hKb,nsK hns,⟨mb,nsK hb,hbb⟩,let ⟨mc,h1,h2⟩:=hlim;⟨mc,nsK h1,h2⟩⟩
  have e0:Env0 P w K mg (hidT s₁.heap H) callerA [] s₁ H:=⟨rfl,hM,fun b o e=>of_hidT e,Nat.le_of_eq (hidT_size _ _),trivial,fun b hb=>absurd (show b∈([]:List Addr) from hb) (by simp),hok,.of_eq hg⟩
  refine codeAny_mono ((F _ hKb (nsK hns)).run callerA [] s₁ H ⟨[.ref a],[]⟩ [.ref a] [.ref a] _ _ hr e0 (hbind s₁ (.ref a)) (.cons rfl .nil) (hsp H hO hS)) fun r s' h=>?_
  cases r with
  | error e=>exact (hCX H e s' h).elim
  | ok fl =>
   cases fl with
   | next=>exact False.elim h
   | brk=>exact False.elim h
   | cont=>exact False.elim h
   | ret u =>
    obtain ⟨v,H',os,bare,un,hok',r',q⟩:=h
    have q':v=.bl true:=q
    subst q'
    obtain rfl:u=Value.bool true:=r'
    refine ⟨rfl,OldK.of_keep fun b o e=>?_,os,bare⟩
    cases q:H b with
    | none=>exact un.keep b o e q (by intro z;exact absurd (show b∈([]:List Addr) from z) (by simp)) (by simp)
    | some u =>
     rcases hO b with z | ⟨ob,xs,z⟩
     ·rw [q] at z;cases z
     ·have z2:=un.frzs b ob _ z
      obtain ⟨e1,_⟩:=hok b _ z
      obtain ⟨e2,_⟩:=hok' b _ z2
      rw [e] at e1;cases e1
      exact e2
 cases hk:K.lookup a with
 | some o =>
  have e:=KX a o hk
  rw [ha] at e
  cases e
  refine core (fun _=>none) (fun _=>.inl rfl) (.inr ⟨_,vs.toArray,_,hk,rfl,rfl,rfl,by rw [List.size_toArray,lenV];exact hl,by simpa using rv⟩) (fun b u z=>by have z':(none:Option HO)=some u:=z;cases z') (fun b z=>absurd rfl z) fun z=>absurd rfl z
 | none =>
  refine core (fun b=>if b=a then some (.frz { cls:=.type "list",data:=.seq vs.toArray } (.lst (ns.map V.int))) else none) (fun b=>?_) (.inl (.inr ⟨{ cls:=.type "list",data:=.seq vs.toArray },if_pos rfl⟩)) (fun b u z=>?_) (fun b z=>?_) fun _=>hk
  ·by_cases hb:b=a
   ·exact .inr ⟨_,_,if_pos hb⟩
   ·exact .inl (if_neg hb)
  ·by_cases hb:b=a
   ·have z':=(if_pos hb).symm.trans z
    cases z'
    subst hb
    exact ⟨ha,by rw [List.length_map];exact hl,vs,_,rv,ha⟩
   ·have z':=(if_neg hb).symm.trans z
    cases z'
  ·by_cases hb:b=a
   ·exact hb
   ·exact absurd (if_neg hb) z
noncomputable abbrev KOf {K:PySem.W.Frag} {h:Heap} (_:K.In h):PySem.W.Frag:=K
theorem walk_of {l:PySem.W.OpenLaw} {n k:Nat} {q:Program} {loose:List Str} {XP:(Str->Option Value)->Heap->Prop} {YP:World->Heap->Prop} {d:DefRec} {K:Params->PySem.W.Frag} {CX:World->CXT} {sp:World->Sp} {x:Str}
  (hn:l.most=some n) (hn2:n≤sizeLine) (hdf:d.params.defaults=[]) (hr:Room k callerA)
  (hY:∀ (w:World) (h:Heap),YP w h->(K w.params).In h)
  (F:∀ (w:World) (mg:Str->Option Value) (fa:Addr) (h:Heap),(K w.params).In h->h.Ns mainGlobals mg->mg d.name=some (.ref fa) ->
   ∃ fd:FuncData,(∀ (s:Shared) (u:Value),BindsTo s fd ⟨[u],[]⟩ [(x,u)]) /\
    ∀ base:Heap,(K w.params).In base->base.Ns mainGlobals mg->FnOk l.prog w (K w.params) mg base (CX w) k fa fd [x] (sp w))
  (hsp:∀ (w:World) (H:Hp) (a:Addr) (ns:List Int),ns.length≤n->Only H->SqL (K w.params) H a (ns.map V.int)->sp w [.ref a] H (fun v _=>v=.bl true) fun _ _ _=>False)
  (hCX:∀ (w:World) (H:Hp) (s:Shared) (e:Value) (s':Shared),CX w [] H s (fun _ _ _=>False) e s'->False) :
  PySem.W.WalkO q loose XP YP l.row.toRowW d [] (fun f vs=>PySem.call f vs):=by
 refine Att.attach_call hn hdf fun w s₀ s₁ mg mb fa o pm cd doc a vs ns G Y ho hd hcd hmg hobj hints hlen hg=>?_
 have KX:=hY w _ Y
 obtain ⟨fd,hb,hF⟩:=F w mg fa _ KX G.T.g hmg
 exact law_call KX G.T.g G.T.b G.T.builtins G.T.nolimit hg hobj hints (Nat.le_trans hlen hn2) hr hF hb (fun H hO hS=>hsp w H a ns hlen hO hS) fun H e s'=>hCX w H s₁ e s'
noncomputable def inClass (s:Stmt) (j:Nat):Stmt:=match s with
 | .ClassDef _ _ _ body _ _ _ _ _ _ _=>body.getD j (.Pass ⟨0,0,0,0⟩)
 | _=>.Pass ⟨0,0,0,0⟩
noncomputable def defArgs (s:Stmt):Arguments:=match s with
 | .FunctionDef _ a _ _ _ _ _ _ _ _=>a
 | _=>{ posonlyargs:=[],args:=[],vararg:=none,kwonlyargs:=[],kw_defaults:=[],kwarg:=none,defaults:=[] }
noncomputable def defBody (s:Stmt):List Stmt:=match s with
 | .FunctionDef _ _ b _ _ _ _ _ _ _=>b
 | _=>[]
noncomputable def defScope (s:Stmt):Scope:=match s with
 | .FunctionDef _ _ _ _ _ _ sc _ _ _=>sc
 | _=>{ kind:=.function,names:=[],isGenerator:=false,isCoroutine:=false }
noncomputable abbrev CX0:CXT:=fun _ _ _ _ _ _=>False
noncomputable abbrev E0:XK:=fun _ _ _=>False
theorem pass0 {X:Cx}:Passes CX0 X E0:=fun _ _ _ _ _ _ _ h=>h.elim
structure Fun (K:PySem.W.Frag) (x qual:Str) (st:Stmt) (f:Addr) (fd:FuncData):Prop where
 ex:∃ (oc:Value) (od:Option Addr) (kV doc pm:Value) (an:Option Addr) (cdv ct:Value) (osl:Array (Option Value)),
  fd=PySem.W.fnOf x qual (defArgs st) (defBody st) (defScope st) .none kV doc pm an cdv ct/\K.lookup f=some ⟨oc,od,.func fd,osl⟩/\PySem.W.codeIn K cdv qual=true
 kp:PySem.W.keepIn K (.ref f)=true
section
variable {P:Program} {w:World} {K:PySem.W.Frag} {mg:Str->Option Value} {base:Heap}
theorem Fun.ok {x qual:Str} {st:Stmt} {f:Addr} {fd:FuncData} {N ps:List Str} {k:Nat} {sp:Sp} (F:Fun K x qual st f fd) (S:FnScope N ps (defScope st)) (len:∀ vs H Q E,sp vs H Q E->vs.length=ps.length)
  (hbody:∀ (cdv:Value) (A:Around) (outer:List Env) (s:Shared) (H:Hp) (vs:List V) (Q:VK) (E:XK),Room k (A.deeper (envOfC qual (defScope st) s.heap.objs.size f cdv))->sp vs H Q E ->
   ∃ t,PSs (cxOf CX0 P w K mg base N qual (defScope st) f cdv A outer s H E).nox (defBody st) t/\t { nx:=fun _ H'=>Q .non H',rt:=Q } (start N vs) H):FnOk P w K mg base CX0 (k+1) f fd ps sp:=by
 obtain ⟨oc,od,kV,doc,pm,an,cdv,ct,osl,rfl,lk,hcd⟩:=F.ex
 refine fn_of lk hcd S len fun A outer s H vs Q E hr hsp=>?_
 obtain ⟨t,h,q⟩:=hbody cdv A outer s H vs Q E hr hsp
 exact ⟨t,h.nox,q⟩
theorem Fun.binds {x qual:Str} {st:Stmt} {f:Addr} {fd:FuncData} {ps:List Str} (F:Fun K x qual st f fd)
  (h:∀ (kV doc pm:Value) (an:Option Addr) (cdv ct:Value) (us:List Value),us.length=ps.length->bindArgs (PySem.W.fnOf x qual (defArgs st) (defBody st) (defScope st) .none kV doc pm an cdv ct) ⟨us,[]⟩=pure (ps.zip us)):Binds K fd ps []:=by
 obtain ⟨oc,od,kV,doc,pm,an,cdv,ct,osl,rfl,lk,hcd⟩:=F.ex
 exact .all (h kV doc pm an cdv ct)
theorem fun_mk {x qual:Str} {st:Stmt} {f:Addr} {oc:Value} {od an:Option Addr} {osl:Array (Option Value)} {kV doc pm cdv ct:Value} (l:K.lookup f=some ⟨oc,od,.func (PySem.W.fnOf x qual (defArgs st) (defBody st) (defScope st) .none kV doc pm an cdv ct),osl⟩)
  (c:PySem.W.codeIn K cdv qual=true) (k:PySem.W.keepIn K (.ref f)=true):Fun K x qual st f (PySem.W.fnOf x qual (defArgs st) (defBody st) (defScope st) .none kV doc pm an cdv ct):=⟨⟨oc,od,kV,doc,pm,an,cdv,ct,osl,rfl,l,c⟩,k⟩
end
theorem hu_of {A:Around} {k:Nat} (hr:Room k A):A.units+1 < cLine:=Nat.lt_of_le_of_lt (Nat.add_le_add_left (by decide:1≤64) _) hr.units
theorem small1000 {n:Nat} (h:n≤1000):n < sizeLine:=Nat.lt_of_le_of_lt h (by decide)
section
variable {X:Cx}
theorem pv (i:Nat) {x:Str} {pos:Pos} (hN:X.N[i]?=some x:=by rfl) (hv:Vis X.env.scope x:=by first | exact Or.inl rfl | exact Or.inr (Or.inl rfl) | exact Or.inr (Or.inr rfl)) (hd:(x==("__debug__":Str))=false:=by decide)
  (hcd:(x==("__classdict__":Str))=false:=by decide):PE X (.Name x pos) (tVar i):=pe_var hN hv hd hcd
end
theorem iteF {A B:Prop} (h:B):if false=true then A else B:=by
 rw [if_neg Bool.false_ne_true]
 exact h
theorem iteT {A B:Prop} (h:A):if true=true then A else B:=by
 rw [if_pos rfl]
 exact h
theorem ite2 {c A B:Prop} [Decidable c] (h1:c->A) (h2:¬ c->B):if c then A else B:=by
 by_cases h:c
 ·rw [if_pos h]
  exact h1 h
 ·rw [if_neg h]
  exact h2 h
noncomputable def Same (H H':Hp):Prop:=∀ b o,H b=some o->H' b=some o
theorem Same.refl (H:Hp):Same H H:=fun _ _ h=>h
theorem Same.trans {H H1 H2:Hp} (a:Same H H1) (b:Same H1 H2):Same H H2:=fun c o h=>b c o (a c o h)
theorem Same.free {H H':Hp} (e:Same H H') {l:Addr} (h:H' l=Option.none):H l=Option.none:=by
 cases q:H l with
 | none=>rfl
 | some o =>
  rw [e l o q] at h
  cases h
theorem Same.seq {K:PySem.W.Frag} {H H':Hp} {a:Addr} {xs:List V} (e:Same H H') (h:SqL K H a xs):SqL K H' a xs:=by
 rcases h with (h | ⟨o,h⟩) | h
 ·exact .inl (.inl (e _ _ h))
 ·exact .inl (.inr ⟨o,e _ _ h⟩)
 ·exact .inr h
end L2
namespace P53
open PySem L2
noncomputable def top (i:Nat):Stmt:=PySem.Challenge.pw_pourhall_k53_what_holds_cores.main.body.getD i (.Pass ⟨0,0,0,0⟩)
noncomputable abbrev eK (P:Params) (x:String) (t:Nat) (v:Value):DictEntry:={ hash:=PyData.keyHash P (Str.ofString x),key:=.str (Str.ofString x) t,val:=v }
noncomputable abbrev fK (s:Stmt) (n q:Str) (m c:Value):Obj:={ cls:=.type "function",data:=.func { name:=n,qualname:=q,params:=defArgs s,body:=.stmts (defBody s),scope:=defScope s,globals:=3,closure:=[],defaults:=.none,kwdefaults:=.none,pyModule:=m,code:=c } }
noncomputable abbrev tK (a:Array Value):Obj:={ cls:=.type "tuple",data:=.seq a }
noncomputable abbrev cK (n q:Str) (k l a g r1 r2:Nat) (x y:Value) (r3 t5:Nat):Obj:={ cls:=.type "code",data:=.fields #[.str n k,.str q (k+1),.str "/claim/cut.py" (k+2),.int l 0,.int a 0,.int 0 0,.int 0 0,.int g 0,.ref r1,.bool true,.int 181 0,.ref r2,.none,x,y,.ref r3,.int t5 0,.int l 0,.str "/claim/cut.py" (t5+1)] }
noncomputable def hp (P:Params):PySem.W.Frag :=
 (nat_lit 2,{ cls:=.none,data:=.dict #[] }) ::
 (nat_lit 3,{ cls:=.type "dict",data:=.dict #[eK P "__name__" 165 (.str "law_pourhall_k53_what_holds_cores" 416),eK P "__doc__" 166 .none,eK P "__package__" 167 .none,eK P "__loader__" 168 (.builtin "__main__.__loader__#opaque"),eK P "__spec__" 169 .none,eK P "__annotations__" 170 (.ref 6),eK P "__builtins__" 171 (.ref 4),eK P "__file__" 173 (.str "/claim/cut.py" 172),eK P "__cached__" 174 .none,eK P "FARTHEST" 190 (.int 60 189),eK P "PLACES" 200 (.ref 15),eK P "WAYS" 207 (.ref 16),eK P "is_whole" 214 (.ref 23),eK P "is_near" 221 (.ref 30),eK P "is_cell" 227 (.ref 35),eK P "along" 235 (.ref 42),eK P "placed" 245 (.ref 49),eK P "line_of" 251 (.ref 54),eK P "on_line" 261 (.ref 61),eK P "next_cell" 271 (.ref 68),eK P "neighbours" 277 (.ref 73),eK P "PourError" 297 (.ref 83),eK P "NoCell" 322 (.ref 103),eK P "TooMany" 338 (.ref 115),eK P "MOST_CELLS" 342 (.int 600 341),eK P "refuse_other_things" 351 (.ref 124),eK P "few_enough" 358 (.ref 131),eK P "body_of" 365 (.ref 138),eK P "marked" 374 (.ref 145),eK P "lines_of" 384 (.ref 152),eK P "gaps_on" 392 (.ref 157),eK P "gaps" 403 (.ref 164),eK P "hold" 415 (.ref 171),eK P "_law_cell_at" 425 (.ref 178),eK P "_law_number" 436 (.ref 185),eK P "_law_frame" 449 (.ref 192),eK P "_law_spot" 455 (.ref 197),eK P "_law_body" 471 (.ref 204),eK P "_law_beside" 480 (.ref 211),eK P "_law_whole" 487 (.ref 218),eK P "_law_is_spot" 494 (.ref 225),eK P "_law_lines" 504 (.ref 232),eK P "_law_between" 516 (.ref 239),eK P "_law_nears" 525 (.ref 246),eK P "_law_pieces" 538 (.ref 253),eK P "_law_due" 548 (.ref 260),eK P "_law_shell" 561 (.ref 267),eK P "_law_bodies" 567 (.ref 272),eK P "_law_asked" 581 (.ref 279),eK P "law" 591 (.ref 286)] 50 }) ::
 (nat_lit 15,{ cls:=.type "dict",data:=.dict #[eK P "x" 191 (.int 0 192),eK P "y" 193 (.int 1 194),eK P "z" 195 (.int 2 196)] 3 }) ::
 (nat_lit 16,tK #[.str "+x" 201,.str "-x" 202,.str "+y" 203,.str "-y" 204,.str "+z" 205,.str "-z" 206]) ::
 (nat_lit 17,tK #[]) ::
 (nat_lit 19,tK #[.str "thing" 211]) ::
 (nat_lit 20,tK #[]) ::
 (nat_lit 22,cK "is_whole" "is_whole" 208 5 1 3 17 18 (.ref 19) (.ref 20) 21 212) ::
 (nat_lit 23,fK (top 4) "is_whole" "is_whole" (.str "pourhall.cells" 187) (.ref 22)) ::
 (nat_lit 24,tK #[]) ::
 (nat_lit 26,tK #[.str "thing" 218]) ::
 (nat_lit 27,tK #[]) ::
 (nat_lit 29,cK "is_near" "is_near" 215 7 1 3 24 25 (.ref 26) (.ref 27) 28 219) ::
 (nat_lit 30,fK (top 5) "is_near" "is_near" (.str "pourhall.cells" 187) (.ref 29)) ::
 (nat_lit 31,tK #[]) ::
 (nat_lit 34,cK "is_cell" "is_cell" 222 9 1 3 31 32 .none .none 33 225) ::
 (nat_lit 35,fK (top 6) "is_cell" "is_cell" (.str "pourhall.cells" 187) (.ref 34)) ::
 (nat_lit 36,tK #[]) ::
 (nat_lit 38,tK #[.str "cell" 231,.str "axis" 232]) ::
 (nat_lit 39,tK #[]) ::
 (nat_lit 41,cK "along" "along" 228 13 2 3 36 37 (.ref 38) (.ref 39) 40 233) ::
 (nat_lit 42,fK (top 7) "along" "along" (.str "pourhall.cells" 187) (.ref 41)) ::
 (nat_lit 43,tK #[]) ::
 (nat_lit 45,tK #[.str "cell" 239,.str "axis" 240,.str "number" 241,.str "numbers" 242]) ::
 (nat_lit 46,tK #[]) ::
 (nat_lit 48,cK "placed" "placed" 236 15 3 3 43 44 (.ref 45) (.ref 46) 47 243) ::
 (nat_lit 49,fK (top 8) "placed" "placed" (.str "pourhall.cells" 187) (.ref 48)) ::
 (nat_lit 50,tK #[]) ::
 (nat_lit 53,cK "line_of" "line_of" 246 19 2 3 50 51 .none .none 52 249) ::
 (nat_lit 54,fK (top 9) "line_of" "line_of" (.str "pourhall.cells" 187) (.ref 53)) ::
 (nat_lit 55,tK #[]) ::
 (nat_lit 57,tK #[.str "line" 255,.str "axis" 256,.str "number" 257,.str "numbers" 258]) ::
 (nat_lit 58,tK #[]) ::
 (nat_lit 60,cK "on_line" "on_line" 252 21 3 3 55 56 (.ref 57) (.ref 58) 59 259) ::
 (nat_lit 61,fK (top 10) "on_line" "on_line" (.str "pourhall.cells" 187) (.ref 60)) ::
 (nat_lit 62,tK #[]) ::
 (nat_lit 64,tK #[.str "cell" 265,.str "way" 266,.str "axis" 267,.str "step" 268]) ::
 (nat_lit 65,tK #[]) ::
 (nat_lit 67,cK "next_cell" "next_cell" 262 25 2 3 62 63 (.ref 64) (.ref 65) 66 269) ::
 (nat_lit 68,fK (top 11) "next_cell" "next_cell" (.str "pourhall.cells" 187) (.ref 67)) ::
 (nat_lit 69,tK #[]) ::
 (nat_lit 72,cK "neighbours" "neighbours" 272 29 1 3 69 70 .none .none 71 275) ::
 (nat_lit 73,fK (top 12) "neighbours" "neighbours" (.str "pourhall.cells" 187) (.ref 72)) ::
 (nat_lit 74,tK #[.type "ValueError"]) ::
 (nat_lit 81,tK #[]) ::
 (nat_lit 82,{ cls:=.type "dict",data:=.dict #[eK P "__module__" 287 (.str "pourhall.errors" 278),eK P "__firstlineno__" 291 (.int 32 290),eK P "__static_attributes__" 292 (.ref 81),eK P "__weakref__" 294 (.ref 84),eK P "__doc__" 295 .none] 3 }) ::
 (nat_lit 83,{ cls:=.type "type",data:=.cls { name:="PourError",bases:=[.type "ValueError"],mro:=[.ref 83,.type "ValueError",.type "Exception",.type "BaseException",.type "object"],ns:=82,qualname:="PourError",subclasses:=[.ref 103,.ref 115] },slots:=#[some (.ref 74),none,some (.str "PourError" 280),some (.str "PourError" 288),some (.builtin "ValueError.__new__"),some (.bool true)] }) ::
 (nat_lit 84,{ cls:=.type "getset_descriptor",data:=.fields #[.str "__weakref__" 293,.ref 83,.builtin "ExceptionGroup.__weakref__",.none] }) ::
 (nat_lit 87,tK #[.ref 83]) ::
 (nat_lit 94,tK #[]) ::
 (nat_lit 96,tK #[.str "self" 313,.str "place" 314]) ::
 (nat_lit 97,tK #[]) ::
 (nat_lit 99,cK "__init__" "NoCell.__init__" 310 36 2 3 94 95 (.ref 96) (.ref 97) 98 315) ::
 (nat_lit 100,fK (inClass (top 15) 0) "__init__" "NoCell.__init__" (.str "pourhall.errors" 278) (.ref 99)) ::
 (nat_lit 101,tK #[.str "place" 318]) ::
 (nat_lit 102,{ cls:=.type "dict",data:=.dict #[eK P "__module__" 305 (.str "pourhall.errors" 278),eK P "__firstlineno__" 309 (.int 34 308),eK P "__init__" 317 (.ref 100),eK P "__static_attributes__" 319 (.ref 101),eK P "__doc__" 320 .none] 2 }) ::
 (nat_lit 103,{ cls:=.type "type",data:=.cls { name:="NoCell",bases:=[.ref 83],mro:=[.ref 103,.ref 83,.type "ValueError",.type "Exception",.type "BaseException",.type "object"],ns:=102,qualname:="NoCell" },slots:=#[some (.ref 87),none,some (.str "NoCell" 298),some (.str "NoCell" 306),some (.builtin "ValueError.__new__"),some (.bool true)] }) ::
 (nat_lit 106,tK #[.ref 83]) ::
 (nat_lit 113,tK #[]) ::
 (nat_lit 114,{ cls:=.type "dict",data:=.dict #[eK P "__module__" 330 (.str "pourhall.errors" 278),eK P "__firstlineno__" 334 (.int 39 333),eK P "__static_attributes__" 335 (.ref 113),eK P "__doc__" 336 .none] 2 }) ::
 (nat_lit 115,{ cls:=.type "type",data:=.cls { name:="TooMany",bases:=[.ref 83],mro:=[.ref 115,.ref 83,.type "ValueError",.type "Exception",.type "BaseException",.type "object"],ns:=114,qualname:="TooMany" },slots:=#[some (.ref 106),none,some (.str "TooMany" 323),some (.str "TooMany" 331),some (.builtin "ValueError.__new__"),some (.bool true)] }) ::
 (nat_lit 118,tK #[]) ::
 (nat_lit 120,tK #[.str "things" 346,.str "place" 347,.str "thing" 348]) ::
 (nat_lit 121,tK #[]) ::
 (nat_lit 123,cK "refuse_other_things" "refuse_other_things" 343 43 1 3 118 119 (.ref 120) (.ref 121) 122 349) ::
 (nat_lit 124,fK (top 19) "refuse_other_things" "refuse_other_things" (.str "pourhall.bodies" 339) (.ref 123)) ::
 (nat_lit 125,tK #[]) ::
 (nat_lit 127,tK #[.str "cells" 355]) ::
 (nat_lit 128,tK #[]) ::
 (nat_lit 130,cK "few_enough" "few_enough" 352 47 1 3 125 126 (.ref 127) (.ref 128) 129 356) ::
 (nat_lit 131,fK (top 20) "few_enough" "few_enough" (.str "pourhall.bodies" 339) (.ref 130)) ::
 (nat_lit 132,tK #[]) ::
 (nat_lit 134,tK #[.str "cells" 362]) ::
 (nat_lit 135,tK #[]) ::
 (nat_lit 137,cK "body_of" "body_of" 359 51 1 3 132 133 (.ref 134) (.ref 135) 136 363) ::
 (nat_lit 138,fK (top 21) "body_of" "body_of" (.str "pourhall.bodies" 339) (.ref 137)) ::
 (nat_lit 139,tK #[]) ::
 (nat_lit 141,tK #[.str "cells" 369,.str "marks" 370,.str "cell" 371]) ::
 (nat_lit 142,tK #[]) ::
 (nat_lit 144,cK "marked" "marked" 366 54 1 3 139 140 (.ref 141) (.ref 142) 143 372) ::
 (nat_lit 145,fK (top 22) "marked" "marked" (.str "pourhall.bodies" 339) (.ref 144)) ::
 (nat_lit 146,tK #[]) ::
 (nat_lit 148,tK #[.str "body" 378,.str "axis" 379,.str "lines" 380,.str "cell" 381]) ::
 (nat_lit 149,tK #[]) ::
 (nat_lit 151,cK "lines_of" "lines_of" 375 59 2 3 146 147 (.ref 148) (.ref 149) 150 382) ::
 (nat_lit 152,fK (top 23) "lines_of" "lines_of" (.str "pourhall.bodies" 339) (.ref 151)) ::
 (nat_lit 153,tK #[]) ::
 (nat_lit 156,cK "gaps_on" "gaps_on" 387 65 3 3 153 154 .none .none 155 390) ::
 (nat_lit 157,fK (top 25) "gaps_on" "gaps_on" (.str "pourhall.cores" 385) (.ref 156)) ::
 (nat_lit 158,tK #[]) ::
 (nat_lit 160,tK #[.str "body" 396,.str "axis" 397,.str "found" 398,.str "line" 399,.str "numbers" 400]) ::
 (nat_lit 161,tK #[]) ::
 (nat_lit 163,cK "gaps" "gaps" 393 70 2 3 158 159 (.ref 160) (.ref 161) 162 401) ::
 (nat_lit 164,fK (top 26) "gaps" "gaps" (.str "pourhall.cores" 385) (.ref 163)) ::
 (nat_lit 165,tK #[]) ::
 (nat_lit 167,tK #[.str "body" 407,.str "axis" 408,.str "core" 409,.str "taken" 410,.str "cell" 411,.str "near" 412]) ::
 (nat_lit 168,tK #[]) ::
 (nat_lit 170,cK "hold" "hold" 404 75 3 3 165 166 (.ref 167) (.ref 168) 169 413) ::
 (nat_lit 171,fK (top 27) "hold" "hold" (.str "pourhall.cores" 385) (.ref 170)) ::
 (nat_lit 172,tK #[]) ::
 (nat_lit 174,tK #[.str "_law_script" 421,.str "_law_k" 422]) ::
 (nat_lit 175,tK #[]) ::
 (nat_lit 177,cK "_law_cell_at" "_law_cell_at" 418 83 2 3 172 173 (.ref 174) (.ref 175) 176 423) ::
 (nat_lit 178,fK (top 29) "_law_cell_at" "_law_cell_at" (.str "law_pourhall_k53_what_holds_cores" 416) (.ref 177)) ::
 (nat_lit 179,tK #[]) ::
 (nat_lit 181,tK #[.str "_law_cell" 429,.str "_law_k" 430,.str "_law_number_here" 431,.str "_law_digits" 432,.str "_law_turn" 433]) ::
 (nat_lit 182,tK #[]) ::
 (nat_lit 184,cK "_law_number" "_law_number" 426 87 2 3 179 180 (.ref 181) (.ref 182) 183 434) ::
 (nat_lit 185,fK (top 30) "_law_number" "_law_number" (.str "law_pourhall_k53_what_holds_cores" 416) (.ref 184)) ::
 (nat_lit 186,tK #[]) ::
 (nat_lit 188,tK #[.str "_law_script" 440,.str "_law_sizes" 441,.str "_law_lows" 442,.str "_law_k" 443,.str "_law_cell" 444,.str "_law_size" 445,.str "_law_far" 446]) ::
 (nat_lit 189,tK #[]) ::
 (nat_lit 191,cK "_law_frame" "_law_frame" 437 95 1 3 186 187 (.ref 188) (.ref 189) 190 447) ::
 (nat_lit 192,fK (top 31) "_law_frame" "_law_frame" (.str "law_pourhall_k53_what_holds_cores" 416) (.ref 191)) ::
 (nat_lit 193,tK #[]) ::
 (nat_lit 196,cK "_law_spot" "_law_spot" 450 107 2 3 193 194 .none .none 195 453) ::
 (nat_lit 197,fK (top 32) "_law_spot" "_law_spot" (.str "law_pourhall_k53_what_holds_cores" 416) (.ref 196)) ::
 (nat_lit 198,tK #[]) ::
 (nat_lit 200,tK #[.str "_law_script" 459,.str "_law_frame_here" 460,.str "_law_cells" 461,.str "_law_known" 462,.str "_law_sizes" 463,.str "_law_lows" 464,.str "_law_cell" 465,.str "_law_spot_here" 466,.str "_law_at" 467,.str "_law_turn" 468]) ::
 (nat_lit 201,tK #[]) ::
 (nat_lit 203,cK "_law_body" "_law_body" 456 110 3 3 198 199 (.ref 200) (.ref 201) 202 469) ::
 (nat_lit 204,fK (top 33) "_law_body" "_law_body" (.str "law_pourhall_k53_what_holds_cores" 416) (.ref 203)) ::
 (nat_lit 205,tK #[]) ::
 (nat_lit 207,tK #[.str "_law_spot_here" 475,.str "_law_at" 476,.str "_law_by" 477]) ::
 (nat_lit 208,tK #[]) ::
 (nat_lit 210,cK "_law_beside" "_law_beside" 472 121 3 3 205 206 (.ref 207) (.ref 208) 209 478) ::
 (nat_lit 211,fK (top 34) "_law_beside" "_law_beside" (.str "law_pourhall_k53_what_holds_cores" 416) (.ref 210)) ::
 (nat_lit 212,tK #[]) ::
 (nat_lit 214,tK #[.str "_law_found" 484]) ::
 (nat_lit 215,tK #[]) ::
 (nat_lit 217,cK "_law_whole" "_law_whole" 481 123 1 3 212 213 (.ref 214) (.ref 215) 216 485) ::
 (nat_lit 218,fK (top 35) "_law_whole" "_law_whole" (.str "law_pourhall_k53_what_holds_cores" 416) (.ref 217)) ::
 (nat_lit 219,tK #[]) ::
 (nat_lit 221,tK #[.str "_law_found" 491]) ::
 (nat_lit 222,tK #[]) ::
 (nat_lit 224,cK "_law_is_spot" "_law_is_spot" 488 125 1 3 219 220 (.ref 221) (.ref 222) 223 492) ::
 (nat_lit 225,fK (top 36) "_law_is_spot" "_law_is_spot" (.str "law_pourhall_k53_what_holds_cores" 416) (.ref 224)) ::
 (nat_lit 226,tK #[]) ::
 (nat_lit 228,tK #[.str "_law_body_here" 498,.str "_law_at" 499,.str "_law_lines_here" 500,.str "_law_spot_here" 501]) ::
 (nat_lit 229,tK #[]) ::
 (nat_lit 231,cK "_law_lines" "_law_lines" 495 129 2 3 226 227 (.ref 228) (.ref 229) 230 502) ::
 (nat_lit 232,fK (top 37) "_law_lines" "_law_lines" (.str "law_pourhall_k53_what_holds_cores" 416) (.ref 231)) ::
 (nat_lit 233,tK #[]) ::
 (nat_lit 235,tK #[.str "_law_body_here" 508,.str "_law_at" 509,.str "_law_lines_here" 510,.str "_law_some" 511,.str "_law_line" 512,.str "_law_number_here" 513]) ::
 (nat_lit 236,tK #[]) ::
 (nat_lit 238,cK "_law_between" "_law_between" 505 134 2 3 233 234 (.ref 235) (.ref 236) 237 514) ::
 (nat_lit 239,fK (top 38) "_law_between" "_law_between" (.str "law_pourhall_k53_what_holds_cores" 416) (.ref 238)) ::
 (nat_lit 240,tK #[]) ::
 (nat_lit 242,tK #[.str "_law_spot_here" 520,.str "_law_some" 521,.str "_law_at" 522]) ::
 (nat_lit 243,tK #[]) ::
 (nat_lit 245,cK "_law_nears" "_law_nears" 517 142 1 3 240 241 (.ref 242) (.ref 243) 244 523) ::
 (nat_lit 246,fK (top 39) "_law_nears" "_law_nears" (.str "law_pourhall_k53_what_holds_cores" 416) (.ref 245)) ::
 (nat_lit 247,tK #[]) ::
 (nat_lit 249,tK #[.str "_law_some" 529,.str "_law_left" 530,.str "_law_spot_here" 531,.str "_law_found" 532,.str "_law_one" 533,.str "_law_at" 534,.str "_law_near" 535]) ::
 (nat_lit 250,tK #[]) ::
 (nat_lit 252,cK "_law_pieces" "_law_pieces" 526 147 1 3 247 248 (.ref 249) (.ref 250) 251 536) ::
 (nat_lit 253,fK (top 40) "_law_pieces" "_law_pieces" (.str "law_pourhall_k53_what_holds_cores" 416) (.ref 252)) ::
 (nat_lit 254,tK #[]) ::
 (nat_lit 256,tK #[.str "_law_known" 542,.str "_law_core" 543,.str "_law_spot_here" 544,.str "_law_near" 545]) ::
 (nat_lit 257,tK #[]) ::
 (nat_lit 259,cK "_law_due" "_law_due" 539 165 2 3 254 255 (.ref 256) (.ref 257) 258 546) ::
 (nat_lit 260,fK (top 41) "_law_due" "_law_due" (.str "law_pourhall_k53_what_holds_cores" 416) (.ref 259)) ::
 (nat_lit 261,tK #[]) ::
 (nat_lit 263,tK #[.str "_law_frame_here" 552,.str "_law_sizes" 553,.str "_law_lows" 554,.str "_law_some" 555,.str "_law_x" 556,.str "_law_y" 557,.str "_law_z" 558]) ::
 (nat_lit 264,tK #[]) ::
 (nat_lit 266,cK "_law_shell" "_law_shell" 549 171 1 3 261 262 (.ref 263) (.ref 264) 265 559) ::
 (nat_lit 267,fK (top 42) "_law_shell" "_law_shell" (.str "law_pourhall_k53_what_holds_cores" 416) (.ref 266)) ::
 (nat_lit 268,tK #[]) ::
 (nat_lit 271,cK "_law_bodies" "_law_bodies" 562 179 2 3 268 269 .none .none 270 565) ::
 (nat_lit 272,fK (top 43) "_law_bodies" "_law_bodies" (.str "law_pourhall_k53_what_holds_cores" 416) (.ref 271)) ::
 (nat_lit 273,tK #[]) ::
 (nat_lit 275,tK #[.str "_law_body_here" 571,.str "_law_at" 572,.str "_law_some" 573,.str "_law_known" 574,.str "_law_spot_here" 575,.str "_law_core" 576,.str "_law_handed" 577,.str "_law_found" 578]) ::
 (nat_lit 276,tK #[]) ::
 (nat_lit 278,cK "_law_asked" "_law_asked" 568 184 2 3 273 274 (.ref 275) (.ref 276) 277 579) ::
 (nat_lit 279,fK (top 44) "_law_asked" "_law_asked" (.str "law_pourhall_k53_what_holds_cores" 416) (.ref 278)) ::
 (nat_lit 280,tK #[]) ::
 (nat_lit 282,tK #[.str "_law_script" 585,.str "_law_frame_here" 586,.str "_law_body_here" 587,.str "_law_at" 588]) ::
 (nat_lit 283,tK #[]) ::
 (nat_lit 285,cK "law" "law" 582 201 1 3 280 281 (.ref 282) (.ref 283) 284 589) ::
 (nat_lit 286,fK (top 45) "law" "law" (.str "law_pourhall_k53_what_holds_cores" 416) (.ref 285)) :: []
noncomputable abbrev hk:PySem.W.Hook:=PySem.W.kHook hp [2,3,15,16,17,19,20,22,23,24,26,27,29,30,31,34,35,36,38,39,41,42,43,45,46,48,49,50,53,54,55,57,58,60,61,62,64,65,67,68,69,72,73,74,81,82,83,84,87,94,96,97,99,100,101,102,103,106,113,114,115,118,120,121,123,124,125,127,128,130,131,132,134,135,137,138,139,141,142,144,145,146,148,149,151,152,153,156,157,158,160,161,163,164,165,167,168,170,171,172,174,175,177,178,179,181,182,184,185,186,188,189,191,192,193,196,197,198,200,201,203,204,205,207,208,210,211,212,214,215,217,218,219,221,222,224,225,226,228,229,231,232,233,235,236,238,239,240,242,243,245,246,247,249,250,252,253,254,256,257,259,260,261,263,264,266,267,268,271,272,273,275,276,278,279,280,282,283,285,286] (fun _=>by kernel_rfl)
noncomputable def vw:Program:={ PySem.Challenge.pw_pourhall_k53_what_holds_cores with main:={ PySem.Challenge.pw_pourhall_k53_what_holds_cores.main with body:=[top 1,top 2,top 3,top 4,top 5,top 6,top 7,top 8,top 9,top 10,top 11,top 12,top 14,top 15,top 16,top 18,top 19,top 20,top 21,top 22,top 23,top 25,top 26,top 27,top 29,top 30,top 31,top 32,top 33,top 34,top 35,top 36,top 37,top 38,top 39,top 40,top 41,top 42,top 43,top 44,top 45] } }
noncomputable abbrev Xq (s:Shared):Bool:=PySem.W.xlAt vw [] s&&PySem.W.recOk (PySem.Challenge.rw_pourhall_k53_what_holds_cores.row.toRowW).records s
noncomputable abbrev Lft (w:World):Prop:=(PySem.W.openEnds treeTable PySem.Challenge.pw_pourhall_k53_what_holds_cores w 3784).map (fun s=>(PySem.W.openSeen vw ["PLACES"] (importedModules PySem.Challenge.pw_pourhall_k53_what_holds_cores.main.body) Xq true s,hk.obs s))=some (PySem.W.openGood vw ["PLACES"],hk.val w)
theorem left0 (w:World):Lft (w.withFollow "special-get-raises" false):=by kernel_rfl
theorem left1 (w:World):Lft (w.withFollow "special-get-raises" true):=by kernel_rfl
theorem left:PySem.W.LeftO PySem.Challenge.pw_pourhall_k53_what_holds_cores vw ["PLACES"] Xq hk.obs hk.val 3784:=PySem.W.byRow2 "special-get-raises" (P:=Lft) left0 left1
end P53
namespace L2
open PySem PySem.Spec PyProof.Rows
noncomputable def cloStep (env:Env) (x:Str×NameKind) (r:List (Str×Addr)):Sem (ForInStep (List (Str×Addr))) :=
 if (x.2==NameKind.free)=true then cellOf env x.1 >>= fun a=>pure (.yield ((x.1,a) :: r)) else pure (.yield r)
theorem clo_look {y x:Str} {c:Addr} {acc:List (Str×Addr)}:((y,c) :: acc).lookup x=if x=y then some c else acc.lookup x:=by
 rw [List.lookup_cons]
 by_cases e:x=y
 ·subst e;simp
 ·have:(x==y)=false:=by simpa using e
  rw [this,if_neg e]
theorem clo_go (env:Env):∀ (names:List (Str×NameKind)) (acc:List (Str×Addr)),
  (∀ y∈names,y.2=.free->∃ c,env.cells.lookup y.1=some c)->(∀ x c,acc.lookup x=some c->env.cells.lookup x=some c) ->
  ∃ cl,forIn names acc (cloStep env)=pure cl/\(∀ x c,cl.lookup x=some c->env.cells.lookup x=some c) /\
   (∀ x,((x,NameKind.free)∈names\/∃ c,acc.lookup x=some c)->∃ c,cl.lookup x=some c)
 | [],acc,_,ha=>⟨acc,by rw [List.forIn_nil],ha,fun x h=>by
   rcases h with h | h
   ·cases h
   ·exact h⟩
 | y :: r,acc,hy,ha=>by
  by_cases hk:y.2=.free
  ·obtain ⟨c,hc⟩:=hy y List.mem_cons_self hk
   have e:cloStep env y acc=pure (.yield ((y.1,c) :: acc)):=by
    unfold cloStep cellOf
    rw [if_pos (by rw [hk];rfl),hc]
    exact pure_bind _ _
   have ha':∀ x d,((y.1,c) :: acc).lookup x=some d->env.cells.lookup x=some d:=fun x d h=>by
    rw [clo_look] at h
    by_cases ex:x=y.1
    ·rw [if_pos ex] at h;cases h;rw [ex];exact hc
    ·rw [if_neg ex] at h;exact ha x d h
   obtain ⟨cl,q1,q2,q3⟩:=clo_go env r ((y.1,c) :: acc) (fun z hz=>hy z (List.mem_cons_of_mem _ hz)) ha'
   refine ⟨cl,?_,q2,fun x h=>q3 x ?_⟩
   ·rw [List.forIn_cons,e,pure_bind];exact q1
   ·rcases h with h | ⟨d,h⟩
    ·rcases List.mem_cons.mp h with h | h
     ·refine .inr ⟨c,?_⟩
      rw [clo_look,if_pos (by rw [←h])]
     ·exact .inl h
    ·refine .inr ?_
     by_cases ex:x=y.1
     ·exact ⟨c,by rw [clo_look,if_pos ex]⟩
     ·exact ⟨d,by rw [clo_look,if_neg ex];exact h⟩
  ·have e:cloStep env y acc=pure (.yield acc):=by
    unfold cloStep
    rw [if_neg (by simpa using hk)]
   obtain ⟨cl,q1,q2,q3⟩:=clo_go env r acc (fun z hz=>hy z (List.mem_cons_of_mem _ hz)) ha
   refine ⟨cl,?_,q2,fun x h=>q3 x ?_⟩
   ·rw [List.forIn_cons,e,pure_bind];exact q1
   ·rcases h with h | h
    ·rcases List.mem_cons.mp h with h | h
     ·exact absurd (by rw [←h]) hk
     ·exact .inl h
    ·exact .inr h
theorem closureFor_eq (scope:Scope) (env:Env):closureFor scope env=forIn scope.names [] (cloStep env):=by
 unfold closureFor
 have e:(fun (x:Str×NameKind) (r:List (Str×Addr))=>cloStep env x r)=cloStep env:=rfl
 simp only [bind_pure]
 rfl
noncomputable def blkOk (sc:Scope) (N:List Str) (scope:Scope) (caps:List Nat):Bool :=
 scope.names.all (fun y=>decide (scope.names.lookup y.1=some y.2)) &&
 scope.names.all (fun y=>decide (y.2=.free->(sc.names.lookup y.1=some .cell\/sc.names.lookup y.1=some .free))) &&
 caps.all (fun j=>match N[j]? with
  | some x=>decide (scope.names.lookup x=some .free)&&decide (sc.names.lookup x=some .cell\/sc.names.lookup x=some .free)
  | none=>false)
noncomputable def blockSt (n:Nat) (caps:List Nat) (σ:St):St:=List.replicate n none ++ caps.map fun j=>(σ[j]?).getD none
noncomputable def cxBlk (X:Cx) (N:List Str) (scope:Scope) (cl:List (Str×Addr)) (s₃:Shared) (H₃:Hp) (ch:List Addr):Cx where
 prog:=X.prog
 w:=X.w
 K:=X.K
 mg:=X.mg
 base:=X.base
 A:=X.A
 N:=N
 s₀:=s₃
 H₀:=H₃
 env:=compEnvC scope cl s₃.heap.objs.size X.env
 outer:=X.stack
 stack:=X.stack
 ex:=ch
 fn:=fun x=>match scope.names.lookup x with
  | some .cell=>true
  | _=>false
 calm:=X.calm
 pn:=[]
 xe:=fun _ _=>False
theorem relabel_free {env:Env}:∀ {names:List (Str×NameKind)} {x:Str},names.lookup x=some .free ->
  (names.map fun (n,k)=>if (k==NameKind.free&&env.scope.kind==.function&&env.kindOf n==some .cell) then (n,NameKind.cell) else (n,k)).lookup x=some .cell \/
  (names.map fun (n,k)=>if (k==NameKind.free&&env.scope.kind==.function&&env.kindOf n==some .cell) then (n,NameKind.cell) else (n,k)).lookup x=some .free
 | [],_,h=>by simp at h
 | (n,k) :: r,x,h=>by
  have ih:=@relabel_free env r x
  have two:∀ l:List (Str×NameKind),List.lookup x ((if (k==NameKind.free&&env.scope.kind==.function&&env.kindOf n==some .cell)=true then (n,NameKind.cell) else (n,k)) :: l)=some .cell \/
    List.lookup x ((if (k==NameKind.free&&env.scope.kind==.function&&env.kindOf n==some .cell)=true then (n,NameKind.cell) else (n,k)) :: l)=some .free ↔
    (if (x==n)=true then (k=.free\/k=.cell) else (l.lookup x=some .cell\/l.lookup x=some .free)):=by
   intro l
   cases hx:x==n with
   | true =>
    by_cases hc:(k==NameKind.free&&env.scope.kind==.function&&env.kindOf n==some .cell)=true
    ·rw [if_pos hc]
     have hk:k=.free:=by
      simp only [Bool.and_eq_true,beq_iff_eq] at hc
      exact hc.1.1
     simp [List.lookup_cons,hx,hk]
    ·rw [if_neg hc]
     simp only [List.lookup_cons,hx,if_true,Option.some.injEq]
     exact Or.comm
   | false =>
    by_cases hc:(k==NameKind.free&&env.scope.kind==.function&&env.kindOf n==some .cell)=true
    ·rw [if_pos hc];simp [List.lookup_cons,hx]
    ·rw [if_neg hc];simp [List.lookup_cons,hx]
  refine (two _).mpr ?_
  cases hx:x==n with
  | true =>
   simp only [List.lookup_cons,hx] at h
   cases h
   simp
  | false =>
   simp only [List.lookup_cons,hx] at h
   simpa using ih h
theorem relabel_from {env:Env}:∀ {names:List (Str×NameKind)} {x:Str} {k:NameKind},k=.cell\/k=.free ->
  (names.map fun (n,k)=>if (k==NameKind.free&&env.scope.kind==.function&&env.kindOf n==some .cell) then (n,NameKind.cell) else (n,k)).lookup x=some k->names.lookup x=some .free\/names.lookup x=some .cell
 | [],_,_,_,h=>by simp at h
 | (n,k0) :: r,x,k,hk,h=>by
  rw [List.map_cons] at h
  dsimp only at h
  by_cases hq:(k0==NameKind.free&&env.scope.kind==.function&&env.kindOf n==some .cell)=true
  ·rw [if_pos hq] at h
   have h0:k0=.free:=by
    simp only [Bool.and_eq_true,beq_iff_eq] at hq
    exact hq.1.1
   rw [List.lookup_cons] at h ⊢
   cases hx:x==n with
   | true=>exact .inl (by rw [h0])
   | false=>rw [hx] at h;exact relabel_from hk h
  ·rw [if_neg hq] at h
   rw [List.lookup_cons] at h ⊢
   cases hx:x==n with
   | true =>
    rw [hx] at h
    dsimp only at h ⊢
    rcases hk with rfl | rfl
    ·exact .inr h
    ·exact .inl h
   | false=>rw [hx] at h;exact relabel_from hk h
theorem cells_app:∀ (names:List (Str×NameKind)) (n:Nat) (acc:List (Str×Addr)),cellsFrom n names acc=cellsFrom n names [] ++ acc
 | [],_,_=>rfl
 | (x,k) :: r,n,acc=>by
  unfold cellsFrom
  split
  ·rw [cells_app r (n+1) ((x,n) :: acc),cells_app r (n+1) [(x,n)],List.append_assoc];rfl
  ·exact cells_app r n acc
theorem cells_kind:∀ (names:List (Str×NameKind)) (n:Nat) {x:Str} {c:Addr},(x,c)∈cellsFrom n names []->(x,NameKind.cell)∈names
 | [],_,_,_,h=>by cases h
 | (y,k) :: r,n,x,c,h=>by
  unfold cellsFrom at h
  split at h
  ·rename_i hk
   rw [cells_app] at h
   rcases List.mem_append.mp h with h | h
   ·exact List.mem_cons_of_mem _ (cells_kind r _ h)
   ·rcases List.mem_singleton.mp h with h
    cases h
    rw [←eq_of_beq hk];exact List.mem_cons_self
  ·exact List.mem_cons_of_mem _ (cells_kind r _ h)
theorem newEnv_blk {M:Model} {A:Around} {E:Value->Shared->Prop} {s:Shared} {scope:Scope} {globals:Addr} {closure:List (Str×Addr)} {qual:Str} {func:Option Addr} {code:Value} {outer:Env} {builtins:Addr} {Q:Env->Shared->Prop}
  (hQ:∀ h',h'.Ns s.heap.objs.size (fun _=>none)->(∀ b o,s.heap.get? b=some o->h'.get? b=some o)->CellsOk h' (s.heap.objs.size+1) (cellsFrom (s.heap.objs.size+1) scope.names []) ->
   Q (newEnv scope s.heap.objs.size globals (cellsFrom (s.heap.objs.size+1) scope.names closure) qual func code (some outer) builtins) { s with heap:=h' }) :
  wpAny M A (newFunctionEnv scope globals closure [] qual func code (some outer) builtins) Q E s:=by
 unfold newFunctionEnv
 simp only [Option.isSome_some,if_true]
 refine wpAny_bind (wpAny_alloc (wpAny_bind (wpAny_layCells _ (fun x k cs=>?_) _ _ _ _ ?_)))
 ·cases h:k==NameKind.cell
  ·simp [h]
  ·simp [h]
 ·have e1:∀ o:Obj,(s.heap.push o).objs.size=s.heap.objs.size+1:=fun o=>Heap.size_push ..
  dsimp only
  rw [e1,List.forIn_nil]
  refine wpAny_bind (wpAny_pure (wpAny_pure (hQ _ ((Heap.Ns.new s.heap (.type "dict")).keeps (pushCells_keeps _ _)) (fun b o e=>pushCells_keeps _ _ b o (Heap.get?_push_of_some _ e)) ?_)))
  have q:=cellsFrom_ok scope.names (s.heap.push { cls:=.type "dict",data:=.dict #[] }) (s.heap.objs.size+1) [] ⟨fun _ _ z=>(nomatch z),.nil⟩ (Nat.le_of_eq (e1 _).symm)
  rw [e1] at q
  exact q
section
variable {X:Cx} {pins:List (Addr×Obj)} {σ:St} {H₃:Hp} {s₃:Shared} {N own:List Str} {caps:List Nat} {scope:Scope} {cl:List (Str×Addr)} {ch:List Addr}
structure BlkOk (sc:Scope) (N:List Str) (scope:Scope) (caps:List Nat):Prop where
 one:∀ y∈scope.names,scope.names.lookup y.1=some y.2
 free:∀ y∈scope.names,y.2=.free->(sc.names.lookup y.1=some .cell\/sc.names.lookup y.1=some .free)
 cap:∀ j∈caps,∃ x,N[j]?=some x/\scope.names.lookup x=some .free/\(sc.names.lookup x=some .cell\/sc.names.lookup x=some .free)
theorem BlkOk.loc {sc:Scope} {N:List Str} (ok:BlkOk sc N scope caps):∀ y∈scope.names,y.2=.local->scope.names.lookup y.1=some .local:=fun y hy e=>e▸ok.one y hy
theorem blkOk_iff {sc:Scope} {N:List Str} (h:blkOk sc N scope caps=true):BlkOk sc N scope caps:=by
 unfold blkOk at h
 simp only [Bool.and_eq_true,List.all_eq_true,decide_eq_true_eq] at h
 obtain ⟨⟨h1,h3⟩,h4⟩:=h
 refine ⟨h1,h3,fun j hj=>?_⟩
 have q:=h4 j hj
 cases e:N[j]? with
 | none=>rw [e] at q;cases q
 | some x =>
  rw [e] at q
  simp only [Bool.and_eq_true,decide_eq_true_eq] at q
  exact ⟨x,rfl,q⟩
structure BlkCl (X:Cx) (scope:Scope) (cl:List (Str×Addr)) (n:Nat) (h1:Heap):Prop where
 src:∀ x c,cl.lookup x=some c->(X.env.cells.lookup x=some c/\scope.names.lookup x≠some .cell)\/(scope.names.lookup x=some .cell/\n < c/\h1.IsCell c none)
 inj:∀ x y c,cl.lookup x=some c->cl.lookup y=some c->x=y
 has:∀ x,scope.names.lookup x=some .free\/scope.names.lookup x=some .cell->∃ c,cl.lookup x=some c
theorem blkCl_of {sc:Scope} {M:List Str} {cl0:List (Str×Addr)} {h1:Heap} (ok:BlkOk sc M scope caps) (I3:Inv X pins σ H₃ s₃) (hcl1:∀ x c,cl0.lookup x=some c->X.env.cells.lookup x=some c) (hcl2:∀ x,(x,NameKind.free)∈scope.names->∃ c,cl0.lookup x=some c)
  (hc:CellsOk h1 (s₃.heap.objs.size+1) (cellsFrom (s₃.heap.objs.size+1) scope.names [])):BlkCl X scope (cellsFrom (s₃.heap.objs.size+1) scope.names cl0) s₃.heap.objs.size h1:=by
 have two:∀ x c,(cellsFrom (s₃.heap.objs.size+1) scope.names cl0).lookup x=some c->(X.env.cells.lookup x=some c/\scope.names.lookup x≠some .cell)\/((x,c)∈cellsFrom (s₃.heap.objs.size+1) scope.names []/\scope.names.lookup x=some .cell):=fun x c e=>by
  rw [cells_app,List.lookup_append] at e
  cases q:(cellsFrom (s₃.heap.objs.size+1) scope.names []).lookup x with
  | some d =>
   rw [q] at e
   cases e
   have m:=PySem.mem_of_lookup q
   exact .inr ⟨m,ok.one _ (cells_kind _ _ m)⟩
  | none =>
   rw [q] at e
   refine .inl ⟨hcl1 x c e,fun z=>?_⟩
   obtain ⟨d,hd⟩:=cell_has (n:=s₃.heap.objs.size+1) z
   rw [q] at hd;cases hd
 have low:∀ x c,X.env.cells.lookup x=some c->c < s₃.heap.objs.size:=fun x c e=>by
  obtain ⟨v,o,ho,_⟩:=I3.cell x c e
  exact Heap.lt_size ho
 refine ⟨fun x c e=>?_,fun x y c e1 e2=>?_,fun x hx=>?_⟩
 ·rcases two x c e with h | ⟨m,k⟩
  ·exact .inl h
  ·exact .inr ⟨k,(hc.empty x c m).2,(hc.empty x c m).1⟩
 ·rcases two x c e1 with ⟨h,_⟩ | ⟨m,_⟩ <;> rcases two y c e2 with ⟨h',_⟩ | ⟨m',_⟩
  ·exact I3.ok.inj x y c h h'
  ·exact absurd (Nat.lt_of_lt_of_le (low x c h) (Nat.le_of_succ_le (hc.empty y c m').2)) (Nat.lt_irrefl _)
  ·exact absurd (Nat.lt_of_lt_of_le (low y c h') (Nat.le_of_succ_le (hc.empty x c m).2)) (Nat.lt_irrefl _)
  ·exact name_of_addr hc.apart m m'
 ·rw [cells_app,List.lookup_append]
  cases q:(cellsFrom (s₃.heap.objs.size+1) scope.names []).lookup x with
  | some d=>exact ⟨d,rfl⟩
  | none =>
   rcases hx with hx | hx
   ·obtain ⟨c,hc⟩:=hcl2 x (PySem.mem_of_lookup hx)
    exact ⟨c,hc⟩
   ·obtain ⟨d,hd⟩:=cell_has (n:=s₃.heap.objs.size+1) hx
    rw [q] at hd;cases hd
theorem blk_start {h1:Heap} {m:Str->Option Value} {t1:Nat} (I3:Inv X pins σ H₃ s₃) (hf:∀ b∈ch,FpOk X pins H₃ b) (hch:∀ b∈ch,b < s₃.heap.objs.size)
  (hN:N=own ++ caps.map fun j=>(X.N[j]?).getD (Str.ofString "")) (ok:BlkOk X.env.scope X.N scope caps) (hkind:scope.kind=.function)
  (hcl:BlkCl X scope cl s₃.heap.objs.size h1)
  (hns:h1.Ns s₃.heap.objs.size m) (keep:∀ b o,s₃.heap.get? b=some o->h1.get? b=some o) :
  Inv (cxBlk X N scope cl s₃ H₃ ch) [] (blockSt own.length caps σ) H₃ { s₃ with heap:=h1,toks:=t1 }:=by
 refine ⟨⟨I3.ok.mod,hkind,I3.ok.glob,I3.ok.blt,Nat.le_refl _,hcl.inj,fun x hx=>?_,fun x c e el=>?_,I3.ok.hd,I3.ok.frames,.inl rfl,
   fun b hb=>⟨Nat.ne_of_lt (hch b hb),fun x c e=>?_⟩,I3.bs,Nat.le_trans I3.ok.bsz I3.sz,fun b o e hb=>?_,fun b hb hz=>?_,I3.stack,I3.stkFree⟩,
  rfl,I3.bare,Un.kept keep,⟨m,hns,fun i x v e1 e2 e3=>?_⟩,fun x c e=>?_,I3.fresh,fun x c e=>?_,fun p hp=>absurd (show p∈([]:List (Addr×Obj)) from hp) (by simp),I3.hok.kept keep,?_⟩
 ·refine hcl.has x ?_
  rcases hx with hx | hx
  ·exact relabel_from (.inl rfl) hx
  ·exact relabel_from (.inr rfl) hx
 ·rcases hcl.src x c el with ⟨_,z⟩ | ⟨_,z,_⟩
  ·have e:(match scope.names.lookup x with
    | some .cell=>true
    | _=>false)=true:=e
   split at e
   ·rename_i q;exact absurd q z
   ·cases e
  ·exact Nat.le_of_lt z
 ·rcases hcl.src x c e with ⟨z,_⟩ | ⟨_,z,_⟩
  ·exact (hf b hb).2.2.2.2.1 x c z
  ·exact Nat.ne_of_gt (Nat.lt_trans (hch b hb) z)
 ·rcases (hf b hb).2.2.2.1 with z | z
  ·exact I3.ok.noex b o e z
  ·exact absurd (Nat.lt_of_lt_of_le (show b < X.base.objs.size from Heap.lt_size e) I3.ok.bsz) (Nat.not_lt.mpr z)
 ·rcases List.mem_cons.mp (I3.stkSub b hz) with z | z
  ·exact (hf b hb).2.1 z
  ·exact (hf b hb).2.2.1 z
 ·have hi:own.length≤i:=by
   rcases Nat.lt_or_ge i own.length with z | z
   ·unfold blockSt at e2
    rw [List.getElem?_append_left (by simpa using z),List.getElem?_replicate,if_pos z] at e2
    cases e2
   ·exact z
  have e2':(caps.map fun j=>(σ[j]?).getD none)[i - own.length]?=some (some v):=by
   unfold blockSt at e2
   rwa [List.getElem?_append_right (by simpa using hi),List.length_replicate] at e2
  have e1':(caps.map fun j=>(X.N[j]?).getD (Str.ofString ""))[i - own.length]?=some x:=by
   have e1:N[i]?=some x:=e1
   rw [hN,List.getElem?_append_right hi] at e1
   exact e1
  rw [List.getElem?_map] at e1' e2'
  cases ej:caps[i - own.length]? with
  | none=>rw [ej] at e2';cases e2'
  | some j =>
   rw [ej] at e1' e2'
   have e1'':(X.N[j]?).getD (Str.ofString "")=x:=Option.some.inj e1'
   have e2'':(σ[j]?).getD none=some v:=Option.some.inj e2'
   obtain ⟨x',hx',hl,hsc⟩:=ok.cap j (List.mem_of_getElem? ej)
   rw [hx'] at e1''
   have ex:x'=x:=e1''
   subst ex
   have hσ:σ[j]?=some (some v):=by
    cases q:σ[j]? with
    | none=>rw [q] at e2'';cases e2''
    | some o=>rw [q] at e2'';rw [show o=some v from e2'']
   obtain ⟨m3,hn3,hl3⟩:=I3.loc
   obtain ⟨u,r,lk⟩:=hl3 j x' v hx' hσ (.inr hsc)
   refine ⟨u,r,.inr ⟨relabel_free hl,?_⟩⟩
   rcases lk with ⟨hk,_⟩ | ⟨_,c,hc,z⟩
   ·have hk:X.env.scope.names.lookup x'=some .local:=hk
    rcases hsc with q | q <;> rw [hk] at q <;> cases q
   ·obtain ⟨c',hc'⟩:=hcl.has x' (.inl hl)
    have q:X.env.cells.lookup x'=some c':=by
     rcases hcl.src x' c' hc' with ⟨z,_⟩ | ⟨z,_⟩
     ·exact z
     ·rw [hl] at z;cases z
    rw [hc] at q
    cases q
    obtain ⟨o,ho,hd⟩:=z
    exact ⟨c,hc',o,keep c o ho,hd⟩
 ·rcases hcl.src x c e with ⟨z,_⟩ | ⟨_,_,z⟩
  ·obtain ⟨v,o,ho,hd⟩:=I3.cell x c z
   exact ⟨v,o,keep c o ho,hd⟩
  ·exact ⟨none,z⟩
 ·rcases hcl.src x c e with ⟨z,_⟩ | ⟨_,z,_⟩
  ·exact I3.freeC x c z
  ·exact I3.hok.fresh (Nat.le_of_lt z)
 ·show (blockSt own.length caps σ).length=N.length
  rw [hN]
  simp [blockSt]
end
noncomputable def PIfs (X:Cx) (ifs:List Expr) (t:TT):Prop :=
 ∀ (pins:List (Addr×Obj)) (s:Shared) (σ:St) (H:Hp) (Q:Bool->Hp->Prop),Inv X pins σ H s->t σ H Q ->
  wpAny (model X.prog X.w) X.A (forIn ifs true fun c r=>if r=true then do let ok ←isTrue c X.env (eval c X.env);pure (ForInStep.yield ok) else pure (ForInStep.yield r)) (TP X pins σ Q) X.xe s
noncomputable def tYes:TT:=fun _ H Q=>Q true H
theorem pifs_nil {X:Cx}:PIfs X [] tYes:=fun _ _ _ H _ I h=>wpAny_tests_nil ⟨H,I,h⟩
theorem pifs_one {X:Cx} {c:Expr} {t:TT} (h:PT X c t):PIfs X [c] t:=fun pins s σ H Q I q=>wpAny_tests_one (h pins s σ H Q I q)
theorem compLoop_gen {prog:Program} {w:World} {A:Around} {R:Result->Shared->Prop} {s:Shared} {elt target iter:Expr} {ifs:List Expr} {scope:Scope} {pos:Pos} {it acc:Value} {env:Env} (I:Nat->Shared->Prop)
  (turn:∀ n s,I n s->wpAny (model prog w) A (pyNext it) (fun r s₁=>match r with
   | none=>R (.ok .next) s₁
   | some v=>wpAny (model prog w) A (letOwnedTupleGo target it v) (fun _ s₁'=>wpAny (model prog w) A (assign target env v) (fun _ s₂ =>
     wpAny (model prog w) A (forIn ifs true fun c r=>if r=true then do let ok ←isTrue c env (eval c env);pure (ForInStep.yield ok) else pure (ForInStep.yield r)) (fun ok s₃ =>
      if ok=true then wpAny (model prog w) A (eval elt env) (fun x s₄ =>
       wpAny (model prog w) A (call (.builtin "list.append") [acc,x]) (fun _ s₅=>∃ m,m < n/\I m s₅) (fun _ _=>False) s₄) (fun _ _=>False) s₃
      else ∃ m,m < n/\I m s₃) (fun _ _=>False) s₂) (fun _ _=>False) s₁') (fun _ _=>False) s₁) (fun _ _=>False) s)
  (n:Nat) (h:I n s) :
  codeAny (model prog w) A (.compLoop (.ListComp elt [⟨target,iter,ifs,0⟩] scope pos) 0 it acc env) R s:=by
 refine codeAny_loop rfl I (fun n s hI=>?_) n h
 show wpAny _ A ((compTurn (.ListComp elt [⟨target,iter,ifs,0⟩] scope pos) 0 it acc env).onRaise (fun x=>do noteFrame x env;theTreesLotGoes x)) _ _ s
 refine wpAny_noted ?_
 rw [compTurn_list]
 refine wpAny_bind (wpAny_standAt (wpAny_bind (wpAny_mono (turn n s hI) (fun r s₁ h₁=>?_) fun _ _ h'=>h'.elim)))
 cases r with
 | none=>exact wpAny_pure h₁
 | some v =>
  refine wpAny_bind (wpAny_mono h₁ (fun _ s₁' h₁'=>?_) fun _ _ h'=>h'.elim)
  refine wpAny_bind (wpAny_mono h₁' (fun _ s₂ h₂=>wpAny_bind (wpAny_mono h₂ (fun ok s₃ h₃=>?_) fun _ _ h'=>h'.elim)) fun _ _ h'=>h'.elim)
  cases ok with
  | false=>exact wpAny_pure ⟨rfl,h₃⟩
  | true =>
   exact wpAny_bind (wpAny_bind (wpAny_mono h₃ (fun x s₄ h₄=>wpAny_bind (wpAny_mono h₄ (fun _ s₅ h₅=>wpAny_pure (wpAny_pure ⟨rfl,h₅⟩)) fun _ _ h'=>h'.elim)) fun _ _ h'=>h'.elim))
noncomputable def CompGo (acc:Addr) (Q:VK) (g:TG) (tc:TT) (te:TE) (J:It) (σ:St) (H:Hp):Prop :=
 ∃ W:Nat->Nat->St->Hp->Prop,(∃ m,W 0 m σ H)/\∀ i m σ' H',W i m σ' H' ->
  (J.stop i H'/\Q (.ref acc) H')\/(J.go i H'/\∃ N:St->Hp->Prop,(∀ σ'' H'',N σ'' H''->∃ m',m' < m/\W (i+1) m' σ'' H'')/\∀ x H2,J.yld i H' x H2->g x σ' H2 fun σ3 H3=>tc σ3 H3 fun b H4 =>
   if b=true then te σ3 H4 fun v H5=>∃ ys,H5 acc=some (.lst ys)/\ys.length < sizeLine/\N σ3 (upd H5 acc (.lst (ys ++ [v])))
   else N σ3 H4)
noncomputable def tComp (n:Nat) (caps:List Nat) (wi:TI) (g:TG) (tc:TT) (te:TE):TE:=fun σ H Q=>wi σ H fun J H1=>∀ acc,H1 acc=none->CompGo acc Q g tc te J (blockSt n caps σ) (upd H1 acc (.lst []))
theorem comp_run {X:Cx} {pins:List (Addr×Obj)} {σ:St} {Q:VK} {tg elt iter:Expr} {ifs:List Expr} {scope:Scope} {pos:Pos} {N own:List Str} {caps:List Nat} {g:TG} {tc:TT} {te:TE} {cl:List (Str×Addr)} {it acc:Addr} {fp:List Addr} {tn:Nat->Heap->Prop} {J:It}
  {s3:Shared} {H3:Hp} {h1:Heap} {m:Str->Option Value} {t1 m0:Nat} {W:Nat->Nat->St->Hp->Prop} (hc:X.calm=true)
  (hN:N=own ++ caps.map fun j=>(X.N[j]?).getD (Str.ofString "")) (ok:BlkOk X.env.scope X.N scope caps) (hkind:scope.kind=.function)
  (hcl:BlkCl X scope cl s3.heap.objs.size h1)
  (hg:PG (cxBlk X N scope cl s3 H3 fp) tg g) (hifs:PIfs (cxBlk X N scope cl s3 H3 fp) ifs tc) (he:PE (cxBlk X N scope cl s3 H3 fp) elt te)
  (I3:Inv X pins σ H3 s3) (f3:∀ b∈fp,FpOk X pins H3 b) (flt:∀ b∈fp,b < s3.heap.objs.size) (T:Turn X.prog X.w X.K tg J fp it tn) (st3:tn 0 s3.heap)
  (hns:h1.Ns s3.heap.objs.size m) (keep:∀ b o,s3.heap.get? b=some o->h1.get? b=some o) (w0:W 0 m0 (blockSt own.length caps σ) H3)
  (turn:∀ i m σ' H',W i m σ' H' ->
   (J.stop i H'/\Q (.ref acc) H')\/(J.go i H'/\∃ N:St->Hp->Prop,(∀ σ'' H'',N σ'' H''->∃ m',m' < m/\W (i+1) m' σ'' H'')/\∀ x H2,J.yld i H' x H2->g x σ' H2 fun σ3 H3=>tc σ3 H3 fun b H4 =>
    if b=true then te σ3 H4 fun v H5=>∃ ys,H5 acc=some (.lst ys)/\ys.length < sizeLine/\N σ3 (upd H5 acc (.lst (ys ++ [v])))
    else N σ3 H4)) :
  codeAny (model X.prog X.w) X.A (.compStart (.ListComp elt [⟨tg,iter,ifs,0⟩] scope pos) 0 (.ref it) (.ref acc) (compEnvC scope cl s3.heap.objs.size X.env))
   (compPost (model X.prog X.w) X.A X.xe none (EP X pins σ Q) (.ref acc) s3.heap.objs.size) { s3 with heap:=h1,toks:=t1 }:=by
 have IB:=blk_start (t1:=t1) (own:=own) I3 f3 flt hN ok hkind hcl hns keep
 have stat:∀ {H':Hp},(∀ b∈fp,H' b=none)->∀ b∈fp,FpOk (cxBlk X N scope cl s3 H3 fp) [] H' b:=fun {H'} hn b hb =>
  ⟨hn b hb,(IB.ok.exf b hb).1,IB.ok.exfs b hb,.inl hb,(IB.ok.exf b hb).2,fun p hp=>absurd (show p∈([]:List (Addr×Obj)) from hp) (by simp)⟩
 have st4:tn 0 h1:=T.keep _ _ _ st3 fun b _ o e=>keep b o e
 have loop:codeAny (model X.prog X.w) X.A (.compLoop (.ListComp elt [⟨tg,iter,ifs,0⟩] scope pos) 0 (.ref it) (.ref acc) (compEnvC scope cl s3.heap.objs.size X.env))
   (compPost (model X.prog X.w) X.A X.xe none (EP X pins σ Q) (.ref acc) s3.heap.objs.size) { s3 with heap:=h1,toks:=t1 }:=by
  refine compLoop_gen (fun n s'=>∃ i σ' H',Inv (cxBlk X N scope cl s3 H3 fp) [] σ' H' s'/\tn i s'.heap/\(∀ b∈fp,H' b=none)/\W i n σ' H') ?_ m0 ⟨0,_,H3,IB,st4,fun b hb=>(f3 b hb).1,w0⟩
  rintro n s5 ⟨i,σ5,H5,I5,st5,fr5,w5⟩
  rcases turn i n σ5 H5 w5 with ⟨stop,qn⟩ | ⟨go,Nx,hNx,step⟩
  ·refine thn (T.done (cxBlk X N scope cl s3 H3 fp) rfl rfl rfl hc i [] s5 σ5 H5 _ I5 (stat fr5) st5 stop) fun r s6 ⟨hr,I6⟩=>?_
   subst hr
   obtain ⟨m6,hn6,_⟩:=I6.loc
   refine ⟨m6,hn6,fun h' hs'=>?_⟩
   have IX:Inv X pins σ H5 s6:=I3.call' (ch:=fp) I6.os I6.base I6.hok I6.bare fun b hb=>⟨(f3 b hb).2.2.2.1,(f3 b hb).2.1,(f3 b hb).2.2.2.2.1,(f3 b hb).2.2.2.2.2⟩
   refine ⟨.ref acc,H5,IX.turned (t':=s6.toks) (it:=s3.heap.objs.size) (fun b o hb e=>(hs'.2 b hb).trans e) I6.free (Nat.ne_of_gt I3.lt) (.inr I3.sz) (fun x c e=>?_) (fun p hp=>?_),rfl,qn⟩
   ·obtain ⟨v,o,ho,_⟩:=I3.cell x c e
    exact Nat.ne_of_lt (Heap.lt_size ho)
   ·exact Nat.ne_of_lt (Heap.lt_size (I3.pin p hp).1)
  ·refine thn (T.item (cxBlk X N scope cl s3 H3 fp) rfl rfl rfl hc i [] s5 σ5 H5 _ I5 (stat fr5) st5 go) fun r s6 ⟨u,hr,h6⟩=>?_
   subst hr
   refine thn h6 fun _ s7 ⟨x,H7,I7,r7,y7,st7,fr7⟩=>?_
   have I7':=I7.pinned (stat fr7) (T.obj _ _ st7)
   refine thn (hg _ s7 σ5 H7 x u _ I7' r7 (step x H7 y7)) fun _ s8 ⟨σ8,H8,I8,q8⟩=>?_
   have again:∀ {s9:Shared} {H9:Hp},Inv (cxBlk X N scope cl s3 H3 fp) ([] ++ pinsAt fp s7.heap) σ8 H9 s9->Nx σ8 H9 ->
     ∃ m,m < n/\∃ i σ' H',Inv (cxBlk X N scope cl s3 H3 fp) [] σ' H' s9/\tn i s9.heap/\(∀ b∈fp,H' b=none)/\W i m σ' H':=fun {s9 H9} I9 n9=>by
    obtain ⟨m',hm,w9⟩:=hNx σ8 H9 n9
    refine ⟨m',hm,i+1,σ8,H9,I9.unpinned,T.keep _ _ _ st7 fun b hb o e=>(I9.pin (b,o) (List.mem_append_right _ (List.mem_append_right _ (mem_pinsAt hb e)))).1,fun b hb=>?_,w9⟩
    obtain ⟨o,e,d⟩:=T.obj _ _ st7 b hb
    exact (I9.pin (b,o) (List.mem_append_right _ (List.mem_append_right _ (mem_pinsAt hb e)))).2.1
   refine thn (hifs _ s8 σ8 H8 _ I8 q8) fun b s9 ⟨H9,I9,q9⟩=>?_
   cases b with
   | false =>
    rw [if_neg (by decide)] at q9 ⊢
    exact again I9 q9
   | true =>
    rw [if_pos rfl] at q9 ⊢
    refine thn (he _ s9 σ8 H9 _ I9 q9) fun xv s10 ⟨v,H10,I10,r10,ys,ey,hz,n10⟩=>?_
    refine thn (mt_append (X:=cxBlk X N scope cl s3 H3 fp) _ s10 σ8 H10 (.ref acc) [v] (.ref acc) [xv] (fun _ H'=>H'=upd H10 acc (.lst (ys ++ [v]))) I10 rfl (.cons r10 .nil) ⟨acc,ys,v,rfl,rfl,ey,hz,rfl⟩) fun _ s11 ⟨_,H11,I11,_,e11⟩=>?_
    subst e11
    exact again I11 n10
 exact codeAny_compStart_list loop (T.self _ _ _ _ _ st4 loop)
theorem pe_comp {X:Cx} {tg elt iter:Expr} {ifs:List Expr} {scope:Scope} {pos:Pos} {N:List Str} {wi:TI} {g:TG} {tc:TT} {te:TE} (own:List Str) (caps:List Nat) (hc:X.calm=true)
  (hN:N=own ++ caps.map fun j=>(X.N[j]?).getD (Str.ofString "")) (hok:blkOk X.env.scope X.N scope caps=true) (hkind:scope.kind=.function)
  (hi:PI X tg iter wi) (hg:∀ cl s₃ H₃ ch,PG (cxBlk X N scope cl s₃ H₃ ch) tg g) (hifs:∀ cl s₃ H₃ ch,PIfs (cxBlk X N scope cl s₃ H₃ ch) ifs tc) (he:∀ cl s₃ H₃ ch,PE (cxBlk X N scope cl s₃ H₃ ch) elt te)
  (hs:∀ x,foldedSetIterable iter X.env x=pure x:=by intro _;rfl):PE X (.ListComp elt [⟨tg,iter,ifs,0⟩] scope pos) (tComp own.length caps wi g tc te):=by
 intro pins s σ H Q I h
 have ok:=blkOk_iff hok
 obtain ⟨cl,hclo,hcl1,hcl2'⟩:=clo_go X.env scope.names [] (fun y hy hk=>I.ok.has y.1 (ok.free y hy hk)) (fun x c e=>by simp at e)
 have hcl2:∀ x,(x,NameKind.free)∈scope.names->∃ c,cl.lookup x=some c:=fun x hx=>hcl2' x (.inl hx)
 rw [←closureFor_eq] at hclo
 rw [eval_ListComp]
 refine wpAny_comprehension_free (use:=none) rfl hs hclo hkind ok.loc (thn (hi pins s σ H _ I h) fun v s1 h1=>thn h1 fun itv s2 h2=>?_)
 obtain ⟨it,fp,tn,J,H2,e,I2,T,st2,f2,R⟩:=h2
 subst e
 obtain ⟨W,⟨m0,w0⟩,turn⟩:=R s2.heap.objs.size I2.fresh
 have flt:∀ b∈fp,b < s2.heap.objs.size:=fun b hb=>let ⟨o,ho,_⟩:=T.obj 0 _ st2 b hb;Heap.lt_size ho
 have I3:Inv X pins σ (upd H2 s2.heap.objs.size (.lst [])) { s2 with heap:=s2.heap.push { cls:=.type "list",dict:=none,data:=.seq ([]:List Value).toArray } }:=I2.lnew (t':=s2.toks) (its:=[]) .nil (Nat.zero_le _)
 have f3:∀ b∈fp,FpOk X pins (upd H2 s2.heap.objs.size (.lst [])) b:=fun b hb=>⟨by rw [upd_ne (Nat.ne_of_lt (flt b hb))];exact (f2 b hb).1,(f2 b hb).2⟩
 refine wpAny_newObj_type (newEnv_blk fun h₁ hns₁ keep₁ cok=>?_)
 have flt3:∀ b∈fp,b < (s2.heap.push { cls:=.type "list",dict:=none,data:=.seq ([]:List Value).toArray }).objs.size:=fun b hb=>by
  rw [Heap.size_push]
  exact Nat.lt_succ_of_lt (flt b hb)
 exact comp_run (own:=own) hc hN ok hkind (blkCl_of ok I3 hcl1 hcl2 cok) (hg _ _ _ _) (hifs _ _ _ _) (he _ _ _ _) I3 f3 flt3 T (T.keep _ _ _ st2 fun b _ o e=>Heap.get?_push_of_some _ e) hns₁ keep₁ w0 turn
theorem comp_turns {acc:Addr} {Q:VK} {g:TG} {tc:TT} {te:TE} {σ:St} {H:Hp} {J:It} {n:Nat} (Pv:Nat->St->Hp->Prop) (h0:Pv 0 σ H) (hd:∀ σ H,Pv n σ H->J.stop n H/\Q (.ref acc) H)
  (hgo:∀ i σ H,i < n->Pv i σ H->J.go i H/\∀ x H2,J.yld i H x H2->g x σ H2 fun σ3 H3=>tc σ3 H3 fun b H4 =>
   if b=true then te σ3 H4 fun v H5=>∃ ys,H5 acc=some (.lst ys)/\ys.length < sizeLine/\Pv (i+1) σ3 (upd H5 acc (.lst (ys ++ [v]))) else Pv (i+1) σ3 H4) :
  CompGo acc Q g tc te J σ H:=by
 refine ⟨fun i m σ H=>m=n - i/\i≤n/\Pv i σ H,⟨n,by simp,Nat.zero_le _,h0⟩,?_⟩
 rintro i m σ H ⟨rfl,hi,p⟩
 by_cases hlt:i < n
 ·obtain ⟨q1,q2⟩:=hgo i σ H hlt p
  exact .inr ⟨q1,Pv (i+1),fun σ' H' p'=>⟨n - (i+1),by lia,rfl,hlt,p'⟩,q2⟩
 ·have e:i=n:=by lia
  subst e
  exact .inl (hd σ H p)
theorem itl_go {K:PySem.W.Frag} {a:Addr} {xs:List V} {i:Nat} {H:Hp} (q:SqL K H a xs) (hi:i < xs.length):(Itl K a).go i H:=⟨xs,xs[i],q,by simp [hi]⟩
theorem itl_yld {K:PySem.W.Frag} {a:Addr} {xs:List V} {i:Nat} {H H':Hp} {x:V} (q:SqL K H a xs) (y:(Itl K a).yld i H x H'):H'=H/\xs[i]?=some x:=⟨y.1,y.2 xs q⟩
theorem itl_stop {K:PySem.W.Frag} {a:Addr} {xs:List V} {H:Hp} (q:SqL K H a xs):(Itl K a).stop xs.length H:=⟨xs,q,Nat.le_refl _⟩
theorem itt_go {K:PySem.W.Frag} {a:Addr} {xs:List V} {i:Nat} {H:Hp} (q:SqT K H a xs) (hi:i < xs.length):(Itt K a).go i H:=⟨xs,xs[i],q,by simp [hi]⟩
theorem itt_yld {K:PySem.W.Frag} {a:Addr} {xs:List V} {i:Nat} {H H':Hp} {x:V} (q:SqT K H a xs) (y:(Itt K a).yld i H x H'):H'=H/\xs[i]?=some x:=⟨y.1,y.2 xs q⟩
theorem itt_stop {K:PySem.W.Frag} {a:Addr} {xs:List V} {H:Hp} (q:SqT K H a xs):(Itt K a).stop xs.length H:=⟨xs,q,Nat.le_refl _⟩
structure TopD (K:PySem.W.Frag) (w:World) (a:Addr) (D:List (Str×V)):Prop where
 ex:∃ es n,K.lookup a=some ⟨.type "dict",none,.dict es n,#[]⟩/\PySem.W.KeysLit w.params es.toList/\∀ p∈D,∃ u,PySem.W.nsIn K a p.1=some (some u)/\RelV p.2 u
section
variable {X:Cx}
noncomputable def rIxTop (K:PySem.W.Frag) (w:World):R2:=fun x y H Q=>∃ a D k v,x=.ref a/\y=.str k/\TopD K w a D/\(k,v)∈D/\Q v H
theorem ix_top:IxR X (rIxTop X.K X.w):=by
 intro value slice pins s σ H x y v u Q I rx ry h hs
 obtain ⟨a,D,k,z,rfl,rfl,⟨es,n,hl,hk,hD⟩,hm,q⟩:=h
 cases rx
 obtain ⟨t,rfl⟩:=ry
 obtain ⟨z',e,r⟩:=hD _ hm
 obtain ⟨m,F⟩:=I.fr
 exact PySem.W.topItem_K F I.mod.kin hl hk e ⟨z,H,I.tok _,r,q⟩ hs
theorem readsAll_ints {h:Heap}:∀ {ns:List Int} {us:List Value},Vals (ns.map V.int) us->ReadsAll h us (ns.map PyData.int) []
 | [],_,r=>by rw [List.map_nil] at r;cases r;exact .nil
 | n :: ns,_,r=>by
  rw [List.map_cons] at r
  cases r with
  | cons r1 r2 =>
   obtain ⟨t,rfl⟩:=r1
   exact ReadsAll.cons (Reads.int n t) (readsAll_ints r2)
theorem Inv.readsT {pins:List (Addr×Obj)} {σ:St} {H:Hp} {s:Shared} {a:Addr} {ns:List Int} (I:Inv X pins σ H s) (h:SqT X.K H a (ns.map V.int)):Reads s.heap (.ref a) (.tuple (ns.map PyData.int)) []:=by
 obtain ⟨its,r,⟨o,ho,hc,n,hd⟩,_⟩:=I.tuple h
 exact reads_tuple_at ho hc hd (by simpa using readsAll_ints r)
noncomputable abbrev TupsI (K:PySem.W.Frag) (H:Hp):List Addr->List (List Int)->Prop:=Paired fun a ns=>SqT K H a (ns.map V.int)
noncomputable def dTs (nss:List (List Int)):List PyData:=nss.map fun ns=>PyData.tuple (ns.map PyData.int)
theorem readsAll_tups {pins:List (Addr×Obj)} {σ:St} {H:Hp} {s:Shared} (I:Inv X pins σ H s):∀ {as:List Addr} {nss:List (List Int)} {us:List Value},TupsI X.K H as nss->Vals (as.map V.ref) us->ReadsAll s.heap us (dTs nss) []
 | [],_,_,t,r=>by cases t;rw [List.map_nil] at r;cases r;exact .nil
 | a :: as,_,_,t,r=>by
  rw [List.map_cons] at r
  cases t with
  | cons t1 t2 =>
   cases r with
   | cons r1 r2 =>
    cases r1
    exact ReadsAll.cons (I.readsT t1) (readsAll_tups I t2 r2)
theorem Inv.readsL {pins:List (Addr×Obj)} {σ:St} {H:Hp} {s:Shared} {a:Addr} {as:List Addr} {nss:List (List Int)} (I:Inv X pins σ H s) (h:SqL X.K H a (as.map V.ref)) (t:TupsI X.K H as nss):Reads s.heap (.ref a) (.list (dTs nss)) [a]:=by
 obtain ⟨its,r,⟨o,n,ho,hc,_,hd⟩,_⟩:=I.list h
 exact reads_list_at ho hc hd (by simpa using readsAll_tups I t r)
theorem shaped_T (ns:List Int):SeqAt.shaped (.tuple (ns.map PyData.int))=true:=by
 simp [SeqAt.shaped,PyData.canLay0,PyData.depth,PySem.W.ke_canLayAll0,PySem.W.ke_depthAll]
theorem canLay_Ts:∀ nss:List (List Int),PyData.canLayAll0 (dTs nss)=true
 | []=>rfl
 | ns :: r=>by
  show PyData.canLayAll0 (PyData.tuple (ns.map PyData.int) :: dTs r)=true
  simp [PyData.canLayAll0,PyData.canLay0,PySem.W.ke_canLayAll0,canLay_Ts r]
theorem eqv_T (ns ms:List Int):PyData.eqv (.tuple (ns.map PyData.int)) (.tuple (ms.map PyData.int))=decide (ns=ms):=by
 rw [←PySem.W.ked_eqvAll]
 simp [PyData.eqv]
theorem ix_tupK {K:PySem.W.Frag} (h:X.K=K):IxR X (rIxT K):=h▸ix_tup
theorem ix_listK {K:PySem.W.Frag} (h:X.K=K):IxR X (rIxL K):=h▸ix_list
noncomputable def rIsI (K:PySem.W.Frag):List V->Hp->VK->Prop:=fun xs H Q=>∃ x n t b,xs=[x,.ty n]/\TyOf K H x t/\PySem.W.kitOne K t (.type n)=some b/\Q (.bl b) H
theorem call_isI:CallR X (.builtin "isinstance") (rIsI X.K):=by
 intro pins s σ H xs us Q I r h
 obtain ⟨x,n,t,b,rfl,ty,e,q⟩:=h
 obtain ⟨u,w',rfl,ru,rw'⟩:=vals2 r
 cases (show w'=Value.type n from rw')
 exact isinst_ok I ru ty e fun tk=>⟨.bl b,H,I.tok _,rfl,q⟩
theorem kit_tuple_tuple (K:PySem.W.Frag):PySem.W.kitOne K (.type "tuple") (.type "tuple")=some true:=by rfl
theorem kit_int_int (K:PySem.W.Frag):PySem.W.kitOne K (.type "int") (.type "int")=some true:=by rfl
theorem kit_int_bool (K:PySem.W.Frag):PySem.W.kitOne K (.type "int") (.type "bool")=some false:=by rfl
theorem kit_bool_int (K:PySem.W.Frag):PySem.W.kitOne K (.type "bool") (.type "int")=some true:=by rfl
end
end L2
namespace Srt
open PySem PySem.W PyProof.Rows
structure Ordr {κ:Type} (lt:κ->κ->Bool):Prop where
 rf:∀ a,lt a a=false
 tr:∀ a b c,lt b a=false->lt c b=false->lt c a=false
 an:∀ a b,lt a b=false->lt b a=false->a=b
 as:∀ a b,lt a b=true->lt b a=false
theorem Ordr.lt_le {κ:Type} {lt:κ->κ->Bool} (O:Ordr lt) {a b c:κ} (h:lt a b=true) (g:lt c b=false):lt a c=true:=by
 cases e:lt a c with
 | true=>rfl
 | false =>
  have q:=O.tr b c a g e
  rw [h] at q
  cases q
section
variable {κ:Type} {lt:κ->κ->Bool} {key:Nat->κ} {cmp:Nat->Nat->(Bool->Shared->Prop)->Shared->Prop} {N:Nat} {s:Shared}
noncomputable def kk (key:Nat->κ) (p:Array Nat) (k:Nat):κ:=key (p.getD k 0)
noncomputable def Up (lt:κ->κ->Bool) (key:Nat->κ) (p:Array Nat) (n:Nat):Prop:=∀ i j,i≤j->j < n->lt (kk key p j) (kk key p i)=false
noncomputable def Dn (lt:κ->κ->Bool) (key:Nat->κ) (p:Array Nat) (n:Nat):Prop:=∀ i j,i≤j->j < n->lt (kk key p i) (kk key p j)=false
noncomputable def Low (N:Nat) (p:Array Nat):Prop:=p.size=N/\∀ k,p.getD k 0 < N
noncomputable def Ans (lt:κ->κ->Bool) (key:Nat->κ) (cmp:Nat->Nat->(Bool->Shared->Prop)->Shared->Prop) (N:Nat) (s:Shared):Prop:=∀ i j C,i < N->j < N->C (lt (key i) (key j)) s->cmp i j C s
theorem getD_q (p:Array Nat) (k:Nat):p.getD k 0=(p[k]?).getD 0:=by
 rw [Array.getD_eq_getD_getElem?]
theorem kk_bub {p:Array Nat} {src d:Nat} (hs:src < p.size) (hd:d≤src) (k:Nat):kk key (bubble p src d) k=if k=src - d then kk key p src else if src - d < k/\k≤src then kk key p (k - 1) else kk key p k:=by
 unfold kk
 rw [getD_q,getElem?_bubble hs d hd k]
 by_cases h1:k=src - d
 ·rw [if_pos h1,if_pos h1,getD_q]
 ·rw [if_neg h1,if_neg h1]
  by_cases h2:src - d < k/\k≤src
  ·rw [if_pos h2,if_pos h2,getD_q]
  ·rw [if_neg h2,if_neg h2,getD_q]
theorem kk_rev {p:Array Nat} {i j:Nat} (hj:j≤p.size) (k:Nat):kk key (kas_rev p i j) k=if i≤k/\k < j then kk key p (i+j - 1 - k) else kk key p k:=by
 unfold kk kas_rev
 rw [getD_q,getElem?_mirror_all hj k]
 by_cases h1:i≤k/\k < j
 ·rw [if_pos h1,if_pos h1,getD_q]
 ·rw [if_neg h1,if_neg h1,getD_q]
theorem kk_rev_eq {p:Array Nat} {i j:Nat} (hj:j≤p.size) (he:∀ k,i≤k->k < j->kk key p k=kk key p (j - 1)) (k:Nat):kk key (kas_rev p i j) k=kk key p k:=by
 rw [kk_rev hj]
 split
 ·rename_i h
  rw [he (i+j - 1 - k) (by lia) (by lia),he k h.1 h.2]
 ·rfl
theorem low_perm {p q:Array Nat} (hN:0 < N) (L:Low N q) (h:p.Perm q):Low N p:=by
 have hs:p.size=q.size:=h.size_eq
 refine ⟨hs.trans L.1,fun k=>?_⟩
 rw [getD_q]
 cases e:p[k]? with
 | none=>exact hN
 | some v =>
  have hm:v∈p.toList:=by
   have:=Array.mem_of_getElem? e
   exact Array.mem_toList_iff.mpr this
  have hq:v∈q.toList:=(Array.perm_iff_toList_perm.mp h).mem_iff.mp hm
  obtain ⟨i,hi⟩:=List.getElem?_of_mem hq
  have:=L.2 i
  rw [getD_q] at this
  have e2:q[i]?=some v:=by rw [←Array.getElem?_toList];exact hi
  rw [e2] at this
  exact this
theorem asc_go (O:Ordr lt) (A:Ans lt key cmp N s) {p:Array Nat} (L:Low N p) {G:Nat->Shared->Prop}:∀ (f n:Nat),1≤n->Up lt key p n ->
  (∀ m,n≤m->m≤n+f->Up lt key p m->(m=n+f\/lt (kk key p m) (kk key p (m - 1))=true)->G m s)->(kas_asc p f n).kasWp cmp G s
 | 0,n,_,hu,hG=>hG n (Nat.le_refl _) (Nat.le_refl _) hu (.inl rfl)
 | f+1,n,h1,hu,hG=>by
  refine A _ _ _ (L.2 n) (L.2 (n - 1)) ?_
  show (if lt (kk key p n) (kk key p (n - 1))=true then _ else _:KasT Nat).kasWp cmp G s
  cases e:lt (kk key p n) (kk key p (n - 1)) with
  | true =>
   rw [if_pos rfl]
   exact hG n (Nat.le_refl _) (by lia) hu (.inr e)
  | false =>
   rw [if_neg (by decide)]
   refine asc_go O A L f (n+1) (by lia) (fun i j hij hj=>?_) fun m h2 h3 h4 h5=>hG m (by lia) (by lia) h4 (h5.imp (fun q=>by lia) id)
   rcases Nat.lt_or_ge j n with z | z
   ·exact hu i j hij z
   ·obtain rfl:j=n:=by lia
    rcases Nat.lt_or_ge i j with y | y
    ·exact O.tr _ (kk key p (j - 1)) _ (hu i (j - 1) (by omega) (by omega)) e
    ·obtain rfl:i=j:=by lia
     exact O.rf _
theorem desc_go (O:Ordr lt) (A:Ans lt key cmp N s) (hN:0 < N) {G:Array Nat×Nat×Nat->Shared->Prop}:∀ (f:Nat) (p:Array Nat) (n q:Nat),Low N p->1≤n->n+f≤N->Dn lt key p n->q+1≤n->(∀ i,n - (q+1)≤i->i < n->kk key p i=kk key p (n - 1)) ->
  (∀ p' m q',p'.Perm p->n≤m->m≤n+f->Dn lt key p' m->q'+1≤m->(∀ i,m - (q'+1)≤i->i < m->kk key p' i=kk key p' (m - 1))->G (p',m,q') s)->(kas_desc f p n q).kasWp cmp G s
 | 0,p,n,q,_,_,_,hd,hq,he,hG=>hG p n q (Array.Perm.refl _) (Nat.le_refl _) (Nat.le_refl _) hd hq he
 | f+1,p,n,q,L,h1,hz,hd,hq,he,hG=>by
  have more:∀ p':Array Nat,(∀ k,kk key p' k=kk key p k)->lt (kk key p n) (kk key p (n - 1))=true->Dn lt key p' (n+1):=fun p' hk e i j hij hj=>by
   rw [hk,hk]
   rcases Nat.lt_or_ge j n with z | z
   ·exact hd i j hij z
   ·obtain rfl:j=n:=by lia
    rcases Nat.lt_or_ge i j with y | y
    ·exact O.tr (kk key p j) (kk key p (j - 1)) (kk key p i) (O.as _ _ e) (hd i (j - 1) (by lia) (by lia))
    ·obtain rfl:i=j:=by lia
     exact O.rf _
  refine A _ _ _ (L.2 n) (L.2 (n - 1)) ?_
  show (if lt (kk key p n) (kk key p (n - 1))=true then (if q > 0 then _ else _) else _:KasT (Array Nat×Nat×Nat)).kasWp cmp G s
  cases e:lt (kk key p n) (kk key p (n - 1)) with
  | true =>
   rw [if_pos rfl]
   by_cases hq0:q > 0
   ·rw [if_pos hq0]
    have hp:(kas_rev p (n - (q+1)) n).Perm p:=mirror_perm _ _ _ _
    have hk:∀ k,kk key (kas_rev p (n - (q+1)) n) k=kk key p k:=kk_rev_eq (by rw [L.1];lia) he
    refine desc_go O A hN f _ (n+1) 0 (low_perm hN L hp) (by lia) (by lia) (more _ hk e) (by lia) (fun i a b=>by congr 1;lia) fun p' m q' a b c d e' g=>hG p' m q' (a.trans hp) (by lia) (by lia) d e' g
   ·rw [if_neg hq0]
    refine desc_go O A hN f p (n+1) 0 L (by lia) (by lia) (more p (fun _=>rfl) e) (by lia) (fun i a b=>by congr 1;lia) fun p' m q' a b c d e' g=>hG p' m q' a (by lia) (by lia) d e' g
  | false =>
   rw [if_neg (by decide)]
   refine A _ _ _ (L.2 (n - 1)) (L.2 n) ?_
   show (if lt (kk key p (n - 1)) (kk key p n)=true then _ else _:KasT (Array Nat×Nat×Nat)).kasWp cmp G s
   cases e':lt (kk key p (n - 1)) (kk key p n) with
   | true =>
    rw [if_pos rfl]
    exact hG p n q (Array.Perm.refl _) (Nat.le_refl _) (by lia) hd hq he
   | false =>
    rw [if_neg (by decide)]
    have same:kk key p n=kk key p (n - 1):=O.an _ _ e e'
    refine desc_go O A hN f p (n+1) (q+1) L (by lia) (by lia) (fun i j hij hj=>?_) (by lia) (fun i a b=>?_) fun p' m q' a b c d e' g=>hG p' m q' a (by lia) (by lia) d e' g
    ·rcases Nat.lt_or_ge j n with z | z
     ·exact hd i j hij z
     ·obtain rfl:j=n:=by lia
      rcases Nat.lt_or_ge i j with y | y
      ·rw [same];exact hd i (j - 1) (by lia) (by lia)
      ·obtain rfl:i=j:=by lia
       exact O.rf _
    ·rw [show n+1 - 1=n by lia]
     rcases Nat.lt_or_ge i n with y | y
     ·rw [same];exact he i (by lia) y
     ·obtain rfl:i=n:=by lia
      rfl
noncomputable def Cnt (lt:κ->κ->Bool) (key:Nat->κ) (N:Nat) (p:Array Nat) (G:Nat×Array Nat->Shared->Prop) (s:Shared):Prop:=∀ m p',p'.Perm p->1≤m->m≤N->Up lt key p' m->G (m,p') s
theorem tail_go (O:Ordr lt) (A:Ans lt key cmp N s) (hN:0 < N) {p:Array Nat} {n:Nat} {G:Nat×Array Nat->Shared->Prop} (L:Low N p) (h1:1≤n) (hn:n≤N) (hd:Dn lt key p n) (hG:Cnt lt key N p G s):(kas_tail3 n N p).kasWp cmp G s:=by
 unfold kas_tail3
 rw [KasT.kasWp_bind]
 have hp:(kas_rev p 0 n).Perm p:=mirror_perm _ _ _ _
 refine asc_go O A (low_perm hN L hp) (N - n) n h1 (fun i j hij hj=>?_) fun m a b c _=>hG m _ hp (by lia) (by lia) c
 rw [kk_rev (by rw [L.1];exact hn),kk_rev (by rw [L.1];exact hn),if_pos ⟨Nat.zero_le _,hj⟩,if_pos ⟨Nat.zero_le _,by lia⟩]
 exact hd _ _ (by omega) (by lia)
theorem descPart_go (O:Ordr lt) (A:Ans lt key cmp N s) (hN:0 < N) {p:Array Nat} {n:Nat} {G:Nat×Array Nat->Shared->Prop} (L:Low N p) (hn:n+1≤N) (hd:Dn lt key p (n+1)) (hG:Cnt lt key N p G s):(kas_descPart n N p).kasWp cmp G s:=by
 unfold kas_descPart
 rw [KasT.kasWp_bind]
 refine desc_go O A hN (N - (n+1)) p (n+1) 0 L (by lia) (by omega) hd (by lia) (fun i a b=>by congr 1;lia) fun p' m q' hp a b c d e=>?_
 have L':=low_perm hN L hp
 dsimp only
 by_cases hq:q' > 0
 ·rw [if_pos hq]
  have hp2:(kas_rev p' (m - (q'+1)) m).Perm p':=mirror_perm _ _ _ _
  have hk:=kk_rev_eq (key:=key) (p:=p') (i:=m - (q'+1)) (j:=m) (by rw [L'.1];omega) e
  refine tail_go O A hN (low_perm hN L' hp2) (by lia) (by omega) (fun i j hij hj=>?_) fun m' p'' x y z w=>hG m' p'' (x.trans (hp2.trans hp)) y z w
  rw [hk,hk]
  exact c i j hij hj
 ·rw [if_neg hq]
  exact tail_go O A hN L' (by lia) (by omega) c fun m' p'' x y z w=>hG m' p'' (x.trans hp) y z w
theorem count_go (O:Ordr lt) (A:Ans lt key cmp N s) (hN:0 < N) {p:Array Nat} {G:Nat×Array Nat->Shared->Prop} (L:Low N p) (hG:Cnt lt key N p G s):(kas_count N p).kasWp cmp G s:=by
 unfold kas_count
 rw [KasT.kasWp_bind]
 refine asc_go O A L (N - 1) 1 (Nat.le_refl _) (fun i j hij hj=>by obtain rfl:i=j:=(by lia);exact O.rf _) fun n a b c d=>?_
 by_cases hn:n=N
 ·rw [if_pos (by simpa using hn)]
  exact hG n p (Array.Perm.refl _) a (by lia) c
 ·rw [if_neg (by simpa using hn)]
  have hlt:lt (kk key p n) (kk key p (n - 1))=true:=d.resolve_left (by lia)
  by_cases h1:n > 1
  ·rw [if_pos h1]
   refine A _ _ _ (L.2 0) (L.2 (n - 1)) ?_
   show (if lt (kk key p 0) (kk key p (n - 1))=true then _ else _:KasT (Nat×Array Nat)).kasWp cmp G s
   cases e:lt (kk key p 0) (kk key p (n - 1)) with
   | true =>
    rw [if_pos rfl]
    exact hG n p (Array.Perm.refl _) a (by lia) c
   | false =>
    rw [if_neg (by decide)]
    have all:∀ k,0≤k->k < n->kk key p k=kk key p (n - 1):=fun k _ hk=>O.an _ _ (O.tr _ (kk key p 0) _ e (c 0 k (Nat.zero_le _) hk) |> fun q=>q) (c k (n - 1) (by lia) (by lia))
    have hp:(kas_rev p 0 n).Perm p:=mirror_perm _ _ _ _
    have hk:=kk_rev_eq (key:=key) (p:=p) (i:=0) (j:=n) (by rw [L.1];lia) all
    refine descPart_go O A hN (low_perm hN L hp) (by lia) (fun i j hij hj=>?_) fun m' p'' x y z w=>hG m' p'' (x.trans hp) y z w
    rw [hk,hk]
    rcases Nat.lt_or_ge j n with z | z
    ·rw [all i (Nat.zero_le _) (by lia),all j (Nat.zero_le _) z];exact O.rf _
    ·obtain rfl:j=n:=by lia
     rcases Nat.lt_or_ge i j with y | y
     ·rw [all i (Nat.zero_le _) y];exact O.as _ _ hlt
     ·obtain rfl:i=j:=by lia
      exact O.rf _
  ·rw [if_neg h1]
   obtain rfl:n=1:=by lia
   refine descPart_go O A hN L (by lia) (fun i j hij hj=>?_) hG
   rcases Nat.lt_or_ge i j with y | y
   ·obtain rfl:i=0:=by lia
    obtain rfl:j=1:=by lia
    exact O.as _ _ hlt
   ·obtain rfl:i=j:=by lia
    exact O.rf _
theorem place_go (O:Ordr lt) (A:Ans lt key cmp N s) {p:Array Nat} {k:Nat} (L:Low N p) (hu:Up lt key p k) {G:Nat->Shared->Prop}
  (hG:∀ l,l≤k->(∀ i,i < l->lt (kk key p k) (kk key p i)=false)->(∀ i,l≤i->i < k->lt (kk key p k) (kk key p i)=true)->G l s) :
  ∀ (f l r:Nat),l≤r->r≤k->r - l≤f->(∀ i,i < l->lt (kk key p k) (kk key p i)=false)->(∀ i,r≤i->i < k->lt (kk key p k) (kk key p i)=true)->(kas_place p k f l r).kasWp cmp G s
 | 0,l,r,h1,h2,h3,lo,hi=>by
  obtain rfl:l=r:=by lia
  exact hG l h2 lo hi
 | f+1,l,r,h1,h2,h3,lo,hi=>by
  unfold kas_place
  by_cases hge:l ≥ r
  ·rw [if_pos hge]
   obtain rfl:l=r:=by lia
   exact hG l h2 lo hi
  ·rw [if_neg hge]
   refine A _ _ _ (L.2 k) (L.2 ((l+r) / 2)) ?_
   show (if lt (kk key p k) (kk key p ((l+r) / 2))=true then _ else _:KasT Nat).kasWp cmp G s
   cases e:lt (kk key p k) (kk key p ((l+r) / 2)) with
   | true =>
    rw [if_pos rfl]
    exact place_go O A L hu hG f l ((l+r) / 2) (by lia) (by lia) (by lia) lo fun i a b=>O.lt_le e (hu _ _ a b)
   | false =>
    rw [if_neg (by decide)]
    exact place_go O A L hu hG f ((l+r) / 2+1) r (by lia) h2 (by lia) (fun i a=>O.tr _ (kk key p ((l+r) / 2)) _ (hu i _ (by lia) (by lia)) e) hi
theorem bin_go (O:Ordr lt) (A:Ans lt key cmp N s) (hN:0 < N) {G:Array Nat->Shared->Prop}:∀ (f:Nat) (p:Array Nat) (k:Nat),Low N p->k+f=N->Up lt key p k ->
  (∀ p',p'.Perm p->Up lt key p' N->G p' s)->(kas_bin f p k).kasWp cmp G s
 | 0,p,k,L,hz,hu,hG=>hG p (Array.Perm.refl _) (by rw [←hz];exact hu)
 | f+1,p,k,L,hz,hu,hG=>by
  unfold kas_bin
  rw [KasT.kasWp_bind]
  refine place_go O A L hu (fun l hl lo hi=>?_) k 0 k (Nat.zero_le _) (Nat.le_refl _) (by lia) (fun i a=>by lia) (fun i a b=>by lia)
  have hp:(bubble p k (k - l)).Perm p:=bubble_perm _ _ _
  have hk:k < p.size:=by rw [L.1];lia
  refine bin_go O A hN f _ (k+1) (low_perm hN L hp) (by lia) (fun i j hij hj=>?_) fun p' a b=>hG p' (a.trans hp) b
  rw [kk_bub hk (by lia),kk_bub hk (by lia),show k - (k - l)=l by lia]
  by_cases j1:j=l
  ·rw [if_pos j1]
   by_cases i1:i=l
   ·rw [if_pos i1];exact O.rf _
   ·rw [if_neg i1,if_neg (by lia)]
    exact lo i (by lia)
  ·rw [if_neg j1]
   by_cases j2:l < j/\j≤k
   ·rw [if_pos j2]
    by_cases i1:i=l
    ·rw [if_pos i1];exact O.as _ _ (hi (j - 1) (by lia) (by lia))
    ·rw [if_neg i1]
     by_cases i2:l < i/\i≤k
     ·rw [if_pos i2];exact hu _ _ (by lia) (by lia)
     ·rw [if_neg i2];exact hu _ _ (by lia) (by lia)
   ·rw [if_neg j2]
    by_cases i1:i=l
    ·exfalso;lia
    ·rw [if_neg i1,if_neg (by lia)]
     exact hu _ _ hij (by lia)
theorem low_range (n:Nat) (hn:0 < n):Low n (List.toArray (List.range n)):=by
 refine ⟨by simp,fun k=>?_⟩
 rw [getD_q]
 by_cases h:k < n
 ·simp [h]
 ·simp [h,hn]
theorem sort_go (O:Ordr lt) (A:Ans lt key cmp N s) (hN:0 < N) {G:Array Nat->Shared->Prop} (hG:∀ p:Array Nat,p.Perm (List.toArray (List.range N))->Up lt key p N->G p s):(kas_sort N).kasWp cmp G s:=by
 unfold kas_sort
 rw [KasT.kasWp_bind]
 have L:=low_range N hN
 refine count_go O A hN L fun m p hp h1 h2 hu=>?_
 dsimp only
 by_cases h:m < N
 ·rw [if_pos h]
  rw [show max m 1=m by lia]
  exact bin_go O A hN (N - m) p m (low_perm hN L hp) (by lia) hu fun p' a b=>hG p' (a.trans hp) b
 ·rw [if_neg h]
  exact hG p hp (by obtain rfl:m=N:=(by lia);exact hu)
end
theorem lex_rf:∀ a:List Int,HT.lexLt a a=false
 | []=>rfl
 | x :: r=>by rw [HT.lexLt_cons,if_pos rfl];exact lex_rf r
theorem lex_as:∀ a b:List Int,HT.lexLt a b=true->HT.lexLt b a=false
 | [],[],h=>by rw [HT.lexLt_nil_nil] at h;cases h
 | [],_ :: _,_=>rfl
 | _ :: _,[],h=>by rw [HT.lexLt_cons_nil] at h;cases h
 | x :: r,y :: t,h=>by
  rw [HT.lexLt_cons] at h ⊢
  by_cases e:x=y
  ·rw [if_pos e] at h
   rw [if_pos e.symm]
   exact lex_as r t h
  ·rw [if_neg e] at h
   rw [if_neg (Ne.symm e)]
   have:=of_decide_eq_true h
   exact decide_eq_false (by lia)
theorem lex_an:∀ a b:List Int,HT.lexLt a b=false->HT.lexLt b a=false->a=b
 | [],[],_,_=>rfl
 | [],_ :: _,h,_=>by rw [HT.lexLt_nil_cons] at h;cases h
 | _ :: _,[],_,h=>by rw [HT.lexLt_nil_cons] at h;cases h
 | x :: r,y :: t,h,g=>by
  rw [HT.lexLt_cons] at h g
  by_cases e:x=y
  ·rw [if_pos e] at h
   rw [if_pos e.symm] at g
   rw [e,lex_an r t h g]
  ·rw [if_neg e] at h
   rw [if_neg (Ne.symm e)] at g
   have h1:=of_decide_eq_false h
   have h2:=of_decide_eq_false g
   lia
theorem lex_tr:∀ a b c:List Int,HT.lexLt b a=false->HT.lexLt c b=false->HT.lexLt c a=false
 | [],_,[],_,_=>rfl
 | [],[],_ :: _,_,_=>rfl
 | [],_ :: _,_ :: _,_,_=>rfl
 | _ :: _,[],_,h,_=>by rw [HT.lexLt_nil_cons] at h;cases h
 | _ :: _,_ :: _,[],_,h=>by rw [HT.lexLt_nil_cons] at h;cases h
 | x :: r,y :: t,z :: u,h,g=>by
  rw [HT.lexLt_cons] at h g ⊢
  by_cases e1:y=x
  ·rw [if_pos e1] at h
   by_cases e2:z=y
   ·rw [if_pos e2] at g
    rw [if_pos (e2.trans e1)]
    exact lex_tr r t u h g
   ·rw [if_neg e2] at g
    have:=of_decide_eq_false g
    rw [if_neg (by lia)]
    exact decide_eq_false (by lia)
  ·rw [if_neg e1] at h
   have h1:=of_decide_eq_false h
   by_cases e2:z=y
   ·rw [if_neg (by lia)]
    exact decide_eq_false (by lia)
   ·rw [if_neg e2] at g
    have h2:=of_decide_eq_false g
    rw [if_neg (by lia)]
    exact decide_eq_false (by omega)
theorem lexO:Ordr HT.lexLt:=⟨lex_rf,lex_tr,lex_an,lex_as⟩
end Srt
namespace L2
open PySem PySem.W PyProof.Rows Srt
theorem ObjOk.has {P:Program} {w:World} {H:Hp} {h:Heap} {a:Addr} {o:HO} (x:ObjOk P w H h a o):∃ ob,h.get? a=some ob:=by
 cases o with
 | lst xs=>obtain ⟨_,_,_,_,e⟩:=x;exact ⟨_,e⟩
 | tup xs=>obtain ⟨_,_,_,ob,e,_⟩:=x;exact ⟨_,e⟩
 | dK kvs=>obtain ⟨_,_,_,_,o,_,_,e,_⟩:=x;exact ⟨_,e⟩
 | dT kvs=>obtain ⟨_,_,_,_,o,_,_,e,_⟩:=x;exact ⟨_,e⟩
 | set S n=>obtain ⟨o,_,_,_,e,_⟩:=x;exact ⟨_,e⟩
 | ins C dx fs=>obtain ⟨_,_,_,e,_⟩:=x;exact ⟨_,e⟩
 | own y=>exact x
 | xd fs=>obtain ⟨_,⟨_,_,_,e,_⟩,_⟩:=x;exact ⟨_,e⟩
 | rng lo hi=>obtain ⟨_,_,_,e⟩:=x;exact ⟨_,e⟩
 | frz ob u=>obtain ⟨e,_⟩:=x;exact ⟨_,e⟩
 | tbl ps=>exact ⟨_,x⟩
 | met f y=>exact ⟨_,x⟩
 | ext φ=>exact x.2.1
section
variable {X:Cx} {pins:List (Addr×Obj)} {σ:St} {H:Hp} {s:Shared}
theorem ns_one {h:Heap} {a:Addr} {m m':Str->Option Value} (x:h.Ns a m) (y:h.Ns a m'):m=m':=by
 obtain ⟨o,es,ep,e,hd,_,hm⟩:=x
 obtain ⟨o',es',ep',e',hd',_,hm'⟩:=y
 rw [e] at e'
 cases e'
 rw [hd] at hd'
 cases hd'
 funext n
 rw [←hm n,←hm' n]
theorem Inv.newList {h':Heap} {D:Addr} {its:List Value} {n t':Nat} {ys:List V} {m:Str->Option Value} (I:Inv X pins σ H s) (hm:s.heap.Ns X.env.locals m) (F:Fr (Att.noObjs s.heap) X.env.locals h' m)
  (N:News (Att.noObjs s.heap) X.env.locals h' ((D,listOf its.toArray n) :: allNews (Att.noObjs s.heap) s.heap X.env.locals)) (hD:∀ q∈allNews (Att.noObjs s.heap) s.heap X.env.locals,q.1 < D) (hv:Vals ys its) (hz:ys.length≤sizeLine) :
  H D=none/\Inv X pins σ (upd H D (.lst ys)) { s with heap:=h',toks:=t' }:=by
 have nD:=N _ (List.mem_cons_self ..)
 have keep:∀ b o,b≠X.env.locals->s.heap.get? b=some o->h'.get? b=some o:=fun b o hb e=>(N (b,o) (List.mem_cons_of_mem _ (mem_allNews hb (Att.noObjs_get _ _) e))).1
 have fresh:∀ b o,b≠X.env.locals->s.heap.get? b=some o->b≠D:=fun b o hb e=>Nat.ne_of_lt (hD (b,o) (mem_allNews hb (Att.noObjs_get _ _) e))
 have neL:∀ b u,H b=some u->b≠X.env.locals:=fun b u e z=>by rw [z,I.free] at e;cases e
 have hn:H D=none:=by
  cases e:H D with
  | none=>rfl
  | some u =>
   obtain ⟨ob,hob⟩:=(I.hok D u e).has
   exact absurd rfl (fresh D ob nD.2.1 hob)
 refine ⟨hn,I.step (g':=s.gens) (d':=s.drawn) (ch:=[]) (fun _ z=>nomatch z) (fun b o hL _ _ e _=>keep b o hL e) (fun b o hL _ _ e _=>⟨o.slots,keep b o hL e⟩) (fun b o _ e q=>?_) (fun b o _ e=>?_) (fun b xs e=>?_) (fun b o u e=>?_)
  (fun b ps e=>⟨#[],?_⟩) (fun m' hm'=>?_) (fun b u e=>?_) I.bare⟩
 ·by_cases hb:b=X.env.locals
  ·rw [upd_ne (by rw [hb];exact Ne.symm nD.2.1)];exact q
  ·rw [upd_ne (fresh b o hb e)];exact q
 ·by_cases hb:b=X.env.locals
  ·obtain ⟨o',_,_,ho',_⟩:=F.ns
   exact ⟨o',by rw [hb];exact ho'⟩
  ·exact ⟨o,keep b o hb e⟩
 ·rw [upd_ne (ne_of_none e hn)];exact e
 ·rw [upd_ne (ne_of_none e hn)];exact e
 ·rw [upd_ne (ne_of_none e hn),e];simp
 ·rw [←ns_one hm hm'];exact F.ns
 ·by_cases hb:b=D
  ·subst hb
   rw [upd_same] at e
   cases e
   exact ⟨hz,its,n,hv,nD.1⟩
  ·rw [upd_ne hb] at e
   refine (I.hok b u e).stay (fun c v hc q=>keep c v ?_ q) (fun c q=>by rw [upd_ne (ne_of_none q hn)];exact q) (fun c xs q=>by rw [upd_ne (ne_of_none q hn)];exact q)
   rcases hc with rfl | hc
   ·exact neL _ _ e
   ·exact neL _ _ hc
theorem lex_pairs {prog:Program} {w:World} {A:Around} {fin:Bool} {Q:Bool->Shared->Prop} {s:Shared}:∀ {ns ms:List Int} {us vs:List Value} (i:Nat),Vals (ns.map V.int) us->Vals (ms.map V.int) vs->ns.length=ms.length->fin=false ->
  Q (HT.lexLt ns ms) s->KatLex prog w A true fin Q (us.zip vs) i s
 | [],[],_,_,i,r,q,_,hf,h=>by
  rw [List.map_nil] at r q
  cases r;cases q
  subst hf
  exact h
 | x :: ns,y :: ms,_,_,i,r,q,hl,hf,h=>by
  rw [List.map_cons] at r q
  cases r with
  | cons r1 r2 =>
   cases q with
   | cons q1 q2 =>
    obtain ⟨t,rfl⟩:=r1
    obtain ⟨t',rfl⟩:=q1
    rw [List.zip_cons_cons]
    refine kat_cons (wpAny_eqBool_int ?_)
    rw [HT.lexLt_cons] at h
    by_cases e:x=y
    ·rw [if_pos e] at h
     rw [beq_iff_eq.mpr e]
     exact kat_yes (lex_pairs (i+1) r2 q2 (by simpa using hl) hf h)
    ·rw [if_neg e] at h
     rw [beq_eq_false_iff_ne.mpr e]
     refine kat_no ?_
     cases i with
     | zero=>exact oneLt_int h
     | succ i=>exact kat_one _ _ (lt_int h)
 | [],_ :: _,_,_,_,_,_,hl,_,_=>by simp at hl
 | _ :: _,[],_,_,_,_,_,hl,_,_=>by simp at hl
end
noncomputable abbrev Prs:=List (Addr×List Int)
noncomputable def Tps (K:PySem.W.Frag) (H:Hp) (ps:Prs):Prop:=∀ q∈ps,SqT K H q.1 (q.2.map V.int)
noncomputable abbrev refs (ps:Prs):List V:=ps.map fun q=>V.ref q.1
noncomputable def Rises (ps:Prs):Prop:=ps.Pairwise fun a b=>HT.lexLt b.2 a.2=false
theorem getD_prs (ps:Prs) (i:Nat) (hi:i < ps.length):ps.getD i (0,[])=ps[i]:=by simp [List.getD,hi]
theorem vals_refs {ps:Prs} {its:List Value} (r:Vals (refs ps) its) {i:Nat} (hi:i < ps.length):its.getD i Value.none=.ref (ps.getD i (0,[])).1:=by
 have e:(refs ps)[i]?=some (V.ref ps[i].1):=by simp [refs,hi]
 obtain ⟨u,hu,ru⟩:=r.get e
 cases ru
 rw [getD_prs ps i hi,List.getD_eq_getElem?_getD,hu]
 rfl
theorem firsts_of {h:Heap}:∀ {ps:Prs} {its:List Value},Vals (refs ps) its->(∀ q∈ps,q.2≠[]/\∃ vs:List Value,Vals (q.2.map V.int) vs/\IsTup h q.1 vs.toArray)->∃ fs:List Value,KatTups h its fs/\fs.length=ps.length/\∀ v∈fs,∃ i t,v=Value.int i t
 | [],_,r,_=>by
  have r:Vals [] _:=r
  cases r
  exact ⟨[],KatTups.nil,rfl,fun _ z=>nomatch z⟩
 | q :: ps,_,r,ht=>by
  have r:Vals (V.ref q.1 :: refs ps) _:=r
  cases r with
  | cons r1 r2 =>
   cases r1
   obtain ⟨fs,k,e,hf⟩:=firsts_of r2 fun p hp=>ht p (List.mem_cons_of_mem _ hp)
   obtain ⟨hne,vs,rv,ob,ho,hc,n,hd⟩:=ht q (List.mem_cons_self ..)
   obtain ⟨a,l⟩:=q
   cases l with
   | nil=>exact absurd rfl hne
   | cons x l =>
    cases rv with
    | @cons _ f _ fr r3 r4 =>
     obtain ⟨t,rfl⟩:=r3
     refine ⟨.int x t :: fs,KatTups.cons ho hc hd (by simp) k,by simp [e],fun v hv=>?_⟩
     rcases List.mem_cons.mp hv with rfl | hv
     ·exact ⟨x,t,rfl⟩
     ·exact hf v hv
theorem map_range_getD {α:Type} (l:List α) (d:α):(List.range l.length).map (fun i=>l.getD i d)=l:=by
 apply List.ext_getElem
 ·simp
 ·intro i h1 h2
  simp [List.getD,h2]
section
variable {X:Cx}
noncomputable def rSortT (K:PySem.W.Frag):List V->Hp->VK->Prop:=fun xs H Q=>∃ (l:Addr) (ps:Prs) (d:Nat),xs=[.ref l]/\SqL K H l (refs ps)/\Tps K H ps/\(∀ q∈ps,q.2.length=d)/\0 < d/\2≤ps.length/\ps.length < 64 /\
 ∀ (p:Addr) (qs:Prs),H p=none->qs.Perm ps->Rises qs->Q (.ref p) (upd H p (.lst (refs qs)))
theorem call_sortT:CallR X (.builtin "sorted") (rSortT X.K):=by
 intro pins s σ H xs us Q I r h
 obtain ⟨l,ps,d,rfl,hl,ht,hd,h0,h2,h64,q⟩:=h
 obtain ⟨u,rfl,ru⟩:=vals1 r
 cases ru
 obtain ⟨its,rv,pl,hz⟩:=I.list hl
 obtain ⟨m,hm,_⟩:=id I.loc
 have hlen:its.length=ps.length:=by have:=rv.length;simpa using this.symm
 refine kat_sorted (vs:=its) (Att.fr_all hm) (news_all (g:=Att.noObjs s.heap)) pl.isList (by lia) (by lia) fun D e1 h' F' N' hD=>?_
 have keep':∀ b o,b≠X.env.locals->s.heap.get? b=some o->h'.get? b=some o:=fun b o hb e=>(N' (b,o) (List.mem_cons_of_mem _ (mem_allNews hb (Att.noObjs_get _ _) e))).1
 have tup':∀ p∈ps,∃ vs:List Value,Vals (p.2.map V.int) vs/\IsTup h' p.1 vs.toArray:=fun p hp=>by
  obtain ⟨vs,rv',⟨ob,ho,hc,n,hdat⟩,_⟩:=I.tuple (ht p hp)
  refine ⟨vs,rv',ob,keep' _ _ (fun z=>?_) ho,hc,n,hdat⟩
  obtain ⟨o',es,ep,e',hd',_⟩:=hm
  rw [z,e'] at ho
  cases ho
  rw [hdat] at hd'
  cases hd'
 obtain ⟨fs,kt,hfl,hfs⟩:=firsts_of (h:=h') rv fun p hp=>⟨fun e=>by have:=hd p hp;rw [e] at this;simp at this;lia,tup' p hp⟩
 refine kat_kind (T:=.type "int") kt (by lia) (fun v hv=>?_) rfl ?_
 ·obtain ⟨i,t,rfl⟩:=hfs v hv
  exact Looks.of_pure rfl
 refine sort_go lexO (key:=fun i=>(ps.getD i (0,[])).2) (N:=its.length) (fun i j C hi hj hC=>?_) (by lia) fun p hp hu=>?_
 ·have hi':i < ps.length:=by lia
  have hj':j < ps.length:=by lia
  show wpAny _ _ (keyLt' _ (its.getD i Value.none) (its.getD j Value.none)) C _ _
  rw [vals_refs rv hi',vals_refs rv hj']
  have mi:ps.getD i (0,[])∈ps:=by rw [getD_prs ps i hi'];exact List.getElem_mem hi'
  have mj:ps.getD j (0,[])∈ps:=by rw [getD_prs ps j hj'];exact List.getElem_mem hj'
  obtain ⟨vi,ri,oi,hoi,_,ni,di⟩:=tup' _ mi
  obtain ⟨vj,rj,oj,hoj,_,nj,dj⟩:=tup' _ mj
  have el:(ps.getD i (0,[])).2.length=(ps.getD j (0,[])).2.length:=(hd _ mi).trans (hd _ mj).symm
  refine kat_lt hoi di hoj dj ?_
  refine lex_pairs 0 ri rj el ?_ hC
  have a1:=ri.length
  have a2:=rj.length
  simp only [List.length_map] at a1 a2
  rw [List.size_toArray,List.size_toArray]
  exact decide_eq_false (by lia)
 ·have hpl:p.toList.Perm (List.range its.length):=by simpa using Array.perm_iff_toList_perm.mp hp
  have hps:p.size=its.length:=by have:=hpl.length_eq;simpa using this
  have hlow:∀ i∈p.toList,i < ps.length:=fun i hi=>by have:=hpl.mem_iff.mp hi;rw [List.mem_range] at this;lia
  refine KasFin.intro F' N' (.head fun q hq=>Nat.ne_of_lt (hD q hq)) fun h'' c F'' N''=>?_
  have hv:Vals (refs (p.toList.map fun i=>ps.getD i (0,[]))) (p.toList.map fun i=>its.getD i Value.none):=by
   have go:∀ is:List Nat,(∀ i∈is,i < ps.length)->Vals (refs (is.map fun i=>ps.getD i (0,[]))) (is.map fun i=>its.getD i Value.none):=by
    intro is
    induction is with
    | nil=>intro _;exact .nil
    | cons i is ih =>
     intro hi
     refine .cons ?_ (ih fun j hj=>hi j (List.mem_cons_of_mem _ hj))
     show its.getD i Value.none=_
     exact vals_refs rv (hi i (List.mem_cons_self ..))
   exact go _ hlow
  obtain ⟨hn,I'⟩:=I.newList (t':=s.toks) hm F'' N'' hD hv (by simp only [List.length_map,Array.length_toList,hps];rw [sizeLine_eq];lia)
  refine ⟨.ref D,_,I',rfl,q D _ hn ?_ ?_⟩
  ·have:=hpl.map (fun i=>ps.getD i (0,[]))
   rw [hlen,map_range_getD] at this
   exact this
  ·unfold Rises
   rw [List.pairwise_map,List.pairwise_iff_getElem]
   intro i j hi hj hij
   have hu':=hu i j (by lia) (by rw [Array.length_toList] at hj;lia)
   unfold kk at hu'
   have e1:p.getD i 0=p.toList[i]:=by rw [getD_q];simp at hi;simp [hi]
   have e2:p.getD j 0=p.toList[j]:=by rw [getD_q];simp at hj;simp [hj]
   rw [e1,e2] at hu'
   exact hu'
end
open PySem PySem.Spec PyProof.Rows
section
variable {X:Cx}
theorem call_allB (hc:X.calm=true):CallR X (.builtin "all") (fun xs H Q=>∃ (p:Addr) (bs:List Bool),xs=[.ref p]/\SqL X.K H p (bs.map V.bl)/\Q (.bl (bs.all id)) H):=by
 intro pins s σ H xs us Q I r h
 obtain ⟨p,bs,rfl,hp,q⟩:=h
 obtain ⟨u,rfl,ru⟩:=vals1 r
 cases ru
 obtain ⟨its,rv,pl,hz⟩:=I.list hp
 obtain ⟨o0,n0,ho0,_⟩:=id pl
 have hlt:p < s.heap.objs.size:=Heap.lt_size ho0
 have hl:its.length=bs.length:=by have:=rv.length;simpa using this.symm
 refine call_all_walk (wpAny_pyIter_list pl.isList ?_)
 have hh:X.A.in1.handled=none:=I.ok.hd hc
 refine ⟨s.heap.objs.size,_,_,_,_,_,fun i=>bs.getD i true,rfl,Walks.list (prog:=X.prog) (w:=X.w) hh s.heap.objs.size p (Nat.ne_of_lt hlt) its.toArray,⟨⟨_,Heap.get?_push_size _ rfl,rfl,rfl⟩,(pl.isList).push _⟩,?_,fun h' tk k=>?_⟩
 ·intro i v s' Q' E' hv hq
  have hi:i < bs.length:=by
   have h1:i < its.length:=by
    rw [List.getElem?_toArray] at hv
    exact (List.getElem?_eq_some_iff.mp hv).1
   lia
  obtain ⟨u,hu,ru⟩:=rv.get (i:=i) (x:=.bl bs[i]) (by simp [hi])
  rw [List.getElem?_toArray,hu] at hv
  cases hv
  cases ru
  have e:bs.getD i true=bs[i]:=by simp [List.getD,hi]
  have hq:Q' (bs.getD i true) s':=hq
  rw [e] at hq
  exact wpAny_truthy_bool hq
 ·refine ⟨.bl (bs.all id),H,I.kept (h':=h') (t':=tk) fun b o e=>k b o (fun z=>?_) (Heap.get?_push_of_some _ e),?_,q⟩
  ·have hb:b=s.heap.objs.size:=by simpa using z
   exact absurd (Heap.lt_size e) (by rw [hb];exact Nat.lt_irrefl _)
  ·have e:∀ bs:List Bool,(List.range bs.length).all (fun i=>bs.getD i true)=bs.all id:=by
    intro bs
    rw [Bool.eq_iff_iff,List.all_eq_true,List.all_eq_true]
    constructor
    ·intro h b hb
     obtain ⟨i,hi,e⟩:=List.getElem_of_mem hb
     have:=h i (List.mem_range.mpr hi)
     simp [List.getD,hi,e] at this
     exact this
    ·intro h i hi
     have hi:=List.mem_range.mp hi
     have:=h bs[i] (List.getElem_mem hi)
     simpa [List.getD,hi] using this
   have hs:its.toArray.size=bs.length:=by rw [List.size_toArray,hl]
   show Value.bool _=Value.bool _
   rw [hs,e]
theorem Inv.turnNew {pins:List (Addr×Obj)} {σ:St} {H:Hp} {s:Shared} {h':Heap} {t':Nat} {fp:List Addr} {its:List Value} {xs:List V} {ob:Obj} {n:Nat} (I:Inv X pins σ H s) (hf:∀ b∈fp,FpOk X pins H b) (k:∀ b o,b∉fp->s.heap.get? b=some o->h'.get? b=some o)
  (hT:h'.get? s.heap.objs.size=some ob) (hc:ob.cls=.type "tuple") (hd:ob.data=.seq its.toArray n) (hv:Vals xs its) (hz:xs.length≤sizeLine):Inv X pins σ (upd H s.heap.objs.size (.tup xs)) { s with heap:=h',toks:=t' }:=by
 have hn:H s.heap.objs.size=none:=I.fresh
 have nfp:∀ b u,H b=some u->b∉fp:=fun b u e z=>by rw [(hf b z).1] at e;cases e
 refine I.step (g':=s.gens) (d':=s.drawn) (ch:=fp) (fun b hb=>⟨(hf b hb).2.2.2.1,(hf b hb).2.1,(hf b hb).2.2.2.2.1,(hf b hb).2.2.2.2.2⟩) (fun b o _ _ hb e _=>k b o hb e) (fun b o _ _ hb e _=>⟨o.slots,k b o hb e⟩)
  (fun b o _ e q=>by rw [upd_ne (Nat.ne_of_lt (Heap.lt_size e))];exact q) (fun b o hb e=>⟨o,k b o hb e⟩) (fun b ys e=>by rw [upd_ne (ne_of_none e hn)];exact e) (fun b o u e=>by rw [upd_ne (ne_of_none e hn)];exact e)
  (fun b ps e=>⟨#[],by rw [upd_ne (ne_of_none e hn),e];simp⟩) (fun m hm=>?_) (fun b u e=>?_) I.bare
 ·obtain ⟨o,es,ep,ho,r⟩:=hm
  refine ⟨o,es,ep,k _ o (fun z=>(hf _ z).2.1 rfl) ho,r⟩
 ·by_cases hb:b=s.heap.objs.size
  ·subst hb
   rw [upd_same] at e
   cases e
   exact ⟨hz,its,hv,ob,hT,hc,n,hd⟩
  ·rw [upd_ne hb] at e
   refine (I.hok b u e).stay (fun c v hc' q=>k c v ?_ q) (fun c q=>by rw [upd_ne (ne_of_none q hn)];exact q) (fun c ys q=>by rw [upd_ne (ne_of_none q hn)];exact q)
   rcases hc' with rfl | hc'
   ·exact nfp _ _ e
   ·exact nfp _ _ hc'
noncomputable def Itz (K:PySem.W.Frag) (a b:Addr):It :=
 ⟨fun i H=>∃ xs ys x y,SqL K H a xs/\SqL K H b ys/\xs[i]?=some x/\ys[i]?=some y,
  fun i H v H'=>∃ T x y,H T=none/\v=.ref T/\H'=upd H T (.tup [x,y])/\∀ xs ys,SqL K H a xs->SqL K H b ys->xs[i]?=some x/\ys[i]?=some y,
  fun i H=>∃ xs ys,SqL K H a xs/\SqL K H b ys/\(xs.length≤i\/ys.length≤i)⟩
theorem turn_zip {P:Program} {w:World} {K:PySem.W.Frag} {elts:List Expr} {tk:Nat} {tpos:Pos} {z TI TO i1 i2 l1 l2:Addr} (D:ZipApart z TI TO i1 i2 l1 l2) :
  Turn P w K (.Tuple elts tk tpos) (Itz K l1 l2) [z,TI,TO,i1,i2] z (fun i h=>IsZip h z TI TO .none/\IsPair h TI (.ref i1) (.ref i2)/\(∃ a b,IsPair h TO a b)/\h.IsListIter i1 l1 i/\h.IsListIter i2 l2 i) where
 mem:=by simp
 obj:=fun i h st b hb=>by
  obtain ⟨hz,hTI,⟨x,y,hTO⟩,⟨o1,e1,_,d1⟩,⟨o2,e2,_,d2⟩⟩:=st
  simp only [List.mem_cons,List.not_mem_nil,or_false] at hb
  rcases hb with rfl | rfl | rfl | rfl | rfl
  ·exact ⟨_,hz,fun v q=>by have q':Data.fields _=Data.cell v:=q;cases q'⟩
  ·exact ⟨_,hTI,fun v q=>by have q':Data.seq _ _=Data.cell v:=q;cases q'⟩
  ·exact ⟨_,hTO,fun v q=>by have q':Data.seq _ _=Data.cell v:=q;cases q'⟩
  ·exact ⟨_,e1,fun v q=>by rw [d1] at q;cases q⟩
  ·exact ⟨_,e2,fun v q=>by rw [d2] at q;cases q⟩
 keep:=fun i h h' st k=>by
  obtain ⟨hz,hTI,⟨x,y,hTO⟩,h1,h2⟩:=st
  exact ⟨k z (by simp) _ hz,k TI (by simp) _ hTI,⟨x,y,k TO (by simp) _ hTO⟩,h1.at fun o e=>k i1 (by simp) o e,h2.at fun o e=>k i2 (by simp) o e⟩
 item:=by
  intro X hP hw hK hc i pins s σ H E I hf st hg
  subst hP hw hK
  obtain ⟨hz,hTI,⟨x0,y0,hTO⟩,h1,h2⟩:=st
  obtain ⟨xs,ys,x,y,sx,sy,ex,ey⟩:=hg
  obtain ⟨its1,rv1,p1,hz1⟩:=I.list sx
  obtain ⟨its2,rv2,p2,hz2⟩:=I.list sy
  obtain ⟨u,hu,ru⟩:=rv1.get ex
  obtain ⟨v,hv,rv⟩:=rv2.get ey
  refine wpAny_pyNext_zip_item D hz hTI hTO h1 h2 p1.isList p2.isList (x:=u) (y:=v) (by simpa using hu) (by simpa using hv) fun h' a1 a2 a3 a4 a5 a6 a7=>?_
  refine ⟨_,rfl,wpAny_letOwnedTupleGo_zip a1 fun h'' b1 b2=>?_⟩
  have zlt:z < s.heap.objs.size:=Heap.lt_size hz
  have fresh:∀ b∈[z,TI,TO,i1,i2],b≠s.heap.objs.size:=fun b hb=>by
   have:b < s.heap.objs.size:=by
    obtain ⟨_,e1,_,_⟩:=h1
    obtain ⟨_,e2,_,_⟩:=h2
    simp only [List.mem_cons,List.not_mem_nil,or_false] at hb
    rcases hb with rfl | rfl | rfl | rfl | rfl
    ·exact zlt
    ·exact Heap.lt_size hTI
    ·exact Heap.lt_size hTO
    ·exact Heap.lt_size e1
    ·exact Heap.lt_size e2
   exact Nat.ne_of_lt this
  have I2:=I.turnNew (t':=s.toks) (h':=h'') (fp:=[z,TI,TO,i1,i2]) (its:=[u,v]) (xs:=[x,y]) hf (fun b o hb e=>by
    simp only [List.mem_cons,List.not_mem_nil,or_false,not_or] at hb
    exact b2.extBut b o hb.1 (a7 b o hb.1 hb.2.2.1 hb.2.2.2.1 hb.2.2.2.2 e))
   (b2.extBut _ _ (Nat.ne_of_gt zlt) a5) rfl rfl (.cons ru (.cons rv .nil)) (by show 2≤sizeLine;decide)
  refine ⟨.ref s.heap.objs.size,_,I2,rfl,⟨_,x,y,I.fresh,rfl,rfl,fun xs' ys' q1 q2=>by rw [I.list_inj q1 sx,I.list_inj q2 sy];exact ⟨ex,ey⟩⟩,⟨b1,?_,⟨_,_,b2.extBut _ _ D.TOz a2⟩,a3.extBut b2.extBut D.i1z,a4.extBut b2.extBut D.i2z⟩,fun b hb=>?_⟩
  ·exact b2.extBut _ _ D.TIz (a7 _ _ D.TIz D.TITO D.TIi1 D.TIi2 hTI)
  ·rw [upd_ne (fresh b hb)];exact (hf b hb).1
 done:=by
  intro X hP hw hK hc i pins s σ H E I hf st hg
  subst hP hw hK
  obtain ⟨hz,hTI,⟨x0,y0,hTO⟩,h1,h2⟩:=st
  obtain ⟨xs,ys,sx,sy,hend⟩:=hg
  obtain ⟨its1,rv1,p1,hz1⟩:=I.list sx
  obtain ⟨its2,rv2,p2,hz2⟩:=I.list sy
  have l1':=rv1.length
  have l2':=rv2.length
  refine wpAny_pyNext_zip_end (I.ok.hd hc) D hz hTI hTO h1 h2 p1.isList p2.isList (hend.imp (fun q=>by simp;lia) (fun q=>by simp;lia)) fun h' k=>⟨rfl,?_⟩
  have nfp:∀ b u,H b=some u->b∉[z,TI,TO,i1,i2]:=fun b u e q=>by rw [(hf b q).1] at e;cases e
  have kk:∀ b o,b∉[z,TI,TO,i1,i2]->s.heap.get? b=some o->h'.get? b=some o:=fun b o hb e=>by
   simp only [List.mem_cons,List.not_mem_nil,or_false,not_or] at hb
   exact k b o hb.1 hb.2.2.1 hb.2.2.2.1 hb.2.2.2.2 e
  refine I.step (t':=s.toks) (g':=s.gens) (d':=s.drawn) (ch:=[z,TI,TO,i1,i2]) (fun b hb=>⟨(hf b hb).2.2.2.1,(hf b hb).2.1,(hf b hb).2.2.2.2.1,(hf b hb).2.2.2.2.2⟩) (fun b o _ _ hb e _=>kk b o hb e) (fun b o _ _ hb e _=>⟨o.slots,kk b o hb e⟩)
   (fun _ _ _ _ q=>q) (fun b o hb e=>⟨o,kk b o hb e⟩) (fun _ _ e=>e) (fun _ _ _ e=>e) (fun b ps e=>⟨#[],by rw [e];simp⟩) (fun m hm=>?_) (fun b u e=>?_) I.bare
  ·obtain ⟨o,es,ep,ho,r⟩:=hm
   exact ⟨o,es,ep,kk _ o (fun q=>(hf _ q).2.1 rfl) ho,r⟩
  ·refine (I.hok b u e).stay (fun c v hc' q=>kk c v ?_ q) (fun _ q=>q) fun _ _ q=>q
   rcases hc' with rfl | hc'
   ·exact nfp _ _ e
   ·exact nfp _ _ hc'
 self:=fun _ _ _ _ _ st h=>wpAny_pyIter_zip st.1 h
theorem b_zip:bootBuiltins "zip"=some (.type "zip"):=by decide +kernel
noncomputable def iZip (K:PySem.W.Frag) (ta:TA):TI:=fun σ H R=>ta σ H fun vs H1=>∃ a b,vs=[.ref a,.ref b]/\(∃ xs,SqL K H1 a xs)/\(∃ ys,SqL K H1 b ys)/\R (Itz K a b) H1
theorem pi_zip {elts:List Expr} {tk:Nat} {tpos:Pos} {a b:Expr} {ta:TA} {p pos:Pos} (hg:Gl X "zip") (hm:X.mg "zip"=none) (ha:PA X [a,b] ta) (hs:starEach [a,b] X.env=[(false,eval a X.env),(false,eval b X.env)]:=by rfl)
  (hs2:starEach [b] X.env=[(false,eval b X.env)]:=by rfl):PI X (.Tuple elts tk tpos) (.Call (.Name "zip" p) [a,b] [] pos) (iZip X.K ta):=by
 intro pins s σ H R I h
 refine Call_ (ld_blt I hg hm b_zip (PyProof.Rows.callWith_type1 (thn (ha pos pins s σ H _ I h) fun us s1 ⟨vs,H1,I1,r1,q1⟩=>?_) (by rw [hs,hs2]) (by rw [hs2];rfl)))
 obtain ⟨x,y,e,⟨xs,sx⟩,⟨ys,sy⟩,q⟩:=q1
 subst e
 cases r1 with
 | cons r rr =>
  cases rr with
  | cons r' rr =>
   cases rr
   cases r
   cases r'
   obtain ⟨its1,rv1,p1,hz1⟩:=I1.list sx
   obtain ⟨its2,rv2,p2,hz2⟩:=I1.list sy
   obtain ⟨o1,n1,e1,_⟩:=id p1
   obtain ⟨o2,n2,e2,_⟩:=id p2
   refine call_zip_2 p1.isList p2.isList fun h' hz hTI hTO hi1 hi2 hsz hk=>wpAny_pyIter_zip hz ?_
   have I2:Inv X pins σ H1 { s1 with heap:=h' }:=I1.kept (t':=s1.toks) hk
   refine ⟨s1.heap.objs.size+4,[s1.heap.objs.size+4,s1.heap.objs.size+2,s1.heap.objs.size+3,s1.heap.objs.size,s1.heap.objs.size+1],_,_,H1,rfl,I2,turn_zip (zipApart_new (Heap.lt_size e1) (Heap.lt_size e2)),⟨hz,hTI,⟨_,_,hTO⟩,hi1,hi2⟩,fun b hb=>?_,q⟩
   have hge:s1.heap.objs.size≤b:=by
    simp only [List.mem_cons,List.not_mem_nil,or_false] at hb
    rcases hb with rfl | rfl | rfl | rfl | rfl <;> lia
   exact I1.fpOk hge (I1.hok.fresh hge)
end
end L2
namespace Pc
open PySem L2
inductive Ax where
 | x | y | z
 deriving DecidableEq
structure C3 where
 x:Int
 y:Int
 z:Int
 deriving DecidableEq
noncomputable def C3.l (c:C3):List Int:=[c.x,c.y,c.z]
noncomputable abbrev C3.v (c:C3):List V:=c.l.map V.int
theorem C3.inj {c d:C3}:c.l=d.l↔c=d:=by
 obtain ⟨a,b,e⟩:=c
 obtain ⟨a',b',e'⟩:=d
 simp [C3.l]
noncomputable def Ax.s:Ax->Str
 | .x=>"x"
 | .y=>"y"
 | .z=>"z"
noncomputable def Ax.n:Ax->Int
 | .x=>0
 | .y=>1
 | .z=>2
noncomputable def Ax.at (a:Ax) (c:C3):Int:=match a with
 | .x=>c.x
 | .y=>c.y
 | .z=>c.z
noncomputable def Ax.put (a:Ax) (v:Int) (c:C3):C3:=match a with
 | .x=>⟨v,c.y,c.z⟩
 | .y=>⟨c.x,v,c.z⟩
 | .z=>⟨c.x,c.y,v⟩
structure Wy where
 ax:Ax
 up:Bool
 deriving DecidableEq
noncomputable def Wy.s:Wy->Str
 | ⟨.x,true⟩=>"+x"
 | ⟨.x,false⟩=>"-x"
 | ⟨.y,true⟩=>"+y"
 | ⟨.y,false⟩=>"-y"
 | ⟨.z,true⟩=>"+z"
 | ⟨.z,false⟩=>"-z"
noncomputable def sg (b:Bool):Int:=if b then 1 else -1
noncomputable def Wy.next (w:Wy) (c:C3):C3:=w.ax.put (w.ax.at c+sg w.up) c
noncomputable def C3.o:C3:=⟨0,0,0⟩
noncomputable def mC (a:Ax) (c:C3):C3:=a.put (-(a.at c)) c
noncomputable def allW:List Wy:=[⟨.x,true⟩,⟨.x,false⟩,⟨.y,true⟩,⟨.y,false⟩,⟨.z,true⟩,⟨.z,false⟩]
theorem way_ax (w:Wy):∃ c,atI w.s.cps.toList 1=some c/\(⟨#[c]⟩:Str)=w.ax.s:=by
 obtain ⟨b,u⟩:=w
 cases b <;> cases u <;> exact ⟨_,rfl,rfl⟩
theorem way_sg (w:Wy):∃ c,atI w.s.cps.toList 0=some c/\decide (V.str (⟨#[c]⟩:Str)=V.str "+")=w.up:=by
 obtain ⟨b,u⟩:=w
 cases b <;> cases u <;> exact ⟨_,rfl,by decide +kernel⟩
theorem way_len (w:Wy):w.s.length≤sizeLine:=by
 obtain ⟨b,u⟩:=w
 have h:(2:Nat)≤sizeLine:=by decide
 cases b <;> cases u <;> exact h
theorem at_ax (a:Ax) (c:C3):atI c.v a.n=some (.int (a.at c)):=by
 obtain ⟨x,y,z⟩:=c
 cases a <;> rfl
theorem ix_ax (a:Ax) (c:C3):∃ j,ixN c.v.length a.n=some j/\∀ v,c.v.set j (.int v)=(a.put v c).v:=by
 obtain ⟨x,y,z⟩:=c
 cases a
 ·exact ⟨0,rfl,fun _=>rfl⟩
 ·exact ⟨1,rfl,fun _=>rfl⟩
 ·exact ⟨2,rfl,fun _=>rfl⟩
noncomputable def plD:List (Str×V):=[("x",.int 0),("y",.int 1),("z",.int 2)]
theorem mem_ax (a:Ax):(a.s,V.int a.n)∈plD:=by
 cases a <;> simp [plD,Ax.s,Ax.n]
theorem same_up {H H1:Hp} {l:Addr} {o:HO} (s:Same H H1) (h:H l=none):Same H (upd H1 l o):=fun b u q=>by rw [upd_ne (ne_of_none q h)];exact s b u q
theorem same_nw {H H1:Hp} {l:Addr} {o:HO} (s:Same H H1) (h:H1 l=none):Same H (upd H1 l o):=same_up s (s.free h)
theorem same_tup {K:PySem.W.Frag} {H H':Hp} {a:Addr} {xs:List V} (e:Same H H') (h:SqT K H a xs):SqT K H' a xs:=by
 rcases h with (h | ⟨o,h⟩) | h
 ·exact .inl (.inl (e _ _ h))
 ·exact .inl (.inr ⟨o,e _ _ h⟩)
 ·exact .inr h
end Pc
namespace L2
open PySem PySem.Spec PyProof.Rows
section
variable {X:Cx}
noncomputable def rCatG:R2:=fun x y H Q=>∃ a b xs ys,x=.ref a/\y=.ref b/\H a=some (.tup xs)/\H b=some (.tup ys)/\xs.length+ys.length≤sizeLine/\∀ p H',Same H H'->H' p=some (.tup (xs ++ ys))->Q (.ref p) H'
theorem op_catG:OpR X (binaryOp .Add) rCatG:=by
 intro pins s σ H x y v u Q I rx ry h
 obtain ⟨a,b,xs,ys,rfl,rfl,ha,hb,hz,q⟩:=h
 by_cases hx:xs=[]
 ·subst hx
  cases rx
  cases ry
  obtain ⟨its,r1,p1,_⟩:=I.tuple (SqT.of ha)
  obtain ⟨its2,r2,p2,_⟩:=I.tuple (SqT.of hb)
  obtain ⟨⟨cls,dd,data,sl⟩,ho,hc,n,hd⟩:=id p1
  obtain ⟨⟨cls2,dd2,data2,sl2⟩,ho2,hc2,n2,hd2⟩:=id p2
  simp only at hc hd hc2 hd2
  subst hc hd hc2 hd2
  have e:its=[]:=r1.nil_iff.mpr rfl
  exact concat_meets ⟨_,ho,rfl⟩ ⟨_,ho2,rfl⟩ noFill_tuple_add seq_tuple_add PySem.F.slot_tuple_add PySem.F.entry_tuple_add (PySem.F.args_tuple_add_2 _ _)
   (tuple_addW0 a b its.toArray its2.toArray n n2 dd dd2 sl sl2 (by rw [e];rfl)) ⟨ho,ho2,⟨.ref b,H,I,rfl,q b H (Same.refl H) (by simpa using hb)⟩⟩
 ·refine op_catT pins s σ H (.ref a) (.ref b) v u Q I rx ry ⟨a,b,xs,ys,rfl,rfl,SqT.of ha,SqT.of hb,hx,hz,fun z=>q a H (Same.refl H) (by rw [z,List.append_nil];exact ha),fun _ p hp=>q p _ (fun c o e=>by rw [upd_ne (ne_of_none e hp)];exact e) upd_same⟩
theorem for_turns {J:It} {n:Nat} {g:TG} {tb:TS} {D:Ends} {σ:St} {H:Hp} (Pv:Nat->St->Hp->Prop) (h0:Pv 0 σ H) (hd:∀ σ H,Pv n σ H->J.stop n H/\D.nx σ H)
  (hgo:∀ i σ H,i < n->Pv i σ H->J.go i H/\∀ x H',J.yld i H x H'->g x σ H' fun σ2 H2=>tb { D with nx:=Pv (i+1),ct:=Pv (i+1),bk:=D.nx } σ2 H2) :
  ∃ W:Nat->Nat->St->Hp->Prop,(∃ m,W 0 m σ H)/\∀ i m σ H,W i m σ H ->
   (J.stop i H/\D.nx σ H)\/(J.go i H/\∃ N:St->Hp->Prop,(∀ σ' H',N σ' H'->∃ m',m' < m/\W (i+1) m' σ' H')/\∀ x H',J.yld i H x H'->g x σ H' fun σ2 H2=>tb { D with nx:=N,ct:=N,bk:=D.nx } σ2 H2):=by
 refine ⟨fun i m σ H=>m=n - i/\i≤n/\Pv i σ H,⟨n,by simp,Nat.zero_le _,h0⟩,?_⟩
 rintro i m σ H ⟨rfl,hi,p⟩
 by_cases hlt:i < n
 ·obtain ⟨q1,q2⟩:=hgo i σ H hlt p
  exact .inr ⟨q1,Pv (i+1),fun σ' H' p'=>⟨n - (i+1),by lia,rfl,hlt,p'⟩,q2⟩
 ·have e:i=n:=by lia
  subst e
  exact .inl (hd σ H p)
end
end L2
namespace Pc
open PySem L2 Srt
noncomputable def smp:V->Bool
 | .non=>true
 | .bl _=>true
 | .int _=>true
 | .str _=>true
 | _=>false
noncomputable def whole:V->Bool
 | .int _=>true
 | _=>false
noncomputable def near (n:Int):Bool:=decide (-60≤n)&&decide (n≤60)
noncomputable def nearV:V->Bool
 | .int n=>near n
 | _=>false
theorem kit_non_int (K:PySem.W.Frag):PySem.W.kitOne K (.type "NoneType") (.type "int")=some false:=by rfl
theorem kit_str_int (K:PySem.W.Frag):PySem.W.kitOne K (.type "str") (.type "int")=some false:=by rfl
theorem kit_bool_bool (K:PySem.W.Frag):PySem.W.kitOne K (.type "bool") (.type "bool")=some true:=by rfl
noncomputable def NoTup (K:PySem.W.Frag) (H:Hp) (x:V):Prop:=∃ t,TyOf K H x t/\PySem.W.kitOne K t (.type "tuple")=some false
theorem srt_one:∀ (l m:List (List Int)),l.Perm m->l.Pairwise (fun a b=>HT.lexLt b a=false)->m.Pairwise (fun a b=>HT.lexLt b a=false)->l=m
 | [],m,h,_,_=>(List.Perm.nil_eq h)
 | a :: l,[],h,_,_=>by have:=h.length_eq;simp at this
 | a :: l,b :: m,h,hl,hm=>by
  obtain ⟨h1,h2⟩:=List.pairwise_cons.mp hl
  obtain ⟨g1,g2⟩:=List.pairwise_cons.mp hm
  have e:a=b:=by
   have ha:a∈b :: m:=h.mem_iff.mp (List.mem_cons_self ..)
   have hb:b∈a :: l:=h.mem_iff.mpr (List.mem_cons_self ..)
   rcases List.mem_cons.mp ha with e | ha
   ·exact e
   ·rcases List.mem_cons.mp hb with e | hb
    ·exact e.symm
    ·exact lex_an a b (g1 a ha) (h1 b hb)
  subst e
  rw [srt_one l m (List.Perm.cons_inv h) h2 g2]
noncomputable def nbs (c:C3):List (List Int):=[[c.x - 1,c.y,c.z],[c.x,c.y - 1,c.z],[c.x,c.y,c.z - 1],[c.x,c.y,c.z+1],[c.x,c.y+1,c.z],[c.x+1,c.y,c.z]]
theorem nbs_perm (c:C3):(allW.map fun u=>(u.next c).l).Perm (nbs c):=by
 obtain ⟨x,y,z⟩:=c
 have e:(allW.map fun u=>(Wy.next u ⟨x,y,z⟩).l)=[[x+1,y,z],[x - 1,y,z],[x,y+1,z],[x,y - 1,z],[x,y,z+1],[x,y,z - 1]]:=by
  simp [allW,Wy.next,Ax.put,Ax.at,C3.l,sg]
  refine ⟨?_,?_,?_⟩ <;> lia
 rw [e]
 show [[x+1,y,z],[x - 1,y,z],[x,y+1,z],[x,y - 1,z],[x,y,z+1],[x,y,z - 1]].Perm [[x - 1,y,z],[x,y - 1,z],[x,y,z - 1],[x,y,z+1],[x,y+1,z],[x+1,y,z]]
 generalize [x+1,y,z]=a
 generalize [x - 1,y,z]=b
 generalize [x,y+1,z]=c
 generalize [x,y - 1,z]=d
 generalize [x,y,z+1]=e
 generalize [x,y,z - 1]=f
 refine (List.perm_append_comm (l₁:=[a]) (l₂:=[b,c,d,e,f])).trans ?_
 refine List.Perm.cons b ?_
 refine (List.perm_append_comm (l₁:=[c]) (l₂:=[d,e,f,a])).trans ?_
 refine List.Perm.cons d ?_
 refine (List.perm_append_comm (l₁:=[e]) (l₂:=[f,a,c])).trans ?_
 refine List.Perm.cons f ?_
 refine (List.perm_append_comm (l₁:=[a,c]) (l₂:=[e])).trans ?_
 refine List.Perm.cons e ?_
 exact List.perm_append_comm (l₁:=[a]) (l₂:=[c])
theorem nbs_rise (c:C3):(nbs c).Pairwise (fun a b=>HT.lexLt b a=false):=by
 obtain ⟨x,y,z⟩:=c
 simp only [nbs,List.pairwise_cons,List.mem_cons,List.not_mem_nil,or_false,forall_eq_or_imp,forall_eq,List.Pairwise.nil,and_true,HT.lexLt_cons,HT.lexLt_nil_nil]
 refine ⟨⟨?_,?_,?_,?_,?_⟩,⟨?_,?_,?_,?_⟩,⟨?_,?_,?_⟩,⟨?_,?_⟩,?_,?_⟩
 all_goals (repeat' split)
 all_goals first | rfl | lia | (simp;lia) | simp
structure Fn (K:PySem.W.Frag) (mg:Str->Option Value) (x:Str) (st:Stmt) (f:Addr) (fd:FuncData) (ps:List Str):Prop where
 F:Fun K x x st f fd
 b:Binds K fd ps []
 m:mg x=some (.ref f)
 bt:∀ (s:Shared) (us:List Value),us.length=ps.length->BindsTo s fd ⟨us,[]⟩ (ps.zip us)
theorem b_list:bootBuiltins "list"=some (.type "list"):=by decide +kernel
theorem b_tuple:bootBuiltins "tuple"=some (.type "tuple"):=by decide +kernel
theorem b_int:bootBuiltins "int"=some (.type "int"):=by decide +kernel
theorem b_bool:bootBuiltins "bool"=some (.type "bool"):=by decide +kernel
theorem b_set:bootBuiltins "set"=some (.type "set"):=by decide +kernel
theorem b_isinstance:bootBuiltins "isinstance"=some (.builtin "isinstance"):=by decide +kernel
theorem b_all:bootBuiltins "all"=some (.builtin "all"):=by decide +kernel
theorem b_sorted:bootBuiltins "sorted"=some (.builtin "sorted"):=by decide +kernel
theorem b_min:bootBuiltins "min"=some (.builtin "min"):=by decide +kernel
theorem b_max:bootBuiltins "max"=some (.builtin "max"):=by decide +kernel
theorem b_len:bootBuiltins "len"=some (.builtin "len"):=by decide +kernel
theorem le1:1≤sizeLine:=by decide
theorem le2:2≤sizeLine:=by decide
theorem le3:3≤sizeLine:=by decide
theorem le0:0≤sizeLine:=by decide
theorem le4:4≤sizeLine:=by decide
theorem le6:6≤sizeLine:=by decide
theorem fn_mk {K:PySem.W.Frag} {h:Heap} {mg:Str->Option Value} {x:Str} {st:Stmt} {f:Addr} {oc kV dc pm cd ct:Value} {od an:Option Addr} {sl:Array (Option Value)} {ps:List Str} (X:K.In h) (G:h.Ns mainGlobals mg)
  (a:PySem.W.nsIn K mainGlobals x=some (some (.ref f))) (l:K.lookup f=some ⟨oc,od,.func (PySem.W.fnOf x x (defArgs st) (defBody st) (defScope st) .none kV dc pm an cd ct),sl⟩) (c:PySem.W.codeIn K cd x=true) (k:PySem.W.keepIn K (.ref f)=true)
  (b:∀ (kV doc pm:Value) (an:Option Addr) (cdv ct:Value) (us:List Value),us.length=ps.length->bindArgs (PySem.W.fnOf x x (defArgs st) (defBody st) (defScope st) .none kV doc pm an cdv ct) ⟨us,[]⟩=pure (ps.zip us)):∃ f fd,Fn K mg x st f fd ps :=
 ⟨f,_,⟨fun_mk l c k,(fun_mk l c k).binds b,PySem.W.mg_of X G a,fun s us hl=>.of_eq (b _ _ _ _ _ _ us hl)⟩⟩
theorem place_mk {K:PySem.W.Frag} {w:World} {h:Heap} {mg:Str->Option Value} {a:Addr} {es:Array DictEntry} {n:Nat} {t0 t1 t2:Tok} (X:K.In h) (G:h.Ns mainGlobals mg) (m:PySem.W.nsIn K mainGlobals "PLACES"=some (some (.ref a)))
  (l:K.lookup a=some ⟨.type "dict",none,.dict es n,#[]⟩) (k:PySem.W.KeysLit w.params es.toList) (x0:PySem.W.nsIn K a "x"=some (some (.int 0 t0))) (x1:PySem.W.nsIn K a "y"=some (some (.int 1 t1))) (x2:PySem.W.nsIn K a "z"=some (some (.int 2 t2))) :
  ∃ a,mg "PLACES"=some (.ref a)/\TopD K w a plD:=by
 refine ⟨a,PySem.W.mg_of X G m,⟨es,n,l,k,fun p hp=>?_⟩⟩
 simp only [plD,List.mem_cons,List.not_mem_nil,or_false] at hp
 rcases hp with rfl | rfl | rfl
 ·exact ⟨_,x0,t0,rfl⟩
 ·exact ⟨_,x1,t1,rfl⟩
 ·exact ⟨_,x2,t2,rfl⟩
theorem tup_mk {K:PySem.W.Frag} {h:Heap} {mg:Str->Option Value} {x:Str} {a:Addr} {its:Array Value} {n:Nat} {d:Option Addr} {sl:Array (Option Value)} {xs:List V} (X:K.In h) (G:h.Ns mainGlobals mg) (m:PySem.W.nsIn K mainGlobals x=some (some (.ref a)))
  (l:K.lookup a=some ⟨.type "tuple",d,.seq its n,sl⟩) (r:Vals xs its.toList) (z:xs.length≤sizeLine):∃ a,mg x=some (.ref a)/\∀ H,SqT K H a xs :=
 ⟨a,PySem.W.mg_of X G m,fun H=>.inr ⟨_,its,n,l,rfl,rfl,(by have e1:=r.length;have e2:its.toList.length=its.size:=Array.length_toList;lia),r⟩⟩
noncomputable def spLaw (K:PySem.W.Frag):Sp:=fun vs H Q _=>∃ (a:Addr) (ns:List Int),vs=[.ref a]/\SqL K H a (ns.map V.int)/\ns.length≤63/\∀ H',Q (.bl true) H'
theorem walkK {l:PySem.W.OpenLaw} {q:Program} {loose:List Str} {XP:(Str->Option Value)->Heap->Prop} {YP:World->Heap->Prop} {d:DefRec} {K:Params->PySem.W.Frag} {k:Nat} (hk:k≤40) (hn:l.most=some 63) (hdf:d.params.defaults=[])
  (hY:∀ (w:World) (h:Heap),YP w h->(K w.params).In h)
  (F:∀ (w:World) (mg:Str->Option Value) (fa:Addr) (h:Heap),(K w.params).In h->h.Ns mainGlobals mg->mg d.name=some (.ref fa) ->
   ∃ fd:FuncData,(∀ (s:Shared) (u:Value),BindsTo s fd ⟨[u],[]⟩ [("_law_script",u)])/\∀ base:Heap,(K w.params).In base->base.Ns mainGlobals mg->FnOk l.prog w (K w.params) mg base CX0 k fa fd ["_law_script"] (spLaw (K w.params))) :
  PySem.W.WalkO q loose XP YP l.row.toRowW d [] (fun f vs=>PySem.call f vs) :=
 L2.walk_of (n:=63) (k:=k) (x:="_law_script") (CX:=fun _=>CX0) (sp:=fun w=>spLaw (K w.params)) hn (by decide) hdf (Room.mono (k:=40) ⟨rfl,by decide,by decide,rfl⟩ hk) hY F (fun _ _ a ns hl _ hS=>⟨a,ns,rfl,hS,hl,fun _=>rfl⟩) fun _ _ _ _ _ z=>z
end Pc
namespace L2
open PySem PySem.Spec PyProof.Rows
section
variable {σ:St} {H:Hp} {Q:VK} {D:Ends} {K:PySem.W.Frag}
theorem rd_seq {t u:TS} (h:t { D with nx:=u D } σ H):tSeq t u D σ H:=h
theorem rd_asg {te:TE} {g:TG} (h:te σ H fun x H1=>g x σ H1 D.nx):tAsg te g D σ H:=h
theorem rd_gname {i:Nat} {v:V} {R:St->Hp->Prop} (h:R (σ.set i (some v)) H):gName i v σ H R:=h
theorem rd_var {i:Nat} {v:V} (e:σ[i]?=some (some v)) (h:Q v H):tVar i σ H Q:=⟨v,e,h⟩
theorem rd_c {v:V} (h:Q v H):tC v σ H Q:=h
theorem rd_op {r:R2} {ta tb:TE} (h:ta σ H fun x H1=>tb σ H1 fun y H2=>r x y H2 Q):tOp r ta tb σ H Q:=h
theorem rd_un {r:V->Hp->VK->Prop} {ta:TE} (h:ta σ H fun x H1=>r x H1 Q):tUn r ta σ H Q:=h
theorem rd_i0 {g:Int->Int->V} {i j:Int} (h:Q (g i j) H):rI0 g (.int i) (.int j) H Q:=⟨i,j,rfl,rfl,h⟩
theorem rd_mod {g:Int->Int->V} {i j:Int} (c:0 < j) (h:Q (g i j) H):rI (fun _ j=>0 < j) g (.int i) (.int j) H Q:=⟨i,j,rfl,rfl,c,h⟩
theorem rd_fdiv {g:Int->Int->V} {i j:Int} (c:0 < j/\j < 1073741824) (h:Q (g i j) H):rI CDiv g (.int i) (.int j) H Q:=⟨i,j,rfl,rfl,c,h⟩
theorem rd_mulL {g:Int->Int->V} {i j:Int} (c:-(2 ^ 64) < i/\i < 2 ^ 64) (h:Q (g i j) H):rI CMul g (.int i) (.int j) H Q:=⟨i,j,rfl,rfl,.inl c,h⟩
theorem rd_mulR {g:Int->Int->V} {i j:Int} (c:-(2 ^ 64) < j/\j < 2 ^ 64) (h:Q (g i j) H):rI CMul g (.int i) (.int j) H Q:=⟨i,j,rfl,rfl,.inr c,h⟩
theorem rd_u {g:Int->V} {i:Int} (h:Q (g i) H):rU g (.int i) H Q:=⟨i,rfl,h⟩
theorem rd_eqI {i j:Int} (h:Q (.bl (decide (i=j))) H):rEq (.int i) (.int j) H Q:=⟨rfl,by
 have e:decide (V.int i=V.int j)=decide (i=j):=by by_cases z:i=j <;> simp [z]
 rw [e];exact h⟩
theorem rd_neI {i j:Int} (h:Q (.bl (!decide (i=j))) H):rNe (.int i) (.int j) H Q:=⟨rfl,by
 have e:decide (V.int i=V.int j)=decide (i=j):=by by_cases z:i=j <;> simp [z]
 rw [e];exact h⟩
theorem rd_test {t:TE} {R:Bool->Hp->Prop} (h:t σ H fun x H'=>∃ k,x=.bl k/\R k H'):tTest t σ H R:=h
theorem rd_tb {t:TE} {R:Bool->Hp->Prop} (h:t σ H fun x H'=>∃ k,x=.bl k/\R k H'):tB t σ H R:=h
theorem rd_bl {k:Bool} {R:Bool->Prop} (h:R k):∃ k',V.bl k=.bl k'/\R k':=⟨k,rfl,h⟩
theorem rd_ifs {c:TT} {t u:TS} (h:c σ H fun b H1=>if b=true then t D σ H1 else u D σ H1):tIfS c t u D σ H:=h
theorem rd_and {t u:TT} {R:Bool->Hp->Prop} (h:t σ H fun c H1=>if c=true then u σ H1 R else R false H1):tAnd t u σ H R:=h
theorem rd_or {t u:TT} {R:Bool->Hp->Prop} (h:t σ H fun c H1=>if c=true then R true H1 else u σ H1 R):tOr t u σ H R:=h
theorem rd_not {t:TT} {R:Bool->Hp->Prop} (h:t σ H fun c H1=>R (!c) H1):tNot t σ H R:=h
theorem rd_andV {ta tb:TE} (h:ta σ H fun x H1=>∃ c,x=.bl c/\if c=true then tb σ H1 Q else Q (.bl false) H1):tAndV ta tb σ H Q:=h
theorem rd_notV {ta:TE} (h:ta σ H fun x H1=>∃ c,x=.bl c/\Q (.bl (!c)) H1):tNotV ta σ H Q:=h
theorem rd_next (h:D.nx σ H):tNext D σ H:=h
theorem rd_ret {te:TE} (h:te σ H D.rt):tRet te D σ H:=h
theorem rd_drop {te:TE} (h:te σ H fun _ H1=>D.nx σ H1):tDrop te D σ H:=h
theorem rd_nil {R:List V->Hp->Prop} (h:R [] H):tNil σ H R:=h
theorem rd_cons {ta:TE} {tr:TA} {R:List V->Hp->Prop} (h:ta σ H fun x H1=>tr σ H1 fun xs H2=>R (x :: xs) H2):tCons ta tr σ H R:=h
theorem rd_tup {t:TA} (h:t σ H fun xs H1=>xs.length≤sizeLine/\∀ p,H1 p=none->Q (.ref p) (upd H1 p (.tup xs))):tTup t σ H Q:=h
theorem rd_lst {t:TA} (h:t σ H fun xs H1=>xs.length≤sizeLine/\∀ p,H1 p=none->Q (.ref p) (upd H1 p (.lst xs))):tLst t σ H Q:=h
theorem rd_call {sp:Sp} {dvs:List V} {E:XK} {t:TA} (h:t σ H fun vs H1=>sp (vs ++ dvs) H1 Q E):tCall sp dvs E t σ H Q:=h
theorem rd_cb {r:List V->Hp->VK->Prop} {t:TA} (h:t σ H fun vs H1=>r vs H1 Q):tCB r t σ H Q:=h
theorem rd_bm {T:String} {r:V->List V->Hp->VK->Prop} {to:TE} {t:TA} (h:to σ H fun x H1=>tyV K T x H1/\t σ H1 fun xs H2=>r x xs H2 Q):tBM K T r to t σ H Q:=h
theorem rd_bm0 {T:String} {r:V->List V->Hp->VK->Prop} {to:TE} (h:to σ H fun x H1=>tyV K T x H1/\r x [] H1 Q):tBM0 K T r to σ H Q:=h
theorem rd_sl {r:V->Option Int->Option Int->Hp->VK->Prop} {te:TE} {tl th:TO} (h:te σ H fun x H1=>tl σ H1 fun l H2=>th σ H2 fun u H3=>r x l u H3 Q):tSl r te tl th σ H Q:=h
theorem rd_nop {R:Option Int->Hp->Prop} (h:R none H):tNoPart σ H R:=h
theorem rd_part {t:TE} {R:Option Int->Hp->Prop} (h:t σ H fun x H1=>∃ i,x=.int i/\R (some i) H1):tPart t σ H R:=h
theorem rd_int {i:Int} {R:Int->Prop} (h:R i):∃ k,V.int i=.int k/\R k:=⟨i,rfl,h⟩
theorem rd_ixL {p:Addr} {xs:List V} {i:Int} {v:V} (h:SqL K H p xs) (e:atI xs i=some v) (q:Q v H):rIxL K (.ref p) (.int i) H Q:=⟨p,xs,i,v,rfl,rfl,h,e,q⟩
theorem rd_ixT {p:Addr} {xs:List V} {i:Int} {v:V} (h:SqT K H p xs) (e:atI xs i=some v) (q:Q v H):rIxT K (.ref p) (.int i) H Q:=⟨p,xs,i,v,rfl,rfl,h,e,q⟩
theorem rd_sll {p:Addr} {xs:List V} {lo hi:Option Int} (h:SqL K H p xs) (q:∀ l,H l=none->Q (.ref l) (upd H l (.lst (cutV xs lo hi)))):rSlL K (.ref p) lo hi H Q:=⟨p,xs,rfl,h,q⟩
theorem rd_true {A B:Prop} (h:A):if true=true then A else B:=iteT h
theorem rd_false {A B:Prop} (h:B):if false=true then A else B:=iteF h
theorem rd_ntrue {A B:Prop} (h:B):if (!true)=true then A else B:=iteF h
theorem rd_nfalse {A B:Prop} (h:A):if (!false)=true then A else B:=iteT h
theorem rd_gtup {n:Nat} {t:TGs} {p:Addr} {xs:List V} {R:St->Hp->Prop} (h:SqT K H p xs) (e:xs.length=n) (q:t xs σ H R):gTup K n t (.ref p) σ H R:=⟨p,xs,rfl,h,e,q⟩
theorem rd_gnil {R:St->Hp->Prop} (h:R σ H):gNil [] σ H R:=⟨rfl,h⟩
theorem rd_gcons {t:TG} {u:TGs} {v:V} {r:List V} {R:St->Hp->Prop} (h:t v σ H fun σ' H'=>u r σ' H' R):gCons t u (v :: r) σ H R:=⟨v,r,rfl,h⟩
theorem pe_globI {X:Cx} {x:Str} {n:Int} {pos:Pos} (hm:∃ t,X.mg x=some (.int n t)) (hg:Gl X x) (hd:(x==("__debug__":Str))=false:=by decide):PE X (.Name x pos) (tC (.int n)):=by
 obtain ⟨t,hm⟩:=hm
 exact pe_glob hg hm ⟨t,rfl⟩ hd
theorem same_new {p:Addr} {o:HO} (h:H p=none):Same H (upd H p o):=fun b u q=>by rw [upd_ne (ne_of_none q h)];exact q
theorem lk_old {p q:Addr} {o u:HO} (hn:H p=none) (h:H q=some u):upd H p o q=some u:=same_new hn q u h
theorem lk_same {H0:Hp} {q:Addr} {u:HO} (s:Same H0 H) (h:H0 q=some u):H q=some u:=s q u h
theorem lk_ne {p q:Addr} {o u:HO} (hn:q≠p) (h:H q=some u):upd H p o q=some u:=by rw [upd_ne hn];exact h
theorem lk_kind {p q:Addr} {o u u':HO} (h':H p=some u') (hd:u≠u') (h:H q=some u):upd H p o q=some u:=by rw [upd_ne (ne_of h h' hd)];exact h
theorem sqL_new {p q:Addr} {o:HO} {xs:List V} (hn:H p=none) (h:SqL K H q xs):SqL K (upd H p o) q xs:=(same_new hn).seq h
end
structure QE (X:Cx) (e:Expr) (t:TE):Prop where
 r:PE X e t
structure QT (X:Cx) (e:Expr) (t:TT):Prop where
 r:PT X e t
structure QW (X:Cx) (e:Expr) (t:TT):Prop where
 r:PW X e t
structure QA (X:Cx) (es:List Expr) (t:TA):Prop where
 r:PA X es t
structure QS (X:Cx) (st:Stmt) (t:TS):Prop where
 r:PS X st t
structure QSs (X:Cx) (sts:List Stmt) (t:TS):Prop where
 r:PSs X sts t
structure QG (X:Cx) (e:Expr) (t:TG):Prop where
 r:PG X e t
structure QGs (X:Cx) (es:List Expr) (t:TGs):Prop where
 r:PGs X es t
structure QI (X:Cx) (tg it:Expr) (t:TI):Prop where
 r:PI X tg it t
structure QO (X:Cx) (e:Option Expr) (t:TO):Prop where
 r:PO X e t
structure QF (X:Cx) (ifs:List Expr) (t:TT):Prop where
 r:PIfs X ifs t
structure QOp (X:Cx) (f:Value->Value->Sem Value) (r:R2):Prop where
 r:OpR X f r
structure QIx (X:Cx) (r:R2):Prop where
 r:IxR X r
structure QCl (X:Cx) (f:Value) (r:List V->Hp->VK->Prop):Prop where
 r:CallR X f r
section
set_option autoImplicit true
set_option relaxedAutoImplicit true
variable {X:Cx}
theorem qv (i:Nat) {x:Str} {pos:Pos} (hN:X.N[i]?=some x:=by rfl) (hv:Vis X.env.scope x:=by first | exact Or.inl rfl | exact Or.inr (Or.inl rfl) | exact Or.inr (Or.inr rfl)) (hd:(x==("__debug__":Str))=false:=by decide)
  (hcd:(x==("__classdict__":Str))=false:=by decide):QE X (.Name x pos) (tVar i):=⟨pv i hN hv hd hcd⟩
theorem qe_int {i j pos}:QE X (.Constant (.int i) j pos) (tC (.int i)):=⟨pe_int⟩
theorem qe_bl {b j pos}:QE X (.Constant (.bool b) j pos) (tC (.bl b)):=⟨pe_bl⟩
theorem qe_non {j pos}:QE X (.Constant .none j pos) (tC .non):=⟨pe_non⟩
theorem qe_str {x j pos}:QE X (.Constant (.str x) j pos) (tC (.str x)):=⟨pe_str⟩
theorem qe_glob {x:Str} {v:V} {u:Value} {pos:Pos} (hg:Gl X x) (hm:X.mg x=some u) (r:RelV v u) (hd:(x==("__debug__":Str))=false:=by decide):QE X (.Name x pos) (tC v):=⟨pe_glob hg hm r hd⟩
theorem qe_globI {x:Str} {n:Int} {pos:Pos} (hm:∃ t,X.mg x=some (.int n t)) (hg:Gl X x) (hd:(x==("__debug__":Str))=false:=by decide):QE X (.Name x pos) (tC (.int n)):=⟨pe_globI hm hg hd⟩
theorem qe_bltn {x:Str} {v:V} {u:Value} {pos:Pos} (hg:Gl X x) (hm:X.mg x=none) (hv:bootBuiltins x=some u) (r:RelV v u) (hn:x≠"__name__":=by decide) (hd:(x==("__debug__":Str))=false:=by decide):QE X (.Name x pos) (tC v):=⟨pe_bltn hg hm hv r hn hd⟩
theorem qe_op {op:Operator} {r:R2} (ho:QOp X (binaryOp op) r) (ha:QE X a ta) (hb:QE X b tb):QE X (.BinOp a op b pos) (tOp r ta tb):=⟨pe_op ho.r ha.r hb.r⟩
theorem qe_neg (ha:QE X a ta):QE X (.UnaryOp .USub a pos) (tUn (rU fun i=>.int (-i)) ta):=⟨pe_un un_neg ha.r⟩
theorem qt_cmpR {op:CmpOp} {r:R2} (ho:QOp X (compareOp op) r) (ha:QE X a ta) (hb:QE X b tb) (hm:behindInMarks op b=false):QT X (.Compare a [op] [b] pos) (tTest (tOp r ta tb)):=⟨pt_cmpR ho.r ha.r hb.r hm⟩
theorem qe_chain {op op':CmpOp} {r r':R2} (ho:QOp X (compareOp op) r) (ho':QOp X (compareOp op') r') (ha:QE X a ta) (hb:QE X b tb) (hc:QE X c tc)
  (hm:lastMarks [op,op'] [b,c]=false:=by with_unfolding_all rfl):QE X (.Compare a [op,op'] [b,c] pos) (tChain r r' ta tb tc):=⟨pe_chain ho.r ho'.r ha.r hb.r hc.r hm⟩
theorem qt_din (hu:X.A.units+1 < cLine) (hi:QE X i ty) (ho:QE X o td) (h1:behindInMarks .In o=false):QT X (.Compare i [.In] [o] pos) (tB (tDIn ty td)):=⟨pt_cmp (pc_din hu hi.r ho.r) h1⟩
theorem qt_dnotin (hu:X.A.units+1 < cLine) (hi:QE X i ty) (ho:QE X o td) (h1:behindInMarks .NotIn o=false):QT X (.Compare i [.NotIn] [o] pos) (tB (tDNotIn ty td)):=⟨pt_cmp (pc_dnotin hu hi.r ho.r) h1⟩
theorem qe_not (ha:QE X a ta):QE X (.UnaryOp .Not a pos) (tNotV ta):=⟨pe_not ha.r⟩
theorem qt_not (ha:QT X a tA):QT X (.UnaryOp .Not a pos) (tNot tA):=⟨pt_not ha.r⟩
theorem qe_one {op} {t:TE} (h:QE X a t):QE X (.BoolOp op [a] pos) t:=⟨pe_one h.r⟩
theorem qe_and {b:Expr} {rest:List Expr} (ha:QE X a ta) (hb:QE X (.BoolOp .And (b :: rest) pos) tb):QE X (.BoolOp .And (a :: b :: rest) pos) (tAndV ta tb):=⟨pe_and ha.r hb.r⟩
theorem qw_and1 (ha:QT X a tA):QW X (.BoolOp .And [a] pos) tA:=⟨pw_and1 ha.r⟩
theorem qw_or1 (ha:QT X a tA):QW X (.BoolOp .Or [a] pos) tA:=⟨pw_or1 ha.r⟩
theorem qw_and {b:Expr} {rest:List Expr} (ha:QT X a tA) (hb:QW X (.BoolOp .And (b :: rest) pos) tB'):QW X (.BoolOp .And (a :: b :: rest) pos) (tAnd tA tB'):=⟨pw_and ha.r hb.r⟩
theorem qw_or {b:Expr} {rest:List Expr} (ha:QT X a tA) (hb:QW X (.BoolOp .Or (b :: rest) pos) tB'):QW X (.BoolOp .Or (a :: b :: rest) pos) (tOr tA tB'):=⟨pw_or ha.r hb.r⟩
theorem QW.t {t:TT} (h:QW X e t):QT X e t:=⟨PW.pt h.r⟩
theorem qe_ifExp {c:Expr} (hc:QT X c tA) (ha:QE X a ta) (hb:QE X b tb):QE X (.IfExp c a b pos) (tIf tA ta tb):=⟨pe_ifExp hc.r ha.r hb.r⟩
theorem qt_val {e:Expr} {t:TE} (h:QE X e t) (he:∀ whole,isTrue e X.env whole=(do let v ←whole;standAt e.pos;holding [v] (truthy v)):=by intro _;rfl):QT X e (tB t):=⟨pt_val h.r he⟩
theorem qe_ix {r:R2} (hr:QIx X r) (ha:QE X a ta) (hb:QE X b tb) (hs:PlainIx b):QE X (.Subscript a b pos) (tOp r ta tb):=⟨pe_ix hr.r ha.r hb.r hs⟩
theorem qo_none:QO X none tNoPart:=⟨po_none⟩
theorem qo_some (h:QE X e te):QO X (some e) (tPart te):=⟨po_some h.r⟩
theorem qe_slL {K:PySem.W.Frag} {lo hi:Option Expr} (hK:X.K=K) (he:QE X e te) (hl:QO X lo tl) (hu:QO X hi th):QE X (.Subscript e (.Slice lo hi none p2) pos) (tSl (rSlL K) te tl th):=⟨hK▸pe_slice sl_list he.r hl.r hu.r⟩
theorem qe_slT {K:PySem.W.Frag} {lo hi:Option Expr} (hK:X.K=K) (he:QE X e te) (hl:QO X lo tl) (hu:QO X hi th):QE X (.Subscript e (.Slice lo hi none p2) pos) (tSl (rSlT K) te tl th):=⟨hK▸pe_slice sl_tup he.r hl.r hu.r⟩
theorem qe_lst (h:QA X es t):QE X (.List es pos) (tLst t):=⟨pe_lst h.r⟩
theorem qe_tup {x1} (h:QA X es t):QE X (.Tuple es x1 pos) (tTup t):=⟨pe_tup h.r⟩
theorem qa_nil:QA X [] tNil:=⟨pa_nil⟩
theorem qa_cons (ha:QE X e te) (hr:QA X es t) (hs:starEach (e :: es) X.env=(false,eval e X.env) :: starEach es X.env:=by rfl):QA X (e :: es) (tCons te t):=⟨pa_cons ha.r hr.r hs⟩
theorem qe_dnewT:QE X (.Dict [] [] pos) tDNewT:=⟨pe_dnewT⟩
theorem qe_dget (hu:X.A.units+1 < cLine) (ho:QE X o td) (hi:QE X i ty) (hs:NoSl i):QE X (.Subscript o i pos) (tDGet td ty):=⟨pe_dget hu ho.r hi.r hs⟩
theorem qe_comp {tg elt iter:Expr} {ifs:List Expr} {scope:Scope} {pos:Pos} {N:List Str} {wi:TI} {g:TG} {tc:TT} {te:TE} (own:List Str) (caps:List Nat) (hc:X.calm=true)
  (hN:N=own ++ caps.map fun j=>(X.N[j]?).getD (Str.ofString "")) (hok:blkOk X.env.scope X.N scope caps=true) (hkind:scope.kind=.function)
  (hi:QI X tg iter wi) (hg:∀ cl s₃ H₃ ch,QG (cxBlk X N scope cl s₃ H₃ ch) tg g) (hifs:∀ cl s₃ H₃ ch,QF (cxBlk X N scope cl s₃ H₃ ch) ifs tc) (he:∀ cl s₃ H₃ ch,QE (cxBlk X N scope cl s₃ H₃ ch) elt te)
  (hs:∀ x,foldedSetIterable iter X.env x=pure x:=by intro _;rfl):QE X (.ListComp elt [⟨tg,iter,ifs,0⟩] scope pos) (tComp own.length caps wi g tc te) :=
 ⟨pe_comp own caps hc hN hok hkind hi.r (fun a b c d=>(hg a b c d).r) (fun a b c d=>(hifs a b c d).r) (fun a b c d=>(he a b c d).r) hs⟩
theorem qf_nil:QF X [] tYes:=⟨pifs_nil⟩
theorem qf_one {t:TT} (h:QT X c t):QF X [c] t:=⟨pifs_one h.r⟩
theorem qe_call {CX:CXT} {k:Nat} {f:Addr} {fd:FuncData} {ps:List Str} {sp:Sp} {dvs:List V} {ds:List Value} {E:XK} {x:Str} {p pos:Pos} {e:Expr} {es:List Expr} {t:TA} (F:FnOk X.prog X.w X.K X.mg X.base CX k f fd ps sp) (hr:Room k X.A) (hg:Gl X x) (hm:X.mg x=some (.ref f)) (hk:PySem.W.keepIn X.K (.ref f)=true) (hb:Binds X.K fd ps ds) (hd:Vals dvs ds) (hx:Passes CX X E)
  (ha:QA X (e :: es) t) (hdb:(x==("__debug__":Str))=false:=by decide) (he:starEach (e :: es) X.env=(false,eval e X.env) :: starEach es X.env:=by rfl) (hpl:(backTo pos (starEach es X.env)).any (·.1)=false:=by rfl) :
  QE X (.Call (.Name x p) (e :: es) [] pos) (tCall sp dvs E t):=⟨pe_call F hr hg hm hk hb hd hx ha.r hdb he hpl⟩
theorem qe_callB {id:String} {r:List V->Hp->VK->Prop} {x:Str} {p pos:Pos} {e:Expr} {es:List Expr} {t:TA} (hc:QCl X (.builtin id) r) (hg:Gl X x) (hm:X.mg x=none) (hv:bootBuiltins x=some (.builtin id)) (ha:QA X (e :: es) t) (hn:x≠"__name__":=by decide) (hdb:(x==("__debug__":Str))=false:=by decide)
  (he:starEach (e :: es) X.env=(false,eval e X.env) :: starEach es X.env:=by rfl) (hpl:(backTo pos (starEach es X.env)).any (·.1)=false:=by rfl):QE X (.Call (.Name x p) (e :: es) [] pos) (tCB r t):=⟨pe_callB hc.r hg hm hv ha.r hn hdb he hpl⟩
theorem qe_callTy {T:String} {r:List V->Hp->VK->Prop} {x:Str} {p pos:Pos} {e:Expr} {es:List Expr} {t:TA} (hc:QCl X (.type T) r) (hg:Gl X x) (hm:X.mg x=none) (hv:bootBuiltins x=some (.type T)) (ha:QA X (e :: es) t) (hn:x≠"__name__":=by decide) (hdb:(x==("__debug__":Str))=false:=by decide)
  (he:starEach (e :: es) X.env=(false,eval e X.env) :: starEach es X.env:=by rfl) (hpl:(backTo pos (starEach es X.env)).any (·.1)=false:=by rfl):QE X (.Call (.Name x p) (e :: es) [] pos) (tCB r t):=⟨pe_callTy hc.r hg hm hv ha.r hn hdb he hpl⟩
theorem qe_bm {K:PySem.W.Frag} {T:String} {name:Str} {id:String} {r:V->List V->Hp->VK->Prop} {o e:Expr} {es:List Expr} {to:TE} {t:TA} {apos cpos:Pos} (hK:X.K=K) (pa:PlainAttrs T) (slot:Slot T name id) (hty:typeOf (.builtin id)=pure (.type "method_descriptor")) (hm:MtR X id r) (ho:QE X o to) (ha:QA X (e :: es) t)
  (hbase:attributeBase o name X.env (eval o X.env)=eval o X.env:=by rfl)
  (hfew:((backTo cpos (starEach (e :: es) X.env)).all (fun x=>!x.1)&&(backToKw cpos (keywordEach [] X.env)).all (fun x=>x.1.isSome)
   && decide ((e :: es).length+([]:List Keyword).length+(if ([]:List Keyword).isEmpty then 0 else 1) < 30))=true:=by rfl)
  (hline:(apos.endLine==cpos.line)=true:=by rfl) (hs:starEach (e :: es) X.env=(false,eval e X.env) :: starEach es X.env:=by rfl) (hplain:(backTo cpos (starEach es X.env)).any (·.1)=false:=by rfl) :
  QE X (.Call (.Attribute o name apos) (e :: es) [] cpos) (tBM K T r to t):=⟨hK▸pe_bm pa slot hty hm ho.r ha.r hbase hfew hline hs hplain⟩
theorem qe_bm0 {K:PySem.W.Frag} {T:String} {name:Str} {id:String} {r:V->List V->Hp->VK->Prop} {o:Expr} {to:TE} {apos cpos:Pos} (hK:X.K=K) (pa:PlainAttrs T) (slot:Slot T name id) (hty:typeOf (.builtin id)=pure (.type "method_descriptor")) (hm:MtR X id r) (ho:QE X o to)
  (hbase:attributeBase o name X.env (eval o X.env)=eval o X.env:=by rfl) (hline:(apos.endLine==cpos.line)=true:=by rfl):QE X (.Call (.Attribute o name apos) [] [] cpos) (tBM0 K T r to):=⟨hK▸pe_bm0 pa slot hty hm ho.r hbase hline⟩
theorem qss_nil:QSs X [] tNext:=⟨pss_nil⟩
theorem qss_cons {st:Stmt} {rest:List Stmt} {t u:TS} (h1:QS X st t) (h2:QSs X rest u):QSs X (st :: rest) (tSeq t u):=⟨pss_cons h1.r h2.r⟩
theorem qss_one {st:Stmt} {t:TS} (h1:QS X st t):QSs X [st] t:=⟨pss_one h1.r⟩
theorem qs_expr {e:Expr} {te:TE} {pos:Pos} (he:QE X e te) (hs:swapsWith e none pos.line X.env=pure false:=by rfl):QS X (.Expr e pos) (tDrop te):=⟨ps_expr he.r hs⟩
theorem qs_ret {te:TE} (he:QE X e te):QS X (.Return (some e) pos) (tRet te):=⟨ps_ret he.r⟩
theorem qs_if {c:Expr} {a b:List Stmt} {tc:TT} {t u:TS} (hc:QT X c tc) (ha:QSs X a t) (hb:QSs X b u):QS X (.If c a b pos) (tIfS tc t u):=⟨ps_if hc.r ha.r hb.r⟩
theorem qg_name {i:Nat} {x:Str} {pos:Pos} (hN:X.N.Nodup) (hi:X.N[i]?=some x) (hx:Loc X.env.scope x) (hf:X.fn x=true\/X.env.scope.names.lookup x=some .local:=by first | exact .inl rfl | exact .inr rfl | assumption):QG X (.Name x pos) (gName i):=⟨pg_name hN hi hx hf⟩
theorem qgs_nil:QGs X [] gNil:=⟨pgs_nil⟩
theorem qgs_cons {e:Expr} {es:List Expr} {t:TG} {u:TGs} (h1:QG X e t) (h2:QGs X es u) (hs:(assignEach (e :: es) X.env).map (·.2)=assign e X.env :: (assignEach es X.env).map (·.2):=by rfl):QGs X (e :: es) (gCons t u):=⟨pgs_cons h1.r h2.r hs⟩
theorem qg_tup {K:PySem.W.Frag} {es:List Expr} {k:Nat} {t:TGs} {n:Nat} {pos:Pos} (hK:X.K=K) (hc:X.calm=true) (h:QGs X es t) (hn:(assignEach es X.env).length=n:=by rfl) (hst:(assignEach es X.env).findIdx? (·.1)=none:=by rfl):QG X (.Tuple es k pos) (gTup K n t):=⟨hK▸pg_tup hc h.r hn hst⟩
theorem qg_sub {o i:Expr} {to ti:TE} {pos:Pos} (ho:QE X o to) (hi:QE X i ti)
  (ha:∀ v,assign (.Subscript o i pos) X.env v=(do
   let ov ←holding [v] (eval o X.env)
   let iv ←holding [v,ov] (eval i X.env)
   standAt pos
   holding [v,ov,iv] (setItem ov iv v)
   release [v,ov,iv] []):=by intro _;rfl):QG X (.Subscript o i pos) (gSub to ti rSetL):=⟨pg_sub ho.r hi.r set_list ha⟩
theorem qs_asg {tg e:Expr} {te:TE} {g:TG} {pos:Pos} (he:QE X e te) (hg:QG X tg g) (hs:swapsWithSole [tg] e pos.line X.env=pure false:=by rfl) (hw:swappedStores [tg] e X.env=pure none:=by rfl)
  (h1:(assignEach [tg] X.env).map (·.2)=[assign tg X.env]:=by rfl):QS X (.Assign [tg] e pos) (tAsg te g):=⟨ps_asg he.r hg.r hs hw h1⟩
theorem qs_set {i:Nat} {x:Str} {e:Expr} {te:TE} {pos pos':Pos} (hN:X.N.Nodup) (hi:X.N[i]?=some x) (hx:Loc X.env.scope x) (he:QE X e te) (hs:swapsWith e (some (.Name x pos')) pos.line X.env=pure false:=by rfl) (hf:X.fn x=true\/X.env.scope.names.lookup x=some .local:=by first | exact .inl rfl | exact .inr rfl | assumption) :
  QS X (.Assign [.Name x pos'] e pos) (tAsg te (gName i)):=⟨ps_set hN hi hx he.r hs hf⟩
theorem qs_dput {o i value:Expr} {td ty tv:TE} {pos pos':Pos} (hu:X.A.units+1 < cLine) (ho:QE X o td) (hi:QE X i ty) (hv:QE X value tv) (hs:swapsWith value (some (.Subscript o i pos')) pos.line X.env=pure false):QS X (.Assign [.Subscript o i pos'] value pos) (sDPut td ty tv):=⟨ps_dput hu ho.r hi.r hv.r hs⟩
theorem qs_for {tg iter:Expr} {body:List Stmt} {wi:TI} {g:TG} {tb:TS} {pos:Pos} (hp:PassesOwn (model X.prog X.w) X.A X.env X.xe) (hc:X.calm=true) (hi:QI X tg iter wi) (hg:QG X tg g) (hb:QSs X body tb)
  (hs:∀ x,foldedSetIterable iter X.env x=pure x:=by intro _;rfl):QS X (.For tg iter body [] pos) (tFor wi g tb):=⟨ps_for hp hc hi.r hg.r hb.r hs⟩
theorem qs_while {c:Expr} {body:List Stmt} {tc:TT} {tb:TS} {pos:Pos} (hp:PassesOwn (model X.prog X.w) X.A X.env X.xe) (hc:QT X c tc) (hb:QSs X body tb):QS X (.While c body [] pos) (tWhile tc tb):=⟨ps_while hp hc.r hb.r⟩
theorem qi_list {K:PySem.W.Frag} {tg l:Expr} {tl:TE} (hK:X.K=K) (hl:QE X l tl):QI X tg l (iList K tl):=⟨hK▸pi_list hl.r⟩
theorem qi_tup {K:PySem.W.Frag} {tg l:Expr} {tl:TE} (hK:X.K=K) (hl:QE X l tl):QI X tg l (iTup K tl):=⟨hK▸pi_tup hl.r⟩
theorem qi_range1 {tg a:Expr} {ta:TA} {p pos:Pos} (hg:Gl X "range") (hm:X.mg "range"=none) (ha:QA X [a] ta) (hs:starEach [a] X.env=[(false,eval a X.env)]:=by rfl):QI X tg (.Call (.Name "range" p) [a] [] pos) (iRng1 ta):=⟨pi_range1 hg hm ha.r hs⟩
theorem qi_range2 {tg a b:Expr} {ta:TA} {p pos:Pos} (hg:Gl X "range") (hm:X.mg "range"=none) (ha:QA X [a,b] ta) (hs:starEach [a,b] X.env=[(false,eval a X.env),(false,eval b X.env)]:=by rfl) (hs2:starEach [b] X.env=[(false,eval b X.env)]:=by rfl) :
  QI X tg (.Call (.Name "range" p) [a,b] [] pos) (iRng2 ta):=⟨pi_range2 hg hm ha.r hs hs2⟩
theorem qi_zip {K:PySem.W.Frag} {elts:List Expr} {tk:Nat} {tpos:Pos} {a b:Expr} {ta:TA} {p pos:Pos} (hK:X.K=K) (hg:Gl X "zip") (hm:X.mg "zip"=none) (ha:QA X [a,b] ta) (hs:starEach [a,b] X.env=[(false,eval a X.env),(false,eval b X.env)]:=by rfl)
  (hs2:starEach [b] X.env=[(false,eval b X.env)]:=by rfl):QI X (.Tuple elts tk tpos) (.Call (.Name "zip" p) [a,b] [] pos) (iZip K ta):=⟨hK▸pi_zip hg hm ha.r hs hs2⟩
theorem qo_add:QOp X (binaryOp .Add) (rI0 fun i j=>.int (i+j)):=⟨op_add⟩
theorem qo_sub:QOp X (binaryOp .Sub) (rI0 fun i j=>.int (i - j)):=⟨op_sub⟩
theorem qo_mul:QOp X (binaryOp .Mult) (rI CMul fun i j=>.int (i * j)):=⟨op_mul⟩
theorem qo_fdiv:QOp X (binaryOp .FloorDiv) (rI CDiv fun i j=>.int (i / j)):=⟨op_fdiv⟩
theorem qo_mod:QOp X (binaryOp .Mod) (rI (fun _ j=>0 < j) fun i j=>.int (i % j)):=⟨op_mod⟩
theorem qo_cat:QOp X (binaryOp .Add) rCat:=⟨op_cat⟩
theorem qo_catG:QOp X (binaryOp .Add) rCatG:=⟨op_catG⟩
theorem qo_lt:QOp X (compareOp .Lt) (rI0 fun i j=>.bl (decide (i < j))):=⟨op_lt⟩
theorem qo_le:QOp X (compareOp .LtE) (rI0 fun i j=>.bl (decide (i≤j))):=⟨op_le⟩
theorem qo_gt:QOp X (compareOp .Gt) (rI0 fun i j=>.bl (decide (j < i))):=⟨op_gt⟩
theorem qo_eq:QOp X (compareOp .Eq) rEq:=⟨op_eq⟩
theorem qo_ne:QOp X (compareOp .NotEq) rNe:=⟨op_ne⟩
noncomputable def rIsN (neg:Bool):R2:=fun x y H Q=>y=.non/\Q (.bl (if neg then !decide (x=.non) else decide (x=.non))) H
theorem qo_notN:QOp X (compareOp .IsNot) (rIsN true):=⟨op_notN⟩
theorem qo_notIn {K:PySem.W.Frag} (h:X.K=K):QOp X (compareOp .NotIn) (rIn K true):=⟨h▸op_notIn_seq⟩
theorem qx_list {K:PySem.W.Frag} (h:X.K=K):QIx X (rIxL K):=⟨ix_listK h⟩
theorem qx_tup {K:PySem.W.Frag} (h:X.K=K):QIx X (rIxT K):=⟨ix_tupK h⟩
theorem qx_str:QIx X rIxS:=⟨ix_str⟩
theorem qx_top {K:PySem.W.Frag} {w:World} (h:X.K=K) (hw:X.w=w):QIx X (rIxTop K w):=⟨by subst h hw;exact ix_top⟩
noncomputable def rLen (K:PySem.W.Frag):List V->Hp->VK->Prop:=fun xs H Q=>∃ p ys,xs=[.ref p]/\(SqL K H p ys\/SqT K H p ys)/\Q (.int ys.length) H
theorem qc_len {K:PySem.W.Frag} (h:X.K=K):QCl X (.builtin "len") (rLen K):=⟨h▸call_len_seq⟩
theorem qc_isI {K:PySem.W.Frag} (h:X.K=K):QCl X (.builtin "isinstance") (rIsI K):=⟨h▸call_isI⟩
noncomputable def rAllB (K:PySem.W.Frag):List V->Hp->VK->Prop:=fun xs H Q=>∃ (p:Addr) (bs:List Bool),xs=[.ref p]/\SqL K H p (bs.map V.bl)/\Q (.bl (bs.all id)) H
theorem qc_all {K:PySem.W.Frag} (h:X.K=K) (hc:X.calm=true):QCl X (.builtin "all") (rAllB K):=⟨h▸call_allB hc⟩
theorem qc_sortT {K:PySem.W.Frag} (h:X.K=K):QCl X (.builtin "sorted") (rSortT K):=⟨h▸call_sortT⟩
noncomputable def rListOf (K:PySem.W.Frag):List V->Hp->VK->Prop:=fun xs H Q=>∃ p ys,xs=[.ref p]/\(SqL K H p ys\/SqT K H p ys)/\∀ l,H l=none->Q (.ref l) (upd H l (.lst ys))
theorem qc_list {K:PySem.W.Frag} (h:X.K=K):QCl X (.type "list") (rListOf K):=⟨h▸call_list_of⟩
noncomputable def rTupOf (K:PySem.W.Frag):List V->Hp->VK->Prop:=fun xs H Q=>∃ p ys,xs=[.ref p]/\((SqL K H p ys/\∀ l,H l=none->Q (.ref l) (upd H l (.tup ys)))\/(SqT K H p ys/\Q (.ref p) H))
theorem qc_tuple {K:PySem.W.Frag} (h:X.K=K):QCl X (.type "tuple") (rTupOf K):=⟨h▸call_tuple_of⟩
noncomputable def rMin2:List V->Hp->VK->Prop:=fun xs H Q=>∃ i j,xs=[.int i,.int j]/\Q (.int (if j < i then j else i)) H
theorem qc_min2 (hc:X.calm=true):QCl X (.builtin "min") rMin2:=⟨call_min2 hc⟩
end
section
variable {σ:St} {H:Hp} {Q:VK} {D:Ends} {K:PySem.W.Frag}
theorem rd_lenL {p:Addr} {ys:List V} (h:SqL K H p ys) (q:Q (.int ys.length) H):rLen K [.ref p] H Q:=⟨p,ys,rfl,.inl h,q⟩
theorem rd_lenT {p:Addr} {ys:List V} (h:SqT K H p ys) (q:Q (.int ys.length) H):rLen K [.ref p] H Q:=⟨p,ys,rfl,.inr h,q⟩
theorem rd_listL {p:Addr} {ys:List V} (h:SqL K H p ys) (q:∀ l,H l=none->Q (.ref l) (upd H l (.lst ys))):rListOf K [.ref p] H Q:=⟨p,ys,rfl,.inl h,q⟩
theorem rd_listT {p:Addr} {ys:List V} (h:SqT K H p ys) (q:∀ l,H l=none->Q (.ref l) (upd H l (.lst ys))):rListOf K [.ref p] H Q:=⟨p,ys,rfl,.inr h,q⟩
theorem rd_tupL {p:Addr} {ys:List V} (h:SqL K H p ys) (q:∀ l,H l=none->Q (.ref l) (upd H l (.tup ys))):rTupOf K [.ref p] H Q:=⟨p,ys,rfl,.inl ⟨h,q⟩⟩
theorem rd_min2 {i j:Int} (h:Q (.int (if j < i then j else i)) H):rMin2 [.int i,.int j] H Q:=⟨i,j,rfl,h⟩
theorem rd_isII {i:Int} (h:Q (.bl true) H):rIsI K [.int i,.ty "int"] H Q:=⟨_,_,_,_,rfl,.int i,kit_int_int K,h⟩
theorem rd_isIB {i:Int} (h:Q (.bl false) H):rIsI K [.int i,.ty "bool"] H Q:=⟨_,_,_,_,rfl,.int i,kit_int_bool K,h⟩
theorem rd_isTT {a:Addr} {xs:List V} (e:H a=some (.tup xs)) (h:Q (.bl true) H):rIsI K [.ref a,.ty "tuple"] H Q:=⟨_,_,_,_,rfl,.tup e,kit_tuple_tuple K,h⟩
theorem rd_slT {p:Addr} {xs:List V} {lo hi:Option Int} (h:SqT K H p xs) (c:¬ (HT.sIx xs.length 0 lo=0/\HT.sIx xs.length xs.length hi=xs.length)) (q:∀ l,H l=none->Q (.ref l) (upd H l (.tup (cutV xs lo hi)))):rSlT K (.ref p) lo hi H Q:=⟨p,xs,rfl,h,c,q⟩
theorem rd_catG {a b:Addr} {xs ys:List V} (h1:H a=some (.tup xs)) (h2:H b=some (.tup ys)) (z:xs.length+ys.length≤sizeLine) (q:∀ p H',Same H H'->H' p=some (.tup (xs ++ ys))->Q (.ref p) H'):rCatG (.ref a) (.ref b) H Q:=⟨a,b,xs,ys,rfl,rfl,h1,h2,z,q⟩
theorem rd_catL {a b:Addr} {xs ys:List V} (h1:H a=some (.lst xs)) (h2:H b=some (.lst ys)) (z:xs.length+ys.length≤sizeLine) (q:∀ p,H p=none->Q (.ref p) (upd H p (.lst (xs ++ ys)))):rCat (.ref a) (.ref b) H Q:=⟨a,b,xs,ys,rfl,rfl,h1,h2,z,q⟩
noncomputable abbrev ForGo (J:It) (g:TG) (tb:TS) (D:Ends) (σ:St) (H:Hp):Prop:=∃ W:Nat->Nat->St->Hp->Prop,(∃ m,W 0 m σ H)/\∀ i m σ H,W i m σ H ->
   (J.stop i H/\D.nx σ H)\/(J.go i H/\∃ N:St->Hp->Prop,(∀ σ' H',N σ' H'->∃ m',m' < m/\W (i+1) m' σ' H')/\∀ x H',J.yld i H x H'->g x σ H' fun σ2 H2=>tb { D with nx:=N,ct:=N,bk:=D.nx } σ2 H2)
theorem rd_for {wi:TI} {g:TG} {tb:TS} (h:wi σ H fun J H1=>ForGo J g tb D σ H1):tFor wi g tb D σ H:=h
theorem rd_comp {n:Nat} {caps:List Nat} {wi:TI} {g:TG} {tc:TT} {te:TE} (h:wi σ H fun J H1=>∀ acc,H1 acc=none->CompGo acc Q g tc te J (blockSt n caps σ) (upd H1 acc (.lst []))):tComp n caps wi g tc te σ H Q:=h
theorem rd_ilist {tl:TE} {R:It->Hp->Prop} (h:tl σ H fun x H1=>∃ a,x=.ref a/\(∃ xs,SqL K H1 a xs)/\R (Itl K a) H1):iList K tl σ H R:=h
theorem rd_il {p:Addr} {xs:List V} {R:Addr->Prop} (h:SqL K H p xs) (q:R p):∃ a,V.ref p=.ref a/\(∃ xs,SqL K H a xs)/\R a:=⟨p,rfl,⟨xs,h⟩,q⟩
theorem rd_irng1 {ta:TA} {R:It->Hp->Prop} (h:ta σ H fun vs H1=>∃ j:Int,vs=[.int j]/\-(2 ^ 62)≤j/\j < 2 ^ 62/\R (Itr 0 j.toNat) H1):iRng1 ta σ H R:=h
theorem rd_ir1 {j:Int} {R:Int->Prop} (h1:-(2 ^ 62)≤j) (h2:j < 2 ^ 62) (q:R j):∃ k:Int,[V.int j]=[.int k]/\-(2 ^ 62)≤k/\k < 2 ^ 62/\R k:=⟨j,rfl,h1,h2,q⟩
theorem rd_irng2 {ta:TA} {R:It->Hp->Prop} (h:ta σ H fun vs H1=>∃ i j:Int,vs=[.int i,.int j]/\(-(2 ^ 62)≤i/\i < 2 ^ 62/\-(2 ^ 62)≤j/\j < 2 ^ 62)/\R (Itr i (j - i).toNat) H1):iRng2 ta σ H R:=h
theorem rd_ir2 {i j:Int} {R:Int->Int->Prop} (h:-(2 ^ 62)≤i/\i < 2 ^ 62/\-(2 ^ 62)≤j/\j < 2 ^ 62) (q:R i j):∃ i' j':Int,[V.int i,V.int j]=[.int i',.int j']/\(-(2 ^ 62)≤i'/\i' < 2 ^ 62/\-(2 ^ 62)≤j'/\j' < 2 ^ 62)/\R i' j':=⟨i,j,rfl,h,q⟩
theorem rd_izip {ta:TA} {R:It->Hp->Prop} (h:ta σ H fun vs H1=>∃ a b,vs=[.ref a,.ref b]/\(∃ xs,SqL K H1 a xs)/\(∃ ys,SqL K H1 b ys)/\R (Itz K a b) H1):iZip K ta σ H R:=h
theorem rd_iz {a b:Addr} {xs ys:List V} {R:Addr->Addr->Prop} (h1:SqL K H a xs) (h2:SqL K H b ys) (q:R a b):∃ a' b',[V.ref a,V.ref b]=[.ref a',.ref b']/\(∃ xs,SqL K H a' xs)/\(∃ ys,SqL K H b' ys)/\R a' b':=⟨a,b,rfl,⟨xs,h1⟩,⟨ys,h2⟩,q⟩
end
section
variable {σ:St} {H:Hp} {Q:VK} {D:Ends} {K:PySem.W.Frag}
theorem rd_ixLn {n:Nat} {p:Addr} {xs:List V} {v:V} (h:SqL K H p xs) (e:atI xs (@OfNat.ofNat Int n instOfNat)=some v) (q:Q v H):rIxL K (.ref p) (.int (@OfNat.ofNat Int n instOfNat)) H Q:=rd_ixL h e q
theorem rd_ixTn {n:Nat} {p:Addr} {xs:List V} {v:V} (h:SqT K H p xs) (e:atI xs (@OfNat.ofNat Int n instOfNat)=some v) (q:Q v H):rIxT K (.ref p) (.int (@OfNat.ofNat Int n instOfNat)) H Q:=rd_ixT h e q
theorem rd_dget {td ty:TE} (h:td σ H fun x H1=>ty σ H1 fun y H2=>∃ a v,x=.ref a/\DGet H2 a y (some v)/\Q v H2):tDGet td ty σ H Q:=h
theorem rd_str {z:Str} {i:Int} {c:Nat} (l:z.length≤sizeLine) (e:atI z.cps.toList i=some c) (q:Q (.str ⟨#[c]⟩) H):rIxS (.str z) (.int i) H Q:=⟨z,i,c,rfl,rfl,l,e,q⟩
end
theorem Fun.okQ {P:Program} {w:World} {K:PySem.W.Frag} {mg:Str->Option Value} {base:Heap} {x qual:Str} {st:Stmt} {f:Addr} {fd:FuncData} {N ps:List Str} {k:Nat} {sp:Sp} (F:Fun K x qual st f fd) (S:FnScope N ps (defScope st)) (len:∀ vs H Q E,sp vs H Q E->vs.length=ps.length)
  (hbody:∀ (cdv:Value) (A:Around) (outer:List Env) (s:Shared) (H:Hp) (vs:List V) (Q:VK) (E:XK),Room k (A.deeper (envOfC qual (defScope st) s.heap.objs.size f cdv))->sp vs H Q E ->
   ∃ t,QSs (cxOf CX0 P w K mg base N qual (defScope st) f cdv A outer s H E).nox (defBody st) t/\t { nx:=fun _ H'=>Q .non H',rt:=Q } (start N vs) H):FnOk P w K mg base CX0 (k+1) f fd ps sp :=
 F.ok S len fun cdv A outer s H vs Q E hr h=>let ⟨t,a,b⟩:=hbody cdv A outer s H vs Q E hr h;⟨t,a.r,b⟩
end L2
namespace Pc
open PySem L2 Srt
theorem int_mk {K:PySem.W.Frag} {h:Heap} {mg:Str->Option Value} {x:Str} {n:Int} {t:Tok} (X:K.In h) (G:h.Ns mainGlobals mg) (m:PySem.W.nsIn K mainGlobals x=some (some (.int n t))):∃ t,mg x=some (.int n t):=⟨t,PySem.W.mg_of X G m⟩
noncomputable def spAlong (K:PySem.W.Frag):Sp:=fun vs H Q _=>∃ (a:Addr) (ax:Ax) (c:C3),vs=[.ref a,.str ax.s]/\SqT K H a c.v/\Q (.int (ax.at c)) H
noncomputable def spPlaced (K:PySem.W.Frag):Sp:=fun vs H Q _=>∃ (a:Addr) (ax:Ax) (c:C3) (v:Int),vs=[.ref a,.str ax.s,.int v]/\SqT K H a c.v/\∀ p H',Same H H'->H' p=some (.tup (ax.put v c).v)->Q (.ref p) H'
noncomputable def spNext (K:PySem.W.Frag):Sp:=fun vs H Q _=>∃ (a:Addr) (w:Wy) (c:C3),vs=[.ref a,.str w.s]/\SqT K H a c.v/\∀ p H',Same H H'->H' p=some (.tup (w.next c).v)->Q (.ref p) H'
noncomputable def spWhole:Sp:=fun vs H Q _=>∃ x,vs=[x]/\smp x=true/\Q (.bl (whole x)) H
noncomputable def spNear:Sp:=fun vs H Q _=>∃ x,vs=[x]/\smp x=true/\Q (.bl (nearV x)) H
noncomputable def spCell (K:PySem.W.Frag):Sp:=fun vs H Q _=>∃ x,vs=[x]/\((∃ (a:Addr) (xs:List V),x=.ref a/\H a=some (.tup xs)/\xs.all smp=true/\xs.length≤4/\∀ H',Same H H'->Q (.bl (decide (xs.length=3)&&xs.all nearV)) H')\/(NoTup K H x/\Q (.bl false) H))
noncomputable def Made (H:Hp) (p:Addr) (ps:Prs):Prop:=H p=some (.lst (refs ps))/\∀ q∈ps,H q.1=some (.tup (q.2.map V.int))
theorem Made.tps {K:PySem.W.Frag} {H:Hp} {p:Addr} {ps:Prs} (m:Made H p ps):Tps K H ps:=fun q hq=>SqT.of (m.2 q hq)
noncomputable def spNb (K:PySem.W.Frag):Sp:=fun vs H Q _=>∃ (a:Addr) (c:C3),vs=[.ref a]/\SqT K H a c.v/\∀ p ps H',Same H H'->Made H' p ps->H p=none->ps.map (·.2)=nbs c->Q (.ref p) H'
noncomputable def spCellAt (K:PySem.W.Frag):Sp:=fun vs H Q _=>∃ (a:Addr) (ns:List Int) (k:Int),vs=[.ref a,.int k]/\SqL K H a (ns.map V.int)/\0≤k/\∀ n:Int,Q (.int n) H
end Pc
namespace Tim
open PySem PyProof.Rows
noncomputable def gallop':Bool->Keyed->Array Keyed->Nat->Nat->Nat->StateT SortSt Sem (Option Nat):=sortPriv% PySem.Builtin.gallop
noncomputable def beyond' (left:Bool) (key:Keyed) (arr:Array Keyed) (base i:Nat):StateT SortSt Sem (Option Bool):=do
 let x ←elem' arr (base+i)
 if left then lt' x key else return (←lt' key x).map (!·)
theorem gallop'_eq (left:Bool) (key:Keyed) (arr:Array Keyed) (base n hint:Nat):gallop' left key arr base n hint=(do
 let mut lastofs:=0
 let mut ofs:=1
 let mut lo:=0
 let mut hi:=0
 let some right ←beyond' left key arr base hint | return none
 if right then
  let maxofs:=n - hint
  for _ in [0:n] do
   if ofs ≥ maxofs then break
   let some more ←beyond' left key arr base (hint+ofs) | return none
   if !more then break
   lastofs:=ofs
   ofs:=2 * ofs+1
  lo:=hint+lastofs+1
  hi:=hint+min ofs maxofs
 else
  let maxofs:=hint+1
  for _ in [0:n] do
   if ofs ≥ maxofs then break
   let some found ←beyond' left key arr base (hint - ofs) | return none
   if found then break
   lastofs:=ofs
   ofs:=2 * ofs+1
  lo:=hint+1 - min ofs maxofs
  hi:=hint - lastofs
 for _ in [0:n] do
  if lo ≥ hi then break
  let m:=lo+(hi - lo) / 2
  let some more ←beyond' left key arr base m | return none
  if more then lo:=m+1 else hi:=m
 return some hi):=rfl
section
variable {prog:Program} {w:World} {A:Around} {E:Value->Shared->Prop} {s:Shared}
noncomputable def gal3 (left:Bool) (key:Keyed) (arr:Array Keyed) (base n lo hi:Nat):StateT SortSt Sem (Option Nat):=do
 let mut lo:=lo
 let mut hi:=hi
 for _ in [0:n] do
  if lo ≥ hi then break
  let m:=lo+(hi - lo) / 2
  let some more ←beyond' left key arr base m | return none
  if more then lo:=m+1 else hi:=m
 return some hi
theorem wpS_gal3 {left:Bool} {key:Keyed} {arr:Array Keyed} {base n lo hi p:Nat} {st:SortSt} {Q:Option Nat->SortSt->Prop} (hp:p≤n) (hb:∀ i,i < n->∀ {R:Option Bool->SortSt->Prop},R (some (decide (i < p))) st->wpS (model prog w) A E s (beyond' left key arr base i) R st)
  (h1:lo≤p) (h2:p≤hi) (h3:hi≤n) (h:Q (some p) st):wpS (model prog w) A E s (gal3 left key arr base n lo hi) Q st:=by
 unfold gal3
 refine wpS_bind (wpS_mono (wpS_forRange (I:=fun t c st'=>st'=st/\∃ lo hi,c=(none,lo,hi)/\lo≤p/\p≤hi/\hi≤n/\hi - lo≤n - t)
  (Q:=fun c st'=>st'=st/\∃ lo,c=(none,lo,p)) ?step ?fin ?init) ?post)
 case init=>exact ⟨rfl,lo,hi,rfl,h1,h2,h3,by lia⟩
 case fin =>
  rintro c st' ⟨rfl,lo,hi,rfl,a,b,c',d⟩
  have e1:hi=p:=by lia
  exact ⟨rfl,lo,by rw [e1]⟩
 case post =>
  rintro c st' ⟨rfl,lo,rfl⟩
  exact wpS_pure h
 case step =>
  rintro t c st' _ ht ⟨rfl,lo,hi,rfl,a,b,c',d⟩
  dsimp only
  by_cases hge:lo ≥ hi
  ·rw [if_pos hge]
   have e1:hi=p:=by lia
   exact wpS_pure ⟨rfl,lo,by rw [e1]⟩
  ·rw [if_neg hge]
   refine wpS_bind (hb _ (by lia) ?_)
   by_cases hm:lo+(hi - lo) / 2 < p
   ·rw [decide_eq_true hm]
    simp only [if_true]
    exact wpS_pure ⟨rfl,_,_,rfl,by lia,by omega,by omega,by lia⟩
   ·rw [decide_eq_false hm]
    simp only [Bool.false_eq_true,if_false]
    exact wpS_pure ⟨rfl,_,_,rfl,by omega,by lia,by lia,by lia⟩
theorem wpS_gallop {left:Bool} {key:Keyed} {arr:Array Keyed} {base n hint p:Nat} {st:SortSt} {Q:Option Nat->SortSt->Prop} (hp:p≤n) (hh:hint < n) (hb:∀ i,i < n->∀ {R:Option Bool->SortSt->Prop},R (some (decide (i < p))) st->wpS (model prog w) A E s (beyond' left key arr base i) R st)
  (h:Q (some p) st):wpS (model prog w) A E s (gallop' left key arr base n hint) Q st:=by
 rw [gallop'_eq]
 refine wpS_bind (hb hint hh ?_)
 by_cases hr:hint < p
 ·rw [decide_eq_true hr]
  simp only [if_true]
  refine wpS_bind (wpS_mono (wpS_forRange (I:=fun t c st'=>st'=st/\∃ lastofs ofs,c=(none,lastofs,ofs)/\hint+lastofs < p/\lastofs < ofs/\t < ofs)
   (Q:=fun c st'=>st'=st/\∃ lastofs ofs,c=(none,lastofs,ofs)/\hint+lastofs < p/\p≤hint+min ofs (n - hint)) ?step ?fin ?init) ?post)
  case init=>exact ⟨rfl,0,1,rfl,by omega,by lia,by lia⟩
  case fin =>
   rintro c st' ⟨rfl,l,o,rfl,a,b,c'⟩
   exact ⟨rfl,l,o,rfl,a,by lia⟩
  case step =>
   rintro t c st' _ ht ⟨rfl,l,o,rfl,a,b,c'⟩
   dsimp only
   by_cases hge:o ≥ n - hint
   ·rw [if_pos hge]
    exact wpS_pure ⟨rfl,l,o,rfl,a,by lia⟩
   ·rw [if_neg hge]
    refine wpS_bind (hb _ (by lia) ?_)
    by_cases hm:hint+o < p
    ·rw [decide_eq_true hm]
     simp only [Bool.not_true,Bool.false_eq_true,if_false]
     exact wpS_pure ⟨rfl,_,_,rfl,by omega,by lia,by lia⟩
    ·rw [decide_eq_false hm]
     simp only [Bool.not_false,if_true]
     exact wpS_pure ⟨rfl,l,o,rfl,a,by lia⟩
  case post =>
   rintro c st' ⟨rfl,l,o,rfl,a,b⟩
   dsimp only
   exact wpS_gal3 hp hb (by lia) b (by lia) h
 ·rw [decide_eq_false hr]
  simp only [Bool.false_eq_true,if_false]
  refine wpS_bind (wpS_mono (wpS_forRange (I:=fun t c st'=>st'=st/\∃ lastofs ofs,c=(none,lastofs,ofs)/\p≤hint - lastofs/\lastofs < ofs/\t < ofs/\lastofs≤hint)
   (Q:=fun c st'=>st'=st/\∃ lastofs ofs,c=(none,lastofs,ofs)/\p≤hint - lastofs/\hint+1 - min ofs (hint+1)≤p) ?step ?fin ?init) ?post)
  case init=>exact ⟨rfl,0,1,rfl,by lia,by lia,by lia,by lia⟩
  case fin =>
   rintro c st' ⟨rfl,l,o,rfl,a,b,c',d⟩
   exact ⟨rfl,l,o,rfl,a,by lia⟩
  case step =>
   rintro t c st' _ ht ⟨rfl,l,o,rfl,a,b,c',d⟩
   dsimp only
   by_cases hge:o ≥ hint+1
   ·rw [if_pos hge]
    exact wpS_pure ⟨rfl,l,o,rfl,a,by lia⟩
   ·rw [if_neg hge]
    refine wpS_bind (hb _ (by lia) ?_)
    by_cases hm:hint - o < p
    ·rw [decide_eq_true hm]
     simp only [if_true]
     exact wpS_pure ⟨rfl,l,o,rfl,a,by lia⟩
    ·rw [decide_eq_false hm]
     simp only [Bool.false_eq_true,if_false]
     exact wpS_pure ⟨rfl,_,_,rfl,by lia,by lia,by lia,by lia⟩
  case post =>
   rintro c st' ⟨rfl,l,o,rfl,a,b⟩
   dsimp only
   exact wpS_gal3 hp hb b (by omega) (by lia) h
end
section lists
variable {α:Type} {R:α->α->Prop}
structure MI (R:α->α->Prop) (A B O:List α) (i j:Nat):Prop where
 perm:O.Perm (A.take i ++ B.take j)
 srt:O.Pairwise R
 la:∀ x∈O,∀ y∈A.drop i,R x y
 lb:∀ x∈O,∀ y∈B.drop j,R x y
theorem MI.swap {A B O:List α} {i j:Nat} (m:MI R A B O i j):MI R B A O j i:=⟨m.perm.trans List.perm_append_comm,m.srt,m.lb,m.la⟩
theorem pw_drop {A:List α} (h:A.Pairwise R) (i k:Nat):∀ x∈(A.drop i).take k,∀ y∈A.drop (i+k),R x y:=by
 have h1:(A.drop i).Pairwise R:=h.sublist (List.drop_sublist _ _)
 rw [←List.take_append_drop k (A.drop i)] at h1
 have:=(List.pairwise_append.mp h1).2.2
 intro x hx y hy
 exact this x hx y (by rw [List.drop_drop];exact hy)
theorem MI.addA {A B O:List α} {i j:Nat} (m:MI R A B O i j) (hA:A.Pairwise R) (k:Nat) (h:∀ x∈(A.drop i).take k,∀ y∈B.drop j,R x y):MI R A B (O ++ (A.drop i).take k) (i+k) j where
 perm:=by
  have e:A.take (i+k)=A.take i ++ (A.drop i).take k:=by rw [List.take_add]
  rw [e]
  refine (m.perm.append_right _).trans ?_
  rw [List.append_assoc,List.append_assoc]
  exact List.Perm.append_left _ List.perm_append_comm
 srt:=List.pairwise_append.mpr ⟨m.srt,(hA.sublist (List.drop_sublist _ _)).sublist (List.take_sublist _ _),fun x hx y hy=>m.la x hx y (List.mem_of_mem_take hy)⟩
 la:=fun x hx y hy=>by
  rcases List.mem_append.mp hx with hx | hx
  ·refine m.la x hx y ?_
   rw [←List.drop_drop] at hy
   exact List.mem_of_mem_drop hy
  ·exact pw_drop hA i k x hx y hy
 lb:=fun x hx y hy=>by
  rcases List.mem_append.mp hx with hx | hx
  ·exact m.lb x hx y hy
  ·exact h x hx y hy
theorem MI.addB {A B O:List α} {i j:Nat} (m:MI R A B O i j) (hB:B.Pairwise R) (k:Nat) (h:∀ x∈(B.drop j).take k,∀ y∈A.drop i,R x y):MI R A B (O ++ (B.drop j).take k) i (j+k):=(m.swap.addA hB k h).swap
theorem MI.fin {A B O:List α} {i j:Nat} (m:MI R A B O i j) (hA:A.Pairwise R) (hB:B.Pairwise R) (h:∀ x∈A.drop i,∀ y∈B.drop j,R x y):(O ++ A.drop i ++ B.drop j).Perm (A ++ B)/\(O ++ A.drop i ++ B.drop j).Pairwise R:=by
 have m2:=m.addA hA (A.length - i) (fun x hx=>h x (List.mem_of_mem_take hx))
 have e:(A.drop i).take (A.length - i)=A.drop i:=List.take_of_length_le (by rw [List.length_drop];exact Nat.le_refl _)
 rw [e] at m2
 have d:A.drop (i+(A.length - i))=[]:=List.drop_of_length_le (by lia)
 have m3:=m2.addB hB (B.length - j) (fun x hx y hy=>by rw [d] at hy;cases hy)
 have e2:(B.drop j).take (B.length - j)=B.drop j:=List.take_of_length_le (by rw [List.length_drop];exact Nat.le_refl _)
 rw [e2] at m3
 refine ⟨?_,m3.srt⟩
 have:=m3.perm
 rwa [List.take_of_length_le (show A.length≤i+(A.length - i) by lia),List.take_of_length_le (show B.length≤j+(B.length - j) by lia)] at this
theorem take_one {A:List α} {i:Nat} {x:α} (h:A[i]?=some x):(A.drop i).take 1=[x]:=by
 obtain ⟨hi,e⟩:=List.getElem?_eq_some_iff.mp h
 rw [List.drop_eq_getElem_cons hi,e]
 rfl
theorem drop_cons {A:List α} {i:Nat} {x:α} (h:A[i]?=some x):A.drop i=x :: A.drop (i+1):=by
 obtain ⟨hi,e⟩:=List.getElem?_eq_some_iff.mp h
 rw [List.drop_eq_getElem_cons hi,e]
theorem pw_head {A:List α} (h:A.Pairwise R) {i:Nat} {x:α} (e:A[i]?=some x):∀ y∈A.drop (i+1),R x y:=by
 have h1:(A.drop i).Pairwise R:=h.sublist (List.drop_sublist _ _)
 rw [drop_cons e] at h1
 exact (List.pairwise_cons.mp h1).1
theorem turn_at:∀ (n:Nat) (f:Nat->Bool),(∀ i j,i≤j->j < n->f j=true->f i=true)->∃ p,p≤n/\∀ i,i < n->f i=decide (i < p)
 | 0,f,_=>⟨0,Nat.le_refl _,fun i hi=>absurd hi (Nat.not_lt_zero _)⟩
 | n+1,f,h=>by
  obtain ⟨p,hp,e⟩:=turn_at n f fun i j a b=>h i j a (by lia)
  cases hf:f n with
  | true =>
   refine ⟨n+1,Nat.le_refl _,fun i hi=>?_⟩
   rw [h i n (by lia) (by lia) hf,decide_eq_true hi]
  | false =>
   refine ⟨p,by lia,fun i hi=>?_⟩
   rcases Nat.lt_or_ge i n with z | z
   ·exact e i z
   ·obtain rfl:i=n:=by lia
    rw [hf,decide_eq_false (by lia)]
end lists
theorem ext_list (a:Array Keyed) (i j:Nat):(a.extract i j).toList=(a.toList.drop i).take (j - i):=by
 rw [Array.toList_extract,List.extract_eq_take_drop]
theorem ext_rest (a:Array Keyed) (i:Nat):(a.extract i a.size).toList=a.toList.drop i:=by
 rw [ext_list,List.take_of_length_le (by rw [List.length_drop,Array.length_toList];exact Nat.le_refl _)]
structure Cmp {κ:Type} (lt:κ->κ->Bool) (k:Keyed->κ) (S:Keyed->Prop) (kind:SortKind) (prog:Program) (w:World) (A:Around) (s:Shared):Prop where
 ord:Srt.Ordr lt
 ask:∀ x y:Keyed,S x->S y->∀ {Q:Bool->Shared->Prop} {E:Value->Shared->Prop},Q (lt (k x) (k y)) s->wpAny (model prog w) A (keyLt' kind x.1 y.1) Q E s
section
variable {κ:Type} {lt:κ->κ->Bool} {k:Keyed->κ} {S:Keyed->Prop} {kind:SortKind} {prog:Program} {w:World} {A:Around} {E:Value->Shared->Prop} {s:Shared}
noncomputable def Le (lt:κ->κ->Bool) (k:Keyed->κ) (x y:Keyed):Prop:=lt (k y) (k x)=false
structure Fine (kind:SortKind) (st:SortSt):Prop where
 kd:kindOf st=kind
 fl:failedOf st=none
theorem le_trans (C:Cmp lt k S kind prog w A s) {x y z:Keyed} (h1:Le lt k x y) (h2:Le lt k y z):Le lt k x z:=C.ord.tr _ _ _ h1 h2
theorem le_of_lt (C:Cmp lt k S kind prog w A s) {x y:Keyed} (h:lt (k x) (k y)=true):Le lt k x y:=C.ord.as _ _ h
theorem wpS_lt {x y:Keyed} {st:SortSt} {Q:Option Bool->SortSt->Prop} (C:Cmp lt k S kind prog w A s) (F:Fine kind st) (hx:S x) (hy:S y) (h:Q (some (lt (k x) (k y))) st):wpS (model prog w) A E s (lt' x y) Q st:=by
 rw [lt'_eq]
 refine wpS_bind (wpS_get ?_)
 rw [F.kd]
 refine wpS_bind (wpS_lift (wpAny_attempt (C.ask x y hx hy ⟨rfl,?_⟩)))
 exact wpS_pure h
theorem wpS_elem {arr:Array Keyed} {i:Nat} {x:Keyed} {st:SortSt} {Q:Keyed->SortSt->Prop} (h:arr.toList[i]?=some x) (q:Q x st):wpS (model prog w) A E s (elem' arr i) Q st:=by
 rw [elem'_eq]
 rw [Array.getElem?_toList] at h
 rw [h]
 exact wpS_pure q
theorem wpS_gal {left:Bool} {key:Keyed} {arr:Array Keyed} {base n hint:Nat} {st:SortSt} {Q:Option Nat->SortSt->Prop} (C:Cmp lt k S kind prog w A s) (F:Fine kind st) (hk:S key) (hS:∀ x∈arr.toList,S x) (hn:base+n≤arr.size) (hh:hint < n)
  (hs:((arr.toList.drop base).take n).Pairwise (Le lt k))
  (h:∀ p,p≤n->(∀ x∈((arr.toList.drop base).take n).take p,if left=true then lt (k x) (k key)=true else Le lt k x key)->(∀ x∈((arr.toList.drop base).take n).drop p,if left=true then Le lt k key x else lt (k key) (k x)=true)->Q (some p) st) :
  wpS (model prog w) A E s (gallop' left key arr base n hint) Q st:=by
 have hlen:((arr.toList.drop base).take n).length=n:=by rw [List.length_take,List.length_drop,Array.length_toList];lia
 generalize hZ:(arr.toList.drop base).take n=Z at hs h hlen
 have at_:∀ i,i < n->arr.toList[base+i]?=Z[i]?:=fun i hi=>by
  rw [←hZ,List.getElem?_take_of_lt hi,List.getElem?_drop]
 let f:Nat->Bool:=fun i=>match Z[i]? with
  | some x=>if left then lt (k x) (k key) else !lt (k key) (k x)
  | none=>false
 have fval:∀ i x,Z[i]?=some x->f i=if left then lt (k x) (k key) else !lt (k key) (k x):=fun i x e=>by
  show (match Z[i]? with | some x=>if left then lt (k x) (k key) else !lt (k key) (k x) | none=>false)=_
  rw [e]
 have mono:∀ i j,i≤j->j < n->f j=true->f i=true:=fun i j hij hj hf=>by
  have ei:Z[i]?=some Z[i]:=List.getElem?_eq_getElem (by omega)
  have ej:Z[j]?=some Z[j]:=List.getElem?_eq_getElem (by omega)
  rw [fval j _ ej] at hf
  rw [fval i _ ei]
  rcases Nat.lt_or_ge i j with z | z
  ·have hle:Le lt k Z[i] Z[j]:=(List.pairwise_iff_getElem.mp hs) i j (by omega) (by omega) z
   cases left with
   | true =>
    simp only [if_true] at hf ⊢
    cases e:lt (k Z[i]) (k key) with
    | true=>rfl
    | false =>
     have:=C.ord.tr _ _ _ e hle
     rw [hf] at this
     cases this
   | false =>
    simp only [Bool.false_eq_true,if_false,Bool.not_eq_true'] at hf ⊢
    exact C.ord.tr _ _ _ hle hf
  ·obtain rfl:i=j:=by lia
   exact hf
 obtain ⟨p,hp,hpe⟩:=turn_at n f mono
 refine wpS_gallop hp hh (fun i hi R hR=>?_) (h p hp ?_ ?_)
 ·have ei:Z[i]?=some Z[i]:=List.getElem?_eq_getElem (by omega)
  have sub:∀ x∈Z,x∈arr.toList:=fun x hx=>by
   rw [←hZ] at hx
   exact List.mem_of_mem_drop (List.mem_of_mem_take hx)
  have mem:Z[i]∈arr.toList:=sub _ (List.getElem_mem _)
  rw [←hpe i hi,fval i _ ei] at hR
  unfold beyond'
  refine wpS_bind (wpS_elem ((at_ i hi).trans ei) ?_)
  cases left with
  | true =>
   simp only [if_true] at hR ⊢
   exact wpS_lt C F (hS _ mem) hk hR
  | false =>
   simp only [Bool.false_eq_true,if_false] at hR ⊢
   exact wpS_bind (wpS_lt C F hk (hS _ mem) (wpS_pure hR))
 ·intro x hx
  obtain ⟨i,hi,e⟩:=List.getElem_of_mem hx
  have hip:i < p:=by rw [List.length_take] at hi;lia
  rw [List.getElem_take] at e
  have ei:Z[i]?=some x:=by rw [List.getElem?_eq_getElem (by lia),e]
  have:=hpe i (by lia)
  rw [fval i _ ei,decide_eq_true hip] at this
  cases left with
  | true=>simpa using this
  | false=>simpa [Le] using this
 ·intro x hx
  obtain ⟨i,hi,e⟩:=List.getElem_of_mem hx
  rw [List.length_drop] at hi
  rw [List.getElem_drop] at e
  have ei:Z[p+i]?=some x:=by rw [List.getElem?_eq_getElem (by lia),e]
  have:=hpe (p+i) (by lia)
  rw [fval (p+i) _ ei,decide_eq_false (by lia)] at this
  cases left with
  | true=>simpa [Le] using this
  | false=>simpa using this
end
noncomputable def mergeLo':Array Keyed->Array Keyed->StateT SortSt Sem (Array Keyed):=sortPriv% PySem.Builtin.mergeLo
noncomputable def setMinGallop' (g:Nat):StateT SortSt Sem Unit:=modify fun s=>SortSt.mk' (kindOf s) (arrOf s) (pendingOf s) g (failedOf s)
theorem mergeLo'_eq (a b:Array Keyed):mergeLo' a b=(do
 rule "list.sort.merge-lo"
 let total:=a.size+b.size
 let done (out:Array Keyed) (ia ib:Nat):=out ++ a.extract ia a.size ++ b.extract ib b.size
 let lastOfA (out:Array Keyed) (ia ib:Nat):=out ++ b.extract ib b.size ++ a.extract ia a.size
 let mut out:Array Keyed:=#[←elem' b 0]
 let mut ia:=0
 let mut ib:=1
 if ib==b.size then return done out ia ib
 if ia+1==a.size then return lastOfA out ia ib
 let mut minGallop:=gallopOf (←get)
 for _ in [0:total] do
  let mut acount:=0
  let mut bcount:=0
  for _ in [0:total] do
   let some bWins ←lt' (←elem' b ib) (←elem' a ia) | return done out ia ib
   if bWins then
    out:=out.push (←elem' b ib);ib:=ib+1;bcount:=bcount+1;acount:=0
    if ib==b.size then return done out ia ib
    if bcount ≥ minGallop then break
   else
    out:=out.push (←elem' a ia);ia:=ia+1;acount:=acount+1;bcount:=0
    if ia+1==a.size then return lastOfA out ia ib
    if acount ≥ minGallop then break
  rule "list.sort.gallop"
  minGallop:=minGallop+1
  for _ in [0:total] do
   if minGallop > 1 then minGallop:=minGallop - 1
   setMinGallop' minGallop
   let some k ←gallop' false (←elem' b ib) a ia (a.size - ia) 0 | return done out ia ib
   acount:=k
   if k > 0 then
    out:=out ++ a.extract ia (ia+k);ia:=ia+k
    if ia+1==a.size then return lastOfA out ia ib
    if ia==a.size then return done out ia ib
   out:=out.push (←elem' b ib);ib:=ib+1
   if ib==b.size then return done out ia ib
   let some k ←gallop' true (←elem' a ia) b ib (b.size - ib) 0 | return done out ia ib
   bcount:=k
   if k > 0 then
    out:=out ++ b.extract ib (ib+k);ib:=ib+k
    if ib==b.size then return done out ia ib
   out:=out.push (←elem' a ia);ia:=ia+1
   if ia+1==a.size then return lastOfA out ia ib
   if acount < 7&&bcount < 7 then break
  minGallop:=minGallop+1
  setMinGallop' minGallop
 unsupported "internal:list.sort.merge-bound"):=rfl
section
variable {κ:Type} {lt:κ->κ->Bool} {k:Keyed->κ} {S:Keyed->Prop} {kind:SortKind} {prog:Program} {w:World} {A:Around} {E:Value->Shared->Prop} {s:Shared}
structure St0 (kind:SortKind) (st st':SortSt):Prop where
 ar:arrOf st'=arrOf st
 pd:pendingOf st'=pendingOf st
 fine:Fine kind st'
theorem St0.gal {st st':SortSt} (h:St0 kind st st') (g:Nat):St0 kind st (SortSt.mk' (kindOf st') (arrOf st') (pendingOf st') g (failedOf st')):=⟨h.ar,h.pd,⟨h.fine.kd,h.fine.fl⟩⟩
noncomputable def Good (lt:κ->κ->Bool) (k:Keyed->κ) (a b r:Array Keyed):Prop:=r.toList.Perm (a.toList ++ b.toList)/\r.toList.Pairwise (Le lt k)
theorem good_done {a b out:Array Keyed} {ia ib:Nat} (m:MI (Le lt k) a.toList b.toList out.toList ia ib) (ha:a.toList.Pairwise (Le lt k)) (hb:b.toList.Pairwise (Le lt k)) (h:ia=a.size\/ib=b.size):Good lt k a b (out ++ a.extract ia a.size ++ b.extract ib b.size):=by
 unfold Good
 rw [Array.toList_append,Array.toList_append,ext_rest,ext_rest]
 refine m.fin ha hb fun x hx y hy=>?_
 rcases h with h | h
 ·rw [h,List.drop_of_length_le (by rw [Array.length_toList];exact Nat.le_refl _)] at hx;cases hx
 ·rw [h,List.drop_of_length_le (by rw [Array.length_toList];exact Nat.le_refl _)] at hy;cases hy
theorem good_lastA {a b out:Array Keyed} {ia ib:Nat} (m:MI (Le lt k) a.toList b.toList out.toList ia ib) (ha:a.toList.Pairwise (Le lt k)) (hb:b.toList.Pairwise (Le lt k)) (h:ia+1=a.size) (hl:∀ x∈b.toList,∀ y,a.toList[a.size - 1]?=some y->Le lt k x y) :
  Good lt k a b (out ++ b.extract ib b.size ++ a.extract ia a.size):=by
 unfold Good
 rw [Array.toList_append,Array.toList_append,ext_rest,ext_rest]
 obtain ⟨p,q⟩:=m.swap.fin hb ha fun x hx y hy=>by
  refine hl x (List.mem_of_mem_drop hx) y ?_
  obtain ⟨i,hi,e⟩:=List.getElem_of_mem hy
  rw [List.length_drop,Array.length_toList] at hi
  rw [List.getElem_drop] at e
  have:a.size - 1=ia+i:=by lia
  rw [this,List.getElem?_eq_getElem (by rw [Array.length_toList];lia),e]
 exact ⟨p.trans List.perm_append_comm,q⟩
theorem wpS_ite {α:Type} {c:Prop} [Decidable c] {m1 m2:StateT SortSt Sem α} {Q:α->SortSt->Prop} {st:SortSt} (h1:wpS (model prog w) A E s m1 Q st) (h2:wpS (model prog w) A E s m2 Q st):wpS (model prog w) A E s (if c then m1 else m2) Q st:=by
 by_cases h:c
 ·rw [if_pos h];exact h1
 ·rw [if_neg h];exact h2
theorem push_list (out:Array Keyed) (x:Keyed):(out.push x).toList=out.toList ++ [x]:=Array.toList_push
theorem MI.pushA {a b out:Array Keyed} {ia ib:Nat} {x:Keyed} (m:MI (Le lt k) a.toList b.toList out.toList ia ib) (ha:a.toList.Pairwise (Le lt k)) (e:a.toList[ia]?=some x) (h:∀ y∈b.toList.drop ib,Le lt k x y):MI (Le lt k) a.toList b.toList (out.push x).toList (ia+1) ib:=by
 rw [push_list,←take_one e]
 exact m.addA ha 1 fun z hz=>by
  rw [take_one e] at hz
  obtain rfl:z=x:=by simpa using hz
  exact h
theorem MI.pushB {a b out:Array Keyed} {ia ib:Nat} {x:Keyed} (m:MI (Le lt k) a.toList b.toList out.toList ia ib) (hb:b.toList.Pairwise (Le lt k)) (e:b.toList[ib]?=some x) (h:∀ y∈a.toList.drop ia,Le lt k x y):MI (Le lt k) a.toList b.toList (out.push x).toList ia (ib+1):=by
 rw [push_list,←take_one e]
 exact m.addB hb 1 fun z hz=>by
  rw [take_one e] at hz
  obtain rfl:z=x:=by simpa using hz
  exact h
theorem le_all (C:Cmp lt k S kind prog w A s) {L:List Keyed} (h:L.Pairwise (Le lt k)) {i:Nat} {x y:Keyed} (e:L[i]?=some y) (hxy:Le lt k x y):∀ z∈L.drop i,Le lt k x z:=fun z hz=>by
 rw [drop_cons e] at hz
 rcases List.mem_cons.mp hz with rfl | hz
 ·exact hxy
 ·exact le_trans C hxy (pw_head h e z hz)
theorem wpS_mergeLo {a b:Array Keyed} {st:SortSt} {Q:Array Keyed->SortSt->Prop} (C:Cmp lt k S kind prog w A s) (F:Fine kind st) (hSa:∀ x∈a.toList,S x) (hSb:∀ x∈b.toList,S x) (ha:a.toList.Pairwise (Le lt k)) (hb:b.toList.Pairwise (Le lt k)) (a1:1≤a.size) (b1:1≤b.size)
  (hfirst:∀ x y,b.toList[0]?=some x->a.toList[0]?=some y->Le lt k x y) (hl:∀ x∈b.toList,∀ y,a.toList[a.size - 1]?=some y->Le lt k x y)
  (h:∀ r st',St0 kind st st'->Good lt k a b r->Q r st'):wpS (model prog w) A E s (mergeLo' a b) Q st:=by
 have la:a.toList.length=a.size:=Array.length_toList
 have lb:b.toList.length=b.size:=Array.length_toList
 have getA:∀ i,i < a.size->∃ x,a.toList[i]?=some x/\S x:=fun i hi=>⟨_,List.getElem?_eq_getElem (by omega),hSa _ (List.getElem_mem (by omega))⟩
 have getB:∀ i,i < b.size->∃ x,b.toList[i]?=some x/\S x:=fun i hi=>⟨_,List.getElem?_eq_getElem (by omega),hSb _ (List.getElem_mem (by omega))⟩
 have refl0:St0 kind st st:=⟨rfl,rfl,F⟩
 rw [mergeLo'_eq]
 refine wpS_bind (wpS_lift (wpAny_rule ⟨rfl,?_⟩))
 obtain ⟨x0,ex0,sx0⟩:=getB 0 (by lia)
 obtain ⟨y0,ey0,sy0⟩:=getA 0 (by lia)
 refine wpS_bind (wpS_elem ex0 ?_)
 dsimp only
 have m0:MI (Le lt k) a.toList b.toList (#[x0]:Array Keyed).toList 0 1:=by
  have:=(MI.mk (R:=Le lt k) (A:=a.toList) (B:=b.toList) (O:=[]) (i:=0) (j:=0) (by simp) .nil (fun _ h=>nomatch h) (fun _ h=>nomatch h)).addB hb 1 (fun z hz=>by
   rw [take_one ex0] at hz
   obtain rfl:z=x0:=by simpa using hz
   exact le_all C ha ey0 (hfirst _ _ ex0 ey0))
  rw [take_one ex0] at this
  exact this
 by_cases c1:1=b.size
 ·rw [if_pos (by simpa using c1)]
  exact wpS_pure (h _ _ refl0 (good_done m0 ha hb (.inr c1)))
 rw [if_neg (by simpa using c1)]
 by_cases c2:0+1=a.size
 ·rw [if_pos (by simpa using c2)]
  exact wpS_pure (h _ _ refl0 (good_lastA m0 ha hb (by omega) hl))
 rw [if_neg (by simpa using c2)]
 refine wpS_bind (wpS_get ?_)
 refine wpS_bind (wpS_mono (wpS_forRange (I:=fun t c st'=>St0 kind st st'/\∃ (out:Array Keyed) (ia ib mg:Nat),c=(none,out,ia,ib,mg)/\MI (Le lt k) a.toList b.toList out.toList ia ib/\ia+1 < a.size/\ib < b.size/\t+1≤ia+ib)
  (Q:=fun c st'=>St0 kind st st'/\∃ r rest,c=(some r,rest)/\Good lt k a b r) ?step ?fin ?init) ?post)
 case init=>exact ⟨refl0,_,_,_,_,rfl,m0,by lia,by lia,by lia⟩
 case fin =>
  rintro c st' ⟨_,out,ia,ib,mg,rfl,m,z1,z2,z3⟩
  lia
 case post =>
  rintro c st' ⟨s0,r,rest,rfl,g⟩
  exact wpS_pure (h r st' s0 g)
 case step =>
  rintro t c st1 _ ht ⟨s1,out,ia,ib,mg,rfl,m,z1,z2,z3⟩
  dsimp only
  refine wpS_bind (wpS_mono (wpS_forRange (I:=fun u c st'=>St0 kind st st'/\∃ (out:Array Keyed) (ia ib ac bc:Nat),c=(none,out,ia,ib,ac,bc)/\MI (Le lt k) a.toList b.toList out.toList ia ib/\ia+1 < a.size/\ib < b.size/\t+1+u≤ia+ib)
   (Q:=fun c st'=>St0 kind st st'/\((∃ r rest,c=(some r,rest)/\Good lt k a b r)\/∃ (out:Array Keyed) (ia ib ac bc:Nat),c=(none,out,ia,ib,ac,bc)/\MI (Le lt k) a.toList b.toList out.toList ia ib/\ia+1 < a.size/\ib < b.size/\t+2≤ia+ib)) ?step1 ?fin1 ?init1) ?post1)
  case init1=>exact ⟨s1,_,_,_,_,_,rfl,m,z1,z2,by omega⟩
  case fin1 =>
   rintro c st' ⟨_,out,ia,ib,ac,bc,rfl,m,z1,z2,z3⟩
   lia
  case step1 =>
   rintro u c st2 _ hu ⟨s2,out,ia,ib,ac,bc,rfl,m,z1,z2,z3⟩
   dsimp only
   obtain ⟨x,ex,sx⟩:=getB ib z2
   obtain ⟨y,ey,sy⟩:=getA ia (by lia)
   refine wpS_bind (wpS_elem ex (wpS_bind (wpS_elem ey (wpS_bind (wpS_lt C s2.fine sx sy ?_)))))
   cases e:lt (k x) (k y) with
   | true =>
    dsimp only
    rw [if_pos rfl]
    refine wpS_bind (wpS_elem ex ?_)
    have m2:=m.pushB hb ex (le_all C ha ey (le_of_lt C e))
    by_cases d1:ib+1=b.size
    ·rw [if_pos (by simpa using d1)]
     exact wpS_pure ⟨s2,.inl ⟨_,_,rfl,good_done m2 ha hb (.inr d1)⟩⟩
    rw [if_neg (by simpa using d1)]
    by_cases d2:bc+1 ≥ mg
    ·rw [if_pos d2]
     exact wpS_pure ⟨s2,.inr ⟨_,_,_,_,_,rfl,m2,z1,by lia,by lia⟩⟩
    ·rw [if_neg d2]
     exact wpS_pure ⟨s2,_,_,_,_,_,rfl,m2,z1,by lia,by lia⟩
   | false =>
    dsimp only
    rw [if_neg (by decide)]
    refine wpS_bind (wpS_elem ey ?_)
    have m2:=m.pushA ha ey (le_all C hb ex e)
    by_cases d1:ia+1+1=a.size
    ·rw [if_pos (by simpa using d1)]
     exact wpS_pure ⟨s2,.inl ⟨_,_,rfl,good_lastA m2 ha hb d1 hl⟩⟩
    rw [if_neg (by simpa using d1)]
    by_cases d2:ac+1 ≥ mg
    ·rw [if_pos d2]
     exact wpS_pure ⟨s2,.inr ⟨_,_,_,_,_,rfl,m2,by lia,z2,by lia⟩⟩
    ·rw [if_neg d2]
     exact wpS_pure ⟨s2,_,_,_,_,_,rfl,m2,by lia,z2,by lia⟩
  case post1 =>
   rintro c st2 ⟨s2,⟨r,rest,rfl,g⟩ | ⟨out,ia,ib,ac,bc,rfl,m,z1,z2,z3⟩⟩
   ·exact wpS_pure ⟨s2,_,_,rfl,g⟩
   dsimp only
   refine wpS_bind (wpS_lift (wpAny_rule ⟨rfl,?_⟩))
   refine wpS_bind (wpS_mono (wpS_forRange (I:=fun u c st'=>St0 kind st st'/\∃ (out:Array Keyed) (ia ib mg ac bc:Nat),c=(none,out,ia,ib,mg,ac,bc)/\MI (Le lt k) a.toList b.toList out.toList ia ib/\ia+1 < a.size/\ib < b.size/\t+2≤ia+ib)
    (Q:=fun c st'=>St0 kind st st'/\((∃ r rest,c=(some r,rest)/\Good lt k a b r)\/∃ (out:Array Keyed) (ia ib mg ac bc:Nat),c=(none,out,ia,ib,mg,ac,bc)/\MI (Le lt k) a.toList b.toList out.toList ia ib/\ia+1 < a.size/\ib < b.size/\t+2≤ia+ib)) ?step2 ?fin2 ?init2) ?post2)
   case init2=>exact ⟨s2,_,_,_,_,_,_,rfl,m,z1,z2,z3⟩
   case fin2=>exact fun c st' ⟨q1,q2⟩=>⟨q1,.inr q2⟩
   case post2 =>
    rintro c st3 ⟨s3,⟨r,rest,rfl,g⟩ | ⟨out,ia,ib,mg,ac,bc,rfl,m,z1,z2,z3⟩⟩
    ·exact wpS_pure ⟨s3,_,_,rfl,g⟩
    dsimp only
    refine wpS_bind (wpS_modify (wpS_pure ⟨s3.gal _,_,_,_,_,rfl,m,z1,z2,by omega⟩))
   case step2 =>
    rintro u c st3 _ hu ⟨s3,out,ia,ib,mg,ac,bc,rfl,m,z1,z2,z3⟩
    dsimp only
    obtain ⟨x,ex,sx⟩:=getB ib z2
    have wholeA:∀ i,(a.toList.drop i).take (a.size - i)=a.toList.drop i:=fun i=>List.take_of_length_le (by rw [List.length_drop];lia)
    have wholeB:∀ i,(b.toList.drop i).take (b.size - i)=b.toList.drop i:=fun i=>List.take_of_length_le (by rw [List.length_drop];lia)
    refine wpS_ite ?_ ?_
    all_goals
     refine wpS_bind (wpS_modify ?_)
     refine wpS_bind (wpS_elem ex ?_)
     refine wpS_bind (wpS_gal C (s3.gal _).fine sx hSa (by lia) (by lia) (by rw [wholeA];exact ha.sublist (List.drop_sublist _ _)) fun p hp lo hi=>?_)
     rw [wholeA] at lo hi
     simp only [Bool.false_eq_true,if_false] at lo hi
     rw [List.drop_drop] at hi
     have mA:MI (Le lt k) a.toList b.toList (out ++ a.extract ia (ia+p)).toList (ia+p) ib:=by
      rw [Array.toList_append,ext_list,show ia+p - ia=p by lia]
      exact m.addA ha p fun z hz=>le_all C hb ex (lo z hz)
     have mA0:p=0->MI (Le lt k) a.toList b.toList out.toList (ia+p) ib:=fun e=>by rw [e];exact m
     dsimp only
     have rest:∀ (out:Array Keyed) (ia':Nat),ia'=ia+p->MI (Le lt k) a.toList b.toList out.toList ia' ib->ia'+1 < a.size->True:=fun _ _ _ _ _=>trivial
     by_cases p0:p > 0
     ·rw [if_pos p0]
      by_cases d1:ia+p+1=a.size
      ·rw [if_pos (by simpa using d1)]
       exact wpS_pure ⟨s3.gal _,.inl ⟨_,_,rfl,good_lastA mA ha hb d1 hl⟩⟩
      rw [if_neg (by simpa using d1)]
      by_cases d2:ia+p=a.size
      ·rw [if_pos (by simpa using d2)]
       exact wpS_pure ⟨s3.gal _,.inl ⟨_,_,rfl,good_done mA ha hb (.inl d2)⟩⟩
      rw [if_neg (by simpa using d2)]
      refine wpS_bind (wpS_elem ex ?_)
      have mB:=mA.pushB hb ex fun y hy=>le_of_lt C (hi y hy)
      by_cases d3:ib+1=b.size
      ·rw [if_pos (by simpa using d3)]
       exact wpS_pure ⟨s3.gal _,.inl ⟨_,_,rfl,good_done mB ha hb (.inr d3)⟩⟩
      rw [if_neg (by simpa using d3)]
      obtain ⟨y,ey,sy⟩:=getA (ia+p) (by lia)
      refine wpS_bind (wpS_elem ey ?_)
      refine wpS_bind (wpS_gal C (s3.gal _).fine sy hSb (by lia) (by lia) (by rw [wholeB];exact hb.sublist (List.drop_sublist _ _)) fun q hq lo2 hi2=>?_)
      rw [wholeB] at lo2 hi2
      simp only [if_true] at lo2 hi2
      rw [List.drop_drop] at hi2
      have mC:MI (Le lt k) a.toList b.toList ((out ++ a.extract ia (ia+p)).push x ++ b.extract (ib+1) (ib+1+q)).toList (ia+p) (ib+1+q):=by
       rw [Array.toList_append,ext_list,show ib+1+q - (ib+1)=q by lia]
       exact mB.addB hb q fun z hz=>le_all C ha ey (le_of_lt C (lo2 z hz))
      dsimp only
      by_cases q0:q > 0
      ·rw [if_pos q0]
       by_cases d4:ib+1+q=b.size
       ·rw [if_pos (by simpa using d4)]
        exact wpS_pure ⟨s3.gal _,.inl ⟨_,_,rfl,good_done mC ha hb (.inr d4)⟩⟩
       rw [if_neg (by simpa using d4)]
       refine wpS_bind (wpS_elem ey ?_)
       have mD:=mC.pushA ha ey fun z hz=>hi2 z hz
       by_cases d5:ia+p+1+1=a.size
       ·rw [if_pos (by simpa using d5)]
        exact wpS_pure ⟨s3.gal _,.inl ⟨_,_,rfl,good_lastA mD ha hb d5 hl⟩⟩
       rw [if_neg (by simpa using d5)]
       refine wpS_ite ?_ ?_
       ·exact wpS_pure ⟨s3.gal _,.inr ⟨_,_,_,_,_,_,rfl,mD,by lia,by lia,by lia⟩⟩
       ·exact wpS_pure ⟨s3.gal _,_,_,_,_,_,_,rfl,mD,by lia,by lia,by lia⟩
      ·rw [if_neg q0]
       obtain rfl:q=0:=by lia
       refine wpS_bind (wpS_elem ey ?_)
       have mD:=mB.pushA ha ey fun z hz=>hi2 z hz
       by_cases d5:ia+p+1+1=a.size
       ·rw [if_pos (by simpa using d5)]
        exact wpS_pure ⟨s3.gal _,.inl ⟨_,_,rfl,good_lastA mD ha hb d5 hl⟩⟩
       rw [if_neg (by simpa using d5)]
       refine wpS_ite ?_ ?_
       ·exact wpS_pure ⟨s3.gal _,.inr ⟨_,_,_,_,_,_,rfl,mD,by lia,by lia,by lia⟩⟩
       ·exact wpS_pure ⟨s3.gal _,_,_,_,_,_,_,rfl,mD,by lia,by lia,by lia⟩
     ·rw [if_neg p0]
      obtain rfl:p=0:=by lia
      refine wpS_bind (wpS_elem ex ?_)
      have mB:=m.pushB hb ex fun y hy=>le_of_lt C (hi y hy)
      by_cases d3:ib+1=b.size
      ·rw [if_pos (by simpa using d3)]
       exact wpS_pure ⟨s3.gal _,.inl ⟨_,_,rfl,good_done mB ha hb (.inr d3)⟩⟩
      rw [if_neg (by simpa using d3)]
      obtain ⟨y,ey,sy⟩:=getA ia (by lia)
      refine wpS_bind (wpS_elem ey ?_)
      refine wpS_bind (wpS_gal C (s3.gal _).fine sy hSb (by lia) (by lia) (by rw [wholeB];exact hb.sublist (List.drop_sublist _ _)) fun q hq lo2 hi2=>?_)
      rw [wholeB] at lo2 hi2
      simp only [if_true] at lo2 hi2
      rw [List.drop_drop] at hi2
      have mC:MI (Le lt k) a.toList b.toList (out.push x ++ b.extract (ib+1) (ib+1+q)).toList ia (ib+1+q):=by
       rw [Array.toList_append,ext_list,show ib+1+q - (ib+1)=q by lia]
       exact mB.addB hb q fun z hz=>le_all C ha ey (le_of_lt C (lo2 z hz))
      dsimp only
      by_cases q0:q > 0
      ·rw [if_pos q0]
       by_cases d4:ib+1+q=b.size
       ·rw [if_pos (by simpa using d4)]
        exact wpS_pure ⟨s3.gal _,.inl ⟨_,_,rfl,good_done mC ha hb (.inr d4)⟩⟩
       rw [if_neg (by simpa using d4)]
       refine wpS_bind (wpS_elem ey ?_)
       have mD:=mC.pushA ha ey fun z hz=>hi2 z hz
       by_cases d5:ia+1+1=a.size
       ·rw [if_pos (by simpa using d5)]
        exact wpS_pure ⟨s3.gal _,.inl ⟨_,_,rfl,good_lastA mD ha hb d5 hl⟩⟩
       rw [if_neg (by simpa using d5)]
       refine wpS_ite ?_ ?_
       ·exact wpS_pure ⟨s3.gal _,.inr ⟨_,_,_,_,_,_,rfl,mD,by lia,by lia,by lia⟩⟩
       ·exact wpS_pure ⟨s3.gal _,_,_,_,_,_,_,rfl,mD,by lia,by lia,by lia⟩
      ·rw [if_neg q0]
       obtain rfl:q=0:=by lia
       refine wpS_bind (wpS_elem ey ?_)
       have mD:=mB.pushA ha ey fun z hz=>hi2 z hz
       by_cases d5:ia+1+1=a.size
       ·rw [if_pos (by simpa using d5)]
        exact wpS_pure ⟨s3.gal _,.inl ⟨_,_,rfl,good_lastA mD ha hb d5 hl⟩⟩
       rw [if_neg (by simpa using d5)]
       refine wpS_ite ?_ ?_
       ·exact wpS_pure ⟨s3.gal _,.inr ⟨_,_,_,_,_,_,rfl,mD,by lia,by lia,by lia⟩⟩
       ·exact wpS_pure ⟨s3.gal _,_,_,_,_,_,_,rfl,mD,by lia,by lia,by lia⟩
end
noncomputable def mergeHi':Array Keyed->Array Keyed->StateT SortSt Sem (Array Keyed):=sortPriv% PySem.Builtin.mergeHi
theorem mergeHi'_eq (a b:Array Keyed):mergeHi' a b=(do
 rule "list.sort.merge-hi"
 let total:=a.size+b.size
 let done (out:Array Keyed) (na nb:Nat):=a.extract 0 na ++ b.extract 0 nb ++ out.reverse
 let firstOfB (out:Array Keyed) (na nb:Nat):=b.extract 0 nb ++ a.extract 0 na ++ out.reverse
 let mut na:=a.size - 1
 let mut nb:=b.size
 let mut out:Array Keyed:=#[←elem' a na]
 if na==0 then return done out na nb
 if nb==1 then return firstOfB out na nb
 let mut minGallop:=gallopOf (←get)
 for _ in [0:total] do
  let mut acount:=0
  let mut bcount:=0
  for _ in [0:total] do
   let some aWins ←lt' (←elem' b (nb - 1)) (←elem' a (na - 1)) | return done out na nb
   if aWins then
    na:=na - 1;out:=out.push (←elem' a na);acount:=acount+1;bcount:=0
    if na==0 then return done out na nb
    if acount ≥ minGallop then break
   else
    nb:=nb - 1;out:=out.push (←elem' b nb);bcount:=bcount+1;acount:=0
    if nb==1 then return firstOfB out na nb
    if bcount ≥ minGallop then break
  rule "list.sort.gallop"
  minGallop:=minGallop+1
  for _ in [0:total] do
   if minGallop > 1 then minGallop:=minGallop - 1
   setMinGallop' minGallop
   let some at_ ←gallop' false (←elem' b (nb - 1)) a 0 na (na - 1) | return done out na nb
   let k:=na - at_
   acount:=k
   if k > 0 then
    out:=out ++ (a.extract at_ na).reverse;na:=at_
    if na==0 then return done out na nb
   nb:=nb - 1;out:=out.push (←elem' b nb)
   if nb==1 then return firstOfB out na nb
   let some at_ ←gallop' true (←elem' a (na - 1)) b 0 nb (nb - 1) | return done out na nb
   let k:=nb - at_
   bcount:=k
   if k > 0 then
    out:=out ++ (b.extract at_ nb).reverse;nb:=at_
    if nb==1 then return firstOfB out na nb
    if nb==0 then return done out na nb
   na:=na - 1;out:=out.push (←elem' a na)
   if na==0 then return done out na nb
   if acount < 7&&bcount < 7 then break
  minGallop:=minGallop+1
  setMinGallop' minGallop
 unsupported "internal:list.sort.merge-bound"):=rfl
section
variable {κ:Type} {lt:κ->κ->Bool} {k:Keyed->κ} {S:Keyed->Prop} {kind:SortKind} {prog:Program} {w:World} {A:Around} {E:Value->Shared->Prop} {s:Shared}
noncomputable abbrev Ge (lt:κ->κ->Bool) (k:Keyed->κ) (x y:Keyed):Prop:=Le lt k y x
noncomputable abbrev MH (lt:κ->κ->Bool) (k:Keyed->κ) (a b out:Array Keyed) (na nb:Nat):Prop:=MI (Ge lt k) a.toList.reverse b.toList.reverse out.toList (a.size - na) (b.size - nb)
theorem rev_drop {a:Array Keyed} {na:Nat} (h:na≤a.size):a.toList.reverse.drop (a.size - na)=(a.toList.take na).reverse:=by
 rw [List.drop_reverse,Array.length_toList,show a.size - (a.size - na)=na by lia]
theorem rev_at {a:Array Keyed} {na:Nat} {y:Keyed} (h0:1≤na) (h:na≤a.size) (e:a.toList[na - 1]?=some y):a.toList.reverse[a.size - na]?=some y:=by
 rw [List.getElem?_reverse (by rw [Array.length_toList];omega),Array.length_toList,show a.size - 1 - (a.size - na)=na - 1 by lia,e]
theorem rev_pw {a:Array Keyed} (h:a.toList.Pairwise (Le lt k)):a.toList.reverse.Pairwise (Ge lt k):=List.pairwise_reverse.mpr h
theorem rev_blk {a:Array Keyed} {p na:Nat} (hp:p≤na) (h:na≤a.size):((a.extract p na).reverse).toList=(a.toList.reverse.drop (a.size - na)).take (na - p):=by
 rw [Array.toList_reverse,ext_list,rev_drop h,List.take_reverse,List.length_take,Array.length_toList,show min na a.size=na by lia,show na - (na - p)=p by lia,←List.drop_take]
theorem extract0 (a:Array Keyed) (n:Nat):(a.extract 0 n).toList=a.toList.take n:=by rw [ext_list];simp
theorem good_rev {a b:Array Keyed} {l:List Keyed} {r:Array Keyed} (h:l.Perm (a.toList.reverse ++ b.toList.reverse)/\l.Pairwise (Ge lt k)) (e:r.toList=l.reverse):Good lt k a b r:=by
 refine ⟨?_,?_⟩
 ·rw [e]
  refine (List.reverse_perm l).trans (h.1.trans ?_)
  exact (List.reverse_perm _).append (List.reverse_perm _)
 ·rw [e]
  exact List.pairwise_reverse.mpr h.2
theorem goodH_done {a b out:Array Keyed} {na nb:Nat} (m:MH lt k a b out na nb) (ha:a.toList.Pairwise (Le lt k)) (hb:b.toList.Pairwise (Le lt k)) (h1:na≤a.size) (h2:nb≤b.size) (h:na=0\/nb=0):Good lt k a b (a.extract 0 na ++ b.extract 0 nb ++ out.reverse):=by
 have f:=m.swap.fin (rev_pw hb) (rev_pw ha) fun x hx y hy=>by
  rw [rev_drop h2] at hx
  rw [rev_drop h1] at hy
  rcases h with h | h
  ·rw [h] at hy;simp at hy
  ·rw [h] at hx;simp at hx
 refine good_rev ⟨f.1.trans List.perm_append_comm,f.2⟩ ?_
 rw [Array.toList_append,Array.toList_append,extract0,extract0,Array.toList_reverse,rev_drop h1,rev_drop h2]
 simp
theorem goodH_first {a b out:Array Keyed} {na nb:Nat} (m:MH lt k a b out na nb) (ha:a.toList.Pairwise (Le lt k)) (hb:b.toList.Pairwise (Le lt k)) (h1:na≤a.size) (h2:nb≤b.size) (h:nb=1) (hf:∀ x,b.toList[0]?=some x->∀ y∈a.toList,Le lt k x y) :
  Good lt k a b (b.extract 0 nb ++ a.extract 0 na ++ out.reverse):=by
 have f:=m.fin (rev_pw ha) (rev_pw hb) fun x hx y hy=>by
  rw [rev_drop h1] at hx
  rw [rev_drop h2,h] at hy
  have hx:=List.mem_of_mem_take (List.mem_reverse.mp hx)
  have hy:=List.mem_reverse.mp hy
  refine hf y ?_ x hx
  obtain ⟨i,hi,e⟩:=List.getElem_of_mem hy
  have i0:i=0:=by rw [List.length_take] at hi;lia
  subst i0
  rw [List.getElem_take] at e
  rw [List.getElem?_eq_getElem (by rw [Array.length_toList];lia),e]
 refine good_rev f ?_
 rw [Array.toList_append,Array.toList_append,extract0,extract0,Array.toList_reverse,rev_drop h1,rev_drop h2]
 simp
theorem MH.pushA {a b out:Array Keyed} {na nb:Nat} {x:Keyed} (m:MH lt k a b out na nb) (ha:a.toList.Pairwise (Le lt k)) (h0:1≤na) (h1:na≤a.size) (h2:nb≤b.size) (e:a.toList[na - 1]?=some x) (h:∀ y∈b.toList.take nb,Le lt k y x):MH lt k a b (out.push x) (na - 1) nb:=by
 have e':=rev_at h0 h1 e
 have:=m.addA (rev_pw ha) 1 fun z hz y hy=>by
  rw [take_one e'] at hz
  obtain rfl:z=x:=by simpa using hz
  rw [rev_drop h2] at hy
  exact h y (List.mem_reverse.mp hy)
 rw [take_one e',←push_list,show a.size - na+1=a.size - (na - 1) by lia] at this
 exact this
theorem MH.pushB {a b out:Array Keyed} {na nb:Nat} {x:Keyed} (m:MH lt k a b out na nb) (hb:b.toList.Pairwise (Le lt k)) (h0:1≤nb) (h1:na≤a.size) (h2:nb≤b.size) (e:b.toList[nb - 1]?=some x) (h:∀ y∈a.toList.take na,Le lt k y x):MH lt k a b (out.push x) na (nb - 1):=by
 have e':=rev_at h0 h2 e
 have:=m.addB (rev_pw hb) 1 fun z hz y hy=>by
  rw [take_one e'] at hz
  obtain rfl:z=x:=by simpa using hz
  rw [rev_drop h1] at hy
  exact h y (List.mem_reverse.mp hy)
 rw [take_one e',←push_list,show b.size - nb+1=b.size - (nb - 1) by lia] at this
 exact this
theorem MH.blkA {a b out:Array Keyed} {na nb p:Nat} (m:MH lt k a b out na nb) (ha:a.toList.Pairwise (Le lt k)) (hp:p≤na) (h1:na≤a.size) (h2:nb≤b.size) (h:∀ x∈(a.toList.take na).drop p,∀ y∈b.toList.take nb,Le lt k y x):MH lt k a b (out ++ (a.extract p na).reverse) p nb:=by
 have:=m.addA (rev_pw ha) (na - p) fun z hz y hy=>by
  rw [←rev_blk hp h1,Array.toList_reverse,ext_list,←List.drop_take] at hz
  rw [rev_drop h2] at hy
  exact h z (List.mem_reverse.mp hz) y (List.mem_reverse.mp hy)
 rw [←rev_blk hp h1,←Array.toList_append,show a.size - na+(na - p)=a.size - p by lia] at this
 exact this
theorem MH.blkB {a b out:Array Keyed} {na nb p:Nat} (m:MH lt k a b out na nb) (hb:b.toList.Pairwise (Le lt k)) (hp:p≤nb) (h1:na≤a.size) (h2:nb≤b.size) (h:∀ x∈(b.toList.take nb).drop p,∀ y∈a.toList.take na,Le lt k y x):MH lt k a b (out ++ (b.extract p nb).reverse) na p:=by
 have:=m.addB (rev_pw hb) (nb - p) fun z hz y hy=>by
  rw [←rev_blk hp h2,Array.toList_reverse,ext_list,←List.drop_take] at hz
  rw [rev_drop h1] at hy
  exact h z (List.mem_reverse.mp hz) y (List.mem_reverse.mp hy)
 rw [←rev_blk hp h2,←Array.toList_append,show b.size - nb+(nb - p)=b.size - p by lia] at this
 exact this
theorem all_le (C:Cmp lt k S kind prog w A s) {L:List Keyed} (h:L.Pairwise (Le lt k)) {n:Nat} {x y:Keyed} (h0:1≤n) (e:L[n - 1]?=some y) (hyx:Le lt k y x):∀ z∈L.take n,Le lt k z x:=fun z hz=>by
 obtain ⟨i,hi,ez⟩:=List.getElem_of_mem hz
 rw [List.getElem_take] at ez
 obtain ⟨hn,ey⟩:=List.getElem?_eq_some_iff.mp e
 have hin:i < n:=by rw [List.length_take] at hi;lia
 rcases Nat.lt_or_ge i (n - 1) with q | q
 ·have:=(List.pairwise_iff_getElem.mp h) i (n - 1) (by lia) hn q
  rw [ey,ez] at this
  exact le_trans C this hyx
 ·have:i=n - 1:=by lia
  subst this
  rw [ey] at ez
  rw [←ez]
  exact hyx
theorem wpS_mergeHi {a b:Array Keyed} {st:SortSt} {Q:Array Keyed->SortSt->Prop} (C:Cmp lt k S kind prog w A s) (F:Fine kind st) (hSa:∀ x∈a.toList,S x) (hSb:∀ x∈b.toList,S x) (ha:a.toList.Pairwise (Le lt k)) (hb:b.toList.Pairwise (Le lt k)) (a1:1≤a.size) (b1:1≤b.size)
  (hf:∀ x,b.toList[0]?=some x->∀ y∈a.toList,Le lt k x y) (hl:∀ x∈b.toList,∀ y,a.toList[a.size - 1]?=some y->Le lt k x y)
  (h:∀ r st',St0 kind st st'->Good lt k a b r->Q r st'):wpS (model prog w) A E s (mergeHi' a b) Q st:=by
 have la:a.toList.length=a.size:=Array.length_toList
 have lb:b.toList.length=b.size:=Array.length_toList
 have getA:∀ i,i < a.size->∃ x,a.toList[i]?=some x/\S x:=fun i hi=>⟨_,List.getElem?_eq_getElem (by omega),hSa _ (List.getElem_mem (by omega))⟩
 have getB:∀ i,i < b.size->∃ x,b.toList[i]?=some x/\S x:=fun i hi=>⟨_,List.getElem?_eq_getElem (by omega),hSb _ (List.getElem_mem (by omega))⟩
 have refl0:St0 kind st st:=⟨rfl,rfl,F⟩
 rw [mergeHi'_eq]
 refine wpS_bind (wpS_lift (wpAny_rule ⟨rfl,?_⟩))
 obtain ⟨y0,ey0,sy0⟩:=getA (a.size - 1) (by lia)
 refine wpS_bind (wpS_elem ey0 ?_)
 dsimp only
 have m0:MH lt k a b #[y0] (a.size - 1) b.size:=by
  have m00:MH lt k a b #[] a.size b.size:=by
   show MI _ _ _ _ (a.size - a.size) (b.size - b.size)
   rw [Nat.sub_self,Nat.sub_self]
   exact ⟨by simp,.nil,(fun _ h=>nomatch h),(fun _ h=>nomatch h)⟩
  exact m00.pushA ha a1 (Nat.le_refl _) (Nat.le_refl _) ey0 fun y hy=>hl y (List.mem_of_mem_take hy) _ ey0
 by_cases c1:a.size - 1=0
 ·rw [if_pos (by simpa using c1)]
  exact wpS_pure (h _ _ refl0 (goodH_done m0 ha hb (by lia) (by lia) (.inl c1)))
 rw [if_neg (by simpa using c1)]
 by_cases c2:b.size=1
 ·rw [if_pos (by simpa using c2)]
  exact wpS_pure (h _ _ refl0 (goodH_first m0 ha hb (by lia) (by lia) c2 hf))
 rw [if_neg (by simpa using c2)]
 refine wpS_bind (wpS_get ?_)
 refine wpS_bind (wpS_mono (wpS_forRange (I:=fun t c st'=>St0 kind st st'/\∃ (na nb:Nat) (out:Array Keyed) (mg:Nat),c=(none,na,nb,out,mg)/\MH lt k a b out na nb/\1≤na/\na≤a.size/\2≤nb/\nb≤b.size/\t+na+nb+1≤a.size+b.size)
  (Q:=fun c st'=>St0 kind st st'/\∃ r rest,c=(some r,rest)/\Good lt k a b r) ?step ?fin ?init) ?post)
 case init=>exact ⟨refl0,_,_,_,_,rfl,m0,by lia,by lia,by lia,by lia,by lia⟩
 case fin =>
  rintro c st' ⟨_,na,nb,out,mg,rfl,m,z1,z2,z3,z4,z5⟩
  lia
 case post =>
  rintro c st' ⟨s0,r,rest,rfl,g⟩
  exact wpS_pure (h r st' s0 g)
 case step =>
  rintro t c st1 _ ht ⟨s1,na,nb,out,mg,rfl,m,z1,z2,z3,z4,z5⟩
  dsimp only
  refine wpS_bind (wpS_mono (wpS_forRange (I:=fun u c st'=>St0 kind st st'/\∃ (na nb:Nat) (out:Array Keyed) (ac bc:Nat),c=(none,na,nb,out,ac,bc)/\MH lt k a b out na nb/\1≤na/\na≤a.size/\2≤nb/\nb≤b.size/\t+u+na+nb+1≤a.size+b.size)
   (Q:=fun c st'=>St0 kind st st'/\((∃ r rest,c=(some r,rest)/\Good lt k a b r)\/∃ (na nb:Nat) (out:Array Keyed) (ac bc:Nat),c=(none,na,nb,out,ac,bc)/\MH lt k a b out na nb/\1≤na/\na≤a.size/\2≤nb/\nb≤b.size/\t+na+nb+2≤a.size+b.size)) ?step1 ?fin1 ?init1) ?post1)
  case init1=>exact ⟨s1,_,_,_,_,_,rfl,m,z1,z2,z3,z4,by omega⟩
  case fin1 =>
   rintro c st' ⟨_,na,nb,out,ac,bc,rfl,m,z1,z2,z3,z4,z5⟩
   lia
  case step1 =>
   rintro u c st2 _ hu ⟨s2,na,nb,out,ac,bc,rfl,m,z1,z2,z3,z4,z5⟩
   dsimp only
   obtain ⟨x,ex,sx⟩:=getB (nb - 1) (by lia)
   obtain ⟨y,ey,sy⟩:=getA (na - 1) (by lia)
   refine wpS_bind (wpS_elem ex (wpS_bind (wpS_elem ey (wpS_bind (wpS_lt C s2.fine sx sy ?_)))))
   cases e:lt (k x) (k y) with
   | true =>
    dsimp only
    rw [if_pos rfl]
    refine wpS_bind (wpS_elem ey ?_)
    have m2:=MH.pushA m ha z1 z2 z4 ey (all_le C hb (by lia) ex (le_of_lt C e))
    by_cases d1:na - 1=0
    ·rw [if_pos (by simpa using d1)]
     exact wpS_pure ⟨s2,.inl ⟨_,_,rfl,goodH_done m2 ha hb (by lia) z4 (.inl d1)⟩⟩
    rw [if_neg (by simpa using d1)]
    refine wpS_ite ?_ ?_
    ·exact wpS_pure ⟨s2,.inr ⟨_,_,_,_,_,rfl,m2,by lia,by lia,z3,z4,by lia⟩⟩
    ·exact wpS_pure ⟨s2,_,_,_,_,_,rfl,m2,by lia,by lia,z3,z4,by lia⟩
   | false =>
    dsimp only
    rw [if_neg (by decide)]
    refine wpS_bind (wpS_elem ex ?_)
    have m2:=MH.pushB m hb (by lia) z2 z4 ex (all_le C ha z1 ey e)
    by_cases d1:nb - 1=1
    ·rw [if_pos (by simpa using d1)]
     exact wpS_pure ⟨s2,.inl ⟨_,_,rfl,goodH_first m2 ha hb z2 (by lia) d1 hf⟩⟩
    rw [if_neg (by simpa using d1)]
    refine wpS_ite ?_ ?_
    ·exact wpS_pure ⟨s2,.inr ⟨_,_,_,_,_,rfl,m2,z1,z2,by lia,by lia,by lia⟩⟩
    ·exact wpS_pure ⟨s2,_,_,_,_,_,rfl,m2,z1,z2,by lia,by lia,by lia⟩
  case post1 =>
   rintro c st2 ⟨s2,⟨r,rest,rfl,g⟩ | ⟨na,nb,out,ac,bc,rfl,m,z1,z2,z3,z4,z5⟩⟩
   ·exact wpS_pure ⟨s2,_,_,rfl,g⟩
   dsimp only
   refine wpS_bind (wpS_lift (wpAny_rule ⟨rfl,?_⟩))
   refine wpS_bind (wpS_mono (wpS_forRange (I:=fun u c st'=>St0 kind st st'/\∃ (na nb:Nat) (out:Array Keyed) (mg ac bc:Nat),c=(none,na,nb,out,mg,ac,bc)/\MH lt k a b out na nb/\1≤na/\na≤a.size/\2≤nb/\nb≤b.size/\t+na+nb+2≤a.size+b.size)
    (Q:=fun c st'=>St0 kind st st'/\((∃ r rest,c=(some r,rest)/\Good lt k a b r)\/∃ (na nb:Nat) (out:Array Keyed) (mg ac bc:Nat),c=(none,na,nb,out,mg,ac,bc)/\MH lt k a b out na nb/\1≤na/\na≤a.size/\2≤nb/\nb≤b.size/\t+na+nb+2≤a.size+b.size)) ?step2 ?fin2 ?init2) ?post2)
   case init2=>exact ⟨s2,_,_,_,_,_,_,rfl,m,z1,z2,z3,z4,z5⟩
   case fin2=>exact fun c st' ⟨q1,q2⟩=>⟨q1,.inr q2⟩
   case post2 =>
    rintro c st3 ⟨s3,⟨r,rest,rfl,g⟩ | ⟨na,nb,out,mg,ac,bc,rfl,m,z1,z2,z3,z4,z5⟩⟩
    ·exact wpS_pure ⟨s3,_,_,rfl,g⟩
    dsimp only
    refine wpS_bind (wpS_modify (wpS_pure ⟨s3.gal _,_,_,_,_,rfl,m,z1,z2,z3,z4,by lia⟩))
   case step2 =>
    rintro u c st3 _ hu ⟨s3,na,nb,out,mg,ac,bc,rfl,m,z1,z2,z3,z4,z5⟩
    dsimp only
    obtain ⟨x,ex,sx⟩:=getB (nb - 1) (by lia)
    have z0:∀ (L:List Keyed),L.drop 0=L:=fun L=>rfl
    have last:∀ (st3:SortSt) (s3:St0 kind st st3) (out:Array Keyed) (na nb mg ac bc:Nat),MH lt k a b out na nb->1≤na->na≤a.size->2≤nb->nb≤b.size->t+na+nb+1≤a.size+b.size->(∀ y,a.toList[na - 1]?=some y->∀ z∈b.toList.take nb,Le lt k z y)->True:=fun _ _ _ _ _ _ _ _ _ _ _ _ _ _ _=>trivial
    refine wpS_ite ?_ ?_
    all_goals
     refine wpS_bind (wpS_modify ?_)
     refine wpS_bind (wpS_elem ex ?_)
     refine wpS_bind (wpS_gal C (s3.gal _).fine sx hSa (by lia) (by lia) (by rw [z0];exact ha.sublist (List.take_sublist _ _)) fun p hp lo hi=>?_)
     rw [z0] at lo hi
     simp only [Bool.false_eq_true,if_false] at lo hi
     have mA:MH lt k a b (out ++ (a.extract p na).reverse) p nb:=MH.blkA m ha hp z2 z4 fun v hv=>all_le C hb (by lia) ex (le_of_lt C (hi v hv))
     have lo':∀ v∈a.toList.take p,Le lt k v x:=fun v hv=>lo v (by rw [List.take_take,show min p na=p by lia];exact hv)
     dsimp only
     by_cases p0:na - p > 0
     ·rw [if_pos p0]
      by_cases d1:p=0
      ·rw [if_pos (by simpa using d1)]
       exact wpS_pure ⟨s3.gal _,.inl ⟨_,_,rfl,goodH_done mA ha hb (by lia) z4 (.inl d1)⟩⟩
      rw [if_neg (by simpa using d1)]
      refine wpS_bind (wpS_elem ex ?_)
      have mB:=MH.pushB mA hb (by lia) (by lia) z4 ex lo'
      by_cases d2:nb - 1=1
      ·rw [if_pos (by simpa using d2)]
       exact wpS_pure ⟨s3.gal _,.inl ⟨_,_,rfl,goodH_first mB ha hb (by lia) (by lia) d2 hf⟩⟩
      rw [if_neg (by simpa using d2)]
      obtain ⟨y,ey,sy⟩:=getA (p - 1) (by lia)
      refine wpS_bind (wpS_elem ey ?_)
      refine wpS_bind (wpS_gal C (s3.gal _).fine sy hSb (by lia) (by omega) (by rw [z0];exact hb.sublist (List.take_sublist _ _)) fun q hq lo2 hi2=>?_)
      rw [z0] at lo2 hi2
      simp only [if_true] at lo2 hi2
      have mC:=MH.blkB mB hb hq (by lia) (by lia) fun v hv=>all_le C ha (by lia) ey (hi2 v hv)
      have lo2':∀ v∈b.toList.take q,Le lt k v y:=fun v hv=>le_of_lt C (lo2 v (by rw [List.take_take,show min q (nb - 1)=q by lia];exact hv))
      dsimp only
      by_cases q0:nb - 1 - q > 0
      ·rw [if_pos q0]
       by_cases d3:q=1
       ·rw [if_pos (by simpa using d3)]
        exact wpS_pure ⟨s3.gal _,.inl ⟨_,_,rfl,goodH_first mC ha hb (by lia) (by lia) d3 hf⟩⟩
       rw [if_neg (by simpa using d3)]
       by_cases d4:q=0
       ·rw [if_pos (by simpa using d4)]
        exact wpS_pure ⟨s3.gal _,.inl ⟨_,_,rfl,goodH_done mC ha hb (by lia) (by lia) (.inr d4)⟩⟩
       rw [if_neg (by simpa using d4)]
       refine wpS_bind (wpS_elem ey ?_)
       have mD:=MH.pushA mC ha (by lia) (by lia) (by lia) ey lo2'
       by_cases d5:p - 1=0
       ·rw [if_pos (by simpa using d5)]
        exact wpS_pure ⟨s3.gal _,.inl ⟨_,_,rfl,goodH_done mD ha hb (by lia) (by lia) (.inl d5)⟩⟩
       rw [if_neg (by simpa using d5)]
       refine wpS_ite ?_ ?_
       ·exact wpS_pure ⟨s3.gal _,.inr ⟨_,_,_,_,_,_,rfl,mD,by lia,by lia,by lia,by lia,by lia⟩⟩
       ·exact wpS_pure ⟨s3.gal _,_,_,_,_,_,_,rfl,mD,by lia,by lia,by lia,by lia,by lia⟩
      ·rw [if_neg q0]
       obtain rfl:q=nb - 1:=by lia
       refine wpS_bind (wpS_elem ey ?_)
       have mD:=MH.pushA mB ha (by lia) (by lia) (by lia) ey lo2'
       by_cases d5:p - 1=0
       ·rw [if_pos (by simpa using d5)]
        exact wpS_pure ⟨s3.gal _,.inl ⟨_,_,rfl,goodH_done mD ha hb (by lia) (by lia) (.inl d5)⟩⟩
       rw [if_neg (by simpa using d5)]
       refine wpS_ite ?_ ?_
       ·exact wpS_pure ⟨s3.gal _,.inr ⟨_,_,_,_,_,_,rfl,mD,by lia,by lia,by lia,by lia,by lia⟩⟩
       ·exact wpS_pure ⟨s3.gal _,_,_,_,_,_,_,rfl,mD,by lia,by lia,by lia,by lia,by lia⟩
     ·rw [if_neg p0]
      obtain rfl:p=na:=by lia
      refine wpS_bind (wpS_elem ex ?_)
      have mB:=MH.pushB m hb (by lia) (by omega) z4 ex lo'
      by_cases d2:nb - 1=1
      ·rw [if_pos (by simpa using d2)]
       exact wpS_pure ⟨s3.gal _,.inl ⟨_,_,rfl,goodH_first mB ha hb (by omega) (by lia) d2 hf⟩⟩
      rw [if_neg (by simpa using d2)]
      obtain ⟨y,ey,sy⟩:=getA (p - 1) (by lia)
      refine wpS_bind (wpS_elem ey ?_)
      refine wpS_bind (wpS_gal C (s3.gal _).fine sy hSb (by lia) (by lia) (by rw [z0];exact hb.sublist (List.take_sublist _ _)) fun q hq lo2 hi2=>?_)
      rw [z0] at lo2 hi2
      simp only [if_true] at lo2 hi2
      have mC:=MH.blkB mB hb hq (by omega) (by lia) fun v hv=>all_le C ha (by omega) ey (hi2 v hv)
      have lo2':∀ v∈b.toList.take q,Le lt k v y:=fun v hv=>le_of_lt C (lo2 v (by rw [List.take_take,show min q (nb - 1)=q by lia];exact hv))
      dsimp only
      by_cases q0:nb - 1 - q > 0
      ·rw [if_pos q0]
       by_cases d3:q=1
       ·rw [if_pos (by simpa using d3)]
        exact wpS_pure ⟨s3.gal _,.inl ⟨_,_,rfl,goodH_first mC ha hb (by omega) (by lia) d3 hf⟩⟩
       rw [if_neg (by simpa using d3)]
       by_cases d4:q=0
       ·rw [if_pos (by simpa using d4)]
        exact wpS_pure ⟨s3.gal _,.inl ⟨_,_,rfl,goodH_done mC ha hb (by omega) (by lia) (.inr d4)⟩⟩
       rw [if_neg (by simpa using d4)]
       refine wpS_bind (wpS_elem ey ?_)
       have mD:=MH.pushA mC ha (by omega) (by omega) (by lia) ey lo2'
       by_cases d5:p - 1=0
       ·rw [if_pos (by simpa using d5)]
        exact wpS_pure ⟨s3.gal _,.inl ⟨_,_,rfl,goodH_done mD ha hb (by lia) (by lia) (.inl d5)⟩⟩
       rw [if_neg (by simpa using d5)]
       refine wpS_ite ?_ ?_
       ·exact wpS_pure ⟨s3.gal _,.inr ⟨_,_,_,_,_,_,rfl,mD,by lia,by lia,by lia,by lia,by lia⟩⟩
       ·exact wpS_pure ⟨s3.gal _,_,_,_,_,_,_,rfl,mD,by lia,by lia,by lia,by lia,by lia⟩
      ·rw [if_neg q0]
       obtain rfl:q=nb - 1:=by lia
       refine wpS_bind (wpS_elem ey ?_)
       have mD:=MH.pushA mB ha (by omega) (by omega) (by lia) ey lo2'
       by_cases d5:p - 1=0
       ·rw [if_pos (by simpa using d5)]
        exact wpS_pure ⟨s3.gal _,.inl ⟨_,_,rfl,goodH_done mD ha hb (by lia) (by lia) (.inl d5)⟩⟩
       rw [if_neg (by simpa using d5)]
       refine wpS_ite ?_ ?_
       ·exact wpS_pure ⟨s3.gal _,.inr ⟨_,_,_,_,_,_,rfl,mD,by lia,by lia,by lia,by lia,by lia⟩⟩
       ·exact wpS_pure ⟨s3.gal _,_,_,_,_,_,_,rfl,mD,by lia,by lia,by lia,by lia,by lia⟩
end
section
variable {κ:Type} {lt:κ->κ->Bool} {k:Keyed->κ} {S:Keyed->Prop} {kind:SortKind} {prog:Program} {w:World} {A:Around} {E:Value->Shared->Prop} {s:Shared}
noncomputable def kx (k:Keyed->κ) (xs:Array Keyed) (i:Nat):κ:=k ((xs[i]?).getD (Value.none,Value.none))
theorem kx_congr {xs ys:Array Keyed} {i j:Nat} (h:xs[i]?=ys[j]?):kx k xs i=kx k ys j:=by unfold kx;rw [h]
theorem kx_bub {xs:Array Keyed} {src d:Nat} (hs:src < xs.size) (hd:d≤src) (i:Nat):kx k (bubble xs src d) i=if i=src - d then kx k xs src else if src - d < i/\i≤src then kx k xs (i - 1) else kx k xs i:=by
 have e:=getElem?_bubble hs d hd i
 by_cases h1:i=src - d
 ·rw [if_pos h1] at e ⊢;exact kx_congr e
 ·rw [if_neg h1] at e ⊢
  by_cases h2:src - d < i/\i≤src
  ·rw [if_pos h2] at e ⊢;exact kx_congr e
  ·rw [if_neg h2] at e ⊢;exact kx_congr e
theorem kx_rev {xs:Array Keyed} {i j:Nat} (hj:j≤xs.size) (q:Nat):kx k (mirror xs i j ((j - i) / 2)) q=if i≤q/\q < j then kx k xs (i+j - 1 - q) else kx k xs q:=by
 have e:=getElem?_mirror_all (i:=i) hj q
 by_cases h1:i≤q/\q < j
 ·rw [if_pos h1] at e ⊢;exact kx_congr e
 ·rw [if_neg h1] at e ⊢;exact kx_congr e
theorem kx_rev_eq {xs:Array Keyed} {i j:Nat} (hj:j≤xs.size) (he:∀ q,i≤q->q < j->kx k xs q=kx k xs (j - 1)) (q:Nat):kx k (mirror xs i j ((j - i) / 2)) q=kx k xs q:=by
 rw [kx_rev hj]
 split
 ·rename_i h
  rw [he (i+j - 1 - q) (by lia) (by lia),he q h.1 h.2]
 ·rfl
noncomputable def UpK (lt:κ->κ->Bool) (k:Keyed->κ) (xs:Array Keyed) (lo n:Nat):Prop:=∀ i j,i≤j->j < n->lt (kx k xs (lo+j)) (kx k xs (lo+i))=false
noncomputable def DnK (lt:κ->κ->Bool) (k:Keyed->κ) (xs:Array Keyed) (lo n:Nat):Prop:=∀ i j,i≤j->j < n->lt (kx k xs (lo+i)) (kx k xs (lo+j))=false
structure StA (kind:SortKind) (lo n:Nat) (st st':SortSt):Prop where
 pd:pendingOf st'=pendingOf st
 fine:Fine kind st'
 perm:(arrOf st').Perm (arrOf st)
 out:∀ i,i < lo\/lo+n≤i->(arrOf st')[i]?=(arrOf st)[i]?
theorem StA.refl {lo n:Nat} {st:SortSt} (F:Fine kind st):StA kind lo n st st:=⟨rfl,F,Array.Perm.refl _,fun _ _=>rfl⟩
theorem StA.trans {lo n:Nat} {st st1 st2:SortSt} (h1:StA kind lo n st st1) (h2:StA kind lo n st1 st2):StA kind lo n st st2:=⟨h2.pd.trans h1.pd,h2.fine,h2.perm.trans h1.perm,fun i hi=>(h2.out i hi).trans (h1.out i hi)⟩
theorem StA.size {lo n:Nat} {st st':SortSt} (h:StA kind lo n st st'):(arrOf st').size=(arrOf st).size:=h.perm.size_eq
noncomputable def AllS (S:Keyed->Prop) (st:SortSt):Prop:=∀ x∈(arrOf st).toList,S x
theorem StA.all {lo n:Nat} {st st':SortSt} (h:StA kind lo n st st') (hS:AllS S st):AllS S st':=fun x hx=>hS x ((Array.perm_iff_toList_perm.mp h.perm).mem_iff.mp hx)
theorem StA.set {lo n:Nat} {st:SortSt} {xs:Array Keyed} (F:Fine kind st) (hp:xs.Perm (arrOf st)) (ho:∀ i,i < lo\/lo+n≤i->xs[i]?=(arrOf st)[i]?):StA kind lo n st (setArr st xs):=⟨rfl,⟨F.kd,F.fl⟩,hp,ho⟩
theorem wpS_at {st:SortSt} {i j:Nat} {Q:Option Bool->SortSt->Prop} (C:Cmp lt k S kind prog w A s) (F:Fine kind st) (hS:AllS S st) (hi:i < (arrOf st).size) (hj:j < (arrOf st).size) (h:Q (some (lt (kx k (arrOf st) i) (kx k (arrOf st) j))) st):wpS (model prog w) A E s (ltAt' i j) Q st:=by
 have ei:(arrOf st).toList[i]?=some (arrOf st)[i]:=by rw [Array.getElem?_toList,Array.getElem?_eq_getElem hi]
 have ej:(arrOf st).toList[j]?=some (arrOf st)[j]:=by rw [Array.getElem?_toList,Array.getElem?_eq_getElem hj]
 have ki:kx k (arrOf st) i=k (arrOf st)[i]:=by unfold kx;rw [Array.getElem?_eq_getElem hi];rfl
 have kj:kx k (arrOf st) j=k (arrOf st)[j]:=by unfold kx;rw [Array.getElem?_eq_getElem hj];rfl
 rw [ki,kj] at h
 rw [ltAt'_eq]
 refine wpS_bind (wpS_get ?_)
 exact wpS_bind (wpS_elem ei (wpS_bind (wpS_elem ej (wpS_lt C F (hS _ (by simp)) (hS _ (by simp)) h))))
theorem wpS_binary {st:SortSt} {lo n ok:Nat} {Q:Bool->SortSt->Prop} (C:Cmp lt k S kind prog w A s) (F:Fine kind st) (hS:AllS S st) (hn:lo+n≤(arrOf st).size) (hok:ok≤n) (hs:UpK lt k (arrOf st) lo ok)
  (h:∀ st',StA kind lo n st st'->UpK lt k (arrOf st') lo n->Q true st'):wpS (model prog w) A E s (binarySort' lo n ok) Q st:=by
 have O:=C.ord
 rw [binarySort'_eq]
 refine wpS_bind (wpS_mono (wpS_forRange (I:=fun q c st'=>c=(none,())/\StA kind lo n st st'/\UpK lt k (arrOf st') lo (min q n))
  (Q:=fun c st'=>c=(none,())/\StA kind lo n st st'/\UpK lt k (arrOf st') lo n) ?step ?fin ?init) ?post)
 case post =>
  rintro c st' ⟨rfl,hB',hs'⟩
  exact wpS_pure (h st' hB' hs')
 case init =>
  refine ⟨rfl,.refl F,fun i j hij hj=>?_⟩
  by_cases h1:ok=0
  ·have:i=j:=by lia
   subst this;exact O.rf _
  ·exact hs i j hij (by lia)
 case fin =>
  rintro c st' ⟨hc,hB',hs'⟩
  refine ⟨hc,hB',?_⟩
  rwa [show min (max (max ok 1) n) n=n by lia] at hs'
 case step =>
  rintro q c st' hak hkn ⟨rfl,hB',hs'⟩
  rw [show min q n=q by lia] at hs'
  have hsz:=hB'.size
  have hS':=hB'.all hS
  refine wpS_bind (wpS_mono (wpS_forRange (I:=fun x c st''=>st''=st'/\∃ l r,c=(none,l,r)/\l≤r/\r≤q/\r - l≤q - x /\
    (∀ i,i < l->lt (kx k (arrOf st') (lo+q)) (kx k (arrOf st') (lo+i))=false)/\(∀ i,r≤i->i < q->lt (kx k (arrOf st') (lo+q)) (kx k (arrOf st') (lo+i))=true))
   (Q:=fun c st''=>st''=st'/\∃ l r,c=(none,l,r)/\l≤q /\
    (∀ i,i < l->lt (kx k (arrOf st') (lo+q)) (kx k (arrOf st') (lo+i))=false)/\(∀ i,l≤i->i < q->lt (kx k (arrOf st') (lo+q)) (kx k (arrOf st') (lo+i))=true)) ?istep ?ifin ?iinit) ?ipost)
  case iinit=>exact ⟨rfl,0,q,rfl,by lia,by lia,by lia,fun i hi=>by lia,fun i h1 h2=>by lia⟩
  case ifin =>
   rintro c st'' ⟨rfl,l,r,rfl,hlr,hrk,hm,hlo,hhi⟩
   have:l=r:=by lia
   subst this
   exact ⟨rfl,l,l,rfl,hrk,hlo,hhi⟩
  case istep =>
   rintro x c st'' _ hxk ⟨rfl,l,r,rfl,hlr,hrk,hm,hlo,hhi⟩
   dsimp only
   by_cases hge:l ≥ r
   ·rw [if_pos hge]
    have:l=r:=by lia
    subst this
    exact wpS_pure ⟨rfl,l,l,rfl,hrk,hlo,hhi⟩
   ·rw [if_neg hge]
    refine wpS_bind (wpS_at C hB'.fine hS' (by lia) (by lia) ?_)
    cases hless:lt (kx k (arrOf st'') (lo+q)) (kx k (arrOf st'') (lo+(l+r) / 2))
    case true =>
     simp only [if_true]
     refine wpS_pure ⟨rfl,l,(l+r) / 2,rfl,by lia,by lia,by lia,hlo,fun i h1 h2=>?_⟩
     exact O.lt_le hless (hs' _ _ h1 h2)
    case false =>
     simp only [Bool.false_eq_true,if_false]
     refine wpS_pure ⟨rfl,(l+r) / 2+1,r,rfl,by lia,by omega,by lia,fun i h1=>?_,hhi⟩
     exact O.tr _ _ _ (hs' i ((l+r) / 2) (by lia) (by lia)) hless
  case ipost =>
   rintro c st'' ⟨rfl,l,r,rfl,hlk,hlo,hhi⟩
   show wpS _ _ _ _ (do moveDown' (lo+q) (lo+l);pure (ForInStep.yield (none,()))) _ _
   rw [moveDown'_eq]
   have hks:lo+q < (arrOf st'').size:=by lia
   have hb:=fun i=>getElem?_bubble hks (lo+q - (lo+l)) (by lia) i
   refine wpS_bind (wpS_modify (wpS_pure ⟨rfl,hB'.trans (.set hB'.fine (bubble_perm _ _ _) fun i hi=>?_),?_⟩))
   ·rw [hb i,if_neg (by lia),if_neg (by lia)]
   rw [show min (q+1) n=q+1 by lia]
   intro i j hij hj
   show lt (kx k (bubble (arrOf st'') (lo+q) (lo+q - (lo+l))) (lo+j)) (kx k (bubble (arrOf st'') (lo+q) (lo+q - (lo+l))) (lo+i))=false
   rw [kx_bub hks (by lia),kx_bub hks (by lia),show lo+q - (lo+q - (lo+l))=lo+l by lia]
   by_cases j1:j=l
   ·rw [if_pos (by lia)]
    by_cases i1:i=l
    ·rw [if_pos (by lia)];exact O.rf _
    ·rw [if_neg (by lia),if_neg (by lia)];exact hlo i (by lia)
   ·rw [if_neg (by lia)]
    by_cases j2:l < j
    ·rw [if_pos (by lia),show lo+j - 1=lo+(j - 1) by lia]
     by_cases i1:i=l
     ·rw [if_pos (by lia)];exact O.as _ _ (hhi (j - 1) (by lia) (by lia))
     ·rw [if_neg (by lia)]
      by_cases i2:l < i
      ·rw [if_pos (by lia),show lo+i - 1=lo+(i - 1) by lia];exact hs' _ _ (by lia) (by lia)
      ·rw [if_neg (by lia)];exact hs' _ _ (by lia) (by lia)
    ·rw [if_neg (by lia),if_neg (by lia),if_neg (by lia)];exact hs' _ _ (by omega) (by lia)
theorem wpS_asc {st:SortSt} {lo x0 nrem:Nat} {Q:Option (Option Nat)×Nat->SortSt->Prop} (C:Cmp lt k S kind prog w A s) (F:Fine kind st) (hS:AllS S st) (hn:lo+nrem≤(arrOf st).size) (h0:1≤x0) (h1:x0≤nrem) (hu:UpK lt k (arrOf st) lo x0)
  (h:∀ n,x0≤n->n≤nrem->UpK lt k (arrOf st) lo n->(n=nrem\/lt (kx k (arrOf st) (lo+n)) (kx k (arrOf st) (lo+n - 1))=true)->Q (none,n) st) :
  wpS (model prog w) A E s (forIn [x0:nrem] ((none:Option (Option Nat)),x0) fun x (r:Option (Option Nat)×Nat)=>do
   let __x ←ltAt' (lo+r.2) (lo+r.2 - 1)
   match __x with
   | some smaller=>if smaller=true then pure (ForInStep.done (none,r.2)) else pure (ForInStep.yield (none,r.2+1))
   | x=>pure (ForInStep.done (some none,r.2))) Q st:=by
 have O:=C.ord
 refine wpS_forRange (I:=fun x c st'=>st'=st/\c=(none,x)/\x0≤x/\x≤nrem/\UpK lt k (arrOf st) lo x) ?step ?fin ⟨rfl,rfl,Nat.le_refl _,h1,hu⟩
 case fin =>
  rintro c st' ⟨rfl,rfl,a,b,u⟩
  rw [show max x0 nrem=nrem by lia] at u ⊢
  exact h nrem (by omega) (by lia) u (.inl rfl)
 case step =>
  rintro x c st' hx1 hx2 ⟨rfl,rfl,a,b,u⟩
  dsimp only
  refine wpS_bind (wpS_at C F hS (by lia) (by lia) ?_)
  cases e:lt (kx k (arrOf st') (lo+x)) (kx k (arrOf st') (lo+x - 1)) with
  | true =>
   dsimp only
   rw [if_pos rfl]
   exact wpS_pure (h x a b u (.inr e))
  | false =>
   dsimp only
   rw [if_neg (by decide)]
   refine wpS_pure ⟨rfl,rfl,by lia,by lia,fun i j hij hj=>?_⟩
   rcases Nat.lt_or_ge j x with z | z
   ·exact u i j hij z
   ·obtain rfl:j=x:=by lia
    rcases Nat.lt_or_ge i j with y | y
    ·rw [show lo+j - 1=lo+(j - 1) by lia] at e
     exact O.tr _ _ _ (u i (j - 1) (by lia) (by lia)) e
    ·obtain rfl:i=j:=by lia
     exact O.rf _
end
section
variable {κ:Type} {lt:κ->κ->Bool} {k:Keyed->κ} {S:Keyed->Prop} {kind:SortKind} {prog:Program} {w:World} {A:Around} {E:Value->Shared->Prop} {s:Shared}
noncomputable def descP (lo nrem n0:Nat):StateT SortSt Sem (Option Nat):=do
 rule "list.sort.descending-run"
 let mut n:=n0+1
 let mut neq:=0
 for _ in [n:nrem] do
  let some smaller ←ltAt' (lo+n) (lo+n - 1) | return none
  if smaller then
   if neq > 0 then reverseSlice' (lo+n - (neq+1)) (lo+n)
   neq:=0
  else
   let some larger ←ltAt' (lo+n - 1) (lo+n) | return none
   if larger then break
   neq:=neq+1
  n:=n+1
 if neq > 0 then reverseSlice' (lo+n - (neq+1)) (lo+n)
 reverseSlice' lo (lo+n)
 for _ in [n:nrem] do
  let some smaller ←ltAt' (lo+n) (lo+n - 1) | return none
  if smaller then break
  n:=n+1
 return some n
noncomputable def tail3 (lo nrem n0:Nat):StateT SortSt Sem (Option Nat):=do
 let mut n:=n0
 reverseSlice' lo (lo+n)
 for _ in [n:nrem] do
  let some smaller ←ltAt' (lo+n) (lo+n - 1) | return none
  if smaller then break
  n:=n+1
 return some n
theorem StA.rev {lo n:Nat} {st:SortSt} {i j:Nat} (F:Fine kind st) (hi:lo≤i) (hj:j≤lo+n) (hz:lo+n≤(arrOf st).size):StA kind lo n st (setArr st (mirror (arrOf st) i j ((j - i) / 2))) :=
 .set F (mirror_perm _ _ _ _) fun q hq=>by rw [getElem?_mirror_all (i:=i) (by lia) q,if_neg (by lia)]
theorem wpS_tail {st st0:SortSt} {lo nrem n:Nat} {Q:Option Nat->SortSt->Prop} (C:Cmp lt k S kind prog w A s) (hst:StA kind lo nrem st0 st) (hS:AllS S st) (hn:lo+nrem≤(arrOf st).size) (h1:1≤n) (h2:n≤nrem) (hd:DnK lt k (arrOf st) lo n)
  (h:∀ n st',StA kind lo nrem st0 st'->1≤n->n≤nrem->UpK lt k (arrOf st') lo n->Q (some n) st') :
  wpS (model prog w) A E s (tail3 lo nrem n) Q st:=by
 unfold tail3
 dsimp only
 rw [reverseSlice'_eq]
 refine wpS_bind (wpS_modify ?_)
 have hr:=StA.rev (lo:=lo) (i:=lo) (j:=lo+n) (n:=nrem) hst.fine (Nat.le_refl _) (by lia) hn
 have hst2:=hst.trans hr
 have hsz:=hr.size
 refine wpS_bind (wpS_asc C hst2.fine (hr.all hS) (by lia) h1 h2 (fun i j hij hj=>?_) fun m a b c _=>?_)
 ·show lt (kx k (mirror (arrOf st) lo (lo+n) ((lo+n - lo) / 2)) (lo+j)) (kx k (mirror (arrOf st) lo (lo+n) ((lo+n - lo) / 2)) (lo+i))=false
  rw [kx_rev (by lia),kx_rev (by lia),if_pos (by lia),if_pos (by lia),show lo+(lo+n) - 1 - (lo+j)=lo+(n - 1 - j) by lia,show lo+(lo+n) - 1 - (lo+i)=lo+(n - 1 - i) by lia]
  exact hd _ _ (by lia) (by lia)
 ·exact wpS_pure (h m _ hst2 (by lia) b c)
theorem wpS_descP {st st0:SortSt} {lo nrem n0:Nat} {Q:Option Nat->SortSt->Prop} (C:Cmp lt k S kind prog w A s) (hst:StA kind lo nrem st0 st) (hS:AllS S st) (hn:lo+nrem≤(arrOf st).size) (h2:n0+1≤nrem) (hd:DnK lt k (arrOf st) lo (n0+1))
  (h:∀ n st',StA kind lo nrem st0 st'->1≤n->n≤nrem->UpK lt k (arrOf st') lo n->Q (some n) st'):wpS (model prog w) A E s (descP lo nrem n0) Q st:=by
 have O:=C.ord
 unfold descP
 refine wpS_bind (wpS_lift (wpAny_rule ⟨rfl,?_⟩))
 dsimp only
 refine wpS_bind (wpS_mono (wpS_forRange (I:=fun x c st'=>StA kind lo nrem st0 st'/\AllS S st'/\(arrOf st').size=(arrOf st).size/\∃ n neq,c=(none,n,neq)/\n=x/\n0+1≤n/\n≤nrem/\DnK lt k (arrOf st') lo n/\neq+1≤n/\∀ i,n - (neq+1)≤i->i < n->kx k (arrOf st') (lo+i)=kx k (arrOf st') (lo+n - 1))
  (Q:=fun c st'=>StA kind lo nrem st0 st'/\AllS S st'/\(arrOf st').size=(arrOf st).size/\∃ n neq,c=(none,n,neq)/\n0+1≤n/\n≤nrem/\DnK lt k (arrOf st') lo n/\neq+1≤n/\∀ i,n - (neq+1)≤i->i < n->kx k (arrOf st') (lo+i)=kx k (arrOf st') (lo+n - 1)) ?step ?fin ?init) ?post)
 case init=>exact ⟨hst,hS,rfl,_,_,rfl,rfl,Nat.le_refl _,h2,hd,by lia,fun i a b=>by congr 1;lia⟩
 case fin =>
  rintro c st' ⟨a1,a2,a3,n,neq,rfl,e,b1,b2,b3,b4,b5⟩
  exact ⟨a1,a2,a3,n,neq,rfl,b1,b2,b3,b4,b5⟩
 case step =>
  rintro x c st' hx1 hx2 ⟨a1,a2,a3,n,neq,rfl,rfl,b1,b2,b3,b4,b5⟩
  have more:∀ xs:Array Keyed,(∀ q,kx k xs q=kx k (arrOf st') q)->lt (kx k (arrOf st') (lo+n)) (kx k (arrOf st') (lo+n - 1))=true->DnK lt k xs lo (n+1):=fun xs hk e i j hij hj=>by
   rw [hk,hk]
   rcases Nat.lt_or_ge j n with z | z
   ·exact b3 i j hij z
   ·obtain rfl:j=n:=by lia
    rcases Nat.lt_or_ge i j with y | y
    ·rw [show lo+j - 1=lo+(j - 1) by lia] at e
     exact O.tr (kx k (arrOf st') (lo+j)) (kx k (arrOf st') (lo+(j - 1))) (kx k (arrOf st') (lo+i)) (O.as _ _ e) (b3 i (j - 1) (by lia) (by lia))
    ·obtain rfl:i=j:=by lia
     exact O.rf _
  dsimp only
  refine wpS_bind (wpS_at C a1.fine a2 (by lia) (by lia) ?_)
  cases e:lt (kx k (arrOf st') (lo+n)) (kx k (arrOf st') (lo+n - 1)) with
  | true =>
   dsimp only
   rw [if_pos rfl]
   by_cases q0:neq > 0
   ·rw [if_pos q0,reverseSlice'_eq]
    have hr:=StA.rev (lo:=lo) (i:=lo+n - (neq+1)) (j:=lo+n) (n:=nrem) a1.fine (by lia) (by lia) (by lia)
    have hk:=kx_rev_eq (k:=k) (xs:=arrOf st') (i:=lo+n - (neq+1)) (j:=lo+n) (by lia) fun q q1 q2=>by
     have:=b5 (q - lo) (by lia) (by lia)
     rwa [show lo+(q - lo)=q by lia] at this
    refine wpS_bind (wpS_modify (wpS_pure ⟨a1.trans hr,hr.all a2,hr.size.trans a3,_,_,rfl,rfl,by lia,by lia,more _ hk e,by lia,fun i c d=>by congr 1;lia⟩))
   ·rw [if_neg q0]
    exact wpS_pure ⟨a1,a2,a3,_,_,rfl,rfl,by lia,by lia,more _ (fun _=>rfl) e,by lia,fun i c d=>by congr 1;lia⟩
  | false =>
   dsimp only
   rw [if_neg (by decide)]
   refine wpS_bind (wpS_at C a1.fine a2 (by lia) (by lia) ?_)
   cases e':lt (kx k (arrOf st') (lo+n - 1)) (kx k (arrOf st') (lo+n)) with
   | true =>
    dsimp only
    rw [if_pos rfl]
    exact wpS_pure ⟨a1,a2,a3,_,_,rfl,b1,b2,b3,b4,b5⟩
   | false =>
    dsimp only
    rw [if_neg (by decide)]
    have same:kx k (arrOf st') (lo+n)=kx k (arrOf st') (lo+n - 1):=O.an _ _ e e'
    refine wpS_pure ⟨a1,a2,a3,_,_,rfl,rfl,by lia,by lia,fun i j hij hj=>?_,by lia,fun i c d=>?_⟩
    ·rcases Nat.lt_or_ge j n with z | z
     ·exact b3 i j hij z
     ·obtain rfl:j=n:=by lia
      rcases Nat.lt_or_ge i j with y | y
      ·rw [same,show lo+j - 1=lo+(j - 1) by lia];exact b3 i (j - 1) (by lia) (by lia)
      ·obtain rfl:i=j:=by lia
       exact O.rf _
    ·rw [show lo+(n+1) - 1=lo+n by lia]
     rcases Nat.lt_or_ge i n with y | y
     ·rw [same];exact b5 i (by lia) y
     ·obtain rfl:i=n:=by lia
      rfl
 case post =>
  rintro c st' ⟨a1,a2,a3,n,neq,rfl,b1,b2,b3,b4,b5⟩
  dsimp only
  by_cases q0:neq > 0
  ·rw [if_pos q0,reverseSlice'_eq]
   have hr:=StA.rev (lo:=lo) (i:=lo+n - (neq+1)) (j:=lo+n) (n:=nrem) a1.fine (by lia) (by lia) (by lia)
   have hk:=kx_rev_eq (k:=k) (xs:=arrOf st') (i:=lo+n - (neq+1)) (j:=lo+n) (by lia) fun q q1 q2=>by
    have:=b5 (q - lo) (by lia) (by lia)
    rwa [show lo+(q - lo)=q by lia] at this
   refine wpS_bind (wpS_modify ?_)
   have hsz:=hr.size
   exact wpS_tail C (a1.trans hr) (hr.all a2) (by lia) (by lia) b2 (fun i j hij hj=>by
    show lt (kx k (mirror (arrOf st') (lo+n - (neq+1)) (lo+n) ((lo+n - (lo+n - (neq+1))) / 2)) (lo+i)) (kx k (mirror (arrOf st') (lo+n - (neq+1)) (lo+n) ((lo+n - (lo+n - (neq+1))) / 2)) (lo+j))=false
    rw [hk,hk]
    exact b3 i j hij hj) h
  ·rw [if_neg q0]
   exact wpS_tail C a1 a2 (by lia) (by lia) b2 b3 h
theorem wpS_count {st:SortSt} {lo nrem:Nat} {Q:Option Nat->SortSt->Prop} (C:Cmp lt k S kind prog w A s) (F:Fine kind st) (hS:AllS S st) (hn:lo+nrem≤(arrOf st).size) (h1:1≤nrem)
  (h:∀ n st',StA kind lo nrem st st'->1≤n->n≤nrem->UpK lt k (arrOf st') lo n->Q (some n) st'):wpS (model prog w) A E s (countRun' lo nrem) Q st:=by
 have O:=C.ord
 rw [countRun'_eq]
 refine wpS_bind (wpS_asc C F hS hn (Nat.le_refl 1) h1 (fun i j hij hj=>by obtain rfl:i=j:=(by lia);exact O.rf _) fun n a b c d=>?_)
 dsimp only
 by_cases e1:n=nrem
 ·rw [if_pos (by simpa using e1)]
  exact wpS_pure (h n st (.refl F) a b c)
 rw [if_neg (by simpa using e1)]
 have hlt:lt (kx k (arrOf st) (lo+n)) (kx k (arrOf st) (lo+n - 1))=true:=d.resolve_left e1
 by_cases e2:n > 1
 ·rw [if_pos e2]
  refine wpS_bind (wpS_at C F hS (by lia) (by lia) ?_)
  cases e3:lt (kx k (arrOf st) lo) (kx k (arrOf st) (lo+n - 1)) with
  | true =>
   dsimp only
   rw [if_pos rfl]
   exact wpS_pure (h n st (.refl F) a b c)
  | false =>
   dsimp only
   rw [if_neg (by decide),reverseSlice'_eq]
   refine wpS_bind (wpS_modify ?_)
   have hr:=StA.rev (lo:=lo) (i:=lo) (j:=lo+n) (n:=nrem) F (Nat.le_refl _) (by lia) hn
   have all:∀ q,lo≤q->q < lo+n->kx k (arrOf st) q=kx k (arrOf st) (lo+n - 1):=fun q q1 q2=>by
    have c0:=c 0 (q - lo) (Nat.zero_le _) (by lia)
    have c1:=c (q - lo) (n - 1) (by lia) (by lia)
    rw [show lo+(q - lo)=q by lia] at c0 c1
    rw [show lo+(n - 1)=lo+n - 1 by lia] at c1
    exact O.an _ _ (O.tr _ _ _ e3 c0) c1
   have hk:=kx_rev_eq (k:=k) (xs:=arrOf st) (i:=lo) (j:=lo+n) (by lia) all
   have hsz:=hr.size
   refine wpS_descP (n0:=n) C hr (hr.all hS) (by lia) (by lia) (fun i j hij hj=>?_) h
   show lt (kx k (mirror (arrOf st) lo (lo+n) ((lo+n - lo) / 2)) (lo+i)) (kx k (mirror (arrOf st) lo (lo+n) ((lo+n - lo) / 2)) (lo+j))=false
   rw [hk,hk]
   rcases Nat.lt_or_ge j n with z | z
   ·rw [all (lo+i) (by lia) (by lia),all (lo+j) (by lia) (by lia)];exact O.rf _
   ·obtain rfl:j=n:=by lia
    rcases Nat.lt_or_ge i j with y | y
    ·rw [all (lo+i) (by lia) (by lia)];exact O.as _ _ hlt
    ·obtain rfl:i=j:=by lia
     exact O.rf _
 ·rw [if_neg e2]
  obtain rfl:n=1:=by lia
  refine wpS_descP (n0:=1) C (.refl F) hS hn (by lia) (fun i j hij hj=>?_) h
  rcases Nat.lt_or_ge i j with y | y
  ·obtain rfl:i=0:=by lia
   obtain rfl:j=1:=by lia
   exact O.as _ _ hlt
  ·obtain rfl:i=j:=by lia
   exact O.rf _
end
theorem mergeAt'_eq (i:Nat):mergeAt' i=(do
 let s ←get
 let (some (sa,na,power),some (sb,nb,_)):=((pendingOf s)[i]?,(pendingOf s)[i+1]?) | unsupported "internal:list.sort.pending"
 set (setPending s (((pendingOf s).setIfInBounds i (sa,na+nb,power)).eraseIdxIfInBounds (i+1)))
 let some k ←gallop' false (←elem' (arrOf s) sb) (arrOf s) sa na 0 | return false
 let (sa,na):=(sa+k,na - k)
 if na==0 then return true
 let some nb ←gallop' true (←elem' (arrOf s) (sa+na - 1)) (arrOf s) sb nb (nb - 1) | return false
 if nb==0 then return true
 let x:=(arrOf s).extract sa sb
 let y:=(arrOf s).extract sb (sb+nb)
 let merged ←if na≤nb then mergeLo' x y else mergeHi' x y
 modify fun s=>setArr s (merged.toList.zipIdx.foldl (fun a (p,j)=>a.setIfInBounds (sa+j) p) (arrOf s))
 return (failedOf (←get)).isNone):=rfl
theorem fold_set:∀ (M:List Keyed) (xs:Array Keyed) (lo n:Nat),lo+n+M.length≤xs.size->((M.zipIdx n).foldl (fun a (p,j)=>a.setIfInBounds (lo+j) p) xs).toList=xs.toList.take (lo+n) ++ M ++ xs.toList.drop (lo+n+M.length)
 | [],xs,lo,n,h=>by simp
 | p :: M,xs,lo,n,h=>by
  rw [List.zipIdx_cons,List.foldl_cons]
  simp only [List.length_cons] at h ⊢
  have hs:(xs.setIfInBounds (lo+n) p).size=xs.size:=by simp
  have:=fold_set M (xs.setIfInBounds (lo+n) p) lo (n+1) (by rw [hs];lia)
  rw [this,Array.toList_setIfInBounds]
  have e1:(xs.toList.set (lo+n) p).take (lo+(n+1))=xs.toList.take (lo+n) ++ [p]:=by
   rw [show lo+(n+1)=(lo+n)+1 by lia,List.take_add_one,List.take_set_of_le (Nat.le_refl _),List.getElem?_set_self (by rw [Array.length_toList];lia)]
   rfl
  have e2:(xs.toList.set (lo+n) p).drop (lo+(n+1)+M.length)=xs.toList.drop (lo+n+(M.length+1)):=by
   rw [List.drop_set_of_lt (by lia),show lo+(n+1)+M.length=lo+n+(M.length+1) by lia]
  rw [e1,e2,List.append_assoc,List.append_assoc,List.append_assoc]
  rfl
section
variable {κ:Type} {lt:κ->κ->Bool} {k:Keyed->κ} {S:Keyed->Prop} {kind:SortKind} {prog:Program} {w:World} {A:Around} {E:Value->Shared->Prop} {s:Shared}
noncomputable abbrev seg (L:List Keyed) (lo n:Nat):List Keyed:=(L.drop lo).take n
noncomputable abbrev SegS (lt:κ->κ->Bool) (k:Keyed->κ) (L:List Keyed) (lo n:Nat):Prop:=(seg L lo n).Pairwise (Le lt k)
theorem wpS_set {st st':SortSt} {Q:PUnit->SortSt->Prop} (h:Q ⟨⟩ st'):wpS (model prog w) A E s (set st':StateT SortSt Sem PUnit) Q st:=by
 unfold wpS
 rw [StateT.run_set]
 exact wpAny_pure ⟨rfl,h⟩
theorem seg_add (L:List Keyed) (lo m n:Nat):seg L lo (m+n)=seg L lo m ++ seg L (lo+m) n:=by
 unfold seg
 rw [List.take_add,List.drop_drop]
theorem seg_len {L:List Keyed} {lo n:Nat} (h:lo+n≤L.length):(seg L lo n).length=n:=by
 unfold seg
 rw [List.length_take,List.length_drop]
 lia
theorem seg_at {L:List Keyed} {lo n i:Nat} (h:i < n):(seg L lo n)[i]?=L[lo+i]?:=by
 unfold seg
 rw [List.getElem?_take_of_lt h,List.getElem?_drop]
theorem seg_split (L:List Keyed) (lo n:Nat):L=L.take lo ++ seg L lo n ++ L.drop (lo+n):=by
 unfold seg
 rw [List.append_assoc,←List.drop_drop,List.take_append_drop,List.take_append_drop]
theorem seg_congr {L L':List Keyed} {lo n:Nat} (h:∀ i,lo≤i->i < lo+n->L'[i]?=L[i]?):seg L' lo n=seg L lo n:=by
 apply List.ext_getElem?
 intro i
 by_cases hi:i < n
 ·rw [seg_at hi,seg_at hi];exact h _ (by lia) (by lia)
 ·unfold seg
  rw [List.getElem?_take_eq_none (by lia),List.getElem?_take_eq_none (by lia)]
theorem upk_seg {xs:Array Keyed} {lo n:Nat} (h:lo+n≤xs.size) (u:UpK lt k xs lo n):SegS lt k xs.toList lo n:=by
 rw [SegS,List.pairwise_iff_getElem]
 intro i j hi hj hij
 have hl:=seg_len (L:=xs.toList) (lo:=lo) (n:=n) (by rw [Array.length_toList];exact h)
 have val:∀ i (hi:i < (seg xs.toList lo n).length),k (seg xs.toList lo n)[i]=kx k xs (lo+i):=fun i hi=>by
  have e:(seg xs.toList lo n)[i]?=some (seg xs.toList lo n)[i]:=List.getElem?_eq_getElem hi
  rw [seg_at (by lia),Array.getElem?_toList] at e
  unfold kx
  rw [e];rfl
 unfold Le
 rw [val,val]
 exact u i j (by lia) (by lia)
structure Mrg (lt:κ->κ->Bool) (k:Keyed->κ) (kind:SortKind) (lo n:Nat) (st st':SortSt):Prop where
 fine:Fine kind st'
 perm:(arrOf st').toList.Perm (arrOf st).toList
 out:∀ i,i < lo\/lo+n≤i->(arrOf st').toList[i]?=(arrOf st).toList[i]?
 srt:SegS lt k (arrOf st').toList lo n
theorem out_of {L M:List Keyed} {lo n:Nat} (hM:M.length=n) (h:lo+n≤L.length) (i:Nat) (hi:i < lo\/lo+n≤i):(L.take lo ++ M ++ L.drop (lo+n))[i]?=L[i]?:=by
 rcases hi with hi | hi
 ·rw [List.append_assoc,List.getElem?_append_left (by rw [List.length_take];lia),List.getElem?_take_of_lt hi]
 ·rw [List.getElem?_append_right (by rw [List.length_append,List.length_take];lia),List.getElem?_drop,List.length_append,List.length_take,hM]
  congr 1
  lia
theorem seg_of {L M:List Keyed} {lo n:Nat} (hM:M.length=n) (h:lo+n≤L.length):seg (L.take lo ++ M ++ L.drop (lo+n)) lo n=M:=by
 unfold seg
 rw [List.append_assoc,List.drop_left' (by rw [List.length_take];lia),List.take_left' hM]
theorem pw_app3 {X Y Z:List Keyed} (h1:X.Pairwise (Le lt k)) (h2:Y.Pairwise (Le lt k)) (h3:Z.Pairwise (Le lt k)) (h12:∀ x∈X,∀ y∈Y,Le lt k x y) (h13:∀ x∈X,∀ y∈Z,Le lt k x y) (h23:∀ x∈Y,∀ y∈Z,Le lt k x y):(X ++ Y ++ Z).Pairwise (Le lt k) :=
 List.pairwise_append.mpr ⟨List.pairwise_append.mpr ⟨h1,h2,h12⟩,h3,fun x hx y hy=>(List.mem_append.mp hx).elim (fun q=>h13 x q y hy) fun q=>h23 x q y hy⟩
theorem wpS_mergeAt {st:SortSt} {i sa na sb nb pw pw2:Nat} {Q:Bool->SortSt->Prop} (C:Cmp lt k S kind prog w A s) (F:Fine kind st) (hS:AllS S st) (e1:(pendingOf st)[i]?=some (sa,na,pw)) (e2:(pendingOf st)[i+1]?=some (sb,nb,pw2)) (hb:sb=sa+na) (n1:1≤na) (n2:1≤nb) (hz:sb+nb≤(arrOf st).size)
  (hA:SegS lt k (arrOf st).toList sa na) (hB:SegS lt k (arrOf st).toList sb nb)
  (h:∀ st',Mrg lt k kind sa (na+nb) st st'->pendingOf st'=((pendingOf st).setIfInBounds i (sa,na+nb,pw)).eraseIdxIfInBounds (i+1)->Q true st'):wpS (model prog w) A E s (mergeAt' i) Q st:=by
 subst hb
 generalize hL:(arrOf st).toList=L at hA hB
 have hlen:L.length=(arrOf st).size:=by rw [←hL,Array.length_toList]
 rw [mergeAt'_eq]
 refine wpS_bind (wpS_get ?_)
 rw [e1,e2]
 refine wpS_bind (wpS_set ?_)
 obtain ⟨b0,eb0⟩:∃ b0,L[sa+na]?=some b0:=⟨_,List.getElem?_eq_getElem (by lia)⟩
 have memL:∀ x∈L,S x:=fun x hx=>hS x (by rw [hL];exact hx)
 have same:∀ st',arrOf st'=arrOf st->Fine kind st'->SegS lt k L sa (na+nb)->Mrg lt k kind sa (na+nb) st st':=fun st' ea ff hs=>⟨ff,by rw [ea],fun _ _=>by rw [ea],by rw [ea,hL];exact hs⟩
 have F2:Fine kind (setPending st (((pendingOf st).setIfInBounds i (sa,na+nb,pw)).eraseIdxIfInBounds (i+1))):=⟨F.kd,F.fl⟩
 have hbB:(seg L (sa+na) nb)[0]?=some b0:=by rw [seg_at (by lia)];simpa using eb0
 refine wpS_bind (wpS_elem (by rw [hL];exact eb0) ?_)
 refine wpS_bind (wpS_gal C F2 (memL _ (List.mem_of_getElem? eb0)) hS (by lia) (by lia) (by rw [hL];exact hA) fun p hp lo hi=>?_)
 rw [hL] at lo hi
 simp only [Bool.false_eq_true,if_false] at lo hi
 have loB:∀ x∈(seg L sa na).take p,∀ y∈seg L (sa+na) nb,Le lt k x y:=fun x hx y hy=>by
  have:=le_all C hB hbB (lo x hx)
  exact this y (by simpa using hy)
 dsimp only
 by_cases c1:na - p=0
 ·rw [if_pos (by simpa using c1)]
  refine wpS_pure (h _ (same _ rfl F2 ?_) rfl)
  have:p=na:=by lia
  subst this
  rw [List.take_of_length_le (by rw [seg_len (by lia)];exact Nat.le_refl _)] at loB
  rw [SegS,seg_add]
  exact List.pairwise_append.mpr ⟨hA,hB,loB⟩
 rw [if_neg (by simpa using c1)]
 obtain ⟨al,eal⟩:∃ al,L[sa+p+(na - p) - 1]?=some al:=⟨_,List.getElem?_eq_getElem (by lia)⟩
 have ealA:(seg L sa na)[na - 1]?=some al:=by rw [seg_at (by lia),←eal];congr 1;lia
 refine wpS_bind (wpS_elem (by rw [hL];exact eal) ?_)
 refine wpS_bind (wpS_gal C F2 (memL _ (List.mem_of_getElem? eal)) hS (by omega) (by lia) (by rw [hL];exact hB) fun q hq lo2 hi2=>?_)
 rw [hL] at lo2 hi2
 simp only [if_true] at lo2 hi2
 have allA:∀ x∈seg L sa na,Le lt k x al:=fun x hx=>all_le C hA n1 ealA (C.ord.rf _) x (by rw [List.take_of_length_le (by rw [seg_len (by lia)];exact Nat.le_refl _)];exact hx)
 have hiA:∀ x∈seg L sa na,∀ y∈(seg L (sa+na) nb).drop q,Le lt k x y:=fun x hx y hy=>le_trans C (allA x hx) (hi2 y hy)
 dsimp only
 by_cases c2:q=0
 ·rw [if_pos (by simpa using c2)]
  refine wpS_pure (h _ (same _ rfl F2 ?_) rfl)
  subst c2
  rw [SegS,seg_add]
  exact List.pairwise_append.mpr ⟨hA,hB,fun x hx y hy=>hiA x hx y (by simpa using hy)⟩
 rw [if_neg (by simpa using c2)]
 have ex:((arrOf st).extract (sa+p) (sa+na)).toList=(seg L sa na).drop p:=by
  rw [ext_list,hL,List.drop_take,List.drop_drop]
  congr 1
  lia
 have ey:((arrOf st).extract (sa+na) (sa+na+q)).toList=(seg L (sa+na) nb).take q:=by
  rw [ext_list,hL,List.take_take,show sa+na+q - (sa+na)=q by lia,show min q nb=q by lia]
 have hx1:((arrOf st).extract (sa+p) (sa+na)).size=na - p:=by rw [Array.size_extract];lia
 have hy1:((arrOf st).extract (sa+na) (sa+na+q)).size=q:=by rw [Array.size_extract];lia
 have subA:∀ x∈seg L sa na,S x:=fun x hx=>memL x (List.mem_of_mem_drop (List.mem_of_mem_take hx))
 have subB:∀ x∈seg L (sa+na) nb,S x:=fun x hx=>memL x (List.mem_of_mem_drop (List.mem_of_mem_take hx))
 have sX:((seg L sa na).drop p).Pairwise (Le lt k):=hA.sublist (List.drop_sublist _ _)
 have sY:((seg L (sa+na) nb).take q).Pairwise (Le lt k):=hB.sublist (List.take_sublist _ _)
 have y0:∀ v,((seg L (sa+na) nb).take q)[0]?=some v->v=b0:=fun v hv=>by
  rw [List.getElem?_take_of_lt (by lia),hbB] at hv
  exact (Option.some.inj hv).symm
 have xl:∀ v,((seg L sa na).drop p)[na - p - 1]?=some v->v=al:=fun v hv=>by
  rw [List.getElem?_drop,show p+(na - p - 1)=na - 1 by lia,ealA] at hv
  exact (Option.some.inj hv).symm
 have fin:∀ (r:Array Keyed) (st':SortSt),St0 kind (setPending st (((pendingOf st).setIfInBounds i (sa,na+nb,pw)).eraseIdxIfInBounds (i+1))) st'->Good lt k ((arrOf st).extract (sa+p) (sa+na)) ((arrOf st).extract (sa+na) (sa+na+q)) r ->
   wpS (model prog w) A E s (do
    modify fun s=>setArr s (r.toList.zipIdx.foldl (fun a (x:Keyed×Nat)=>a.setIfInBounds (sa+p+x.2) x.1) (arrOf s))
    let __s ←get
    pure (failedOf __s).isNone) Q st':=by
  rintro r st' s0 ⟨g1,g2⟩
  rw [ex,ey] at g1
  have rl:r.toList.length=na - p+q:=by
   rw [g1.length_eq]
   simp only [seg,List.length_append,List.length_drop,List.length_take]
   lia
  have ea:arrOf st'=arrOf st:=s0.ar
  have fs:=fold_set r.toList (arrOf st') (sa+p) 0 (by rw [ea];lia)
  refine wpS_bind (wpS_modify ?_)
  refine wpS_bind (wpS_get ?_)
  have efail:(failedOf (setArr st' (r.toList.zipIdx.foldl (fun a (x:Keyed×Nat)=>a.setIfInBounds (sa+p+x.2) x.1) (arrOf st')))).isNone=true:=by
   show (failedOf st').isNone=true
   rw [s0.fine.fl];rfl
  rw [efail]
  have eL:(r.toList.zipIdx.foldl (fun a (x:Keyed×Nat)=>a.setIfInBounds (sa+p+x.2) x.1) (arrOf st')).toList=L.take sa ++ ((seg L sa na).take p ++ r.toList ++ (seg L (sa+na) nb).drop q) ++ L.drop (sa+(na+nb)):=by
   refine fs.trans ?_
   rw [ea,hL,rl,Nat.add_zero]
   have t1:L.take (sa+p)=L.take sa ++ (seg L sa na).take p:=by
    rw [List.take_add,List.take_take,show min p na=p by lia]
   have t2:L.drop (sa+p+(na - p+q))=(seg L (sa+na) nb).drop q ++ L.drop (sa+(na+nb)):=by
    rw [show sa+p+(na - p+q)=(sa+na)+q by lia,←List.drop_drop]
    conv=>lhs;rw [←List.take_append_drop nb (L.drop (sa+na))]
    rw [List.drop_append_of_le_length (by rw [List.length_take,List.length_drop];lia),List.drop_drop,show sa+na+nb=sa+(na+nb) by lia]
   rw [t1,t2]
   simp only [List.append_assoc]
  have Ml:((seg L sa na).take p ++ r.toList ++ (seg L (sa+na) nb).drop q).length=na+nb:=by
   rw [List.length_append,List.length_append,rl]
   simp only [seg,List.length_drop,List.length_take]
   lia
  have perm1:((seg L sa na).take p ++ r.toList ++ (seg L (sa+na) nb).drop q).Perm (seg L sa (na+nb)):=by
   rw [seg_add]
   have:((seg L sa na).take p ++ r.toList ++ (seg L (sa+na) nb).drop q).Perm ((seg L sa na).take p ++ ((seg L sa na).drop p ++ (seg L (sa+na) nb).take q) ++ (seg L (sa+na) nb).drop q):=(List.Perm.append_left _ g1).append_right _
   refine this.trans (List.Perm.of_eq ?_)
   rw [←List.append_assoc,List.take_append_drop,List.append_assoc,List.take_append_drop]
  refine wpS_pure (h _ ⟨⟨s0.fine.kd,s0.fine.fl⟩,?_,?_,?_⟩ ?_)
  ·show (r.toList.zipIdx.foldl _ (arrOf st')).toList.Perm _
   rw [eL,hL]
   conv=>rhs;rw [seg_split L sa (na+nb)]
   exact (List.Perm.append_left _ perm1).append_right _
  ·intro j hj
   show (r.toList.zipIdx.foldl _ (arrOf st')).toList[j]?=_
   rw [eL,hL]
   exact out_of Ml (by lia) j hj
  ·show SegS lt k (r.toList.zipIdx.foldl _ (arrOf st')).toList sa (na+nb)
   rw [SegS,eL,seg_of Ml (by lia)]
   have mem:∀ y∈r.toList,y∈(seg L sa na).drop p\/y∈(seg L (sa+na) nb).take q:=fun y hy=>List.mem_append.mp (g1.mem_iff.mp hy)
   have spl:((seg L sa na).take p ++ (seg L sa na).drop p).Pairwise (Le lt k):=by rw [List.take_append_drop];exact hA
   have splB:((seg L (sa+na) nb).take q ++ (seg L (sa+na) nb).drop q).Pairwise (Le lt k):=by rw [List.take_append_drop];exact hB
   refine pw_app3 (hA.sublist (List.take_sublist _ _)) g2 (hB.sublist (List.drop_sublist _ _)) (fun x hx y hy=>?_) (fun x hx y hy=>hiA x (List.mem_of_mem_take hx) y hy) (fun x hx y hy=>?_)
   ·rcases mem y hy with z | z
    ·exact (List.pairwise_append.mp spl).2.2 x hx y z
    ·exact loB x hx y (List.mem_of_mem_take z)
   ·rcases mem x hx with z | z
    ·exact hiA x (List.mem_of_mem_drop z) y hy
    ·exact (List.pairwise_append.mp splB).2.2 x z y hy
  ·exact s0.pd
 have hl':∀ x∈((arrOf st).extract (sa+na) (sa+na+q)).toList,∀ y,((arrOf st).extract (sa+p) (sa+na)).toList[((arrOf st).extract (sa+p) (sa+na)).size - 1]?=some y->Le lt k x y:=fun x hx y hy=>by
  rw [ey] at hx
  rw [ex,hx1] at hy
  rw [xl y hy]
  exact le_of_lt C (lo2 x hx)
 have hf':∀ x,((arrOf st).extract (sa+na) (sa+na+q)).toList[0]?=some x->∀ y∈((arrOf st).extract (sa+p) (sa+na)).toList,Le lt k x y:=fun x hx y hy=>by
  rw [ey] at hx
  rw [ex] at hy
  rw [y0 x hx]
  exact le_of_lt C (hi y hy)
 have hSx:∀ x∈((arrOf st).extract (sa+p) (sa+na)).toList,S x:=fun x hx=>subA x (by rw [ex] at hx;exact List.mem_of_mem_drop hx)
 have hSy:∀ x∈((arrOf st).extract (sa+na) (sa+na+q)).toList,S x:=fun x hx=>subB x (by rw [ey] at hx;exact List.mem_of_mem_take hx)
 by_cases c3:na - p≤q
 ·rw [if_pos c3]
  exact wpS_bind (wpS_mergeLo C F2 hSx hSy (by rw [ex];exact sX) (by rw [ey];exact sY) (by lia) (by lia) (fun x y hx hy=>hf' x hx y (List.mem_of_getElem? hy)) hl' fin)
 ·rw [if_neg c3]
  exact wpS_bind (wpS_mergeHi C F2 hSx hSy (by rw [ex];exact sX) (by rw [ey];exact sY) (by lia) (by lia) hf' hl' fin)
end
section
variable {κ:Type} {lt:κ->κ->Bool} {k:Keyed->κ} {S:Keyed->Prop} {kind:SortKind} {prog:Program} {w:World} {A:Around} {E:Value->Shared->Prop} {s:Shared}
noncomputable def Runs (lt:κ->κ->Bool) (k:Keyed->κ) (L:List Keyed):List (Nat×Nat×Nat)->Nat->Nat->Prop
 | [],f,t=>f=t
 | (s,n,_) :: r,f,t=>s=f/\1≤n/\SegS lt k L f n/\Runs lt k L r (f+n) t
theorem runs_app {L:List Keyed}:∀ {p q:List (Nat×Nat×Nat)} {f t:Nat},Runs lt k L (p ++ q) f t↔∃ m,Runs lt k L p f m/\Runs lt k L q m t
 | [],q,f,t=>⟨fun h=>⟨f,rfl,h⟩,fun ⟨m,e,h⟩=>by cases e;exact h⟩
 | (s,n,x) :: p,q,f,t=>by
  constructor
  ·rintro ⟨a,b,c,d⟩
   obtain ⟨m,h1,h2⟩:=runs_app.mp d
   exact ⟨m,⟨a,b,c,h1⟩,h2⟩
  ·rintro ⟨m,⟨a,b,c,d⟩,h2⟩
   exact ⟨a,b,c,runs_app.mpr ⟨m,d,h2⟩⟩
theorem runs_len {L:List Keyed}:∀ {p:List (Nat×Nat×Nat)} {f t:Nat},Runs lt k L p f t->f+p.length≤t
 | [],f,t,h=>by cases h;simp
 | (s,n,x) :: p,f,t,⟨_,b,_,d⟩=>by
  have:=runs_len d
  simp only [List.length_cons]
  lia
theorem runs_frame {L L':List Keyed}:∀ {p:List (Nat×Nat×Nat)} {f t:Nat},(∀ i,f≤i->i < t->L'[i]?=L[i]?)->Runs lt k L p f t->Runs lt k L' p f t
 | [],f,t,_,h=>h
 | (s,n,x) :: p,f,t,hh,⟨a,b,c,d⟩=>by
  have hl:=runs_len d
  refine ⟨a,b,?_,runs_frame (fun i h1 h2=>hh i (by lia) h2) d⟩
  rw [SegS,seg_congr fun i h1 h2=>hh i h1 (by lia)]
  exact c
theorem runs_pi {L:List Keyed}:∀ {p q:List (Nat×Nat×Nat)} {f t:Nat},p.map (fun x=>(x.1,x.2.1))=q.map (fun x=>(x.1,x.2.1))->Runs lt k L p f t->Runs lt k L q f t
 | [],[],f,t,_,h=>h
 | [],_ :: _,f,t,e,h=>by simp at e
 | _ :: _,[],f,t,e,h=>by simp at e
 | (s,n,x) :: p,(s',n',x') :: q,f,t,e,⟨a,b,c,d⟩=>by
  simp only [List.map_cons,List.cons.injEq,Prod.mk.injEq] at e
  obtain ⟨⟨rfl,rfl⟩,e⟩:=e
  exact ⟨a,b,c,runs_pi e d⟩
theorem split2 {ps:Array (Nat×Nat×Nat)} {i:Nat} (h:i+1 < ps.size):∃ pre post sa na pw sb nb pw2,ps.toList=pre ++ (sa,na,pw) :: (sb,nb,pw2) :: post/\pre.length=i/\ps[i]?=some (sa,na,pw)/\ps[i+1]?=some (sb,nb,pw2) /\
  ∀ x,((ps.setIfInBounds i x).eraseIdxIfInBounds (i+1)).toList=pre ++ x :: post:=by
 have hl:ps.toList.length=ps.size:=Array.length_toList
 refine ⟨ps.toList.take i,ps.toList.drop (i+2),ps[i].1,ps[i].2.1,ps[i].2.2,ps[i+1].1,ps[i+1].2.1,ps[i+1].2.2,?_,by rw [List.length_take];lia,Array.getElem?_eq_getElem (by omega),Array.getElem?_eq_getElem (by omega),fun x=>?_⟩
 ·conv=>lhs;rw [←List.take_append_drop i ps.toList]
  rw [List.drop_eq_getElem_cons (by lia),List.drop_eq_getElem_cons (by omega)]
  simp
 ·rw [Array.eraseIdxIfInBounds]
  rw [dif_pos (by simp;omega),Array.toList_eraseIdx,Array.toList_setIfInBounds,List.eraseIdx_eq_take_drop_succ]
  rw [List.take_add_one,List.take_set_of_le (Nat.le_refl _),List.getElem?_set_self (by lia),List.drop_set_of_lt (by lia)]
  simp
structure SInv (S:Keyed->Prop) (kind:SortKind) (a₀:Array Keyed) (st:SortSt):Prop where
 fine:Fine kind st
 perm:(arrOf st).toList.Perm a₀.toList
 all:AllS S st
theorem SInv.size {a₀:Array Keyed} {st:SortSt} (h:SInv S kind a₀ st):(arrOf st).size=a₀.size:=by have:=h.perm.length_eq;simpa using this
theorem wpS_mergeRuns {a₀:Array Keyed} {st:SortSt} {i t:Nat} {Q:Bool->SortSt->Prop} (C:Cmp lt k S kind prog w A s) (I:SInv S kind a₀ st) (hi:i+1 < (pendingOf st).size) (ht:t≤a₀.size) (hR:Runs lt k (arrOf st).toList (pendingOf st).toList 0 t)
  (h:∀ st',SInv S kind a₀ st'->Runs lt k (arrOf st').toList (pendingOf st').toList 0 t->(pendingOf st').size+1=(pendingOf st).size->(∀ j,t≤j->(arrOf st').toList[j]?=(arrOf st).toList[j]?)->Q true st'):wpS (model prog w) A E s (mergeAt' i) Q st:=by
 obtain ⟨pre,post,sa,na,pw,sb,nb,pw2,e,el,e1,e2,en⟩:=split2 hi
 rw [e] at hR
 obtain ⟨m,r1,r2⟩:=runs_app.mp hR
 obtain ⟨rfl,b1,c1,rfl,b2,c2,d2⟩:=r2
 have hl:=runs_len d2
 have hl0:=runs_len r1
 have hsz:=I.size
 refine wpS_mergeAt C I.fine I.all e1 e2 rfl b1 b2 (by lia) c1 c2 fun st' M hp=>?_
 have hpl:(pendingOf st').toList=pre ++ (sa,na+nb,pw) :: post:=by rw [hp];exact en _
 refine h st' ⟨M.fine,M.perm.trans I.perm,fun x hx=>I.all x (M.perm.mem_iff.mp hx)⟩ ?_ ?_ fun j hj=>M.out j (.inr (by lia))
 ·rw [hpl]
  refine runs_app.mpr ⟨sa,runs_frame (fun j h1 h2=>M.out j (.inl h2)) r1,rfl,by lia,M.srt,?_⟩
  rw [show sa+(na+nb)=sa+na+nb by lia]
  exact runs_frame (fun j h1 h2=>M.out j (.inr (by lia))) d2
 ·have h1:=congrArg List.length hpl
  have h2:=congrArg List.length e
  simp only [Array.length_toList,List.length_append,List.length_cons] at h1 h2
  lia
theorem pow_pi (ps:Array (Nat×Nat×Nat)) (i pw:Nat):(ps.modify i fun x=>(x.1,x.2.1,pw)).toList.map (fun x=>(x.1,x.2.1))=ps.toList.map (fun x=>(x.1,x.2.1)):=by
 apply List.ext_getElem?
 intro j
 rw [List.getElem?_map,List.getElem?_map,Array.getElem?_toList,Array.getElem?_toList,Array.getElem?_modify]
 split
 ·cases ps[j]? with
  | none=>rfl
  | some x=>rfl
 ·rfl
theorem wpS_sortRuns {a₀:Array Keyed} {st:SortSt} {Q:Unit->SortSt->Prop} (C:Cmp lt k S kind prog w A s) (h2:2≤a₀.size) (I:SInv S kind a₀ st) (hp0:pendingOf st=#[])
  (h:∀ st',SInv S kind a₀ st'->(arrOf st').toList.Pairwise (Le lt k)->Q () st'):wpS (model prog w) A E s sortRuns' Q st:=by
 have hsz0:=I.size
 rw [sortRuns'_eq]
 refine wpS_bind (wpS_get ?_)
 dsimp only
 rw [hsz0]
 generalize minRun' a₀.size a₀.size 0=minrun
 refine wpS_bind (wpS_mono (wpS_forRange (I:=fun t c st'=>SInv S kind a₀ st'/\∃ lo,c=(none,lo)/\min t a₀.size≤lo/\lo≤a₀.size/\Runs lt k (arrOf st').toList (pendingOf st').toList 0 lo)
  (Q:=fun c st'=>SInv S kind a₀ st'/\c=(none,a₀.size)/\Runs lt k (arrOf st').toList (pendingOf st').toList 0 a₀.size) ?step ?fin ?init) ?post)
 case init=>exact ⟨I,0,rfl,by lia,by lia,by rw [hp0];rfl⟩
 case fin =>
  rintro c st' ⟨I',lo,rfl,a,b,r⟩
  have:lo=a₀.size:=by lia
  subst this
  exact ⟨I',rfl,r⟩
 case post =>
  rintro c st' ⟨I',rfl,r⟩
  dsimp only
  refine wpS_bind (wpS_mono (wpS_forRange (I:=fun t c st'=>SInv S kind a₀ st'/\c=(none,())/\(pendingOf st').size+t≤a₀.size/\Runs lt k (arrOf st').toList (pendingOf st').toList 0 a₀.size)
   (Q:=fun c st'=>SInv S kind a₀ st'/\c=(none,())/\(pendingOf st').size≤1/\Runs lt k (arrOf st').toList (pendingOf st').toList 0 a₀.size) ?step2 ?fin2 ?init2) ?post2)
  case init2 =>
   have:=runs_len r
   simp only [Array.length_toList] at this
   exact ⟨I',rfl,by lia,r⟩
  case fin2 =>
   rintro c st2 ⟨I2,rfl,a,r⟩
   exact ⟨I2,rfl,by lia,r⟩
  case post2 =>
   rintro c st2 ⟨I2,rfl,a,r⟩
   refine wpS_pure (h st2 I2 ?_)
   have hs2:=I2.size
   have hl:(pendingOf st2).toList.length≤1:=by rw [Array.length_toList];exact a
   match hq:(pendingOf st2).toList,hl,r with
   | [],_,r=>exact absurd (show 0=a₀.size from r) (by lia)
   | [(x,n,y)],_,⟨_,_,c,d⟩ =>
    have d:0+n=a₀.size:=d
    have:seg (arrOf st2).toList 0 n=(arrOf st2).toList:=List.take_of_length_le (by rw [List.length_drop,Array.length_toList];lia)
    rw [SegS,this] at c
    exact c
   | _ :: _ :: _,hl,_=>simp at hl
  case step2 =>
   rintro t c st2 _ ht ⟨I2,rfl,a,r⟩
   refine wpS_bind (wpS_get ?_)
   by_cases c1:(pendingOf st2).size≤1
   ·rw [if_pos c1]
    exact wpS_pure ⟨I2,rfl,c1,r⟩
   rw [if_neg c1]
   generalize hii:(if (if (pendingOf st2).size - 2 > 0 then Option.map (fun x=>x.snd.fst) (pendingOf st2)[(pendingOf st2).size - 2 - 1]? else none).any (fun x=>decide (x < ((pendingOf st2)[(pendingOf st2).size - 2+1]?).elim 0 fun x=>x.snd.fst))=true then (pendingOf st2).size - 2 - 1 else (pendingOf st2).size - 2)=ii
   have hi:ii+1 < (pendingOf st2).size:=by
    have key:∀ (c:Prop) [Decidable c] (x:Nat),(if c then x - 1 else x)≤x:=fun c _ x=>by split <;> lia
    have h3:ii≤(pendingOf st2).size - 2:=by rw [←hii];exact key _ _
    lia
   refine wpS_bind (wpS_mergeRuns C I2 hi (Nat.le_refl _) r fun st3 I3 r3 p3 _=>?_)
   simp only [Bool.not_true,Bool.false_eq_true,if_false]
   exact wpS_pure ⟨I3,rfl,by lia,r3⟩
 case step =>
  rintro t c st1 _ ht ⟨I1,lo,rfl,a,b,r⟩
  have hs1:=I1.size
  dsimp only
  by_cases c1:lo ≥ a₀.size
  ·rw [if_pos c1]
   have:lo=a₀.size:=by lia
   subst this
   exact wpS_pure ⟨I1,rfl,r⟩
  rw [if_neg c1]
  refine wpS_bind (wpS_count C I1.fine I1.all (by lia) (by lia) fun n st2 s2 n1 n2 u2=>?_)
  dsimp only
  have mk:∀ {st3:SortSt} (s3:StA kind lo (a₀.size - lo) st1 st3),SInv S kind a₀ st3/\Runs lt k (arrOf st3).toList (pendingOf st3).toList 0 lo:=fun {st3} s3=>by
   refine ⟨⟨s3.fine,(Array.perm_iff_toList_perm.mp s3.perm).trans I1.perm,s3.all I1.all⟩,?_⟩
   rw [s3.pd]
   exact runs_frame (fun j h1 h2=>by rw [Array.getElem?_toList,Array.getElem?_toList];exact s3.out j (.inl h2)) r
  have more:∀ (n:Nat) (st3:SortSt),StA kind lo (a₀.size - lo) st1 st3->1≤n->n≤a₀.size - lo->UpK lt k (arrOf st3) lo n->SInv S kind a₀ st3/\Runs lt k (arrOf st3).toList (pendingOf st3).toList 0 lo/\SegS lt k (arrOf st3).toList lo n:=fun n st3 s3 _ hn u=>⟨(mk s3).1,(mk s3).2,upk_seg (by rw [s3.size];lia) u⟩
  have push:∀ (n:Nat) (st3:SortSt),SInv S kind a₀ st3->1≤n->n≤a₀.size - lo->Runs lt k (arrOf st3).toList (pendingOf st3).toList 0 lo->SegS lt k (arrOf st3).toList lo n ->
    SInv S kind a₀ (setPending st3 ((pendingOf st3).push (lo,n,0)))/\∃ lo',((none:Option Unit),lo+n)=(none,lo')/\min (t+1) a₀.size≤lo'/\lo'≤a₀.size/\Runs lt k (arrOf (setPending st3 ((pendingOf st3).push (lo,n,0)))).toList (pendingOf (setPending st3 ((pendingOf st3).push (lo,n,0)))).toList 0 lo':=fun n st3 I3 n1 n2 r3 g3=>by
   refine ⟨⟨⟨I3.fine.kd,I3.fine.fl⟩,I3.perm,I3.all⟩,lo+n,rfl,by lia,by lia,?_⟩
   show Runs lt k (arrOf st3).toList ((pendingOf st3).push (lo,n,0)).toList 0 (lo+n)
   rw [Array.toList_push]
   exact runs_app.mpr ⟨lo,r3,rfl,n1,g3,rfl⟩
  by_cases c2:n < minrun
  ·rw [if_pos c2]
   refine wpS_bind (wpS_lift (wpAny_rule ⟨rfl,?_⟩))
   have hs2:=s2.size
   refine wpS_bind (wpS_binary C s2.fine (s2.all I1.all) (by lia) (by lia) u2 fun st3 s3 u3=>?_)
   simp only [Bool.not_true,Bool.false_eq_true,if_false]
   have s3':StA kind lo (a₀.size - lo) st2 st3:=⟨s3.pd,s3.fine,s3.perm,fun j hj=>s3.out j (hj.imp id fun z=>by lia)⟩
   have n3:1≤min (a₀.size - lo) minrun:=by lia
   have n4:min (a₀.size - lo) minrun≤a₀.size - lo:=by lia
   obtain ⟨I3,r3,g3⟩:=more _ st3 (s2.trans s3') n3 n4 u3
   refine wpS_bind (wpS_get ?_)
   cases hb:(pendingOf st3).back? with
   | none =>
    dsimp only
    exact wpS_bind (wpS_modify (wpS_pure (push (min (a₀.size - lo) minrun) st3 I3 n3 n4 r3 g3)))
   | some x =>
    obtain ⟨s1,m1,x3⟩:=x
    dsimp only
    generalize power' a₀.size (2 * s1+m1) (2 * s1+m1+m1+min (a₀.size - lo) minrun) a₀.size=pw
    refine wpS_bind (wpS_mono (wpS_forRange (I:=fun _ c st'=>SInv S kind a₀ st'/\c=(none,())/\Runs lt k (arrOf st').toList (pendingOf st').toList 0 lo/\SegS lt k (arrOf st').toList lo (min (a₀.size - lo) minrun))
     (Q:=fun c st'=>SInv S kind a₀ st'/\c=(none,())/\Runs lt k (arrOf st').toList (pendingOf st').toList 0 lo/\SegS lt k (arrOf st').toList lo (min (a₀.size - lo) minrun)) ?istep ?ifin ?iinit) ?ipost)
    case iinit=>exact ⟨I3,rfl,r3,g3⟩
    case ifin=>exact fun _ _ q=>q
    case istep =>
     rintro u c st4 _ hu ⟨I4,rfl,r4,g4⟩
     refine wpS_bind (wpS_get ?_)
     cases hq:(if (pendingOf st4).size > 1 then (pendingOf st4)[(pendingOf st4).size - 2]? else none) with
     | none =>
      dsimp only
      exact wpS_pure ⟨I4,rfl,r4,g4⟩
     | some x =>
      obtain ⟨y1,y2,older⟩:=x
      dsimp only
      have big:(pendingOf st4).size > 1:=by
       rcases Nat.lt_or_ge 1 (pendingOf st4).size with z | z
       ·exact z
       ·rw [if_neg (by lia)] at hq;cases hq
      by_cases c5:older≤pw
      ·rw [if_pos c5]
       exact wpS_pure ⟨I4,rfl,r4,g4⟩
      rw [if_neg c5]
      refine wpS_bind (wpS_mergeRuns C I4 (by lia) b r4 fun st5 I5 r5 _ out5=>?_)
      simp only [Bool.not_true,Bool.false_eq_true,if_false]
      refine wpS_pure ⟨I5,rfl,r5,?_⟩
      rw [SegS,seg_congr fun j h1 h2=>out5 j h1]
      exact g4
    case ipost =>
     rintro c st4 ⟨I4,rfl,r4,g4⟩
     dsimp only
     refine wpS_bind (wpS_modify ?_)
     refine wpS_bind (wpS_modify (wpS_pure (push (min (a₀.size - lo) minrun) (setPending st4 ((pendingOf st4).modify ((pendingOf st4).size - 1) fun x=>(x.1,x.2.1,pw))) ⟨⟨I4.fine.kd,I4.fine.fl⟩,I4.perm,I4.all⟩ n3 n4 ?_ g4)))
     exact runs_pi (pow_pi _ _ _).symm r4
  ·rw [if_neg c2]
   have n3:=n1
   have n4:=n2
   obtain ⟨I3,r3,g3⟩:=more _ st2 s2 n3 n4 u2
   refine wpS_bind (wpS_get ?_)
   cases hb:(pendingOf st2).back? with
   | none =>
    dsimp only
    exact wpS_bind (wpS_modify (wpS_pure (push n st2 I3 n3 n4 r3 g3)))
   | some x =>
    obtain ⟨s1,m1,x3⟩:=x
    dsimp only
    generalize power' a₀.size (2 * s1+m1) (2 * s1+m1+m1+n) a₀.size=pw
    refine wpS_bind (wpS_mono (wpS_forRange (I:=fun _ c st'=>SInv S kind a₀ st'/\c=(none,())/\Runs lt k (arrOf st').toList (pendingOf st').toList 0 lo/\SegS lt k (arrOf st').toList lo n)
     (Q:=fun c st'=>SInv S kind a₀ st'/\c=(none,())/\Runs lt k (arrOf st').toList (pendingOf st').toList 0 lo/\SegS lt k (arrOf st').toList lo n) ?istep ?ifin ?iinit) ?ipost)
    case iinit=>exact ⟨I3,rfl,r3,g3⟩
    case ifin=>exact fun _ _ q=>q
    case istep =>
     rintro u c st4 _ hu ⟨I4,rfl,r4,g4⟩
     refine wpS_bind (wpS_get ?_)
     cases hq:(if (pendingOf st4).size > 1 then (pendingOf st4)[(pendingOf st4).size - 2]? else none) with
     | none =>
      dsimp only
      exact wpS_pure ⟨I4,rfl,r4,g4⟩
     | some x =>
      obtain ⟨y1,y2,older⟩:=x
      dsimp only
      have big:(pendingOf st4).size > 1:=by
       rcases Nat.lt_or_ge 1 (pendingOf st4).size with z | z
       ·exact z
       ·rw [if_neg (by lia)] at hq;cases hq
      by_cases c5:older≤pw
      ·rw [if_pos c5]
       exact wpS_pure ⟨I4,rfl,r4,g4⟩
      rw [if_neg c5]
      refine wpS_bind (wpS_mergeRuns C I4 (by lia) b r4 fun st5 I5 r5 _ out5=>?_)
      simp only [Bool.not_true,Bool.false_eq_true,if_false]
      refine wpS_pure ⟨I5,rfl,r5,?_⟩
      rw [SegS,seg_congr fun j h1 h2=>out5 j h1]
      exact g4
    case ipost =>
     rintro c st4 ⟨I4,rfl,r4,g4⟩
     dsimp only
     refine wpS_bind (wpS_modify ?_)
     refine wpS_bind (wpS_modify (wpS_pure (push n (setPending st4 ((pendingOf st4).modify ((pendingOf st4).size - 1) fun x=>(x.1,x.2.1,pw))) ⟨⟨I4.fine.kd,I4.fine.fl⟩,I4.perm,I4.all⟩ n3 n4 ?_ g4)))
     exact runs_pi (pow_pi _ _ _).symm r4
end
theorem zip_self {α:Type}:∀ vs:List α,vs.zip vs=vs.map fun v=>(v,v)
 | []=>rfl
 | v :: vs=>by rw [List.zip_cons_cons,zip_self vs];rfl
section
variable {κ:Type} {lt:κ->κ->Bool} {k:Keyed->κ} {S:Keyed->Prop} {kind:SortKind} {prog:Program} {w:World} {A:Around} {E:Value->Shared->Prop} {s:Shared}
theorem list_sort_any {a:Addr} {vs:List Value} {n:Nat} {P:PySem.Fin->Shared->Prop} (ho:s.heap.get? a=some (seqObj "list" vs.toArray n)) (h2:2≤vs.length) (hz:vs.length≤sizeLine)
  (hk:∀ h':Heap,(∀ b o,b≠a->s.heap.get? b=some o->h'.get? b=some o)->∀ {Q:SortKind->Shared->Prop} {E':Value->Shared->Prop},Q kind { s with heap:=h' }->wpAny (model prog w) A (keyKind' vs.toArray) Q E' { s with heap:=h' })
  (hC:∀ h':Heap,(∀ b o,b≠a->s.heap.get? b=some o->h'.get? b=some o)->Cmp lt k S kind prog w A { s with heap:=h' }) (hS:∀ v∈vs,S (v,v))
  (h:∀ out:List Value,out.Perm vs->out.Pairwise (fun x y=>Le lt k (x,x) (y,y))->P (.done (.ret .none)) { s with heap:=sortedHeap s.heap a vs out.toArray }) :
  wpAny (model prog w) A (Builtin.«list.sort» ⟨[.ref a],[]⟩) P E s:=by
 rw [list_sort_plain]
 have ha:a < s.heap.objs.size:=Heap.lt_size ho
 refine wpAny_bind (listItems_at ho rfl ?_)
 refine wpAny_bind (listUpdate_at ho rfl ?_ (by rw [List.size_toArray];exact hz) (Nat.zero_le _))
 obtain ⟨e1,ho1⟩:∃ e1,(s.heap.update a (Obj.mapSeq fun _=>#[])).get? a=some (seqObj "list" #[] e1):=⟨_,get?_update_seq ho (fun _=>#[])⟩
 refine wpAny_bind (seqEpoch_at ho1 rfl ?_)
 refine wpAny_bind (wpAny_newTuple ?_ (by show vs.length≤_;exact hz))
 refine wpAny_bind (wpAny_newList ?_ (Nat.zero_le _))
 refine wpAny_holding ?_
 have ho6:(((s.heap.update a (Obj.mapSeq fun _=>#[])).push (seqObj "tuple" vs.toArray 0)).push (seqObj "list" #[] 0)).get? a=some (seqObj "list" #[] e1):=by
  rw [Heap.get?_push_ne _ _ _ (by rw [size_push',Heap.size_update];exact Nat.ne_of_lt (Nat.lt_succ_of_lt ha)),Heap.get?_push_ne _ _ _ (by rw [Heap.size_update];exact Nat.ne_of_lt ha)]
  exact ho1
 have keep:∀ b o,b≠a->s.heap.get? b=some o->(((s.heap.update a (Obj.mapSeq fun _=>(#[]:Array Value))).push (seqObj "tuple" vs.toArray 0)).push (seqObj "list" #[] 0)).get? b=some o:=fun b o hb e=>by
  refine Heap.get?_push_of_some _ (Heap.get?_push_of_some _ ?_)
  rw [Heap.get?_update_ne _ _ _ _ hb]
  exact e
 show wpAny (model prog w) A _ P E { s with heap:=((s.heap.update a (Obj.mapSeq fun _=>#[])).push (seqObj "tuple" vs.toArray 0)).push (seqObj "list" #[] 0) }
 dsimp only
 have hn2:¬ vs.toArray.size < 2:=by rw [List.size_toArray];lia
 rw [if_neg hn2,if_neg hn2]
 refine wpAny_bind (hk _ keep ?_)
 have C:=hC _ keep
 have hpl:(vs.toArray.zip vs.toArray).toList=vs.map fun v=>(v,v):=by
  rw [Array.toList_zip]
  exact zip_self vs
 have hps:(vs.toArray.zip vs.toArray).size=vs.length:=by simp
 refine wpAny_bind (wpAny_mono (wpS_sortRuns (a₀:=vs.toArray.zip vs.toArray) (st:=SortSt.mk' kind (vs.toArray.zip vs.toArray) #[] 7 none)
  (Q:=fun _ st'=>SInv S kind (vs.toArray.zip vs.toArray) st'/\(arrOf st').toList.Pairwise (Le lt k)) C (by rw [hps];exact h2) ⟨⟨rfl,rfl⟩,List.Perm.refl _,fun x hx=>?_⟩ rfl fun st' I p=>⟨I,p⟩) ?_ fun _ _ e=>e)
 ·have hx:x∈(vs.toArray.zip vs.toArray).toList:=hx
  rw [hpl] at hx
  obtain ⟨v,hv,rfl⟩:=List.mem_map.mp hx
  exact hS v hv
 rintro ⟨⟨⟩,st'⟩ s' ⟨rfl,I,hp⟩
 dsimp only
 have hperm:=I.perm
 rw [hpl] at hperm
 have two:∀ x∈(arrOf st').toList,x=(x.2,x.2):=fun x hx=>by
  obtain ⟨v,hv,rfl⟩:=List.mem_map.mp (hperm.mem_iff.mp hx)
  rfl
 have hout:((arrOf st').map (·.2))=((arrOf st').toList.map (·.2)).toArray:=by
  apply Array.toList_inj.mp
  simp
 have p2:((arrOf st').toList.map (·.2)).Perm vs:=by
  have:=hperm.map (·.2)
  rwa [List.map_map,show ((fun x:Keyed=>x.2) ∘ fun v:Value=>(v,v))=id from rfl,List.map_id] at this
 refine wpAny_bind (seqEpoch_at ho6 rfl ?_)
 rw [hout]
 refine wpAny_bind (listUpdate_at ho6 rfl ?_ (Nat.zero_le _) (by rw [List.size_toArray,p2.length_eq];lia))
 rw [I.fine.fl]
 simp only [bne_self_eq_false,Bool.false_eq_true,if_false]
 refine wpAny_pure (h _ p2 ?_)
 rw [List.pairwise_map]
 exact hp.imp_of_mem fun {x y} hx hy q=>by rw [←two x hx,←two y hy];exact q
theorem sorted_any {l:Addr} {vs:List Value} {Q:Value->Shared->Prop} (hl:s.heap.IsList l vs.toArray) (h2:2≤vs.length) (hz:vs.length≤sizeLine)
  (hk:∀ h':Heap,(∀ b o,s.heap.get? b=some o->h'.get? b=some o)->∀ {Q:SortKind->Shared->Prop} {E':Value->Shared->Prop},Q kind { s with heap:=h' }->wpAny (model prog w) A.in1.in1 (keyKind' vs.toArray) Q E' { s with heap:=h' })
  (hC:∀ h':Heap,(∀ b o,s.heap.get? b=some o->h'.get? b=some o)->Cmp lt k S kind prog w A.in1.in1 { s with heap:=h' }) (hS:∀ v∈vs,S (v,v))
  (h:∀ out:List Value,out.Perm vs->out.Pairwise (fun x y=>Le lt k (x,x) (y,y))->Q (.ref (s.heap.objs.size+1)) { s with heap:=sortedAll s.heap vs out.toArray }):wpAny (model prog w) A (call (.builtin "sorted") [.ref l]) Q E s:=by
 refine Calls.call_function_entry kind_sorted plain_sorted entry_sorted (args_sorted1 _) ?_
 unfold Builtin.«sorted»
 refine wpAny_bind (m:=checkCount "sorted" 1 1 _) (wpAny_pure ?_)
 refine wpAny_bind (collect_list hl ?_ hz)
 refine wpAny_bind (wpAny_newList ?_ hz)
 have hsz:((s.heap.push (seqObj "list" #[] 0)).update s.heap.objs.size (Obj.mapSeq (· ++ vs.toArray))).objs.size=s.heap.objs.size+1:=by
  rw [Heap.size_update,size_push']
 have hoL:(((s.heap.push (seqObj "list" #[] 0)).update s.heap.objs.size (Obj.mapSeq (· ++ vs.toArray))).push (seqObj "list" vs.toArray 0)).get? (s.heap.objs.size+1)=some (seqObj "list" vs.toArray 0):=by
  rw [←hsz];exact Heap.get?_push_size _ rfl
 have keep:∀ b o,s.heap.get? b=some o->(((s.heap.push (seqObj "list" #[] 0)).update s.heap.objs.size (Obj.mapSeq (· ++ vs.toArray))).push (seqObj "list" vs.toArray 0)).get? b=some o:=fun b o q=>by
  have hlt:b < s.heap.objs.size:=Heap.lt_size q
  rw [Heap.get?_push_ne _ _ _ (by rw [hsz];exact Nat.ne_of_lt (Nat.lt_succ_of_lt hlt)),Heap.get?_update_ne _ _ _ _ (Nat.ne_of_lt hlt),Heap.get?_push_ne _ _ _ (Nat.ne_of_lt hlt)]
  exact q
 have far:∀ b o,s.heap.get? b=some o->b≠s.heap.objs.size+1:=fun b o q=>Nat.ne_of_lt (Nat.lt_succ_of_lt (Heap.lt_size q))
 show wpAny _ _ _ _ _ { s with heap:=((s.heap.push (seqObj "list" #[] 0)).update s.heap.objs.size (Obj.mapSeq (· ++ vs.toArray))).push (seqObj "list" vs.toArray 0) }
 rw [hsz]
 refine wpAny_bind (wpAny_holding (wpAny_call_entry slot_list_sort ⟨_,hoL,rfl⟩ entry_list_sort (list_sort_any (lt:=lt) (k:=k) (S:=S) (kind:=kind) hoL h2 hz (fun h' kk {Q E'}=>hk h' fun b o q=>kk b o (far b o q) (keep b o q)) (fun h' kk=>hC h' fun b o q=>kk b o (far b o q) (keep b o q)) hS fun out a1 a2=>⟨_,rfl,?_⟩) (args_list_sort _)))
 exact wpAny_pure ⟨_,rfl,h out a1 a2⟩
end
end Tim
namespace PyProof.Rows
open PySem
section
variable {prog:Program} {w:World} {A:Around} {E:Value->Shared->Prop} {s:Shared}
theorem list_sort_short {a:Addr} {vs:List Value} {n:Nat} {P:Fin->Shared->Prop} (ho:s.heap.get? a=some (seqObj "list" vs.toArray n)) (h2:vs.length < 2)
  (h:P (.done (.ret .none)) { s with heap:=sortedHeap s.heap a vs vs.toArray }):wpAny (model prog w) A (Builtin.«list.sort» ⟨[.ref a],[]⟩) P E s:=by
 rw [list_sort_plain]
 have ha:a < s.heap.objs.size:=Heap.lt_size ho
 refine wpAny_bind (listItems_at ho rfl ?_)
 refine wpAny_bind (listUpdate_at ho rfl ?_)
 obtain ⟨e1,ho1⟩:∃ e1,(s.heap.update a (Obj.mapSeq fun _=>#[])).get? a=some (seqObj "list" #[] e1):=⟨_,get?_update_seq ho (fun _=>#[])⟩
 refine wpAny_bind (seqEpoch_at ho1 rfl ?_)
 refine wpAny_bind (wpAny_newTuple ?_)
 refine wpAny_bind (wpAny_newList ?_)
 refine wpAny_holding ?_
 have ho6:(((s.heap.update a (Obj.mapSeq fun _=>#[])).push (seqObj "tuple" vs.toArray 0)).push (seqObj "list" #[] 0)).get? a=some (seqObj "list" #[] e1):=by
  rw [Heap.get?_push_ne _ _ _ (by rw [size_push',Heap.size_update];exact Nat.ne_of_lt (Nat.lt_succ_of_lt ha)),Heap.get?_push_ne _ _ _ (by rw [Heap.size_update];exact Nat.ne_of_lt ha)]
  exact ho1
 show wpAny (model prog w) A _ P E { s with heap:=((s.heap.update a (Obj.mapSeq fun _=>#[])).push (seqObj "tuple" vs.toArray 0)).push (seqObj "list" #[] 0) }
 dsimp only
 have h2':vs.toArray.size < 2:=by simpa using h2
 rw [if_pos h2',if_pos h2']
 refine wpAny_bind (wpAny_pure ?_)
 rw [StateT.run_pure]
 refine wpAny_bind (wpAny_pure ?_)
 dsimp only
 refine wpAny_bind (seqEpoch_at ho6 rfl ?_)
 have e:(arrOf (SortSt.mk' general' (vs.toArray.zip vs.toArray) #[] 7 none)).map (·.2)=vs.toArray:=by
  show (vs.toArray.zip vs.toArray).map (·.2)=vs.toArray
  rw [Array.map_snd_zip (by simp)]
 rw [e]
 refine wpAny_bind (listUpdate_at ho6 rfl ?_ (hsz2:=by simp only [List.size_toArray];rw [sizeLine_eq];lia))
 simp only [bne_self_eq_false,Bool.false_eq_true,if_false]
 exact wpAny_pure h
theorem sorted_short {l:Addr} {vs:List Value} {Q:Value->Shared->Prop} (hl:s.heap.IsList l vs.toArray) (h2:vs.length < 2)
  (h:Q (.ref (s.heap.objs.size+1)) { s with heap:=sortedAll s.heap vs vs.toArray }):wpAny (model prog w) A (call (.builtin "sorted") [.ref l]) Q E s:=by
 refine Calls.call_function_entry kind_sorted plain_sorted entry_sorted (args_sorted1 _) ?_
 unfold Builtin.«sorted»
 refine wpAny_bind (m:=checkCount "sorted" 1 1 _) (wpAny_pure ?_)
 refine wpAny_bind (collect_list hl ?_ (by rw [sizeLine_eq];omega))
 refine wpAny_bind (wpAny_newList ?_ (by rw [sizeLine_eq];omega))
 have hsz:((s.heap.push (seqObj "list" #[] 0)).update s.heap.objs.size (Obj.mapSeq (· ++ vs.toArray))).objs.size=s.heap.objs.size+1:=by
  rw [Heap.size_update,size_push']
 have hoL:(((s.heap.push (seqObj "list" #[] 0)).update s.heap.objs.size (Obj.mapSeq (· ++ vs.toArray))).push (seqObj "list" vs.toArray 0)).get? (s.heap.objs.size+1)=some (seqObj "list" vs.toArray 0):=by
  rw [←hsz];exact Heap.get?_push_size _ rfl
 show wpAny _ _ _ _ _ { s with heap:=((s.heap.push (seqObj "list" #[] 0)).update s.heap.objs.size (Obj.mapSeq (· ++ vs.toArray))).push (seqObj "list" vs.toArray 0) }
 rw [hsz]
 refine wpAny_bind (wpAny_holding (wpAny_call_entry slot_list_sort ⟨_,hoL,rfl⟩ entry_list_sort (list_sort_short hoL h2 ⟨_,rfl,?_⟩) (args_list_sort _)))
 exact wpAny_pure ⟨_,rfl,h⟩
end
end PyProof.Rows
namespace L2
open PySem PySem.W PyProof.Rows Srt Pc
class Rep {α:Type} (R:Hp->V->α->Prop):Prop where
 up:∀ {H H':Hp} {v:V} {x:α},Same H H'->R H v x->R H' v x
 lst:∀ {H:Hp} {v:V} {x:α} {p:Addr} {ys zs:List V},H p=some (.lst ys)->R H v x->R (upd H p (.lst zs)) v x
noncomputable def IsI:Hp->V->Int->Prop:=fun _ v n=>v=.int n
noncomputable def IsC:Hp->V->C3->Prop:=fun H v c=>∃ a,v=V.ref a/\H a=some (.tup c.v)
noncomputable instance:Rep IsI:=⟨fun _ h=>h,fun _ h=>h⟩
noncomputable instance:Rep IsC:=⟨fun s ⟨a,e,q⟩=>⟨a,e,s _ _ q⟩,fun h' ⟨a,e,q⟩=>⟨a,e,lk_kind h' (by intro z;cases z) q⟩⟩
noncomputable abbrev Rs {α:Type} (R:Hp->V->α->Prop) (H:Hp):List V->List α->Prop:=Paired (R H)
noncomputable abbrev Cs:=Rs IsC
theorem Rs.up {α:Type} {R:Hp->V->α->Prop} [Rep R] {H H':Hp} {ys:List V} {xs:List α} (s:Same H H') (h:Rs R H ys xs):Rs R H' ys xs:=Paired.mapP h fun _ _ q=>Rep.up s q
theorem Rs.lst {α:Type} {R:Hp->V->α->Prop} [Rep R] {H:Hp} {p:Addr} {zs us:List V} {ys:List V} {xs:List α} (h':H p=some (.lst us)) (h:Rs R H ys xs):Rs R (upd H p (.lst zs)) ys xs:=Paired.mapP h fun _ _ q=>Rep.lst h' q
theorem Rs.len {α:Type} {R:Hp->V->α->Prop} {H:Hp} {ys:List V} {xs:List α} (h:Rs R H ys xs):ys.length=xs.length:=Paired.length h
theorem Rs.get' {α:Type} {R:Hp->V->α->Prop} {H:Hp}:∀ {ys:List V} {xs:List α} {i:Nat} {x:α},Rs R H ys xs->xs[i]?=some x->∃ v,ys[i]?=some v/\R H v x
 | _,_,_,_,.nil,e=>by simp at e
 | _,_,0,_,.cons r _,e=>by simp at e;subst e;exact ⟨_,rfl,r⟩
 | _,_,i+1,x,.cons _ t,e=>by
  obtain ⟨u,h1,h2⟩:=Rs.get' (i:=i) (x:=x) t (by simpa using e)
  exact ⟨u,by simpa using h1,h2⟩
theorem Rs.app {α:Type} {R:Hp->V->α->Prop} {H:Hp}:∀ {ys ys':List V} {xs xs':List α},Rs R H ys xs->Rs R H ys' xs'->Rs R H (ys ++ ys') (xs ++ xs')
 | _,_,_,_,.nil,s=>s
 | _,_,_,_,.cons r t,s=>.cons r (Rs.app t s)
theorem Rs.take {α:Type} {R:Hp->V->α->Prop} {H:Hp}:∀ {ys:List V} {xs:List α} (n:Nat),Rs R H ys xs->Rs R H (ys.take n) (xs.take n)
 | _,_,0,_=>.nil
 | _,_,_+1,.nil=>.nil
 | _,_,n+1,.cons r t=>.cons r (Rs.take n t)
theorem Rs.drop {α:Type} {R:Hp->V->α->Prop} {H:Hp}:∀ {ys:List V} {xs:List α} (n:Nat),Rs R H ys xs->Rs R H (ys.drop n) (xs.drop n)
 | _,_,0,r=>r
 | _,_,_+1,.nil=>.nil
 | _,_,n+1,.cons _ t=>Rs.drop n t
noncomputable def cutX {α:Type} (xs:List α) (lo hi:Option Int):List α:=(xs.drop (HT.sIx xs.length 0 lo)).take (HT.sIx xs.length xs.length hi - HT.sIx xs.length 0 lo)
theorem Rs.ints {H:Hp}:∀ ns:List Int,Rs IsI H (ns.map V.int) ns
 | []=>.nil
 | _ :: r=>.cons rfl (Rs.ints r)
theorem prs_of {K:PySem.W.Frag} {H:Hp}:∀ {ys:List V} {cs:List C3},Cs H ys cs->∃ ps:Prs,ys=refs ps/\ps.map (·.2)=cs.map C3.l/\Tps K H ps/\∀ q∈ps,H q.1=some (.tup (q.2.map V.int))
 | _,_,.nil=>⟨[],rfl,rfl,fun _ h=>absurd h (List.not_mem_nil),fun _ h=>absurd h (List.not_mem_nil)⟩
 | _,_,.cons (b:=c) ⟨a,e,q⟩ t=>by
  obtain ⟨ps,e1,e2,e3,e4⟩:=prs_of (K:=K) t
  refine ⟨(a,c.l) :: ps,by rw [e,e1];rfl,by simp [e2],fun p hp=>?_,fun p hp=>?_⟩
  ·rcases List.mem_cons.mp hp with rfl | hp
   ·exact SqT.of q
   ·exact e3 p hp
  ·rcases List.mem_cons.mp hp with rfl | hp
   ·exact q
   ·exact e4 p hp
theorem cs_of {H:Hp}:∀ {ps:Prs} {cs:List C3},ps.map (·.2)=cs.map C3.l->(∀ q∈ps,H q.1=some (.tup (q.2.map V.int)))->Cs H (refs ps) cs
 | [],[],_,_=>.nil
 | [],_ :: _,e,_=>by simp at e
 | _ :: _,[],e,_=>by simp at e
 | (a,l) :: ps,c :: cs,e,t=>by
  simp only [List.map_cons,List.cons.injEq] at e
  refine .cons ⟨a,rfl,?_⟩ (cs_of e.2 fun p hp=>t p (List.mem_cons_of_mem _ hp))
  have:=t (a,l) (List.mem_cons_self ..)
  rw [e.1] at this
  exact this
noncomputable def cle (a b:C3):Bool:=!HT.lexLt b.l a.l
theorem cle_total (a b:C3):(cle a b||cle b a)=true:=by
 unfold cle
 cases h:HT.lexLt b.l a.l
 ·rfl
 ·rw [lex_as _ _ h];rfl
theorem cle_trans (a b c:C3) (h1:cle a b=true) (h2:cle b c=true):cle a c=true:=by
 unfold cle at *
 simp only [Bool.not_eq_true'] at *
 exact lex_tr _ _ _ h1 h2
theorem cle_anti {a b:C3} (h1:cle a b=true) (h2:cle b a=true):a=b:=by
 unfold cle at *
 simp only [Bool.not_eq_true'] at *
 exact C3.inj.mp (lex_an _ _ h2 h1)
noncomputable abbrev Asc (cs:List C3):Prop:=cs.Pairwise fun a b=>cle a b=true
noncomputable def srtC (cs:List C3):List C3:=cs.mergeSort cle
theorem srtC_perm (cs:List C3):(srtC cs).Perm cs:=List.mergeSort_perm _ _
theorem srtC_asc (cs:List C3):Asc (srtC cs):=List.pairwise_mergeSort cle_trans cle_total _
theorem asc_one:∀ {l m:List C3},l.Perm m->Asc l->Asc m->l=m
 | [],m,h,_,_=>List.Perm.nil_eq h
 | a :: l,[],h,_,_=>by have:=h.length_eq;simp at this
 | a :: l,b :: m,h,hl,hm=>by
  obtain ⟨h1,h2⟩:=List.pairwise_cons.mp hl
  obtain ⟨g1,g2⟩:=List.pairwise_cons.mp hm
  have e:a=b:=by
   have ha:a∈b :: m:=h.mem_iff.mp (List.mem_cons_self ..)
   have hb:b∈a :: l:=h.mem_iff.mpr (List.mem_cons_self ..)
   rcases List.mem_cons.mp ha with e | ha
   ·exact e
   ·rcases List.mem_cons.mp hb with e | hb
    ·exact e.symm
    ·exact cle_anti (h1 b hb) (g1 a ha)
  subst e
  rw [asc_one (List.Perm.cons_inv h) h2 g2]
theorem srtC_uniq {l cs:List C3} (h:l.Perm cs) (ha:Asc l):l=srtC cs:=asc_one (h.trans (srtC_perm cs).symm) ha (srtC_asc cs)
theorem srtC_of_asc {cs:List C3} (h:Asc cs):srtC cs=cs:=(srtC_uniq (List.Perm.refl _) h).symm
theorem lists_of_map:∀ {L:List (List Int)} {cs:List C3},L.Perm (cs.map C3.l)->∃ ds:List C3,L=ds.map C3.l/\ds.Perm cs:=fun {L cs} h=>by
 have hm:∀ x∈L,∃ c:C3,x=c.l:=fun x hx=>by
  obtain ⟨c,_,e⟩:=List.mem_map.mp (h.mem_iff.mp hx)
  exact ⟨c,e.symm⟩
 have:∃ ds:List C3,L=ds.map C3.l:=by
  clear h
  induction L with
  | nil=>exact ⟨[],rfl⟩
  | cons x L ih =>
   obtain ⟨c,e⟩:=hm x (List.mem_cons_self ..)
   obtain ⟨ds,e2⟩:=ih fun y hy=>hm y (List.mem_cons_of_mem _ hy)
   exact ⟨c :: ds,by rw [e,e2];rfl⟩
 obtain ⟨ds,e⟩:=this
 refine ⟨ds,e,?_⟩
 rw [e] at h
 have h2:=h.map (fun l:List Int=>(⟨l.getD 0 0,l.getD 1 0,l.getD 2 0⟩:C3))
 rw [List.map_map,List.map_map] at h2
 have id1:∀ xs:List C3,xs.map ((fun l:List Int=>(⟨l.getD 0 0,l.getD 1 0,l.getD 2 0⟩:C3)) ∘ C3.l)=xs:=fun xs=>by
  conv=>rhs;rw [←List.map_id xs]
  exact List.map_congr_left fun c _=>rfl
 rwa [id1,id1] at h2
section
variable {X:Cx}
noncomputable def rSortC (K:PySem.W.Frag):List V->Hp->VK->Prop:=fun xs H Q=>∃ (l:Addr) (ys:List V) (cs:List C3),xs=[.ref l]/\SqL K H l ys/\Cs H ys cs /\
 ∀ (p:Addr) (zs:List V),H p=none->Cs (upd H p (.lst zs)) zs (srtC cs)->Q (.ref p) (upd H p (.lst zs))
noncomputable def keyOf (ps:Prs) (v:Value):List Int:=match v with
 | .ref a=>((ps.find? fun q=>decide (q.1=a)).map (·.2)).getD []
 | _=>[]
theorem keyOf_eq {H:Hp} {ps:Prs} (t:∀ q∈ps,H q.1=some (.tup (q.2.map V.int))) {q:Addr×List Int} (hq:q∈ps):keyOf ps (.ref q.1)=q.2:=by
 unfold keyOf
 cases e:ps.find? (fun p=>decide (p.1=q.1)) with
 | none=>exact absurd (List.find?_eq_none.mp e q hq) (by simp)
 | some p =>
  have h1:=List.find?_some e
  have h2:=List.mem_of_find?_eq_some e
  have h1:p.1=q.1:=of_decide_eq_true h1
  have a:=t p h2
  rw [h1,t q hq] at a
  have a:=HO.tup.inj (Option.some.inj a)
  have e':(match (Value.ref q.1) with | .ref a=>((ps.find? fun q=>decide (q.1=a)).map (·.2)).getD [] | _=>[])=p.2:=by
   show ((ps.find? fun p=>decide (p.1=q.1)).map (·.2)).getD []=p.2
   rw [e]
   rfl
  rw [e']
  have inj:∀ x y:List Int,x.map V.int=y.map V.int->x=y:=fun x y h=>by
   have:=congrArg (List.map fun v:V=>match v with | .int i=>i | _=>0) h
   simpa [List.map_map,Function.comp_def] using this
  exact (inj _ _ a).symm
theorem refs_mem:∀ {ps:Prs} {its:List Value},Vals (refs ps) its->∀ v∈its,∃ q∈ps,v=.ref q.1
 | [],_,r,v,hv=>by
  have r:Vals [] _:=r
  cases r
  cases hv
 | q :: ps,_,r,v,hv=>by
  have r:Vals (V.ref q.1 :: refs ps) _:=r
  cases r with
  | cons r1 r2 =>
   cases r1
   rcases List.mem_cons.mp hv with rfl | hv
   ·exact ⟨q,List.mem_cons_self ..,rfl⟩
   ·obtain ⟨p,hp,e⟩:=refs_mem r2 v hv
    exact ⟨p,List.mem_cons_of_mem _ hp,e⟩
theorem refs_of:∀ (out:List Value) (ps:Prs),(∀ v∈out,∃ q∈ps,v=.ref q.1)->∃ qs:Prs,(∀ q∈qs,q∈ps)/\Vals (refs qs) out/\out=qs.map fun q=>Value.ref q.1
 | [],ps,_=>⟨[],fun _ h=>absurd h List.not_mem_nil,.nil,rfl⟩
 | v :: out,ps,h=>by
  obtain ⟨q,hq,rfl⟩:=h v (List.mem_cons_self ..)
  obtain ⟨qs,a,b,c⟩:=refs_of out ps fun u hu=>h u (List.mem_cons_of_mem _ hu)
  refine ⟨q :: qs,fun p hp=>?_,.cons rfl b,by rw [c];rfl⟩
  rcases List.mem_cons.mp hp with rfl | hp
  ·exact hq
  ·exact a p hp
theorem call_sortC:CallR X (.builtin "sorted") (rSortC X.K):=by
 intro pins s σ H xs us Q I r h
 obtain ⟨l,ys,cs,rfl,hl,hc,q⟩:=h
 obtain ⟨ps,e1,e2,e3,e3t⟩:=prs_of (K:=X.K) hc
 have hlen:ps.length=cs.length:=by have:=congrArg List.length e2;simpa using this
 obtain ⟨u,rfl,ru⟩:=vals1 r
 cases ru
 obtain ⟨its,rv,pl,hz⟩:=I.list hl
 have rv':Vals (refs ps) its:=by rw [←e1];exact rv
 have hlen2:its.length=ps.length:=by have:=rv'.length;simpa using this.symm
 have hz':its.length≤sizeLine:=by have:=rv.length;lia
 have hn:H (s.heap.objs.size+1)=none:=I.hok.fresh (Nat.le_succ _)
 have d3:∀ p∈ps,p.2.length=3:=fun p hp=>by
  have:p.2∈ps.map (·.2):=List.mem_map.mpr ⟨p,hp,rfl⟩
  rw [e2] at this
  obtain ⟨c,_,e⟩:=List.mem_map.mp this
  rw [←e];rfl
 by_cases h2:2≤its.length
 ·have tup':∀ h':Heap,(∀ b o,s.heap.get? b=some o->h'.get? b=some o)->∀ p∈ps,∃ vs:List Value,Vals (p.2.map V.int) vs/\IsTup h' p.1 vs.toArray:=fun h' kk p hp=>by
   obtain ⟨vs,rv',⟨ob,ho,hcl,n,hdat⟩,_⟩:=I.tuple (e3 p hp)
   exact ⟨vs,rv',ob,kk _ _ ho,hcl,n,hdat⟩
  refine Tim.sorted_any (lt:=HT.lexLt) (k:=fun x=>keyOf ps x.1) (S:=fun x=>x.1∈its) (kind:=tuples' (Value.type "int" != Value.type "tuple")) pl.isList h2 hz' (fun h' kk {Q' E'} hQ=>?_) (fun h' kk=>⟨lexO,fun x y hx hy {Q' E'} hQ=>?_⟩) (fun v hv=>hv) fun out hp hs=>?_
  ·obtain ⟨fs,kt,hfl,hfs⟩:=firsts_of (h:=h') rv' fun p hp=>⟨fun e=>by have:=d3 p hp;rw [e] at this;simp at this,tup' h' kk p hp⟩
   refine kat_kind (T:=.type "int") kt (by lia) (fun v hv=>?_) rfl hQ
   obtain ⟨i,t,rfl⟩:=hfs v hv
   exact Looks.of_pure rfl
  ·obtain ⟨p1,m1,f1⟩:=refs_mem rv' _ hx
   obtain ⟨p2,m2,f2⟩:=refs_mem rv' _ hy
   rw [f1,f2] at hQ ⊢
   rw [keyOf_eq e3t m1,keyOf_eq e3t m2] at hQ
   obtain ⟨vi,ri,oi,hoi,_,ni,di⟩:=tup' h' kk p1 m1
   obtain ⟨vj,rj,oj,hoj,_,nj,dj⟩:=tup' h' kk p2 m2
   refine kat_lt hoi di hoj dj ?_
   refine lex_pairs 0 ri rj ((d3 p1 m1).trans (d3 p2 m2).symm) ?_ hQ
   have a1:=ri.length
   have a2:=rj.length
   have b1:=d3 p1 m1
   have b2:=d3 p2 m2
   simp only [List.length_map] at a1 a2
   rw [List.size_toArray,List.size_toArray]
   exact decide_eq_false (by lia)
  ·obtain ⟨qs,q1,q2,q3⟩:=refs_of out ps fun v hv=>refs_mem rv' v (hp.mem_iff.mp hv)
   obtain ⟨e,he⟩:=sortedAll_at s.heap its out.toArray
   have keyq:∀ p∈qs,keyOf ps (.ref p.1)=p.2:=fun p hp=>keyOf_eq e3t (q1 p hp)
   have kp:(out.map (keyOf ps)).Perm (its.map (keyOf ps)):=hp.map _
   have ko:out.map (keyOf ps)=qs.map (·.2):=by
    rw [q3,List.map_map]
    exact List.map_congr_left fun p hp=>keyq p hp
   have ki:its.map (keyOf ps)=ps.map (·.2):=by
    have go:∀ (ps':Prs) (its':List Value),(∀ p∈ps',p∈ps)->Vals (refs ps') its'->its'.map (keyOf ps)=ps'.map (·.2):=by
     intro ps'
     induction ps' with
     | nil=>intro its' _ r;have r:Vals [] _:=r;cases r;rfl
     | cons p ps' ih =>
      intro its' hm r
      have r:Vals (V.ref p.1 :: refs ps') _:=r
      cases r with
      | cons r1 r2 =>
       cases r1
       rw [List.map_cons,List.map_cons,keyOf_eq e3t (hm p (List.mem_cons_self ..)),ih _ (fun p' hp'=>hm p' (List.mem_cons_of_mem _ hp')) r2]
    exact go ps its (fun _ h=>h) rv'
   rw [ko,ki,e2] at kp
   obtain ⟨ds,e4,e5⟩:=lists_of_map kp
   have ha:Asc ds:=by
    have h3:(qs.map (·.2)).Pairwise (fun a b=>HT.lexLt b a=false):=by
     rw [←ko,List.pairwise_map]
     exact hs
    rw [e4] at h3
    exact (List.pairwise_map.mp h3).imp fun h=>by unfold cle;rw [h];rfl
   have e6:=srtC_uniq e5 ha
   have hzl:(refs qs).length≤sizeLine:=by rw [q2.length,hp.length_eq];exact hz'
   refine ⟨.ref (s.heap.objs.size+1),upd H (s.heap.objs.size+1) (.lst (refs qs)),I.laid (t':=s.toks) (fun b o h=>sortedAll_old h) (Nat.le_succ _) ⟨hzl,out,e,q2,he⟩,rfl,q _ _ hn ?_⟩
   refine Rs.up (same_new hn) ?_
   rw [←e6]
   exact cs_of e4 fun x hx=>e3t x (q1 x hx)
 ·refine sorted_short pl.isList (by lia) ?_
  obtain ⟨e,he⟩:=sortedAll_at s.heap its its.toArray
  refine ⟨.ref (s.heap.objs.size+1),upd H (s.heap.objs.size+1) (.lst ys),I.laid (t':=s.toks) (fun b o h=>sortedAll_old h) (Nat.le_succ _) ⟨hz,its,e,rv,he⟩,rfl,q _ ys hn ?_⟩
  have:srtC cs=cs:=by
   refine srtC_of_asc ?_
   match cs,hlen with
   | [],_=>exact .nil
   | [c],_=>exact .cons (fun _ h=>nomatch h) .nil
   | _ :: _ :: _,hlen=>simp at hlen;lia
  rw [this]
  exact Rs.up (same_new hn) hc
theorem qc_sortC {K:PySem.W.Frag} (h:X.K=K):QCl X (.builtin "sorted") (rSortC K):=⟨h▸call_sortC⟩
end
structure Feeds {α:Type} (J:It) (H:Hp) (xs:List α) (R:Hp->V->α->Prop):Prop where
 stop:∀ H',Same H H'->J.stop xs.length H'
 go:∀ i x H',Same H H'->xs[i]?=some x->J.go i H'/\∀ v H2,J.yld i H' v H2->Same H' H2/\R H2 v x
theorem feeds_list {α:Type} {R:Hp->V->α->Prop} [Rep R] {K:PySem.W.Frag} {H:Hp} {a:Addr} {ys:List V} {xs:List α} (h:SqL K H a ys) (r:Rs R H ys xs):Feeds (Itl K a) H xs R where
 stop:=fun H' s=>by rw [←r.len];exact itl_stop (s.seq h)
 go:=fun i x H' s e=>by
  obtain ⟨v,e1,q⟩:=r.get' e
  refine ⟨itl_go (s.seq h) (List.getElem?_eq_some_iff.mp e1).1,fun v' H2 y=>?_⟩
  obtain ⟨rfl,e2⟩:=itl_yld (s.seq h) y
  rw [e1] at e2
  obtain rfl:=Option.some.inj e2
  exact ⟨Same.refl _,Rep.up s q⟩
theorem feeds_range {H:Hp} {lo:Int} {n:Nat}:Feeds (Itr lo n) H ((List.range n).map fun i:Nat=>lo+(i:Int)) IsI where
 stop:=fun H' _=>by
  show n≤((List.range n).map fun i:Nat=>lo+(i:Int)).length
  simp
 go:=fun i x H' s e=>by
  rw [List.getElem?_map] at e
  have hi:i < n:=by
   rcases Nat.lt_or_ge i n with z | z
   ·exact z
   ·rw [List.getElem?_eq_none (by simpa using z)] at e;cases e
  rw [List.getElem?_eq_getElem (by simpa using hi)] at e
  have e:lo+((List.range n)[i]'(by simpa using hi):Int)=x:=Option.some.inj e
  rw [List.getElem_range] at e
  refine ⟨hi,fun v H2 y=>?_⟩
  obtain ⟨rfl,rfl⟩:=y
  exact ⟨Same.refl _,by rw [←e];rfl⟩
theorem take_snoc {α:Type} {xs:List α} {i:Nat} {x:α} (h:xs[i]?=some x):xs.take (i+1)=xs.take i ++ [x]:=by
 rw [List.take_add_one,h];rfl
theorem comp_fm {α β:Type} {R:Hp->V->α->Prop} {S:Hp->V->β->Prop} [Rep S] {J:It} {xs:List α} {acc:Addr} {Q:VK} {g:TG} {tc:TT} {te:TE} {H:Hp} (p:α->Bool) (f:α->β) (n:Nat) (rest:St) (hF:Feeds J H xs R) (hz:xs.length≤16000000) (hacc:H acc=none)
  (turn:∀ (os:St) (v:V) (x:α) (H':Hp) (R1:St->VK) (R0:St->Hp->Prop),os.length=n->Same H H'->x∈xs->R H' v x ->
   (∀ os' r H'',os'.length=n->Same H' H''->p x=true->S H'' r (f x)->R1 (os' ++ rest) r H'')->(∀ os' H'',os'.length=n->Same H' H''->p x=false->R0 (os' ++ rest) H'') ->
   g v (os ++ rest) H' fun σ3 H3=>tc σ3 H3 fun b H4=>if b=true then te σ3 H4 (R1 σ3) else R0 σ3 H4)
  (done:∀ (zs:List V) (H':Hp),Same H H'->H' acc=some (.lst zs)->Rs S H' zs ((xs.filter p).map f)->Q (.ref acc) H') :
  CompGo acc Q g tc te J (List.replicate n none ++ rest) (upd H acc (.lst [])):=by
 refine comp_turns (n:=xs.length) (fun i σ' H'=>(∃ os:St,os.length=n/\σ'=os ++ rest)/\Same H H'/\∃ zs,H' acc=some (.lst zs)/\Rs S H' zs (((xs.take i).filter p).map f)) ?_ ?_ ?_
 ·exact ⟨⟨_,by simp,rfl⟩,same_new hacc,[],upd_same,.nil⟩
 ·rintro σ' H' ⟨_,s1,zs,e1,r1⟩
  rw [List.take_of_length_le (Nat.le_refl _)] at r1
  exact ⟨hF.stop H' s1,done zs H' s1 e1 r1⟩
 ·rintro i σ' H' hi ⟨⟨os,ho,rfl⟩,s1,zs,e1,r1⟩
  have ex:xs[i]?=some xs[i]:=List.getElem?_eq_getElem hi
  obtain ⟨g1,g2⟩:=hF.go i _ H' s1 ex
  refine ⟨g1,fun v H2 y=>?_⟩
  obtain ⟨s2,q⟩:=g2 v H2 y
  refine turn os v xs[i] H2 _ _ ho (s1.trans s2) (List.getElem_mem hi) q (fun os' r H'' ho' s3 hp hs=>?_) (fun os' H'' ho' s3 hp=>?_)
  ·have hl:zs.length < sizeLine:=by
    have h1:=r1.len
    have h2:=List.length_filter_le p (xs.take i)
    rw [List.length_map] at h1
    rw [List.length_take] at h2
    rw [sizeLine_eq]
    lia
   refine ⟨zs,s3 _ _ (s2 _ _ e1),hl,⟨os',ho',rfl⟩,same_up (s1.trans (s2.trans s3)) hacc,_,upd_same,?_⟩
   rw [take_snoc ex,List.filter_append,List.map_append]
   have e2:([xs[i]].filter p).map f=[f xs[i]]:=by rw [List.filter_cons,hp];rfl
   rw [e2]
   have e3:=s3 _ _ (s2 _ _ e1)
   exact Rs.lst e3 (Rs.app (Rs.up (s2.trans s3) r1) (.cons hs .nil))
  ·refine ⟨⟨os',ho',rfl⟩,s1.trans (s2.trans s3),zs,s3 _ _ (s2 _ _ e1),?_⟩
   rw [take_snoc ex,List.filter_append,List.map_append]
   have e2:([xs[i]].filter p).map f=[]:=by rw [List.filter_cons,hp];rfl
   rw [e2,List.append_nil]
   exact Rs.up (s2.trans s3) r1
theorem comp_map {α β:Type} {R:Hp->V->α->Prop} {S:Hp->V->β->Prop} [Rep S] {J:It} {xs:List α} {acc:Addr} {Q:VK} {g:TG} {te:TE} {H:Hp} (f:α->β) (n:Nat) (rest:St) (hF:Feeds J H xs R) (hz:xs.length≤16000000) (hacc:H acc=none)
  (turn:∀ (os:St) (v:V) (x:α) (H':Hp) (R1:St->VK),os.length=n->Same H H'->x∈xs->R H' v x ->
   (∀ os' r H'',os'.length=n->Same H' H''->S H'' r (f x)->R1 (os' ++ rest) r H'')->g v (os ++ rest) H' fun σ3 H3=>te σ3 H3 (R1 σ3))
  (done:∀ (zs:List V) (H':Hp),Same H H'->H' acc=some (.lst zs)->Rs S H' zs (xs.map f)->Q (.ref acc) H') :
  CompGo acc Q g tYes te J (List.replicate n none ++ rest) (upd H acc (.lst [])):=by
 refine comp_fm (S:=S) (fun _=>true) f n rest hF hz hacc (fun os v x H' R1 R0 ho s hx q k1 _=>?_) fun zs H' s e r=>done zs H' s e (by rwa [List.filter_eq_self.mpr fun _ _=>rfl] at r)
 have t:=turn os v x H' R1 ho s hx q fun os' r H'' a b c=>k1 os' r H'' a b rfl c
 have e:(fun σ3 H3=>tYes σ3 H3 fun b H4=>if b=true then te σ3 H4 (R1 σ3) else R0 σ3 H4)=fun σ3 H3=>te σ3 H3 (R1 σ3):=by
  funext σ3 H3
  show (if true=true then te σ3 H3 (R1 σ3) else R0 σ3 H3)=_
  rw [if_pos rfl]
 rw [e]
 exact t
theorem for_feeds {α:Type} {R:Hp->V->α->Prop} {J:It} {xs:List α} {g:TG} {tb:TS} {D:Ends} {σ:St} {H0 H:Hp} (Pv:Nat->St->Hp->Prop) (hF:Feeds J H0 xs R) (hsame:∀ i σ H,Pv i σ H->Same H0 H) (h0:Pv 0 σ H) (hd:∀ σ H,Pv xs.length σ H->D.nx σ H)
  (turn:∀ i x v σ H H',i < xs.length->xs[i]?=some x->Pv i σ H->Same H H'->R H' v x->g v σ H' fun σ2 H2=>tb { D with nx:=Pv (i+1),ct:=Pv (i+1),bk:=D.nx } σ2 H2):ForGo J g tb D σ H :=
 for_turns (n:=xs.length) Pv h0 (fun σ H p=>⟨hF.stop H (hsame _ σ H p),hd σ H p⟩) fun i σ H hi p=>by
  have ex:xs[i]?=some xs[i]:=List.getElem?_eq_getElem hi
  obtain ⟨g1,g2⟩:=hF.go i _ H (hsame _ σ H p) ex
  exact ⟨g1,fun v H' y=>let ⟨s,q⟩:=g2 v H' y;turn i xs[i] v σ H H' hi ex p s q⟩
section
variable {X:Cx} {σ:St} {H:Hp} {Q:VK} {D:Ends} {K:PySem.W.Frag}
theorem tups_of {ys:List V} {cs:List C3} (h:Cs H ys cs):∃ as:List Addr,ys=as.map V.ref/\TupsI K H as (cs.map C3.l):=by
 induction h with
 | nil=>exact ⟨[],rfl,.nil⟩
 | cons r _ ih =>
  obtain ⟨a,e,q⟩:=r
  obtain ⟨as,e1,t⟩:=ih
  exact ⟨a :: as,by rw [e,e1];rfl,.cons (SqT.of q) t⟩
theorem rd_sortC {l:Addr} {ys:List V} {cs:List C3} (h:SqL K H l ys) (c:Cs H ys cs) (q:∀ (p:Addr) (zs:List V),H p=none->Cs (upd H p (.lst zs)) zs (srtC cs)->Q (.ref p) (upd H p (.lst zs))):rSortC K [.ref l] H Q:=⟨l,ys,cs,rfl,h,c,q⟩
end
noncomputable def IsP {α β:Type} (R:Hp->V->α->Prop) (S:Hp->V->β->Prop):Hp->V->α×β->Prop:=fun H v p=>∃ a x y,v=V.ref a/\H a=some (.tup [x,y])/\R H x p.1/\S H y p.2
noncomputable instance {α β:Type} {R:Hp->V->α->Prop} {S:Hp->V->β->Prop} [Rep R] [Rep S]:Rep (IsP R S) :=
 ⟨fun s ⟨a,x,y,e,q,r1,r2⟩=>⟨a,x,y,e,s _ _ q,Rep.up s r1,Rep.up s r2⟩,fun h' ⟨a,x,y,e,q,r1,r2⟩=>⟨a,x,y,e,lk_kind h' (by intro z;cases z) q,Rep.lst h' r1,Rep.lst h' r2⟩⟩
theorem feeds_zip {α β:Type} {R:Hp->V->α->Prop} {S:Hp->V->β->Prop} [Rep R] [Rep S] {K:PySem.W.Frag} {H:Hp} {a b:Addr} {ys zs:List V} {xs:List α} {us:List β} (h1:SqL K H a ys) (r1:Rs R H ys xs) (h2:SqL K H b zs) (r2:Rs S H zs us):Feeds (Itz K a b) H (xs.zip us) (IsP R S) where
 stop:=fun H' s=>by
  refine ⟨ys,zs,s.seq h1,s.seq h2,?_⟩
  rw [r1.len,r2.len,List.length_zip]
  lia
 go:=fun i x H' s e=>by
  obtain ⟨x1,x2⟩:=x
  rw [List.getElem?_zip_eq_some] at e
  obtain ⟨v1,e1,q1⟩:=r1.get' e.1
  obtain ⟨v2,e2,q2⟩:=r2.get' e.2
  refine ⟨⟨ys,zs,v1,v2,s.seq h1,s.seq h2,e1,e2⟩,fun v H2 y=>?_⟩
  obtain ⟨T,u1,u2,hT,rfl,rfl,hxy⟩:=y
  obtain ⟨f1,f2⟩:=hxy _ _ (s.seq h1) (s.seq h2)
  rw [e1] at f1
  rw [e2] at f2
  obtain rfl:=Option.some.inj f1
  obtain rfl:=Option.some.inj f2
  have s2:=same_new (o:=.tup [v1,v2]) hT
  exact ⟨s2,T,v1,v2,rfl,upd_same,Rep.up (s.trans s2) q1,Rep.up (s.trans s2) q2⟩
theorem rd_notNr {H:Hp} {Q:VK} {p:Addr} (h:Q (.bl true) H):rIsN true (.ref p) .non H Q:=⟨rfl,h⟩
end L2
namespace Pc
open PySem L2 Srt
noncomputable def ddGo (acc:List C3) (c:C3):List C3:=if acc.getLast?=some c then acc else acc ++ [c]
noncomputable def bodyC (cs:List C3):List C3:=(srtC cs).foldl ddGo []
theorem smallM {n:Nat} (h:n≤1000000):n < sizeLine:=Nat.lt_of_le_of_lt h (by decide)
theorem ddGo_mem (acc:List C3) (c x:C3):x∈ddGo acc c↔x∈acc\/x=c:=by
 unfold ddGo
 split
 ·rename_i h
  constructor
  ·exact .inl
  ·rintro (h' | rfl)
   ·exact h'
   ·exact List.mem_of_getLast? h
 ·simp
theorem dd_mem:∀ (cs acc:List C3) (x:C3),x∈cs.foldl ddGo acc↔x∈acc\/x∈cs
 | [],acc,x=>by simp
 | c :: cs,acc,x=>by
  rw [List.foldl_cons,dd_mem cs,ddGo_mem,List.mem_cons,or_assoc]
theorem dd_asc:∀ (cs acc:List C3),Asc (acc ++ cs)->acc.Nodup->Asc (cs.foldl ddGo acc)/\(cs.foldl ddGo acc).Nodup
 | [],acc,h,hn=>by rw [List.append_nil] at h;exact ⟨h,hn⟩
 | c :: cs,acc,h,hn=>by
  rw [List.foldl_cons]
  unfold ddGo
  split
  ·rename_i e
   refine dd_asc cs acc ?_ hn
   exact h.sublist (List.Sublist.append (List.Sublist.refl _) (List.sublist_cons_self _ _))
  ·rename_i e
   refine dd_asc cs (acc ++ [c]) (by simpa using h) ?_
   refine List.nodup_append.mpr ⟨hn,by simp,fun a ha b hb=>?_⟩
   obtain rfl:b=c:=by simpa using hb
   rintro rfl
   refine e ?_
   cases hl:acc.getLast? with
   | none =>
    rw [List.getLast?_eq_none_iff] at hl
    rw [hl] at ha
    cases ha
   | some l =>
    have hml:=List.mem_of_getLast? hl
    obtain ⟨q1,q2,q3⟩:=List.pairwise_append.mp h
    have h1:cle l a=true:=q3 l hml a (by simp)
    have h2:cle a l=true:=by
     obtain ⟨pre,e2⟩:=List.getLast?_eq_some_iff.mp hl
     rw [e2] at ha q1
     rcases List.mem_append.mp ha with z | z
     ·exact (List.pairwise_append.mp q1).2.2 a z l (by simp)
     ·obtain rfl:a=l:=by simpa using z
      unfold cle
      rw [lex_rf];rfl
    rw [cle_anti h1 h2]
theorem bodyC_mem (cs:List C3) (x:C3):x∈bodyC cs↔x∈cs:=by
 unfold bodyC
 rw [dd_mem]
 simp [(srtC_perm cs).mem_iff]
theorem bodyC_asc (cs:List C3):Asc (bodyC cs):=(dd_asc (srtC cs) [] (by simpa using srtC_asc cs) (by simp)).1
theorem bodyC_nodup (cs:List C3):(bodyC cs).Nodup:=(dd_asc (srtC cs) [] (by simpa using srtC_asc cs) (by simp)).2
theorem asc_ext {l m:List C3} (h1:Asc l) (h2:Asc m) (n1:l.Nodup) (n2:m.Nodup) (h:∀ x,x∈l↔x∈m):l=m:=by
 refine asc_one ?_ h1 h2
 exact (List.perm_ext_iff_of_nodup n1 n2).mpr h
theorem srtC_nodup {cs:List C3} (h:cs.Nodup):(srtC cs).Nodup:=(srtC_perm cs).nodup_iff.mpr h
end Pc
namespace L2
open PySem PySem.W PyProof.Rows Srt Pc
section
variable {X:Cx} {K:PySem.W.Frag} {H:Hp} {Q:VK}
noncomputable def rMaxL (K:PySem.W.Frag):List V->Hp->VK->Prop:=fun xs H Q=>∃ (p:Addr) (ns:List Int),xs=[.ref p]/\SqL K H p (ns.map V.int)/\ns≠[]/\∀ M,M∈ns->(∀ a,a∈ns->a≤M)->Q (.int M) H
noncomputable def rMinL (K:PySem.W.Frag):List V->Hp->VK->Prop:=fun xs H Q=>∃ (p:Addr) (ns:List Int),xs=[.ref p]/\SqL K H p (ns.map V.int)/\ns≠[]/\∀ M,M∈ns->(∀ a,a∈ns->M≤a)->Q (.int M) H
theorem call_maxL (hc:X.calm=true):CallR X (.builtin "max") (rMaxL X.K):=by
 intro pins s σ H xs us Q I r h
 obtain ⟨p,ns,rfl,hp,hne,q⟩:=h
 obtain ⟨u,rfl,ru⟩:=vals1 r
 cases ru
 obtain ⟨its,rv,pl,hz⟩:=I.list hp
 have hi:IntsAre its ns:=intsAre_of rv
 have hl:0 < ns.length:=List.length_pos_iff.mpr hne
 obtain ⟨ys,hys⟩:=hi.allInts.items
 have hsz:0 < ys.size:=by
  have e:=congrArg Array.size hys
  rw [List.size_toArray,hi.length] at e
  have e2:(intItems ys).size=ys.size:=by simp [intItems]
  lia
 have hnum:numsOf (intItems ys).toList=ns:=by rw [←hys];exact hi.numsOf
 rw [nums_intItems] at hnum
 refine max_intList (xs:=ys) (I.ok.hd hc) (by rw [←hys];exact pl.isList) hsz fun v h' tk hv hk=>?_
 obtain ⟨t,rfl⟩:=intItems_at hv
 obtain ⟨h1,h2⟩:=argBest_gt (numAt ys) (ys.size - 1)
 refine ⟨.int _,H,I.kept hk,⟨t,rfl⟩,q _ ?_ fun a ha=>?_⟩
 ·rw [←hnum,numAt_eq];exact getD_mem (by rw [List.length_map,Array.length_toList];lia)
 ·rw [←hnum] at ha
  obtain ⟨j,hj,rfl⟩:=mem_getD ha
  rw [List.length_map,Array.length_toList] at hj
  rw [←numAt_eq];exact h2 j (by lia)
theorem call_minL (hc:X.calm=true):CallR X (.builtin "min") (rMinL X.K):=by
 intro pins s σ H xs us Q I r h
 obtain ⟨p,ns,rfl,hp,hne,q⟩:=h
 obtain ⟨u,rfl,ru⟩:=vals1 r
 cases ru
 obtain ⟨its,rv,pl,hz⟩:=I.list hp
 have hi:IntsAre its ns:=intsAre_of rv
 have hl:0 < ns.length:=List.length_pos_iff.mpr hne
 obtain ⟨ys,hys⟩:=hi.allInts.items
 have hsz:0 < ys.size:=by
  have e:=congrArg Array.size hys
  rw [List.size_toArray,hi.length] at e
  have e2:(intItems ys).size=ys.size:=by simp [intItems]
  lia
 have hnum:numsOf (intItems ys).toList=ns:=by rw [←hys];exact hi.numsOf
 rw [nums_intItems] at hnum
 refine min_intList (xs:=ys) (I.ok.hd hc) (by rw [←hys];exact pl.isList) hsz fun v h' tk hv hk=>?_
 obtain ⟨t,rfl⟩:=intItems_at hv
 obtain ⟨h1,h2⟩:=argBest_lt (numAt ys) (ys.size - 1)
 refine ⟨.int _,H,I.kept hk,⟨t,rfl⟩,q _ ?_ fun a ha=>?_⟩
 ·rw [←hnum,numAt_eq];exact getD_mem (by rw [List.length_map,Array.length_toList];lia)
 ·rw [←hnum] at ha
  obtain ⟨j,hj,rfl⟩:=mem_getD ha
  rw [List.length_map,Array.length_toList] at hj
  rw [←numAt_eq];exact h2 j (by lia)
theorem qc_maxL (h:X.K=K) (hc:X.calm=true):QCl X (.builtin "max") (rMaxL K):=⟨h▸call_maxL hc⟩
theorem qc_minL (h:X.K=K) (hc:X.calm=true):QCl X (.builtin "min") (rMinL K):=⟨h▸call_minL hc⟩
theorem rd_maxL {p:Addr} {ns:List Int} (h:SqL K H p (ns.map V.int)) (hn:ns≠[]) (q:∀ M,M∈ns->(∀ a,a∈ns->a≤M)->Q (.int M) H):rMaxL K [.ref p] H Q:=⟨p,ns,rfl,h,hn,q⟩
theorem rd_minL {p:Addr} {ns:List Int} (h:SqL K H p (ns.map V.int)) (hn:ns≠[]) (q:∀ M,M∈ns->(∀ a,a∈ns->M≤a)->Q (.int M) H):rMinL K [.ref p] H Q:=⟨p,ns,rfl,h,hn,q⟩
theorem any_dTs (nss:List (List Int)) (ns:List Int):(dTs nss).any (fun y=>PyData.eqv y (.tuple (ns.map PyData.int)))=decide (ns∈nss):=by
 induction nss with
 | nil=>rfl
 | cons m r ih =>
  show (PyData.eqv (.tuple (m.map PyData.int)) (.tuple (ns.map PyData.int))||(dTs r).any _)=_
  rw [eqv_T,ih]
  by_cases h:m=ns
  ·subst h;simp
  ·by_cases h2:ns∈r
   ·simp [h2]
   ·simp [h,h2,Ne.symm h]
theorem mem_l {c:C3} {cs:List C3}:c.l∈cs.map C3.l↔c∈cs:=by
 constructor
 ·intro h
  obtain ⟨d,hd,e⟩:=List.mem_map.mp h
  rwa [C3.inj.mp e] at hd
 ·intro h;exact List.mem_map.mpr ⟨c,h,rfl⟩
theorem dec_mem {c:C3} {cs:List C3}:decide (c.l∈cs.map C3.l)=decide (c∈cs):=by
 by_cases h:c∈cs
 ·rw [decide_eq_true h,decide_eq_true (mem_l.mpr h)]
 ·rw [decide_eq_false h,decide_eq_false fun e=>h (mem_l.mp e)]
noncomputable def rInC (K:PySem.W.Frag) (neg:Bool):R2:=fun x y H Q=>∃ (a b:Addr) (c:C3) (ys:List V) (cs:List C3),x=.ref a/\y=.ref b/\SqT K H a c.v/\SqL K H b ys/\Cs H ys cs/\Q (.bl (if neg then !decide (c∈cs) else decide (c∈cs))) H
theorem depth_T (ns:List Int):PyData.depth (.tuple (ns.map PyData.int))≤1:=by
 simp [PyData.depth,PySem.W.ke_depthAll]
theorem qo_notInC (h:X.K=K) (hu:X.A.units+64 < cLine):QOp X (compareOp .NotIn) (rInC K true):=⟨by
 subst h
 rintro pins s σ H x y v u Q I rx ry ⟨a,b,c,ys,cs,rfl,rfl,ha,hb,hc,q⟩
 obtain ⟨as,e1,t1⟩:=tups_of (K:=X.K) hc
 subst e1
 cases rx
 cases ry
 refine SeqAt.notIn_list_reads (I.readsL hb t1) (I.readsT ha) (canLay_Ts _) (SeqAt.canLay_of_shaped (shaped_T _)) (by have:=depth_T c.l;lia) ?_
 rw [any_dTs,dec_mem]
 exact ⟨.bl _,H,I,rfl,q⟩⟩
theorem rd_notInC {a b:Addr} {c:C3} {ys:List V} {cs:List C3} (h1:SqT K H a c.v) (h2:SqL K H b ys) (h3:Cs H ys cs) (q:Q (.bl (!decide (c∈cs))) H):rInC K true (.ref a) (.ref b) H Q:=⟨a,b,c,ys,cs,rfl,rfl,h1,h2,h3,q⟩
end
open PySem PySem.W PySem.Spec PyProof.Rows Srt Pc
noncomputable def keyC (c:C3):List Key:=c.l.map Sum.inl
theorem keyC_v (c:C3):(keyC c).map kV=c.v:=by
 unfold keyC C3.v
 rw [List.map_map]
 rfl
theorem keyC_inj {c d:C3}:keyC c=keyC d↔c=d:=by
 constructor
 ·intro h
  have h1:(keyC c).map kV=(keyC d).map kV:=by rw [h]
  rw [keyC_v,keyC_v] at h1
  have h2:c.l=d.l:=by
   have:∀ xs ys:List Int,xs.map V.int=ys.map V.int->xs=ys:=by
    intro xs
    induction xs with
    | nil=>intro ys e;cases ys with
     | nil=>rfl
     | cons=>simp at e
    | cons x xs ih=>intro ys e;cases ys with
     | nil=>simp at e
     | cons y ys =>
      simp only [List.map_cons,List.cons.injEq] at e
      rw [V.int.inj e.1,ih ys e.2]
   exact this _ _ h1
  exact C3.inj.mp h2
 ·intro h;rw [h]
section
variable {X:Cx} {K:PySem.W.Frag} {H:Hp} {Q:VK}
theorem dget_c {d a:Addr} {kvs:List (List Key×V)} {c:C3} (e:H d=some (.dT kvs)) (ea:H a=some (.tup c.v)):DGet H d (.ref a) (valV kvs (keyC c)):=DGet.t e (by rw [keyC_v];exact ea)
theorem dput_c {d a:Addr} {kvs:List (List Key×V)} {c:C3} {v:V} (e:H d=some (.dT kvs)) (ea:H a=some (.tup c.v)) (hl:kvs.length < sizeLine):DPut H d (.ref a) v (upd H d (.dT (putK kvs (keyC c) v))):=DPut.t e (by rw [keyC_v];exact ea) hl
end
theorem map_erase {α β:Type} (f:α->β):∀ (xs:List α) (j:Nat),(xs.eraseIdx j).map f=(xs.map f).eraseIdx j
 | [],_=>by simp
 | x :: xs,0=>by simp
 | x :: xs,j+1=>by simp [map_erase f xs j]
theorem erase_filter {κ:Type} [DecidableEq κ] {k:κ} {p:Addr×Value}:∀ {xs:List (κ×Addr×Value)} {j:Nat},(xs.map (·.1)).Nodup->xs[j]?=some (k,p)->xs.eraseIdx j=xs.filter fun x=>decide (x.1≠k)
 | [],j,_,h=>by simp at h
 | x :: xs,0,hn,h=>by
  simp only [List.getElem?_cons_zero,Option.some.injEq] at h
  subst h
  rw [List.map_cons,List.nodup_cons] at hn
  rw [List.eraseIdx_cons_zero,List.filter_cons]
  have e:xs.filter (fun x=>decide (x.1≠k))=xs:=by
   rw [List.filter_eq_self]
   intro y hy
   simp only [decide_eq_true_eq]
   exact fun z=>hn.1 (List.mem_map.mpr ⟨y,hy,z⟩)
  have f:¬ decide ((k,p).1≠k)=true:=by simp
  rw [if_neg f]
  exact e.symm
 | x :: xs,j+1,hn,h=>by
  simp only [List.getElem?_cons_succ] at h
  rw [List.map_cons,List.nodup_cons] at hn
  have hmem:k∈xs.map (·.1):=List.mem_map.mpr ⟨(k,p),List.mem_of_getElem? h,rfl⟩
  have hne:x.1≠k:=fun e=>hn.1 (e▸hmem)
  rw [List.eraseIdx_cons_succ,erase_filter hn.2 h,List.filter_cons]
  rw [if_pos (decide_eq_true hne)]
section
variable {prog:Program} {w:World} {K:Type} [DecidableEq K] {knd:HeapKind prog w K} {A:Around} {E:Value->Shared->Prop} {s:Shared}
theorem wpAny_takeOut_heap {d a:Addr} {xs:List (K×Addr×Value)} {k:K} {p:Addr×Value} {Q:Option DictEntry->Shared->Prop} (hu:knd.room A) (hkey:knd.is s.heap k a) (hm:s.heap.DictOfH knd d xs) (hp:atKey xs k=some p) (hsz:xs.length≤sizeLine)
  (hQ:∀ h' e,e.val=p.2->h'.DictOfH knd d (xs.filter fun x=>decide (x.1≠k))->Heap.SameBut d s.heap h'->Q (some e) { s with heap:=h',toks:=s.toks+knd.draws k }) :
  wpAny (model prog w) A (Builtin.Dict.takeOut d (.ref a)) Q E s:=by
 obtain ⟨o,es,ep,ho,hc,hd,he,his,hn⟩:=hm
 unfold Builtin.Dict.takeOut
 try with_reducible refine wpAny_holding ?_
 refine wpAny_bind (knd.pyHash hu hkey (wpAny_bind (wpAny_dictFind_heap (s:={ s with toks:=s.toks+knd.draws k }) hu hkey ho hd he his hn ?_ ?_)))
 ·intro hno
  rw [atKey_none_of_get hno] at hp
  exact nomatch hp
 ·intro j q hj
  rw [atKey_of_get hn hj] at hp
  cases hp
  refine wpAny_bind (wpAny_dictEntries (s:={ s with toks:=s.toks+knd.draws k }) ho hd ?_)
  rw [entry_at he j,hj]
  show wpAny _ _ (updateDictKeys d _ _ >>= _) _ _ _
  refine wpAny_bind (wpAny_updateDictKeys (hz:=by have e:=size_of_entries he;lia) (s:={ s with toks:=s.toks+knd.draws k }) ho hd (wpAny_pure (hQ _ _ rfl ⟨_,_,ep+1,Heap.get?_update_self _ ho (Obj.isFreed_of_dict (Obj.data_mapDictKeys hd _)),
   hc.mapDictKeys _,Obj.data_mapDictKeys hd _,?_,?_,?_⟩ (Heap.SameBut.update ..))))
  ·rw [←erase_filter hn hj,map_erase,←he]
   simp
  ·intro x hx
   exact knd.keeps (his x (List.mem_filter.mp hx).1) ho hd (Heap.SameBut.update ..)
  ·exact (List.Sublist.map _ List.filter_sublist).nodup hn
theorem meetsH_dict_pop (knd:HeapKind prog w K) (d a:Addr) :
  MeetsIn prog w (Builtin.«dict.pop» ⟨[.ref d,.ref a],[]⟩) (fun A R s=>knd.room A.in1/\∃ (k:K) (xs:List (K×Addr×Value)) (p:Addr×Value),knd.is s.heap k a/\s.heap.DictOfH knd d xs/\xs.length≤sizeLine/\atKey xs k=some p /\
   ∀ h' t,h'.DictOfH knd d (xs.filter fun x=>decide (x.1≠k))->Heap.SameBut d s.heap h'->R (.ok (.ret p.2)) { s with heap:=h',toks:=t }) :=
 .of_wp fun A R s ⟨hu,k,xs,p,hkey,hm,hsz,hp,h⟩=>by
  obtain ⟨o,es,ep,ho,hc,hd,he,his,hn⟩:=id hm
  unfold Builtin.«dict.pop»
  refine wpAny_bind ?_
  unfold Builtin.Dict.keyAndDefault
  refine wpAny_bind (wpAny_notOrdered_dict hm.typeIs ?_)
  show wpAny _ _ (pure (d,Value.ref a,none)) _ _ s
  refine wpAny_pure ?_
  dsimp only
  rw [if_neg (show ¬ (keyPart (Value.ref a)).isSome=true from Bool.false_ne_true)]
  refine wpAny_bind (wpAny_dictEntries ho hd (wpAny_bind (wpAny_pure ?_)))
  have hne:es.isEmpty=false:=by
   have e:=size_of_entries he
   cases xs with
   | nil=>simp [atKey] at hp
   | cons x xs =>
    rw [List.length_cons] at e
    rw [Array.isEmpty_eq_false_iff]
    intro z
    rw [z] at e
    simp at e
  rw [hne]
  simp only [Bool.false_eq_true,if_false]
  refine wpAny_bind (wpAny_takeOut_heap hu hkey hm hp hsz fun h' e ev hm' hs'=>?_)
  simp only [Option.isNone_some,Bool.false_eq_true,if_false]
  refine wpAny_bind (wpAny_letGo (wpAny_pure ⟨e.val,rfl,?_⟩))
  rw [ev]
  exact h h' _ hm' hs'
end
theorem KT.drop {H:Hp} {kvs:List (List Key×V)} {xs:List (List Key×Addr×Value)} (r:KT H kvs xs) (k:List Key):KT H (dropK kvs k) (xs.filter fun x=>decide (x.1≠k)):=by
 unfold dropK
 induction r with
 | nil=>exact .nil
 | @cons p q ps qs h t ih =>
  have h1:=h.1
  rw [List.filter_cons,List.filter_cons]
  by_cases e:p.1=k
  ·have a:¬ decide (p.1≠k)=true:=by simp [e]
   have b:¬ decide (q.1≠k)=true:=by simp [h1.symm.trans e]
   rw [if_neg a,if_neg b];exact ih
  ·have e':¬ q.1=k:=fun z=>e (h1.trans z)
   have a:decide (p.1≠k)=true:=by simp [e]
   have b:decide (q.1≠k)=true:=by simp [e']
   rw [if_pos a,if_pos b];exact .cons h ih
section
variable {X:Cx} {pins:List (Addr×Obj)} {σ:St} {H:Hp} {s:Shared} {d a:Addr} {kvs:List (List Key×V)} {k:List Key} {A:Around} {E:Value->Shared->Prop}
theorem dt_pop {v:V} {Q:Value->Shared->Prop} (hu:A.units+1 < cLine) (I:Inv X pins σ H s) (e:H d=some (.dT kvs)) (ea:H a=some (.tup (k.map kV))) (l:valV kvs k=some v)
  (h:∀ w' s',Inv X pins σ (upd H d (.dT (dropK kvs k))) s'->RelV v w'->Q w' s'):wpAny (model X.prog X.w) A (call (.builtin "dict.pop") [.ref d,.ref a]) Q E s:=by
 obtain ⟨z,hd,xs,rel,dd⟩:=dt_of I.hok e
 obtain ⟨w',hw,rw'⟩:=RelO.some_of (v:=v) (o:=(atKey xs k).map (·.2)) (by rw [←l];exact rel.val k)
 obtain ⟨p,hp,hp2⟩:=Option.map_eq_some_iff.mp hw
 have hz:xs.length≤sizeLine:=by rw [←Paired.length rel];exact z
 refine call_meetsIn PySem.F.slot_dict_pop dd.typeIs PySem.F.entry_dict_pop (PySem.F.args_dict_pop_2 _ _) (meetsH_dict_pop (tupleKind (mixKind X.prog X.w)) d a) ⟨tupleKind_room_in1 hu,k,xs,p,key_of I.hok ea,dd,hz,hp,fun h' t dd' hs=>?_⟩
 rw [hp2]
 obtain ⟨q,es,ep,hq,h2,h3,h4,_,h5⟩:=dd'
 refine h w' _ (d_write I (by rw [e];exact True.intro) hs ⟨q,hq⟩ ⟨Nat.le_trans (dropK_le kvs k) z,hd,_,(KT.drop rel k).keeps fun c ys ec=>?_,q,es,ep,hq,h2,h3,h4,h5⟩) rw'
 rw [upd_ne (ne_of ec e (fun z=>nomatch z))]
 exact ec
end
noncomputable def tDPopT (td ty:TE):TE:=fun σ H Q=>td σ H fun x H1=>∃ d,x=.ref d/\IsD H1 d/\ty σ H1 fun y H2=>∃ kvs k a v,H2 d=some (.dT kvs)/\y=.ref a/\H2 a=some (.tup (k.map kV))/\valV kvs k=some v/\Q v (upd H2 d (.dT (dropK kvs k)))
theorem pe_dpopT {X:Cx} {o e:Expr} {apos cpos:Pos} {td ty:TE} (hu:X.A.units+1 < cLine) (ho:PE X o td) (he:PE X e ty) (m:M1 X o "pop" apos e cpos):PE X (.Call (.Attribute o "pop" apos) [e] [] cpos) (tDPopT td ty):=by
 intro pins s σ H Q I h
 refine wpAny_Call_method m.base m.few m.line PySem.F.plainAttrs_dict PySem.F.slot_dict_pop PySem.F.type_dict_pop (thn (ho pins s σ H _ I h) fun u s1 ⟨x,H1,I1,rx,d,ex,dd,q1⟩=>?_)
 subst ex
 obtain rfl:u=Value.ref d:=rx
 obtain ⟨t1,t2,_⟩:=isD_at I1 dd
 refine ⟨t1,t2,?_⟩
 rw [m.trees]
 refine Calls.callWith_builtin rfl (Calls.evalArgs_plain (Calls.spliced_cons (thn (he pins s1 σ H1 _ I1 q1) fun iv s2 ⟨y,H2,I2,ry,kvs,k,a,v,ed,ey,ea,l,q2⟩=>Calls.spliced_nil ?_)))
 subst ey
 obtain rfl:iv=Value.ref a:=ry
 exact dt_pop hu I2 ed ea l fun w' s3 I3 rw'=>⟨v,_,I3,rw',q2⟩
theorem qe_dpopT {X:Cx} {o e:Expr} {apos cpos:Pos} {td ty:TE} (hu:X.A.units+1 < cLine) (ho:QE X o td) (he:QE X e ty) (m:M1 X o "pop" apos e cpos):QE X (.Call (.Attribute o "pop" apos) [e] [] cpos) (tDPopT td ty):=⟨pe_dpopT hu ho.r he.r m⟩
open PySem PySem.W
theorem rd_seqK {t1 t2:TS} {D:Ends} {σ:St} {H:Hp} (h:∀ N:St->Hp->Prop,(∀ σ' H',t2 D σ' H'->N σ' H')->t1 { D with nx:=N } σ H):tSeq t1 t2 D σ H:=h (t2 D) fun _ _ x=>x
end L2
namespace Pc
open PySem L2 Srt
noncomputable def C3.within (n:Int) (c:C3):Prop:=(-n≤c.x/\c.x≤n)/\(-n≤c.y/\c.y≤n)/\(-n≤c.z/\c.z≤n)
theorem ints_eq {H:Hp}:∀ {zs:List V} {ns:List Int},Rs IsI H zs ns->zs=ns.map V.int
 | _,_,.nil=>rfl
 | _,_,.cons h t=>by
  have h:_=_:=h
  rw [h,ints_eq t]
  rfl
theorem cut_lo (c:C3) (t:Int) (h0:0≤t) (h1:t < 3):¬ (HT.sIx c.v.length 0 none=0/\HT.sIx c.v.length c.v.length (some t)=c.v.length):=by
 have e:c.v.length=3:=rfl
 rw [e]
 rcases (by lia:t=0\/t=1\/t=2) with h | h | h <;> subst h <;> decide
theorem cut_hi (c:C3) (t:Int) (h0:0≤t) (h1:t < 3):¬ (HT.sIx c.v.length 0 (some (t+1))=0/\HT.sIx c.v.length c.v.length none=c.v.length):=by
 have e:c.v.length=3:=rfl
 rw [e]
 rcases (by lia:t=0\/t=1\/t=2) with h | h | h <;> subst h <;> decide
theorem cut_z {xs:List V} {lo hi:Option Int} (h:xs.length≤10):(cutV xs lo hi).length≤10:=Nat.le_trans (cutV_length xs lo hi) h
end Pc
namespace L2
open PySem PySem.W PySem.Spec PyProof.Rows Srt Pc
noncomputable def DRaw (h:Heap) (d:Addr) (es:Array DictEntry) (ep:Nat):Prop:=∃ o,h.get? d=some o/\o.ExactDict/\o.data=.dict es ep
theorem DRaw.lt {h:Heap} {d es ep} (x:DRaw h d es ep):d < h.objs.size:=let ⟨_,a,_⟩:=x;Heap.lt_size a
theorem DRaw.to {h h':Heap} {d es ep} (x:DRaw h d es ep) (e:∀ o,h.get? d=some o->h'.get? d=some o):DRaw h' d es ep:=let ⟨o,a,r⟩:=x;⟨o,e _ a,r⟩
section
variable {prog:Program} {w:World} {A:Around} {E:Value->Shared->Prop} {s:Shared} {d it:Addr} {es:Array DictEntry} {ep i:Nat}
theorem DRaw.ty (x:DRaw s.heap d es ep):s.TypeIs (.ref d) "dict":=let ⟨o,a,c,_⟩:=x;⟨o,a,c.1⟩
theorem raw_iter {Q:Value->Shared->Prop} (lo:(d==sysModules)=false) (x:DRaw s.heap d es ep)
  (q:Q (.ref s.heap.objs.size) { s with heap:=s.heap.push { cls:=.type "dict_keyiterator",data:=.fields #[.ref d,.int 0 0,.int es.size 0,.int ep 0] } }):wpAny (model prog w) A (pyIter (.ref d)) Q E s:=by
 obtain ⟨o,a,c,dat⟩:=id x
 refine wpAny_pyIter_slot x.ty PySem.F.slot_dict_iter (wpAny_call_entry PySem.F.slot_dict_iter x.ty PySem.F.entry_dict_iter ?_ (PySem.F.args_dict_iter_1 _))
 unfold Builtin.«dict.__iter__»;refine wpAny_bind ?_
 unfold Builtin.Dict.dictSlotNone;refine wpAny_bind (wpAny_notOrdered_dict x.ty ?_)
 show wpAny _ _ (pure (Value.ref d)) _ _ s;refine wpAny_pure ?_
 show wpAny _ _ (Builtin.Dict.showsAll d >>= _) _ _ s;unfold Builtin.Dict.showsAll
 rw [if_neg (by rw [lo];simp)];refine wpAny_bind (wpAny_pure ?_)
 refine wpAny_bind (wpAny_dictEntries a dat (wpAny_bind (wpAny_dictEpoch a dat ?_)))
 refine wpAny_bind (wpAny_newObj_type (wpAny_pure ⟨_,rfl,"dict_keyiterator",_,⟨_,Heap.get?_push_size _ rfl,rfl⟩,PySem.F.slot_dict_keyiterator_next.lookup,q⟩))
theorem raw_next {Q:Option Value->Shared->Prop} (t:s.heap.IsKeyIter it d i es.size ep) (x:DRaw s.heap d es ep) {u:DictEntry} (hx:es[i]?=some u)
  (q:∀ h',h'.IsKeyIter it d (i+1) es.size ep->Heap.SameBut it s.heap h'->Q (some u.key) { s with heap:=h' }):wpAny (model prog w) A (pyNext (.ref it)) Q E s:=by
 obtain ⟨o,ho,hc,hd⟩:=id t
 obtain ⟨od,a,c,dat⟩:=id x
 unfold pyNext
 refine wpAny_bind (wpAny_attempt (wpAny_callSpecial?_slot (name:=Str.ofString "__next__") t.typeIs PySem.F.slot_dict_keyiterator_next (wpAny_call_entry PySem.F.slot_dict_keyiterator_next t.typeIs PySem.F.entry_dict_keyiterator_next ?_ (PySem.F.args_dict_keyiterator_next_1 _))))
 refine wpAny_bind (wpAny_pure ?_);refine wpAny_bind ?_;refine wpAny_bind ?_
 refine wpAny_bind (wpAny_typeNameOfWhole_keyiter t.typeIs (wpAny_pure ?_));refine wpAny_bind (wpAny_fieldsOf ho hd ?_)
 simp only [show Builtin.Dict_items.ownsTuple "dict_keyiterator"=false by decide,Bool.false_eq_true,if_false]
 show wpAny _ _ (if (Value.ref d==Value.none)=true then _ else _) _ _ s;rw [if_neg (by simp)]
 refine wpAny_bind (wpAny_pure ?_);refine wpAny_bind (wpAny_dictEntries a dat ?_)
 rw [if_neg (by simp)];refine wpAny_bind (wpAny_pure ?_);refine wpAny_bind (wpAny_dictEpoch a dat ?_)
 rw [if_neg (by simp)];refine wpAny_pure ?_
 simp only [show ¬ ((i:Int) < 0) from by lia,if_false,Int.toNat_natCast,hx];refine wpAny_bind ?_
 refine wpAny_bind (wpAny_typeNameOfWhole_keyiter t.typeIs (wpAny_pure ?_));refine wpAny_bind (wpAny_isOneOf_keyiter t.typeIs ?_)
 show wpAny _ _ (setField (.ref it) 1 (rawInt ((i:Int)+1)) >>= _) _ _ s;refine wpAny_bind (wpAny_setField ho hd (by simp) ?_)
 have t':(s.heap.update it (Obj.mapFields (·.setIfInBounds 1 (rawInt ((i:Int)+1))))).IsKeyIter it d (i+1) es.size ep:=⟨_,Heap.get?_update_self _ ho (Obj.isFreed_of_fields (Obj.data_mapFields hd _)),(Obj.cls_mapFields ..).trans hc,by rw [Obj.data_mapFields hd];simp [rawInt]⟩
 refine wpAny_bind (wpAny_holding ?_);refine wpAny_bind (wpAny_isOneOf_keyiter (s:={ s with heap:=s.heap.update it (Obj.mapFields (·.setIfInBounds 1 (rawInt ((i:Int)+1)))) }) t'.typeIs ?_)
 show wpAny _ _ (pure u.key) _ _ _;exact wpAny_pure (wpAny_pure ⟨_,rfl,wpAny_pure (q _ t' (Heap.SameBut.update ..))⟩)
theorem raw_end {Q:Option Value->Shared->Prop} (hh:A.handled=none) (t:s.heap.IsKeyIter it d i es.size ep) (x:DRaw s.heap d es ep) (hx:es.size≤i)
  (q:∀ h',Heap.ExtBut it s.heap h'->Q none { s with heap:=h' }):wpAny (model prog w) A (pyNext (.ref it)) Q E s:=by
 obtain ⟨o,ho,hc,hd⟩:=id t
 obtain ⟨od,a,c,dat⟩:=id x
 unfold pyNext
 refine wpAny_bind (wpAny_attempt (wpAny_callSpecial?_slot (name:=Str.ofString "__next__") t.typeIs PySem.F.slot_dict_keyiterator_next (wpAny_call_entry PySem.F.slot_dict_keyiterator_next t.typeIs PySem.F.entry_dict_keyiterator_next ?_ (PySem.F.args_dict_keyiterator_next_1 _))))
 refine wpAny_bind (wpAny_pure ?_);refine wpAny_bind ?_;refine wpAny_bind ?_
 refine wpAny_bind (wpAny_typeNameOfWhole_keyiter t.typeIs (wpAny_pure ?_));refine wpAny_bind (wpAny_fieldsOf ho hd ?_)
 simp only [show Builtin.Dict_items.ownsTuple "dict_keyiterator"=false by decide,Bool.false_eq_true,if_false]
 show wpAny _ _ (if (Value.ref d==Value.none)=true then _ else _) _ _ s;rw [if_neg (by simp)]
 refine wpAny_bind (wpAny_pure ?_);refine wpAny_bind (wpAny_dictEntries a dat ?_)
 rw [if_neg (by simp)];refine wpAny_bind (wpAny_pure ?_);refine wpAny_bind (wpAny_dictEpoch a dat ?_)
 rw [if_neg (by simp)];refine wpAny_pure ?_
 simp only [show ¬ ((i:Int) < 0) from by lia,if_false,Int.toNat_natCast,Array.getElem?_eq_none hx];refine wpAny_bind ?_
 refine wpAny_bind (wpAny_typeNameOfWhole_keyiter t.typeIs (wpAny_pure ?_))
 show wpAny _ _ (setField (.ref it) 0 .none >>= _) _ _ s;refine wpAny_bind (wpAny_setField ho hd (by simp) ?_)
 show wpAny _ _ (newExc (.type "StopIteration") [] >>= _) _ _ _;refine wpAny_bind ?_
 simp only [newExc,newTuple];refine wpAny_bind (wpAny_newObj_type ?_ (by size_fits))
 refine wpAny_bind (m:=firstArgMember _ _) (wpAny_of_eq (a:=Value.none) (by first | rfl | (simp only [firstArgMember];rfl)) (wpAny_newObj_type ?_ (by size_fits)))
 simp only [raiseNew];refine wpAny_bind (wpAny_handled ?_)
 rw [show A.in1.handled=none from hh];refine wpAny_bind (wpAny_pure (wpAny_throw ?_))
 refine wpAny_bind (wpAny_isInstance (T:="StopIteration") (b:=true) ⟨_,Heap.get?_push_size _ rfl,rfl⟩ isSubtype_stop (wpAny_pure (q _ (((Heap.SameBut.update ..).extBut.push _).push _))))
theorem raw_walks (hh:A.handled=none) (I d:Addr) (hne:d≠I) (es:Array DictEntry) (ep:Nat) :
  Walks prog w A I [I,d] [I] es.size (fun i v=>∃ u,es[i]?=some u/\v=u.key) (fun i h=>h.IsKeyIter I d i es.size ep/\DRaw h d es ep) where
 sub:=fun b hb=>by simp only [List.mem_singleton] at hb;simp [hb]
 frame:=fun _ _ _ st k=>⟨st.1.at fun o e=>k I (by simp) o e,st.2.to fun o e=>k d (by simp) o e⟩
 item:=fun i s Q E hi st hQ=>raw_next st.1 st.2 (u:=es[i]) (by simp [hi]) fun h' t' sb=>hQ _ h' s.toks ⟨es[i],by simp [hi],rfl⟩ ⟨t',st.2.to fun o e=>(sb.2 d hne).trans e⟩ fun b o hb e=>(sb.2 b (fun z=>hb (by simp [z]))).trans e
 done:=fun s Q E st hQ=>raw_end hh st.1 st.2 (Nat.le_refl _) fun h' eb=>hQ h' s.toks fun b o hb e=>eb b o (fun z=>hb (by simp [z])) e
 self:=fun _ _ _ _ st hQ=>wpAny_pyIter_keyiter st.1 hQ
theorem raw_src (lo:(d==sysModules)=false):KdlSrc prog w "dict" d d es.size (fun i v=>∃ u,es[i]?=some u/\v=u.key) (fun h=>DRaw h d es ep) where
 type:=fun _ x=>x.ty
 there:=fun _ x=>⟨x.lt,x.lt⟩
 keep:=fun _ _ x k=>x.to fun o e=>k d (.inl rfl) o e
 notList:=by decide
 notTuple:=by decide
 hint:=fun _ _ _ _ x q=>kdl_hint_dict x.ty q
 iter:=fun _ _ hh x=>⟨_,_,(fun _ _ q=>raw_iter lo x q),raw_walks hh _ d (Nat.ne_of_lt x.lt) es ep,⟨_,Heap.get?_push_size _ rfl,rfl,rfl⟩,x.to fun o e=>Heap.get?_push_of_some _ e⟩
end
theorem Inv.thaw {X:Cx} {pins:List (Addr×Obj)} {σ:St} {H:Hp} {s:Shared} {d:Addr} {o:Obj} {kvs:List (List Key×V)} (I:Inv X pins σ H s) (e:H d=some (.frz o (.dT kvs))) (h0:∀ o u,X.H₀ d≠some (.frz o u)):Inv X pins σ (upd H d (.dT kvs)) s:=by
 have ne:∀ {b:Addr},H b=none->b≠d:=fun z w=>by rw [w,e] at z;cases z
 have up:∀ {b:Addr} {u:HO},H b=some u->(∀ o v,u≠.frz o v)->upd H d (.dT kvs) b=some u:=fun {b u} z q=>by
  by_cases hb:b=d
  ·subst hb;rw [e] at z;exact absurd (Option.some.inj z).symm (q _ _)
  ·rw [upd_ne hb];exact z
 exact {
  ok:=I.ok
  os:=I.os
  bare:=I.bare
  base:=⟨I.base.keep,I.base.slot,fun b o q n hx=>by rw [upd_ne (ne (I.base.free b o q n hx))];exact I.base.free b o q n hx,I.base.there,fun b xs q=>up (I.base.tups b xs q) (fun _ _ z=>nomatch z),
   fun b o u q=>by
    have z:=I.base.frzs b o u q
    by_cases hb:b=d
    ·subst hb;exact absurd q (h0 _ _)
    ·rw [upd_ne hb];exact z,
   fun b ps q=>let ⟨m,z⟩:=I.base.tbls b ps q;⟨m,up z (fun _ _ z=>nomatch z)⟩⟩
  loc:=I.loc
  cell:=I.cell
  free:=by rw [upd_ne (ne I.free)];exact I.free
  freeC:=fun x c q=>by rw [upd_ne (ne (I.freeC x c q))];exact I.freeC x c q
  pin:=fun p hp=>let ⟨a,b,c⟩:=I.pin p hp;⟨a,by rw [upd_ne (ne b)];exact b,c⟩
  hok:=fun b u q=>by
   have ho:∀ c,H c=some (.own b)->upd H d (.dT kvs) c=some (.own b):=fun c z=>up z (fun _ _ z=>nomatch z)
   have ht:∀ c xs,H c=some (.tup xs)->upd H d (.dT kvs) c=some (.tup xs):=fun c xs z=>up z (fun _ _ z=>nomatch z)
   by_cases hb:b=d
   ·subst hb
    rw [upd_same] at q
    cases q
    exact (I.hok b _ e).2.stay (fun _ _ _ z=>z) ho ht
   ·rw [upd_ne hb] at q
    exact (I.hok b u q).stay (fun _ _ _ z=>z) ho ht
  len:=I.len }
noncomputable def Itd (d:Addr) (o:Obj) (kvs:List (List Key×V)):It :=
 ⟨fun i H=>i < kvs.length/\H d=some (.frz o (.dT kvs)),fun i H x H'=>H'=H/\∃ kv a,kvs[i]?=some kv/\x=.ref a/\H a=some (.tup (kv.1.map kV)),fun i H=>kvs.length≤i/\H d=some (.frz o (.dT kvs))⟩
theorem paired_get {α β:Type} {F:α->β->Prop}:∀ {l:List α} {m:List β},Paired F l m->∀ {i:Nat} {a:α},l[i]?=some a->∃ b,m[i]?=some b/\F a b
 | _,_,.nil,i,a,h=>by simp at h
 | _,_,.cons h t,0,a,e=>by simp only [List.getElem?_cons_zero,Option.some.injEq] at e;subst e;exact ⟨_,rfl,h⟩
 | _,_,.cons h t,i+1,a,e=>by simp only [List.getElem?_cons_succ] at e ⊢;exact paired_get t e
theorem turn_dT {P:Program} {w:World} {K:PySem.W.Frag} {tg:Expr} {d it:Addr} {o:Obj} {kvs:List (List Key×V)} {es:Array DictEntry} {ep:Nat} (od:o.data=.dict es ep) :
  Turn P w K tg (Itd d o kvs) [it] it (fun i h=>h.IsKeyIter it d i es.size ep) where
 mem:=by simp
 obj:=fun i h st b hb=>by
  obtain rfl:b=it:=by simpa using hb
  obtain ⟨u,e,c,dd⟩:=st
  exact ⟨u,e,fun v z=>by rw [dd] at z;cases z⟩
 keep:=fun i h h' st k=>st.at fun u e=>k it (by simp) u e
 item:=by
  rintro X rfl rfl rfl hc i pins s σ H E I hf st ⟨hi,ed⟩
  obtain ⟨f0,f1,f2,f3,f4,f5⟩:=hf it (by simp)
  obtain ⟨g0,z,_,xs,r,o',es',ep',g1,g2,g3,g4,g5⟩:=I.hok d _ ed
  rw [g0] at g1
  cases g1
  rw [od] at g3
  cases g3
  obtain ⟨x,hx,q1,q2,q3⟩:=paired_get r (List.getElem?_eq_getElem hi)
  have hu:es[i]?=some (entryOfKey (tupleKind (mixKind X.prog X.w)) x):=by rw [←Array.getElem?_toList,g4,List.getElem?_map,hx];rfl
  refine raw_next st ⟨o,g0,g2,od⟩ hu fun h' st' sb=>?_
  have I1:Inv X pins σ H { s with heap:=h' }:=I.turned (t':=s.toks) (fun b u hb e=>(sb.2 b hb).trans e) f0 f1 f3 f4 f5
  obtain ⟨u,e,c,dd⟩:=id st'
  exact ⟨_,rfl,go_of (s:={ s with heap:=h' }) e c dd (by decide) ⟨.ref x.2.1,H,I1,rfl,⟨rfl,_,x.2.1,List.getElem?_eq_getElem hi,rfl,q2⟩,st',fun b hb=>(hf b hb).1⟩⟩
 done:=by
  rintro X rfl rfl rfl hc i pins s σ H E I hf st ⟨hi,ed⟩
  obtain ⟨f0,f1,f2,f3,f4,f5⟩:=hf it (by simp)
  obtain ⟨g0,z,_,xs,r,o',es',ep',g1,g2,g3,g4,g5⟩:=I.hok d _ ed
  rw [g0] at g1
  cases g1
  rw [od] at g3
  cases g3
  have hl:es.size=kvs.length:=by rw [←Array.length_toList,g4,List.length_map,Paired.length r]
  exact raw_end (I.ok.hd hc) st ⟨o,g0,g2,od⟩ (by lia) fun h' eb=>⟨rfl,I.turned (t':=s.toks) (fun b u hb e=>eb b u hb e) f0 f1 f3 f4 f5⟩
 self:=fun _ _ _ _ _ st h=>wpAny_pyIter_keyiter st h
noncomputable def iDT (tl:TE):TI:=fun σ H R=>tl σ H fun x H1=>∃ d kvs,x=.ref d/\H1 d=some (.dT kvs)/\∀ o,R (Itd d o kvs) (upd H1 d (.frz o (.dT kvs)))
theorem pi_dT {X:Cx} {tg l:Expr} {tl:TE} (hl:PE X l tl):PI X tg l (iDT tl):=by
 intro pins s σ H R I h
 refine thn (hl pins s σ H _ I h) fun v s1 ⟨x,H1,I1,r1,q1⟩=>?_
 obtain ⟨d,kvs,e,ed,q⟩:=q1
 subst e
 cases r1
 obtain ⟨z,lo,xs,r,o,es,ep,g1,g2,g3,g4,g5⟩:=id (I1.hok d _ ed)
 refine raw_iter lo ⟨o,g1,g2,g3⟩ ?_
 have If:Inv X pins σ (upd H1 d (.frz o (.dT kvs))) s1:=by
  refine I1.write (x:=d) (e:=d) (t':=s1.toks) (h':=s1.heap) (by rw [ed];exact True.intro) (.inl rfl) (fun _ _ _ z=>z) ⟨_,g1⟩ ⟨g1,?_⟩
  refine (I1.hok d _ ed).stay (fun _ _ _ z=>z) (fun b q=>?_) (fun b xs q=>?_)
  ·rw [upd_ne (ne_of q ed (fun z=>nomatch z))];exact q
  ·rw [upd_ne (ne_of q ed (fun z=>nomatch z))];exact q
 refine ⟨s1.heap.objs.size,[s1.heap.objs.size],_,_,_,rfl,If.kept (t':=s1.toks) fun b o e=>Heap.get?_push_of_some _ e,turn_dT g3,⟨_,Heap.get?_push_size _ rfl,rfl,rfl⟩,fun b hb=>?_,q o⟩
 obtain rfl:b=s1.heap.objs.size:=by simpa using hb
 exact If.fpOk (Nat.le_refl _) (If.hok.fresh (Nat.le_refl _))
noncomputable def Ends.thaw (D:Ends) (d:Addr) (kvs:List (List Key×V)):Ends where
 nx:=fun σ H=>(∃ o,H d=some (.frz o (.dT kvs)))/\D.nx σ (upd H d (.dT kvs))
 rt:=fun v H=>(∃ o,H d=some (.frz o (.dT kvs)))/\D.rt v (upd H d (.dT kvs))
 bk:=fun σ H=>(∃ o,H d=some (.frz o (.dT kvs)))/\D.bk σ (upd H d (.dT kvs))
 ct:=fun σ H=>(∃ o,H d=some (.frz o (.dT kvs)))/\D.ct σ (upd H d (.dT kvs))
noncomputable def tForD (i:Nat) (g:TG) (tb:TS):TS:=fun D σ H=>∃ d kvs,σ[i]?=some (some (.ref d))/\H d=some (.dT kvs)/\∀ o,ForGo (Itd d o kvs) g tb (D.thaw d kvs) σ (upd H d (.frz o (.dT kvs)))
theorem ps_forD {X:Cx} {tg:Expr} {x:Str} {p:Pos} {i:Nat} {body:List Stmt} {g:TG} {tb:TS} {pos:Pos} (hp:PassesOwn (model X.prog X.w) X.A X.env X.xe) (hc:X.calm=true) (hi:PE X (.Name x p) (tVar i)) (hg:PG X tg g) (hb:PSs X body tb) :
  PS X (.For tg (.Name x p) body [] pos) (tForD i g tb):=by
 rintro pins s σ H D I ⟨d,kvs,e1,e2,h⟩
 have h0:∀ o u,X.H₀ d≠some (.frz o u):=fun o u z=>by rw [I.base.frzs d o u z] at e2;cases e2
 have hw:wpAny (model X.prog X.w) X.A (exec (.For tg (.Name x p) body [] pos) X.env) (SP X pins (D.thaw d kvs)) X.xe s :=
  ps_for hp hc (pi_dT hi) hg hb (by intro _;rfl) pins s σ H (D.thaw d kvs) I ⟨.ref d,e1,d,kvs,rfl,e2,fun o=>h o⟩
 refine thn hw fun f s' q=>?_
 cases f with
 | next=>obtain ⟨σ',H',I',⟨o,e⟩,q⟩:=q;exact ⟨σ',_,I'.thaw e h0,q⟩
 | brk=>obtain ⟨σ',H',I',⟨o,e⟩,q⟩:=q;exact ⟨σ',_,I'.thaw e h0,q⟩
 | cont=>obtain ⟨σ',H',I',⟨o,e⟩,q⟩:=q;exact ⟨σ',_,I'.thaw e h0,q⟩
 | ret u=>obtain ⟨v,σ',H',I',r,⟨o,e⟩,q⟩:=q;exact ⟨v,σ',_,I'.thaw e h0,r,q⟩
theorem qs_forD {X:Cx} {tg:Expr} {x:Str} {p:Pos} {i:Nat} {body:List Stmt} {g:TG} {tb:TS} {pos:Pos} (hp:PassesOwn (model X.prog X.w) X.A X.env X.xe) (hc:X.calm=true) (hi:QE X (.Name x p) (tVar i)) (hg:QG X tg g) (hb:QSs X body tb) :
  QS X (.For tg (.Name x p) body [] pos) (tForD i g tb):=⟨ps_forD hp hc hi.r hg.r hb.r⟩
noncomputable def mk1 (c:C3):List Key×V:=(keyC c,.bl true)
noncomputable def Marks (H:Hp) (d:Addr) (cs:List C3):Prop:=H d=some (.dT (cs.map mk1))
noncomputable def addC (cs:List C3) (c:C3):List C3:=if c∈cs then cs else cs ++ [c]
theorem mem_addC {cs:List C3} {c x:C3}:x∈addC cs c↔x∈cs\/x=c:=by
 unfold addC
 split
 ·rename_i h
  constructor
  ·exact .inl
  ·rintro (h' | rfl)
   ·exact h'
   ·exact h
 ·simp
theorem nodup_addC {cs:List C3} {c:C3} (h:cs.Nodup):(addC cs c).Nodup:=by
 unfold addC
 split
 ·exact h
 ·rename_i hn
  rw [List.nodup_append]
  refine ⟨h,by simp,fun a ha b hb=>?_⟩
  rw [List.mem_singleton] at hb
  subst hb
  exact fun e=>hn (e▸ha)
theorem len_addC {cs:List C3} {c:C3}:(addC cs c).length≤cs.length+1:=by unfold addC;split <;> simp
theorem put_marks (cs:List C3) (c:C3):putK (cs.map mk1) (keyC c) (.bl true)=(addC cs c).map mk1:=by
 unfold putK addC
 by_cases h:c∈cs
 ·have a:((cs.map mk1).any fun kv=>decide (kv.1=keyC c))=true:=by
   rw [List.any_eq_true]
   exact ⟨mk1 c,List.mem_map.mpr ⟨c,h,rfl⟩,by simp [mk1]⟩
  rw [if_pos a,if_pos h,List.map_map]
  refine List.map_congr_left fun x _=>?_
  show (if (mk1 x).1=keyC c then _ else mk1 x)=mk1 x
  split
  ·rename_i e
   rfl
  ·rfl
 ·have a:¬ ((cs.map mk1).any fun kv=>decide (kv.1=keyC c))=true:=by
   rw [List.any_eq_true]
   rintro ⟨kv,hkv,e⟩
   obtain ⟨x,hx,rfl⟩:=List.mem_map.mp hkv
   have e:keyC x=keyC c:=of_decide_eq_true e
   rw [keyC_inj] at e
   subst e
   exact h hx
  rw [if_neg a,if_neg h,List.map_append]
  rfl
theorem val_marks (cs:List C3) (c:C3):(valV (cs.map mk1) (keyC c)).isSome=decide (c∈cs):=by
 rw [←valV_any]
 by_cases h:c∈cs
 ·rw [decide_eq_true h,List.any_eq_true]
  exact ⟨mk1 c,List.mem_map.mpr ⟨c,h,rfl⟩,by simp [mk1]⟩
 ·rw [decide_eq_false h,List.any_eq_false]
  intro kv hkv
  obtain ⟨x,hx,rfl⟩:=List.mem_map.mp hkv
  intro e
  have e:keyC x=keyC c:=of_decide_eq_true e
  rw [keyC_inj] at e
  subst e
  exact h hx
section
variable {prog:Program} {w:World} {A:Around} {E:Value->Shared->Prop} {s:Shared}
theorem col_src {T:String} {r d:Addr} {n:Nat} {P:Nat->Value->Prop} {OK:Heap->Prop} {R:List Value->Shared->Prop} (Ks:KdlSrc prog w T r d n P OK) (hh:A.handled=none) (hok:OK s.heap) (hn:n≤sizeLine)
  (h:∀ (h':Heap) (tk:Nat) (acc:Array Value),(∀ b o,s.heap.get? b=some o->h'.get? b=some o)->s.heap.objs.size≤h'.objs.size->ItemsOf P acc n->R acc.toList { s with heap:=h',toks:=tk }):wpAny (model prog w) A (collect (.ref r)) R E s:=by
 have lt:=Ks.there _ hok
 unfold collect;refine wpAny_bind (wpAny_runValue (codeAny_builtin entry_proto_collect' ?_))
 rw [Around.under_plainId PySem.F.plain_proto_collect _];show wpAny _ A.in1 (newList [] >>= fun l=>again (.builtin "list.__iadd__" ⟨[l,.ref r],[]⟩)) _ _ s
 refine wpAny_bind (wpAny_newObj_type (wpAny_pure ⟨plainId_quiet PySem.F.plain_list_iadd _,codeAny_builtin entry_list_iadd' ?_⟩))
 rw [Around.under_plainId PySem.F.plain_list_iadd _];show wpAny _ A.in1 (Builtin.List.listExtendWith (.ref s.heap.objs.size) (.ref r) (.ref s.heap.objs.size)) _ _ _
 have fin:=kdl_extend (A:=A) (s:={ s with heap:=s.heap.push { cls:=.type "list",data:=.seq ([]:List Value).toArray } }) (R:=fun (q:Result) (s':Shared)=>∃ (h':Heap) (tk:Nat) (acc':Array Value) (c':Nat),q=.ok (.ret (.ref s.heap.objs.size))/\s'={ s with heap:=h',toks:=tk }/\(∀ b o,s.heap.get? b=some o->h'.get? b=some o)/\h'.get? s.heap.objs.size=some { cls:=.type "list",dict:=none,data:=.seq acc' c',slots:=#[] }/\ItemsOf P acc' n)
  Ks hh (Ks.keep _ _ hok fun b _ o e=>Heap.get?_push_of_some _ e) s.heap.objs.size (Nat.ne_of_gt lt.1) (Nat.ne_of_gt lt.2) (.ref s.heap.objs.size) 0 (Heap.get?_push_size _ rfl) (fun h' tk acc' c' k k2 k3=>⟨h',tk,acc',c',rfl,rfl,fun b o e=>k b o (Nat.ne_of_lt (Heap.lt_size e)) (Heap.get?_push_of_some _ e),k2,k3⟩) hn
 refine wpAny_mono fin (fun f s' x=>?_) fun e s' x=>(by obtain ⟨_,_,_,_,e',_⟩:=x;cases e')
 cases f with
 | done f=>obtain ⟨h',tk,acc',c',e,rfl,k,k2,k3⟩:=x;cases e;exact (show wpAny _ A (load s.heap.objs.size >>= _) _ _ _ from wpAny_bind (wpAny_load k2 (wpAny_pure (h h' tk acc' k (Nat.le_of_lt (Heap.lt_size k2)) k3))))
 | again c₁=>exact ⟨x.1,codeAny_mono x.2 fun q s₂ y=>by obtain ⟨h',tk,acc',c',rfl,rfl,k,k2,k3⟩:=y;exact (show wpAny _ A (load s.heap.objs.size >>= _) _ _ _ from wpAny_bind (wpAny_load k2 (wpAny_pure (h h' tk acc' k (Nat.le_of_lt (Heap.lt_size k2)) k3))))⟩
theorem sorted_src {T:String} {r d:Addr} {n:Nat} {P:Nat->Value->Prop} {OK:Heap->Prop} {Q:Value->Shared->Prop} (Ks:KdlSrc prog w T r d n P OK) (hh:A.handled=none) (hok:OK s.heap) (hn:n≤sizeLine)
  (h:∀ (h':Heap) (tk:Nat) (vs:List Value),(∀ b o,s.heap.get? b=some o->h'.get? b=some o)->s.heap.objs.size≤h'.objs.size->vs.length=n->(∀ (j:Nat) (v:Value),vs[j]?=some v->P j v) ->
   wpAny (model prog w) A.in1 (call (.builtin "list.sort") [.ref h'.objs.size]) (fun _ s'=>Q (.ref h'.objs.size) s') E { s with heap:=h'.push (seqObj "list" vs.toArray 0),toks:=tk }) :
  wpAny (model prog w) A (call (.builtin "sorted") [.ref r]) Q E s:=by
 refine Calls.call_function_entry kind_sorted plain_sorted entry_sorted (args_sorted1 _) ?_
 unfold Builtin.«sorted»;refine wpAny_bind (m:=checkCount "sorted" 1 1 _) (wpAny_pure ?_)
 refine wpAny_bind (col_src (A:=A.in1) Ks hh hok hn fun h' tk acc hk hs hacc=>?_)
 have hl:acc.toList.length=n:=by rw [Array.length_toList];exact hacc.1
 refine wpAny_bind (wpAny_newList ?_ (by rw [hl];exact hn))
 refine wpAny_bind (wpAny_holding (wpAny_mono (h h' tk acc.toList hk hs hl fun j v e=>hacc.2 j v (by rw [←Array.getElem?_toList];exact e)) (fun _ s' x=>wpAny_pure ⟨_,rfl,x⟩) fun _ _ e=>e))
end
section
variable {X:Cx}
noncomputable def rSortD (K:PySem.W.Frag):List V->Hp->VK->Prop:=fun xs H Q=>∃ (d:Addr) (kvs:List (List Key×V)) (cs:List C3),xs=[.ref d]/\H d=some (.dT kvs)/\kvs.map (·.1)=cs.map keyC /\
 ∀ (p:Addr) (zs:List V),H p=none->Cs (upd H p (.lst zs)) zs (srtC cs)->Q (.ref p) (upd H p (.lst zs))
theorem sort_laid {pins:List (Addr×Obj)} {σ:St} {H:Hp} {s:Shared} {ys:List V} {cs:List C3} {its:List Value} {h':Heap} {tk:Nat} {A:Around} {E:Value->Shared->Prop} {R:Value->Shared->Prop} (I:Inv X pins σ H s) (hc:Cs H ys cs) (rv:Vals ys its) (hz:ys.length≤sizeLine)
  (kk:∀ b o,s.heap.get? b=some o->h'.get? b=some o) (hge:s.heap.objs.size≤h'.objs.size) (q:∀ (p:Addr) (zs:List V) (s':Shared),H p=none->Cs (upd H p (.lst zs)) zs (srtC cs)->Inv X pins σ (upd H p (.lst zs)) s'->p=h'.objs.size->R .none s') :
  wpAny (model X.prog X.w) A (call (.builtin "list.sort") [.ref h'.objs.size]) R E { s with heap:=h'.push (seqObj "list" its.toArray 0),toks:=tk }:=by
 obtain ⟨ps,e1,e2,e3,e3t⟩:=prs_of (K:=X.K) hc
 have hlen:ps.length=cs.length:=by have:=congrArg List.length e2;simpa using this
 have rv':Vals (refs ps) its:=by rw [←e1];exact rv
 have hlen2:its.length=ps.length:=by have:=rv'.length;simpa using this.symm
 have hz':its.length≤sizeLine:=by have:=rv.length;lia
 have hn:H h'.objs.size=none:=I.hok.fresh hge
 have hoL:(h'.push (seqObj "list" its.toArray 0)).get? h'.objs.size=some (seqObj "list" its.toArray 0):=Heap.get?_push_size _ rfl
 have kk2:∀ b o,s.heap.get? b=some o->(h'.push (seqObj "list" its.toArray 0)).get? b=some o:=fun b o z=>Heap.get?_push_of_some _ (kk b o z)
 have old:∀ (out:Array Value) b o,s.heap.get? b=some o->(sortedHeap (h'.push (seqObj "list" its.toArray 0)) h'.objs.size its out).get? b=some o:=fun out b o z=>by
  have hlt:b < h'.objs.size:=Heap.lt_size (kk b o z)
  rw [sortedHeap_old (Nat.ne_of_lt hlt) (by rw [size_push'];exact Nat.lt_succ_of_lt hlt)]
  exact kk2 b o z
 have d3:∀ p∈ps,p.2.length=3:=fun p hp=>by
  have:p.2∈ps.map (·.2):=List.mem_map.mpr ⟨p,hp,rfl⟩
  rw [e2] at this
  obtain ⟨c,_,e⟩:=List.mem_map.mp this
  rw [←e];rfl
 by_cases h2:2≤its.length
 ·have tup':∀ h1:Heap,(∀ b o,s.heap.get? b=some o->h1.get? b=some o)->∀ p∈ps,∃ vs:List Value,Vals (p.2.map V.int) vs/\IsTup h1 p.1 vs.toArray:=fun h1 kk p hp=>by
   obtain ⟨vs,rv',⟨ob,ho,hcl,n,hdat⟩,_⟩:=I.tuple (e3 p hp)
   exact ⟨vs,rv',ob,kk _ _ ho,hcl,n,hdat⟩
  have far:∀ b o,s.heap.get? b=some o->b≠h'.objs.size:=fun b o z=>Nat.ne_of_lt (Heap.lt_size (kk b o z))
  refine wpAny_call_entry slot_list_sort ⟨_,hoL,rfl⟩ entry_list_sort (Tim.list_sort_any (lt:=HT.lexLt) (k:=fun x=>keyOf ps x.1) (S:=fun x=>x.1∈its) (kind:=tuples' (Value.type "int" != Value.type "tuple")) hoL h2 hz' (fun h1 k1 {Q' E'} hQ=>?_) (fun h1 k1=>⟨lexO,fun x y hx hy {Q' E'} hQ=>?_⟩) (fun v hv=>hv) fun out hp hs=>?_) (args_list_sort _)
  ·obtain ⟨fs,kt,hfl,hfs⟩:=firsts_of (h:=h1) rv' fun p hp=>⟨fun e=>by have:=d3 p hp;rw [e] at this;simp at this,tup' h1 (fun b o z=>k1 b o (far b o z) (kk2 b o z)) p hp⟩
   refine kat_kind (T:=.type "int") kt (by lia) (fun v hv=>?_) rfl hQ
   obtain ⟨i,t,rfl⟩:=hfs v hv
   exact Looks.of_pure rfl
  ·obtain ⟨p1,m1,f1⟩:=refs_mem rv' _ hx
   obtain ⟨p2,m2,f2⟩:=refs_mem rv' _ hy
   rw [f1,f2] at hQ ⊢
   rw [keyOf_eq e3t m1,keyOf_eq e3t m2] at hQ
   obtain ⟨vi,ri,oi,hoi,_,ni,di⟩:=tup' h1 (fun b o z=>k1 b o (far b o z) (kk2 b o z)) p1 m1
   obtain ⟨vj,rj,oj,hoj,_,nj,dj⟩:=tup' h1 (fun b o z=>k1 b o (far b o z) (kk2 b o z)) p2 m2
   refine kat_lt hoi di hoj dj ?_
   refine lex_pairs 0 ri rj ((d3 p1 m1).trans (d3 p2 m2).symm) ?_ hQ
   have a1:=ri.length
   have a2:=rj.length
   have b1:=d3 p1 m1
   have b2:=d3 p2 m2
   simp only [List.length_map] at a1 a2
   rw [List.size_toArray,List.size_toArray]
   exact decide_eq_false (by lia)
  ·obtain ⟨qs,q1,q2,q3⟩:=refs_of out ps fun v hv=>refs_mem rv' v (hp.mem_iff.mp hv)
   obtain ⟨e,he⟩:=sortedHeap_at (out:=out.toArray) hoL
   have keyq:∀ p∈qs,keyOf ps (.ref p.1)=p.2:=fun p hp=>keyOf_eq e3t (q1 p hp)
   have kp:(out.map (keyOf ps)).Perm (its.map (keyOf ps)):=hp.map _
   have ko:out.map (keyOf ps)=qs.map (·.2):=by
    rw [q3,List.map_map]
    exact List.map_congr_left fun p hp=>keyq p hp
   have ki:its.map (keyOf ps)=ps.map (·.2):=by
    have go:∀ (ps':Prs) (its':List Value),(∀ p∈ps',p∈ps)->Vals (refs ps') its'->its'.map (keyOf ps)=ps'.map (·.2):=by
     intro ps'
     induction ps' with
     | nil=>intro its' _ r;have r:Vals [] _:=r;cases r;rfl
     | cons p ps' ih =>
      intro its' hm r
      have r:Vals (V.ref p.1 :: refs ps') _:=r
      cases r with
      | cons r1 r2 =>
       cases r1
       rw [List.map_cons,List.map_cons,keyOf_eq e3t (hm p (List.mem_cons_self ..)),ih _ (fun p' hp'=>hm p' (List.mem_cons_of_mem _ hp')) r2]
    exact go ps its (fun _ h=>h) rv'
   rw [ko,ki,e2] at kp
   obtain ⟨ds,e4,e5⟩:=lists_of_map kp
   have ha:Asc ds:=by
    have h3:(qs.map (·.2)).Pairwise (fun a b=>HT.lexLt b a=false):=by
     rw [←ko,List.pairwise_map]
     exact hs
    rw [e4] at h3
    exact (List.pairwise_map.mp h3).imp fun h=>by unfold cle;rw [h];rfl
   have e6:=srtC_uniq e5 ha
   have hzl:(refs qs).length≤sizeLine:=by rw [q2.length,hp.length_eq];exact hz'
   refine ⟨_,rfl,q h'.objs.size (refs qs) _ hn ?_ (I.laid (t':=tk) (old out.toArray) hge ⟨hzl,out,e,q2,he⟩) rfl⟩
   refine Rs.up (same_new hn) ?_
   rw [←e6]
   exact cs_of e4 fun x hx=>e3t x (q1 x hx)
 ·obtain ⟨e,he⟩:=sortedHeap_at (out:=its.toArray) hoL
  refine wpAny_call_entry slot_list_sort ⟨_,hoL,rfl⟩ entry_list_sort (list_sort_short hoL (by lia) ⟨_,rfl,q h'.objs.size ys _ hn ?_ (I.laid (t':=tk) (old its.toArray) hge ⟨hz,its,e,rv,he⟩) rfl⟩) (args_list_sort _)
  have:srtC cs=cs:=by
   refine srtC_of_asc ?_
   match cs,hlen with
   | [],_=>exact .nil
   | [c],_=>exact .cons (fun _ h=>nomatch h) .nil
   | _ :: _ :: _,hlen=>simp at hlen;lia
  rw [this]
  exact Rs.up (same_new hn) hc
theorem cs_keys {H:Hp} {kvs:List (List Key×V)} {xs:List (List Key×Addr×Value)} {cs:List C3} (h:KT H kvs xs) (e:kvs.map (·.1)=cs.map keyC):Cs H (xs.map fun x=>V.ref x.2.1) cs:=by
 unfold KT at h
 induction h generalizing cs with
 | nil =>
  cases cs with
  | nil=>exact .nil
  | cons _ _=>simp at e
 | cons h t ih =>
  cases cs with
  | nil=>simp at e
  | cons c cs =>
   simp only [List.map_cons,List.cons.injEq] at e
   refine .cons ⟨_,rfl,?_⟩ (ih e.2)
   rw [←keyC_v,←e.1]
   exact h.2.1
theorem vals_keys:∀ (xs:List (List Key×Addr×Value)),Vals (xs.map fun x=>V.ref x.2.1) (xs.map fun x=>Value.ref x.2.1)
 | []=>.nil
 | x :: xs=>.cons rfl (vals_keys xs)
theorem call_sortD (hc:X.calm=true):CallR X (.builtin "sorted") (rSortD X.K):=by
 intro pins s σ H xs us Q I r h
 obtain ⟨d,kvs,cs,rfl,ed,ek,q⟩:=h
 obtain ⟨u,rfl,ru⟩:=vals1 r
 cases ru
 obtain ⟨z,lo,ts,r,o,es,ep,g1,g2,g3,g4,g5⟩:=I.hok d _ ed
 have hl:es.size=ts.length:=by rw [←Array.length_toList,g4,List.length_map]
 have hl2:kvs.length=ts.length:=Paired.length r
 refine sorted_src (raw_src (es:=es) (ep:=ep) lo) (I.ok.hd hc) ⟨o,g1,g2,g3⟩ (by lia) fun h' tk vs kk hs hlv hv=>?_
 have ev:vs=ts.map fun x=>Value.ref x.2.1:=by
  refine List.ext_getElem? fun j=>?_
  rcases Nat.lt_or_ge j vs.length with hj | hj
  ·have e:=List.getElem?_eq_getElem hj
   obtain ⟨u,hu,e2⟩:=hv j _ e
   rw [←Array.getElem?_toList,g4,List.getElem?_map] at hu
   rw [e,List.getElem?_map]
   cases ht:ts[j]? with
   | none=>rw [ht] at hu;cases hu
   | some t =>
    rw [ht] at hu
    cases hu
    rw [e2];rfl
  ·rw [List.getElem?_eq_none hj,List.getElem?_eq_none (by rw [List.length_map];lia)]
 subst ev
 refine sort_laid I (cs_keys r ek) (vals_keys ts) (by rw [List.length_map];lia) kk hs fun p zs s' hp hcz I' e=>?_
 exact ⟨.ref p,_,I',by rw [e];rfl,q p zs hp hcz⟩
theorem qc_sortD {K:PySem.W.Frag} (h:X.K=K) (hc:X.calm=true):QCl X (.builtin "sorted") (rSortD K):=⟨h▸call_sortD hc⟩
theorem rd_sortD {K:PySem.W.Frag} {H:Hp} {Q:VK} {d:Addr} {cs:List C3} (h:Marks H d cs) (q:∀ (p:Addr) (zs:List V),H p=none->Cs (upd H p (.lst zs)) zs (srtC cs)->Q (.ref p) (upd H p (.lst zs))):rSortD K [.ref d] H Q :=
 ⟨d,_,cs,rfl,h,by rw [List.map_map];rfl,q⟩
end
mutual
inductive Dat (K:PySem.W.Frag) (H:Hp):V->PyData->Prop
 | int (n:Int):Dat K H (.int n) (.int n)
 | bl (b:Bool):Dat K H (.bl b) (.bool b)
 | str (x:Str):Dat K H (.str x) (.str x)
 | non:Dat K H .non .none
 | tup {a:Addr} {vs:List V} {ds:List PyData}:SqT K H a vs->Dats K H vs ds->Dat K H (.ref a) (.tuple ds)
 | lst {a:Addr} {vs:List V} {ds:List PyData}:SqL K H a vs->Dats K H vs ds->Dat K H (.ref a) (.list ds)
inductive Dats (K:PySem.W.Frag) (H:Hp):List V->List PyData->Prop
 | nil:Dats K H [] []
 | cons {v:V} {vs:List V} {d:PyData} {ds:List PyData}:Dat K H v d->Dats K H vs ds->Dats K H (v :: vs) (d :: ds)
end
section
variable {K:PySem.W.Frag} {H H':Hp}
mutual
theorem Dat.up (s:Same H H'):∀ {v:V} {d:PyData},Dat K H v d->Dat K H' v d
 | _,_,.int n=>.int n
 | _,_,.bl b=>.bl b
 | _,_,.str x=>.str x
 | _,_,.non=>.non
 | _,_,.tup h t=>.tup (same_tup s h) (Dats.up s t)
 | _,_,.lst h t=>.lst (s.seq h) (Dats.up s t)
theorem Dats.up (s:Same H H'):∀ {vs:List V} {ds:List PyData},Dats K H vs ds->Dats K H' vs ds
 | _,_,.nil=>.nil
 | _,_,.cons h t=>.cons (Dat.up s h) (Dats.up s t)
end
theorem Dats.of {α:Type} {R:Hp->V->α->Prop} {enc:α->PyData} (f:∀ {v x},R H v x->Dat K H v (enc x)):∀ {vs:List V} {xs:List α},Rs R H vs xs->Dats K H vs (xs.map enc)
 | _,_,.nil=>.nil
 | _,_,.cons h t=>.cons (f h) (Dats.of f t)
noncomputable def encC (c:C3):PyData:=.tuple (c.l.map PyData.int)
theorem dats_ints:∀ (ns:List Int),Dats K H (ns.map V.int) (ns.map PyData.int)
 | []=>.nil
 | n :: ns=>.cons (.int n) (dats_ints ns)
theorem dat_c {a:Addr} {c:C3} (h:SqT K H a c.v):Dat K H (.ref a) (encC c):=.tup h (dats_ints c.l)
theorem dat_ct {a:Addr} {c:C3} (h:H a=some (.tup c.v)):Dat K H (.ref a) (encC c):=dat_c (SqT.of h)
end
section
variable {X:Cx} {K:PySem.W.Frag}
mutual
theorem Dat.reads {pins:List (Addr×Obj)} {σ:St} {H:Hp} {s:Shared} (I:Inv X pins σ H s):∀ {v:V} {d:PyData} {u:Value},Dat X.K H v d->RelV v u->∃ as,Reads s.heap u d as
 | _,_,_,.int n,r=>by obtain ⟨t,rfl⟩:=r;exact ⟨_,.int n t⟩
 | _,_,_,.bl b,r=>by cases r;exact ⟨_,.bool b⟩
 | _,_,_,.str x,r=>by obtain ⟨t,rfl⟩:=r;exact ⟨_,.str x t⟩
 | _,_,_,.non,r=>by cases r;exact ⟨_,.none⟩
 | _,_,_,.tup h t,r=>by
  cases r
  obtain ⟨its,rv,⟨o,ho,hc,n,hd⟩,_⟩:=I.tuple h
  obtain ⟨as,z⟩:=Dats.reads I t rv
  exact ⟨_,reads_tuple_at ho hc hd (by simpa using z)⟩
 | _,_,_,.lst h t,r=>by
  cases r
  obtain ⟨its,rv,⟨o,n,ho,hc,_,hd⟩,_⟩:=I.list h
  obtain ⟨as,z⟩:=Dats.reads I t rv
  exact ⟨_,reads_list_at ho hc hd (by simpa using z)⟩
theorem Dats.reads {pins:List (Addr×Obj)} {σ:St} {H:Hp} {s:Shared} (I:Inv X pins σ H s):∀ {vs:List V} {ds:List PyData} {us:List Value},Dats X.K H vs ds->Vals vs us->∃ as,ReadsAll s.heap us ds as
 | _,_,_,.nil,r=>by cases r;exact ⟨_,.nil⟩
 | _,_,_,.cons h t,r=>by
  cases r with
  | cons r1 r2 =>
   obtain ⟨as,z1⟩:=Dat.reads I h r1
   obtain ⟨bs,z2⟩:=Dats.reads I t r2
   exact ⟨_,.cons z1 z2⟩
end
noncomputable def rEqD (K:PySem.W.Frag) (neg:Bool):R2:=fun x y H Q=>∃ d e:PyData,Dat K H x d/\Dat K H y e/\SeqAt.shaped d=true/\SeqAt.shaped e=true/\Q (.bl (if neg then !PyData.eqv d e else PyData.eqv d e)) H
theorem qo_neD (h:X.K=K) (hu:X.A.units+64 < cLine):QOp X (compareOp .NotEq) (rEqD K true):=⟨by
 subst h
 rintro pins s σ H x y v u Q I rx ry ⟨d,e,hd,he,sd,se,q⟩
 obtain ⟨as,r1⟩:=hd.reads I rx
 obtain ⟨bs,r2⟩:=he.reads I ry
 exact ne_dataH r1 r2 sd se hu ⟨.bl _,H,I,rfl,q⟩⟩
variable {H:Hp} {Q:VK} {x y:V} {d:PyData}
theorem rd_neD (hx:Dat K H x d) (hy:Dat K H y d) (sd:SeqAt.shaped d=true) (q:Q (.bl false) H):rEqD K true x y H Q:=⟨d,d,hx,hy,sd,sd,by
 rw [SeqAt.eqv_refl d (SeqAt.canLay_of_shaped sd)];exact q⟩
structure Shp (n:Nat) (d:PyData):Prop where
 lay:d.canLay0=true
 dep:d.depth≤n
theorem Shp.ok {n:Nat} {d:PyData} (h:Shp n d) (hn:n≤64:=by decide):SeqAt.shaped d=true:=by
 unfold SeqAt.shaped
 rw [Bool.and_eq_true]
 exact ⟨h.lay,decide_eq_true (Nat.le_trans h.dep hn)⟩
theorem shp_all {n:Nat}:∀ {ds:List PyData},(∀ d∈ds,Shp n d)->PyData.canLayAll0 ds=true/\PyData.depthAll ds≤n
 | [],_=>by simp [PyData.canLayAll0,PyData.depthAll]
 | d :: ds,h=>by
  obtain ⟨a,b⟩:=shp_all fun e he=>h e (List.mem_cons_of_mem _ he)
  have c:=h d (List.mem_cons_self ..)
  simp only [PyData.canLayAll0,PyData.depthAll,c.lay,a,Bool.and_self,true_and]
  exact Nat.max_le.mpr ⟨c.dep,b⟩
theorem shp_int {n:Nat} (i:Int):Shp n (.int i):=⟨by simp [PyData.canLay0],by simp [PyData.depth]⟩
theorem shp_non {n:Nat}:Shp n .none:=⟨by simp [PyData.canLay0],by simp [PyData.depth]⟩
theorem shp_tup {n:Nat} {ds:List PyData} (h:∀ d∈ds,Shp n d):Shp (n+1) (.tuple ds):=⟨by simp only [PyData.canLay0];exact (shp_all h).1,by simp only [PyData.depth];exact Nat.succ_le_succ (shp_all h).2⟩
theorem shp_lst {n:Nat} {ds:List PyData} (h:∀ d∈ds,Shp n d):Shp (n+1) (.list ds):=⟨by simp only [PyData.canLay0];exact (shp_all h).1,by simp only [PyData.depth];exact Nat.succ_le_succ (shp_all h).2⟩
theorem shp_c (c:C3):Shp 1 (encC c):=shp_tup fun d hd=>by
 obtain ⟨n,_,rfl⟩:=List.mem_map.mp hd
 exact shp_int n
theorem shp_map {α:Type} {n:Nat} {f:α->PyData} (h:∀ x,Shp n (f x)) (xs:List α):Shp (n+1) (.list (xs.map f)):=shp_lst fun d hd=>by
 obtain ⟨x,_,rfl⟩:=List.mem_map.mp hd
 exact h x
end
open PySem PySem.W PyProof.Rows Srt Pc
noncomputable def hid (H:Hp) (p:Addr):Hp:=fun q=>if q=p then none else H q
theorem hid_same {H:Hp} {p:Addr}:Same (hid H p) H:=fun b o h=>by
 unfold hid at h
 split at h
 ·cases h
 ·exact h
theorem hid_at {H:Hp} {p q:Addr} {u:HO} (ne:q≠p) (h:H q=some u):hid H p q=some u:=by unfold hid;rw [if_neg ne];exact h
theorem hid_none {H:Hp} {p:Addr}:hid H p p=none:=by unfold hid;rw [if_pos rfl]
theorem same_hid {H Hc:Hp} {p:Addr} (s:Same H Hc) (h:H p=none):Same H (hid Hc p):=fun b o q=>hid_at (ne_of_none q h) (s b o q)
theorem same_thaw {H H1 H':Hp} {d l:Addr} {o:Obj} {u:HO} (s:Same H H1) (ed:H1 d=some u) (hl:H l=none) (s':Same (hid (upd H1 d (.frz o u)) l) H'):Same H (upd H' d u):=fun b v q=>by
 by_cases hb:b=d
 ·subst hb
  rw [upd_same,←ed]
  exact s _ _ q
 ·rw [upd_ne hb]
  refine s' b v (hid_at (ne_of_none q hl) ?_)
  rw [upd_ne hb]
  exact s _ _ q
theorem cut_ints (ns:List Int) (lo hi:Option Int):cutV (ns.map V.int) lo hi=(cutX ns lo hi).map V.int:=by
 unfold cutV cutX
 rw [List.length_map,List.map_take,List.map_drop]
section
variable {σ:St} {H:Hp} {Q:VK} {D:Ends} {K:PySem.W.Frag}
theorem rd_dput {td ty tv:TE} (h:tv σ H fun v H1=>td σ H1 fun x H2=>ty σ H2 fun y H3=>∃ a H4,x=.ref a/\DPut H3 a y v H4/\D.nx σ H4):sDPut td ty tv D σ H:=h
theorem rd_din {td ty:TE} (h:ty σ H fun y H1=>td σ H1 fun x H2=>∃ a o,x=.ref a/\DGet H2 a y o/\Q (.bl o.isSome) H2):tDIn ty td σ H Q:=h
theorem rd_dnotin {td ty:TE} (h:ty σ H fun y H1=>td σ H1 fun x H2=>∃ a o,x=.ref a/\DGet H2 a y o/\Q (.bl (!o.isSome)) H2):tDNotIn ty td σ H Q:=h
theorem rd_gsub {to ti:TE} {t:TSet} {v:V} {R:St->Hp->Prop} (h:to σ H fun o H1=>ti σ H1 fun i H2=>t o i v H2 fun H3=>R σ H3):gSub to ti t v σ H R:=h
theorem rd_setL {p:Addr} {xs:List V} {k:Int} {j:Nat} {v:V} {R:Hp->Prop} (e:H p=some (.lst xs)) (ej:ixN xs.length k=some j) (q:R (upd H p (.lst (xs.set j v)))):rSetL (.ref p) (.int k) v H R:=⟨p,xs,k,j,rfl,rfl,e,ej,q⟩
theorem rd_dnewT (h:∀ p,H p=none->Q (.ref p) (upd H p (.dT []))):tDNewT σ H Q:=h
theorem rd_forD {i:Nat} {g:TG} {tb:TS} (h:∃ d kvs,σ[i]?=some (some (.ref d))/\H d=some (.dT kvs)/\∀ o,ForGo (Itd d o kvs) g tb (D.thaw d kvs) σ (upd H d (.frz o (.dT kvs)))):tForD i g tb D σ H:=h
theorem marks_put {d a:Addr} {cs:List C3} {c:C3} (e:Marks H d cs) (ea:H a=some (.tup c.v)) (hl:cs.length≤1000000) (q:Marks (upd H d (.dT ((addC cs c).map mk1))) d (addC cs c)->D.nx σ (upd H d (.dT ((addC cs c).map mk1)))) :
  ∃ p H4,V.ref d=.ref p/\DPut H p (.ref a) (.bl true) H4/\D.nx σ H4:=⟨d,_,rfl,by
 have:=dput_c (v:=.bl true) e ea (by rw [List.length_map];exact smallM hl)
 rw [put_marks] at this
 exact this,q upd_same⟩
theorem marks_get {d a:Addr} {cs:List C3} {c:C3} (e:Rd H d (.dT (cs.map mk1))) (ea:H a=some (.tup c.v)):DGet H d (.ref a) (valV (cs.map mk1) (keyC c)):=.inr ⟨_,keyC c,a,e,rfl,by rw [keyC_v];exact ea,rfl⟩
end
end L2
namespace Pc
open PySem L2 Srt
noncomputable def axm (n:Int):Ax:=if n % 3=0 then .x else if n % 3=1 then .y else .z
noncomputable def bareAt (cs:List C3) (u:Wy) (lo hi:Int) (c:C3):Bool:=decide (lo≤u.ax.at c)&&(decide (u.ax.at c < hi)&&!decide (u.next c∈cs))
noncomputable def firstBare (cs:List C3) (u:Wy) (lo hi:Int):Option C3:=cs.find? (bareAt cs u lo hi)
noncomputable def FB (H:Hp) (u:Wy) (v:V):Option C3->Prop
 | none=>v=.non
 | some c=>∃ p a b,v=.ref p/\H p=some (.tup [.ref a,.ref b])/\H a=some (.tup (u.next c).v)/\H b=some (.tup c.v)
theorem FB.up {H H':Hp} {u:Wy} {v:V} {o:Option C3} (s:Same H H') (h:FB H u v o):FB H' u v o:=by
 cases o with
 | none=>exact h
 | some c=>obtain ⟨p,a,b,e,x,y,z⟩:=h;exact ⟨p,a,b,e,s _ _ x,s _ _ y,s _ _ z⟩
noncomputable def offU (cs:List C3) (ax:Ax) (a b:Int):Bool:=(firstBare cs ⟨ax,false⟩ (a+1) b).isNone
noncomputable def offD (cs:List C3) (ax:Ax) (a b:Int):Bool:=(firstBare cs ⟨ax,true⟩ a (b - 1)).isNone
theorem addC_nodup {cs:List C3} (h:cs.Nodup):cs.foldl addC []=cs:=by
 have:∀ (cs acc:List C3),(acc ++ cs).Nodup->cs.foldl addC acc=acc ++ cs:=by
  intro cs
  induction cs with
  | nil=>intro acc _;simp
  | cons c cs ih =>
   intro acc hn
   rw [List.foldl_cons]
   have hc:c∉acc:=fun hm=>by
    rw [List.nodup_append] at hn
    exact hn.2.2 c hm c (by simp) rfl
   have e:addC acc c=acc ++ [c]:=by unfold addC;rw [if_neg hc]
   rw [e,ih (acc ++ [c]) (by simpa using hn)]
   simp
 exact this cs [] (by simpa using h)
theorem fold_addC_len (cs:List C3):(cs.foldl addC []).length≤cs.length:=by
 have:∀ (cs acc:List C3),(cs.foldl addC acc).length≤acc.length+cs.length:=by
  intro cs
  induction cs with
  | nil=>intro acc;simp
  | cons c cs ih =>
   intro acc
   have h1:=ih (addC acc c)
   have h2:=@len_addC acc c
   rw [List.foldl_cons,List.length_cons]
   lia
 simpa using this cs []
noncomputable def spMarked (K:PySem.W.Frag):Sp:=fun vs H Q _=>∃ (a:Addr) (ys:List V) (cs:List C3),vs=[.ref a]/\SqL K H a ys/\Cs H ys cs/\cs.length≤100000/\∀ d H',Same H H'->H d=none->Marks H' d (cs.foldl addC [])->Q (.ref d) H'
noncomputable def spLNext (K:PySem.W.Frag):Sp:=fun vs H Q _=>∃ (a:Addr) (ax:Ax) (c:C3) (st:Int),vs=[.ref a,.int ax.n,.int st]/\SqT K H a c.v/\∀ p H',Same H H'->H' p=some (.tup (ax.put (ax.at c+st) c).v)->Q (.ref p) H'
noncomputable def good (cs:List C3) (ax:Ax) (a b:Int):Bool:=offU cs ax a b||offD cs ax a b
noncomputable def farF (cs:List C3) (ax:Ax) (a:Int):Nat->Int->Int
 | 0,b=>b
 | n+1,b=>if good cs ax a (b+1)=true then farF cs ax a n (b+1) else b
noncomputable def far (cs:List C3) (ax:Ax) (a top:Int):Int:=farF cs ax a (top - (a+1)).toNat (a+1)
noncomputable def IsHi (ax:Ax) (cs:List C3) (m:Int):Prop:=(∃ c∈cs,ax.at c=m)/\∀ c∈cs,ax.at c≤m
open Classical in
noncomputable def hiA (ax:Ax) (cs:List C3):Int:=if h:∃ m,IsHi ax cs m then h.choose else 0
noncomputable def kd (u:Bool):Str:=if u=true then Str.ofString "up" else Str.ofString "down"
noncomputable def spWholeL:Sp:=fun vs H Q _=>∃ n:Int,vs=[.int n]/\Q (.bl true) H
theorem within_at {n:Int} {c:C3} (ax:Ax) (h:c.within n):-n≤ax.at c/\ax.at c≤n:=by
 obtain ⟨h1,h2,h3⟩:=h
 cases ax
 ·exact h1
 ·exact h2
 ·exact h3
end Pc
namespace L2
open PySem PySem.W PyProof.Rows Srt Pc
section
variable {σ:St} {H:Hp} {Q:VK} {D:Ends} {K:PySem.W.Frag}
theorem rd_while {c:TT} {tb:TS} (W:Nat->St->Hp->Prop) (m:Nat) (h0:W m σ H) (h:∀ m σ H,W m σ H->c σ H fun b H1=>if b=true then ∃ N:St->Hp->Prop,(∀ σ' H',N σ' H'->∃ m',m' < m/\W m' σ' H')/\tb { D with nx:=N,ct:=N,bk:=D.nx } σ H1 else D.nx σ H1):tWhile c tb D σ H:=⟨W,⟨m,h0⟩,h⟩
end
theorem qs_never {X:Cx} {st:Stmt}:QS X st (fun _ _ _=>False):=⟨fun _ _ _ _ _ _ h=>h.elim⟩
end L2
namespace Pc
open PySem L2 Srt
theorem FB.lst {H:Hp} {u:Wy} {v:V} {o:Option C3} {p:Addr} {ys zs:List V} (e:H p=some (.lst ys)) (h:FB H u v o):FB (upd H p (.lst zs)) u v o:=by
 cases o with
 | none=>exact h
 | some c=>obtain ⟨q,a,b,r,x,y,z⟩:=h;exact ⟨q,a,b,r,lk_kind e (by intro z;cases z) x,lk_kind e (by intro z;cases z) y,lk_kind e (by intro z;cases z) z⟩
end Pc
namespace L2
open PySem PySem.Spec PyProof.Rows PySem.W Srt Pc
open AutoSeq1 (wpAny_loadPart')
section
variable {prog:Program} {w:World} {A:Around} {E:Value->Shared->Prop} {s:Shared}
theorem nx_tup_item {it t:Addr} {i:Nat} {items:Array Value} {x:Value} {Q:Value->Shared->Prop} (hit:s.heap.IsTupleIter it t i) (ht:s.heap.IsTuple t items) (hx:items[i]?=some x)
  (q:∀ h',h'.IsTupleIter it t (i+1)->Heap.SameBut it s.heap h'->Q x { s with heap:=h' }):wpAny (model prog w) A (Builtin.SmallTypes.nextOf (.ref it)) Q E s:=by
 obtain ⟨o,ho,hc,hd⟩:=id hit
 obtain ⟨ol,hol,_,nl,hdl⟩:=ht
 unfold Builtin.SmallTypes.nextOf;refine wpAny_bind (wpAny_callSpecial?_slot (name:=Str.ofString "__next__") hit.typeIs PySem.F.slot_tuple_iterator_next (wpAny_call_entry PySem.F.slot_tuple_iterator_next hit.typeIs PySem.F.entry_tuple_iterator_next ?_ (PySem.F.args_tuple_iterator_next_1 _)))
 show wpAny _ _ (field (.ref it) 0 >>= _) _ _ s;refine wpAny_bind (wpAny_field ho hd (x:=.ref t) rfl ?_)
 show wpAny _ _ (if (Value.ref t==Value.none)=true then _ else _) _ _ s;rw [if_neg (by simp)]
 show wpAny _ _ (field (.ref it) 1 >>= _) _ _ s;refine wpAny_bind (wpAny_field ho hd (x:=.int i 0) rfl ?_)
 show wpAny _ _ (seqItems? (.ref t) >>= _) _ _ s;refine wpAny_bind (wpAny_seqItems hol hdl ?_)
 simp only [Int.toNat_natCast,hx];refine wpAny_bind (wpAny_setField ho hd (by simp) (wpAny_pure ⟨x,rfl,wpAny_pure (q _ ⟨_,Heap.get?_update_self _ ho (Obj.isFreed_of_fields (Obj.data_mapFields hd _)),(Obj.cls_mapFields ..).trans hc,by rw [Obj.data_mapFields hd];simp [rawInt]⟩ (Heap.SameBut.update ..))⟩))
theorem nx_tup_end {it t:Addr} {i:Nat} {items:Array Value} {Q:Value->Shared->Prop} (hh:A.handled=none) (hit:s.heap.IsTupleIter it t i) (ht:s.heap.IsTuple t items) (hx:items[i]?=none)
  (hE:∀ h' e,Heap.ExtBut it s.heap h'->(∃ o,h'.get? e=some o/\o.cls=.type "StopIteration")->E (.ref e) { s with heap:=h' }):wpAny (model prog w) A (Builtin.SmallTypes.nextOf (.ref it)) Q E s:=by
 obtain ⟨o,ho,hc,hd⟩:=id hit
 obtain ⟨ol,hol,_,nl,hdl⟩:=ht
 unfold Builtin.SmallTypes.nextOf;refine wpAny_bind (wpAny_callSpecial?_slot (name:=Str.ofString "__next__") hit.typeIs PySem.F.slot_tuple_iterator_next (wpAny_call_entry PySem.F.slot_tuple_iterator_next hit.typeIs PySem.F.entry_tuple_iterator_next ?_ (PySem.F.args_tuple_iterator_next_1 _)))
 show wpAny _ _ (field (.ref it) 0 >>= _) _ _ s;refine wpAny_bind (wpAny_field ho hd (x:=.ref t) rfl ?_)
 show wpAny _ _ (if (Value.ref t==Value.none)=true then _ else _) _ _ s;rw [if_neg (by simp)]
 show wpAny _ _ (field (.ref it) 1 >>= _) _ _ s;refine wpAny_bind (wpAny_field ho hd (x:=.int i 0) rfl ?_)
 show wpAny _ _ (seqItems? (.ref t) >>= _) _ _ s;refine wpAny_bind (wpAny_seqItems hol hdl ?_)
 simp only [Int.toNat_natCast,hx];refine wpAny_bind (wpAny_rule (wpAny_bind (wpAny_setField ho hd (by simp) ?_)))
 show wpAny _ _ (newExc (.type "StopIteration") [] >>= _) _ _ _;refine wpAny_bind ?_
 simp only [newExc,newTuple];refine wpAny_bind (wpAny_newObj_type ?_ (by size_fits))
 refine wpAny_bind (m:=firstArgMember _ _) (wpAny_of_eq (a:=Value.none) (by first | rfl | (simp only [firstArgMember];rfl)) (wpAny_newObj_type ?_ (by size_fits)))
 simp only [raiseNew];refine wpAny_bind (wpAny_handled ?_)
 first | rw [show A.in1.handled=none from hh] | rw [hh]
 exact wpAny_bind (wpAny_pure (wpAny_throw (hE _ _ (((Heap.SameBut.update ..).extBut.push _).push _) ⟨_,Heap.get?_push_size _ rfl,rfl⟩)))
theorem draws_tup (hh:A.handled=none) (it t:Addr) (hne:t≠it) (items:Array Value):Draws prog w A it [it,t] items.size (fun i v=>items[i]?=some v) (fun i h=>h.IsTupleIter it t i/\h.IsTuple t items) where
 live:=fun _ _ st=>let ⟨o,ho,_⟩:=st.1;⟨o,ho⟩
 frame:=fun _ _ _ st k=>⟨st.1.at fun o e=>k it (by simp) o e,st.2.at fun o e=>k t (by simp) o e⟩
 item:=fun i s Q E hi st q=>nx_tup_item st.1 st.2 (x:=items[i]) (by simp [hi]) fun h' a b=>q _ h' s.toks (by simp [hi]) ⟨a,st.2.at fun o e=>(b.2 t hne).trans e⟩ b
 done:=fun s Q E st hE=>nx_tup_end hh st.1 st.2 (by simp) hE
end
set_option maxHeartbeats 4000000 in
theorem meets_enumT (l:Addr) (items:Array Value) (o:Obj) (n:Nat) (hc:o.cls=.type "tuple") (hd:o.data=.seq items n) :
  Meets (Builtin.«enumerate.__new__» ⟨[.type "enumerate",.ref l],[]⟩) (fun _ R s=>s.heap.get? l=some o /\
   R (.ok (.ret (.ref (s.heap.push { cls:=.type "tuple_iterator",data:=.fields #[.ref l,.int 0 0] }).objs.size)))
    { s with heap:=(s.heap.push { cls:=.type "tuple_iterator",data:=.fields #[.ref l,.int 0 0] }).push { cls:=.type "enumerate",data:=.fields #[.none,.bool false,.ref s.heap.objs.size,rawInt 0,.none,.none] } }) :=
 .of_wp fun prog w A R s h=>by
  obtain ⟨hp,g,d,tk,os⟩:=s;obtain ⟨hl,h⟩:=h
  have hsub:=sub_enumerate
  have hL:Heap.IsTuple (Shared.heap ⟨hp,g,d,tk,os⟩) l items:=⟨_,hl,hc,n,hd⟩
  obtain ⟨oc,odc,oda,osl⟩:=o
  cases hc
  cases hd
  wp_walk using wpAny_loadPart' hl
  refine wpAny_stack_any fun st=>wpAny_pure ?_
  split
  ·rename_i c _ _ _ _ _
   cases (c==Value.type "enumerate")
   ·wp_walk using wpAny_loadPart' hl,wpAny_pyIter_tuple hL
    exact ⟨_,rfl,h⟩
   ·wp_walk using wpAny_loadPart' hl,wpAny_pyIter_tuple hL
    exact ⟨_,rfl,h⟩
  ·wp_walk using wpAny_loadPart' hl,wpAny_pyIter_tuple hL
   exact ⟨_,rfl,h⟩
section
variable {prog:Program} {w:World} {A:Around} {E:Value->Shared->Prop} {s:Shared}
theorem call_enumT {l:Addr} {items:Array Value} {Q:Value->Shared->Prop} (hL:s.heap.IsTuple l items)
  (h:∀ h',IsEnum h' (s.heap.objs.size+1) s.heap.objs.size 0 .none->h'.IsTupleIter s.heap.objs.size l 0->(∀ b o,s.heap.get? b=some o->h'.get? b=some o)->Q (.ref (s.heap.objs.size+1)) { s with heap:=h' }) :
  wpAny (model prog w) A (call (.type "enumerate") [.ref l]) Q E s:=by
 obtain ⟨o,hl,hc,n,hd⟩:=hL
 refine callType_new PySem.F.called_enumerate (by decide) (PySem.F.typeCall_enumerate_1 _) (PySem.F.newCall_enumerate_1 _) (fun obj=>PySem.F.args_object_init_2 obj _) PySem.F.entry_enumerate_new (meets_enumT l items o n hc hd) ⟨hl,?_⟩
 have hz:(s.heap.push { cls:=.type "tuple_iterator",data:=.fields #[.ref l,.int 0 0] }).objs.size=s.heap.objs.size+1:=Heap.size_push ..
 show _/\_;rw [hz]
 have he:IsEnum ((s.heap.push { cls:=.type "tuple_iterator",data:=.fields #[.ref l,.int 0 0] }).push { cls:=.type "enumerate",data:=.fields #[.none,.bool false,.ref s.heap.objs.size,rawInt 0,.none,.none] }) (s.heap.objs.size+1) s.heap.objs.size 0 .none:=by
  have:=Heap.get?_push_size (s.heap.push { cls:=.type "tuple_iterator",data:=.fields #[.ref l,.int 0 0] }) (o:={ cls:=.type "enumerate",data:=.fields #[.none,.bool false,.ref s.heap.objs.size,rawInt 0,.none,.none] }) rfl
  rw [hz] at this;exact this
 exact ⟨⟨_,he,rfl⟩,h _ he ⟨_,Heap.get?_push_of_some _ (Heap.get?_push_size _ rfl),rfl,rfl⟩ fun b o x=>Heap.get?_push_of_some _ (Heap.get?_push_of_some _ x)⟩
end
noncomputable def Itn (K:PySem.W.Frag) (a:Addr):It :=
 ⟨fun i H=>∃ xs x,SqT K H a xs/\xs[i]?=some x,fun i H v H'=>∃ T x,H T=none/\v=.ref T/\H'=upd H T (.tup [.int (i:Int),x])/\∀ xs,SqT K H a xs->xs[i]?=some x,fun i H=>∃ xs,SqT K H a xs/\xs.length=i⟩
theorem turn_enumT {P:Program} {w:World} {K:PySem.W.Frag} {elts:List Expr} {tk:Nat} {tpos:Pos} {a e it:Addr} (hei:e≠it) (hea:e≠a) (hia:a≠it) :
  Turn P w K (.Tuple elts tk tpos) (Itn K a) [e,it] e (fun i h=>(∃ old,IsEnum h e it i old)/\h.IsTupleIter it a i) where
 mem:=by simp
 obj:=fun i h st b hb=>by
  obtain ⟨⟨old,h1⟩,⟨o,h2,h3,h4⟩⟩:=st
  simp only [List.mem_cons,List.not_mem_nil,or_false] at hb
  rcases hb with rfl | rfl
  ·exact ⟨_,h1,fun v z=>by cases z⟩
  ·exact ⟨_,h2,fun v z=>by rw [h4] at z;cases z⟩
 keep:=fun i h h' st k=>⟨let ⟨old,h1⟩:=st.1;⟨old,k e (by simp) _ h1⟩,st.2.at fun o z=>k it (by simp) o z⟩
 item:=by
  rintro X rfl rfl rfl hc i pins s σ H E I hf ⟨⟨old,h1⟩,h2⟩ ⟨xs,x,sx,ex⟩
  obtain ⟨its,rv,p,hz⟩:=I.tuple sx
  have p:s.heap.IsTuple a its.toArray:=p
  obtain ⟨u,hu,ru⟩:=rv.get ex
  have hl:=rv.length
  have hlt:i < its.toArray.size:=by
   rw [List.size_toArray]
   exact (List.getElem?_eq_some_iff.mp hu).1
  refine wpAny_pyNext_enum_itemD (draws_tup (prog:=X.prog) (w:=X.w) (A:=X.A.in1) (I.ok.hd hc) it a hia its.toArray) h1 ⟨h2,p⟩ hlt hei (by simp [hei,hea]) fun v h' tk hv ho st' hT hsz kk=>?_
  have hv:its.toArray[i]?=some v:=hv
  rw [List.getElem?_toArray,hu] at hv
  cases hv
  refine ⟨_,rfl,wpAny_letOwnedTupleGo_enum ho fun h'' b1 b2=>?_⟩
  have elt:e < s.heap.objs.size:=Heap.lt_size h1
  obtain ⟨oi,hoi,_⟩:=id h2
  have ilt:it < s.heap.objs.size:=Heap.lt_size hoi
  have I2:=I.turnNew (t':=tk+1) (h':=h'') (fp:=[e,it]) (its:=[.int (i:Int) tk,u]) (xs:=[.int (i:Int),x]) hf (fun b o hb z=>by
    simp only [List.mem_cons,List.not_mem_nil,or_false,not_or] at hb
    exact b2.extBut b o hb.1 (kk b o hb.1 hb.2 z))
   (b2.extBut _ _ (Nat.ne_of_gt elt) hT) rfl rfl (.cons ⟨tk,rfl⟩ (.cons ru .nil)) (by show 2≤sizeLine;decide)
  refine ⟨.ref s.heap.objs.size,_,I2,rfl,⟨_,x,I.fresh,rfl,rfl,fun xs' q=>by rw [I.tuple_inj q sx];exact ex⟩,⟨⟨u,by simpa using b1⟩,st'.1.at fun o z=>b2.extBut _ _ hei.symm z⟩,fun b hb=>?_⟩
  have:b < s.heap.objs.size:=by
   simp only [List.mem_cons,List.not_mem_nil,or_false] at hb
   rcases hb with rfl | rfl
   ·exact elt
   ·exact ilt
  rw [upd_ne (Nat.ne_of_lt this)]
  exact (hf b hb).1
 done:=by
  rintro X rfl rfl rfl hc i pins s σ H E I hf ⟨⟨old,h1⟩,h2⟩ ⟨xs,sx,hlen⟩
  obtain ⟨its,rv,p,hz⟩:=I.tuple sx
  have p:s.heap.IsTuple a its.toArray:=p
  have hl:=rv.length
  have e0:its.toArray.size=i:=by rw [List.size_toArray];lia
  obtain ⟨f0,f1,f2,f3,f4,f5⟩:=hf it (by simp)
  exact wpAny_pyNext_enum_endD (draws_tup (prog:=X.prog) (w:=X.w) (A:=X.A.in1) (I.ok.hd hc) it a hia its.toArray) h1 ⟨e0▸h2,p⟩ fun h' eb=>⟨rfl,I.turned (t':=s.toks) (fun b o hb z=>eb b o hb z) f0 f1 f3 f4 f5⟩
 self:=fun _ _ _ _ _ st h=>let ⟨_,h1⟩:=st.1;wpAny_pyIter_enum h1 h
section
variable {X:Cx} {K:PySem.W.Frag}
theorem b_enumerate:bootBuiltins "enumerate"=some (.type "enumerate"):=by decide +kernel
noncomputable def iEnumT (K:PySem.W.Frag) (ta:TA):TI:=fun σ H R=>ta σ H fun vs H1=>∃ a,vs=[.ref a]/\(∃ xs,SqT K H1 a xs)/\R (Itn K a) H1
theorem pi_enumT {elts:List Expr} {tk:Nat} {tpos:Pos} {a:Expr} {ta:TA} {p pos:Pos} (hg:Gl X "enumerate") (hm:X.mg "enumerate"=none) (ha:PA X [a] ta) (hs:starEach [a] X.env=[(false,eval a X.env)]:=by rfl) :
  PI X (.Tuple elts tk tpos) (.Call (.Name "enumerate" p) [a] [] pos) (iEnumT X.K ta):=by
 intro pins s σ H R I h
 refine Call_ (ld_blt I hg hm b_enumerate (PyProof.Rows.callWith_type1 (thn (ha pos pins s σ H _ I h) fun us s1 ⟨vs,H1,I1,r1,q1⟩=>?_) hs rfl))
 obtain ⟨x,e,⟨xs,sx⟩,q⟩:=q1
 subst e
 cases r1 with
 | cons r rr =>
  cases rr
  cases r
  obtain ⟨its,rv,p1,hz⟩:=I1.tuple sx
  have p1:s1.heap.IsTuple x its.toArray:=p1
  obtain ⟨o1,e1,_⟩:=id p1
  have xlt:=Heap.lt_size e1
  refine call_enumT p1 fun h' he hit hk=>wpAny_pyIter_enum he ?_
  have I2:Inv X pins σ H1 { s1 with heap:=h' }:=I1.kept (t':=s1.toks) hk
  refine ⟨s1.heap.objs.size+1,[s1.heap.objs.size+1,s1.heap.objs.size],_,_,H1,rfl,I2,turn_enumT (a:=x) (Nat.succ_ne_self _) (Nat.ne_of_gt (Nat.lt_succ_of_lt xlt)) (Nat.ne_of_lt xlt),⟨⟨_,he⟩,hit⟩,fun b hb=>?_,q⟩
  have hge:s1.heap.objs.size≤b:=by
   simp only [List.mem_cons,List.not_mem_nil,or_false] at hb
   rcases hb with rfl | rfl <;> lia
  exact I1.fpOk hge (I1.hok.fresh hge)
theorem qi_enumT {elts:List Expr} {tk:Nat} {tpos:Pos} {a:Expr} {ta:TA} {p pos:Pos} (hK:X.K=K) (hg:Gl X "enumerate") (hm:X.mg "enumerate"=none) (ha:QA X [a] ta) (hs:starEach [a] X.env=[(false,eval a X.env)]:=by rfl) :
  QI X (.Tuple elts tk tpos) (.Call (.Name "enumerate" p) [a] [] pos) (iEnumT K ta):=⟨hK▸pi_enumT hg hm ha.r hs⟩
theorem rd_ienumT {σ:St} {H:Hp} {ta:TA} {R:It->Hp->Prop} (h:ta σ H fun vs H1=>∃ a,vs=[.ref a]/\(∃ xs,SqT K H1 a xs)/\R (Itn K a) H1):iEnumT K ta σ H R:=h
noncomputable def IsN {α:Type} (R:Hp->V->α->Prop):Hp->V->Nat×α->Prop:=fun H v x=>∃ T u,v=.ref T/\H T=some (.tup [.int (x.1:Int),u])/\R H u x.2
theorem feeds_enumT {α:Type} {R:Hp->V->α->Prop} [Rep R] {H:Hp} {a:Addr} {ys:List V} {xs:List α} (h:SqT K H a ys) (r:Rs R H ys xs):Feeds (Itn K a) H ((List.range xs.length).zip xs) (IsN R) where
 stop:=fun H' s=>⟨ys,same_tup s h,by rw [r.len];simp⟩
 go:=fun i x H' s e=>by
  have hi:i < xs.length:=by
   rcases Nat.lt_or_ge i xs.length with z | z
   ·exact z
   ·rw [List.getElem?_eq_none (by simpa using z)] at e;cases e
  rw [List.getElem?_zip_eq_some] at e
  obtain ⟨e1,e2⟩:=e
  rw [List.getElem?_range hi] at e1
  have e1:i=x.1:=Option.some.inj e1
  obtain ⟨v,e3,q⟩:=r.get' e2
  refine ⟨⟨ys,v,same_tup s h,e3⟩,fun v' H2 y=>?_⟩
  obtain ⟨T,u,hT,rfl,rfl,hu⟩:=y
  have e4:=hu _ (same_tup s h)
  rw [e3] at e4
  obtain rfl:=Option.some.inj e4
  refine ⟨same_new hT,T,_,rfl,?_,Rep.up (s.trans (same_new hT)) q⟩
  rw [upd_same,e1]
end
open PySem PySem.W PySem.Spec PyProof.Rows Srt Pc
section
variable {prog:Program} {w:World} {K:Type} [DecidableEq K] {knd:HeapKind prog w K} {A:Around} {E:Value->Shared->Prop} {s:Shared}
theorem setdef_heap {d a:Addr} {xs:List (K×Addr×Value)} {k:K} {v:Value} {Q:Value->Shared->Prop} (hu:knd.room A) (hkey:knd.is s.heap k a) (hm:s.heap.DictOfH knd d xs) (hsz:xs.length < sizeLine)
  (h1:∀ p,atKey xs k=some p->Q p.2 { s with toks:=s.toks+knd.draws k })
  (h2:atKey xs k=none->∀ h',h'.DictOfH knd d (storedH xs k a v)->Heap.SameBut d s.heap h'->Q v { s with heap:=h',toks:=s.toks+knd.draws k }):wpAny (model prog w) A (dictSetDefault d (.ref a) v) Q E s:=by
 obtain ⟨o,es,ep,ho,hc,hd,he,his,hn⟩:=hm
 unfold dictSetDefault
 try with_reducible refine wpAny_holding ?_
 refine wpAny_bind (knd.pyHash hu hkey (wpAny_bind (wpAny_dictFind_heap (s:={ s with toks:=s.toks+knd.draws k }) hu hkey ho hd he his hn (fun hno=>?_) (fun j p hj=>?_))))
 ·have h0:=atKey_none_of_get hno
  have hnot:k∉xs.map (·.1):=not_mem_keys_of_get hno
  refine wpAny_bind (wpAny_rule (wpAny_bind (wpAny_updateDictKeys (hz:=by have e:=size_of_entries he;lia) (s:={ s with toks:=s.toks+knd.draws k }) ho hd (wpAny_pure (h2 h0 _ ⟨_,_,ep+1,Heap.get?_update_self _ ho (Obj.isFreed_of_dict (Obj.data_mapDictKeys hd _)),hc.mapDictKeys _,Obj.data_mapDictKeys hd _,?_,?_,?_⟩ (Heap.SameBut.update ..))))))
  ·rw [storedH_new h0];simp [he,entryOfKey]
  ·rw [storedH_new h0];intro x hx
   rcases List.mem_append.mp hx with hx | hx
   ·exact knd.keeps (his x hx) ho hd (Heap.SameBut.update ..)
   ·rw [List.mem_singleton] at hx;subst hx;exact knd.keeps hkey ho hd (Heap.SameBut.update ..)
  ·rw [storedH_new h0,List.map_append,List.nodup_append]
   exact ⟨hn,by simp,fun x hx y hy e=>hnot (by rw [List.map_singleton,List.mem_singleton] at hy;have hy:y=k:=hy;rw [←hy,←e];exact hx)⟩
 ·have h0:=atKey_of_get hn hj
  refine wpAny_bind (wpAny_dictEntries (s:={ s with toks:=s.toks+knd.draws k }) ho hd ?_)
  rw [entry_at he j,hj]
  exact wpAny_bind (wpAny_rule (wpAny_pure (h1 p h0)))
theorem meetsH_setdef (knd:HeapKind prog w K) (d a:Addr) (v:Value) (hsys:(d==sysModules)=false) :
  MeetsIn prog w (Builtin.«dict.setdefault» ⟨[.ref d,.ref a,v],[]⟩) (fun A R s=>knd.room A.in1/\∃ (k:K) (xs:List (K×Addr×Value)),knd.is s.heap k a/\s.heap.DictOfH knd d xs/\xs.length < sizeLine /\
   (∀ p t,atKey xs k=some p->R (.ok (.ret p.2)) { s with toks:=t }) /\
   (atKey xs k=none->∀ h' t,h'.DictOfH knd d (storedH xs k a v)->Heap.SameBut d s.heap h'->R (.ok (.ret v)) { s with heap:=h',toks:=t })) :=
 .of_wp fun A R s ⟨hu,k,xs,hkey,hm,hsz,h1,h2⟩=>by
  unfold Builtin.«dict.setdefault»;refine wpAny_bind ?_
  unfold Builtin.Dict.keyAndDefault;refine wpAny_bind (wpAny_notOrdered_dict hm.typeIs ?_)
  show wpAny _ _ (pure (d,Value.ref a,some v)) _ _ s;refine wpAny_pure ?_
  show wpAny _ _ (if (d==sysModules)=true then _ else (dictSetDefault d (.ref a) v >>= _)) _ _ s
  rw [if_neg (by rw [hsys];simp)]
  exact wpAny_bind (setdef_heap hu hkey hm hsz (fun p e=>wpAny_pure ⟨_,rfl,h1 p _ e⟩) (fun e h' q1 q2=>wpAny_pure ⟨_,rfl,h2 e h' _ q1 q2⟩))
end
section
variable {X:Cx} {pins:List (Addr×Obj)} {σ:St} {H:Hp} {s:Shared} {d a:Addr} {kvs:List (List Key×V)} {k:List Key} {A:Around} {E:Value->Shared->Prop}
theorem dt_setdef {v:V} {u:Value} {Q:Value->Shared->Prop} (hu:A.units+1 < cLine) (I:Inv X pins σ H s) (e:H d=some (.dT kvs)) (ea:H a=some (.tup (k.map kV))) (hl:kvs.length < sizeLine) (rv:RelV v u)
  (h1:∀ x w' s',valV kvs k=some x->Inv X pins σ H s'->RelV x w'->Q w' s') (h2:valV kvs k=none->∀ s',Inv X pins σ (upd H d (.dT (putK kvs k v))) s'->Q u s') :
  wpAny (model X.prog X.w) A (call (.builtin "dict.setdefault") [.ref d,.ref a,u]) Q E s:=by
 obtain ⟨z,hd,xs,rel,dd⟩:=dt_of I.hok e
 have hz:xs.length < sizeLine:=by rw [←Paired.length rel];exact hl
 have ho:=rel.val k
 refine call_meetsIn PySem.F.slot_dict_setdefault dd.typeIs PySem.F.entry_dict_setdefault (PySem.F.args_dict_setdefault_3 _ _ _) (meetsH_setdef (tupleKind (mixKind X.prog X.w)) d a u hd) ⟨tupleKind_room_in1 hu,k,xs,key_of I.hok ea,dd,hz,fun p t hp=>?_,fun hp h' t dd' hs=>?_⟩
 ·rw [hp] at ho
  cases hv:valV kvs k with
  | none=>rw [hv] at ho;exact absurd ho (by simp [RelO])
  | some x=>rw [hv] at ho;exact h1 x p.2 _ hv (I.tok _) ho
 ·rw [hp] at ho
  cases hv:valV kvs k with
  | some x=>rw [hv] at ho;exact absurd ho (by simp [RelO])
  | none =>
   obtain ⟨q,es,ep,hq,h3,h4,h5,_,h6⟩:=dd'
   refine h2 hv _ (d_write I (by rw [e];exact True.intro) hs ⟨q,hq⟩ ⟨Nat.le_trans (length_putK kvs k v) hl,hd,_,(rel.put k ea rv).keeps fun c ys ec=>?_,q,es,ep,hq,h3,h4,h5,h6⟩)
   rw [upd_ne (ne_of ec e (fun z=>nomatch z))]
   exact ec
end
noncomputable def tDSetD (td ty tx:TE):TE:=fun σ H Q=>td σ H fun x H1=>∃ d,x=.ref d/\IsD H1 d/\ty σ H1 fun y H2=>tx σ H2 fun z H3=>∃ kvs k a,H3 d=some (.dT kvs)/\y=.ref a/\H3 a=some (.tup (k.map kV))/\kvs.length < sizeLine /\
 (∀ v,valV kvs k=some v->Q v H3)/\(valV kvs k=none->Q z (upd H3 d (.dT (putK kvs k z))))
theorem pe_dsetd {X:Cx} {o e f:Expr} {apos cpos:Pos} {td ty tx:TE} (hu:X.A.units+1 < cLine) (ho:PE X o td) (he:PE X e ty) (hf:PE X f tx) (m:M2 X o "setdefault" apos e f cpos):PE X (.Call (.Attribute o "setdefault" apos) [e,f] [] cpos) (tDSetD td ty tx):=by
 intro pins s σ H Q I h
 refine wpAny_Call_method m.base m.few m.line PySem.F.plainAttrs_dict PySem.F.slot_dict_setdefault PySem.F.type_dict_setdefault (thn (ho pins s σ H _ I h) fun u s1 ⟨x,H1,I1,rx,d,ex,dd,q1⟩=>?_)
 subst ex
 obtain rfl:u=Value.ref d:=rx
 obtain ⟨t1,t2,_⟩:=isD_at I1 dd
 refine ⟨t1,t2,?_⟩
 rw [m.trees]
 refine Calls.callWith_builtin rfl (Calls.evalArgs_plain (Calls.spliced_cons (thn (he pins s1 σ H1 _ I1 q1) fun iv s2 ⟨y,H2,I2,ry,q2⟩=>Calls.spliced_cons (thn (hf pins s2 σ H2 _ I2 q2) fun fv s3 ⟨z,H3,I3,rz,kvs,k,a,ed,ey,ea,hl,g1,g2⟩=>Calls.spliced_nil ?_))))
 subst ey
 obtain rfl:iv=Value.ref a:=ry
 exact dt_setdef hu I3 ed ea hl rz (fun x w' s' hv I' r=>⟨x,H3,I',r,g1 x hv⟩) (fun hv s' I'=>⟨z,_,I',rz,g2 hv⟩)
theorem qe_dsetd {X:Cx} {o e f:Expr} {apos cpos:Pos} {td ty tx:TE} (hu:X.A.units+1 < cLine) (ho:QE X o td) (he:QE X e ty) (hf:QE X f tx) (m:M2 X o "setdefault" apos e f cpos):QE X (.Call (.Attribute o "setdefault" apos) [e,f] [] cpos) (tDSetD td ty tx):=⟨pe_dsetd hu ho.r he.r hf.r m⟩
section
variable {X:Cx} {K:PySem.W.Frag}
variable {σ:St} {H:Hp} {Q:VK}
theorem rd_dsetd {td ty tx:TE} (h:td σ H fun x H1=>∃ d,x=.ref d/\IsD H1 d/\ty σ H1 fun y H2=>tx σ H2 fun z H3=>∃ kvs k a,H3 d=some (.dT kvs)/\y=.ref a/\H3 a=some (.tup (k.map kV))/\kvs.length < sizeLine /\
 (∀ v,valV kvs k=some v->Q v H3)/\(valV kvs k=none->Q z (upd H3 d (.dT (putK kvs k z))))):tDSetD td ty tx σ H Q:=h
end
end L2
namespace Pc
open PySem L2 Srt
noncomputable def lnI (ax:Ax) (c:C3):List Int:=match ax with
 | .x=>[c.y,c.z]
 | .y=>[c.x,c.z]
 | .z=>[c.x,c.y]
noncomputable def kI (k:List Int):List Key:=k.map Sum.inl
theorem kI_v (k:List Int):(kI k).map kV=k.map V.int:=by unfold kI;rw [List.map_map];rfl
theorem kI_inj {k k':List Int} (h:kI k=kI k'):k=k':=by
 unfold kI at h
 induction k generalizing k' with
 | nil=>cases k' with
  | nil=>rfl
  | cons=>simp at h
 | cons a k ih=>cases k' with
  | nil=>simp at h
  | cons b k' =>
   simp only [List.map_cons,List.cons.injEq] at h
   rw [Sum.inl.inj h.1,ih h.2]
noncomputable def numsAt (ax:Ax) (cs:List C3) (k:List Int):List Int:=(cs.filter fun c=>decide (lnI ax c=k)).map ax.at
theorem numsAt_snoc (ax:Ax) (cs:List C3) (c:C3) (k:List Int):numsAt ax (cs ++ [c]) k=numsAt ax cs k ++ (if lnI ax c=k then [ax.at c] else []):=by
 unfold numsAt
 rw [List.filter_append,List.map_append]
 by_cases h:lnI ax c=k
 ·rw [if_pos h,List.filter_cons,if_pos (decide_eq_true h)];rfl
 ·rw [if_neg h,List.filter_cons,if_neg (by simpa using h)];rfl
structure Ln (H0 H:Hp) (d:Addr) (ax:Ax) (cs:List C3) (kvs:List (List Key×V)):Prop where
 e:H d=some (.dT kvs)
 len:kvs.length≤cs.length
 at':∀ k:List Int,(valV kvs (kI k)=none/\numsAt ax cs k=[])\/∃ l,valV kvs (kI k)=some (.ref l)/\H l=some (.lst ((numsAt ax cs k).map V.int))/\H0 l=none
 inj:∀ k k' v,valV kvs (kI k)=some v->valV kvs (kI k')=some v->k=k'
noncomputable def HV (H:Hp) (v:V):Option (C3×C3)->Prop
 | none=>v=.non
 | some (c,d)=>∃ p a b,v=.ref p/\H p=some (.tup [.ref a,.ref b])/\H a=some (.tup c.v)/\H b=some (.tup d.v)
noncomputable def spLine (K:PySem.W.Frag):Sp:=fun vs H Q _=>∃ (a:Addr) (ax:Ax) (c:C3),vs=[.ref a,.str ax.s]/\SqT K H a c.v/\∀ p H',Same H H'->H' p=some (.tup ((lnI ax c).map V.int))->Q (.ref p) H'
end Pc
namespace L2
open PySem PySem.W Pc
theorem rd_top {K:PySem.W.Frag} {w:World} {H:Hp} {Q:VK} {a:Addr} {ax:Ax} (t:TopD K w a plD) (q:Q (.int ax.n) H):rIxTop K w (.ref a) (.str ax.s) H Q:=⟨_,_,_,_,rfl,rfl,t,mem_ax ax,q⟩
open PySem PySem.W PyProof.Rows Srt Pc
theorem rd_notNn {H:Hp} {Q:VK} (h:Q (.bl false) H):rIsN true .non .non H Q:=⟨rfl,h⟩
end L2
namespace Pc
open PySem L2 Srt
theorem cut_ax (ax:Ax) (c:C3) (v:Int):cutV c.v none (some ax.n) ++ [V.int v] ++ cutV c.v (some (ax.n+1)) none=(ax.put v c).v:=by
 obtain ⟨x,y,z⟩:=c
 cases ax <;> rfl
theorem ax_n03 (ax:Ax):0≤ax.n/\ax.n < 3:=by cases ax <;> decide
theorem at_put (ax:Ax) (c:C3) (v:Int):ax.at (ax.put v c)=v:=by obtain ⟨x,y,z⟩:=c;cases ax <;> rfl
theorem put_at (ax:Ax) {c e:C3} (h:lnI ax e=lnI ax c):e=ax.put (ax.at e) c:=by
 obtain ⟨x,y,z⟩:=c
 obtain ⟨x',y',z'⟩:=e
 cases ax <;> simp only [lnI,List.cons.injEq,and_true] at h <;> obtain ⟨rfl,rfl⟩:=h <;> rfl
theorem put_put (ax:Ax) (c:C3) (v w:Int):ax.put w (ax.put v c)=ax.put w c:=by obtain ⟨x,y,z⟩:=c;cases ax <;> rfl
noncomputable def encH:Option (C3×C3)->PyData
 | none=>.none
 | some (c,d)=>.tuple [encC c,encC d]
theorem dat_hv {K:PySem.W.Frag} {H:Hp} {v:V} {o:Option (C3×C3)} (h:HV H v o):Dat K H v (encH o):=by
 cases o with
 | none=>have h:v=.non:=h;subst h;exact .non
 | some p=>obtain ⟨q,a,b,rfl,x,y,z⟩:=h;exact .tup (SqT.of x) (.cons (dat_ct y) (.cons (dat_ct z) .nil))
theorem shp_hv (o:Option (C3×C3)):Shp 2 (encH o):=by
 cases o with
 | none=>exact shp_non
 | some p =>
  refine shp_tup fun d hd=>?_
  simp only [List.mem_cons,List.not_mem_nil,or_false] at hd
  rcases hd with rfl | rfl <;> exact shp_c _
end Pc
namespace L2
open PySem PySem.Spec PyProof.Rows PySem.W Srt Pc
noncomputable def ItnL (K:PySem.W.Frag) (a:Addr):It :=
 ⟨fun i H=>∃ xs x,SqL K H a xs/\xs[i]?=some x,fun i H v H'=>∃ T x,H T=none/\v=.ref T/\H'=upd H T (.tup [.int (i:Int),x])/\∀ xs,SqL K H a xs->xs[i]?=some x,fun i H=>∃ xs,SqL K H a xs/\xs.length=i⟩
theorem turn_enumL {P:Program} {w:World} {K:PySem.W.Frag} {elts:List Expr} {tk:Nat} {tpos:Pos} {a e it:Addr} (hei:e≠it) (hea:e≠a) (hia:a≠it) :
  Turn P w K (.Tuple elts tk tpos) (ItnL K a) [e,it] e (fun i h=>(∃ old,IsEnum h e it i old)/\h.IsListIter it a i) where
 mem:=by simp
 obj:=fun i h st b hb=>by
  obtain ⟨⟨old,h1⟩,⟨o,h2,h3,h4⟩⟩:=st
  simp only [List.mem_cons,List.not_mem_nil,or_false] at hb
  rcases hb with rfl | rfl
  ·exact ⟨_,h1,fun v z=>by cases z⟩
  ·exact ⟨_,h2,fun v z=>by rw [h4] at z;cases z⟩
 keep:=fun i h h' st k=>⟨let ⟨old,h1⟩:=st.1;⟨old,k e (by simp) _ h1⟩,st.2.at fun o z=>k it (by simp) o z⟩
 item:=by
  rintro X rfl rfl rfl hc i pins s σ H E I hf ⟨⟨old,h1⟩,h2⟩ ⟨xs,x,sx,ex⟩
  obtain ⟨its,rv,p,hz⟩:=I.list sx
  have p:s.heap.IsList a its.toArray:=p.isList
  obtain ⟨u,hu,ru⟩:=rv.get ex
  have hl:=rv.length
  have hlt:i < its.toArray.size:=by
   rw [List.size_toArray]
   exact (List.getElem?_eq_some_iff.mp hu).1
  refine wpAny_pyNext_enum_itemD (Draws.list (prog:=X.prog) (w:=X.w) (A:=X.A.in1) (I.ok.hd hc) it a hia its.toArray) h1 ⟨h2,p⟩ hlt hei (by simp [hei,hea]) fun v h' tk hv ho st' hT hsz kk=>?_
  have hv:its.toArray[i]?=some v:=hv
  rw [List.getElem?_toArray,hu] at hv
  cases hv
  refine ⟨_,rfl,wpAny_letOwnedTupleGo_enum ho fun h'' b1 b2=>?_⟩
  have elt:e < s.heap.objs.size:=Heap.lt_size h1
  obtain ⟨oi,hoi,_⟩:=id h2
  have ilt:it < s.heap.objs.size:=Heap.lt_size hoi
  have I2:=I.turnNew (t':=tk+1) (h':=h'') (fp:=[e,it]) (its:=[.int (i:Int) tk,u]) (xs:=[.int (i:Int),x]) hf (fun b o hb z=>by
    simp only [List.mem_cons,List.not_mem_nil,or_false,not_or] at hb
    exact b2.extBut b o hb.1 (kk b o hb.1 hb.2 z))
   (b2.extBut _ _ (Nat.ne_of_gt elt) hT) rfl rfl (.cons ⟨tk,rfl⟩ (.cons ru .nil)) (by show 2≤sizeLine;decide)
  refine ⟨.ref s.heap.objs.size,_,I2,rfl,⟨_,x,I.fresh,rfl,rfl,fun xs' q=>by rw [I.list_inj q sx];exact ex⟩,⟨⟨u,by simpa using b1⟩,st'.1.at fun o z=>b2.extBut _ _ hei.symm z⟩,fun b hb=>?_⟩
  have:b < s.heap.objs.size:=by
   simp only [List.mem_cons,List.not_mem_nil,or_false] at hb
   rcases hb with rfl | rfl
   ·exact elt
   ·exact ilt
  rw [upd_ne (Nat.ne_of_lt this)]
  exact (hf b hb).1
 done:=by
  rintro X rfl rfl rfl hc i pins s σ H E I hf ⟨⟨old,h1⟩,h2⟩ ⟨xs,sx,hlen⟩
  obtain ⟨its,rv,p,hz⟩:=I.list sx
  have p:s.heap.IsList a its.toArray:=p.isList
  have hl:=rv.length
  have e0:its.toArray.size=i:=by rw [List.size_toArray];lia
  obtain ⟨f0,f1,f2,f3,f4,f5⟩:=hf it (by simp)
  exact wpAny_pyNext_enum_endD (Draws.list (prog:=X.prog) (w:=X.w) (A:=X.A.in1) (I.ok.hd hc) it a hia its.toArray) h1 ⟨e0▸h2,p⟩ fun h' eb=>⟨rfl,I.turned (t':=s.toks) (fun b o hb z=>eb b o hb z) f0 f1 f3 f4 f5⟩
 self:=fun _ _ _ _ _ st h=>let ⟨_,h1⟩:=st.1;wpAny_pyIter_enum h1 h
section
variable {X:Cx} {K:PySem.W.Frag}
noncomputable def iEnumL (K:PySem.W.Frag) (ta:TA):TI:=fun σ H R=>ta σ H fun vs H1=>∃ a,vs=[.ref a]/\(∃ xs,SqL K H1 a xs)/\R (ItnL K a) H1
theorem pi_enumL {elts:List Expr} {tk:Nat} {tpos:Pos} {a:Expr} {ta:TA} {p pos:Pos} (hg:Gl X "enumerate") (hm:X.mg "enumerate"=none) (ha:PA X [a] ta) (hs:starEach [a] X.env=[(false,eval a X.env)]:=by rfl) :
  PI X (.Tuple elts tk tpos) (.Call (.Name "enumerate" p) [a] [] pos) (iEnumL X.K ta):=by
 intro pins s σ H R I h
 refine Call_ (ld_blt I hg hm b_enumerate (PyProof.Rows.callWith_type1 (thn (ha pos pins s σ H _ I h) fun us s1 ⟨vs,H1,I1,r1,q1⟩=>?_) hs rfl))
 obtain ⟨x,e,⟨xs,sx⟩,q⟩:=q1
 subst e
 cases r1 with
 | cons r rr =>
  cases rr
  cases r
  obtain ⟨its,rv,p1,hz⟩:=I1.list sx
  have p1:s1.heap.IsList x its.toArray:=p1.isList
  obtain ⟨o1,e1,_⟩:=id p1
  have xlt:=Heap.lt_size e1
  refine call_enumerate_list p1 fun h' he hit _ hk=>wpAny_pyIter_enum he ?_
  have I2:Inv X pins σ H1 { s1 with heap:=h' }:=I1.kept (t':=s1.toks) hk
  refine ⟨s1.heap.objs.size+1,[s1.heap.objs.size+1,s1.heap.objs.size],_,_,H1,rfl,I2,turn_enumL (a:=x) (Nat.succ_ne_self _) (Nat.ne_of_gt (Nat.lt_succ_of_lt xlt)) (Nat.ne_of_lt xlt),⟨⟨_,he⟩,hit⟩,fun b hb=>?_,q⟩
  have hge:s1.heap.objs.size≤b:=by
   simp only [List.mem_cons,List.not_mem_nil,or_false] at hb
   rcases hb with rfl | rfl <;> lia
  exact I1.fpOk hge (I1.hok.fresh hge)
theorem qi_enumL {elts:List Expr} {tk:Nat} {tpos:Pos} {a:Expr} {ta:TA} {p pos:Pos} (hK:X.K=K) (hg:Gl X "enumerate") (hm:X.mg "enumerate"=none) (ha:QA X [a] ta) (hs:starEach [a] X.env=[(false,eval a X.env)]:=by rfl) :
  QI X (.Tuple elts tk tpos) (.Call (.Name "enumerate" p) [a] [] pos) (iEnumL K ta):=⟨hK▸pi_enumL hg hm ha.r hs⟩
theorem rd_ienumL {σ:St} {H:Hp} {ta:TA} {R:It->Hp->Prop} (h:ta σ H fun vs H1=>∃ a,vs=[.ref a]/\(∃ xs,SqL K H1 a xs)/\R (ItnL K a) H1):iEnumL K ta σ H R:=h
theorem feeds_enumL {α:Type} {R:Hp->V->α->Prop} [Rep R] {H:Hp} {a:Addr} {ys:List V} {xs:List α} (h:SqL K H a ys) (r:Rs R H ys xs):Feeds (ItnL K a) H ((List.range xs.length).zip xs) (IsN R) where
 stop:=fun H' s=>⟨ys,s.seq h,by rw [r.len];simp⟩
 go:=fun i x H' s e=>by
  have hi:i < xs.length:=by
   rcases Nat.lt_or_ge i xs.length with z | z
   ·exact z
   ·rw [List.getElem?_eq_none (by simpa using z)] at e;cases e
  rw [List.getElem?_zip_eq_some] at e
  obtain ⟨e1,e2⟩:=e
  rw [List.getElem?_range hi] at e1
  have e1:i=x.1:=Option.some.inj e1
  obtain ⟨v,e3,q⟩:=r.get' e2
  refine ⟨⟨ys,v,s.seq h,e3⟩,fun v' H2 y=>?_⟩
  obtain ⟨T,u,hT,rfl,rfl,hu⟩:=y
  have e4:=hu _ (s.seq h)
  rw [e3] at e4
  obtain rfl:=Option.some.inj e4
  refine ⟨same_new hT,T,_,rfl,?_,Rep.up (s.trans (same_new hT)) q⟩
  rw [upd_same,e1]
end
end L2
namespace Pc
open PySem L2 Srt
noncomputable def spRefuse (K:PySem.W.Frag):Sp:=fun vs H Q _=>∃ (a:Addr) (ys:List V) (cs:List C3),vs=[.ref a]/\SqL K H a ys/\Cs H ys cs/\cs.length≤100000/\(∀ c∈cs,c.within 60)/\∀ H',Same H H'->Q .non H'
end Pc
namespace L2
open PySem PySem.Spec PyProof.Rows PySem.W
section
variable {X:Cx} {K:PySem.W.Frag}
noncomputable def gLst (K:PySem.W.Frag) (n:Nat) (t:TGs):TG:=fun v σ H Q=>∃ a xs,v=.ref a/\SqL K H a xs/\xs.length=n/\t xs σ H Q
theorem pg_lst {es:List Expr} {k:Nat} {t:TGs} {n:Nat} {pos:Pos} (hc:X.calm=true) (h:PGs X es t) (hn:(assignEach es X.env).length=n) (hst:(assignEach es X.env).findIdx? (·.1)=none):PG X (.Tuple es k pos) (gLst X.K n t):=by
 intro pins s σ H v u Q I r hw
 obtain ⟨a,xs,e1,hq,hl,hw⟩:=hw
 subst e1
 cases r
 obtain ⟨its,rv,pl,hz⟩:=I.list hq
 rw [assign_Tuple];refine wpAny_bind (wpAny_standAt ?_);unfold unpack
 have hsz:(assignEach es X.env).length=its.toArray.size:=by rw [List.size_toArray,hn,←hl,rv.length]
 rw [hsz,hst]
 refine wpAny_bind (wpAny_holding (kun_itemsOf (I.ok.hd hc) pl.isList fun h' hx=>?_))
 have I1:Inv X pins σ H { s with heap:=h' }:=I.kept (t':=s.toks) fun b o e=>hx b o (Nat.ne_of_lt (Heap.lt_size e)) e
 exact h pins _ σ H xs _ Q I1 (by simpa using rv) hw
theorem qg_lst {es:List Expr} {k:Nat} {t:TGs} {n:Nat} {pos:Pos} (hK:X.K=K) (hc:X.calm=true) (h:QGs X es t) (hn:(assignEach es X.env).length=n:=by rfl) (hst:(assignEach es X.env).findIdx? (·.1)=none:=by rfl):QG X (.Tuple es k pos) (gLst K n t):=⟨hK▸pg_lst hc h.r hn hst⟩
theorem rd_glst {σ:St} {H:Hp} {n:Nat} {t:TGs} {a:Addr} {xs:List V} {R:St->Hp->Prop} (h:SqL K H a xs) (e:xs.length=n) (q:t xs σ H R):gLst K n t (.ref a) σ H R:=⟨a,xs,rfl,h,e,q⟩
end
end L2
namespace Pc
open PySem L2 Srt
noncomputable def spNum:Sp:=fun vs H Q _=>∃ (c k:Int),vs=[.int c,.int k]/\0≤k/\k≤20/\∀ n H',0≤n->Same H H'->Q (.int n) H'
noncomputable def FrOk (sz lo:C3):Prop:=∀ ax:Ax,1≤ax.at sz/\ax.at sz≤45/\-60≤ax.at lo/\ax.at lo+ax.at sz≤61
noncomputable def FR (H:Hp) (p:Addr) (sz lo:C3):Prop:=∃ q1 q2,H p=some (.lst [.ref q1,.ref q2])/\H q1=some (.lst sz.v)/\H q2=some (.lst lo.v)/\FrOk sz lo
theorem FR.up {H H':Hp} {p:Addr} {sz lo:C3} (s:Same H H') (h:FR H p sz lo):FR H' p sz lo:=let ⟨q1,q2,a,b,c,d⟩:=h;⟨q1,q2,s _ _ a,s _ _ b,s _ _ c,d⟩
noncomputable def spFrame (K:PySem.W.Frag):Sp:=fun vs H Q _=>∃ (a:Addr) (ns:List Int),vs=[.ref a]/\SqL K H a (ns.map V.int)/\∀ p sz lo H',Same H H'->FR H' p sz lo->Q (.ref p) H'
noncomputable def spSpot (K:PySem.W.Frag):Sp:=fun vs H Q _=>∃ (p:Addr) (n:Int) (sz lo:C3),vs=[.ref p,.int n]/\FR H p sz lo/\∀ t c H',Same H H'->H' t=some (.tup (C3.v c))->(∀ ax:Ax,ax.at lo≤ax.at c/\ax.at c < ax.at lo+ax.at sz)->Q (.ref t) H'
noncomputable def spIsSpot:Sp:=fun vs H Q _=>∃ (a:Addr) (c:C3),vs=[.ref a]/\H a=some (.tup c.v)/\∀ H',Same H H'->Q (.bl true) H'
theorem at_put_ne {ax bx:Ax} (h:bx≠ax) (c:C3) (v:Int):bx.at (ax.put v c)=bx.at c:=by
 obtain ⟨x,y,z⟩:=c
 cases ax <;> cases bx <;> first | exact absurd rfl h | rfl
noncomputable def SpR (sz lo:C3):Hp->V->Int->Prop:=fun _ v i=>∃ n:Int,v=.int n/\∀ ax:Ax,ax.n=i->ax.at lo≤n/\n < ax.at lo+ax.at sz
noncomputable instance {sz lo:C3}:Rep (SpR sz lo):=⟨fun _ h=>h,fun _ h=>h⟩
theorem ax_of {i:Int} (h0:0≤i) (h3:i < 3):∃ ax:Ax,ax.n=i:=by
 rcases (by lia:i=0\/i=1\/i=2) with h | h | h <;> subst h
 ·exact ⟨.x,rfl⟩
 ·exact ⟨.y,rfl⟩
 ·exact ⟨.z,rfl⟩
theorem ax_str (ax:Ax):∃ c,atI (Str.ofString "xyz").cps.toList ax.n=some c/\(⟨#[c]⟩:Str)=ax.s:=by
 cases ax <;> exact ⟨_,rfl,by decide +kernel⟩
theorem ax_inj {a b:Ax} (h:a.n=b.n):a=b:=by cases a <;> cases b <;> first | rfl | exact absurd h (by decide)
theorem spot3 {sz lo:C3} {H:Hp} {zs:List V} (h:Rs (SpR sz lo) H zs [0,1,2]):∃ c:C3,zs=c.v/\∀ ax:Ax,ax.at lo≤ax.at c/\ax.at c < ax.at lo+ax.at sz:=by
 cases h with
 | cons a h =>
  cases h with
  | cons b h =>
   cases h with
   | cons c h =>
    cases h
    obtain ⟨n1,rfl,q1⟩:=a
    obtain ⟨n2,rfl,q2⟩:=b
    obtain ⟨n3,rfl,q3⟩:=c
    refine ⟨⟨n1,n2,n3⟩,rfl,fun ax=>?_⟩
    cases ax
    ·exact q1 .x rfl
    ·exact q2 .y rfl
    ·exact q3 .z rfl
theorem axm_n (m:Int):m % 3=(axm m).n:=by
 unfold axm
 by_cases h0:m % 3=0
 ·rw [if_pos h0,h0];rfl
 ·rw [if_neg h0]
  by_cases h1:m % 3=1
  ·rw [if_pos h1,h1];rfl
  ·rw [if_neg h1]
   show m % 3=2
   lia
theorem len3 {as:List Int} (h:as.length=3):∃ a b c,as=[a,b,c]:=by
 match as,h with
 | [a,b,c],_=>exact ⟨a,b,c,rfl⟩
theorem at4 (a b c d t:Int) (h0:0≤t) (h1:t < 4):∃ q:Int,(q=a\/q=b\/q=c\/q=d)/\atI [V.int a,V.int b,V.int c,V.int d] t=some (V.int q):=by
 rcases (by lia:t=0\/t=1\/t=2\/t=3) with h | h | h | h <;> subst h
 ·exact ⟨a,.inl rfl,rfl⟩
 ·exact ⟨b,.inr (.inl rfl),rfl⟩
 ·exact ⟨c,.inr (.inr (.inl rfl)),rfl⟩
 ·exact ⟨d,.inr (.inr (.inr rfl)),rfl⟩
end Pc
namespace L2
open PySem PySem.W PySem.Spec PyProof.Rows Srt Pc
section
variable {X:Cx} {K:PySem.W.Frag}
noncomputable def IsK:Hp->V->(List Key×V)->Prop:=fun H v kv=>∃ a,v=.ref a/\H a=some (.tup (kv.1.map kV))
theorem feeds_keys {H:Hp} {d:Addr} {o:Obj} {kvs:List (List Key×V)} (h:H d=some (.frz o (.dT kvs))):Feeds (Itd d o kvs) H kvs IsK where
 stop:=fun H' s=>⟨Nat.le_refl _,s _ _ h⟩
 go:=fun i x H' s e=>by
  refine ⟨⟨(List.getElem?_eq_some_iff.mp e).1,s _ _ h⟩,fun v H2 y=>?_⟩
  obtain ⟨rfl,kv,a,e1,rfl,e2⟩:=y
  rw [e] at e1
  cases e1
  exact ⟨Same.refl _,a,rfl,e2⟩
end
end L2
namespace Pc
open PySem L2 Srt
theorem last_le {l:List Int} {L x:Int} (hp:l.Pairwise (· < ·)) (hl:l.getLast?=some L) (hx:x∈l):x≤L:=by
 induction l with
 | nil=>cases hx
 | cons a r ih =>
  cases r with
  | nil=>simp at hl hx;lia
  | cons b r =>
   rw [List.getLast?_cons_cons] at hl
   rw [List.pairwise_cons] at hp
   rcases List.mem_cons.mp hx with z | z
   ·subst z
    have:=hp.1 L (List.mem_of_getLast? hl)
    lia
   ·exact ih hp.2 hl z
theorem head_le {l:List Int} {F x:Int} (hp:l.Pairwise (· < ·)) (hl:l.head?=some F) (hx:x∈l):F≤x:=by
 cases l with
 | nil=>cases hx
 | cons a r =>
  have hl:a=F:=by simpa using hl
  subst hl
  rw [List.pairwise_cons] at hp
  rcases List.mem_cons.mp hx with z | z
  ·lia
  ·have:=hp.1 x z;lia
theorem mem_nums {ax:Ax} {cs:List C3} {k:List Int} {m:Int}:m∈numsAt ax cs k↔∃ c∈cs,lnI ax c=k/\ax.at c=m:=by
 unfold numsAt
 simp only [List.mem_map,List.mem_filter,decide_eq_true_eq]
 constructor
 ·rintro ⟨c,⟨h1,h2⟩,h3⟩;exact ⟨c,h1,h2,h3⟩
 ·rintro ⟨c,h1,h2,h3⟩;exact ⟨c,⟨h1,h2⟩,h3⟩
theorem nums_nodup {ax:Ax} {cs:List C3} {k:List Int} (h:cs.Nodup):(numsAt ax cs k).Nodup:=by
 unfold numsAt
 rw [List.Nodup,List.pairwise_map]
 refine List.Pairwise.imp_of_mem ?_ (h.filter _)
 intro a b ha hb hne e
 rw [List.mem_filter,decide_eq_true_eq] at ha hb
 apply hne
 rw [put_at ax (ha.2.trans hb.2.symm),e]
 exact (put_at ax rfl).symm
theorem asc_lt {ms:List Int} (h1:ms.Pairwise (·≤·)) (h2:ms.Nodup):ms.Pairwise (· < ·):=by
 have:=h1.and h2
 exact this.imp fun {a b} ⟨x,y⟩=>by lia
theorem cut_ln (ax:Ax) (c:C3):cutV c.v none (some ax.n) ++ cutV c.v (some (ax.n+1)) none=(lnI ax c).map V.int:=by
 obtain ⟨x,y,z⟩:=c
 cases ax <;> rfl
theorem val_mem {kvs:List (List Key×V)} {k:List Key} {v:V} (h:valV kvs k=some v):∃ kv∈kvs,kv.1=k:=by
 unfold valV at h
 cases e:kvs.find? (fun kv=>decide (kv.1=k)) with
 | none=>rw [e] at h;cases h
 | some kv=>exact ⟨kv,List.mem_of_find?_eq_some e,by have:=List.find?_some e;simpa using this⟩
noncomputable def PA (H:Hp) (v:V) (x:List C3×Wy):Prop:=∃ p b ys,v=.ref p/\H p=some (.tup [.ref b,.str x.2.s])/\H b=some (.lst ys)/\Cs H ys x.1
end Pc
namespace L2
open PySem PySem.Spec PyProof.Rows
section
variable {X:Cx}
theorem ints_vals:∀ {ns:List Int} {its:List Value},Vals (ns.map V.int) its->IntsAre its ns
 | [],_,h=>by cases h;exact .nil
 | n :: r,_,h=>by
  cases h with
  | cons a b =>
   obtain ⟨t,rfl⟩:=a
   exact .cons n t (ints_vals b)
theorem fits_small {x:Int} (h0:0≤x) (h1:x≤1000000):Builtin.List.listFitsIndex x=true:=by
 simp [Builtin.List.listFitsIndex];lia
noncomputable def rInsert:V->List V->Hp->VK->Prop:=fun x vs H Q=>∃ (l:Addr) (xs:List V) (i:Int) (y:V),x=.ref l/\vs=[.int i,y]/\H l=some (.lst xs)/\0≤i/\i≤xs.length/\xs.length≤100000/\Q .non (upd H l (.lst (xs.take i.toNat ++ y :: xs.drop i.toNat)))
theorem vals_take:∀ {xs:List V} {us:List Value} (k:Nat),Vals xs us->Vals (xs.take k) (us.take k)
 | _,_,0,_=>by rw [List.take_zero,List.take_zero];exact .nil
 | _,_,_+1,.nil=>.nil
 | _,_,k+1,.cons r t=>.cons r (vals_take k t)
theorem vals_drop:∀ {xs:List V} {us:List Value} (k:Nat),Vals xs us->Vals (xs.drop k) (us.drop k)
 | _,_,0,h=>h
 | _,_,_+1,.nil=>.nil
 | _,_,k+1,.cons _ t=>vals_drop k t
theorem mt_insert:MtM X "list.insert" rInsert:=by
 intro pins s σ H x vs v us Q I rx rv h
 obtain ⟨l,xs,i,y,rfl,rfl,hH,h0,h1,h2,q⟩:=h
 cases rx
 cases rv with
 | cons a b =>
  obtain ⟨u,rfl,ru⟩:=Vals.one b
  obtain ⟨t,rfl⟩:=a
  obtain ⟨z,its,n,r,hl,e⟩:=I.lstM hH
  refine call_meets F.slot_list_insert ⟨_,e,rfl⟩ F.entry_list_insert (F.args_list_insert_3 _ _ _)
   (PySem.AutoSeq1.list_insert_list_int_val_1 l its.toArray n i t u (by rw [fits_small h0 (by lia)];simp) (by rw [List.size_toArray];lia)) ⟨e,?_⟩
  refine ⟨.non,_,I.lset (its':=its.take i.toNat ++ u :: its.drop i.toNat) (ys:=xs.take i.toNat ++ y :: xs.drop i.toNat) hH e ?_ ?_ ?_,rfl,q⟩
  ·dsimp only
   rw [if_neg (by lia),List.size_toArray,Nat.min_eq_left (by lia)]
   apply Array.toList_inj.mp
   simp
   exact List.take_of_length_le (by simp)
  ·exact (vals_take _ r).append (.cons ru (vals_drop _ r))
  ·rw [List.length_append,List.length_cons,List.length_take,List.length_drop,sizeLine_eq]
   lia
end
theorem flat_ints (ns:List Int):(ns.map V.int).all flatV=true:=by
 rw [List.all_map];exact List.all_eq_true.mpr fun _ _=>rfl
theorem inV_ints (k:Int) (ns:List Int):inV (.int k) (ns.map V.int)=decide (k∈ns):=by
 unfold inV
 rw [List.any_map]
 induction ns with
 | nil=>rfl
 | cons a r ih =>
  rw [List.any_cons,ih]
  by_cases h:a=k
  ·subst h;simp [eqV]
  ·simp [eqV,h,Ne.symm h]
theorem rd_notInI {K:PySem.W.Frag} {H:Hp} {Q:VK} {p:Addr} {k:Int} {ns:List Int} (h:SqL K H p (ns.map V.int)) (q:Q (.bl (!decide (k∈ns))) H):rIn K true (.int k) (.ref p) H Q:=⟨p,_,rfl,.inl h,rfl,flat_ints ns,by rw [inV_ints];exact q⟩
end L2
namespace Pc
open PySem L2 Srt
noncomputable def ckey:List Key->C3
 | [.inl x,.inl y,.inl z]=>⟨x,y,z⟩
 | _=>⟨0,0,0⟩
theorem ckey_key (c:C3):ckey (keyC c)=c:=by cases c;rfl
noncomputable def Own (kvs:List (List Key×V)):Prop:=∀ kv∈kvs,∃ c n,kv=(keyC c,V.int n)/\valV kvs (keyC c)=some (.int n)
theorem cs_hidG {H:Hp} {acc:Addr} {o:HO} {ys:List V} {cs:List C3} (e:H acc=some o) (n:∀ xs,o≠.tup xs) (h:Cs H ys cs):Cs (hid H acc) ys cs :=
 Paired.mapP h fun _ _ ⟨p,x1,x2⟩=>⟨p,x1,hid_at (fun z=>by subst z;rw [e] at x2;exact n _ (Option.some.inj x2)) x2⟩
theorem feeds_listG {α:Type} {R:Hp->V->α->Prop} (up:∀ {H H':Hp} {v:V} {x:α},Same H H'->R H v x->R H' v x) {K:PySem.W.Frag} {H:Hp} {a:Addr} {ys:List V} {xs:List α} (h:SqL K H a ys) (r:Rs R H ys xs):Feeds (Itl K a) H xs R where
 stop:=fun H' s=>by rw [←r.len];exact itl_stop (s.seq h)
 go:=fun i x H' s e=>by
  obtain ⟨v,e1,q⟩:=r.get' e
  refine ⟨itl_go (s.seq h) (List.getElem?_eq_some_iff.mp e1).1,fun v' H2 y=>?_⟩
  obtain ⟨rfl,e2⟩:=itl_yld (s.seq h) y
  rw [e1] at e2
  cases e2
  exact ⟨Same.refl _,up s q⟩
noncomputable def Low (c:C3):Prop:=(0≤c.x/\c.x≤3)/\(0≤c.y/\c.y≤3)/\(0≤c.z/\c.z≤3)
noncomputable def those (ns ts:List Int):List Int:=ns.filter fun j=>decide (j∈ts)
noncomputable def hol (nss:List (List Int)) (i:Int):List Int:=nss.getD i.toNat []
noncomputable def frees (nss:List (List Int)) (ts:List Int):List Int:=ts.filter fun i=>decide (those (hol nss i) ts=[])
noncomputable def taken (nss:List (List Int)):Nat->List Int->List Int->Option (List Int)
 | 0,_,gone=>some gone
 | n+1,ts,gone=>match frees nss ts with
  | []=>none
  | i :: _=>taken nss n (ts.erase i) (gone ++ [i])
end Pc
namespace L2
open PySem PySem.W PySem.Spec PyProof.Rows Srt Pc
theorem meets_tupLt (l b:Addr) (us vs:List Value) (n n2:Nat) (dd dd2:Option Addr) (sl sl2:Array (Option Value)) (ns ms:List Int) (hu:IntsAre us ns) (hv:IntsAre vs ms) (hlen:ns.length=ms.length) :
  Meets (Builtin.«tuple.__lt__» ⟨[.ref l,.ref b],[]⟩)
   (fun _ R s=>s.heap.get? l=some { cls:=.type "tuple",dict:=dd,data:=.seq us.toArray n,slots:=sl }/\s.heap.get? b=some { cls:=.type "tuple",dict:=dd2,data:=.seq vs.toArray n2,slots:=sl2 } /\
    R (.ok (.ret (.bool (HT.lexLt ns ms)))) s) :=
 .of_wp fun prog w A R s h=>by
  obtain ⟨hp,g,d,tk,os⟩:=s
  obtain ⟨hl,hb,h⟩:=h
  have f2:=AutoSeq1.sub_tuple_tuple
  wp_walk using wpAny_loadPart' hl,wpAny_loadPart' hb,wpAny_forIn_list _ (fun rest c s'=>c.1=none/\s'=(⟨hp,g,d,tk,os⟩:Shared)/\∃ us' vs' ns' ms',rest=List.zip us' vs'/\IntsAre us' ns'/\IntsAre vs' ms'/\ns'.length=ms'.length /\
   R (.ok (.ret (.bool (HT.lexLt ns' ms')))) (⟨hp,g,d,tk,os⟩:Shared)) _
  case turn =>
   rintro ⟨y,x⟩ rest c s' ⟨hc,rfl,us',vs',ns',ms',hz,iu,iv,hl',hR⟩
   cases iu with
   | nil=>cases hz
   | cons a t1 ru =>
    cases iv with
    | nil=>cases hz
    | cons e t2 rv =>
     rw [List.zip_cons_cons] at hz
     injection hz with h1 h2
     injection h1 with h3 h4
     subst h3 h4
     rw [HT.lexLt_cons] at hR
     refine wpAny_bind (wpAny_eqBool_int ?_)
     by_cases he:a=e
     ·rw [if_pos he] at hR
      rw [beq_iff_eq.mpr he]
      wp_walk
      exact ⟨rfl,rfl,_,_,_,_,h2,ru,rv,by simpa using hl',hR⟩
     ·rw [if_neg he] at hR
      rw [beq_eq_false_iff_ne.mpr he,if_pos (by rfl)]
      refine wpAny_bind (wpAny_rule (wpAny_bind ?_))
      refine (show wpAny _ _ (compareOp .Lt (.int a t1) (.int e t2)) _ _ _ from lt_int ?_)
      wp_walk
      exact ⟨_,rfl,hR⟩
  case fin =>
   rintro c s' ⟨hc,rfl,us',vs',ns',ms',hz,iu,iv,hl',hR⟩
   obtain ⟨c1,c2⟩:=c
   have hc:c1=none:=hc
   subst hc
   have l1:=iu.length
   have l2:=iv.length
   have hn:ns'=[]/\ms'=[]:=by
    have:=congrArg List.length hz
    rw [List.length_zip] at this
    simp only [List.length_nil] at this
    exact ⟨List.eq_nil_of_length_eq_zero (by lia),List.eq_nil_of_length_eq_zero (by lia)⟩
   obtain ⟨rfl,rfl⟩:=hn
   have hs:Builtin.Tuple.tupleCompareSizes .Lt us.toArray.size vs.toArray.size=.bool false:=by
    have a1:=hu.length
    have a2:=hv.length
    simp [Builtin.Tuple.tupleCompareSizes]
    lia
   dsimp only
   rw [hs]
   wp_walk
   exact ⟨_,rfl,hR⟩
  case h =>
   exact ⟨rfl,rfl,us,vs,ns,ms,rfl,hu,hv,hlen,h⟩
theorem lt_tups {prog:Program} {w:World} {A:Around} {E:Value->Shared->Prop} {s:Shared} {a b:Addr} {us vs:List Value} {ns ms:List Int} {Q:Value->Shared->Prop} (ha:IsTup s.heap a us.toArray) (hb:IsTup s.heap b vs.toArray) (hu:IntsAre us ns) (hv:IntsAre vs ms) (hl:ns.length=ms.length) (hr:A.units < cLine)
  (h:Q (.bool (HT.lexLt ns ms)) s):wpAny (model prog w) A (compareOp .Lt (.ref a) (.ref b)) Q E s:=by
 obtain ⟨⟨cls,dd,data,sl⟩,ho,hc,n,hd⟩:=id ha
 obtain ⟨⟨cls2,dd2,data2,sl2⟩,ho2,hc2,n2,hd2⟩:=id hb
 simp only at hc hd hc2 hd2
 subst hc hd hc2 hd2
 exact richCompare_meets_room (op:=.Lt) ⟨_,ho,rfl⟩ ⟨_,ho2,rfl⟩ F.slot_tuple_lt F.entry_tuple_lt (F.args_tuple_lt_2 _ _) (meets_tupLt a b us vs n n2 dd dd2 sl sl2 ns ms hu hv hl) ⟨ho,ho2,(fun x=>nomatch x),h⟩ hr
open AutoSeq1 (wpAny_loadPart')
open MeetsSeq3 (plain_eq_loop entry_eq_loop)
noncomputable def lexRun (e l:Nat->Bool) (m n:Nat):Nat->Nat->Bool
 | 0,_=>decide (m < n)
 | k+1,i=>if e i then lexRun e l m n k (i+1) else l i
noncomputable def LtAt (A:Around) (s:Shared) (x y:Value) (b:Bool):Prop:=∀ (prog:Program) (w:World) (E:Value->Shared->Prop) (Q:Value->Shared->Prop),Q (.bool b) s->wpAny (model prog w) A (richCompare .Lt x y) Q E s
theorem lt_loop (a b:Addr) (xs ys:Array Value) (n1 n2:Nat) (d1 d2:Option Addr) (s1 s2:Array (Option Value)) (e l:Nat->Bool) (k:Nat) :
  ∀ i:Nat,min xs.size ys.size - i=k->Meets (Builtin.«list.__eq__.loop» ⟨[.ref a,.ref b,rawInt i,rawInt 0],[]⟩)
   (fun A R s=>s.heap.get? a=some { cls:=.type "list",dict:=d1,data:=.seq xs n1,slots:=s1 }/\s.heap.get? b=some { cls:=.type "list",dict:=d2,data:=.seq ys n2,slots:=s2 } /\
    (∀ j (h1:j < xs.size) (h2:j < ys.size),SeqAt.EqAt A.in1 s xs[j] ys[j] (e j))/\(∀ j (h1:j < xs.size) (h2:j < ys.size),LtAt A.in1 s xs[j] ys[j] (l j)) /\
    R (.ok (.ret (.bool (lexRun e l xs.size ys.size k i)))) s):=by
 induction k with
 | zero =>
  intro i hk prog w A R s h
  obtain ⟨hp,g,d,tk,os⟩:=s
  obtain ⟨ga,gb,he,ht,h⟩:=h
  wp_walk using wpAny_loadPart' ga,wpAny_loadPart' gb
  rcases Nat.lt_or_ge i xs.size with h1 | h1
  ·have e1:xs[((i:Nat):Int).toNat]?=some xs[i]:=by simp [h1]
   have e2:ys[((i:Nat):Int).toNat]?=none:=by simp;lia
   rw [e1,e2]
   wp_walk using wpAny_loadPart' ga,wpAny_loadPart' gb
   exact h
  ·have e1:xs[((i:Nat):Int).toNat]?=none:=by simp;omega
   rw [e1]
   wp_walk using wpAny_loadPart' ga,wpAny_loadPart' gb
   exact h
 | succ k ih =>
  intro i hk prog w A R s h
  obtain ⟨hp,g,d,tk,os⟩:=s
  obtain ⟨ga,gb,he,ht,h⟩:=h
  wp_walk using wpAny_loadPart' ga,wpAny_loadPart' gb
  have h1:i < xs.size:=by omega
  have h2:i < ys.size:=by lia
  have e1:xs[((i:Nat):Int).toNat]?=some xs[i]:=by simp [h1]
  have e2:ys[((i:Nat):Int).toNat]?=some ys[i]:=by simp [h2]
  have hc:((i:Int)+1)=((i+1:Nat):Int):=by lia
  rw [e1,e2]
  refine wpAny_bind (he i h1 h2 prog w _ _ ?_)
  unfold lexRun at h
  cases hb:e i with
  | true =>
   rw [hb,if_pos rfl] at h
   wp_walk
   rw [hc]
   exact ⟨plainId_quiet plain_eq_loop _,codeAny_builtin entry_eq_loop (by rw [Around.under_plainId plain_eq_loop _];exact ih (i+1) (by lia) prog w A R _ ⟨ga,gb,he,ht,h⟩)⟩
  | false =>
   rw [hb,if_neg (by decide)] at h
   wp_walk using wpAny_loadPart' ga,wpAny_loadPart' gb
   rw [e1,e2]
   refine wpAny_bind (ht i h1 h2 prog w _ _ ?_)
   wp_walk
   exact h
theorem meets_listLt (a b:Addr) (xs ys:Array Value) (n1 n2:Nat) (d1 d2:Option Addr) (s1 s2:Array (Option Value)) (e l:Nat->Bool) :
  Meets (Builtin.«list.__lt__» ⟨[.ref a,.ref b],[]⟩)
   (fun A R s=>s.heap.get? a=some { cls:=.type "list",dict:=d1,data:=.seq xs n1,slots:=s1 }/\s.heap.get? b=some { cls:=.type "list",dict:=d2,data:=.seq ys n2,slots:=s2 } /\
    (∀ j (h1:j < xs.size) (h2:j < ys.size),SeqAt.EqAt A.in1 s xs[j] ys[j] (e j))/\(∀ j (h1:j < xs.size) (h2:j < ys.size),LtAt A.in1 s xs[j] ys[j] (l j)) /\
    R (.ok (.ret (.bool (lexRun e l xs.size ys.size (min xs.size ys.size) 0)))) s):=by
 intro prog w A R s h
 obtain ⟨hp,g,d,tk,os⟩:=s
 obtain ⟨ga,gb,he,ht,h⟩:=h
 have f3:=AutoSeq1.sub_list_list
 wp_walk using wpAny_loadPart' ga,wpAny_loadPart' gb
 exact ⟨plainId_quiet plain_eq_loop _,codeAny_builtin entry_eq_loop (by rw [Around.under_plainId plain_eq_loop _];exact lt_loop a b xs ys n1 n2 d1 d2 s1 s2 e l _ 0 (by lia) prog w A R _ ⟨ga,gb,he,ht,h⟩)⟩
section
variable {prog:Program} {w:World} {A:Around} {E:Value->Shared->Prop} {s:Shared}
theorem one_listLt {a b:Addr} {xs ys:Array Value} {n1 n2:Nat} {d1 d2:Option Addr} {s1 s2:Array (Option Value)} {e l:Nat->Bool} {Q:Bool->Shared->Prop}
  (ga:s.heap.get? a=some { cls:=.type "list",dict:=d1,data:=.seq xs n1,slots:=s1 }) (gb:s.heap.get? b=some { cls:=.type "list",dict:=d2,data:=.seq ys n2,slots:=s2 })
  (he:∀ j (h1:j < xs.size) (h2:j < ys.size),SeqAt.EqAt A.in1 s xs[j] ys[j] (e j)) (ht:∀ j (h1:j < xs.size) (h2:j < ys.size),LtAt A.in1 s xs[j] ys[j] (l j)) (hu:A.units < cLine)
  (h:Q (lexRun e l xs.size ys.size (min xs.size ys.size) 0) s):wpAny (model prog w) A (keyLt' oneType' (.ref a) (.ref b)) Q E s:=by
 rw [keyLt'_oneType,oneLt'_eq]
 simp only [if_true]
 refine wpAny_bind (wpAny_cRoomFor hu ?_)
 refine wpAny_bind (wpAny_callSpecialIfBound?_slot ⟨_,ga,rfl⟩ PySem.F.slot_list_lt (call_meets PySem.F.slot_list_lt ⟨_,ga,rfl⟩ PySem.F.entry_list_lt (PySem.F.args_list_lt_2 _ _) (meets_listLt a b xs ys n1 n2 d1 d2 s1 s2 e l) ⟨ga,gb,he,ht,?_⟩))
 exact wpAny_truthy_bool h
end
noncomputable def lexL:List (List Int)->List (List Int)->Bool
 | [],[]=>false
 | [],_ :: _=>true
 | _ :: _,[]=>false
 | a :: x,b :: y=>if a=b then lexL x y else HT.lexLt a b
theorem lexL_cons (a b:List Int) (x y:List (List Int)):lexL (a :: x) (b :: y)=if a=b then lexL x y else HT.lexLt a b:=rfl
theorem lexL_rf:∀ a,lexL a a=false
 | []=>rfl
 | a :: x=>by rw [lexL_cons,if_pos rfl];exact lexL_rf x
theorem lexL_an:∀ a b,lexL a b=false->lexL b a=false->a=b
 | [],[],_,_=>rfl
 | [],_ :: _,h,_=>by cases h
 | _ :: _,[],_,h=>by cases h
 | a :: x,b :: y,h1,h2=>by
  rw [lexL_cons] at h1 h2
  by_cases e:a=b
  ·subst e
   rw [if_pos rfl] at h1 h2
   rw [lexL_an x y h1 h2]
  ·rw [if_neg e] at h1
   rw [if_neg (Ne.symm e)] at h2
   exact absurd (lex_an a b h1 h2) e
theorem lexL_as:∀ a b,lexL a b=true->lexL b a=false
 | [],[],h=>by cases h
 | [],_ :: _,_=>rfl
 | _ :: _,[],h=>by cases h
 | a :: x,b :: y,h=>by
  rw [lexL_cons] at h ⊢
  by_cases e:a=b
  ·subst e
   rw [if_pos rfl] at h ⊢
   exact lexL_as x y h
  ·rw [if_neg e] at h
   rw [if_neg (Ne.symm e)]
   exact lex_as a b h
theorem lexL_tr:∀ a b c,lexL b a=false->lexL c b=false->lexL c a=false
 | [],_,[],_,_=>rfl
 | [],_,_ :: _,_,_=>rfl
 | _ :: _,[],_,h,_=>by cases h
 | _ :: _,_ :: _,[],_,h=>by cases h
 | a :: x,b :: y,c :: z,h1,h2=>by
  rw [lexL_cons] at h1 h2 ⊢
  by_cases e1:b=a
  ·subst e1
   rw [if_pos rfl] at h1
   by_cases e2:c=b
   ·subst e2
    rw [if_pos rfl] at h2 ⊢
    exact lexL_tr x y z h1 h2
   ·rw [if_neg e2] at h2 ⊢
    exact h2
  ·rw [if_neg e1] at h1
   by_cases e2:c=b
   ·subst e2
    rw [if_neg e1]
    exact h1
   ·rw [if_neg e2] at h2
    have e3:c≠a:=fun z=>by
     subst z
     exact e1 (lex_an b c h1 h2)
    rw [if_neg e3]
    exact lex_tr a b c h1 h2
theorem lexLO:Ordr lexL:=⟨lexL_rf,lexL_tr,lexL_an,lexL_as⟩
theorem lexRun_eq (ks ms:List (List Int)) (k:Nat):∀ i,i≤min ks.length ms.length->min ks.length ms.length - i=k ->
  lexRun (fun j=>decide (ks.getD j []=ms.getD j [])) (fun j=>HT.lexLt (ks.getD j []) (ms.getD j [])) ks.length ms.length k i=lexL (ks.drop i) (ms.drop i):=by
 induction k with
 | zero =>
  intro i hi hk
  unfold lexRun
  rcases Nat.lt_or_ge ks.length ms.length with g | g
  ·have e1:ks.drop i=[]:=List.drop_eq_nil_of_le (by lia)
   rw [e1,List.drop_eq_getElem_cons (show i < ms.length by lia),decide_eq_true g]
   rfl
  ·have e2:ms.drop i=[]:=List.drop_eq_nil_of_le (by lia)
   rw [e2,decide_eq_false (by lia)]
   cases ks.drop i <;> rfl
 | succ k ih =>
  intro i hi hk
  have h1:i < ks.length:=by lia
  have h2:i < ms.length:=by lia
  rw [List.drop_eq_getElem_cons h1,List.drop_eq_getElem_cons h2,lexL_cons]
  unfold lexRun
  have g1:ks.getD i []=ks[i]:=by simp [List.getD,h1]
  have g2:ms.getD i []=ms[i]:=by simp [List.getD,h2]
  rw [ih (i+1) (by lia) (by lia)]
  simp only [g1,g2,decide_eq_true_eq]
noncomputable def IsCL:Hp->V->List C3->Prop:=fun H v cs=>∃ p ys,v=.ref p/\H p=some (.lst ys)/\Cs H ys cs
theorem IsCL.up {H H':Hp} {v:V} {cs:List C3} (s:Same H H') (h:IsCL H v cs):IsCL H' v cs:=let ⟨p,ys,e,q,r⟩:=h;⟨p,ys,e,s _ _ q,Rs.up s r⟩
noncomputable def IsKL (H:Hp) (v:Value) (cs:List C3):Prop:=∃ p ys,v=.ref p/\H p=some (.lst ys)/\Cs H ys cs
theorem cs_uniq {H:Hp}:∀ {ys:List V} {cs ds:List C3},Cs H ys cs->Cs H ys ds->cs=ds
 | _,_,_,.nil,.nil=>rfl
 | _,c :: _,d :: _,.cons ⟨a,e,q⟩ t,.cons ⟨b,e',q'⟩ t'=>by
  subst e
  cases e'
  rw [q] at q'
  have z:=HO.tup.inj (Option.some.inj q')
  have:c=d:=by
   obtain ⟨x1,y1,z1⟩:=c
   obtain ⟨x2,y2,z2⟩:=d
   simp only [C3.v,C3.l,List.map_cons,List.map_nil,List.cons.injEq,V.int.injEq] at z
   obtain ⟨rfl,rfl,rfl,_⟩:=z
   rfl
  rw [this,cs_uniq t t']
theorem IsKL.one {H:Hp} {v:Value} {x y:List C3} (h1:IsKL H v x) (h2:IsKL H v y):x=y:=by
 obtain ⟨p,ys,rfl,e1,e2⟩:=h1
 obtain ⟨p',ys',e,f1,f2⟩:=h2
 cases e
 rw [e1] at f1
 cases f1
 exact cs_uniq e2 f2
open Classical in
noncomputable def klOf (H:Hp) (v:Value):List C3:=if h:∃ x,IsKL H v x then h.choose else []
theorem klOf_eq {H:Hp} {v:Value} {x:List C3} (h:IsKL H v x):klOf H v=x:=by
 have he:∃ x,IsKL H v x:=⟨x,h⟩
 unfold klOf
 rw [dif_pos he]
 exact IsKL.one he.choose_spec h
theorem kl_all {H:Hp}:∀ {ys:List V} {ps:List (List C3)} {its:List Value},Rs IsCL H ys ps->Vals ys its->(∀ v∈its,∃ x,IsKL H v x)/\its.map (klOf H)=ps
 | _,_,_,.nil,r=>by cases r;exact ⟨(fun _ h=>nomatch h),rfl⟩
 | _,_,_,.cons ⟨a,b,e,q1,q2⟩ t,r=>by
  cases r with
  | cons r1 r2 =>
   subst e
   cases r1
   obtain ⟨h1,h2⟩:=kl_all t r2
   have hk:IsKL H (.ref a) _:=⟨a,b,rfl,q1,q2⟩
   refine ⟨fun v hv=>?_,by rw [List.map_cons,h2,klOf_eq hk]⟩
   rcases List.mem_cons.mp hv with rfl | hv
   ·exact ⟨_,hk⟩
   ·exact h1 v hv
theorem kl_back {H:Hp}:∀ {out:List Value},(∀ v∈out,∃ x,IsKL H v x)->∃ zs,Vals zs out/\Rs IsCL H zs (out.map (klOf H))
 | [],_=>⟨[],.nil,.nil⟩
 | v :: r,h=>by
  obtain ⟨x,hx⟩:=h v List.mem_cons_self
  obtain ⟨zs,h1,h2⟩:=kl_back fun u hu=>h u (List.mem_cons_of_mem _ hu)
  have e:=klOf_eq hx
  obtain ⟨a,b,rfl,q1,q2⟩:=hx
  exact ⟨.ref a :: zs,.cons rfl h1,.cons (by rw [e];exact ⟨a,b,rfl,q1,q2⟩) h2⟩
theorem kl_obj {X:Cx} {pins:List (Addr×Obj)} {σ:St} {H:Hp} {s:Shared} (I:Inv X pins σ H s) {h':Heap} (kk:∀ b o,s.heap.get? b=some o->h'.get? b=some o) {v:Value} {cs:List C3} (h:IsKL H v cs) :
  ∃ (a:Addr) (us:List Value) (n:Nat) (d:Option Addr) (sl:Array (Option Value)),v=.ref a/\h'.get? a=some { cls:=.type "list",dict:=d,data:=.seq us.toArray n,slots:=sl }/\us.length=cs.length /\
   ∀ j (h1:j < us.toArray.size),∃ (b:Addr) (ws:List Value),us.toArray[j]=.ref b/\IsTup h' b ws.toArray/\IntsAre ws ((cs.map C3.l).getD j [])/\Reads h' (.ref b) (.tuple (((cs.map C3.l).getD j []).map PyData.int)) []:=by
 obtain ⟨a,ys,rfl,e1,e2⟩:=h
 obtain ⟨us,rv,pl,_⟩:=I.list (SqL.of (K:=X.K) e1)
 obtain ⟨⟨cl,d,da,sl⟩,ho,hc,n,hd⟩:=pl.isList
 replace hc:cl=.type "list":=hc
 replace hd:da=.seq us.toArray n:=hd
 subst hc hd
 have hl1:=rv.length
 have hl2:=e2.len
 refine ⟨a,us,n,d,sl,rfl,kk _ _ ho,by lia,fun j h1=>?_⟩
 rw [List.size_toArray] at h1
 have hj:j < cs.length:=by lia
 obtain ⟨v,ev,b,rfl,eb⟩:=e2.get' (List.getElem?_eq_getElem hj)
 obtain ⟨u,hu,ru⟩:=rv.get ev
 cases ru
 have eu:us.toArray[j]=Value.ref b:=by
  rw [List.getElem?_eq_getElem h1] at hu
  simpa using Option.some.inj hu
 have eg:(cs.map C3.l).getD j []=cs[j].l:=by simp [List.getD,hj]
 obtain ⟨ws,rw',⟨o2,ho2,hc2,n2,hd2⟩,_⟩:=I.tuple (SqT.of (K:=X.K) eb)
 rw [eg]
 exact ⟨b,ws,eu,⟨o2,kk _ _ ho2,hc2,n2,hd2⟩,ints_vals (ns:=cs[j].l) rw',Reads.keeps kk (I.readsT (ns:=cs[j].l) (SqT.of eb))⟩
noncomputable def rSortLL (K:PySem.W.Frag):List V->Hp->VK->Prop:=fun xs H Q=>∃ (l:Addr) (ys:List V) (css:List (List C3)),xs=[.ref l]/\SqL K H l ys/\Rs IsCL H ys css /\
 ∀ (p:Addr) (zs:List V) (dss:List (List C3)),H p=none->dss.Perm css->Rs IsCL (upd H p (.lst zs)) zs dss->Q (.ref p) (upd H p (.lst zs))
theorem rsCL_up {H H':Hp} {zs:List V} {css:List (List C3)} (s:Same H H') (h:Rs IsCL H zs css):Rs IsCL H' zs css:=Paired.mapP h fun _ _ q=>IsCL.up s q
theorem call_sortLL {X:Cx} (hu:X.A.units+64 < cLine):CallR X (.builtin "sorted") (rSortLL X.K):=by
 intro pins s σ H xs us Q I r h
 obtain ⟨l,ys,ps,rfl,hl,hp,q⟩:=h
 obtain ⟨u,rfl,ru⟩:=vals1 r
 cases ru
 obtain ⟨its,rv,pl,hz⟩:=I.list hl
 obtain ⟨hall,hmap⟩:=kl_all hp rv
 have hz':its.length≤sizeLine:=by have:=rv.length;lia
 have hn:H (s.heap.objs.size+1)=none:=I.hok.fresh (Nat.le_succ _)
 have hu2:X.A.in1.in1.in1.units=X.A.units+3:=rfl
 by_cases h2:2≤its.length
 ·refine Tim.sorted_any (lt:=lexL) (k:=fun x=>(klOf H x.1).map C3.l) (S:=fun x=>x.1∈its) (kind:=oneType') pl.isList h2 hz' (fun h' kk {Q' E'} hQ=>?_) (fun h' kk=>⟨lexLO,fun x y hx hy {Q' E'} hQ=>?_⟩) (fun v hv=>hv) fun out hpm hs=>?_
  ·refine kas_kind (T:=.type "list") h2 (fun v hv=>?_) (by decide) (by decide) hQ
   obtain ⟨cs,hc⟩:=hall v hv
   obtain ⟨a,us,n,d,sl,rfl,ho,_⟩:=kl_obj I kk hc
   exact (Looks.ld ho).andThen .now
  ·obtain ⟨c1,m1⟩:=hall _ hx
   obtain ⟨c2,m2⟩:=hall _ hy
   rw [klOf_eq m1,klOf_eq m2] at hQ
   obtain ⟨a1,u1,n1,d1,s1,f1,g1,l1,t1⟩:=kl_obj I kk m1
   obtain ⟨a2,u2,n2,d2,s2,f2,g2,l2,t2⟩:=kl_obj I kk m2
   rw [f1,f2]
   refine one_listLt (e:=fun j=>decide ((c1.map C3.l).getD j []=(c2.map C3.l).getD j [])) (l:=fun j=>HT.lexLt ((c1.map C3.l).getD j []) ((c2.map C3.l).getD j [])) g1 g2 (fun j h1 h2=>?_) (fun j h1 h2=>?_) (by show X.A.units+2 < cLine;lia) ?_
   ·obtain ⟨b1,w1,e1,p1,i1,r1⟩:=t1 j h1
    obtain ⟨b2,w2,e2,p2,i2,r2⟩:=t2 j h2
    rw [e1,e2]
    have ea:=SeqAt.eqAt_reads _ _ X.A.in1.in1.in1 { s with heap:=h' } (.ref b1) (.ref b2) [] [] r1 r2 (SeqAt.canLay_of_shaped (shaped_T _)) (SeqAt.canLay_of_shaped (shaped_T _)) (Nat.lt_of_le_of_lt (Nat.add_le_add_left (Nat.le_trans (Nat.min_le_left _ _) (depth_T _)) _) (by rw [hu2];lia))
    rw [eqv_T] at ea
    exact ea
   ·obtain ⟨b1,w1,e1,p1,i1,r1⟩:=t1 j h1
    obtain ⟨b2,w2,e2,p2,i2,r2⟩:=t2 j h2
    rw [e1,e2]
    intro prog w E Q hq
    have hlen:((c1.map C3.l).getD j []).length=((c2.map C3.l).getD j []).length:=by
     rw [List.size_toArray] at h1 h2
     have k1:j < c1.length:=by lia
     have k2:j < c2.length:=by lia
     simp [List.getD,k1,k2,C3.l]
    exact (show wpAny (model prog w) X.A.in1.in1.in1 (compareOp .Lt (.ref b1) (.ref b2)) Q E { s with heap:=h' } from lt_tups p1 p2 i1 i2 hlen (by rw [hu2];lia) hq)
   ·have e:=lexRun_eq (c1.map C3.l) (c2.map C3.l) (min u1.toArray.size u2.toArray.size) 0 (Nat.zero_le _) (by rw [List.size_toArray,List.size_toArray,List.length_map,List.length_map,l1,l2];rfl)
    rw [List.length_map,List.length_map,List.drop_zero,List.drop_zero,←l1,←l2,←List.size_toArray,←List.size_toArray] at e
    rw [e]
    exact hQ
  ·have hall':∀ v∈out,∃ x,IsKL H v x:=fun v hv=>hall v (hpm.mem_iff.mp hv)
   obtain ⟨zs,hv,hr⟩:=kl_back hall'
   obtain ⟨e,he⟩:=sortedAll_at s.heap its out.toArray
   have hzl:zs.length≤sizeLine:=by rw [hv.length,hpm.length_eq];exact hz'
   refine ⟨.ref (s.heap.objs.size+1),upd H (s.heap.objs.size+1) (.lst zs),I.laid (t':=s.toks) (fun b o h=>sortedAll_old h) (Nat.le_succ _) ⟨hzl,out,e,hv,he⟩,rfl,q _ zs (out.map (klOf H)) hn ?_ (rsCL_up (same_new hn) hr)⟩
   rw [←hmap]
   exact hpm.map _
 ·refine sorted_short pl.isList (by lia) ?_
  obtain ⟨e,he⟩:=sortedAll_at s.heap its its.toArray
  exact ⟨.ref (s.heap.objs.size+1),upd H (s.heap.objs.size+1) (.lst ys),I.laid (t':=s.toks) (fun b o h=>sortedAll_old h) (Nat.le_succ _) ⟨hz,its,e,rv,he⟩,rfl,q _ ys ps hn (List.Perm.refl _) (rsCL_up (same_new hn) hp)⟩
theorem qc_sortLL {X:Cx} {K:PySem.W.Frag} (h:X.K=K) (hu:X.A.units+64 < cLine):QCl X (.builtin "sorted") (rSortLL K):=⟨h▸call_sortLL hu⟩
noncomputable def IsT:Hp->V->List Int->Prop:=fun H v k=>∃ a,v=V.ref a/\H a=some (.tup (k.map V.int))
noncomputable instance:Rep IsT:=⟨fun s ⟨a,e,q⟩=>⟨a,e,s _ _ q⟩,fun h' ⟨a,e,q⟩=>⟨a,e,lk_kind h' (by intro z;cases z) q⟩⟩
theorem prsT_of {K:PySem.W.Frag} {H:Hp}:∀ {ys:List V} {ks:List (List Int)},Rs IsT H ys ks->∃ ps:Prs,ys=refs ps/\ps.map (·.2)=ks/\Tps K H ps/\∀ q∈ps,H q.1=some (.tup (q.2.map V.int))
 | _,_,.nil=>⟨[],rfl,rfl,fun _ h=>absurd h (List.not_mem_nil),fun _ h=>absurd h (List.not_mem_nil)⟩
 | _,_,.cons (b:=c) ⟨a,e,q⟩ t=>by
  obtain ⟨ps,e1,e2,e3,e4⟩:=prsT_of (K:=K) t
  refine ⟨(a,c) :: ps,by rw [e,e1];rfl,by simp [e2],fun p hp=>?_,fun p hp=>?_⟩
  ·rcases List.mem_cons.mp hp with rfl | hp
   ·exact SqT.of q
   ·exact e3 p hp
  ·rcases List.mem_cons.mp hp with rfl | hp
   ·exact q
   ·exact e4 p hp
theorem rsT_of {H:Hp}:∀ {ps:Prs},(∀ q∈ps,H q.1=some (.tup (q.2.map V.int)))->Rs IsT H (refs ps) (ps.map (·.2))
 | [],_=>.nil
 | (a,l) :: ps,t=>.cons ⟨a,rfl,t (a,l) (List.mem_cons_self ..)⟩ (rsT_of fun p hp=>t p (List.mem_cons_of_mem _ hp))
section
variable {X:Cx}
theorem sort_laidT {pins:List (Addr×Obj)} {σ:St} {H:Hp} {s:Shared} {ys:List V} {ks:List (List Int)} {m:Nat} {its:List Value} {h':Heap} {tk:Nat} {A:Around} {E:Value->Shared->Prop} {R:Value->Shared->Prop} (I:Inv X pins σ H s) (hc:Rs IsT H ys ks) (hm:∀ k∈ks,k.length=m+1) (rv:Vals ys its) (hz:ys.length≤sizeLine)
  (kk:∀ b o,s.heap.get? b=some o->h'.get? b=some o) (hge:s.heap.objs.size≤h'.objs.size) (q:∀ (p:Addr) (zs:List V) (ks':List (List Int)) (s':Shared),H p=none->ks'.Perm ks->ks'.Pairwise (fun x y=>HT.lexLt y x=false)->Rs IsT (upd H p (.lst zs)) zs ks'->Inv X pins σ (upd H p (.lst zs)) s'->p=h'.objs.size->R .none s') :
  wpAny (model X.prog X.w) A (call (.builtin "list.sort") [.ref h'.objs.size]) R E { s with heap:=h'.push (seqObj "list" its.toArray 0),toks:=tk }:=by
 obtain ⟨ps,e1,e2,e3,e3t⟩:=prsT_of (K:=X.K) hc
 have hlen:ps.length=ks.length:=by have:=congrArg List.length e2;simpa using this
 have rv':Vals (refs ps) its:=by rw [←e1];exact rv
 have hlen2:its.length=ps.length:=by have:=rv'.length;simpa using this.symm
 have hz':its.length≤sizeLine:=by have:=rv.length;lia
 have hn:H h'.objs.size=none:=I.hok.fresh hge
 have hoL:(h'.push (seqObj "list" its.toArray 0)).get? h'.objs.size=some (seqObj "list" its.toArray 0):=Heap.get?_push_size _ rfl
 have kk2:∀ b o,s.heap.get? b=some o->(h'.push (seqObj "list" its.toArray 0)).get? b=some o:=fun b o z=>Heap.get?_push_of_some _ (kk b o z)
 have old:∀ (out:Array Value) b o,s.heap.get? b=some o->(sortedHeap (h'.push (seqObj "list" its.toArray 0)) h'.objs.size its out).get? b=some o:=fun out b o z=>by
  have hlt:b < h'.objs.size:=Heap.lt_size (kk b o z)
  rw [sortedHeap_old (Nat.ne_of_lt hlt) (by rw [size_push'];exact Nat.lt_succ_of_lt hlt)]
  exact kk2 b o z
 have d3:∀ p∈ps,p.2.length=m+1:=fun p hp=>by
  have:p.2∈ps.map (·.2):=List.mem_map.mpr ⟨p,hp,rfl⟩
  rw [e2] at this
  exact hm _ this
 by_cases h2:2≤its.length
 ·have tup':∀ h1:Heap,(∀ b o,s.heap.get? b=some o->h1.get? b=some o)->∀ p∈ps,∃ vs:List Value,Vals (p.2.map V.int) vs/\IsTup h1 p.1 vs.toArray:=fun h1 kk p hp=>by
   obtain ⟨vs,rv',⟨ob,ho,hcl,n,hdat⟩,_⟩:=I.tuple (e3 p hp)
   exact ⟨vs,rv',ob,kk _ _ ho,hcl,n,hdat⟩
  have far:∀ b o,s.heap.get? b=some o->b≠h'.objs.size:=fun b o z=>Nat.ne_of_lt (Heap.lt_size (kk b o z))
  refine wpAny_call_entry slot_list_sort ⟨_,hoL,rfl⟩ entry_list_sort (Tim.list_sort_any (lt:=HT.lexLt) (k:=fun x=>keyOf ps x.1) (S:=fun x=>x.1∈its) (kind:=tuples' (Value.type "int" != Value.type "tuple")) hoL h2 hz' (fun h1 k1 {Q' E'} hQ=>?_) (fun h1 k1=>⟨lexO,fun x y hx hy {Q' E'} hQ=>?_⟩) (fun v hv=>hv) fun out hp hs=>?_) (args_list_sort _)
  ·obtain ⟨fs,kt,hfl,hfs⟩:=firsts_of (h:=h1) rv' fun p hp=>⟨fun e=>by have:=d3 p hp;rw [e] at this;simp at this,tup' h1 (fun b o z=>k1 b o (far b o z) (kk2 b o z)) p hp⟩
   refine kat_kind (T:=.type "int") kt (by lia) (fun v hv=>?_) rfl hQ
   obtain ⟨i,t,rfl⟩:=hfs v hv
   exact Looks.of_pure rfl
  ·obtain ⟨p1,m1,f1⟩:=refs_mem rv' _ hx
   obtain ⟨p2,m2,f2⟩:=refs_mem rv' _ hy
   rw [f1,f2] at hQ ⊢
   rw [keyOf_eq e3t m1,keyOf_eq e3t m2] at hQ
   obtain ⟨vi,ri,oi,hoi,_,ni,di⟩:=tup' h1 (fun b o z=>k1 b o (far b o z) (kk2 b o z)) p1 m1
   obtain ⟨vj,rj,oj,hoj,_,nj,dj⟩:=tup' h1 (fun b o z=>k1 b o (far b o z) (kk2 b o z)) p2 m2
   refine kat_lt hoi di hoj dj ?_
   refine lex_pairs 0 ri rj ((d3 p1 m1).trans (d3 p2 m2).symm) ?_ hQ
   have a1:=ri.length
   have a2:=rj.length
   have b1:=d3 p1 m1
   have b2:=d3 p2 m2
   simp only [List.length_map] at a1 a2
   rw [List.size_toArray,List.size_toArray]
   exact decide_eq_false (by lia)
  ·obtain ⟨qs,q1,q2,q3⟩:=refs_of out ps fun v hv=>refs_mem rv' v (hp.mem_iff.mp hv)
   obtain ⟨e,he⟩:=sortedHeap_at (out:=out.toArray) hoL
   have keyq:∀ p∈qs,keyOf ps (.ref p.1)=p.2:=fun p hp=>keyOf_eq e3t (q1 p hp)
   have kp:(out.map (keyOf ps)).Perm (its.map (keyOf ps)):=hp.map _
   have ko:out.map (keyOf ps)=qs.map (·.2):=by
    rw [q3,List.map_map]
    exact List.map_congr_left fun p hp=>keyq p hp
   have ki:its.map (keyOf ps)=ps.map (·.2):=by
    have go:∀ (ps':Prs) (its':List Value),(∀ p∈ps',p∈ps)->Vals (refs ps') its'->its'.map (keyOf ps)=ps'.map (·.2):=by
     intro ps'
     induction ps' with
     | nil=>intro its' _ r;have r:Vals [] _:=r;cases r;rfl
     | cons p ps' ih =>
      intro its' hm r
      have r:Vals (V.ref p.1 :: refs ps') _:=r
      cases r with
      | cons r1 r2 =>
       cases r1
       rw [List.map_cons,List.map_cons,keyOf_eq e3t (hm p (List.mem_cons_self ..)),ih _ (fun p' hp'=>hm p' (List.mem_cons_of_mem _ hp')) r2]
    exact go ps its (fun _ h=>h) rv'
   rw [ko,ki,e2] at kp
   have ha:(qs.map (·.2)).Pairwise (fun a b=>HT.lexLt b a=false):=by
    rw [←ko,List.pairwise_map]
    exact hs
   have hzl:(refs qs).length≤sizeLine:=by rw [q2.length,hp.length_eq];exact hz'
   refine ⟨_,rfl,q h'.objs.size (refs qs) _ _ hn kp ha ?_ (I.laid (t':=tk) (old out.toArray) hge ⟨hzl,out,e,q2,he⟩) rfl⟩
   exact Rs.up (same_new hn) (rsT_of fun x hx=>e3t x (q1 x hx))
 ·obtain ⟨e,he⟩:=sortedHeap_at (out:=its.toArray) hoL
  refine wpAny_call_entry slot_list_sort ⟨_,hoL,rfl⟩ entry_list_sort (list_sort_short hoL (by lia) ⟨_,rfl,q h'.objs.size ys ks _ hn (List.Perm.refl _) ?_ (Rs.up (same_new hn) hc) (I.laid (t':=tk) (old its.toArray) hge ⟨hz,its,e,rv,he⟩) rfl⟩) (args_list_sort _)
  have hk:ks.length < 2:=by lia
  cases ks with
  | nil=>exact .nil
  | cons c r =>
   cases r with
   | nil=>exact .cons (fun _ h=>nomatch h) .nil
   | cons=>simp only [List.length_cons] at hk;lia
end
end L2
namespace Fl
open PySem L2 PyProof.Rows
noncomputable def isEx (a:Addr) (C:Value) (dx:Option Addr) (h:Heap):Prop:=∃ oe vs,h.get? a=some oe/\oe.cls=C/\oe.dict=dx/\oe.data=.fields vs/\1 < vs.size
noncomputable def ExO (a:Addr) (C:Value) (dx:Option Addr):HO:=.ext (isEx a C dx)
noncomputable def Fly (h h0:Heap) (a T:Addr):Prop:=∃ oe vs oT ts,h.get? a=some oe/\oe.data=.fields vs/\vs[1]?=some (.ref T)/\h0.objs.size≤T/\T≠a/\h.get? T=some oT/\oT.data=.fields ts/\ts[3]?=some .none
noncomputable def CXe (P:Program) (w:World):CXT:=fun outer H s E e s'=>∃ (a T:Addr) (C:Value) (dx:Option Addr) (H':Hp),e=.ref a/\s.heap.get? a=none/\s'.os=s.os/\AllBare s'.gens/\Un (frs outer) [] H H' s.heap s'.heap /\
 HOk P w H' s'.heap/\H' a=some (ExO a C dx)/\Fly s'.heap s.heap a T/\H' T=none/\E (.ref a) dx H'
section
variable {P:Program} {w:World} {H:Hp} {h:Heap} {a:Addr} {o:HO}
theorem ok_there (x:ObjOk P w H h a o):∃ ob,h.get? a=some ob:=by
 cases o with
 | lst xs=>obtain ⟨_,_,_,_,e⟩:=x;exact ⟨_,e⟩
 | tup xs=>obtain ⟨_,_,_,ob,e,_⟩:=x;exact ⟨_,e⟩
 | dK kvs=>obtain ⟨_,_,_,_,ob,_,_,e,_⟩:=x;exact ⟨_,e⟩
 | dT kvs=>obtain ⟨_,_,_,_,ob,_,_,e,_⟩:=x;exact ⟨_,e⟩
 | set S n=>obtain ⟨ob,_,_,_,e,_⟩:=x;exact ⟨_,e⟩
 | ins C dx fs=>obtain ⟨_,_,_,e,_⟩:=x;exact ⟨_,e⟩
 | own y=>exact x
 | xd fs=>obtain ⟨_,⟨_,_,_,e,_⟩,_⟩:=x;exact ⟨_,e⟩
 | rng lo hi=>obtain ⟨_,_,_,e⟩:=x;exact ⟨_,e⟩
 | frz ob u=>obtain ⟨e,_⟩:=x;exact ⟨_,e⟩
 | tbl ps=>exact ⟨_,(show h.get? a=some _ from x)⟩
 | met f y=>exact ⟨_,(show h.get? a=some _ from x)⟩
 | ext φ=>exact x.2.1
theorem free_of (ok:HOk P w H h) (n:h.get? a=none):H a=none:=by
 cases e:H a with
 | none=>rfl
 | some o =>
  obtain ⟨ob,q⟩:=ok_there (ok a o e)
  rw [n] at q
  cases q
end
section
variable {X:Cx} {pins:List (Addr×Obj)} {σ:L2.St} {H:Hp} {s:Shared} {h':Heap}
theorem inv_laidN {a:Addr} {o:HO} {t':Nat} (I:Inv X pins σ H s) (k:∀ b u,s.heap.get? b=some u->h'.get? b=some u) (n:s.heap.get? a=none) (new:ObjOk X.prog X.w (upd H a o) h' a o) :
  Inv X pins σ (upd H a o) { s with heap:=h',toks:=t' }:=by
 have hn:=free_of I.hok n
 refine I.un ⟨fun b u q _ _ _=>k b u q,fun b u q _ _ _=>⟨u.slots,k b u q⟩,fun b u q z _=>?_,fun b u q _=>⟨u,k b u q⟩,fun b xs q=>?_,fun b u xs q=>?_,fun b ps q=>⟨#[],?_⟩⟩ fun b u e=>?_
 ·rw [upd_ne (fun z'=>by subst z';rw [n] at q;cases q)];exact z
 ·rw [upd_ne (ne_of_none q hn)];exact q
 ·rw [upd_ne (ne_of_none q hn)];exact q
 ·rw [upd_ne (ne_of_none q hn),q];simp
 ·by_cases hb:b=a
  ·subst hb;rw [upd_same] at e;cases e;exact new
  ·rw [upd_ne hb] at e
   exact (I.hok b u e).stay (fun c v _ q=>k c v q) (fun c q=>by rw [upd_ne (ne_of_none q hn)];exact q) fun c xs q=>by rw [upd_ne (ne_of_none q hn)];exact q
variable {nm q:Str} {C N:Addr} {bs bm bmB:List Value} {hdct:Bool} {sn:List Str} {sub:List Value} {ab:Bool} {col:Option Bool} {dd:Option Addr} {k0 k1 k2 k3 k5:Option Value} {B newId initId:String}
end
end Fl
namespace Pc
open PySem L2 Srt
noncomputable def KD (kvs:List (List Key×V)) (ds:List C3):Prop:=kvs.map (·.1)=ds.map keyC
theorem keyC_inj {c d:C3} (h:keyC c=keyC d):c=d:=by
 have:=congrArg ckey h
 rwa [ckey_key,ckey_key] at this
theorem kd_some:∀ {kvs:List (List Key×V)} {ds:List C3} (c:C3),KD kvs ds->(valV kvs (keyC c)).isSome=decide (c∈ds)
 | [],[],_,_=>by simp [valV]
 | [],_ :: _,_,h=>by simp [KD] at h
 | _ :: _,[],_,h=>by simp [KD] at h
 | (k,v) :: kvs,d :: ds,c,h=>by
  simp only [KD,List.map_cons,List.cons.injEq] at h
  have ih:=kd_some (kvs:=kvs) (ds:=ds) c h.2
  unfold valV at ih ⊢
  rw [List.find?_cons]
  by_cases e:k=keyC c
  ·have hd:d=c:=keyC_inj (h.1.symm.trans e)
   subst hd
   simp [e]
  ·have hd:c≠d:=fun z=>e (by rw [z];exact h.1)
   rw [decide_eq_false e]
   simp only [List.mem_cons]
   rw [ih]
   simp [hd]
noncomputable def nb (c:C3):List C3:=[⟨c.x - 1,c.y,c.z⟩,⟨c.x,c.y - 1,c.z⟩,⟨c.x,c.y,c.z - 1⟩,⟨c.x,c.y,c.z+1⟩,⟨c.x,c.y+1,c.z⟩,⟨c.x+1,c.y,c.z⟩]
theorem nb_l (c:C3):(nb c).map C3.l=nbs c:=rfl
inductive Rch (cs:List C3) (f:C3->Int) (vs:List C3):C3->Prop
 | base {c:C3}:c∈vs->c∈cs->Rch cs f vs c
 | step {c d:C3}:Rch cs f vs c->d∈nb c->d∈cs->f d≤f c->Rch cs f vs d
noncomputable def Clo (cs:List C3) (f:C3->Int) (ds:List C3) (c:C3) (ns:List C3):Prop:=∀ d∈ns,d∈cs->f d≤f c->d∈ds
structure Fl (cs:List C3) (f:C3->Int) (vs ds ws:List C3) (ex:C3->Prop):Prop where
 nd:ds.Nodup
 sound:∀ c∈ds,Rch cs f vs c
 base:∀ c∈vs,c∈cs->c∈ds
 sub:∀ c∈ws,c∈ds
 clo:∀ c∈ds,c∉ws->¬ ex c->Clo cs f ds c (nb c)
theorem cs_made {H:Hp} {p:Addr} {ps:Prs} {c:C3} (m:Made H p ps) (e:ps.map (·.2)=nbs c):H p=some (.lst (refs ps))/\Cs H (refs ps) (nb c):=⟨m.1,cs_of (by rw [e,nb_l]) m.2⟩
noncomputable def nbL (c:C3):List C3:=[⟨c.x - 1,c.y,c.z⟩,⟨c.x+1,c.y,c.z⟩,⟨c.x,c.y - 1,c.z⟩,⟨c.x,c.y+1,c.z⟩,⟨c.x,c.y,c.z - 1⟩,⟨c.x,c.y,c.z+1⟩]
end Pc
namespace L2
theorem rd_dpopT {σ:St} {H:Hp} {Q:VK} {td ty:TE} (h:td σ H fun x H1=>∃ d,x=.ref d/\IsD H1 d/\ty σ H1 fun y H2=>∃ kvs k a v,H2 d=some (.dT kvs)/\y=.ref a/\H2 a=some (.tup (k.map kV))/\valV kvs k=some v/\Q v (upd H2 d (.dT (dropK kvs k)))):tDPopT td ty σ H Q:=h
end L2
open PySem PySem.W
namespace Pc
open PySem L2 Srt
noncomputable def rimB (cs:List C3) (c:C3):Bool:=!(nb c).all fun d=>decide (d∈cs)
noncomputable def inr (cs:List C3):List C3:=cs.filter fun c=>!rimB cs c
theorem nbL_at (c:C3) (ax:Ax) {i:Nat} (h:ax.n=(i:Int)):(nbL c).take (2 * i) ++ [ax.put (ax.at c+-1) c,ax.put (ax.at c+1) c]=(nbL c).take (2 * (i+1)):=by
 cases ax
 ·have:i=0:=by have:(0:Int)=i:=h;lia
  subst this;rfl
 ·have:i=1:=by have:(1:Int)=i:=h;lia
  subst this;rfl
 ·have:i=2:=by have:(2:Int)=i:=h;lia
  subst this;rfl
theorem kd_drop {kvs:List (List Key×V)} {ds:List C3} {c:C3} (h:KD kvs ds):KD (dropK kvs (keyC c)) (ds.filter fun x=>decide (x≠c)):=by
 unfold KD at h ⊢
 unfold dropK
 induction kvs generalizing ds with
 | nil =>
  cases ds with
  | nil=>rfl
  | cons _ _=>simp at h
 | cons kv kvs ih =>
  cases ds with
  | nil=>simp at h
  | cons d ds =>
   simp only [List.map_cons,List.cons.injEq] at h
   rw [List.filter_cons,List.filter_cons]
   by_cases e:d=c
   ·subst e
    rw [if_neg (by simp [h.1]),if_neg (by simp)]
    exact ih h.2
   ·rw [if_pos (by simp only [decide_eq_true_eq];rw [h.1];exact fun z=>e (keyC_inj z)),if_pos (by simpa using e)]
    rw [List.map_cons,List.map_cons,ih h.2,h.1]
theorem drop_len {ds:List C3} {c:C3} (hn:ds.Nodup) (hc:c∈ds):(ds.filter fun x=>decide (x≠c)).length+1=ds.length:=by
 induction ds with
 | nil=>cases hc
 | cons d ds ih =>
  rw [List.nodup_cons] at hn
  rw [List.filter_cons]
  by_cases e:d=c
  ·subst e
   rw [if_neg (by simp),List.filter_eq_self.mpr]
   ·rfl
   ·intro y hy
    simp only [decide_eq_true_eq]
    exact fun z=>hn.1 (z▸hy)
  ·rw [if_pos (by simpa using e),List.length_cons,List.length_cons,ih hn.2]
   rcases List.mem_cons.mp hc with z | z
   ·exact absurd z.symm e
   ·exact z
theorem dat_cs {K:PySem.W.Frag} {H:Hp} {p:Addr} {zs:List V} {cs:List C3} (e:H p=some (.lst zs)) (r:Cs H zs cs):Dat K H (.ref p) (.list (cs.map encC)):=.lst (SqL.of e) (Dats.of (fun ⟨_,e1,e2⟩=>by rw [e1];exact dat_ct e2) r)
theorem shp_two (cs us:List C3):SeqAt.shaped (.list [.list (cs.map encC),.list (us.map encC)])=true:=(shp_lst (n:=2) fun d hd=>by
 simp only [List.mem_cons,List.not_mem_nil,or_false] at hd
 rcases hd with rfl | rfl
 ·exact shp_map shp_c cs
 ·exact shp_map shp_c us).ok
noncomputable def l1 (c d:C3):Nat:=(d.x - c.x).natAbs+(d.y - c.y).natAbs+(d.z - c.z).natAbs
noncomputable abbrev WQ:=List (Int×List C3)
noncomputable abbrev PL:=List (C3×Int×Option C3)
noncomputable abbrev PS:=PL×WQ
end Pc
namespace Fl
open PySem L2 PyProof.Rows
section
variable {X:Cx} {pins:List (Addr×Obj)} {σ:L2.St} {H:Hp} {s:Shared}
noncomputable abbrev Cx.as (X:Cx) (A:Around) (pn:List (Addr×Obj)) (xe:Value->Shared->Prop) (calm:Bool):Cx:={ X with A:=A,pn:=pn,xe:=xe,calm:=calm }
end
section
variable {X:Cx} {pins:List (Addr×Obj)} {σ:L2.St} {H:Hp} {s:Shared}
noncomputable def xeT (X:Cx) (pn:List (Addr×Obj)) (E:XK):Value->Shared->Prop:=fun e s'=>∃ (pins:List (Addr×Obj)) (σ:L2.St) (H:Hp) (s:Shared),Inv (Cx.as X X.A pn (fun _ _=>True) X.calm) pins σ H s/\CXe X.prog X.w X.stack H s E e s'
noncomputable abbrev Cx.tr (X:Cx) (pn:List (Addr×Obj)) (E:XK):Cx:=Cx.as X X.A pn (xeT X pn E) X.calm
noncomputable def gone1 (i:Nat) (D:Ends):Ends:={ nx:=fun σ' H2=>D.nx (σ'.set i none) H2,bk:=fun σ' H2=>D.bk (σ'.set i none) H2,ct:=fun σ' H2=>D.ct (σ'.set i none) H2,rt:=D.rt }
noncomputable def hnd (Ok:Addr->Prop) (i k:Nat) (ts:TS) (D:Ends):XK:=fun e dx H'=>∃ a C,e=.ref a/\Ok C/\H' a=some (ExO a (.ref C) dx)/\ts (gone1 i D) ((List.replicate k none).set i (some (.ref a))) H'
end
end Fl
namespace Pc
open PySem L2 Srt
structure LnS (H0 H:Hp) (d:Addr) (ax:Ax) (cs:List C3) (kvs:List (List Key×V)) (ks:List (List Int)):Prop extends Ln H0 H d ax cs kvs where
 ek:kvs.map (·.1)=ks.map kI
 nd:ks.Nodup
 ne:∀ k∈ks,numsAt ax cs k≠[]
theorem key_val {kvs:List (List Key×V)} {ks:List (List Int)} (h:kvs.map (·.1)=ks.map kI) {k:List Int}:k∈ks↔valV kvs (kI k)≠none:=by
 constructor
 ·intro hk e
  have h1:kI k∈kvs.map (·.1):=by rw [h];exact List.mem_map.mpr ⟨k,hk,rfl⟩
  obtain ⟨kv,h2,h3⟩:=List.mem_map.mp h1
  have h4:(kvs.any fun kv=>decide (kv.1=kI k))=true:=List.any_eq_true.mpr ⟨kv,h2,decide_eq_true h3⟩
  rw [valV_any,e] at h4
  cases h4
 ·intro he
  cases e:valV kvs (kI k) with
  | none=>exact absurd e he
  | some v =>
   obtain ⟨kv,h1,h2⟩:=val_mem e
   have h3:kv.1∈kvs.map (·.1):=List.mem_map.mpr ⟨kv,h1,rfl⟩
   rw [h,h2] at h3
   obtain ⟨k',h4,h5⟩:=List.mem_map.mp h3
   exact kI_inj h5▸h4
theorem put_keys {kvs:List (List Key×V)} {ks:List (List Int)} {k:List Int} {v:V} (h:kvs.map (·.1)=ks.map kI) (hn:valV kvs (kI k)=none):(putK kvs (kI k) v).map (·.1)=(ks ++ [k]).map kI:=by
 rw [putK_new _ hn,List.map_append,List.map_append,h]
 rfl
noncomputable def LinesK (H:Hp) (d:Addr) (ax:Ax) (cs:List C3) (ks:List (List Int)):Prop:=∃ kvs,H d=some (.dT kvs)/\kvs.map (·.1)=ks.map kI/\ks.Nodup/\(∀ k,k∈ks↔numsAt ax cs k≠[])/\∀ k∈ks,∃ l,valV kvs (kI k)=some (.ref l)/\H l=some (.lst ((numsAt ax cs k).map V.int))
theorem LinesK.up {H H':Hp} {d:Addr} {ax:Ax} {cs:List C3} {ks:List (List Int)} (s:Same H H') (h:LinesK H d ax cs ks):LinesK H' d ax cs ks:=by
 obtain ⟨kvs,e,a,b,c,q⟩:=h
 exact ⟨kvs,s _ _ e,a,b,c,fun k hk=>let ⟨l,x,y⟩:=q k hk;⟨l,x,s _ _ y⟩⟩
theorem LnS.lines {H0 H:Hp} {d:Addr} {ax:Ax} {cs:List C3} {kvs:List (List Key×V)} {ks:List (List Int)} (h:LnS H0 H d ax cs kvs ks):LinesK H d ax cs ks:=by
 refine ⟨kvs,h.e,h.ek,h.nd,fun k=>⟨h.ne k,fun hk=>?_⟩,fun k hk=>?_⟩
 ·rw [key_val h.ek]
  intro e
  rcases h.at' k with ⟨_,z⟩ | ⟨l,z,_⟩
  ·exact hk z
  ·rw [e] at z;cases z
 ·have:=(key_val h.ek).mp hk
  rcases h.at' k with ⟨z,_⟩ | ⟨l,z,y,_⟩
  ·exact absurd z this
  ·exact ⟨l,z,y⟩
theorem nums_keep {ax:Ax} {cs:List C3} {c:C3} {k:List Int} (h:numsAt ax cs k≠[]):numsAt ax (cs ++ [c]) k≠[]:=by
 rw [numsAt_snoc]
 intro e
 exact h (List.append_eq_nil_iff.mp e).1
theorem key_of {ax:Ax} {cs:List C3} {k:List Int} (h:numsAt ax cs k≠[]):∃ c∈cs,lnI ax c=k:=by
 cases e:numsAt ax cs k with
 | nil=>exact absurd e h
 | cons n r =>
  obtain ⟨c,h1,h2,_⟩:=mem_nums.mp (show n∈numsAt ax cs k by rw [e];exact List.mem_cons_self)
  exact ⟨c,h1,h2⟩
noncomputable def Stp (ns:List Int) (i:Nat):Prop:=∀ lo hi,ns[i]?=some lo->ns[i+1]?=some hi->hi≤lo+1
noncomputable def Good (ax:Ax) (cs:List C3):Prop:=∀ k i,Stp (numsAt ax cs k) i
theorem stp_len:∀ (a:Int) (r:List Int),(a :: r).Pairwise (· < ·)->(((a :: r).length:Int)≤(a :: r).getLastD 0 - a+1)/\((∀ i,Stp (a :: r) i)↔((a :: r).length:Int)=(a :: r).getLastD 0 - a+1)
 | a,[],_=>by
  refine ⟨by simp,⟨fun _=>by simp,fun _ i lo hi h1 h2=>?_⟩⟩
  rw [List.getElem?_cons_succ] at h2
  simp at h2
 | a,b :: r,hp=>by
  obtain ⟨h1,h2⟩:=List.pairwise_cons.mp hp
  have hab:=h1 b (by simp)
  obtain ⟨i1,i2⟩:=stp_len b r h2
  have el:((a :: b :: r).length:Int)=((b :: r).length:Int)+1:=by simp
  have eg:(a :: b :: r).getLastD 0=(b :: r).getLastD 0:=by simp
  rw [el,eg]
  refine ⟨by lia,⟨fun q=>?_,fun q i lo hi e1 e2=>?_⟩⟩
  ·have:=q 0 a b rfl rfl
   have:=i2.mp fun i lo hi e1 e2=>q (i+1) lo hi (by rw [List.getElem?_cons_succ];exact e1) (by rw [List.getElem?_cons_succ];exact e2)
   lia
  ·have e3:((b :: r).length:Int)=(b :: r).getLastD 0 - b+1:=by lia
   cases i with
   | zero =>
    cases e1
    cases e2
    lia
   | succ i =>
    rw [List.getElem?_cons_succ] at e1 e2
    exact i2.mpr e3 i lo hi e1 e2
theorem asc_nums {ax:Ax} {cs:List C3} (ha:Asc cs) (hn:cs.Nodup) (k:List Int):(numsAt ax cs k).Pairwise (· < ·):=by
 refine asc_lt ?_ (nums_nodup hn)
 unfold numsAt
 rw [List.pairwise_map]
 refine List.Pairwise.imp_of_mem ?_ (ha.filter _)
 intro a b h1 h2 h
 rw [List.mem_filter,decide_eq_true_eq] at h1 h2
 have e:=h1.2.trans h2.2.symm
 unfold cle at h
 have h:HT.lexLt b.l a.l=false:=by simpa using h
 obtain ⟨x,y,z⟩:=a
 obtain ⟨x',y',z'⟩:=b
 have go:¬ (ax.at ⟨x',y',z'⟩ < ax.at ⟨x,y,z⟩):=fun g=>by
  cases ax <;> simp only [lnI,List.cons.injEq,and_true] at e <;> obtain ⟨rfl,rfl⟩:=e <;> simp only [Ax.at] at g <;> simp [C3.l,HT.lexLt] at h <;> omega
 exact Int.not_lt.mp go
noncomputable def insC (ax:Ax) (p q n:Int):C3:=match ax with
 | .x=>⟨n,p,q⟩
 | .y=>⟨p,n,q⟩
 | .z=>⟨p,q,n⟩
noncomputable def BodyS (K:PySem.W.Frag) (H:Hp) (a:Addr) (cs:List C3):Prop:=∃ ys,H a=some (.lst ys)/\Cs H ys cs/\Asc cs/\cs.Nodup/\cs.length≤1000/\∀ c∈cs,c.within 60
noncomputable def spLinesK (K:PySem.W.Frag):Sp:=fun vs H Q _=>∃ (a:Addr) (ax:Ax) (ys:List V) (cs:List C3),vs=[.ref a,.str ax.s]/\SqL K H a ys/\Cs H ys cs/\cs.length≤100000/\∀ d ks H',Same H H'->H d=none->LinesK H' d ax cs ks->Q (.ref d) H'
noncomputable def spLLinesK (K:PySem.W.Frag):Sp:=fun vs H Q _=>∃ (a:Addr) (ax:Ax) (ys:List V) (cs:List C3),vs=[.ref a,.int ax.n]/\SqL K H a ys/\Cs H ys cs/\cs.length≤100000/\∀ d ks H',Same H H'->H d=none->LinesK H' d ax cs ks->Q (.ref d) H'
theorem nums_in {ax:Ax} {cs:List C3} {k:List Int} (hw:∀ c∈cs,c.within 60) {n:Int} (h:n∈numsAt ax cs k):-60≤n/\n≤60:=by
 obtain ⟨c,hc,_,rfl⟩:=mem_nums.mp h
 exact within_at ax (hw c hc)
theorem nums_len {ax:Ax} {cs:List C3} {k:List Int}:(numsAt ax cs k).length≤cs.length:=by
 unfold numsAt
 rw [List.length_map]
 exact List.length_filter_le _ _
theorem head_last {ns:List Int} (h:ns≠[]):ns.head?=some (ns.headD 0)/\ns.getLast?=some (ns.getLastD 0):=by
 cases ns with
 | nil=>exact absurd rfl h
 | cons a r=>exact ⟨rfl,by rw [List.getLast?_eq_some_getLast (by simp)];simp [List.getLastD_eq_getLast?,List.getLast?_eq_some_getLast]⟩
theorem nodup_lenG {α:Type} [DecidableEq α]:∀ {l m:List α},l.Nodup->(∀ x∈l,x∈m)->l.length≤m.length
 | [],_,_,_=>Nat.zero_le _
 | a :: l,m,h,hs=>by
  obtain ⟨h1,h2⟩:=List.nodup_cons.mp h
  have ha:=hs a List.mem_cons_self
  have:=nodup_lenG (m:=m.erase a) h2 fun x hx=>(List.mem_erase_of_ne (fun z:x=a=>h1 (z▸hx))).mpr (hs x (List.mem_cons_of_mem _ hx))
  rw [List.length_erase_of_mem ha] at this
  have:=List.length_pos_of_mem ha
  rw [List.length_cons]
  lia
open PySem PySem.W L2 Srt
noncomputable def spOnLine (K:PySem.W.Frag):Sp:=fun vs H Q _=>∃ (a:Addr) (ax:Ax) (p q n:Int),vs=[.ref a,.str ax.s,.int n]/\H a=some (.tup [.int p,.int q])/\∀ t H',Same H H'->H' t=some (.tup (insC ax p q n).v)->Q (.ref t) H'
theorem ins_at (ax:Ax) (p q n:Int):(([.int p,.int q]:List V).take ax.n.toNat ++ .int n :: ([.int p,.int q]:List V).drop ax.n.toNat)=(insC ax p q n).v:=by cases ax <;> rfl
theorem cut_from1 (n0:Int) (r:List Int):cutV ((n0 :: r).map V.int) (some 1) none=((n0 :: r).drop 1).map V.int:=by
 unfold cutV
 rw [show (1:Int)=((1:Nat):Int) from rfl,HT.sIx_nat,HT.sIx_none,List.length_map,Nat.min_eq_left (by simp),←List.map_drop,List.take_of_length_le (by simp)]
theorem mm_due {ns:List Int} {M N:Int} (hp:ns.Pairwise (· < ·)) (h1:M∈ns) (h2:∀ a,a∈ns->M≤a) (h3:N∈ns) (h4:∀ a,a∈ns->a≤N):M=ns.headD 0/\N=ns.getLastD 0/\(N - M+1=(ns.length:Int)↔∀ i,Stp ns i):=by
 have hne:ns≠[]:=fun z=>by subst z;cases h1
 obtain ⟨e1,e2⟩:=head_last hne
 have f1:=head_le hp e1 h1
 have f2:=h2 _ (List.mem_of_head? e1)
 have f3:=last_le hp e2 h3
 have f4:=h4 _ (List.mem_of_getLast? e2)
 have g1:M=ns.headD 0:=by lia
 have g2:N=ns.getLastD 0:=by lia
 refine ⟨g1,g2,?_⟩
 cases ns with
 | nil=>cases h1
 | cons a r =>
  have:=(stp_len a r hp).2
  rw [this,g1,g2]
  show _ - a+1=_↔_
  exact eq_comm
end Pc
namespace HT
open PySem PySem.Spec PyProof.Rows
section
variable {prog:Program} {w:World} {A:Around} {E:Value->Shared->Prop} {s:Shared}
theorem getItem_tuple_whole {t sl:Addr} {items:Array Value} {vl vu:Value} {lo hi:Option Int} {Q:Value->Shared->Prop} (ht:IsTup s.heap t items) (hs:s.heap.IsSliceOf sl vl vu .none) (pl:IsPart vl lo) (pu:IsPart vu hi)
  (hw:sIx items.size 0 lo=0/\sIx items.size items.size hi=items.size) (h:Q (.ref t) s):wpAny (model prog w) A (getItem (.ref t) (.ref sl)) Q E s:=by
 obtain ⟨os,hos,hcs,hds⟩:=id hs
 have hTs:s.TypeIs (.ref sl) "slice":=⟨os,hos,hcs⟩
 unfold getItem
 try with_reducible refine wpAny_holding ?_
 first | refine wpAny_bind (wpAny_pure ?_) | skip
 refine wpAny_bind (wpAny_sequenceKey ht.typeIs (by decide) ?_)
 refine wpAny_bind (wpAny_callSpecial?_slot (name:=Str.ofString "__getitem__") ht.typeIs PyProof.Rows.slot_tuple_getitem
  (wpAny_call_entry PyProof.Rows.slot_tuple_getitem ht.typeIs entry_tuple_getitem ?_ (args_tuple_getitem _ _)))
 show wpAny _ _ (Builtin.Tuple.tupleItemsOf (.ref t) >>= _) _ _ s
 refine wpAny_bind (tupleItemsOf_ ht ?_)
 refine wpAny_bind (wpAny_typeOf hTs ?_)
 rw [if_pos (by decide)]
 refine wpAny_bind (sliceApplied_gen hs pl pu ?_)
 have hyes:(((sIx items.size 0 lo:Nat):Int)==0&&(1:Int)==1&&(sIx items.size items.size hi - sIx items.size 0 lo)==items.size)=true:=by
  rw [hw.1,hw.2]
  simp
 show wpAny _ _ (if (((sIx items.size 0 lo:Nat):Int)==0&&(1:Int)==1&&(sIx items.size items.size hi - sIx items.size 0 lo)==items.size)=true then _ else _) _ _ s
 rw [if_pos hyes]
 unfold Builtin.Tuple.tupleIsExact
 refine wpAny_bind (wpAny_bind (wpAny_typeOf ht.typeIs (wpAny_pure ?_)))
 rw [if_pos (by decide)]
 wp_walk
 exact ⟨_,rfl,wpAny_pure h⟩
end
end HT
namespace L2
open PySem PySem.Spec PyProof.Rows
section
variable {X:Cx} {e:Expr} {te:TE} {tl th:TO} {pos p2:Pos}
noncomputable def rSlG (K:PySem.W.Frag):V->Option Int->Option Int->Hp->VK->Prop:=fun x lo hi H Q=>∃ a xs,x=.ref a/\H a=some (.tup xs)/\∀ p H',Same H H'->H' p=some (.tup (cutV xs lo hi))->Q (.ref p) H'
theorem sl_tupG:SlR X (rSlG X.K):=by
 intro pins s σ H x v vl vu lo hi sl Q I rx hs pl pu h
 obtain ⟨a,xs,rfl,hx,q⟩:=h
 by_cases hw:HT.sIx xs.length 0 lo=0/\HT.sIx xs.length xs.length hi=xs.length
 ·cases rx
  obtain ⟨its,r,ht,hz⟩:=I.tuple (SqT.of (K:=X.K) hx)
  have hlen:its.toArray.size=xs.length:=by rw [List.size_toArray];exact r.length.symm
  refine ⟨"tuple",_,PyProof.Rows.slot_tuple_getitem.lookup,ht.typeIs,?_⟩
  refine HT.getItem_tuple_whole ht hs pl pu (by rw [hlen];exact hw) ⟨.ref a,H,I,rfl,q a H (Same.refl _) ?_⟩
  rw [hx]
  unfold cutV
  rw [hw.1,hw.2,List.drop_zero,Nat.sub_zero,List.take_length]
 ·exact sl_tup pins s σ H (.ref a) v vl vu lo hi sl Q I rx hs pl pu ⟨a,xs,rfl,SqT.of hx,hw,fun p hp=>q p _ (same_new hp) upd_same⟩
theorem qe_slG {K:PySem.W.Frag} {lo hi:Option Expr} (hK:X.K=K) (he:QE X e te) (hl:QO X lo tl) (hu:QO X hi th):QE X (.Subscript e (.Slice lo hi none p2) pos) (tSl (rSlG K) te tl th):=⟨hK▸pe_slice sl_tupG he.r hl.r hu.r⟩
theorem rd_slG {K:PySem.W.Frag} {H:Hp} {Q:VK} {p:Addr} {xs:List V} {lo hi:Option Int} (h:H p=some (.tup xs)) (q:∀ p H',Same H H'->H' p=some (.tup (cutV xs lo hi))->Q (.ref p) H'):rSlG K (.ref p) lo hi H Q:=⟨p,xs,rfl,h,q⟩
end
end L2
namespace StT
open PySem PySem.SetTable
noncomputable def it:Nat->Nat->Nat
 | 0,x=>x
 | n+1,x=>it n (5 * x+1)
theorem it_add:∀ (m n x:Nat),it (m+n) x=it n (it m x)
 | 0,n,x=>by rw [Nat.zero_add];rfl
 | m+1,n,x=>by rw [Nat.succ_add];show it (m+n) (5 * x+1)=it n (it m (5 * x+1));exact it_add m n _
theorem it_form:∀ k:Nat,∃ a b:Nat,∀ x,it (2 ^ k) x=(1+2 ^ (k+2) * a) * x+2 ^ k * (1+2 * b)
 | 0=>⟨1,0,fun x=>by show 5 * x+1=_;simp⟩
 | k+1=>by
  obtain ⟨a,b,h⟩:=it_form k
  refine ⟨a+2 ^ (k+1) * a * a,b+2 ^ k * a * (1+2 * b),fun x=>?_⟩
  rw [show 2 ^ (k+1)=2 ^ k+2 ^ k by rw [Nat.pow_succ];lia,it_add,h,h]
  have e2:2 ^ (k+2)=4 * 2 ^ k:=by rw [Nat.pow_add];lia
  have e3:2 ^ (k+1+2)=8 * 2 ^ k:=by rw [show k+1+2=k+3 from rfl,Nat.pow_add];lia
  rw [e2,e3]
  generalize 2 ^ k=P
  grind
theorem it_half (k x:Nat):it (2 ^ k) x % 2 ^ (k+1)=(x+2 ^ k) % 2 ^ (k+1):=by
 obtain ⟨a,b,h⟩:=it_form k
 rw [h]
 have e:(1+2 ^ (k+2) * a) * x+2 ^ k * (1+2 * b)=(x+2 ^ k)+2 ^ (k+1) * (2 * a * x+b):=by
  rw [show 2 ^ (k+2)=4 * 2 ^ k by rw [Nat.pow_add];lia,show 2 ^ (k+1)=2 * 2 ^ k by rw [Nat.pow_succ];lia]
  generalize 2 ^ k=P
  grind
 rw [e,Nat.add_mul_mod_self_left]
theorem it_all:∀ (k x y:Nat),∃ n,n < 2 ^ k/\it n x % 2 ^ k=y % 2 ^ k
 | 0,x,y=>⟨0,by decide,by rw [Nat.pow_zero,Nat.mod_one,Nat.mod_one]⟩
 | k+1,x,y=>by
  obtain ⟨n,hn,e⟩:=it_all k x y
  have hp:0 < 2 ^ k:=Nat.pow_pos (by decide)
  have e1:2 ^ (k+1)=2 * 2 ^ k:=by rw [Nat.pow_succ];lia
  have a1:it n x % (2 * 2 ^ k)=it n x % 2 ^ k\/it n x % (2 * 2 ^ k)=it n x % 2 ^ k+2 ^ k:=by
   rw [Nat.mul_comm,Nat.mod_mul]
   rcases Nat.mod_two_eq_zero_or_one (it n x / 2 ^ k) with z | z <;> rw [z] <;> lia
  have a2:y % (2 * 2 ^ k)=y % 2 ^ k\/y % (2 * 2 ^ k)=y % 2 ^ k+2 ^ k:=by
   rw [Nat.mul_comm,Nat.mod_mul]
   rcases Nat.mod_two_eq_zero_or_one (y / 2 ^ k) with z | z <;> rw [z] <;> lia
  by_cases g:it n x % 2 ^ (k+1)=y % 2 ^ (k+1)
  ·exact ⟨n,by lia,g⟩
  ·refine ⟨n+2 ^ k,by omega,?_⟩
   rw [it_add,it_half,Nat.add_mod]
   rw [e1] at g ⊢
   have hlt:=Nat.mod_lt (it n x) hp
   have hm:2 ^ k % (2 * 2 ^ k)=2 ^ k:=Nat.mod_eq_of_lt (by lia)
   rw [hm]
   rcases a1 with z | z <;> rcases a2 with z' | z' <;> rw [z,z'] at g <;> rw [z,z']
   ·lia
   ·rw [Nat.mod_eq_of_lt (by lia)];lia
   ·rw [show it n x % 2 ^ k+2 ^ k+2 ^ k=it n x % 2 ^ k+2 * 2 ^ k by lia,Nat.add_mod_right,Nat.mod_eq_of_lt (by lia)]
    exact e
   ·lia
noncomputable def run (mask:Nat) (h:Int):Nat->Nat×Nat
 | 0=>(bits h % (mask+1),bits h)
 | q+1=>leap mask (run mask h q).1 (run mask h q).2
theorem run_le (mask:Nat) (h:Int):∀ q,(run mask h q).1≤mask
 | 0=>Nat.le_of_lt_succ (Nat.mod_lt _ (Nat.succ_pos _))
 | q+1=>Nat.le_of_lt_succ (Nat.mod_lt _ (Nat.succ_pos _))
theorem bits_lt (h:Int):bits h < 2 ^ 64:=by
 unfold bits
 have:=Int.emod_lt_of_pos h (show (0:Int) < 2 ^ 64 by decide)
 have:=Int.emod_nonneg h (show (2 ^ 64:Int)≠0 by decide)
 lia
theorem run_perturb (mask:Nat) (h:Int):∀ q,(run mask h q).2=bits h / 32 ^ q
 | 0=>by simp [run]
 | q+1=>by
  show (run mask h q).2 / 32=_
  rw [run_perturb mask h q,Nat.div_div_eq_div_mul,Nat.pow_succ]
theorem run_calm {mask:Nat} {h:Int} {q:Nat} (hq:13≤q):(run mask h q).2=0:=by
 rw [run_perturb]
 refine Nat.div_eq_of_lt (Nat.lt_of_lt_of_le (bits_lt h) ?_)
 refine Nat.le_trans ?_ (Nat.pow_le_pow_right (by decide) hq)
 decide
theorem run_it {mask:Nat} {h:Int}:∀ n,(run mask h (13+n)).1=it n (run mask h 13).1 % (mask+1)
 | 0=>(Nat.mod_eq_of_lt (Nat.lt_succ_of_le (run_le mask h 13))).symm
 | n+1=>by
  show ((run mask h (13+n)).1 * 5+1+(run mask h (13+n)).2 / 32) % (mask+1)=_
  rw [run_calm (by lia),run_it n]
  rw [show it (n+1) (run mask h 13).1=it 1 (it n (run mask h 13).1) from it_add n 1 _]
  show _=(5 * it n (run mask h 13).1+1) % (mask+1)
  rw [Nat.zero_div,Nat.add_zero,Nat.add_mod,Nat.mul_mod,Nat.mod_mod,←Nat.mul_mod,←Nat.add_mod,Nat.mul_comm]
theorem hit {mask k:Nat} (hm:mask+1=2 ^ k) (h:Int) {e:Nat} (he:e≤mask):∃ q,q≤13+mask/\(run mask h q).1=e:=by
 obtain ⟨n,hn,en⟩:=it_all k (run mask h 13).1 e
 refine ⟨13+n,by lia,?_⟩
 rw [run_it,hm,en,←hm,Nat.mod_eq_of_lt (by lia)]
noncomputable def rlen (mask i:Nat):Nat:=runEnd mask i - i
theorem rlen_le (mask i:Nat):rlen mask i≤9:=by unfold rlen runEnd;split <;> lia
theorem rlen_in {mask i k:Nat} (hi:i≤mask) (hk:k≤rlen mask i):i+k≤mask:=by unfold rlen runEnd at hk;split at hk <;> lia
noncomputable def Bfr (mask:Nat) (h:Int) (O:Nat->Prop) (q k:Nat):Prop:=(∀ q' < q,∀ k'≤rlen mask (run mask h q').1,O ((run mask h q').1+k'))/\∀ k' < k,O ((run mask h q).1+k')
noncomputable def Rch (mask:Nat) (h:Int) (O:Nat->Prop) (j:Nat):Prop:=∃ q k,k≤rlen mask (run mask h q).1/\(run mask h q).1+k=j/\Bfr mask h O q k
theorem Bfr.mono {mask:Nat} {h:Int} {O O':Nat->Prop} {q k:Nat} (hO:∀ j,O j->O' j) (b:Bfr mask h O q k):Bfr mask h O' q k:=⟨fun q' h1 k' h2=>hO _ (b.1 q' h1 k' h2),fun k' h1=>hO _ (b.2 k' h1)⟩
theorem Rch.mono {mask:Nat} {h:Int} {O O':Nat->Prop} {j:Nat} (hO:∀ j,O j->O' j) (r:Rch mask h O j):Rch mask h O' j:=let ⟨q,k,a,b,c⟩:=r;⟨q,k,a,b,c.mono hO⟩
theorem least {P:Nat->Prop}:∀ {n:Nat},P n->∃ m,m≤n/\P m/\∀ j < m,¬ P j:=fun {n}=>by
 induction n using Nat.strongRecOn with
 | ind n ih =>
  intro h
  by_cases g:∃ j,j < n/\P j
  ·obtain ⟨j,hj,pj⟩:=g
   obtain ⟨m,h1,h2⟩:=ih j hj pj
   exact ⟨m,by lia,h2⟩
  ·exact ⟨n,Nat.le_refl _,h,fun j hj pj=>g ⟨j,hj,pj⟩⟩
theorem first_free {mask k:Nat} (hm:mask+1=2 ^ k) (h:Int) {O:Nat->Prop} {e:Nat} (he:e≤mask) (hO:¬ O e):∃ q c,q≤13+mask/\c≤rlen mask (run mask h q).1/\¬ O ((run mask h q).1+c)/\Bfr mask h O q c:=by
 obtain ⟨q0,h1,h2⟩:=hit hm h he
 obtain ⟨q,g1,⟨c0,g2,g3⟩,g4⟩:=least (P:=fun q=>∃ c,c≤rlen mask (run mask h q).1/\¬ O ((run mask h q).1+c)) (n:=q0) ⟨0,Nat.zero_le _,by rw [h2];exact hO⟩
 obtain ⟨c,f1,f2,f3⟩:=least (P:=fun c=>c≤rlen mask (run mask h q).1/\¬ O ((run mask h q).1+c)) (n:=c0) ⟨g2,g3⟩
 refine ⟨q,c,by lia,f2.1,f2.2,fun q' hq' k' hk'=>?_,fun k' hk'=>?_⟩
 ·exact Classical.byContradiction fun z=>g4 q' hq' ⟨k',hk',z⟩
 ·exact Classical.byContradiction fun z=>f3 k' hk' ⟨by lia,z⟩
theorem ahead {mask:Nat} {h:Int} {O:Nat->Prop} {q c q' c':Nat} (hc:c≤rlen mask (run mask h q).1) (hf:¬ O ((run mask h q).1+c)) (b':Bfr mask h O q' c') (ho:O ((run mask h q').1+c')):q' < q\/(q'=q/\c' < c):=by
 rcases Nat.lt_trichotomy q' q with z | z | z
 ·exact .inl z
 ·subst z
  rcases Nat.lt_trichotomy c' c with y | y | y
  ·exact .inr ⟨rfl,y⟩
  ·subst y;exact absurd ho hf
  ·exact absurd (b'.2 c y) hf
 ·exact absurd (b'.1 q z c hc) hf
theorem nodup_le {α:Type} [DecidableEq α]:∀ {l m:List α},l.Nodup->(∀ x∈l,x∈m)->l.length≤m.length
 | [],_,_,_=>Nat.zero_le _
 | a :: l,m,h,hs=>by
  obtain ⟨h1,h2⟩:=List.nodup_cons.mp h
  have ha:=hs a List.mem_cons_self
  have:=nodup_le (m:=m.erase a) h2 fun x hx=>(List.mem_erase_of_ne (fun z:x=a=>h1 (z▸hx))).mpr (hs x (List.mem_cons_of_mem _ hx))
  rw [List.length_erase_of_mem ha] at this
  have:=List.length_pos_of_mem ha
  rw [List.length_cons]
  lia
theorem rise_get {xs:Array Nat} (hr:xs.toList.Pairwise (· < ·)) {a b:Nat} (h:a < b) {u v:Nat} (ha:xs[a]?=some u) (hb:xs[b]?=some v):u < v:=by
 rw [←Array.getElem?_toList] at ha hb
 obtain ⟨l1,e1⟩:=List.getElem?_eq_some_iff.mp ha
 obtain ⟨l2,e2⟩:=List.getElem?_eq_some_iff.mp hb
 have:=(List.pairwise_iff_getElem.mp hr) a b l1 l2 h
 lia
theorem below_go {xs:Array Nat} (hr:xs.toList.Pairwise (· < ·)) (j:Nat):∀ (fuel lo hi:Nat),lo≤hi->hi≤xs.size->hi - lo≤fuel->(∀ i v,i < lo->xs[i]?=some v->v < j)->(∀ i v,hi≤i->xs[i]?=some v->j≤v) ->
  (∀ i v,i < below.go xs j fuel lo hi->xs[i]?=some v->v < j)/\(∀ i v,below.go xs j fuel lo hi≤i->xs[i]?=some v->j≤v)/\below.go xs j fuel lo hi≤xs.size
 | 0,lo,hi,h1,h2,h3,a,b=>by
  have e:below.go xs j 0 lo hi=lo:=rfl
  rw [e]
  exact ⟨a,fun i v h=>b i v (by lia),by lia⟩
 | fuel+1,lo,hi,h1,h2,h3,a,b=>by
  rw [below.go]
  by_cases g:lo < hi
  ·rw [if_pos g]
   have hm:(lo+hi) / 2 < xs.size:=by lia
   have em:xs[(lo+hi) / 2]?=some (xs[(lo+hi) / 2]):=Array.getElem?_eq_getElem hm
   have eg:xs.getD ((lo+hi) / 2) j=xs[(lo+hi) / 2]:=by rw [Array.getD_eq_getD_getElem?,em];rfl
   dsimp only
   rw [eg]
   by_cases g2:xs[(lo+hi) / 2] < j
   ·rw [if_pos g2]
    refine below_go hr j fuel _ hi (by lia) h2 (by lia) (fun i v hi' hv=>?_) b
    rcases Nat.lt_or_ge i ((lo+hi) / 2) with z | z
    ·have:=rise_get hr z hv em;lia
    ·obtain rfl:i=(lo+hi) / 2:=by lia
     rw [em] at hv
     cases hv
     exact g2
   ·rw [if_neg g2]
    refine below_go hr j fuel lo _ (by lia) (by lia) (by lia) a (fun i v hi' hv=>?_)
    rcases Nat.lt_or_ge ((lo+hi) / 2) i with z | z
    ·have:=rise_get hr z em hv;lia
    ·obtain rfl:i=(lo+hi) / 2:=by lia
     rw [em] at hv
     cases hv
     lia
  ·rw [if_neg g]
   exact ⟨a,fun i v h=>b i v (by lia),by lia⟩
theorem below_spec {xs:Array Nat} (hr:xs.toList.Pairwise (· < ·)) (j:Nat):(∀ i v,i < below xs j->xs[i]?=some v->v < j)/\(∀ i v,below xs j≤i->xs[i]?=some v->j≤v)/\below xs j≤xs.size :=
 below_go hr j xs.size 0 xs.size (Nat.zero_le _) (Nat.le_refl _) (by lia) (fun i v h=>absurd h (Nat.not_lt_zero _)) (fun i v h e=>by rw [Array.getElem?_eq_none h] at e;cases e)
theorem below_at {xs:Array Nat} (hr:xs.toList.Pairwise (· < ·)) {i j:Nat} (h:xs[i]?=some j):below xs j=i:=by
 obtain ⟨a,b,c⟩:=below_spec hr j
 rcases Nat.lt_trichotomy (below xs j) i with z | z | z
 ·have hlt:below xs j < xs.size:=by have:=(Array.getElem?_eq_some_iff.mp h).1;lia
  have e:=Array.getElem?_eq_getElem hlt
  have:=b _ _ (Nat.le_refl _) e
  have:=rise_get hr z e h
  lia
 ·exact z
 ·have:=a i j z h;lia
theorem has_iff {xs:Array Nat} (hr:xs.toList.Pairwise (· < ·)) (j:Nat):has xs j=true↔j∈xs.toList:=by
 unfold has
 constructor
 ·intro h
  have z:xs[below xs j]?=some j:=by simpa using h
  rw [←Array.getElem?_toList] at z
  exact List.mem_of_getElem? z
 ·intro g
  obtain ⟨i,hi⟩:=List.getElem?_of_mem g
  rw [Array.getElem?_toList] at hi
  rw [below_at hr hi,hi]
  simp
noncomputable def Occ (t:SetTable) (j:Nat):Prop:=j∈t.place.toList\/j∈t.dummies.toList
theorem slot_cases {t:SetTable} (hr:t.place.toList.Pairwise (· < ·)) (hd:t.dummies.toList.Pairwise (· < ·)) (j:Nat):(∃ i,t.slot j=.live i/\t.place[i]?=some j)\/(t.slot j=.dummy/\j∉t.place.toList/\j∈t.dummies.toList)\/(t.slot j=.empty/\¬ Occ t j):=by
 by_cases g:j∈t.place.toList
 ·obtain ⟨i,hi⟩:=List.getElem?_of_mem g
  rw [Array.getElem?_toList] at hi
  refine .inl ⟨i,?_,hi⟩
  unfold slot
  dsimp only
  rw [below_at hr hi,hi]
  simp
 ·refine .inr ?_
  have e1:(t.place[below t.place j]?==some j)=false:=by
   rw [beq_eq_false_iff_ne]
   intro z
   exact g (by rw [←Array.getElem?_toList] at z;exact List.mem_of_getElem? z)
  by_cases g2:j∈t.dummies.toList
  ·refine .inl ⟨?_,g,g2⟩
   unfold slot
   dsimp only
   rw [e1,(has_iff hd j).mpr g2]
   rfl
  ·refine .inr ⟨?_,fun z=>z.elim g g2⟩
   have e2:has t.dummies j=false:=by
    cases z:has t.dummies j with
    | false=>rfl
    | true=>exact absurd ((has_iff hd j).mp z) g2
   unfold slot
   dsimp only
   rw [e1,e2]
   rfl
structure TOk (t:SetTable) (hs:List Int):Prop where
 len:t.place.toList.length=hs.length
 rise:t.place.toList.Pairwise (· < ·)
 le:∀ j∈t.place.toList,j≤t.mask
 dum:t.dummies=#[]
 msk:∃ k,3≤k/\k≤13/\t.mask+1=2 ^ k
 fit:hs.length≤t.mask
 rch:∀ x∈t.place.toList.zip hs,Rch t.mask x.2 (·∈t.place.toList) x.1
structure DOk (t:SetTable) (hs:List Int):Prop where
 len:t.place.toList.length=hs.length
 rise:t.place.toList.Pairwise (· < ·)
 le:∀ j∈t.place.toList,j≤t.mask
 drise:t.dummies.toList.Pairwise (· < ·)
 dis:∀ j∈t.place.toList,j∉t.dummies.toList
 msk:∃ k,3≤k/\k≤13/\t.mask+1=2 ^ k
 fit:hs.length+t.dummies.toList.length≤t.mask
 rch:∀ x∈t.place.toList.zip hs,Rch t.mask x.2 (Occ t) x.1
theorem TOk.toD {t:SetTable} {hs:List Int} (h:TOk t hs):DOk t hs:=by
 refine ⟨h.len,h.rise,h.le,?_,?_,h.msk,?_,fun x hx=>(h.rch x hx).mono fun j=>.inl⟩
 ·rw [h.dum];exact .nil
 ·rw [h.dum];exact fun _ _ z=>nomatch z
 ·rw [h.dum];exact h.fit
theorem DOk.fits {t:SetTable} {hs:List Int} (h:DOk t hs) {n:Nat} (hn:n=hs.length):t.fits n=true:=by
 unfold SetTable.fits SetTable.fill
 have h1:=h.fit
 have h2:=h.len
 have e1:t.dummies.toList.length=t.dummies.size:=rfl
 have e2:t.place.toList.length=t.place.size:=rfl
 simp only [Bool.and_eq_true,beq_iff_eq,decide_eq_true_eq]
 lia
theorem TOk.fits {t:SetTable} {hs:List Int} (h:TOk t hs) {n:Nat} (hn:n=hs.length):t.fits n=true:=h.toD.fits hn
theorem DOk.free {t:SetTable} {hs:List Int} (h:DOk t hs):∃ e,e≤t.mask/\¬ Occ t e:=by
 refine Classical.byContradiction fun g=>?_
 have:=nodup_le (l:=List.range (t.mask+1)) (m:=t.place.toList ++ t.dummies.toList) List.nodup_range fun x hx=>Classical.byContradiction fun z=>g ⟨x,by have:=List.mem_range.mp hx;lia,fun y=>z (List.mem_append.mpr y)⟩
 rw [List.length_range,List.length_append,h.len] at this
 have:=h.fit
 lia
theorem DOk.odd {t:SetTable} {hs:List Int} (h:DOk t hs):t.gaveWay=false:=by
 obtain ⟨k,h1,_,h2⟩:=h.msk
 unfold SetTable.gaveWay
 rw [beq_eq_false_iff_ne]
 obtain ⟨m,rfl⟩:∃ m,k=m+1:=⟨k - 1,by lia⟩
 rw [Nat.pow_succ] at h2
 lia
theorem DOk.turns {t:SetTable} {hs:List Int} (h:DOk t hs):t.mask≤8191:=by
 obtain ⟨k,h1,h3,h2⟩:=h.msk
 have:2 ^ k≤2 ^ 13:=Nat.pow_le_pow_right (by decide) h3
 lia
theorem TOk.turns {t:SetTable} {hs:List Int} (h:TOk t hs):t.mask≤8191:=h.toD.turns
noncomputable def pst (mask:Nat) (h:Int) (q k:Nat) (d:Option Nat):Probe:={ j:=(run mask h q).1+k,more:=rlen mask (run mask h q).1 - k,i:=(run mask h q).1,perturb:=(run mask h q).2,dummy:=d }
theorem pst_start (t:SetTable) (h:Int):t.probeStart h=pst t.mask h 0 0 none:=rfl
theorem pst_in {t:SetTable} {h:Int} {q k:Nat} {d:Option Nat} (hk:k < rlen t.mask (run t.mask h q).1):t.advance (pst t.mask h q k d)=pst t.mask h q (k+1) d:=by
 unfold SetTable.advance
 rw [if_pos (show (pst t.mask h q k d).more > 0 by show rlen t.mask (run t.mask h q).1 - k > 0;lia)]
 show ({ j:=_+k+1,more:=rlen t.mask (run t.mask h q).1 - k - 1,.. }:Probe)=_
 unfold pst
 congr 1
theorem pst_out {t:SetTable} {h:Int} {q k:Nat} {d:Option Nat} (hk:rlen t.mask (run t.mask h q).1≤k):t.advance (pst t.mask h q k d)=pst t.mask h (q+1) 0 d:=by
 unfold SetTable.advance
 rw [if_neg (show ¬ (pst t.mask h q k d).more > 0 by show ¬ rlen t.mask (run t.mask h q).1 - k > 0;lia)]
 rfl
theorem Bfr.next {mask:Nat} {h:Int} {G:Nat->Prop} {q k:Nat} (b:Bfr mask h G q k) (g:G ((run mask h q).1+k)):(k < rlen mask (run mask h q).1->Bfr mask h G q (k+1))/\(rlen mask (run mask h q).1≤k->Bfr mask h G (q+1) 0):=by
 refine ⟨fun _=>⟨b.1,fun k' hk'=>?_⟩,fun hk=>⟨fun q' hq' k' hk'=>?_,fun k' hk'=>absurd hk' (Nat.not_lt_zero _)⟩⟩
 ·rcases Nat.lt_or_ge k' k with z | z
  ·exact b.2 k' z
  ·obtain rfl:k'=k:=by lia
   exact g
 ·rcases Nat.lt_or_ge q' q with z | z
  ·exact b.1 q' z k' hk'
  ·obtain rfl:q'=q:=by lia
   rcases Nat.lt_or_ge k' k with z | z
   ·exact b.2 k' z
   ·obtain rfl:k'=k:=by lia
    exact g
noncomputable def Ends (t:SetTable) (hashAt:Nat->Int) (h:Int) (G:Nat->Prop) (qe ke q k:Nat) (d:Option Nat) (r:Option Met):Prop :=
 (∃ d',(t.dummies=#[]->d'=d)/\r=some (.empty ((run t.mask h qe).1+ke) d')/\Bfr t.mask h G qe ke) \/
 ∃ q1 k1 i d',(t.dummies=#[]->d'=d)/\k1≤rlen t.mask (run t.mask h q1).1/\(q < q1\/(q=q1/\k≤k1))/\(q1 < qe\/(q1=qe/\k1 < ke))/\r=some (.candidate ((run t.mask h q1).1+k1) i (t.advance (pst t.mask h q1 k1 d'))) /\
  t.slot ((run t.mask h q1).1+k1)=.live i/\t.place[i]?=some ((run t.mask h q1).1+k1)/\hashAt i=h/\Bfr t.mask h G q1 k1
theorem probe_spec {t:SetTable} (hr:t.place.toList.Pairwise (· < ·)) (hd:t.dummies.toList.Pairwise (· < ·)) {hashAt:Nat->Int} {h:Int} {G:Nat->Prop} (hG:∀ i j,t.place[i]?=some j->hashAt i≠h->G j) (hG0:∀ j,j∉t.place.toList->G j)
  {qe ke:Nat} (hke:ke≤rlen t.mask (run t.mask h qe).1) (hf:¬ Occ t ((run t.mask h qe).1+ke)) (hb:Bfr t.mask h (Occ t) qe ke) :
  ∀ (fuel q k:Nat) (d:Option Nat),k≤rlen t.mask (run t.mask h q).1->(q < qe\/(q=qe/\k≤ke))->10 * (qe - q)+10 - k≤fuel->Bfr t.mask h G q k->Ends t hashAt h G qe ke q k d (probe.go t hashAt h fuel (pst t.mask h q k d)):=by
 intro fuel
 induction fuel with
 | zero=>intro q k d hk ho hfu _;have:=rlen_le t.mask (run t.mask h q).1;lia
 | succ fuel ih =>
  intro q k d hk ho hfu hB
  rw [probe.go]
  have ej:(pst t.mask h q k d).j=(run t.mask h q).1+k:=rfl
  rw [ej]
  have before:Occ t ((run t.mask h q).1+k)->q < qe\/(q=qe/\k < ke):=fun oc=>by
   rcases ho with z | ⟨z,z2⟩
   ·exact .inl z
   ·refine .inr ⟨z,?_⟩
    rcases Nat.lt_or_ge k ke with y | y
    ·exact y
    ·obtain rfl:k=ke:=by lia
     subst z
     exact absurd oc hf
  have step:∀ d1,(t.dummies=#[]->d1=d)->Occ t ((run t.mask h q).1+k)->G ((run t.mask h q).1+k)->Ends t hashAt h G qe ke q k d (probe.go t hashAt h fuel (t.advance (pst t.mask h q k d1))):=fun d1 hd1 oc g=>by
   have nb:=hB.next g
   have hlt:=before oc
   have r9:=rlen_le t.mask (run t.mask h q).1
   rcases Nat.lt_or_ge k (rlen t.mask (run t.mask h q).1) with z | z
   ·rw [pst_in z]
    rcases ih q (k+1) d1 z (by lia) (by lia) (nb.1 z) with ⟨d',e,r⟩ | ⟨q1,k1,i1,d',e,r1,r2,r⟩
    ·exact .inl ⟨d',fun z=>(e z).trans (hd1 z),r⟩
    ·exact .inr ⟨q1,k1,i1,d',fun z=>(e z).trans (hd1 z),r1,by lia,r⟩
   ·rw [pst_out z]
    have hq:q < qe:=by
     rcases hlt with y | ⟨y,y2⟩
     ·exact y
     ·subst y;lia
    rcases ih (q+1) 0 d1 (Nat.zero_le _) (by lia) (by lia) (nb.2 z) with ⟨d',e,r⟩ | ⟨q1,k1,i1,d',e,r1,r2,r⟩
    ·exact .inl ⟨d',fun z=>(e z).trans (hd1 z),r⟩
    ·exact .inr ⟨q1,k1,i1,d',fun z=>(e z).trans (hd1 z),r1,by lia,r⟩
  rcases slot_cases hr hd ((run t.mask h q).1+k) with ⟨i,e1,e2⟩ | ⟨e1,e2,e3⟩ | ⟨e1,e2⟩
  ·rw [e1]
   have hmem:(run t.mask h q).1+k∈t.place.toList:=by rw [←Array.getElem?_toList] at e2;exact List.mem_of_getElem? e2
   dsimp only
   by_cases g:(hashAt i==h)=true
   ·rw [if_pos g]
    exact .inr ⟨q,k,i,d,fun _=>rfl,hk,.inr ⟨rfl,Nat.le_refl _⟩,before (.inl hmem),rfl,e1,e2,beq_iff_eq.mp g,hB⟩
   ·rw [if_neg g]
    exact step d (fun _=>rfl) (.inl hmem) (hG i _ e2 fun z=>g (beq_iff_eq.mpr z))
  ·rw [e1]
   exact step (some ((run t.mask h q).1+k)) (fun z=>by rw [z] at e3;exact nomatch e3) (.inr e3) (hG0 _ e2)
  ·rw [e1]
   have heq:q=qe/\k=ke:=by
    rcases ho with z | ⟨z,z2⟩
    ·exact absurd (hb.1 q z k hk) e2
    ·subst z
     rcases Nat.lt_or_ge k ke with y | y
     ·exact absurd (hb.2 k y) e2
     ·exact ⟨rfl,by lia⟩
   obtain ⟨rfl,rfl⟩:=heq
   exact .inl ⟨d,fun _=>rfl,rfl,hB⟩
theorem insert_list {α:Type} (xs:Array α) (p:Nat) (x:α):(insertAt xs p x).toList=xs.toList.take p ++ x :: xs.toList.drop p:=by
 unfold insertAt
 simp
 exact List.take_of_length_le (by rw [List.length_drop,Array.length_toList];lia)
theorem zip_insert {α β:Type} (as:List α) (bs:List β) (p:Nat) (a:α) (b:β) (h:as.length=bs.length):(as.take p ++ a :: as.drop p).zip (bs.take p ++ b :: bs.drop p)=(as.zip bs).take p ++ (a,b) :: (as.zip bs).drop p:=by
 rw [List.zip_append (by rw [List.length_take,List.length_take,h]),List.zip_cons_cons]
 congr 1
 ·simp only [List.zip];rw [List.take_zipWith]
 ·congr 1
  simp only [List.zip];rw [List.drop_zipWith]
theorem TOk.put {t:SetTable} {hs:List Int} (T:TOk t hs) {h:Int} {j:Nat} (hj:j∉t.place.toList) (hm:j≤t.mask) (hr:Rch t.mask h (·∈t.place.toList) j) (hn:hs.length+1≤t.mask) {b:Bool} :
  TOk { (t.put j).1 with plain:=b } (hs.take (t.put j).2 ++ h :: hs.drop (t.put j).2)/\(t.put j).2≤hs.length/\(t.put j).1.mask=t.mask:=by
 obtain ⟨a1,a2,a3⟩:=below_spec T.rise j
 have hlen:=T.len
 rw [Array.length_toList] at hlen
 have ep:(t.put j).1.place.toList=t.place.toList.take (below t.place j) ++ j :: t.place.toList.drop (below t.place j):=insert_list _ _ _
 have ed:(t.put j).1.dummies=#[]:=by
  show (if has t.dummies j=true then _ else t.dummies)=_
  rw [T.dum]
  rfl
 have mem:∀ x,x∈(t.put j).1.place.toList↔x∈t.place.toList\/x=j:=fun x=>by
  rw [ep,List.mem_append,List.mem_cons]
  constructor
  ·rintro (z | z | z)
   ·exact .inl (List.mem_of_mem_take z)
   ·exact .inr z
   ·exact .inl (List.mem_of_mem_drop z)
  ·rintro (z | z)
   ·rw [←List.take_append_drop (below t.place j) t.place.toList,List.mem_append] at z
    rcases z with z | z
    ·exact .inl z
    ·exact .inr (.inr z)
   ·exact .inr (.inl z)
 refine ⟨⟨?_,?_,?_,ed,T.msk,?_,?_⟩,by show below t.place j≤_;lia,rfl⟩
 ·show (t.put j).1.place.toList.length=_
  rw [ep]
  show _=(hs.take (below t.place j) ++ h :: hs.drop (below t.place j)).length
  simp only [List.length_append,List.length_take,List.length_cons,List.length_drop,Array.length_toList]
  lia
 ·show (t.put j).1.place.toList.Pairwise _
  rw [ep,List.pairwise_append]
  have hd:=T.rise
  rw [←List.take_append_drop (below t.place j) t.place.toList,List.pairwise_append] at hd
  have lo:∀ x∈t.place.toList.take (below t.place j),x < j:=fun x hx=>by
   obtain ⟨i,hi⟩:=List.getElem?_of_mem hx
   have hlt:i < below t.place j:=by have:=(List.getElem?_eq_some_iff.mp hi).1;rw [List.length_take] at this;lia
   rw [List.getElem?_take_of_lt hlt,Array.getElem?_toList] at hi
   exact a1 i x hlt hi
  have hi:∀ x∈t.place.toList.drop (below t.place j),j < x:=fun x hx=>by
   obtain ⟨i,hi⟩:=List.getElem?_of_mem hx
   rw [List.getElem?_drop,Array.getElem?_toList] at hi
   have:=a2 _ x (Nat.le_add_right _ _) hi
   have:x≠j:=fun z=>hj (z▸List.mem_of_mem_drop hx)
   lia
  refine ⟨hd.1,List.pairwise_cons.mpr ⟨hi,hd.2.1⟩,fun x hx y hy=>?_⟩
  rcases List.mem_cons.mp hy with z | z
  ·subst z;exact lo x hx
  ·exact hd.2.2 x hx y z
 ·intro x hx
  rcases (mem x).mp hx with z | z
  ·exact T.le x z
  ·subst z;exact hm
 ·show (hs.take (below t.place j) ++ h :: hs.drop (below t.place j)).length≤t.mask
  simp only [List.length_append,List.length_take,List.length_cons,List.length_drop]
  lia
 ·show ∀ x∈(t.put j).1.place.toList.zip (hs.take (below t.place j) ++ h :: hs.drop (below t.place j)),Rch t.mask x.2 (·∈(t.put j).1.place.toList) x.1
  rw [ep,zip_insert _ _ _ _ _ T.len,←ep]
  have up:∀ j',j'∈t.place.toList->j'∈(t.put j).1.place.toList:=fun j' hj'=>(mem j').mpr (.inl hj')
  intro x hx
  rw [List.mem_append,List.mem_cons] at hx
  rcases hx with z | z | z
  ·exact (T.rch x (List.mem_of_mem_take z)).mono up
  ·subst z;exact hr.mono up
  ·exact (T.rch x (List.mem_of_mem_drop z)).mono up
noncomputable def Own (ow:Array (Option Nat)) (j:Nat):Prop:=∃ c,ow[j]?=some (some c)
structure Lay (mask:Nat) (ow:Array (Option Nat)) (dn:List Int):Prop where
 sz:ow.size=mask+1
 at':∀ j c:Nat,ow[j]?=some (some c)->∃ h,dn[c]?=some h/\Rch mask h (Own ow) j
 all:∀ c:Nat,c < dn.length->∃ j:Nat,ow[j]?=some (some c)
 inj:∀ j j' c:Nat,ow[j]?=some (some c)->ow[j']?=some (some c)->j=j'
theorem Lay.lt {mask:Nat} {ow:Array (Option Nat)} {dn:List Int} (L:Lay mask ow dn) {j c:Nat} (h:ow[j]?=some (some c)):c < dn.length:=by
 obtain ⟨h',e,_⟩:=L.at' j c h
 exact (List.getElem?_eq_some_iff.mp e).1
theorem Lay.free {mask:Nat} {ow:Array (Option Nat)} {dn:List Int} (L:Lay mask ow dn) (hn:dn.length≤mask):∃ e,e≤mask/\¬ Own ow e:=by
 refine Classical.byContradiction fun g=>?_
 have g:∀ e,e≤mask->Own ow e:=fun e he=>Classical.byContradiction fun z=>g ⟨e,he,z⟩
 have key:((List.range (mask+1)).map fun j=>(ow.getD j none).getD 0).Nodup:=by
  rw [List.Nodup,List.pairwise_map]
  refine List.Pairwise.imp_of_mem ?_ (List.nodup_range (n:=mask+1))
  intro a b ha hb hne e
  obtain ⟨c1,e1⟩:=g a (by have:=List.mem_range.mp ha;lia)
  obtain ⟨c2,e2⟩:=g b (by have:=List.mem_range.mp hb;lia)
  rw [Array.getD_eq_getD_getElem?,Array.getD_eq_getD_getElem?,e1,e2] at e
  have e:c1=c2:=e
  subst e
  exact hne (L.inj _ _ _ e1 e2)
 have:=nodup_le (m:=List.range dn.length) key fun x hx=>by
  obtain ⟨j,hj,rfl⟩:=List.mem_map.mp hx
  obtain ⟨c,e⟩:=g j (by have:=List.mem_range.mp hj;lia)
  rw [Array.getD_eq_getD_getElem?,e]
  exact List.mem_range.mpr (L.lt e)
 rw [List.length_map,List.length_range,List.length_range] at this
 lia
theorem free_spec {mask:Nat} {h:Int} {ow:Array (Option Nat)} (hs:ow.size=mask+1) {qe ke:Nat} (hke:ke≤rlen mask (run mask h qe).1) (hf:¬ Own ow ((run mask h qe).1+ke)) (hb:Bfr mask h (Own ow) qe ke) :
  ∀ (fuel q:Nat),q≤qe->qe - q < fuel->layClean.free mask ow fuel (run mask h q).1 (run mask h q).2=some ((run mask h qe).1+ke):=by
 have own:∀ {i k:Nat},i≤mask->k≤rlen mask i->((ow.getD (i+k) (some 0)).isNone=true↔¬ Own ow (i+k)):=fun {i k} hi hk=>by
  have hlt:i+k < ow.size:=by have:=rlen_in hi hk;lia
  rw [Array.getD_eq_getD_getElem?,Array.getElem?_eq_getElem hlt]
  show (ow[i+k]).isNone=true↔_
  unfold Own
  rw [Array.getElem?_eq_getElem hlt]
  cases ow[i+k] <;> simp
 have hre:∀ i,runEnd mask i+1 - i=rlen mask i+1:=fun i=>by unfold rlen runEnd;split <;> lia
 intro fuel
 induction fuel with
 | zero=>intro q _ h;lia
 | succ fuel ih =>
  intro q hq hfu
  rw [layClean.free,hre]
  rcases Nat.lt_or_ge q qe with z | z
  ·have e:(List.range (rlen mask (run mask h q).1+1)).find? (fun k=>(ow.getD ((run mask h q).1+k) (some 0)).isNone)=none:=by
    rw [List.find?_eq_none]
    intro k hk
    have hk:k≤rlen mask (run mask h q).1:=by have:=List.mem_range.mp hk;lia
    rw [own (run_le mask h q) hk]
    exact fun n=>n (hb.1 q z k hk)
   rw [e]
   exact ih (q+1) z (by lia)
  ·obtain rfl:q=qe:=by lia
   have e:(List.range (rlen mask (run mask h q).1+1)).find? (fun k=>(ow.getD ((run mask h q).1+k) (some 0)).isNone)=some ke:=by
    rw [List.find?_range_eq_some]
    refine ⟨(own (run_le mask h q) hke).mpr hf,List.mem_range.mpr (by lia),fun j hj=>?_⟩
    have:¬ ((ow.getD ((run mask h q).1+j) (some 0)).isNone=true):=by
     rw [own (run_le mask h q) (by lia)]
     exact fun n=>n (hb.2 j hj)
    cases z:(ow.getD ((run mask h q).1+j) (some 0)).isNone with
    | true=>exact absurd z this
    | false=>rfl
   rw [e]
noncomputable def stepL (mask:Nat) (acc:Option (Array (Option Nat)×Nat)) (h:Int):Option (Array (Option Nat)×Nat):=do
  let (owner,k) ←acc
  let j ←layClean.free mask owner (turns mask) (bits h % (mask+1)) (bits h)
  pure (owner.setIfInBounds j (some k),k+1)
theorem Lay.step {mask kk:Nat} (hm:mask+1=2 ^ kk) {ow:Array (Option Nat)} {dn:List Int} (L:Lay mask ow dn) (hn:dn.length≤mask) (h:Int):∃ ow',stepL mask (some (ow,dn.length)) h=some (ow',(dn ++ [h]).length)/\Lay mask ow' (dn ++ [h]):=by
 obtain ⟨e,he,hO⟩:=L.free hn
 obtain ⟨qe,ke,h1,h2,h3,h4⟩:=first_free hm h he hO
 have hf:=free_spec (h:=h) L.sz h2 h3 h4 (turns mask) 0 (Nat.zero_le _) (by unfold turns;lia)
 have hj:(run mask h qe).1+ke < ow.size:=by have:=rlen_in (run_le mask h qe) h2;have:=L.sz;lia
 generalize ej:(run mask h qe).1+ke=j at hf h3 hj
 refine ⟨ow.setIfInBounds j (some dn.length),?_,?_⟩
 ·unfold stepL
  simp only [Option.bind_eq_bind,Option.bind_some]
  have hf':layClean.free mask ow (turns mask) (bits h % (mask+1)) (bits h)=some j:=hf
  rw [hf']
  simp
 have getS:(ow.setIfInBounds j (some dn.length))[j]?=some (some dn.length):=by
  rw [Array.getElem?_setIfInBounds_self,if_pos hj]
 have getN:∀ i,i≠j->(ow.setIfInBounds j (some dn.length))[i]?=ow[i]?:=fun i hi=>Array.getElem?_setIfInBounds_ne (Ne.symm hi)
 have up:∀ i,Own ow i->Own (ow.setIfInBounds j (some dn.length)) i:=fun i ⟨c,hc⟩=>⟨c,by rw [getN i fun z=>h3 (z▸⟨c,hc⟩)];exact hc⟩
 refine ⟨by rw [Array.size_setIfInBounds];exact L.sz,fun i c hc=>?_,fun c hc=>?_,fun i i' c hc hc'=>?_⟩
 ·by_cases hi:i=j
  ·subst hi
   rw [getS] at hc
   have hc:dn.length=c:=by simpa using hc
   subst hc
   exact ⟨h,by simp,qe,ke,h2,ej,h4.mono up⟩
  ·rw [getN i hi] at hc
   obtain ⟨h',e1,e2⟩:=L.at' i c hc
   exact ⟨h',by rw [List.getElem?_append_left (L.lt hc)];exact e1,e2.mono up⟩
 ·rw [List.length_append,List.length_singleton] at hc
  rcases Nat.lt_or_ge c dn.length with z | z
  ·obtain ⟨i,hi⟩:=L.all c z
   exact ⟨i,by rw [getN i fun z=>h3 (z▸⟨c,hi⟩)];exact hi⟩
  ·obtain rfl:c=dn.length:=by lia
   exact ⟨j,getS⟩
 ·by_cases hi:i=j
  ·by_cases hi':i'=j
   ·rw [hi,hi']
   ·subst hi
    rw [getS] at hc
    rw [getN i' hi'] at hc'
    have hc:dn.length=c:=by simpa using hc
    have:=L.lt hc'
    lia
  ·by_cases hi':i'=j
   ·subst hi'
    rw [getS] at hc'
    rw [getN i hi] at hc
    have hc':dn.length=c:=by simpa using hc'
    have:=L.lt hc
    lia
   ·rw [getN i hi] at hc
    rw [getN i' hi'] at hc'
    exact L.inj _ _ _ hc hc'
theorem Lay.fold {mask kk:Nat} (hm:mask+1=2 ^ kk):∀ (hs:List Int) {ow:Array (Option Nat)} {dn:List Int},Lay mask ow dn->dn.length+hs.length≤mask->∃ ow',hs.foldl (stepL mask) (some (ow,dn.length))=some (ow',(dn ++ hs).length)/\Lay mask ow' (dn ++ hs)
 | [],ow,dn,L,_=>⟨ow,by simp,by simpa using L⟩
 | h :: hs,ow,dn,L,hn=>by
  rw [List.length_cons] at hn
  obtain ⟨ow1,e1,L1⟩:=L.step hm (by lia) h
  obtain ⟨ow2,e2,L2⟩:=Lay.fold hm hs L1 (by rw [List.length_append,List.length_singleton];lia)
  refine ⟨ow2,?_,by simpa using L2⟩
  rw [List.foldl_cons,e1,e2]
  simp
theorem layClean_ok {mask kk:Nat} (hm:mask+1=2 ^ kk) {hs:Array Int} (hn:hs.size≤mask):∃ ow,layClean mask hs=some ow/\Lay mask ow hs.toList:=by
 have L0:Lay mask (Array.replicate (mask+1) none) []:=by
  refine ⟨by simp,fun j c hc=>?_,fun c hc=>absurd hc (Nat.not_lt_zero _),fun j j' c hc=>?_⟩
  ·rw [Array.getElem?_replicate] at hc
   split at hc <;> cases hc
  ·rw [Array.getElem?_replicate] at hc
   split at hc <;> cases hc
 obtain ⟨ow,e,L⟩:=Lay.fold hm hs.toList L0 (by simpa using hn)
 refine ⟨ow,?_,by simpa using L⟩
 unfold layClean
 rw [←Array.foldl_toList]
 show Option.map (·.1) (List.foldl (stepL mask) (some (Array.replicate (mask+1) none,0)) hs.toList)=some ow
 have e:hs.toList.foldl (stepL mask) (some (Array.replicate (mask+1) none,0))=some (ow,([] ++ hs.toList).length):=e
 rw [e]
 rfl
theorem laid_ok {mask kk:Nat} (hm:mask+1=2 ^ kk) (h3:3≤kk) (h13:kk≤13) {hs:Array Int} (hn:hs.size≤mask) (finger moves:Nat) (led plain:Bool) :
  ∃ t' order,laid mask finger moves led plain hs=some (t',order)/\order.toList.Perm (List.range hs.size)/\TOk t' (order.toList.map fun c=>hs.toList.getD c 0)/\t'.mask=mask/\t'.led=led/\t'.plain=plain/\t'.finger=finger/\t'.moves=moves:=by
 obtain ⟨ow,e,L⟩:=layClean_ok hm hn
 generalize hlv:((List.range (mask+1)).filterMap fun j=>(ow.getD j none).map fun c=>(j,c))=live
 have hmem:∀ j c,(j,c)∈live↔ow[j]?=some (some c):=fun j c=>by
  rw [←hlv,List.mem_filterMap]
  constructor
  ·rintro ⟨a,ha,e⟩
   obtain ⟨c',h1,h2⟩:=Option.map_eq_some_iff.mp e
   cases h2
   rw [Array.getD_eq_getD_getElem?] at h1
   cases z:ow[j]? with
   | none=>rw [z] at h1;cases h1
   | some o=>rw [z] at h1;have h1:o=some c:=h1;rw [h1]
  ·intro hc
   refine ⟨j,List.mem_range.mpr ?_,?_⟩
   ·have:=(Array.getElem?_eq_some_iff.mp hc).1
    rw [L.sz] at this
    exact this
   ·rw [Array.getD_eq_getD_getElem?,hc]
    rfl
 have hlt:live.Pairwise fun x y=>x.1 < y.1:=by
  rw [←hlv,List.pairwise_filterMap]
  refine (List.pairwise_lt_range (n:=mask+1)).imp fun {a b} hab x hx y hy=>?_
  obtain ⟨_,_,rfl⟩:=Option.map_eq_some_iff.mp hx
  obtain ⟨_,_,rfl⟩:=Option.map_eq_some_iff.mp hy
  exact hab
 have hnd:(live.map (·.2)).Nodup:=by
  rw [List.Nodup,List.pairwise_map]
  refine List.Pairwise.imp_of_mem ?_ hlt
  rintro ⟨j,c⟩ ⟨j',c'⟩ h1 h2 h3 e
  have e:c=c':=e
  subst e
  have:=L.inj _ _ _ ((hmem j c).mp h1) ((hmem j' c).mp h2)
  have h3:j < j':=h3
  lia
 have hperm:(live.map (·.2)).Perm (List.range hs.size):=(List.perm_ext_iff_of_nodup hnd List.nodup_range).mpr fun c=>by
  rw [List.mem_range,List.mem_map]
  constructor
  ·rintro ⟨⟨j,c'⟩,h1,rfl⟩
   have:=L.lt ((hmem j c').mp h1)
   rwa [Array.length_toList] at this
  ·intro hc
   obtain ⟨j,hj⟩:=L.all c (by rw [Array.length_toList];exact hc)
   exact ⟨(j,c),(hmem j c).mpr hj,rfl⟩
 refine ⟨{ mask,place:=(live.map (·.1)).toArray,dummies:=#[],finger,led,moves,plain },(live.map (·.2)).toArray,?_,by simpa using hperm,⟨?_,?_,?_,rfl,⟨kk,h3,h13,hm⟩,?_,?_⟩,rfl,rfl,rfl,rfl,rfl⟩
 ·unfold laid
  rw [e]
  simp only [Option.bind_eq_bind,Option.bind_some]
  rw [hlv]
  rfl
 ·simp
 ·simpa [List.pairwise_map] using hlt
 ·intro j hj
  simp only [List.mem_map] at hj
  obtain ⟨⟨j',c⟩,h1,rfl⟩:=hj
  have:=(Array.getElem?_eq_some_iff.mp ((hmem j' c).mp h1)).1
  rw [L.sz] at this
  show j'≤mask
  lia
 ·have:=hperm.length_eq
  simp only [List.length_map,List.length_range] at this
  simp only [List.length_map]
  show live.length≤mask
  lia
 ·show ∀ x∈(live.map (·.1)).zip ((live.map (·.2)).map fun c=>hs.toList.getD c 0),Rch mask x.2 (·∈live.map (·.1)) x.1
  intro x hx
  rw [List.map_map,List.zip_map',List.mem_map] at hx
  obtain ⟨⟨j,c⟩,h1,rfl⟩:=hx
  obtain ⟨h',e1,r⟩:=L.at' j c ((hmem j c).mp h1)
  have eg:hs.toList.getD c 0=h':=by rw [List.getD_eq_getElem?_getD,e1];rfl
  show Rch mask (hs.toList.getD c 0) (·∈live.map (·.1)) j
  rw [eg]
  exact r.mono fun i ⟨c',hc'⟩=>List.mem_map.mpr ⟨(i,c'),(hmem i c').mpr hc',rfl⟩
noncomputable def Siz (m:Nat):Prop:=m=7\/m=31\/m=127\/m=511\/m=2047\/m=8191
theorem siz_grow {m n:Nat} (h:Siz m) (h1:n * 5 < m * 3) (h2:(n+1) * 5 ≥ m * 3) (h3:n+1≤4900):∃ kk,3≤kk/\kk≤13/\sizeAbove (grown (n+1))=2 ^ kk/\Siz (2 ^ kk - 1)/\n+1≤2 ^ kk - 1/\(n+1) * 5 < (2 ^ kk - 1) * 3:=by
 rcases h with rfl | rfl | rfl | rfl | rfl | rfl
 ·obtain rfl:n=4:=by lia
  exact ⟨5,by decide,by decide,by decide,by unfold Siz;decide,by decide,by decide⟩
 ·obtain rfl:n=18:=by lia
  exact ⟨7,by decide,by decide,by decide,by unfold Siz;decide,by decide,by decide⟩
 ·obtain rfl:n=76:=by lia
  exact ⟨9,by decide,by decide,by decide,by unfold Siz;decide,by decide,by decide⟩
 ·obtain rfl:n=306:=by lia
  exact ⟨11,by decide,by decide,by decide,by unfold Siz;decide,by decide,by decide⟩
 ·obtain rfl:n=1228:=by lia
  exact ⟨13,by decide,by decide,by decide,by unfold Siz;decide,by decide,by decide⟩
 ·lia
theorem tok_fresh (finger moves:Nat) (led:Bool):TOk (SetTable.fresh finger moves led) []:=⟨rfl,.nil,(fun _ h=>nomatch h),rfl,⟨3,by decide,by decide,rfl⟩,Nat.zero_le _,(fun _ h=>nomatch h)⟩
open PySem PySem.SetTable PySem.Spec PyProof.Rows
noncomputable def hT (ks:List Int):Int:=reduceHash (Builtin.Tuple.tupleHashOf (ks.map hashInt))
noncomputable def ent (x:List Int×Addr):Int×Value:=(hT x.1,.ref x.2)
noncomputable def byT (w:World):Bool:=w.params.followText "set-order"
structure IsSet (w:World) (h:Heap) (S:Addr) (o:Obj) (es:Array (Int×Value)) (ep:Nat) (t:SetTable) (xs:List (List Int×Addr)):Prop where
 ho:h.get? S=some o
 ex:o.ExactSet
 hd:o.data=.set es ep t
 he:es.toList=xs.map ent
 tok:TOk t (xs.map fun x=>hT x.1)
 led:t.led=!byT w
 pl:t.plain=true
structure IsSetD (w:World) (h:Heap) (S:Addr) (o:Obj) (es:Array (Int×Value)) (ep:Nat) (t:SetTable) (xs:List (List Int×Addr)):Prop where
 ho:h.get? S=some o
 ex:o.ExactSet
 hd:o.data=.set es ep t
 he:es.toList=xs.map ent
 tok:DOk t (xs.map fun x=>hT x.1)
 led:t.led=!byT w
 pl:t.plain=true
section
variable {prog:Program} {w:World} {A:Around} {E:Value->Shared->Prop} {s:Shared} {S a:Addr} {o:Obj} {es:Array (Int×Value)} {ep:Nat} {t:SetTable} {xs:List (List Int×Addr)} {k:List Int}
noncomputable abbrev TK (prog:Program) (w:World):HeapKind prog w (List Int):=tupleKind (intKind prog w)
theorem IsSet.toD {h:Heap} (I:IsSet w h S o es ep t xs):IsSetD w h S o es ep t xs:=⟨I.ho,I.ex,I.hd,I.he,I.tok.toD,I.led,I.pl⟩
theorem IsSetD.sz {h:Heap} (I:IsSetD w h S o es ep t xs):es.size=xs.length:=by rw [←Array.length_toList,I.he,List.length_map]
theorem IsSetD.fits {h:Heap} (I:IsSetD w h S o es ep t xs):t.fits es.size=true:=I.tok.fits (by rw [I.sz,List.length_map])
theorem IsSetD.at {h:Heap} (I:IsSetD w h S o es ep t xs) (i:Nat):es[i]?=xs[i]?.map ent:=by rw [←Array.getElem?_toList,I.he,List.getElem?_map]
theorem IsSet.sz (I:IsSet w s.heap S o es ep t xs):es.size=xs.length:=by rw [←Array.length_toList,I.he,List.length_map]
theorem IsSet.fits (I:IsSet w s.heap S o es ep t xs):t.fits es.size=true:=I.tok.fits (by rw [I.sz,List.length_map])
theorem items_int {items:List Value} (h:ItemsAre (intKind prog w) k items):∀ v∈items,∃ i u,v=.int i u:=by
 induction h with
 | nil=>intro v hv;cases hv
 | cons h1 _ ih =>
  intro v hv
  rcases List.mem_cons.mp hv with rfl | hv
  ·obtain ⟨u,rfl⟩:=Value.isInt_shape h1;exact ⟨_,_,rfl⟩
  ·exact ih v hv
theorem ofAClass_tup {d:Nat} {Q:Bool->Shared->Prop} (hk:(TK prog w).is s.heap k a) (h:Q false s):wpAny (model prog w) A (ofAClassStatement (d+1) (.ref a)) Q E s:=by
 obtain ⟨o',items,n,ho',hc,hd',hi⟩:=id hk
 unfold ofAClassStatement
 refine wpAny_bind (wpAny_typeOf (IsTupleKey.typeIs hk) ?_)
 dsimp only
 rw [if_pos (by decide)]
 refine wpAny_bind (wpAny_pure ?_)
 simp only [Bool.not_true,Bool.false_eq_true,if_false]
 refine wpAny_bind (wpAny_seqItems ho' hd' ?_)
 refine wpAny_bind ?_
 rw [←Array.forIn_toList]
 refine wpAny_forIn_list _ (fun rest r s'=>r.1=none/\s'=s/\∀ v∈rest,∃ i u,v=Value.int i u) _ ?_ ?_ _ _ ⟨rfl,rfl,items_int hi⟩
 ·rintro v rest r s' ⟨hr,rfl,hall⟩
  obtain ⟨i,u,rfl⟩:=hall v List.mem_cons_self
  have e:ofAClassStatement d (.int i u)=pure false:=by cases d <;> rfl
  rw [e]
  refine wpAny_bind (wpAny_pure ?_)
  simp only [Bool.false_eq_true,if_false]
  exact wpAny_pure ⟨rfl,rfl,fun u hu'=>hall u (List.mem_cons_of_mem _ hu')⟩
 ·rintro ⟨r1,r2⟩ s' ⟨hr,rfl,_⟩
  simp only at hr
  subst hr
  exact wpAny_pure h
theorem hashByVal_tup {d:Nat} {Q:Bool->Shared->Prop} (hk:(TK prog w).is s.heap k a) (h:Q true s):wpAny (model prog w) A (hashByValue (d+1) (.ref a)) Q E s:=by
 obtain ⟨o',items,n,ho',hc,hd',hi⟩:=id hk
 unfold hashByValue
 refine wpAny_bind (wpAny_specialOf (IsTupleKey.typeIs hk) F.slot_tuple_hash.lookup ?_)
 show wpAny _ _ (seqItems? (.ref a) >>= _) _ _ s
 refine wpAny_bind (wpAny_seqItems ho' hd' ?_)
 refine wpAny_bind ?_
 show wpAny _ _ (forIn items _ _) _ _ s
 rw [←Array.forIn_toList]
 refine wpAny_forIn_list _ (fun rest r s'=>r.1=none/\s'=s/\∀ v∈rest,∃ i u,v=Value.int i u) _ ?_ ?_ _ _ ⟨rfl,rfl,items_int hi⟩
 ·rintro v rest r s' ⟨hr,rfl,hall⟩
  obtain ⟨i,u,rfl⟩:=hall v List.mem_cons_self
  have e:hashByValue d (.int i u)=pure true:=by cases d <;> rfl
  rw [e]
  refine wpAny_bind (wpAny_pure ?_)
  simp only [Bool.not_true,Bool.false_eq_true,if_false]
  exact wpAny_pure ⟨rfl,rfl,fun u hu'=>hall u (List.mem_cons_of_mem _ hu')⟩
 ·rintro ⟨r1,r2⟩ s' ⟨hr,rfl,_⟩
  simp only at hr
  subst hr
  exact wpAny_pure h
theorem seen_tup {vs:List Value} {Q:Bool->Shared->Prop} (hk:(TK prog w).is s.heap k a) (hv:∀ v∈vs,∃ k' b,v=.ref b/\(TK prog w).is s.heap k' b) (h:Q false s):wpAny (model prog w) A (searchCouldBeSeen (.ref a) vs) Q E s:=by
 unfold searchCouldBeSeen
 refine wpAny_bind ?_
 refine wpAny_forIn_list _ (fun rest r s'=>r.1=none/\s'=s/\∀ v∈rest,∃ k' b,v=.ref b/\(TK prog w).is s.heap k' b) _ ?_ ?_ _ _ ⟨rfl,rfl,hv⟩
 ·rintro v rest r s' ⟨hr,rfl,hall⟩
  obtain ⟨k',b,rfl,hb⟩:=hall v List.mem_cons_self
  have fin:∀ v∈rest,∃ k' b,v=.ref b/\(TK prog w).is s'.heap k' b:=fun u hu'=>hall u (List.mem_cons_of_mem _ hu')
  dsimp only
  by_cases g:(a==b||(carriedByValue (.ref a)&&carriedByValue (.ref b)))=true
  ·rw [if_pos g]
   exact wpAny_pure ⟨rfl,rfl,fin⟩
  ·rw [if_neg g]
   refine wpAny_bind ((TK prog w).quiet hk ?_)
   simp only [Bool.not_true,Bool.false_eq_true,if_false]
   refine wpAny_bind ((TK prog w).quiet hb ?_)
   simp only [Bool.not_true,Bool.false_eq_true,if_false]
   refine wpAny_bind (ofAClass_tup hk ?_)
   simp only [Bool.false_eq_true,if_false]
   refine wpAny_bind (ofAClass_tup hb ?_)
   simp only [Bool.false_eq_true,if_false]
   exact wpAny_pure ⟨rfl,rfl,fin⟩
 ·rintro ⟨r1,r2⟩ s' ⟨hr,rfl,_⟩
  simp only at hr
  subst hr
  exact wpAny_pure h
theorem search_okD {adding:Bool} (hu:A.units < cLine) (I:IsSetD w s.heap S o es ep t xs) (hdum:adding=true->t.dummies=#[]) (his:∀ x∈xs,(TK prog w).is s.heap x.1 x.2) (hk:(TK prog w).is s.heap k a) {Q:SetFound->Shared->Prop}
  (h1:∀ (i:Nat) (b:Addr),xs[i]?=some (k,b)->Q (.there (if adding then none else some i)) s)
  (h2:k∉xs.map (·.1)->∀ j b,(t.dummies=#[]->b=false/\¬ Occ t j/\j≤t.mask/\Rch t.mask (hT k) (Occ t) j)->Q (.free j b) s) :
  wpAny (model prog w) A (setSearch S (.ref a) (hT k) adding) Q E s:=by
 obtain ⟨e0,f1,f2⟩:=I.tok.free
 obtain ⟨kk,m1,m2,m3⟩:=I.tok.msk
 obtain ⟨qe,ke,g1,g2,g3,g4⟩:=first_free (O:=Occ t) m3 (hT k) f1 f2
 have hm:=I.tok.turns
 have hG:∀ i j:Nat,t.place[i]?=some j->((es[i]?.map (·.1)).getD 0)≠hT k->(∀ i:Nat,t.place[i]?=some j->∀ x,xs[i]?=some x->x.1≠k):=fun i j hj hne i' hj' x hx e=>by
  have:i'=i:=by rw [←below_at I.tok.rise hj',←below_at I.tok.rise hj]
  subst this
  rw [I.at,hx] at hne
  exact hne (by rw [←e];rfl)
 have hG0:∀ j:Nat,j∉t.place.toList->(∀ i:Nat,t.place[i]?=some j->∀ x,xs[i]?=some x->x.1≠k):=fun j hj i hi=>absurd (by rw [←Array.getElem?_toList] at hi;exact List.mem_of_getElem? hi) hj
 have main:∀ (fuel q c:Nat) (st:Option Probe) (d:Option Nat),(t.dummies=#[]->d=none)->(st=some (pst t.mask (hT k) q c d)\/(st=none/\q=0/\c=0/\d=none))->c≤rlen t.mask (run t.mask (hT k) q).1->(q < qe\/(q=qe/\c≤ke))->10 * (qe - q)+10 - c≤fuel ->
   Bfr t.mask (hT k) (fun j=>∀ i:Nat,t.place[i]?=some j->∀ x,xs[i]?=some x->x.1≠k) q c->wpAny (model prog w) A (setSearchFrom S (.ref a) (hT k) adding fuel st) Q E s:=by
  intro fuel
  induction fuel with
  | zero=>intro q c st d _ _ hc ho hf;have:=rlen_le t.mask (run t.mask (hT k) q).1;lia
  | succ fuel ih =>
   intro q c st d hdn hst hc ho hf hB
   unfold setSearchFrom
   refine wpAny_bind (wpAny_setState_of I.ho I.hd I.fits ?_)
   dsimp only
   rw [I.tok.odd]
   simp only [Bool.false_eq_true,if_false]
   have est:st.getD (t.probeStart (hT k))=pst t.mask (hT k) q c d:=by
    rcases hst with rfl | ⟨rfl,rfl,rfl,rfl⟩
    ·rfl
    ·exact pst_start t (hT k)
   rw [est]
   have pr:=probe_spec (hashAt:=fun i=>(es[i]?.map (·.1)).getD 0) I.tok.rise I.tok.drise hG hG0 g2 g3 g4 (10 * turns t.mask) q c d hc ho (by unfold turns;lia) hB
   generalize hmet:t.probe _ (hT k) (pst t.mask (hT k) q c d)=met
   have hmet':probe.go t (fun i=>(es[i]?.map (·.1)).getD 0) (hT k) (10 * turns t.mask) (pst t.mask (hT k) q c d)=met:=hmet
   rw [hmet'] at pr
   rcases pr with ⟨d',hd',em,bG⟩ | ⟨q1,c1,i,d',hd',d1,d2,d3,em,d5,d6,d7,bG⟩
   ·subst em
    dsimp only
    have hno:k∉xs.map (·.1):=by
     intro hmem
     obtain ⟨x,hx,hxk⟩:=List.mem_map.mp hmem
     obtain ⟨i,hi⟩:=List.getElem?_of_mem hx
     have hil:=(List.getElem?_eq_some_iff.mp hi).1
     have hlen:=I.tok.len
     rw [List.length_map,Array.length_toList] at hlen
     have ej:t.place[i]?=some t.place[i]:=Array.getElem?_eq_getElem (by omega)
     have hz:(t.place[i],hT x.1)∈t.place.toList.zip (xs.map fun x=>hT x.1):=by
      refine List.mem_of_getElem? (i:=i) ?_
      rw [List.getElem?_zip_eq_some]
      exact ⟨by rw [Array.getElem?_toList];exact ej,by rw [List.getElem?_map,hi];rfl⟩
     obtain ⟨q',c',r1,r2,r3⟩:=I.tok.rch _ hz
     rw [hxk] at r1 r2 r3
     have r2:(run t.mask (hT k) q').1+c'=t.place[i]:=r2
     have hin:t.place[i]∈t.place.toList:=by rw [←Array.getElem?_toList] at ej;exact List.mem_of_getElem? ej
     have ah:=ahead (O:=Occ t) g2 g3 r3 (by show Occ t _;rw [r2];exact .inl hin)
     have bad:∀ i:Nat,t.place[i]?=some ((run t.mask (hT k) q').1+c')->∀ x,xs[i]?=some x->x.1≠k:=by
      rcases ah with z | ⟨z,z2⟩
      ·exact bG.1 q' z c' r1
      ·subst z;exact bG.2 c' z2
     exact bad i (by rw [r2];exact ej) x hi hxk
    cases d' with
    | none=>exact wpAny_pure (h2 hno _ _ fun _=>⟨rfl,g3,rlen_in (run_le _ _ _) g2,qe,ke,g2,rfl,g4⟩)
    | some d2 =>
     have nod:¬ t.dummies=#[]:=fun z=>by have:=(hd' z).trans (hdn z);cases this
     have nad:adding=false:=by cases adding with | false=>rfl | true=>exact absurd (hdum rfl) nod
     subst nad
     dsimp only
     simp only [Bool.false_and,Bool.false_eq_true,if_false]
     exact wpAny_pure (h2 hno _ _ fun z=>absurd z nod)
   ·subst em
    dsimp only
    have hil:i < xs.length:=by
     have:=(Array.getElem?_eq_some_iff.mp d6).1
     have hlen:=I.tok.len
     rw [List.length_map,Array.length_toList] at hlen
     lia
    obtain ⟨y,hy⟩:∃ y,xs[i]?=some y:=⟨xs[i],List.getElem?_eq_getElem hil⟩
    have hes:es[i]?=some (hT y.1,.ref y.2):=by rw [I.at,hy];rfl
    have hyk:=his y (List.mem_of_getElem? hy)
    have step:wpAny (model prog w) A (setSearchFrom S (.ref a) (hT k) adding fuel (some (t.advance (pst t.mask (hT k) q1 c1 d')))) Q E s\/y.1=k:=by
     by_cases e:y.1=k
     ·exact .inr e
     ·refine .inl ?_
      have nb:=bG.next (fun i' hi' x hx=>by
       have:i'=i:=by rw [←below_at I.tok.rise hi',←below_at I.tok.rise d6]
       subst this
       rw [hy] at hx
       cases hx
       exact e)
      have r9:=rlen_le t.mask (run t.mask (hT k) q1).1
      have r9q:=rlen_le t.mask (run t.mask (hT k) q).1
      rcases Nat.lt_or_ge c1 (rlen t.mask (run t.mask (hT k) q1).1) with z | z
      ·rw [pst_in z]
       exact ih q1 (c1+1) _ d' (fun z=>(hd' z).trans (hdn z)) (.inl rfl) z (by lia) (by lia) (nb.1 z)
      ·rw [pst_out z]
       have hq:q1 < qe:=by
        rcases d3 with y' | ⟨y',y2⟩
        ·exact y'
        ·subst y';lia
       exact ih (q1+1) 0 _ d' (fun z=>(hd' z).trans (hdn z)) (.inl rfl) (Nat.zero_le _) (by lia) (by lia) (nb.2 z)
    have rest:wpAny (model prog w) A (do
      let some (_,y):=es[i]? | unsupported "internal:set-entry"
      let equal ←holding [y] (eqBool y (.ref a))
      let (es',_,t') ←setState S
      if adding&&equal then return SetFound.there none
      let some sm:=t'.sameMemory t.moves t.mask | unsupported "set.changed-during-lookup:is-the-new-block-at-the-old-address"
      let still ←match (if sm then t'.slot ((run t.mask (hT k) q1).1+c1) else .empty) with
       | .live i'=>match es'[i']? with
        | some (_,y')=>do pure (if ←isSame y' y then some i' else none)
        | none=>pure none
       | _=>pure none
      match still with
      | none=>rule "set.search.anew";setSearchFrom S (.ref a) (hT k) adding fuel none
      | some i'=>if equal then return .there (some i') else setSearchFrom S (.ref a) (hT k) adding fuel (some (t.advance (pst t.mask (hT k) q1 c1 d')))) Q E s:=by
     rw [hes]
     dsimp only
     refine wpAny_bind (wpAny_holding ((TK prog w).eqBool hu hyk hk ?_))
     refine wpAny_bind (wpAny_setState_of I.ho I.hd I.fits ?_)
     dsimp only
     by_cases e:y.1=k
     ·rw [decide_eq_true e]
      have hyi:xs[i]?=some (k,y.2):=by rw [hy,←e]
      cases adding with
      | true =>
       simp only [Bool.and_self,if_true]
       exact wpAny_pure (by have:=h1 i y.2 hyi;simpa using this)
      | false =>
       simp only [Bool.false_and,Bool.false_eq_true,if_false]
       have esm:t.sameMemory t.moves t.mask=some true:=by unfold SetTable.sameMemory;simp
       rw [esm]
       dsimp only
       rw [if_pos rfl,d5]
       dsimp only
       rw [hes]
       dsimp only
       refine wpAny_bind (wpAny_isSame_ref_self (wpAny_bind (wpAny_pure ?_)))
       simp only [if_true]
       exact wpAny_pure (by have:=h1 i y.2 hyi;simpa using this)
     ·rw [decide_eq_false e,Bool.and_false]
      simp only [Bool.false_eq_true,if_false]
      have esm:t.sameMemory t.moves t.mask=some true:=by unfold SetTable.sameMemory;simp
      rw [esm]
      dsimp only
      rw [if_pos rfl,d5]
      dsimp only
      rw [hes]
      dsimp only
      refine wpAny_bind (wpAny_isSame_ref_self (wpAny_bind (wpAny_pure ?_)))
      simp only [if_true]
      exact step.resolve_right e
    by_cases hl:t.led=true
    ·rw [hl]
     simp only [Bool.not_true,Bool.false_eq_true,if_false]
     exact rest
    ·have hl:t.led=false:=by simpa using hl
     rw [hl]
     simp only [Bool.not_false,if_true]
     refine wpAny_bind (seen_tup hk (fun v hv=>?_) ?_)
     ·obtain ⟨e,he,rfl⟩:=List.mem_map.mp hv
      have he:e∈es:=by
       have:=Array.mem_toList_iff.mp he
       exact (Array.mem_filter.mp this).1
      have:=Array.mem_toList_iff.mpr he
      rw [I.he] at this
      obtain ⟨x,hx,rfl⟩:=List.mem_map.mp this
      exact ⟨x.1,x.2,rfl,his x hx⟩
     ·simp only [Bool.false_eq_true,if_false]
      exact rest
 exact main 100000 0 0 none none (fun _=>rfl) (.inr ⟨rfl,rfl,rfl,rfl⟩) (Nat.zero_le _) (by lia) (by lia) ⟨fun q' h=>absurd h (Nat.not_lt_zero _),fun q' h=>absurd h (Nat.not_lt_zero _)⟩
theorem search_ok {adding:Bool} (hu:A.units < cLine) (I:IsSet w s.heap S o es ep t xs) (his:∀ x∈xs,(TK prog w).is s.heap x.1 x.2) (hk:(TK prog w).is s.heap k a) {Q:SetFound->Shared->Prop}
  (h1:∀ (i:Nat) (b:Addr),xs[i]?=some (k,b)->Q (.there (if adding then none else some i)) s)
  (h2:k∉xs.map (·.1)->∀ j,j∉t.place.toList->j≤t.mask->Rch t.mask (hT k) (·∈t.place.toList) j->Q (.free j false) s) :
  wpAny (model prog w) A (setSearch S (.ref a) (hT k) adding) Q E s:=by
 refine search_okD hu I.toD (fun _=>I.tok.dum) his hk h1 fun hn j b hb=>?_
 obtain ⟨rfl,z1,z2,z3⟩:=hb I.tok.dum
 refine h2 hn j (fun z=>z1 (.inl z)) z2 (z3.mono fun j' hj'=>hj'.elim id fun z=>?_)
 rw [I.tok.dum] at z
 exact nomatch z
end
theorem wp_is {α:Type} {M:Model} {A:Around} {x y:Sem α} {Q:α->Shared->Prop} {E:Value->Shared->Prop} {s:Shared} (h:x=y) (k:wpAny M A y Q E s):wpAny M A x Q E s:=h▸k
theorem wp_no {α:Type} {M:Model} {A:Around} {c:Prop} [Decidable c] {x y:Sem α} {Q:α->Shared->Prop} {E:Value->Shared->Prop} {s:Shared} (h:¬ c) (k:wpAny M A y Q E s):wpAny M A (if c then x else y) Q E s:=by
 rw [if_neg h]
 exact k
theorem range_get {α:Type} (xs:List α):∀ n,(List.range n).filterMap (xs[·]?)=xs.take n
 | 0=>rfl
 | n+1=>by
  rw [List.range_succ,List.filterMap_append,range_get xs n,List.take_add_one]
  congr 1
theorem order_perm {α:Type} {xs:List α} {order:List Nat} {n:Nat} (h:order.Perm (List.range n)) (hn:n=xs.length):(order.filterMap (xs[·]?)).Perm xs:=by
 have:=h.filterMap (xs[·]?)
 rw [range_get,hn,List.take_length] at this
 exact this
theorem order_map {α β:Type} {xs:List α} {f:α->β} {b:β}:∀ {order:List Nat},(∀ c∈order,c < xs.length)->(order.filterMap (xs[·]?)).map f=order.map fun c=>(xs.map f).getD c b
 | [],_=>rfl
 | c :: r,h=>by
  have hc:=h c List.mem_cons_self
  have e:xs[c]?=some xs[c]:=List.getElem?_eq_getElem hc
  rw [List.filterMap_cons,e]
  dsimp only
  rw [List.map_cons,List.map_cons,order_map fun d hd=>h d (List.mem_cons_of_mem _ hd)]
  congr 1
  rw [List.getD_eq_getElem?_getD,List.getElem?_map,e]
  rfl
section
variable {prog:Program} {w:World} {A:Around} {E:Value->Shared->Prop} {s:Shared} {S a:Addr} {o:Obj} {es:Array (Int×Value)} {ep:Nat} {t:SetTable} {xs:List (List Int×Addr)} {k:List Int}
theorem IsSetD.store (I:IsSetD w s.heap S o es ep t xs) {es':Array (Int×Value)} {t':SetTable} {xs':List (List Int×Addr)} (he:es'.toList=xs'.map ent) (T:TOk t' (xs'.map fun x=>hT x.1)) (hl:t'.led=t.led) (hp:t'.plain=t.plain) :
  IsSet w (s.heap.update S (Obj.putSet es' t')) S { o with data:=.set es' (ep+1) t' } es' (ep+1) t' xs':=by
 have hg:(s.heap.update S (Obj.putSet es' t')).get? S=some { o with data:=.set es' (ep+1) t' }:=by
  have:=Heap.get?_update_self (Obj.putSet es' t') I.ho (by rw [putSet_of es' t' I.hd];rfl)
  rw [putSet_of es' t' I.hd] at this
  exact this
 exact ⟨hg,I.ex,rfl,he,T,by rw [hl];exact I.led,by rw [hp];exact I.pl⟩
theorem relay_ok {wanted:Nat} (I:IsSetD w s.heap S o es ep t xs) {kk:Nat} (h3:3≤kk) (h13:kk≤13) (hw:sizeAbove wanted=2 ^ kk) (hn:xs.length≤2 ^ kk - 1) (hz:xs.length≤100000) {Q:Unit->Shared->Prop}
  (q:∀ h' o' es' ep' t' xs',Heap.SameBut S s.heap h'->IsSet w h' S o' es' ep' t' xs'->xs'.Perm xs->t'.mask=2 ^ kk - 1->Q () { s with heap:=h' }):wpAny (model prog w) A (setRelay S wanted) Q E s:=by
 have hp2:2 ^ kk≤2 ^ 13:=Nat.pow_le_pow_right (by decide) h13
 have hpos:0 < 2 ^ kk:=Nat.pow_pos (by decide)
 have hes:(es.map (·.1)).toList=xs.map fun x=>hT x.1:=by rw [Array.toList_map,I.he,List.map_map];rfl
 have hsz:(es.map (·.1)).size=xs.length:=by rw [Array.size_map,I.sz]
 obtain ⟨t',order,e,hperm,T,hm,hl,hpl,_,_⟩:=laid_ok (mask:=2 ^ kk - 1) (kk:=kk) (by lia) h3 h13 (hs:=es.map (·.1)) (by rw [hsz];exact hn) t.finger (t.movedTo (2 ^ kk - 1)) t.led t.plain
 have hrel:t.relaid (es.map (·.1)) wanted=some (t',order):=by unfold SetTable.relaid;rw [hw];exact e
 have hlt:∀ c∈order.toList,c < xs.length:=fun c hc=>by have:=List.mem_range.mp (hperm.mem_iff.mp hc);rw [hsz] at this;exact this
 unfold setRelay
 refine wpAny_bind (wpAny_setState_of I.ho I.hd I.fits ?_)
 dsimp only
 rw [if_neg (by rw [hw,sizeLine_eq];lia),hrel]
 have el:(order.filterMap (es[·]?)).toList=(order.toList.filterMap (xs[·]?)).map ent:=by
  rw [Array.toList_filterMap,List.map_filterMap]
  have e:(fun c:Nat=>es[c]?)=fun c=>xs[c]?.map ent:=funext I.at
  rw [e]
 have esz:(order.filterMap (es[·]?)).size=es.size:=by
  rw [←Array.length_toList,el,List.length_map,(order_perm hperm hsz).length_eq,I.sz]
 refine wpAny_bind (wp_is (y:=pure (order.filterMap (es[·]?),t')) ?er (wpAny_pure ?_))
 case er =>
  show (if ((order.filterMap (es[·]?)).size != es.size)=true then _ else _)=_
  rw [esz]
  simp
 dsimp only
 have T2:TOk t' ((order.toList.filterMap (xs[·]?)).map fun x=>hT x.1):=by
  rw [order_map (f:=fun x:List Int×Addr=>hT x.1) (b:=0) hlt,←hes]
  exact T
 refine wpAny_storeSet_of I.ho I.hd (q _ _ _ _ _ _ (Heap.SameBut.update ..) (I.store el T2 hl hpl) (order_perm hperm hsz) hm) ?_
 rw [esz,I.sz,sizeLine_eq]
 lia
theorem IsSetD.mk7 {h:Heap} (I:IsSetD w h S o es ep t xs):7≤t.mask:=by
 obtain ⟨k,h1,_,h2⟩:=I.tok.msk
 have:2 ^ 3≤2 ^ k:=Nat.pow_le_pow_right (by decide) h1
 lia
theorem add_okR (hu:A.units < cLine) (I:IsSet w s.heap S o es ep t xs) (hsiz:(xs.length+1) * 5 < t.mask * 3\/Siz t.mask) (hrm:xs.length * 5 < t.mask * 3) (hcap:xs.length+1≤4900) (his:∀ x∈xs,(TK prog w).is s.heap x.1 x.2) (hk:(TK prog w).is s.heap k a) {Q:Bool->Shared->Prop}
  (h1:k∈xs.map (·.1)->Q false s)
  (h2:k∉xs.map (·.1)->∀ h' o' es' ep' t' xs',Heap.SameBut S s.heap h'->IsSet w h' S o' es' ep' t' xs'->xs'.Perm (xs ++ [(k,a)])->((xs.length+1) * 5 < t.mask * 3->t'.mask=t.mask)->(Siz t.mask->Siz t'.mask)->xs'.length * 5 < t'.mask * 3->Q true { s with heap:=h' }) :
  wpAny (model prog w) A (setAddHashed S (.ref a) (hT k)) Q E s:=by
 unfold setAddHashed
 refine wpAny_holding ?_
 rw [show (100000:Nat)=99999+1 from rfl,setAddHashedIn]
 refine wpAny_bind (wpAny_setState_of I.ho I.hd I.fits ?_)
 dsimp only
 have hbs:byScan (.ref a) es=false:=rfl
 rw [hbs]
 simp only [Bool.false_eq_true,if_false]
 refine wpAny_bind (search_ok (adding:=true) hu I his hk (fun i b hi=>?_) fun hn j hj hjm hr=>?_)
 ·exact wpAny_pure (h1 (List.mem_map.mpr ⟨_,List.mem_of_getElem? hi,rfl⟩))
 dsimp only
 refine wpAny_bind (wpAny_setState_of I.ho I.hd I.fits ?_)
 dsimp only
 have hmk:7≤t.mask:=I.toD.mk7
 obtain ⟨T,hp,hm⟩:=I.tok.put (h:=hT k) (b:=(t.put j).1.plain) hj hjm hr (by rw [List.length_map];lia)
 rw [List.length_map] at hp
 have T:TOk (t.put j).1 (((xs.take (t.put j).2 ++ (k,a) :: xs.drop (t.put j).2)).map fun x=>hT x.1):=by
  rw [List.map_append,List.map_cons,List.map_take,List.map_drop]
  exact T
 have el:(insertAt es (t.put j).2 (hT k,Value.ref a)).toList=(xs.take (t.put j).2 ++ (k,a) :: xs.drop (t.put j).2).map ent:=by
  rw [insert_list,I.he,List.map_append,List.map_cons,List.map_take,List.map_drop]
  rfl
 have hperm:(xs.take (t.put j).2 ++ (k,a) :: xs.drop (t.put j).2).Perm (xs ++ [(k,a)]):=by
  refine List.perm_middle.trans ?_
  rw [List.take_append_drop]
  exact (List.perm_append_singleton (k,a) xs).symm
 have hlen:(xs.take (t.put j).2 ++ (k,a) :: xs.drop (t.put j).2).length=xs.length+1:=by rw [hperm.length_eq,List.length_append,List.length_singleton]
 generalize hxs1:xs.take (t.put j).2 ++ (k,a) :: xs.drop (t.put j).2=xs1 at T el hperm hlen
 have hpl:(t.put j).1.plain=true:=I.pl
 rw [hpl]
 simp only [if_true]
 refine wpAny_bind (hashByVal_tup hk ?_)
 simp only [if_true]
 have I1:=I.toD.store el T rfl rfl
 have sz1:(insertAt es (t.put j).2 (hT k,Value.ref a)).size=xs.length+1:=by rw [←Array.length_toList,el,List.length_map,hlen]
 refine wpAny_bind (wpAny_storeSet_of I.ho I.hd ?_ (by rw [sz1,sizeLine_eq];lia))
 have hfill:(t.put j).1.fill=xs.length+1:=by
  unfold SetTable.fill
  rw [T.dum]
  have:=T.len
  rw [Array.length_toList,List.length_map,hlen] at this
  simpa using this
 by_cases hf:(t.put j).1.tooFull=true
 ·have hf':(xs.length+1) * 5 ≥ t.mask * 3:=by
   unfold SetTable.tooFull at hf
   rw [hfill,hm] at hf
   exact of_decide_eq_true hf
  obtain ⟨kk,g1,g2,g3,g4,g5,g6⟩:=siz_grow (hsiz.resolve_left (by lia)) hrm hf' hcap
  rw [hf]
  simp only [Bool.not_false,Bool.and_self,if_true]
  rw [I.sz]
  refine wpAny_bind (relay_ok (s:={ s with heap:=s.heap.update S (Obj.putSet (insertAt es (t.put j).2 (hT k,Value.ref a)) (t.put j).1) }) I1.toD g1 g2 g3 (by rw [hlen];exact g5) (by lia) fun h' o' es' ep' t' xs' hsb I2 hp2 hm2=>?_)
  refine wpAny_pure (h2 hn h' o' es' ep' t' xs' ((Heap.SameBut.update ..).trans hsb) I2 (hp2.trans hperm) (fun z=>by lia) (fun _=>by rw [hm2];exact g4) ?_)
  rw [hp2.length_eq,hlen,hm2]
  exact g6
 ·have hf0:(t.put j).1.tooFull=false:=by simpa using hf
  rw [hf0]
  simp only [Bool.not_false,Bool.and_false,Bool.false_eq_true,if_false]
  refine wpAny_pure (h2 hn _ _ _ _ _ xs1 (Heap.SameBut.update ..) I1 hperm (fun _=>hm) (fun z=>by rw [hm];exact z) ?_)
  unfold SetTable.tooFull at hf0
  rw [hfill,hm] at hf0
  have:=of_decide_eq_false hf0
  rw [hlen,hm]
  lia
theorem add_ok (hu:A.units < cLine) (I:IsSet w s.heap S o es ep t xs) (hsiz:Siz t.mask) (hrm:xs.length * 5 < t.mask * 3) (hcap:xs.length+1≤4900) (his:∀ x∈xs,(TK prog w).is s.heap x.1 x.2) (hk:(TK prog w).is s.heap k a) {Q:Bool->Shared->Prop}
  (h1:k∈xs.map (·.1)->Q false s)
  (h2:k∉xs.map (·.1)->∀ h' o' es' ep' t' xs',Heap.SameBut S s.heap h'->IsSet w h' S o' es' ep' t' xs'->xs'.Perm (xs ++ [(k,a)])->Siz t'.mask->xs'.length * 5 < t'.mask * 3->Q true { s with heap:=h' }) :
  wpAny (model prog w) A (setAddHashed S (.ref a) (hT k)) Q E s :=
 add_okR hu I (.inr hsiz) hrm hcap his hk h1 fun hn h' o' es' ep' t' xs' a1 a2 a3 _ a4 a5=>h2 hn h' o' es' ep' t' xs' a1 a2 a3 (a4 hsiz) a5
end
noncomputable def SetUp (w:World) (h:Heap) (S:Addr) (ys:List (List Int×Addr)) (i:Nat):Prop:=∃ o es ep t xs,IsSet w h S o es ep t xs/\Siz t.mask/\xs.length * 5 < t.mask * 3/\(∀ k,k∈xs.map (·.1)↔k∈(ys.take i).map (·.1))/\(∀ x∈xs,x∈ys)/\xs.length≤i/\(xs.map (·.1)).Nodup
theorem SetUp.to {w:World} {h h':Heap} {S:Addr} {ys:List (List Int×Addr)} {i:Nat} (x:SetUp w h S ys i) (e:∀ o,h.get? S=some o->h'.get? S=some o):SetUp w h' S ys i :=
 let ⟨o,es,ep,t,xs,I,r⟩:=x;⟨o,es,ep,t,xs,⟨e _ I.ho,I.ex,I.hd,I.he,I.tok,I.led,I.pl⟩,r⟩
theorem tk_to {prog:Program} {w:World} {h h':Heap} {k:List Int} {a:Addr} (x:(TK prog w).is h k a) (e:∀ o,h.get? a=some o->h'.get? a=some o):(TK prog w).is h' k a:=by
 obtain ⟨o,items,n,ho,hc,hd,hi⟩:=x
 exact ⟨o,items,n,e _ ho,hc,hd,hi⟩
theorem tk_ne {prog:Program} {w:World} {h:Heap} {k:List Int} {a S:Addr} {ys:List (List Int×Addr)} {i:Nat} (x:(TK prog w).is h k a) (y:SetUp w h S ys i):a≠S:=fun z=>by
 subst z
 obtain ⟨o,items,n,ho,hc,hd,hi⟩:=x
 obtain ⟨o',es,ep,t,xs,I,_⟩:=y
 have e:=I.hd
 obtain rfl:=Option.some.inj (show some o=some o' from ho.symm.trans I.ho)
 rw [hd] at e
 cases e
section
variable {prog:Program} {w:World} {A:Around} {R:Result->Shared->Prop} {I:Addr} {fp wr:List Addr} {G:Array GenState->Array GenState->Prop} {P:Nat->Value->Prop} {St:Nat->Shared->Prop}
theorem set_loop {ys:List (List Int×Addr)} (W:WalksS prog w A.in1 I fp wr G ys.length P St) (S:Addr) (hSf:S∉fp) (hu:A.in1.units < cLine) (hcap:ys.length≤4900) (hP:∀ i v,P i v->∃ y,ys[i]?=some y/\v=.ref y.2) (hyw:∀ y∈ys,y.2∉wr) :
  ∀ (k i:Nat) (s:Shared),ys.length - i=k->i≤ys.length->St i s->SetUp w s.heap S ys i->(∀ y∈ys,(TK prog w).is s.heap y.1 y.2) ->
   (∀ s',Moved (S :: wr) G s s'->SetUp w s'.heap S ys ys.length->R (.ok (.ret .none)) s') ->
   codeAny (model prog w) A (.builtin "set.update.loop" ⟨[.ref S,.ref I],[]⟩) R s:=by
 have hSw:S∉wr:=fun h=>hSf (W.sub _ h)
 have hsub:∀ b∈wr,b∈S :: wr:=fun b hb=>List.mem_cons_of_mem _ hb
 intro k
 induction k with
 | zero =>
  intro i s hk hi hst hS hys hR
  obtain rfl:i=ys.length:=by lia
  refine codeAny_builtin PyProof.Rows.F.entry_set_update_loop ?_
  rw [Around.under_plainId PyProof.Rows.F.plain_set_update_loop _]
  show wpAny _ A.in1 (pyNext (.ref I) >>= _) _ _ s
  refine wpAny_bind (W.done s _ _ hst fun s' hm=>?_)
  show wpAny _ A.in1 (ret Value.none) _ _ s'
  exact wpAny_pure (hR s' (hm.mono hsub) (hS.to fun o e=>hm.heap S _ hSw e))
 | succ k ih =>
  intro i s hk hi hst hS hys hR
  have hlt:i < ys.length:=by lia
  refine codeAny_builtin PyProof.Rows.F.entry_set_update_loop ?_
  rw [Around.under_plainId PyProof.Rows.F.plain_set_update_loop _]
  show wpAny _ A.in1 (pyNext (.ref I) >>= _) _ _ s
  refine wpAny_bind (W.item i s _ _ hlt hst fun v s' hPv hst' hm=>?_)
  obtain ⟨y,hy,rfl⟩:=hP i v hPv
  have hS':SetUp w s'.heap S ys i:=hS.to fun o e=>hm.heap S _ hSw e
  have hys':∀ y∈ys,(TK prog w).is s'.heap y.1 y.2:=fun y hy=>tk_to (hys y hy) fun o e=>hm.heap _ _ (hyw y hy) e
  have hym:=List.mem_of_getElem? hy
  show wpAny _ A.in1 (holding [Value.ref y.2] (setAdd S (.ref y.2)) >>= _) _ _ s'
  refine wpAny_bind (wpAny_holding ?_)
  unfold setAdd
  refine wpAny_holding ?_
  refine wpAny_bind ((TK prog w).pyHash hu (hys' y hym) ?_)
  obtain ⟨o,es,ep,t,xs,J,j1,j2,j3,j4,j5,j6⟩:=id hS'
  have tkeep:∀ k,k∈(ys.take (i+1)).map (·.1)↔k∈(ys.take i).map (·.1)\/k=y.1:=fun k=>by
   rw [List.take_add_one,hy,List.map_append,List.mem_append]
   simp
  have fin:∀ (h':Heap),(∀ b o,b≠S->s'.heap.get? b=some o->h'.get? b=some o)->SetUp w h' S ys (i+1) ->
    codeAny (model prog w) A (.builtin "set.update.loop" ⟨[.ref S,.ref I],[]⟩) R { s' with heap:=h',toks:=s'.toks+(TK prog w).draws y.1 }:=fun h' hk' hS2=>by
   refine ih (i+1) _ (by lia) hlt (W.frame _ s' _ _ hst' (Nat.le_add_right _ _) fun b hb o e=>hk' b o (fun z=>hSf (z▸hb)) e) hS2 (fun y hy=>tk_to (hys' y hy) fun o e=>hk' _ o (tk_ne (hys' y hy) hS') e) fun s'' hm'' hS''=>?_
   refine hR s'' (Moved.trans W.gtrans ((hm.mono hsub).then_heap (Nat.le_add_right _ _) fun b o hb e=>hk' b o (fun z=>hb (by rw [z];exact List.mem_cons_self)) e) hm'') hS''
  refine add_ok (s:={ s' with toks:=s'.toks+(TK prog w).draws y.1 }) hu J j1 j2 (by lia) (fun x hx=>hys' x (j4 x hx)) (hys' y hym) (fun hmem=>?_) fun hnm h' o' es' ep' t' xs' hsb J' hp g1 g2=>?_
  ·refine wpAny_pure ⟨plainId_quiet PyProof.Rows.F.plain_set_update_loop _,?_⟩
   refine fin s'.heap (fun b o _ e=>e) ⟨o,es,ep,t,xs,J,j1,j2,fun k=>?_,j4,by lia,j6⟩
   rw [tkeep,←j3]
   exact ⟨.inl,fun z=>z.elim id fun e=>e▸hmem⟩
  ·refine wpAny_pure ⟨plainId_quiet PyProof.Rows.F.plain_set_update_loop _,?_⟩
   refine fin h' (fun b o hb e=>(hsb.2 b hb).trans e) ⟨o',es',ep',t',xs',J',g1,g2,fun k=>?_,fun x hx=>?_,?_,?_⟩
   ·rw [tkeep,←j3,(hp.map (·.1)).mem_iff,List.map_append,List.mem_append]
    simp
   ·rcases List.mem_append.mp (hp.mem_iff.mp hx) with z | z
    ·exact j4 x z
    ·rw [List.mem_singleton] at z;subst z;exact hym
   ·rw [hp.length_eq,List.length_append,List.length_singleton];lia
   ·rw [(hp.map (·.1)).nodup_iff,List.map_append,List.nodup_append]
    refine ⟨j6,by simp,fun a ha b hb e=>?_⟩
    simp only [List.map_cons,List.map_nil,List.mem_singleton] at hb
    subst hb
    subst e
    exact hnm ha
end
section
variable {prog:Program} {w:World} {A:Around} {E:Value->Shared->Prop} {s:Shared}
theorem code_set_new1 (a:Value) {Q₁:Value->Shared->Prop} (h:Q₁ (.ref s.heap.objs.size) { s with heap:=s.heap.push { cls:=.type "set",dict:=none,data:=.set #[] 0 (.fresh 0 0 (!byT w)) } }) :
  codeAny (model prog w) A (.call (.builtin "set.__new__") ⟨[.type "set",a],[]⟩) (wants Q₁ E) s:=by
 refine codeAny_of_tree ?_
 show wpAny _ A.in1 (do checkBuiltinCall "set.__new__" ⟨[.type "set",a],[]⟩;again (.builtin "set.__new__" ⟨[.type "set",a],[]⟩)) _ _ s
 refine wpAny_bind (wpAny_of_eq (PySem.F.newCall_set_1 a) (wpAny_pure ⟨plainId_quiet PySem.F.plain_set_new _,codeAny_builtin PySem.F.entry_set_new ?_⟩))
 rw [Around.under_plainId PySem.F.plain_set_new _]
 unfold Builtin.«set.__new__» Builtin.Frozenset.newClass
 have hsub:=sub_set_self
 obtain ⟨hp,g,d,tk,os⟩:=s
 dsimp only
 wp_walk
 refine wpAny_askSetting (wpAny_pure ?_)
 dsimp only
 simp only [newObj]
 refine wpAny_bind (wpAny_alloc (wpAny_pure ?_))
 exact wpAny_pure h
theorem call_setC {l:Addr} {items:Array Value} {ys:List (List Int×Addr)} {Q:Value->Shared->Prop}
  (hh:A.handled=none) (hu:A.units+16 < cLine) (hl:s.heap.IsList l items) (hi:items.toList=ys.map fun y=>Value.ref y.2) (hcap:ys.length≤4900) (hys:∀ y∈ys,(TK prog w).is s.heap y.1 y.2)
  (h:∀ (h':Heap) (tk:Nat),SetUp w h' s.heap.objs.size ys ys.length->s.heap.objs.size≤h'.objs.size->(∀ b o,b < s.heap.objs.size->s.heap.get? b=some o->h'.get? b=some o)->Q (.ref s.heap.objs.size) { s with heap:=h',toks:=tk }) :
  wpAny (model prog w) A (call (.type "set") [.ref l]) Q E s:=by
 obtain ⟨c,tl,hmro⟩:=PySem.F.called_set.mro
 have hmade:=PySem.F.called_set.made
 have hsub:=PySem.F.called_set.sub
 have hisz:items.size=ys.length:=by rw [←Array.length_toList,hi,List.length_map]
 refine wpAny_call (codeAny_of_tree ?_)
 show wpAny _ _ (callAny (.type "set") _) _ _ _
 refine wpAny_pure ⟨Code.quiet_builtin _ (by decide +kernel),codeAny_builtin PySem.F.entry_type_call ?_⟩
 rw [Around.under_plain (weight_type_call_type "set" [.ref l] []) rfl]
 have h1:=PySem.F.called_set.notType
 have h2:=PySem.F.called_set.canCreate
 have hct:=PySem.F.typeCall_set_1 (.ref l)
 repeat (any_goals (first | assumption | wp_step))
 refine codeAny_mono (code_set_new1 (.ref l) (E:=E) (Q₁:=fun obj s₁=>obj=.ref s.heap.objs.size/\s₁={ s with heap:=s.heap.push { cls:=.type "set",dict:=none,data:=.set #[] 0 (.fresh 0 0 (!byT w)) } }) ⟨rfl,rfl⟩) fun r s₁ hr=>?_
 cases r with
 | error e=>exact hr
 | ok fl =>
  cases fl with
  | ret obj =>
   obtain ⟨rfl,rfl⟩:=hr
   generalize hled:(!byT w)=led
   have hS:(s.heap.push { cls:=.type "set",dict:=none,data:=.set #[] 0 (.fresh 0 0 led) }).get? s.heap.objs.size=some { cls:=.type "set",dict:=none,data:=.set #[] 0 (.fresh 0 0 led) }:=Heap.get?_push_size _ rfl
   have hT:Shared.TypeIs { s with heap:=s.heap.push { cls:=.type "set",dict:=none,data:=.set #[] 0 (.fresh 0 0 led) } } (.ref s.heap.objs.size) "set":=⟨_,hS,rfl⟩
   have hli:=PySem.F.called_set.init.lookup
   have hbi:=PySem.F.called_set.init.bind (.ref s.heap.objs.size)
   repeat (any_goals (first | assumption | wp_step))
   refine codeAny_mono (codeAny_call_builtin (R:=wants (fun r s₂=>r=.none/\∃ h' tk,s₂={ s with heap:=h',toks:=tk }/\SetUp w h' s.heap.objs.size ys ys.length /\
     s.heap.objs.size≤h'.objs.size/\(∀ b o,b < s.heap.objs.size->s.heap.get? b=some o->h'.get? b=some o)) E) PySem.F.called_set.init.plain PySem.F.entry_set_init (check_set_init_1 hT ?_)) fun r₂ s₂ hr₂=>?_
   ·obtain ⟨ol,hol,hcl,nl,hdl⟩:=hl
    obtain ⟨ocls,odict,odata,oslots⟩:=ol
    simp only at hcl hdl
    subst hcl;subst hdl
    have hol':(s.heap.push { cls:=.type "set",dict:=none,data:=.set #[] 0 (.fresh 0 0 led) }).get? l=some { cls:=.type "list",dict:=odict,data:=.seq items nl,slots:=oslots }:=Heap.get?_push_of_some _ hol
    have hsls:=PySem.F.sub_list_set
    have hslf:=PySem.F.sub_list_frozenset
    have hne:(Value.type "list"==Value.type "dict")=false:=by decide
    have hl1:(s.heap.push { cls:=.type "set",dict:=none,data:=.set #[] 0 (.fresh 0 0 led) }).IsList l items:=⟨_,hol',rfl,nl,rfl⟩
    unfold Builtin.«set.__init__» noKeywords Builtin.Frozenset.updateFrom
    generalize hPI:pyIter=PI
    wp_walk
    subst hPI
    refine wpAny_pyIter_list hl1 ?_
    refine wpAny_bind (wpAny_runValue ?_)
    have hlS:l < s.heap.objs.size:=Heap.lt_size hol
    have hh3:A.in1.in1.in1.handled=none:=by simp [hh]
    have hneI:l≠(s.heap.push { cls:=.type "set",dict:=none,data:=.set #[] 0 (.fresh 0 0 led) }).objs.size:=by
     rw [Heap.size_push];exact Nat.ne_of_lt (Nat.lt_succ_of_lt hlS)
    have hSf:s.heap.objs.size∉[(s.heap.push { cls:=.type "set",dict:=none,data:=.set #[] 0 (.fresh 0 0 led) }).objs.size,l]:=by
     rw [Heap.size_push];simp only [List.mem_cons,List.mem_singleton,List.not_mem_nil,or_false,not_or]
     exact ⟨Nat.ne_of_lt (Nat.lt_succ_self _),Nat.ne_of_gt hlS⟩
    have hW:=(Walks.list (prog:=prog) (w:=w) hh3 _ l hneI items).toS
    rw [hisz] at hW
    refine set_loop hW s.heap.objs.size hSf (by show A.units+3 < cLine;lia) hcap (fun i v hv=>?_) (fun y hy=>?_) (ys.length - 0) 0 _ (by lia) (Nat.zero_le _)
     ⟨⟨_,Heap.get?_push_size _ rfl,rfl,rfl⟩,(hl1.push _)⟩ ?hS0 (fun y hy=>tk_to (hys y hy) fun o e=>Heap.get?_push_of_some _ (Heap.get?_push_of_some _ e)) ?hR
    ·rw [←Array.getElem?_toList,hi,List.getElem?_map] at hv
     obtain ⟨y,hy,rfl⟩:=Option.map_eq_some_iff.mp hv
     exact ⟨y,hy,rfl⟩
    ·have:y.2 < s.heap.objs.size:=by
      obtain ⟨o',_,_,ho',_⟩:=hys y hy
      exact Heap.lt_size ho'
     rw [Heap.size_push]
     simp only [List.mem_singleton]
     exact Nat.ne_of_lt (Nat.lt_succ_of_lt this)
    case hS0 =>
     have hget:((s.heap.push { cls:=.type "set",dict:=none,data:=.set #[] 0 (.fresh 0 0 led) }).push { cls:=.type "list_iterator",data:=.fields #[.ref l,.int 0 0] }).get? s.heap.objs.size
       = some { cls:=.type "set",dict:=none,data:=.set #[] 0 (.fresh 0 0 led) }:=Heap.get?_push_of_some _ hS
     exact ⟨_,#[],0,_,[],⟨hget,⟨rfl,rfl,rfl⟩,rfl,rfl,tok_fresh 0 0 led,hled.symm,rfl⟩,.inl rfl,by show 0 < 7 * 3;decide,fun k=>by simp,(fun x h=>nomatch h),Nat.le_refl _,.nil⟩
    case hR =>
     intro s' hm hS'
     obtain ⟨h',g',d',tk',os'⟩:=s'
     have eg:g'=s.gens:=hm.gens
     have ed:d'=s.drawn:=hm.drawn
     have eo:os'=s.os:=hm.os
     subst eg;subst ed;subst eo
     show wpAny _ _ _ _ _ _
     refine wpAny_pure ?_
     show wpAny _ _ (ret Value.none) _ _ _
     refine wpAny_pure ⟨rfl,h',tk',rfl,hS',?_,fun b o hb e=>?_⟩
     ·obtain ⟨o,_,_,_,_,J,_⟩:=hS'
      exact Nat.le_of_lt (Heap.lt_size J.ho)
     have hb1:b≠s.heap.objs.size:=Nat.ne_of_lt hb
     have hb2:b≠(s.heap.push { cls:=.type "set",dict:=none,data:=.set #[] 0 (.fresh 0 0 led) }).objs.size:=by
      rw [Heap.size_push];exact Nat.ne_of_lt (Nat.lt_succ_of_lt hb)
     exact hm.heap b o (by simp only [List.mem_cons,List.mem_singleton,List.not_mem_nil,or_false,not_or];exact ⟨hb1,hb2⟩) (Heap.get?_push_of_some _ (Heap.get?_push_of_some _ e))
   ·cases r₂ with
    | error e=>exact hr₂
    | ok fl₂ =>
     cases fl₂ with
     | ret r =>
      obtain ⟨rfl,h',tk,rfl,hS',hz,hk'⟩:=hr₂
      repeat (any_goals (first | assumption | wp_step))
      exact h _ _ hS' hz hk'
     | _=>exact hr₂.elim
  | _=>exact hr.elim
end
theorem owner_seti:Manifest.owners.lookup (String.ofList ['r','o','t','a','r','e','t','i','_','t','e','s'].reverse)=some Manifest.sig_set_iterator:=by kernel_rfl
theorem slot_seti_next:Slot "set_iterator" "__next__" "set_iterator.__next__" :=
 .of (owner:="set_iterator") (n:="__next__") (by rw [typeLookup_type,builtinLookup_eq_fast];kernel_rfl) (by decide +kernel) (by decide +kernel) (by decide +kernel)
  (by first | exact .inl (by decide +kernel) | exact .inr (by decide +kernel)) (by rw [isSubtype_type];kernel_rfl)
theorem entry_seti_next:entryFor table "set_iterator.__next__"=some Builtin.«set_iterator.__next__»:=entryFor_of_tree (by kernel_rfl)
theorem args_seti_next (a:Value):argsOk "set_iterator.__next__" ⟨[a],[]⟩:=by
 unfold argsOk;rw [signature?_of (id:="set_iterator.__next__") (n:=['_','_','t','x','e','n','_','_']) (o:=['r','o','t','a','r','e','t','i','_','t','e','s']) (by kernel_rfl) owner_seti];kernel_rfl
theorem slot_seti_iter:Slot "set_iterator" "__iter__" "set_iterator.__iter__" :=
 .of (owner:="set_iterator") (n:="__iter__") (by rw [typeLookup_type,builtinLookup_eq_fast];kernel_rfl) (by decide +kernel) (by decide +kernel) (by decide +kernel)
  (by first | exact .inl (by decide +kernel) | exact .inr (by decide +kernel)) (by rw [isSubtype_type];kernel_rfl)
theorem entry_seti_iter:entryFor table "set_iterator.__iter__"=some Builtin.«dict_keyiterator.__iter__» :=
 entryFor_alias (id':="dict_keyiterator.__iter__") (by kernel_rfl) rfl (by decide +kernel) (by kernel_rfl)
theorem args_seti_iter (a:Value):argsOk "set_iterator.__iter__" ⟨[a],[]⟩:=by
 unfold argsOk;rw [signature?_of (id:="set_iterator.__iter__") (n:=['_','_','r','e','t','i','_','_']) (o:=['r','o','t','a','r','e','t','i','_','t','e','s']) (by kernel_rfl) owner_seti];kernel_rfl
theorem entry_set_iter:entryFor table "set.__iter__"=some Builtin.«frozenset.__iter__» :=
 entryFor_alias (id':="frozenset.__iter__") (by kernel_rfl) rfl (by decide +kernel) (by kernel_rfl)
theorem perm_at {α:Type}:∀ {l:List α} {i:Nat} (h:i < l.length),(l[i] :: l.eraseIdx i).Perm l
 | a :: l,0,_=>by simp
 | a :: l,i+1,h=>by
  have h':i < l.length:=by simpa using h
  rw [List.getElem_cons_succ,List.eraseIdx_cons_succ]
  exact (List.Perm.swap _ _ _).trans (List.Perm.cons a (perm_at h'))
theorem pick_go {α:Type} (next:Nat->Nat):∀ (fuel k:Nat) (left:List α) (out:Array α),left.length=fuel->∃ r,(pickOrder.go next fuel k left out).toList=out.toList ++ r/\r.Perm left
 | 0,k,left,out,h=>⟨[],by simp [pickOrder.go],by rw [List.length_eq_zero_iff.mp h]⟩
 | fuel+1,k,left,out,h=>by
  have hp:0 < left.length:=by lia
  have hlt:next k % left.length < left.length:=Nat.mod_lt _ hp
  rw [pickOrder.go,List.getElem?_eq_getElem hlt]
  dsimp only
  obtain ⟨r,e1,e2⟩:=pick_go next fuel (k+1) (left.eraseIdx (next k % left.length)) (out.push left[next k % left.length]) (by rw [List.length_eraseIdx,if_pos hlt];lia)
  refine ⟨left[next k % left.length] :: r,by rw [e1];simp,?_⟩
  refine (List.Perm.cons _ e2).trans ?_
  exact perm_at hlt
theorem pick_perm {α:Type} (next:Nat->Nat) (xs:Array α):(pickOrder next xs).toList.Perm xs.toList:=by
 obtain ⟨r,e1,e2⟩:=pick_go next xs.size 0 xs.toList #[] (Array.length_toList)
 unfold pickOrder
 rw [e1]
 simpa using e2
noncomputable def wOrd (w:World) (S:Addr) (ep:Nat) (es:Array (Int×Value)):Array (Int×Value):=if byT w=true then pickOrder (w.params.setOrder S ep) es else es
theorem wOrd_perm (w:World) (S:Addr) (ep:Nat) (es:Array (Int×Value)):(wOrd w S ep es).toList.Perm es.toList:=by
 unfold wOrd
 split
 ·exact pick_perm _ _
 ·exact List.Perm.refl _
theorem wOrd_size (w:World) (S:Addr) (ep:Nat) (es:Array (Int×Value)):(wOrd w S ep es).size=es.size:=by
 have:=(wOrd_perm w S ep es).length_eq
 simpa using this
structure SRaw (w:World) (h:Heap) (S:Addr) (es:Array (Int×Value)) (ep:Nat) (t:SetTable):Prop where
 o:∃ o,h.get? S=some o/\o.ExactSet/\o.data=.set es ep t
 rise:t.place.toList.Pairwise (· < ·)
 len:t.place.size=es.size
 fits:t.fits es.size=true
 led:t.led=!byT w
 pl:t.plain=true
theorem SRaw.to {w:World} {h h':Heap} {S:Addr} {es ep t} (x:SRaw w h S es ep t) (e:∀ o,h.get? S=some o->h'.get? S=some o):SRaw w h' S es ep t:=let ⟨⟨o,a,r⟩,q1,q2,q3,q4,q5⟩:=x;⟨⟨o,e _ a,r⟩,q1,q2,q3,q4,q5⟩
theorem SRaw.lt {w:World} {h:Heap} {S:Addr} {es ep t} (x:SRaw w h S es ep t):S < h.objs.size:=let ⟨⟨o,a,_⟩,_,_,_,_,_⟩:=x;Heap.lt_size a
noncomputable def IsSI (h:Heap) (it S:Addr) (slot i n ep:Nat):Prop:=∃ o,h.get? it=some o/\o.cls=.type "set_iterator"/\o.data=.fields #[.int slot 0,.int i 0,.ref S,.int n 0,.int ep 0]
theorem below_zero {xs:Array Nat} (hr:xs.toList.Pairwise (· < ·)):below xs 0=0:=by
 obtain ⟨a,b,c⟩:=below_spec hr 0
 rcases Nat.eq_zero_or_pos (below xs 0) with z | z
 ·exact z
 ·have hlt:0 < xs.size:=by lia
  have:=a 0 _ z (Array.getElem?_eq_getElem hlt)
  lia
theorem below_next {xs:Array Nat} (hr:xs.toList.Pairwise (· < ·)) {i v:Nat} (h:xs[i]?=some v):below xs (v+1)=i+1:=by
 obtain ⟨a,b,c⟩:=below_spec hr (v+1)
 rcases Nat.lt_trichotomy (below xs (v+1)) (i+1) with z | z | z
 ·have:=b i v (by lia) h;lia
 ·exact z
 ·have hlt:i+1 < xs.size:=by lia
  have e:=Array.getElem?_eq_getElem hlt
  have:=a (i+1) _ z e
  have:=rise_get hr (Nat.lt_succ_self i) h e
  lia
section
variable {prog:Program} {w:World} {A:Around} {E:Value->Shared->Prop} {s:Shared} {S it:Addr} {es:Array (Int×Value)} {ep i slot:Nat} {t:SetTable}
theorem SRaw.ty (x:SRaw w s.heap S es ep t):s.TypeIs (.ref S) "set":=let ⟨⟨o,a,c,_⟩,_,_,_,_,_⟩:=x;⟨o,a,c.1⟩
theorem IsSI.ty (x:IsSI s.heap it S slot i es.size ep):s.TypeIs (.ref it) "set_iterator":=let ⟨o,a,c,_⟩:=x;⟨o,a,c⟩
theorem byText_ {Q:Bool->Shared->Prop} (h:Q (byT w) s):wpAny (model prog w) A setsByText Q E s:=by
 unfold setsByText
 exact wpAny_bind (wpAny_askSetting (wpAny_pure h))
theorem SRaw.state (x:SRaw w s.heap S es ep t) {Q:(Array (Int×Value)×Nat×SetTable)->Shared->Prop} (h:Q (es,ep,t) s):wpAny (model prog w) A (setState S) Q E s:=by
 obtain ⟨⟨o,ho,_,hd⟩,_⟩:=id x
 exact wpAny_setState_of ho hd x.fits h
theorem sraw_iter {Q:Value->Shared->Prop} (x:SRaw w s.heap S es ep t)
  (q:Q (.ref s.heap.objs.size) { s with heap:=s.heap.push { cls:=.type "set_iterator",data:=.fields #[.int 0 0,.int 0 0,.ref S,.int es.size 0,.int ep 0] } }):wpAny (model prog w) A (pyIter (.ref S)) Q E s:=by
 refine wpAny_pyIter_slot x.ty PySem.F.slot_set_iter (wpAny_call_entry PySem.F.slot_set_iter x.ty entry_set_iter ?_ (PySem.F.args_set_iter_1 _))
 unfold Builtin.«frozenset.__iter__» Builtin.Frozenset.slot0 slotArgs
 simp only [List.isEmpty_nil,Bool.not_true,Bool.false_eq_true,↓reduceIte,bind_assoc,List.length_nil,bne_self_eq_false]
 unfold Builtin.Frozenset.addrOf Builtin.Frozenset.sizeOf setEntries setDrawn setEpoch
 refine wpAny_bind (wpAny_pure ?_)
 dsimp only
 refine wpAny_bind (wpAny_pure ?_)
 refine wpAny_bind (wpAny_bind (wpAny_bind (x.state (wpAny_pure (wpAny_pure ?_)))))
 refine wpAny_bind (wpAny_bind (x.state (wpAny_bind (byText_ (wpAny_pure ?_)))))
 dsimp only
 refine StT.wp_no (fun z=>by have z:(!byT w&&(!t.plain&&_))=true:=z;rw [x.pl] at z;simp at z) ?_
 refine wpAny_bind (wpAny_pure ?_)
 refine wpAny_bind (wpAny_bind (x.state (wpAny_pure ?_)))
 unfold newFields
 refine wpAny_bind (wpAny_newObj_type (wpAny_pure ⟨_,rfl,"set_iterator",_,⟨_,Heap.get?_push_size _ rfl,rfl⟩,slot_seti_next.lookup,q⟩))
theorem setNext_some (x:SRaw w s.heap S es ep t) (hb:byT w=false->below t.place slot=i) {v:Value} {hv:Int} (he:(wOrd w S ep es)[i]?=some (hv,v)) {Q:Option (Value×Nat)->Shared->Prop}
  (q:∀ sl,(byT w=false->below t.place sl=i+1)->Q (some (v,sl)) s):wpAny (model prog w) A (setNext S slot i ep) Q E s:=by
 unfold setNext
 refine wpAny_bind (x.state ?_)
 dsimp only
 refine wpAny_bind (byText_ ?_)
 unfold wOrd at he
 by_cases g:byT w=true
 ·rw [if_pos g] at he
  rw [g]
  simp only [if_true,bne_self_eq_false,Bool.false_eq_true,if_false]
  unfold setWalk
  refine wpAny_bind (wpAny_bind (x.state ?_))
  dsimp only
  refine wpAny_bind (byText_ ?_)
  rw [g]
  simp only [if_true]
  refine wpAny_bind (wpAny_askSetting (wpAny_pure ?_))
  refine wpAny_pure ?_
  have he':(pickOrder ((model prog w).w.params.setOrder S ep) es)[i]?=some (hv,v):=he
  dsimp only
  rw [he']
  exact q slot fun z=>by rw [g] at z;cases z
 ·have g0:byT w=false:=by simpa using g
  rw [if_neg g] at he
  rw [g0]
  simp only [Bool.false_eq_true,if_false]
  refine StT.wp_no (fun z=>by have z:(!t.plain&&_)=true:=z;rw [x.pl] at z;cases z) ?_
  have hl:t.led=true:=by rw [x.led,g0];rfl
  refine wpAny_bind (StT.wp_is (y:=pure ()) ?el (wpAny_pure ?_))
  case el =>
   show (if (!t.led&&!es.isEmpty)=true then _ else _)=_
   rw [hl]
   rfl
  have hi:i < t.place.size:=by rw [x.len];exact (Array.getElem?_eq_some_iff.mp he).1
  have ep':t.place[i]?=some t.place[i]:=Array.getElem?_eq_getElem hi
  rw [hb g0,he,ep']
  exact wpAny_pure (q _ fun _=>below_next x.rise ep')
theorem setNext_none (x:SRaw w s.heap S es ep t) (hb:byT w=false->below t.place slot=i) (he:es.size≤i) {Q:Option (Value×Nat)->Shared->Prop} (q:Q none s):wpAny (model prog w) A (setNext S slot i ep) Q E s:=by
 have he2:(wOrd w S ep es)[i]?=none:=Array.getElem?_eq_none (by rw [wOrd_size];exact he)
 unfold setNext
 refine wpAny_bind (x.state ?_)
 dsimp only
 refine wpAny_bind (byText_ ?_)
 unfold wOrd at he2
 by_cases g:byT w=true
 ·rw [if_pos g] at he2
  rw [g]
  simp only [if_true,bne_self_eq_false,Bool.false_eq_true,if_false]
  unfold setWalk
  refine wpAny_bind (wpAny_bind (x.state ?_))
  dsimp only
  refine wpAny_bind (byText_ ?_)
  rw [g]
  simp only [if_true]
  refine wpAny_bind (wpAny_askSetting (wpAny_pure ?_))
  refine wpAny_pure ?_
  have he':(pickOrder ((model prog w).w.params.setOrder S ep) es)[i]?=none:=he2
  dsimp only
  rw [he']
  exact q
 ·have g0:byT w=false:=by simpa using g
  rw [if_neg g] at he2
  rw [g0]
  simp only [Bool.false_eq_true,if_false]
  refine StT.wp_no (fun z=>by have z:(!t.plain&&_)=true:=z;rw [x.pl] at z;cases z) ?_
  have hl:t.led=true:=by rw [x.led,g0];rfl
  refine wpAny_bind (StT.wp_is (y:=pure ()) ?el (wpAny_pure ?_))
  case el =>
   show (if (!t.led&&!es.isEmpty)=true then _ else _)=_
   rw [hl]
   rfl
  rw [hb g0,he2]
  exact wpAny_pure q
theorem sraw_next {Q:Option Value->Shared->Prop} (u:IsSI s.heap it S slot i es.size ep) (x:SRaw w s.heap S es ep t) (hne:S≠it) (hb:byT w=false->below t.place slot=i) {v:Value} {hv:Int} (he:(wOrd w S ep es)[i]?=some (hv,v))
  (q:∀ h' sl,IsSI h' it S sl (i+1) es.size ep->(byT w=false->below t.place sl=i+1)->Heap.SameBut it s.heap h'->Q (some v) { s with heap:=h' }):wpAny (model prog w) A (pyNext (.ref it)) Q E s:=by
 obtain ⟨o,ho,hc,hd⟩:=id u
 unfold pyNext
 refine wpAny_bind (wpAny_attempt (wpAny_callSpecial?_slot (name:=Str.ofString "__next__") u.ty slot_seti_next (wpAny_call_entry slot_seti_next u.ty entry_seti_next ?_ (args_seti_next _))))
 unfold Builtin.«set_iterator.__next__» slotArgs
 simp only [List.isEmpty_nil,Bool.not_true,Bool.false_eq_true,↓reduceIte,bind_assoc,List.length_nil,bne_self_eq_false]
 refine wpAny_bind (wpAny_pure ?_)
 refine wpAny_bind (wpAny_fieldsOf ho hd ?_)
 dsimp only
 unfold setEntries
 refine wpAny_bind (wpAny_bind (x.state (wpAny_pure ?_)))
 simp only [bne_self_eq_false,Bool.false_eq_true,if_false]
 refine wpAny_bind ?_
 rw [Int.toNat_natCast,Int.toNat_natCast,Int.toNat_natCast]
 refine setNext_some x hb he fun sl hsl=>?_
 dsimp only
 refine wpAny_bind (wpAny_setField ho hd (by simp) ?_)
 have ho1:(s.heap.update it (Obj.mapFields (·.setIfInBounds 0 (rawInt (sl:Int))))).get? it=some (Obj.mapFields (·.setIfInBounds 0 (rawInt (sl:Int))) o):=Heap.get?_update_self _ ho (Obj.isFreed_of_fields (Obj.data_mapFields hd _))
 have hd1:(Obj.mapFields (·.setIfInBounds 0 (rawInt (sl:Int))) o).data=.fields #[.int sl 0,.int i 0,.ref S,.int es.size 0,.int ep 0]:=by rw [Obj.data_mapFields hd];simp [rawInt]
 refine wpAny_bind (wpAny_setField ho1 hd1 (by simp) ?_)
 refine wpAny_pure ⟨_,rfl,wpAny_pure (q _ sl ⟨_,Heap.get?_update_self _ ho1 (Obj.isFreed_of_fields (Obj.data_mapFields hd1 _)),?_,?_⟩ hsl ((Heap.SameBut.update ..).trans (Heap.SameBut.update ..)))⟩
 ·rw [Obj.cls_mapFields,Obj.cls_mapFields];exact hc
 ·rw [Obj.data_mapFields hd1];simp [rawInt]
theorem sraw_end {Q:Option Value->Shared->Prop} (hh:A.handled=none) (u:IsSI s.heap it S slot i es.size ep) (x:SRaw w s.heap S es ep t) (hb:byT w=false->below t.place slot=i) (he:es.size≤i)
  (q:∀ h',Heap.ExtBut it s.heap h'->Q none { s with heap:=h' }):wpAny (model prog w) A (pyNext (.ref it)) Q E s:=by
 obtain ⟨o,ho,hc,hd⟩:=id u
 unfold pyNext
 refine wpAny_bind (wpAny_attempt (wpAny_callSpecial?_slot (name:=Str.ofString "__next__") u.ty slot_seti_next (wpAny_call_entry slot_seti_next u.ty entry_seti_next ?_ (args_seti_next _))))
 unfold Builtin.«set_iterator.__next__» slotArgs
 simp only [List.isEmpty_nil,Bool.not_true,Bool.false_eq_true,↓reduceIte,bind_assoc,List.length_nil,bne_self_eq_false]
 refine wpAny_bind (wpAny_pure ?_)
 refine wpAny_bind (wpAny_fieldsOf ho hd ?_)
 dsimp only
 unfold setEntries
 refine wpAny_bind (wpAny_bind (x.state (wpAny_pure ?_)))
 simp only [bne_self_eq_false,Bool.false_eq_true,if_false]
 refine wpAny_bind ?_
 rw [Int.toNat_natCast,Int.toNat_natCast,Int.toNat_natCast]
 refine setNext_none x hb he ?_
 dsimp only
 refine wpAny_bind (wpAny_setField ho hd (by simp) ?_)
 show wpAny _ _ (newExc (.type "StopIteration") [] >>= _) _ _ _;refine wpAny_bind ?_
 simp only [newExc,newTuple];refine wpAny_bind (wpAny_newObj_type ?_ (by size_fits))
 refine wpAny_bind (m:=firstArgMember _ _) (wpAny_of_eq (a:=Value.none) (by first | rfl | (simp only [firstArgMember];rfl)) (wpAny_newObj_type ?_ (by size_fits)))
 simp only [raiseNew];refine wpAny_bind (wpAny_handled ?_)
 rw [show A.in1.handled=none from hh];refine wpAny_bind (wpAny_pure (wpAny_throw ?_))
 refine wpAny_bind (wpAny_isInstance (T:="StopIteration") (b:=true) ⟨_,Heap.get?_push_size _ rfl,rfl⟩ isSubtype_stop (wpAny_pure (q _ (((Heap.SameBut.update ..).extBut.push _).push _))))
theorem sraw_walks (hh:A.handled=none) (I S:Addr) (hne:S≠I) (es:Array (Int×Value)) (ep:Nat) (t:SetTable) :
  Walks prog w A I [I,S] [I] es.size (fun i v=>∃ hv,(wOrd w S ep es)[i]?=some (hv,v)) (fun i h=>(∃ sl,IsSI h I S sl i es.size ep/\(byT w=false->below t.place sl=i))/\SRaw w h S es ep t) where
 sub:=fun b hb=>by simp only [List.mem_singleton] at hb;simp [hb]
 frame:=fun _ _ _ st k=>let ⟨⟨sl,⟨o,a,b⟩,c⟩,r⟩:=st;⟨⟨sl,⟨o,k I (by simp) o a,b⟩,c⟩,r.to fun o e=>k S (by simp) o e⟩
 item:=fun i s Q E hi st hQ=>by
  obtain ⟨⟨sl,u,hb⟩,x⟩:=st
  have hlt:i < (wOrd w S ep es).size:=by rw [wOrd_size];exact hi
  refine sraw_next u x hne hb (v:=((wOrd w S ep es)[i]).2) (hv:=((wOrd w S ep es)[i]).1) (Array.getElem?_eq_getElem hlt) fun h' sl' u' hb' sb=>?_
  exact hQ _ h' s.toks ⟨_,Array.getElem?_eq_getElem hlt⟩ ⟨⟨sl',u',hb'⟩,x.to fun o e=>(sb.2 S hne).trans e⟩ fun b o hb e=>(sb.2 b (fun z=>hb (by simp [z]))).trans e
 done:=fun s Q E st hQ=>by
  obtain ⟨⟨sl,u,hb⟩,x⟩:=st
  exact sraw_end hh u x hb (Nat.le_refl _) fun h' eb=>hQ h' s.toks fun b o hb e=>eb b o (fun z=>hb (by simp [z])) e
 self:=fun _ s Q E st hQ=>by
  obtain ⟨⟨sl,u,hb⟩,x⟩:=st
  refine wpAny_pyIter_slot u.ty slot_seti_iter (wpAny_call_entry slot_seti_iter u.ty entry_seti_iter ?_ (args_seti_iter _))
  show wpAny _ _ (ret (.ref I)) _ _ s
  exact wpAny_pure ⟨_,rfl,"set_iterator",_,u.ty,slot_seti_next.lookup,hQ⟩
theorem set_hint (hT:s.TypeIs (.ref S) "set") {Q:Bool->Shared->Prop} (h:Q false s):wpAny (model prog w) A (Builtin.List.listLengthHint (.ref S)) Q E s:=by
 unfold Builtin.List.listLengthHint
 refine wpAny_bind (wpAny_specialOf hT PySem.F.slot_set_len.lookup ?_)
 generalize hid:("set.__len__":String)=id0
 wp_delta
 rw [show splitId id0=some ("set","__len__") from by subst hid;decide +kernel]
 subst hid
 refine wpAny_bind (wpAny_isInstance (T:="set") (b:=true) hT (by rw [isSubtype_type];kernel_rfl) ?_)
 refine wpAny_ite_split (fun hab=>absurd hab (by decide)) (fun _=>?_)
 refine wpAny_ite_split (fun _=>?_) (fun hab=>absurd (by decide +kernel) hab)
 refine wpAny_bind (wpAny_typeOf hT ?_)
 exact wpAny_pure h
theorem sraw_src:PySem.W.KdlSrc prog w "set" S S es.size (fun i v=>∃ hv,(wOrd w S ep es)[i]?=some (hv,v)) (fun h=>SRaw w h S es ep t) where
 type:=fun _ x=>x.ty
 there:=fun _ x=>⟨x.lt,x.lt⟩
 keep:=fun _ _ x k=>x.to fun o e=>k S (.inl rfl) o e
 notList:=by decide
 notTuple:=by decide
 hint:=fun _ _ _ _ x q=>set_hint x.ty q
 iter:=fun _ _ hh x=>⟨_,_,(fun _ _ q=>sraw_iter x q),sraw_walks hh _ S (Nat.ne_of_lt x.lt) es ep t,⟨0,⟨_,Heap.get?_push_size _ rfl,rfl,rfl⟩,fun _=>below_zero x.rise⟩,x.to fun o e=>Heap.get?_push_of_some _ e⟩
end
end StT
namespace L2
open PySem PySem.W PySem.Spec PyProof.Rows Srt Pc StT
noncomputable def isSetO (w:World) (S:Addr) (xs:List (List Int×Addr)) (h:Heap):Prop:=∃ o es ep t,IsSet w h S o es ep t xs/\Siz t.mask/\xs.length * 5 < t.mask * 3
noncomputable def SetO (w:World) (S:Addr) (xs:List (List Int×Addr)):HO:=.ext (isSetO w S xs)
theorem setO_ok {P:Program} {w w':World} {H:Hp} {h:Heap} {S:Addr} {xs:List (List Int×Addr)} (x:isSetO w S xs h):ObjOk P w' H h S (SetO w S xs):=by
 refine ⟨x,?_,fun h1 h2 q k=>?_⟩
 ·obtain ⟨o,es,ep,t,I,_⟩:=x;exact ⟨o,I.ho⟩
 ·obtain ⟨o,es,ep,t,I,r⟩:=q;exact ⟨o,es,ep,t,⟨k _ I.ho,I.ex,I.hd,I.he,I.tok,I.led,I.pl⟩,r⟩
theorem items_of {prog:Program} {w:World}:∀ {ks:List Int} {its:List Value},Vals (ks.map V.int) its->ItemsAre (intKind prog w) ks its
 | [],_,.nil=>.nil
 | k :: ks,_,.cons r1 r2=>by
  obtain ⟨t,rfl⟩:=r1
  exact .cons (by show Value.isInt k (.int k t)=true;simp [Value.isInt]) (items_of r2)
section
variable {X:Cx}
theorem tk_of {pins:List (Addr×Obj)} {σ:St} {H:Hp} {s:Shared} (I:Inv X pins σ H s) {a:Addr} {ks:List Int} (h:H a=some (.tup (ks.map V.int))):(TK X.prog X.w).is s.heap ks a:=by
 obtain ⟨its,r,⟨o,ho,hc,n,hd⟩,_⟩:=I.tuple (SqT.of (K:=X.K) h)
 exact ⟨o,its.toArray,n,ho,hc,hd,items_of (by simpa using r)⟩
noncomputable def rSetC (K:PySem.W.Frag) (w:World):List V->Hp->VK->Prop:=fun xs H Q=>∃ (l:Addr) (ps:Prs),xs=[.ref l]/\SqL K H l (refs ps)/\(∀ q∈ps,H q.1=some (.tup (q.2.map V.int)))/\ps.length≤4900 /\
 ∀ (S:Addr) (es:List (List Int×Addr)),H S=none->(es.map (·.1)).Nodup->(∀ k,k∈es.map (·.1)↔k∈ps.map (·.2))->(∀ x∈es,H x.2=some (.tup (x.1.map V.int)))->Q (.ref S) (upd H S (SetO w S es))
theorem call_setCC (hc:X.calm=true) (hu:X.A.units+64 < cLine):CallR X (.type "set") (rSetC X.K X.w):=by
 intro pins s σ H xs us Q I r h
 obtain ⟨l,ps,rfl,hl,hp,hz,q⟩:=h
 obtain ⟨u,rfl,ru⟩:=vals1 r
 cases ru
 obtain ⟨its,rv,pl,hzz⟩:=I.list hl
 have hi:its=ps.map fun p=>Value.ref p.1:=by
  clear hp hz q hl pl hzz
  induction ps generalizing its with
  | nil=>have rv:Vals [] its:=rv;cases rv;rfl
  | cons p ps ih =>
   have rv:Vals (V.ref p.1 :: refs ps) its:=rv
   cases rv with
   | cons r1 r2=>cases r1;rw [List.map_cons,ih _ r2]
 refine call_setC (ys:=ps.map fun p=>(p.2,p.1)) (I.ok.hd hc) (by lia) pl.isList (by rw [List.map_map,List.toList_toArray];exact hi) (by rw [List.length_map];exact hz) (fun y hy=>?_) fun h' tk hS hsz hk=>?_
 ·obtain ⟨p,hpm,rfl⟩:=List.mem_map.mp hy
  exact tk_of I (hp p hpm)
 obtain ⟨o,es,ep,t,xs,J,j1,j2,j3,j4,j5,j6⟩:=hS
 rw [List.take_of_length_le (Nat.le_refl _),List.map_map] at j3
 refine ⟨.ref s.heap.objs.size,_,Fl.inv_laidN (t':=tk) I (fun b o e=>hk b o (Heap.lt_size e) e) (by cases z:s.heap.get? s.heap.objs.size with
  | none=>rfl
  | some o=>exact absurd (Heap.lt_size z) (Nat.lt_irrefl _)) (setO_ok ⟨o,es,ep,t,J,j1,j2⟩),rfl,q _ xs I.fresh j6 j3 fun x hx=>?_⟩
 obtain ⟨p,hpm,e⟩:=List.mem_map.mp (j4 x hx)
 rw [←e]
 exact hp p hpm
theorem qc_setC {K:PySem.W.Frag} {w:World} (h:X.K=K) (hw:X.w=w) (hc:X.calm=true) (hu:X.A.units+64 < cLine):QCl X (.type "set") (rSetC K w):=⟨h▸hw▸call_setCC hc hu⟩
theorem perm_maps {α β:Type} {f:α->β}:∀ {l:List β} {xs:List α},l.Perm (xs.map f)->∃ ys:List α,l=ys.map f/\ys.Perm xs
 | [],xs,h=>⟨[],rfl,by have:=h.length_eq;rw [List.length_map] at this;rw [List.length_eq_zero_iff.mp this.symm]⟩
 | b :: l,xs,h=>by
  obtain ⟨a,ha,rfl⟩:=List.mem_map.mp (h.mem_iff.mp List.mem_cons_self)
  obtain ⟨u,v,rfl⟩:=List.append_of_mem ha
  have h2:(f a :: l).Perm (f a :: (u ++ v).map f):=h.trans (by rw [List.map_append,List.map_cons,List.map_append];exact List.perm_middle)
  obtain ⟨ys,e1,e2⟩:=perm_maps (List.Perm.cons_inv h2)
  exact ⟨a :: ys,by rw [List.map_cons,e1],(List.Perm.cons a e2).trans List.perm_middle.symm⟩
noncomputable def rSortS (w:World):List V->Hp->VK->Prop:=fun xs H Q=>∃ (S:Addr) (es:List (List Int×Addr)) (m:Nat),xs=[.ref S]/\H S=some (SetO w S es)/\(∀ x∈es,H x.2=some (.tup (x.1.map V.int))/\x.1.length=m+1) /\
 ∀ (p:Addr) (zs:List V) (ks':List (List Int)),H p=none->ks'.Perm (es.map (·.1))->ks'.Pairwise (fun x y=>HT.lexLt y x=false)->Rs IsT (upd H p (.lst zs)) zs ks'->Q (.ref p) (upd H p (.lst zs))
theorem call_sortS (hc:X.calm=true):CallR X (.builtin "sorted") (rSortS X.w):=by
 intro pins s σ H xs us Q I r h
 obtain ⟨S,es,m,rfl,eS,hes,q⟩:=h
 obtain ⟨u,rfl,ru⟩:=vals1 r
 cases ru
 obtain ⟨⟨o,ea,ep,t,J,_,_⟩,_⟩:=I.hok S _ eS
 have raw:SRaw X.w s.heap S ea ep t:=⟨⟨o,J.ho,J.ex,J.hd⟩,J.tok.rise,by have:=J.tok.len;rw [List.length_map,Array.length_toList] at this;rw [this,J.sz],J.fits,J.led,J.pl⟩
 have hperm:=wOrd_perm X.w S ep ea
 rw [J.he] at hperm
 obtain ⟨xs',e1,e2⟩:=perm_maps hperm
 have hxl:xs'.length≤4915:=by
  have:=J.tok.fit
  have:=J.tok.turns
  rename_i g1 g2
  rw [e2.length_eq]
  lia
 have hn:ea.size≤sizeLine:=by rw [J.sz,←e2.length_eq,sizeLine_eq];lia
 refine sorted_src (sraw_src (es:=ea) (ep:=ep) (t:=t)) (I.ok.hd hc) raw hn fun h' tk vs kk hs hlv hv=>?_
 have ev:vs=xs'.map fun x=>Value.ref x.2:=by
  refine List.ext_getElem? fun j=>?_
  rcases Nat.lt_or_ge j vs.length with hj | hj
  ·have e:=List.getElem?_eq_getElem hj
   obtain ⟨hv',hu⟩:=hv j _ e
   rw [←Array.getElem?_toList,e1,List.getElem?_map] at hu
   rw [e,List.getElem?_map]
   obtain ⟨x,hx,hxe⟩:=Option.map_eq_some_iff.mp hu
   rw [hx]
   have:=congrArg Prod.snd hxe
   exact congrArg some this.symm
  ·rw [List.getElem?_eq_none hj,List.getElem?_eq_none (by rw [List.length_map,e2.length_eq,←J.sz];lia)]
 subst ev
 have hx':∀ x∈xs',H x.2=some (.tup (x.1.map V.int))/\x.1.length=m+1:=fun x hx=>hes x (e2.mem_iff.mp hx)
 have rT:Rs IsT H (xs'.map fun x=>V.ref x.2) (xs'.map (·.1)):=by
  clear hxl e1 e2 hlv hv
  induction xs' with
  | nil=>exact .nil
  | cons x r ih=>exact .cons ⟨x.2,rfl,(hx' x List.mem_cons_self).1⟩ (ih fun y hy=>hx' y (List.mem_cons_of_mem _ hy))
 have rv:Vals (xs'.map fun x=>V.ref x.2) (xs'.map fun x=>Value.ref x.2):=by
  clear hxl e1 e2 hlv hv hx' rT
  induction xs' with
  | nil=>exact .nil
  | cons x r ih=>exact .cons rfl ih
 refine sort_laidT (m:=m) I rT (fun k hk=>?_) rv (by rw [List.length_map,sizeLine_eq];lia) kk hs fun p zs ks' s' hp h1 h2 hcz I' e=>?_
 ·obtain ⟨x,hx,rfl⟩:=List.mem_map.mp hk
  exact (hx' x hx).2
 ·exact ⟨.ref p,_,I',by rw [e];rfl,q p zs ks' hp (h1.trans (e2.map _)) h2 hcz⟩
theorem qc_sortS {w:World} (hw:X.w=w) (hc:X.calm=true):QCl X (.builtin "sorted") (rSortS w):=⟨hw▸call_sortS hc⟩
end
end L2
namespace Pc
open PySem L2 Srt
theorem ins_ln (ax:Ax) (p q n:Int):lnI ax (insC ax p q n)=[p,q]:=by cases ax <;> rfl
theorem ins_n (ax:Ax) (p q n:Int):ax.at (insC ax p q n)=n:=by cases ax <;> rfl
theorem ins_of {ax:Ax} {c:C3} {p q:Int} (h:lnI ax c=[p,q]):c=insC ax p q (ax.at c):=by
 obtain ⟨x,y,z⟩:=c
 cases ax <;> simp only [lnI,List.cons.injEq,and_true] at h <;> obtain ⟨rfl,rfl⟩:=h <;> rfl
theorem cut_ins (ax:Ax) (p q n:Int):cutV [V.int p,V.int q] none (some ax.n) ++ [V.int n] ++ cutV [V.int p,V.int q] (some ax.n) none=(insC ax p q n).v:=by cases ax <;> rfl
theorem big_ok {n:Nat} (h:n≤1000000):n < sizeLine:=by rw [sizeLine_eq];lia
theorem lk_head {ns:List Int} {M N:Int} (hp:ns.Pairwise (· < ·)) (h1:M∈ns) (h2:∀ a,a∈ns->M≤a) (h3:N∈ns) (h4:∀ a,a∈ns->a≤N):M=ns.headD 0/\N=ns.getLastD 0:=⟨(mm_due hp h1 h2 h3 h4).1,(mm_due hp h1 h2 h3 h4).2.1⟩
open PySem PySem.W L2 Srt
noncomputable def Odd (H:Hp) (v:V):Prop:=(∃ a xs,v=.ref a/\H a=some (.tup xs)/\xs.all smp=true/\xs.length≤4/\(decide (xs.length=3)&&xs.all nearV)=false)\/smp v=true\/(∃ a ys,v=.ref a/\H a=some (.lst ys))\/∃ a kvs,v=.ref a/\H a=some (.dT kvs)
theorem Odd.up {H H':Hp} {v:V} (s:Same H H') (h:Odd H v):Odd H' v:=by
 rcases h with ⟨a,xs,e,q,r⟩ | h | ⟨a,ys,e,q⟩ | ⟨a,kvs,e,q⟩
 ·exact .inl ⟨a,xs,e,s _ _ q,r⟩
 ·exact .inr (.inl h)
 ·exact .inr (.inr (.inl ⟨a,ys,e,s _ _ q⟩))
 ·exact .inr (.inr (.inr ⟨a,kvs,e,s _ _ q⟩))
theorem Odd.lst {H:Hp} {v:V} {p:Addr} {us zs:List V} (h':H p=some (.lst us)) (h:Odd H v):Odd (upd H p (.lst zs)) v:=by
 rcases h with ⟨a,xs,e,q,r⟩ | h | ⟨a,ys,e,q⟩ | ⟨a,kvs,e,q⟩
 ·exact .inl ⟨a,xs,e,lk_kind h' (by intro z;cases z) q,r⟩
 ·exact .inr (.inl h)
 ·by_cases z:a=p
  ·subst z;exact .inr (.inr (.inl ⟨a,zs,e,upd_same⟩))
  ·exact .inr (.inr (.inl ⟨a,ys,e,lk_ne z q⟩))
 ·exact .inr (.inr (.inr ⟨a,kvs,e,lk_kind h' (by intro z;cases z) q⟩))
theorem keys_cells {es:List (List Int)} {cs:List C3} (h:∀ k,k∈es↔k∈cs.map C3.l):∃ ds:List C3,es=ds.map C3.l/\∀ c,c∈ds↔c∈cs:=by
 have:∃ ds:List C3,es=ds.map C3.l:=by
  have hm:∀ k∈es,∃ c:C3,k=c.l:=fun k hk=>by
   obtain ⟨c,_,e⟩:=List.mem_map.mp ((h k).mp hk)
   exact ⟨c,e.symm⟩
  clear h
  induction es with
  | nil=>exact ⟨[],rfl⟩
  | cons x L ih =>
   obtain ⟨c,e⟩:=hm x (List.mem_cons_self ..)
   obtain ⟨ds,e2⟩:=ih fun y hy=>hm y (List.mem_cons_of_mem _ hy)
   exact ⟨c :: ds,by rw [e,e2];rfl⟩
 obtain ⟨ds,e⟩:=this
 refine ⟨ds,e,fun c=>?_⟩
 have q:=h c.l
 rw [e] at q
 have inj:∀ {xs:List C3},c.l∈xs.map C3.l↔c∈xs:=fun {xs}=>by
  rw [List.mem_map]
  exact ⟨fun ⟨d,hd,e⟩=>C3.inj.mp e▸hd,fun hc=>⟨c,hc,rfl⟩⟩
 rw [inj,inj] at q
 exact q
theorem body_sorted {H:Hp} {zs:List V} {ks' es:List (List Int)} {cs:List C3} (hp:ks'.Perm es) (hs:ks'.Pairwise (fun x y=>HT.lexLt y x=false)) (hr:Rs IsT H zs ks') (hn:es.Nodup) (hm:∀ k,k∈es↔k∈cs.map C3.l):Cs H zs (bodyC cs):=by
 obtain ⟨ds,e,hd⟩:=keys_cells (es:=ks') (cs:=cs) fun k=>hp.mem_iff.trans (hm k)
 have hnd:ds.Nodup:=by
  have:=hp.nodup_iff.mpr hn
  rw [e] at this
  exact List.Pairwise.of_map _ (fun a b h z=>h (by rw [z])) this
 have hasc:Asc ds:=by
  rw [e] at hs
  exact (List.pairwise_map.mp hs).imp fun h=>by unfold cle;rw [h];rfl
 have eb:ds=bodyC cs:=asc_ext hasc (bodyC_asc cs) hnd (bodyC_nodup cs) fun x=>by rw [bodyC_mem];exact hd x
 rw [←eb]
 subst e
 clear eb hasc hnd hd hs hp
 induction ds generalizing zs with
 | nil=>cases hr;exact .nil
 | cons c ds ih =>
  cases hr with
  | cons h t=>exact .cons h (ih t)
theorem cut_sub' {α:Type} (xs:List α) (lo hi:Option Int):(cutX xs lo hi).Sublist xs:=(List.take_sublist _ _).trans (List.drop_sublist _ _)
end Pc
namespace L2
open PySem PySem.W PySem.Spec PyProof.Rows Srt Pc
noncomputable def isViewO (v d:Addr) (h:Heap):Prop:=h.IsItemsView v d
noncomputable def ViewO (v d:Addr):HO:=.ext (isViewO v d)
theorem viewO_ok {P:Program} {w:World} {H:Hp} {h:Heap} {v d:Addr} (x:isViewO v d h):ObjOk P w H h v (ViewO v d):=by
 refine ⟨x,?_,fun h1 h2 q k=>?_⟩
 ·obtain ⟨o,e,_⟩:=x;exact ⟨o,e⟩
 ·obtain ⟨o,e,r⟩:=q;exact ⟨o,k _ e,r⟩
section
variable {prog:Program} {w:World} {A:Around} {E:Value->Shared->Prop} {s:Shared} {d it v:Addr} {es:Array DictEntry} {ep i:Nat} {ok ov:Value}
theorem raw_items {Q:Value->Shared->Prop} (lo:(d==sysModules)=false) (x:DRaw s.heap d es ep) (q:Q (.ref s.heap.objs.size) { s with heap:=s.heap.push { cls:=.type "dict_items",data:=.fields #[.ref d] } }) :
  wpAny (model prog w) A (call (.builtin "dict.items") [.ref d]) Q E s:=by
 refine wpAny_call_entry PySem.F.slot_dict_items x.ty PySem.F.entry_dict_items ?_ (PySem.F.args_dict_items_1 _)
 unfold Builtin.«dict.items» Builtin.Dict.noArgs Builtin.Dict.showsAll
 refine wpAny_bind (wpAny_bind (wpAny_notOrdered_dict x.ty (show wpAny _ _ (pure d) _ _ s from wpAny_pure ?_)))
 rw [if_neg (by rw [lo];exact Bool.false_ne_true)]
 exact wpAny_bind (wpAny_pure (wpAny_bind (wpAny_newObj_type (wpAny_pure ⟨_,rfl,q⟩))))
theorem raw_iter2 {Q:Value->Shared->Prop} (hv:s.heap.IsItemsView v d) (x:DRaw s.heap d es ep)
  (q:Q (.ref s.heap.objs.size) { s with heap:=s.heap.push { cls:=.type "dict_itemiterator",data:=.fields #[.none,.bool false,.ref d,.int 0 0,.int es.size 0,.int ep 0,.none,.none] } }):wpAny (model prog w) A (pyIter (.ref v)) Q E s:=by
 obtain ⟨o',hov,_,hdv⟩:=id hv
 obtain ⟨o,a,c,dat⟩:=id x
 refine wpAny_pyIter_slot hv.typeIs PySem.F.slot_dict_items_iter (wpAny_call_entry PySem.F.slot_dict_items_iter hv.typeIs PySem.F.entry_dict_items_iter ?_ (PySem.F.args_dict_items_iter_1 _))
 unfold Builtin.«dict_items.__iter__» Builtin.Dict_items.dictOf Builtin.Dict_items.newIterator
 refine wpAny_bind (wpAny_pure (wpAny_bind (wpAny_bind (wpAny_field hov hdv (x:=.ref d) rfl (wpAny_pure (wpAny_bind (wpAny_bind (wpAny_dictEntries a dat (wpAny_bind (wpAny_dictEpoch a dat ?_))))))))))
 simp only [show Builtin.Dict_items.ownsTuple "dict_itemiterator"=true by decide,if_true]
 refine wpAny_newObj_type (wpAny_pure ⟨_,rfl,"dict_itemiterator",_,⟨_,Heap.get?_push_size _ rfl,rfl⟩,PySem.F.slot_dict_itemiterator_next.lookup,?_⟩) (by simp only [sizeOk,Builtin.Dict_items.ownedTupleFields,List.size_toArray,List.length_append,List.length_cons,List.length_nil,sizeLine_eq];lia)
 simpa [rawInt,Builtin.Dict_items.ownedTupleFields] using q
theorem raw_next2 {Q:Option Value->Shared->Prop} (hit:IsItemIter s.heap it d i es.size ep ok ov) (x:DRaw s.heap d es ep) {u:DictEntry} (hu:es[i]?=some u)
  (q:∀ h',IsItemIterOut h' it d (i+1) es.size ep u.key u.val s.heap.objs.size->h'.get? s.heap.objs.size=some { cls:=.type "tuple",data:=.seq #[u.key,u.val] }->(∀ b o,b≠it->s.heap.get? b=some o->h'.get? b=some o)->Q (some (.ref s.heap.objs.size)) { s with heap:=h' }) :
  wpAny (model prog w) A (pyNext (.ref it)) Q E s:=by
 obtain ⟨hp,g,dr,tk,os⟩:=s
 obtain ⟨o,a,c,dat⟩:=id x
 have hT:Shared.TypeIs ⟨hp,g,dr,tk,os⟩ (.ref it) "dict_itemiterator":=⟨_,hit,rfl⟩
 unfold pyNext
 refine wpAny_bind (wpAny_attempt (wpAny_callSpecial?_slot (name:=Str.ofString "__next__") hT PySem.F.slot_dict_itemiterator_next (wpAny_call_entry PySem.F.slot_dict_itemiterator_next hT PySem.F.entry_dict_itemiterator_next ?_ (PySem.F.args_dict_itemiterator_next_1 _))))
 refine wpAny_bind (wpAny_pure (wpAny_bind (wpAny_bind (wpAny_bind (wpAny_typeNameOfWhole_itemiter hT (wpAny_pure (wpAny_bind (wpAny_fieldsOf hit rfl ?_))))))))
 simp only [show Builtin.Dict_items.ownsTuple "dict_itemiterator"=true by decide,if_true]
 show wpAny _ _ (if (Value.ref d==Value.none)=true then _ else _) _ _ _
 rw [if_neg (by simp)]
 refine wpAny_bind (wpAny_pure (wpAny_bind (wpAny_dictEntries a dat ?_)))
 rw [if_neg (by simp)]
 refine wpAny_bind (wpAny_pure (wpAny_bind (wpAny_dictEpoch a dat ?_)))
 rw [if_neg (by simp)]
 refine wpAny_pure ?_
 simp only [show ¬ ((i:Int) < 0) from by lia,if_false,Int.toNat_natCast,hu]
 refine wpAny_bind (wpAny_bind (wpAny_typeNameOfWhole_itemiter hT (wpAny_pure (wpAny_bind (wpAny_isOneOf_itemiter hT ?_)))))
 show wpAny _ _ (setField (.ref it) 3 (rawInt ((i:Int)+1)) >>= _) _ _ _
 refine wpAny_bind (wpAny_setField_rec hit (by simp) fun h₁ he₁ hs₁=>?_)
 have he₁:IsItemIter h₁ it d (i+1) es.size ep ok ov:=by
  unfold IsItemIter;rw [show ((i+1:Nat):Int)=(i:Int)+1 by lia];simpa [rawInt] using he₁
 have hs₁:Heap.SameBut it hp h₁:=hs₁
 have hT₁:Shared.TypeIs ⟨h₁,g,dr,tk,os⟩ (.ref it) "dict_itemiterator":=⟨_,he₁,rfl⟩
 refine wpAny_bind (wpAny_holding (wpAny_bind (wpAny_isOneOf_itemiter hT₁ (wpAny_bind (wpAny_isOneOf_itemiter hT₁ ?_)))))
 show wpAny _ _ (Builtin.Dict_items.pairFromOwner (.ref it) 6 u.key u.val) _ _ _
 unfold Builtin.Dict_items.pairFromOwner
 refine wpAny_bind (wpAny_newTuple ?_)
 have he₂:IsItemIter (h₁.push (seqObj "tuple" [u.key,u.val].toArray 0)) it d (i+1) es.size ep ok ov:=Heap.get?_push_of_some _ he₁
 have hil:it < hp.objs.size:=Heap.lt_size hit
 have ht₂:(h₁.push (seqObj "tuple" [u.key,u.val].toArray 0)).get? hp.objs.size=some { cls:=.type "tuple",data:=.seq #[u.key,u.val] }:=by rw [←hs₁.1];exact Heap.get?_push_size _ rfl
 have hk₂:∀ b o,b≠it->hp.get? b=some o->(h₁.push (seqObj "tuple" [u.key,u.val].toArray 0)).get? b=some o:=fun b o hb e=>Heap.get?_push_of_some _ (hs₁.extBut b o hb e)
 show wpAny _ _ (Builtin.Dict_items.ownedTupleIsFree (.ref it) >>= _) _ _ ⟨h₁.push (seqObj "tuple" [u.key,u.val].toArray 0),g,dr,tk,os⟩
 rw [hs₁.1]
 generalize h₁.push (seqObj "tuple" [u.key,u.val].toArray 0)=h₂ at he₂ ht₂ hk₂ ⊢
 unfold Builtin.Dict_items.ownedTupleIsFree
 refine wpAny_bind (wpAny_bind (wpAny_field he₂ rfl (x:=.none) rfl (wpAny_pure ?_)))
 simp only [if_true]
 refine wpAny_bind (wpAny_field he₂ rfl (x:=ok) rfl (wpAny_bind (wpAny_field he₂ rfl (x:=ov) rfl ?_)))
 refine wpAny_bind (wpAny_setField_rec he₂ (by simp) fun h₃ (he₃:IsItemIter h₃ it d (i+1) es.size ep u.key ov) (hs₃:Heap.SameBut it h₂ h₃)=>?_)
 refine wpAny_bind (wpAny_setField_rec he₃ (by simp) fun h₄ (he₄:IsItemIter h₄ it d (i+1) es.size ep u.key u.val) (hs₄:Heap.SameBut it h₃ h₄)=>?_)
 refine wpAny_bind (wpAny_setField_rec he₄ (by simp) fun h₅ (he₅:IsItemIterOut h₅ it d (i+1) es.size ep u.key u.val hp.objs.size) (hs₅:Heap.SameBut it h₄ h₅)=>?_)
 refine wpAny_bind (wpAny_setField_rec he₅ (by simp) fun h₆ (he₆:IsItemIterOut h₆ it d (i+1) es.size ep u.key u.val hp.objs.size) (hs₆:Heap.SameBut it h₅ h₆)=>?_)
 have kp:∀ b o,b≠it->h₂.get? b=some o->h₆.get? b=some o:=fun b o hb e=>hs₆.extBut b o hb (hs₅.extBut b o hb (hs₄.extBut b o hb (hs₃.extBut b o hb e)))
 exact wpAny_bind (wpAny_letGo (wpAny_pure (wpAny_pure ⟨_,rfl,wpAny_pure (q h₆ he₆ (kp _ _ (Nat.ne_of_gt hil) ht₂) fun b o hb e=>kp b o hb (hk₂ b o hb e))⟩)))
theorem raw_end2 {Q:Option Value->Shared->Prop} (hh:A.handled=none) (hit:IsItemIter s.heap it d i es.size ep ok ov) (x:DRaw s.heap d es ep) (hx:es.size≤i) (q:∀ h',Heap.ExtBut it s.heap h'->Q none { s with heap:=h' }):wpAny (model prog w) A (pyNext (.ref it)) Q E s:=by
 obtain ⟨o,a,c,dat⟩:=id x
 have hT:s.TypeIs (.ref it) "dict_itemiterator":=⟨_,hit,rfl⟩
 unfold pyNext
 refine wpAny_bind (wpAny_attempt (wpAny_callSpecial?_slot (name:=Str.ofString "__next__") hT PySem.F.slot_dict_itemiterator_next (wpAny_call_entry PySem.F.slot_dict_itemiterator_next hT PySem.F.entry_dict_itemiterator_next ?_ (PySem.F.args_dict_itemiterator_next_1 _))))
 refine wpAny_bind (wpAny_pure (wpAny_bind (wpAny_bind (wpAny_bind (wpAny_typeNameOfWhole_itemiter hT (wpAny_pure (wpAny_bind (wpAny_fieldsOf hit rfl ?_))))))))
 simp only [show Builtin.Dict_items.ownsTuple "dict_itemiterator"=true by decide,if_true]
 show wpAny _ _ (if (Value.ref d==Value.none)=true then _ else _) _ _ _
 rw [if_neg (by simp)]
 refine wpAny_bind (wpAny_pure (wpAny_bind (wpAny_dictEntries a dat ?_)))
 rw [if_neg (by simp)]
 refine wpAny_bind (wpAny_pure (wpAny_bind (wpAny_dictEpoch a dat ?_)))
 rw [if_neg (by simp)]
 refine wpAny_pure ?_
 simp only [show ¬ ((i:Int) < 0) from by lia,if_false,Int.toNat_natCast,Array.getElem?_eq_none hx]
 refine wpAny_bind (wpAny_bind (wpAny_typeNameOfWhole_itemiter hT (wpAny_pure ?_)))
 show wpAny _ _ (setField (.ref it) 2 .none >>= _) _ _ s
 refine wpAny_bind (wpAny_setField hit rfl (by simp) ?_)
 show wpAny _ _ (newExc (.type "StopIteration") [] >>= _) _ _ _;refine wpAny_bind ?_
 simp only [newExc,newTuple];refine wpAny_bind (wpAny_newObj_type ?_ (by size_fits))
 refine wpAny_bind (m:=firstArgMember _ _) (wpAny_of_eq (a:=Value.none) (by first | rfl | (simp only [firstArgMember];rfl)) (wpAny_newObj_type ?_ (by size_fits)))
 simp only [raiseNew];refine wpAny_bind (wpAny_handled ?_)
 rw [show A.in1.handled=none from hh];refine wpAny_bind (wpAny_pure (wpAny_throw ?_))
 refine wpAny_bind (wpAny_isInstance (T:="StopIteration") (b:=true) ⟨_,Heap.get?_push_size _ rfl,rfl⟩ isSubtype_stop (wpAny_pure (q _ (((Heap.SameBut.update ..).extBut.push _).push _))))
end
theorem entry_itemi_iter:entryFor table "dict_itemiterator.__iter__"=some Builtin.«dict_keyiterator.__iter__» :=
 entryFor_alias (id':="dict_keyiterator.__iter__") (by kernel_rfl) rfl (by decide +kernel) (by kernel_rfl)
noncomputable def Itp (d:Addr) (o:Obj) (kvs:List (List Key×V)):It :=
 ⟨fun i H=>i < kvs.length/\H d=some (.frz o (.dT kvs)),fun i H x H'=>∃ T kv a,H T=none/\x=.ref T/\kvs[i]?=some kv/\H a=some (.tup (kv.1.map kV))/\H'=upd H T (.tup [.ref a,kv.2]),fun i H=>kvs.length≤i/\H d=some (.frz o (.dT kvs))⟩
theorem turn_items {P:Program} {w:World} {K:PySem.W.Frag} {elts:List Expr} {tk:Nat} {tpos:Pos} {d it:Addr} {o:Obj} {kvs:List (List Key×V)} {es:Array DictEntry} {ep:Nat} (od:o.data=.dict es ep) :
  Turn P w K (.Tuple elts tk tpos) (Itp d o kvs) [it] it (fun i h=>∃ ok ov,IsItemIter h it d i es.size ep ok ov) where
 mem:=by simp
 obj:=fun i h st b hb=>by
  obtain rfl:b=it:=by simpa using hb
  obtain ⟨ok,ov,e⟩:=st
  exact ⟨_,e,fun v z=>by cases z⟩
 keep:=fun i h h' st k=>let ⟨ok,ov,e⟩:=st;⟨ok,ov,k it (by simp) _ e⟩
 item:=by
  rintro X rfl rfl rfl hc i pins s σ H E I hf ⟨ok,ov,st⟩ ⟨hi,ed⟩
  obtain ⟨g0,z,_,xs,r,o',es',ep',g1,g2,g3,g4,g5⟩:=I.hok d _ ed
  rw [g0] at g1
  cases g1
  rw [od] at g3
  cases g3
  obtain ⟨x,hx,q1,q2,q3⟩:=paired_get r (List.getElem?_eq_getElem hi)
  have hu:es[i]?=some (entryOfKey (tupleKind (mixKind X.prog X.w)) x):=by rw [←Array.getElem?_toList,g4,List.getElem?_map,hx];rfl
  refine raw_next2 st ⟨o,g0,g2,od⟩ hu fun h' ho hT kk=>?_
  refine ⟨_,rfl,wpAny_letOwnedTupleGo_items ho fun h'' b1 b2=>?_⟩
  have elt:it < s.heap.objs.size:=Heap.lt_size st
  have I2:=I.turnNew (t':=s.toks) (h':=h'') (fp:=[it]) (its:=[.ref x.2.1,x.2.2]) (xs:=[.ref x.2.1,(kvs[i]).2]) hf (fun b o hb z=>by
    simp only [List.mem_cons,List.not_mem_nil,or_false] at hb
    exact b2.extBut b o hb (kk b o hb z))
   (b2.extBut _ _ (Nat.ne_of_gt elt) hT) rfl rfl (.cons rfl (.cons q3 .nil)) (by show 2≤sizeLine;decide)
  refine ⟨.ref s.heap.objs.size,_,I2,rfl,⟨_,_,x.2.1,I.fresh,rfl,List.getElem?_eq_getElem hi,q2,rfl⟩,⟨_,_,b1⟩,fun b hb=>?_⟩
  obtain rfl:b=it:=by simpa using hb
  rw [upd_ne (Nat.ne_of_lt elt)]
  exact (hf b hb).1
 done:=by
  rintro X rfl rfl rfl hc i pins s σ H E I hf ⟨ok,ov,st⟩ ⟨hi,ed⟩
  obtain ⟨f0,f1,f2,f3,f4,f5⟩:=hf it (by simp)
  obtain ⟨g0,z,_,xs,r,o',es',ep',g1,g2,g3,g4,g5⟩:=I.hok d _ ed
  rw [g0] at g1
  cases g1
  rw [od] at g3
  cases g3
  have hl:es.size=kvs.length:=by rw [←Array.length_toList,g4,List.length_map,Paired.length r]
  exact raw_end2 (I.ok.hd hc) st ⟨o,g0,g2,od⟩ (by lia) fun h' eb=>⟨rfl,I.turned (t':=s.toks) (fun b u hb e=>eb b u hb e) f0 f1 f3 f4 f5⟩
 self:=fun _ _ _ _ _ st h=>let ⟨_,_,e⟩:=st;wpAny_pyIter_slot ⟨_,e,rfl⟩ PySem.F.slot_dict_itemiterator_iter (wpAny_call_entry PySem.F.slot_dict_itemiterator_iter ⟨_,e,rfl⟩ entry_itemi_iter (wpAny_pure ⟨_,rfl,"dict_itemiterator",_,⟨_,e,rfl⟩,PySem.F.slot_dict_itemiterator_next.lookup,h⟩) (PySem.F.args_dict_itemiterator_iter_1 _))
section
variable {X:Cx} {K:PySem.W.Frag}
noncomputable def rItems:V->List V->Hp->VK->Prop:=fun x xs H Q=>∃ (d:Addr) (kvs:List (List Key×V)),x=.ref d/\xs=[]/\H d=some (.dT kvs)/\∀ v,H v=none->Q (.ref v) (upd H v (ViewO v d))
theorem mt_items:MtR X "dict.items" rItems:=by
 rintro pins s σ H x xs v us Q I rx rs ⟨d,kvs,rfl,rfl,ed,q⟩
 cases rx
 cases rs
 obtain ⟨z,lo,ts,r,o,es,ep,g1,g2,g3,g4,g5⟩:=I.hok d _ ed
 refine raw_items lo ⟨o,g1,g2,g3⟩ ⟨.ref s.heap.objs.size,_,Fl.inv_laidN (t':=s.toks) I (fun b o e=>Heap.get?_push_of_some _ e) (by cases z:s.heap.get? s.heap.objs.size with
  | none=>rfl
  | some o=>exact absurd (Heap.lt_size z) (Nat.lt_irrefl _)) (viewO_ok ⟨_,Heap.get?_push_size _ rfl,rfl,rfl⟩),rfl,q _ I.fresh⟩
noncomputable def iItm (tl:TE):TI:=fun σ H R=>tl σ H fun x H1=>∃ v d kvs,x=.ref v/\H1 v=some (ViewO v d)/\H1 d=some (.dT kvs)/\∀ o,R (Itp d o kvs) (upd H1 d (.frz o (.dT kvs)))
theorem pi_items {elts:List Expr} {tk:Nat} {tpos:Pos} {l:Expr} {tl:TE} (hl:PE X l tl):PI X (.Tuple elts tk tpos) l (iItm tl):=by
 intro pins s σ H R I h
 refine thn (hl pins s σ H _ I h) fun u s1 ⟨x,H1,I1,r1,q1⟩=>?_
 obtain ⟨v,d,kvs,e,ev,ed,q⟩:=q1
 subst e
 cases r1
 obtain ⟨z,lo,xs,r,o,es,ep,g1,g2,g3,g4,g5⟩:=id (I1.hok d _ ed)
 have hv:s1.heap.IsItemsView v d:=(I1.hok v _ ev).1
 refine raw_iter2 hv ⟨o,g1,g2,g3⟩ ?_
 have If:Inv X pins σ (upd H1 d (.frz o (.dT kvs))) s1:=by
  refine I1.write (x:=d) (e:=d) (t':=s1.toks) (h':=s1.heap) (by rw [ed];exact True.intro) (.inl rfl) (fun _ _ _ z=>z) ⟨_,g1⟩ ⟨g1,?_⟩
  refine (I1.hok d _ ed).stay (fun _ _ _ z=>z) (fun b q=>?_) (fun b xs q=>?_)
  ·rw [upd_ne (ne_of q ed (fun z=>nomatch z))];exact q
  ·rw [upd_ne (ne_of q ed (fun z=>nomatch z))];exact q
 refine ⟨s1.heap.objs.size,[s1.heap.objs.size],_,_,_,rfl,If.kept (t':=s1.toks) fun b o e=>Heap.get?_push_of_some _ e,turn_items g3,⟨_,_,Heap.get?_push_size _ rfl⟩,fun b hb=>?_,q o⟩
 obtain rfl:b=s1.heap.objs.size:=by simpa using hb
 exact If.fpOk (Nat.le_refl _) (If.hok.fresh (Nat.le_refl _))
theorem qi_items {elts:List Expr} {tk:Nat} {tpos:Pos} {l:Expr} {tl:TE} (hl:QE X l tl):QI X (.Tuple elts tk tpos) l (iItm tl):=⟨pi_items hl.r⟩
theorem rd_iItm {tl:TE} {σ:St} {H:Hp} {R:It->Hp->Prop} (h:tl σ H fun x H1=>∃ v d kvs,x=.ref v/\H1 v=some (ViewO v d)/\H1 d=some (.dT kvs)/\∀ o,R (Itp d o kvs) (upd H1 d (.frz o (.dT kvs)))):iItm tl σ H R:=h
noncomputable def IsKVp:Hp->V->List Key×V->Prop:=fun H v kv=>∃ T a,v=.ref T/\H T=some (.tup [.ref a,kv.2])/\H a=some (.tup (kv.1.map kV))
theorem feeds_items {H:Hp} {d:Addr} {o:Obj} {kvs:List (List Key×V)} (h:H d=some (.frz o (.dT kvs))):Feeds (Itp d o kvs) H kvs IsKVp where
 stop:=fun H' s=>⟨Nat.le_refl _,s _ _ h⟩
 go:=fun i x H' s e=>by
  refine ⟨⟨(List.getElem?_eq_some_iff.mp e).1,s _ _ h⟩,fun v H2 y=>?_⟩
  obtain ⟨T,kv,a,hT,rfl,ekv,ea,rfl⟩:=y
  rw [e] at ekv
  cases ekv
  exact ⟨same_new hT,T,a,rfl,upd_same,lk_old hT ea⟩
end
end L2
namespace Pc
open PySem PySem.W L2 Srt
noncomputable def gapN:List Int->List Int
 | a :: b :: r=>((List.range (b - (a+1)).toNat).map fun i:Nat=>a+1+(i:Int)) ++ gapN (b :: r)
 | _=>[]
theorem gapN_mem:∀ {ns:List Int} (hp:ns.Pairwise (· < ·)) {m:Int},m∈gapN ns↔m∉ns/\(∃ a∈ns,a < m)/\∃ b∈ns,m < b
 | [],_,m=>by simp [gapN]
 | [a],_,m=>by
  simp only [gapN,List.not_mem_nil,List.mem_singleton,false_iff]
  rintro ⟨h1,⟨x,rfl,h2⟩,y,rfl,h3⟩
  lia
 | a :: b :: r,hp,m=>by
  obtain ⟨h1,h2⟩:=List.pairwise_cons.mp hp
  have hab:=h1 b List.mem_cons_self
  have hbr:∀ x∈b :: r,b≤x:=fun x hx=>by
   rcases List.mem_cons.mp hx with z | z
   ·lia
   ·have:=(List.pairwise_cons.mp h2).1 x z;lia
  have ih:=gapN_mem h2 (m:=m)
  rw [gapN,List.mem_append,ih]
  constructor
  ·rintro (h | ⟨g1,⟨x,hx,g2⟩,y,hy,g3⟩)
   ·obtain ⟨i,hi,rfl⟩:=List.mem_map.mp h
    have:=List.mem_range.mp hi
    refine ⟨fun z=>?_,⟨a,List.mem_cons_self,by lia⟩,b,List.mem_cons_of_mem _ List.mem_cons_self,by omega⟩
    rcases List.mem_cons.mp z with z | z
    ·lia
    ·have:=hbr _ z;lia
   ·refine ⟨fun z=>?_,⟨x,List.mem_cons_of_mem _ hx,g2⟩,y,List.mem_cons_of_mem _ hy,g3⟩
    rcases List.mem_cons.mp z with z | z
    ·have:=h1 x hx;lia
    ·exact g1 z
  ·rintro ⟨g1,⟨x,hx,g2⟩,y,hy,g3⟩
   have hma:a < m:=by
    rcases List.mem_cons.mp hx with z | z
    ·lia
    ·have:=h1 x z;lia
   rcases (by lia:m < b\/b≤m) with z | z
   ·refine .inl (List.mem_map.mpr ⟨(m - (a+1)).toNat,List.mem_range.mpr (by omega),by lia⟩)
   ·have hne:m≠b:=fun e=>g1 (e▸List.mem_cons_of_mem _ List.mem_cons_self)
    refine .inr ⟨fun z'=>g1 (List.mem_cons_of_mem _ z'),⟨b,List.mem_cons_self,by lia⟩,y,?_,g3⟩
    rcases List.mem_cons.mp hy with z' | z'
    ·lia
    ·exact z'
theorem gapN_nodup:∀ {ns:List Int} (hp:ns.Pairwise (· < ·)),(gapN ns).Nodup
 | [],_=>.nil
 | [a],_=>.nil
 | a :: b :: r,hp=>by
  obtain ⟨h1,h2⟩:=List.pairwise_cons.mp hp
  rw [gapN,List.nodup_append]
  refine ⟨?_,gapN_nodup h2,fun x hx y hy e=>?_⟩
  ·rw [List.Nodup,List.pairwise_map]
   exact List.nodup_range.imp fun {i j} h e=>h (by lia)
  ·subst e
   obtain ⟨i,hi,rfl⟩:=List.mem_map.mp hx
   have:=List.mem_range.mp hi
   obtain ⟨_,⟨c,hc,g2⟩,_⟩:=(gapN_mem h2).mp hy
   have:b≤c:=by
    rcases List.mem_cons.mp hc with z | z
    ·lia
    ·have:=(List.pairwise_cons.mp h2).1 c z;lia
   omega
theorem gapN_len:∀ {ns:List Int} (hp:ns.Pairwise (· < ·)) {w:Nat} (hw:∀ a∈ns,∀ b∈ns,b - a≤(w:Int)),(gapN ns).length+ns.length≤w+1\/ns.length≤1
 | [],_,_,_=>.inr (by simp)
 | [a],_,_,_=>.inr (by simp)
 | a :: b :: r,hp,w,hw=>.inl (by
  have hn:=gapN_nodup hp
  have hnd:(gapN (a :: b :: r) ++ (a :: b :: r)).Nodup:=by
   rw [List.nodup_append]
   exact ⟨hn,hp.imp fun h=>by lia,fun x hx y hy e=>((gapN_mem hp).mp hx).1 (e▸hy)⟩
  have hlow:∀ x∈a :: b :: r,a≤x:=fun x hx=>by
   rcases List.mem_cons.mp hx with z | z
   ·lia
   ·have:=(List.pairwise_cons.mp hp).1 x z;lia
  have:=StT.nodup_le (m:=(List.range (w+1)).map fun i:Nat=>a+(i:Int)) hnd fun x hx=>by
   have hr:a≤x/\x - a≤(w:Int):=by
    rcases List.mem_append.mp hx with z | z
    ·obtain ⟨_,⟨c,hc,g2⟩,e,he,g3⟩:=(gapN_mem hp).mp z
     have:=hlow c hc
     have:=hw a List.mem_cons_self e he
     lia
    ·exact ⟨hlow x z,hw a List.mem_cons_self x z⟩
   exact List.mem_map.mpr ⟨(x - a).toNat,List.mem_range.mpr (by lia),by lia⟩
  rw [List.length_append,List.length_map,List.length_range] at this
  exact this)
noncomputable def IsGap (ax:Ax) (cs:List C3) (c:C3):Prop:=ax.at c∈gapN (numsAt ax cs (lnI ax c))
structure GapB (ax:Ax) (cs ds:List C3):Prop where
 asc:Asc ds
 nd:ds.Nodup
 m:∀ c,c∈ds↔IsGap ax cs c
theorem gapB_one {ax:Ax} {cs ds es:List C3} (h:GapB ax cs ds) (h':GapB ax cs es):ds=es:=asc_ext h.asc h'.asc h.nd h'.nd fun c=>(h.m c).trans (h'.m c).symm
noncomputable def gcount (ax:Ax) (cs:List C3) (ks:List (List Int)):Nat:=(ks.map fun k=>(gapN (numsAt ax cs k)).length).sum
noncomputable def gcells (ax:Ax) (cs:List C3) (k:List Int):List C3:=(gapN (numsAt ax cs k)).map fun n=>insC ax (k.getD 0 0) (k.getD 1 0) n
noncomputable def FewG (ax:Ax) (cs:List C3):Prop:=∀ ks:List (List Int),ks.Nodup->gcount ax cs ks≤4900
theorem gap_in {ax:Ax} {cs:List C3} (ha:Asc cs) (hn:cs.Nodup) (hw:∀ c∈cs,c.within 60) {c:C3} (h:IsGap ax cs c):c.within 60:=by
 obtain ⟨_,⟨a,ha',g2⟩,b,hb',g3⟩:=(gapN_mem (asc_nums ha hn _)).mp h
 have b1:=nums_in hw ha'
 have b2:=nums_in hw hb'
 obtain ⟨c0,hc0,e0⟩:=key_of (fun z=>by rw [z] at ha';cases ha')
 obtain ⟨⟨x1,x2⟩,⟨y1,y2⟩,⟨z1,z2⟩⟩:=hw c0 hc0
 obtain ⟨x,y,z⟩:=c
 obtain ⟨x',y',z'⟩:=c0
 dsimp only at x1 x2 y1 y2 z1 z2
 cases ax <;> simp only [lnI,List.cons.injEq,and_true] at e0 <;> obtain ⟨rfl,rfl⟩:=e0 <;> simp only [Ax.at] at g2 g3 <;> refine ⟨⟨?_,?_⟩,⟨?_,?_⟩,⟨?_,?_⟩⟩ <;> dsimp only <;> lia
noncomputable def GapM (ax:Ax) (cs:List C3) (ks:List (List Int)) (fs:List C3):Prop:=∀ c,c∈fs↔lnI ax c∈ks/\IsGap ax cs c
theorem gapM_snoc {ax:Ax} {cs:List C3} {ks:List (List Int)} {fs:List C3} {p q:Int} (h:GapM ax cs ks fs):GapM ax cs (ks ++ [[p,q]]) (fs ++ gcells ax cs [p,q]):=fun c=>by
 rw [List.mem_append,h c,List.mem_append,List.mem_singleton]
 unfold gcells
 constructor
 ·rintro (⟨a,b⟩ | h)
  ·exact ⟨.inl a,b⟩
  ·obtain ⟨n,hn,rfl⟩:=List.mem_map.mp h
   have e:lnI ax (insC ax ([p,q].getD 0 0) ([p,q].getD 1 0) n)=[p,q]:=ins_ln ax p q n
   refine ⟨.inr e,?_⟩
   unfold IsGap
   rw [e]
   have:ax.at (insC ax ([p,q].getD 0 0) ([p,q].getD 1 0) n)=n:=ins_n ax p q n
   rw [this]
   exact hn
 ·rintro ⟨a | a,b⟩
  ·exact .inl ⟨a,b⟩
  ·refine .inr (List.mem_map.mpr ⟨ax.at c,?_,?_⟩)
   ·unfold IsGap at b
    rw [a] at b
    exact b
   ·exact (ins_of a).symm
theorem gapM_all {ax:Ax} {cs:List C3} {ks:List (List Int)} {fs:List C3} (h:GapM ax cs ks fs) (hk:∀ k,k∈ks↔numsAt ax cs k≠[]):GapB ax cs (bodyC fs):=by
 refine ⟨bodyC_asc _,bodyC_nodup _,fun c=>?_⟩
 rw [bodyC_mem,h c]
 refine ⟨fun z=>z.2,fun z=>⟨(hk _).mpr fun e=>?_,z⟩⟩
 unfold IsGap at z
 rw [e] at z
 cases z
noncomputable def spGapsOn (K:PySem.W.Frag):Sp:=fun vs H Q _=>∃ (l b:Addr) (ax:Ax) (p q:Int) (ns:List Int),vs=[.ref l,.str ax.s,.ref b]/\H l=some (.tup [.int p,.int q])/\SqL K H b (ns.map V.int)/\ns.length≤1000/\(∀ n∈ns,-60≤n/\n≤60)/\(gapN ns).length≤100000 /\
 ∀ r zs H',Same H H'->H r=none->H' r=some (.lst zs)->Cs H' zs ((gapN ns).map fun n=>insC ax p q n)->Q (.ref r) H'
noncomputable def spBetween (K:PySem.W.Frag):Sp:=fun vs H Q _=>∃ (a:Addr) (ax:Ax) (cs:List C3),vs=[.ref a,.int ax.n]/\BodyS K H a cs/\∀ ds p zs H',GapB ax cs ds->Same H H'->H p=none->H' p=some (.lst zs)->Cs H' zs ds->Q (.ref p) H'
theorem sum_nums {ax:Ax}:∀ (cs:List C3) {ks:List (List Int)},ks.Nodup->(ks.map fun k=>(numsAt ax cs k).length).sum≤cs.length
 | [],ks,_=>by
  have:(ks.map fun k=>(numsAt ax [] k).length)=ks.map fun _=>0:=List.map_congr_left fun _ _=>rfl
  rw [this]
  induction ks with
  | nil=>simp
  | cons=>simp_all
 | c :: cs,ks,hn=>by
  have ih:=sum_nums (ax:=ax) cs hn
  have e:∀ k,(numsAt ax (c :: cs) k).length=(if lnI ax c=k then 1 else 0)+(numsAt ax cs k).length:=fun k=>by
   unfold numsAt
   rw [List.filter_cons]
   by_cases h:lnI ax c=k
   ·rw [if_pos (decide_eq_true h),if_pos h,List.map_cons,List.length_cons];lia
   ·rw [if_neg (by simpa using h),if_neg h];lia
  have one:∀ {ks:List (List Int)},ks.Nodup->(ks.map fun k=>if lnI ax c=k then 1 else 0).sum≤1:=by
   intro ks hn
   induction ks with
   | nil=>simp
   | cons k r ih =>
    obtain ⟨h1,h2⟩:=List.nodup_cons.mp hn
    rw [List.map_cons,List.sum_cons]
    by_cases h:lnI ax c=k
    ·have:(r.map fun k=>if lnI ax c=k then 1 else 0).sum=0:=by
      have e0:(r.map fun k=>if lnI ax c=k then 1 else 0)=r.map fun _=>0:=List.map_congr_left fun k' hk'=>by
       rw [if_neg fun z=>h1 (by rw [←h,z];exact hk')]
      rw [e0]
      clear h1 h2 ih e0 hn
      induction r with
      | nil=>rfl
      | cons=>simp_all
     rw [if_pos h,this]
     exact Nat.le_refl _
    ·rw [if_neg h]
     have:=ih h2
     lia
  have split:(ks.map fun k=>(numsAt ax (c :: cs) k).length).sum=(ks.map fun k=>if lnI ax c=k then 1 else 0).sum+(ks.map fun k=>(numsAt ax cs k).length).sum:=by
   clear ih one hn
   induction ks with
   | nil=>rfl
   | cons k r ih=>rw [List.map_cons,List.map_cons,List.map_cons,List.sum_cons,List.sum_cons,List.sum_cons,ih,e k];lia
  rw [split,List.length_cons]
  have:=one hn
  lia
theorem few_of {ax:Ax} {cs:List C3} {h:Nat} (ha:Asc cs) (hn:cs.Nodup) (hw:∀ k,∀ a∈numsAt ax cs k,∀ b∈numsAt ax cs k,b - a≤((2 * h+1:Nat):Int)) (hl:h * cs.length≤4900):FewG ax cs:=fun ks hk=>by
 have per:∀ k,(gapN (numsAt ax cs k)).length≤h * (numsAt ax cs k).length:=fun k=>by
  rcases gapN_len (asc_nums ha hn k) (hw k) with z | z
  ·rcases Nat.lt_or_ge (numsAt ax cs k).length 2 with y | y
   ·have:gapN (numsAt ax cs k)=[]:=by
     cases e:numsAt ax cs k with
     | nil=>rfl
     | cons a r=>cases r with
      | nil=>rfl
      | cons=>rw [e] at y;simp only [List.length_cons] at y;lia
    rw [this];simp
   ·have:h * 2≤h * (numsAt ax cs k).length:=Nat.mul_le_mul_left _ y
    lia
  ·have:gapN (numsAt ax cs k)=[]:=by
    cases e:numsAt ax cs k with
    | nil=>rfl
    | cons a r=>cases r with
     | nil=>rfl
     | cons=>rw [e] at z;simp only [List.length_cons] at z;lia
   rw [this];simp
 have:gcount ax cs ks≤h * (ks.map fun k=>(numsAt ax cs k).length).sum:=by
  unfold gcount
  clear hk
  induction ks with
  | nil=>simp
  | cons k r ih=>rw [List.map_cons,List.map_cons,List.sum_cons,List.sum_cons,Nat.mul_add];have:=per k;lia
 have h2:=Nat.mul_le_mul_left h (sum_nums (ax:=ax) cs hk)
 lia
noncomputable def InF (sz lo:C3) (c:C3):Prop:=∀ bx:Ax,bx.at lo≤bx.at c/\bx.at c < bx.at lo+bx.at sz
theorem inF_put {sz lo c:C3} {ax:Ax} {v:Int} (h:InF sz lo c) (h1:ax.at lo≤v) (h2:v < ax.at lo+ax.at sz):InF sz lo (ax.put v c):=fun bx=>by
 by_cases e:bx=ax
 ·subst e;rw [at_put];exact ⟨h1,h2⟩
 ·rw [at_put_ne e];exact h bx
noncomputable def spBodyF (K:PySem.W.Frag):Sp:=fun vs H Q _=>∃ (x p l:Addr) (sz lo:C3) (ms:List Int),vs=[.ref x,.ref p,.ref l]/\FR H p sz lo/\SqL K H l (ms.map V.int)/\ms.length≤200 /\
 ∀ p ys cs H',Same H H'->H p=none->H' p=some (.lst ys)->Cs H' ys cs->Asc cs->cs.Nodup->(∀ c∈cs,InF sz lo c)->cs.length≤4 * ms.length->Q (.ref p) H'
theorem few_frame {ax:Ax} {cs:List C3} {sz lo:C3} (ha:Asc cs) (hn:cs.Nodup) (hf:FrOk sz lo) (hi:∀ c∈cs,InF sz lo c) (hl:cs.length≤200):FewG ax cs:=by
 refine few_of (h:=22) ha hn (fun k a h1 b h2=>?_) (by lia)
 obtain ⟨c,hc,_,rfl⟩:=mem_nums.mp h1
 obtain ⟨c',hc',_,rfl⟩:=mem_nums.mp h2
 have:=hi c hc ax
 have:=hi c' hc' ax
 have:=hf ax
 lia
theorem val_at {kvs:List (List Key×V)} {ks:List (List Int)} (h:kvs.map (·.1)=ks.map kI) (hn:ks.Nodup) {i:Nat} {k:List Int} {v w:V} (e:kvs[i]?=some (kI k,v)) (hv:valV kvs (kI k)=some w):v=w:=by
 have hnd:(kvs.map (·.1)).Nodup:=by
  rw [h,List.Nodup,List.pairwise_map]
  exact hn.imp fun hne z=>hne (kI_inj z)
 clear h hn
 induction kvs generalizing i with
 | nil=>simp at e
 | cons p r ih =>
  rw [List.map_cons,List.nodup_cons] at hnd
  by_cases z:p.1=kI k
  ·rw [valV_pos z] at hv
   cases i with
   | zero =>
    simp only [List.getElem?_cons_zero,Option.some.injEq] at e
    subst e
    exact Option.some.inj hv
   | succ i =>
    rw [List.getElem?_cons_succ] at e
    exact absurd (List.mem_map.mpr ⟨_,List.mem_of_getElem? e,z.symm⟩) hnd.1
  ·rw [valV_neg z] at hv
   cases i with
   | zero =>
    simp only [List.getElem?_cons_zero,Option.some.injEq] at e
    subst e
    exact absurd rfl z
   | succ i =>
    rw [List.getElem?_cons_succ] at e
    exact ih e hv hnd.2
noncomputable def g6 (e:Int) (i:Nat):C3:=⟨e - 20+((i / 60:Nat):Int),0,-29+((i % 60:Nat):Int)⟩
open PySem L2 Srt
noncomputable def dueF (ms core:List C3):Option (C3×C3):=core.findSome? fun c=>((nb c).find? fun d=>decide (d∉ms)).map fun d=>(c,d)
noncomputable def IsDue (H:Hp) (v:V):Option (C3×C3)->Prop
 | none=>v=.non
 | some (c,d)=>∃ t a b,v=.ref t/\H t=some (.tup [.ref a,.ref b])/\H a=some (.tup c.v)/\H b=some (.tup d.v)
theorem find_all {ms:List C3} {l:List C3} (h:∀ d∈l,d∈ms):(l.find? fun d=>decide (d∉ms))=none:=by
 rw [List.find?_eq_none]
 intro d hd
 simp [h d hd]
theorem due_none {ms core:List C3} (h:∀ c∈core,∀ d∈nb c,d∈ms):dueF ms core=none:=by
 unfold dueF
 rw [List.findSome?_eq_none_iff]
 intro c hc
 rw [find_all (h c hc)]
 rfl
theorem find_at {ms:List C3}:∀ {l:List C3} {j:Nat} {d:C3},(∀ x∈l.take j,x∈ms)->l[j]?=some d->d∉ms->(l.find? fun d=>decide (d∉ms))=some d
 | [],_,_,_,h,_=>by cases h
 | x :: l,0,d,_,h,hn=>by
  have:x=d:=Option.some.inj h
  subst this
  rw [List.find?_cons_of_pos (by simpa using hn)]
 | x :: l,j+1,d,hm,h,hn=>by
  have hx:x∈ms:=hm x (by rw [List.take_succ_cons];exact List.mem_cons_self)
  rw [List.find?_cons_of_neg (by simpa using hx)]
  exact find_at (fun y hy=>hm y (by rw [List.take_succ_cons];exact List.mem_cons_of_mem _ hy)) h hn
theorem due_some {ms:List C3} {c d:C3} {j:Nat}:∀ {core:List C3} {i:Nat},(∀ x∈core.take i,∀ y∈nb x,y∈ms)->core[i]?=some c->(∀ y∈(nb c).take j,y∈ms)->(nb c)[j]?=some d->d∉ms->dueF ms core=some (c,d)
 | [],_,_,h,_,_,_=>by cases h
 | x :: core,0,_,h,h2,h3,h4=>by
  have:x=c:=Option.some.inj h
  subst this
  unfold dueF
  rw [List.findSome?_cons,find_at h2 h3 h4]
  rfl
 | x :: core,i+1,hm,h,h2,h3,h4=>by
  have hx:∀ y∈nb x,y∈ms:=hm x (by rw [List.take_succ_cons];exact List.mem_cons_self)
  unfold dueF
  rw [List.findSome?_cons,find_all hx]
  exact due_some (core:=core) (fun z hz=>hm z (by rw [List.take_succ_cons];exact List.mem_cons_of_mem _ hz)) h h2 h3 h4
theorem due_congr {ms ns:List C3} (h:∀ x,x∈ms↔x∈ns) (core:List C3):dueF ms core=dueF ns core:=by
 unfold dueF
 congr 1
 funext c
 congr 2
 funext d
 exact decide_eq_decide.mpr (not_congr (h d))
theorem nbL_perm (c:C3):(nb c).Perm (nbL c):=by
 have h:∀ a b c d e f:C3,[a,b,c,d,e,f].Perm [a,f,b,e,c,d]:=fun a b c d e f=>by
  refine List.Perm.cons a ?_
  refine (List.perm_middle (a:=f) (l₁:=[b,c,d,e]) (l₂:=[])).trans ?_
  refine List.Perm.cons f (List.Perm.cons b ?_)
  exact List.perm_middle (a:=e) (l₁:=[c,d]) (l₂:=[])
 exact h _ _ _ _ _ _
theorem nb_asc (c:C3):Asc (nb c):=by
 have h:=nbs_rise c
 rw [←nb_l] at h
 exact (List.pairwise_map.mp h).imp fun h=>by unfold cle;rw [h];rfl
theorem srt_nb (c:C3):srtC (nbL c)=nb c:=(srtC_uniq (nbL_perm c) (nb_asc c)).symm
noncomputable def spNearsS (K:PySem.W.Frag):Sp:=fun vs H Q _=>∃ (a:Addr) (c:C3),vs=[.ref a]/\SqT K H a c.v/\∀ p zs H',Same H H'->H p=none->H' p=some (.lst zs)->Cs H' zs (nb c)->Q (.ref p) H'
noncomputable def spHoldC (K:PySem.W.Frag):Sp:=fun vs H Q _=>∃ (b co:Addr) (ax:Ax) (cs ds core:List C3) (ys:List V),vs=[.ref b,.str ax.s,.ref co]/\BodyS K H b cs/\FewG ax cs/\GapB ax cs ds/\ds.length≤600/\H co=some (.lst ys)/\Cs H ys core/\core.length≤1000 /\
 ∀ v H',Same H H'->IsDue H' v (dueF (cs ++ ds) core)->Q v H'
noncomputable def spDueC (K:PySem.W.Frag):Sp:=fun vs H Q _=>∃ (d co:Addr) (ms core:List C3) (ys:List V),vs=[.ref d,.ref co]/\Marks H d ms/\H co=some (.lst ys)/\Cs H ys core/\core.length≤1000/\∀ v H',Same H H'->IsDue H' v (dueF ms core)->Q v H'
noncomputable def spPieces (K:PySem.W.Frag):Sp:=fun vs H Q _=>∃ (a:Addr) (ys:List V) (ss:List C3),vs=[.ref a]/\H a=some (.lst ys)/\Cs H ys ss/\ss.Nodup/\ss.length≤600 /\
 ∀ p zs css H',Same H H'->H p=none->H' p=some (.lst zs)->Rs IsCL H' zs css->(∀ cs∈css,cs.length≤600)->Q (.ref p) H'
noncomputable def spShell (K:PySem.W.Frag):Sp:=fun vs H Q _=>∃ (p:Addr) (sz lo:C3),vs=[.ref p]/\FR H p sz lo/\∀ q zs cs H',Same H H'->H q=none->H' q=some (.lst zs)->Cs H' zs cs->Asc cs->cs.Nodup->(∀ c∈cs,InF sz lo c)->cs.length≤64->Q (.ref q) H'
noncomputable def IsBdy (sz lo:C3):Hp->V->Unit->Prop:=fun H v _=>∃ p ys cs,v=.ref p/\H p=some (.lst ys)/\Cs H ys cs/\Asc cs/\cs.Nodup/\(∀ c∈cs,InF sz lo c)/\cs.length≤200
theorem IsBdy.up {sz lo:C3} {H H':Hp} {v:V} {x:Unit} (s:Same H H') (h:IsBdy sz lo H v x):IsBdy sz lo H' v x:=let ⟨p,ys,cs,e,q,r,z⟩:=h;⟨p,ys,cs,e,s _ _ q,Rs.up s r,z⟩
noncomputable def spBodies (K:PySem.W.Frag):Sp:=fun vs H Q _=>∃ (x p:Addr) (ns:List Int) (sz lo:C3),vs=[.ref x,.ref p]/\SqL K H x (ns.map V.int)/\ns.length≤63/\FR H p sz lo/\∀ q zs H',Same H H'->H q=none->H' q=some (.lst zs)->Rs (IsBdy sz lo) H' zs [(),()]->Q (.ref q) H'
noncomputable def spAskedC (K:PySem.W.Frag):Sp:=fun vs H Q _=>∃ (a:Addr) (ax:Ax) (cs:List C3),vs=[.ref a,.int ax.n]/\BodyS K H a cs/\FewG ax cs/\∀ H',Same H H'->Q (.bl true) H'
noncomputable def spFewA (K:PySem.W.Frag):Sp:=fun vs H Q _=>∃ (a:Addr) (ys:List V),vs=[.ref a]/\H a=some (.lst ys)/\ys.length≤600/\∀ H',Same H H'->Q (.ref a) H'
noncomputable def spBodyA (K:PySem.W.Frag):Sp:=fun vs H Q _=>∃ (a:Addr) (ys:List V) (cs:List C3),vs=[.ref a]/\SqL K H a ys/\Cs H ys cs/\cs.length≤4900/\(∀ c∈cs,c.within 60)/\(bodyC cs).length≤600 /\
 ∀ p zs H',Same H H'->H p=none->H' p=some (.lst zs)->Cs H' zs (bodyC cs)->Q (.ref p) H'
noncomputable def spGapsA (K:PySem.W.Frag):Sp:=fun vs H Q _=>∃ (a:Addr) (ax:Ax) (cs:List C3),vs=[.ref a,.str ax.s]/\BodyS K H a cs/\FewG ax cs/\(∀ ds,GapB ax cs ds->ds.length≤600) /\
 ∀ ds,GapB ax cs ds->∀ p zs H',Same H H'->H p=none->H' p=some (.lst zs)->Cs H' zs ds->Q (.ref p) H'
end Pc
local macro_rules | `(tactic| walk_at "lk")=>`(tactic| first | assumption | exact L2.upd_same | ((apply L2.lk_old);(assumption);(walk_at "lk")) | ((apply L2.lk_same);(assumption);(walk_at "lk")) | ((apply L2.lk_ne);(assumption);(walk_at "lk")))
local macro_rules | `(tactic| walk_at "sq")=>`(tactic| first | assumption | ((with_reducible apply L2.SqL.of);(walk_at "lk")) | ((with_reducible apply L2.SqT.of);(walk_at "lk")) | ((with_reducible apply L2.sqL_new);(assumption);(walk_at "sq")) | ((with_reducible apply L2.sqT_new);(assumption);(walk_at "sq")) | ((with_reducible apply L2.Same.seq);(assumption);(walk_at "sq")) | ((with_reducible apply L2.sqT_up);(assumption);(walk_at "sq")))
local macro_rules | `(tactic| walk_at "sz")=>`(tactic| first | exact Pc.le0 | exact Pc.le1 | exact Pc.le2 | exact Pc.le3 | exact Pc.le4 | exact Pc.le5 | exact Pc.le6)
local macro_rules | `(tactic| walk_at "rd1")=>`(tactic| first
 | (with_reducible (first | refine L2.rd_seq ?_ | refine L2.rd_asg ?_ | refine L2.rd_gname ?_))
 | ((with_reducible apply L2.rd_var);(exact rfl))
 | (with_reducible (first | refine L2.rd_c ?_ | refine L2.rd_op ?_ | refine L2.rd_un ?_ | refine L2.rd_i0 ?_))
 | ((with_reducible refine L2.rd_mod ?_ ?_);(first | decide | lia))
 | ((with_reducible refine L2.rd_fdiv ?_ ?_);(first | decide | (constructor <;> lia)))
 | ((with_reducible refine L2.rd_mulR ?_ ?_);(first | decide | (constructor <;> lia)))
 | ((with_reducible refine L2.rd_mulL ?_ ?_);(first | decide | (constructor <;> lia)))
 | (with_reducible (first | refine L2.rd_u ?_ | refine L2.rd_eqI ?_ | refine L2.rd_neI ?_ | refine L2.rd_test ?_ | refine L2.rd_tb ?_ | refine L2.rd_bl ?_ | refine L2.rd_ifs ?_ | refine L2.rd_and ?_ | refine L2.rd_or ?_ | refine L2.rd_not ?_ | refine L2.rd_andV ?_ | refine L2.rd_notV ?_ | refine L2.rd_next ?_ | refine L2.rd_ret ?_ | refine L2.rd_drop ?_ | refine L2.rd_nil ?_ | refine L2.rd_cons ?_ | refine L2.rd_tup ?_ | refine L2.rd_lst ?_ | refine L2.rd_call ?_ | refine L2.rd_cb ?_ | refine L2.rd_bm ?_ | refine L2.rd_bm0 ?_ | refine L2.rd_sl ?_ | refine L2.rd_nop ?_ | refine L2.rd_part ?_ | refine L2.rd_int ?_))
 | ((with_reducible apply L2.rd_ixLn);(walk_at "sq");(exact rfl))
 | ((with_reducible apply L2.rd_ixTn);(walk_at "sq");(exact rfl))
 | (with_reducible (first | refine L2.rd_true ?_ | refine L2.rd_false ?_ | refine L2.rd_ntrue ?_ | refine L2.rd_nfalse ?_))
 | ((with_reducible apply L2.rd_gtup);(walk_at "sq");(exact rfl))
 | (with_reducible (first | refine L2.rd_gnil ?_ | refine L2.rd_gcons ?_ | refine L2.rd_min2 ?_ | refine L2.rd_isII ?_ | refine L2.rd_isIB ?_))
 | ((with_reducible apply L2.rd_isTT);(walk_at "lk"))
 | ((with_reducible apply L2.rd_lenL);(walk_at "sq"))
 | ((with_reducible apply L2.rd_lenT);(walk_at "sq"))
 | ((with_reducible apply L2.rd_listL);(walk_at "sq"))
 | ((with_reducible apply L2.rd_listT);(walk_at "sq"))
 | ((with_reducible apply L2.rd_tupL);(walk_at "sq"))
 | ((with_reducible apply L2.rd_sll);(walk_at "sq"))
 | (with_reducible (first | refine L2.rd_for ?_ | refine L2.rd_comp ?_ | refine L2.rd_ilist ?_))
 | ((with_reducible apply L2.rd_il);(walk_at "sq"))
 | with_reducible refine L2.rd_irng1 ?_
 | ((with_reducible refine L2.rd_ir1 ?_ ?_ ?_);(first | decide | lia);(first | decide | lia))
 | with_reducible refine L2.rd_irng2 ?_
 | ((with_reducible refine L2.rd_ir2 ?_ ?_);(first | decide | lia))
 | (with_reducible (first | refine L2.rd_dget ?_ | refine L2.rd_notNr ?_ | refine L2.rd_izip ?_))
 | ((with_reducible apply L2.rd_iz);(walk_at "sq");(walk_at "sq"))
 | (with_reducible (first | refine L2.rd_dput ?_ | refine L2.rd_din ?_ | refine L2.rd_dnotin ?_ | refine L2.rd_dnewT ?_ | refine L2.rd_gsub ?_ | refine L2.rd_ienumT ?_ | refine L2.rd_dsetd ?_ | refine L2.rd_ienumL ?_))
 | ((with_reducible apply L2.rd_glst);(walk_at "sq");(exact rfl))
 | (with_reducible (first | refine L2.rd_notNn ?_ | refine L2.rd_notNi ?_)))
local macro_rules | `(tactic| walk_at "rd")=>`(tactic| repeat walk_at "rd1")
local macro_rules | `(tactic| walk_at "rdE")=>`(tactic| repeat (first
 | (with_reducible (first | refine L2.rd_asg ?_ | refine L2.rd_gname ?_))
 | ((with_reducible apply L2.rd_var);(exact rfl))
 | (with_reducible (first | refine L2.rd_c ?_ | refine L2.rd_op ?_ | refine L2.rd_i0 ?_))
 | ((with_reducible refine L2.rd_mod ?_ ?_);(first | decide | lia))
 | ((with_reducible refine L2.rd_fdiv ?_ ?_);(first | decide | (constructor <;> lia)))
 | (with_reducible (first | refine L2.rd_int ?_ | refine L2.rd_next ?_))))
namespace P53
open PySem L2 Srt Pc
noncomputable abbrev s_is_whole:Stmt:=top 4
noncomputable abbrev s_is_near:Stmt:=top 5
noncomputable abbrev s_is_cell:Stmt:=top 6
noncomputable abbrev s_along:Stmt:=top 7
noncomputable abbrev s_placed:Stmt:=top 8
noncomputable abbrev s_line_of:Stmt:=top 9
noncomputable abbrev s_on_line:Stmt:=top 10
noncomputable abbrev s_next_cell:Stmt:=top 11
noncomputable abbrev s_neighbours:Stmt:=top 12
noncomputable abbrev s_refuse_other_things:Stmt:=top 19
noncomputable abbrev s_few_enough:Stmt:=top 20
noncomputable abbrev s_body_of:Stmt:=top 21
noncomputable abbrev s_marked:Stmt:=top 22
noncomputable abbrev s_lines_of:Stmt:=top 23
noncomputable abbrev s_gaps_on:Stmt:=top 25
noncomputable abbrev s_gaps:Stmt:=top 26
noncomputable abbrev s_hold:Stmt:=top 27
noncomputable abbrev s__law_cell_at:Stmt:=top 29
noncomputable abbrev s__law_number:Stmt:=top 30
noncomputable abbrev s__law_frame:Stmt:=top 31
noncomputable abbrev s__law_spot:Stmt:=top 32
noncomputable abbrev s__law_body:Stmt:=top 33
noncomputable abbrev s__law_beside:Stmt:=top 34
noncomputable abbrev s__law_whole:Stmt:=top 35
noncomputable abbrev s__law_is_spot:Stmt:=top 36
noncomputable abbrev s__law_lines:Stmt:=top 37
noncomputable abbrev s__law_between:Stmt:=top 38
noncomputable abbrev s__law_nears:Stmt:=top 39
noncomputable abbrev s__law_pieces:Stmt:=top 40
noncomputable abbrev s__law_due:Stmt:=top 41
noncomputable abbrev s__law_shell:Stmt:=top 42
noncomputable abbrev s__law_bodies:Stmt:=top 43
noncomputable abbrev s__law_asked:Stmt:=top 44
noncomputable abbrev s_law:Stmt:=top 45
set_option genInjectivity false in
set_option genSizeOf false in
structure Ad where
 a_PLACES:Addr
 a_WAYS:Addr
 f_is_whole:Addr
 d_is_whole:FuncData
 f_is_near:Addr
 d_is_near:FuncData
 f_is_cell:Addr
 d_is_cell:FuncData
 f_along:Addr
 d_along:FuncData
 f_placed:Addr
 d_placed:FuncData
 f_line_of:Addr
 d_line_of:FuncData
 f_on_line:Addr
 d_on_line:FuncData
 f_next_cell:Addr
 d_next_cell:FuncData
 f_neighbours:Addr
 d_neighbours:FuncData
 f_refuse_other_things:Addr
 d_refuse_other_things:FuncData
 f_few_enough:Addr
 d_few_enough:FuncData
 f_body_of:Addr
 d_body_of:FuncData
 f_marked:Addr
 d_marked:FuncData
 f_lines_of:Addr
 d_lines_of:FuncData
 f_gaps_on:Addr
 d_gaps_on:FuncData
 f_gaps:Addr
 d_gaps:FuncData
 f_hold:Addr
 d_hold:FuncData
 f__law_cell_at:Addr
 d__law_cell_at:FuncData
 f__law_number:Addr
 d__law_number:FuncData
 f__law_frame:Addr
 d__law_frame:FuncData
 f__law_spot:Addr
 d__law_spot:FuncData
 f__law_body:Addr
 d__law_body:FuncData
 f__law_beside:Addr
 d__law_beside:FuncData
 f__law_whole:Addr
 d__law_whole:FuncData
 f__law_is_spot:Addr
 d__law_is_spot:FuncData
 f__law_lines:Addr
 d__law_lines:FuncData
 f__law_between:Addr
 d__law_between:FuncData
 f__law_nears:Addr
 d__law_nears:FuncData
 f__law_pieces:Addr
 d__law_pieces:FuncData
 f__law_due:Addr
 d__law_due:FuncData
 f__law_shell:Addr
 d__law_shell:FuncData
 f__law_bodies:Addr
 d__law_bodies:FuncData
 f__law_asked:Addr
 d__law_asked:FuncData
 f_law:Addr
 d_law:FuncData
structure All (K:PySem.W.Frag) (w:World) (mg:Str->Option Value) (ad:Ad):Prop where
 m_PLACES:mg "PLACES"=some (.ref ad.a_PLACES)
 t_PLACES:TopD K w ad.a_PLACES plD
 m_WAYS:mg "WAYS"=some (.ref ad.a_WAYS)
 t_WAYS:∀ H,SqT K H ad.a_WAYS (allW.map fun u=>V.str u.s)
 m_FARTHEST:∃ t,mg "FARTHEST"=some (.int 60 t)
 m_MOST_CELLS:∃ t,mg "MOST_CELLS"=some (.int 600 t)
 n_ValueError:mg "ValueError"=none
 n_all:mg "all"=none
 n_bool:mg "bool"=none
 n_enumerate:mg "enumerate"=none
 n_int:mg "int"=none
 n_isinstance:mg "isinstance"=none
 n_len:mg "len"=none
 n_list:mg "list"=none
 n_max:mg "max"=none
 n_min:mg "min"=none
 n_range:mg "range"=none
 n_set:mg "set"=none
 n_sorted:mg "sorted"=none
 n_tuple:mg "tuple"=none
 n_zip:mg "zip"=none
 is_whole:Fn K mg "is_whole" s_is_whole ad.f_is_whole ad.d_is_whole ["thing"]
 is_near:Fn K mg "is_near" s_is_near ad.f_is_near ad.d_is_near ["thing"]
 is_cell:Fn K mg "is_cell" s_is_cell ad.f_is_cell ad.d_is_cell ["thing"]
 along:Fn K mg "along" s_along ad.f_along ad.d_along ["cell","axis"]
 placed:Fn K mg "placed" s_placed ad.f_placed ad.d_placed ["cell","axis","number"]
 line_of:Fn K mg "line_of" s_line_of ad.f_line_of ad.d_line_of ["cell","axis"]
 on_line:Fn K mg "on_line" s_on_line ad.f_on_line ad.d_on_line ["line","axis","number"]
 next_cell:Fn K mg "next_cell" s_next_cell ad.f_next_cell ad.d_next_cell ["cell","way"]
 neighbours:Fn K mg "neighbours" s_neighbours ad.f_neighbours ad.d_neighbours ["cell"]
 refuse_other_things:Fn K mg "refuse_other_things" s_refuse_other_things ad.f_refuse_other_things ad.d_refuse_other_things ["things"]
 few_enough:Fn K mg "few_enough" s_few_enough ad.f_few_enough ad.d_few_enough ["cells"]
 body_of:Fn K mg "body_of" s_body_of ad.f_body_of ad.d_body_of ["cells"]
 marked:Fn K mg "marked" s_marked ad.f_marked ad.d_marked ["cells"]
 lines_of:Fn K mg "lines_of" s_lines_of ad.f_lines_of ad.d_lines_of ["body","axis"]
 gaps_on:Fn K mg "gaps_on" s_gaps_on ad.f_gaps_on ad.d_gaps_on ["line","axis","numbers"]
 gaps:Fn K mg "gaps" s_gaps ad.f_gaps ad.d_gaps ["body","axis"]
 hold:Fn K mg "hold" s_hold ad.f_hold ad.d_hold ["body","axis","core"]
 _law_cell_at:Fn K mg "_law_cell_at" s__law_cell_at ad.f__law_cell_at ad.d__law_cell_at ["_law_script","_law_k"]
 _law_number:Fn K mg "_law_number" s__law_number ad.f__law_number ad.d__law_number ["_law_cell","_law_k"]
 _law_frame:Fn K mg "_law_frame" s__law_frame ad.f__law_frame ad.d__law_frame ["_law_script"]
 _law_spot:Fn K mg "_law_spot" s__law_spot ad.f__law_spot ad.d__law_spot ["_law_frame_here","_law_cell"]
 _law_body:Fn K mg "_law_body" s__law_body ad.f__law_body ad.d__law_body ["_law_script","_law_frame_here","_law_cells"]
 _law_beside:Fn K mg "_law_beside" s__law_beside ad.f__law_beside ad.d__law_beside ["_law_spot_here","_law_at","_law_by"]
 _law_whole:Fn K mg "_law_whole" s__law_whole ad.f__law_whole ad.d__law_whole ["_law_found"]
 _law_is_spot:Fn K mg "_law_is_spot" s__law_is_spot ad.f__law_is_spot ad.d__law_is_spot ["_law_found"]
 _law_lines:Fn K mg "_law_lines" s__law_lines ad.f__law_lines ad.d__law_lines ["_law_body_here","_law_at"]
 _law_between:Fn K mg "_law_between" s__law_between ad.f__law_between ad.d__law_between ["_law_body_here","_law_at"]
 _law_nears:Fn K mg "_law_nears" s__law_nears ad.f__law_nears ad.d__law_nears ["_law_spot_here"]
 _law_pieces:Fn K mg "_law_pieces" s__law_pieces ad.f__law_pieces ad.d__law_pieces ["_law_some"]
 _law_due:Fn K mg "_law_due" s__law_due ad.f__law_due ad.d__law_due ["_law_known","_law_core"]
 _law_shell:Fn K mg "_law_shell" s__law_shell ad.f__law_shell ad.d__law_shell ["_law_frame_here"]
 _law_bodies:Fn K mg "_law_bodies" s__law_bodies ad.f__law_bodies ad.d__law_bodies ["_law_script","_law_frame_here"]
 _law_asked:Fn K mg "_law_asked" s__law_asked ad.f__law_asked ad.d__law_asked ["_law_body_here","_law_at"]
 law:Fn K mg "law" s_law ad.f_law ad.d_law ["_law_script"]
section
variable {P:Program} {w:World} {K:PySem.W.Frag} {mg:Str->Option Value} {base:Heap} {ad:Ad}
theorem sc_is_whole:FnScope ["thing"] ["thing"] (defScope s_is_whole):=⟨rfl,rfl,rfl,by decide +kernel,rfl,by decide +kernel,by decide +kernel⟩
theorem sc_is_near:FnScope ["thing"] ["thing"] (defScope s_is_near):=⟨rfl,rfl,rfl,by decide +kernel,rfl,by decide +kernel,by decide +kernel⟩
theorem sc_is_cell:FnScope ["thing"] ["thing"] (defScope s_is_cell):=⟨rfl,rfl,rfl,by decide +kernel,rfl,by decide +kernel,by decide +kernel⟩
theorem sc_along:FnScope ["cell","axis"] ["cell","axis"] (defScope s_along):=⟨rfl,rfl,rfl,by decide +kernel,rfl,by decide +kernel,by decide +kernel⟩
theorem sc_placed:FnScope ["cell","axis","number","numbers"] ["cell","axis","number"] (defScope s_placed):=⟨rfl,rfl,rfl,by decide +kernel,rfl,by decide +kernel,by decide +kernel⟩
theorem sc_line_of:FnScope ["cell","axis"] ["cell","axis"] (defScope s_line_of):=⟨rfl,rfl,rfl,by decide +kernel,rfl,by decide +kernel,by decide +kernel⟩
theorem sc_on_line:FnScope ["line","axis","number","numbers"] ["line","axis","number"] (defScope s_on_line):=⟨rfl,rfl,rfl,by decide +kernel,rfl,by decide +kernel,by decide +kernel⟩
theorem sc_next_cell:FnScope ["cell","way","axis","step"] ["cell","way"] (defScope s_next_cell):=⟨rfl,rfl,rfl,by decide +kernel,rfl,by decide +kernel,by decide +kernel⟩
theorem sc_neighbours:FnScope ["cell"] ["cell"] (defScope s_neighbours):=⟨rfl,rfl,rfl,by decide +kernel,rfl,by decide +kernel,by decide +kernel⟩
theorem sc_refuse_other_things:FnScope ["things","place","thing"] ["things"] (defScope s_refuse_other_things):=⟨rfl,rfl,rfl,by decide +kernel,rfl,by decide +kernel,by decide +kernel⟩
theorem sc_few_enough:FnScope ["cells"] ["cells"] (defScope s_few_enough):=⟨rfl,rfl,rfl,by decide +kernel,rfl,by decide +kernel,by decide +kernel⟩
theorem sc_body_of:FnScope ["cells"] ["cells"] (defScope s_body_of):=⟨rfl,rfl,rfl,by decide +kernel,rfl,by decide +kernel,by decide +kernel⟩
theorem sc_marked:FnScope ["cells","marks","cell"] ["cells"] (defScope s_marked):=⟨rfl,rfl,rfl,by decide +kernel,rfl,by decide +kernel,by decide +kernel⟩
theorem sc_lines_of:FnScope ["body","axis","lines","cell"] ["body","axis"] (defScope s_lines_of):=⟨rfl,rfl,rfl,by decide +kernel,rfl,by decide +kernel,by decide +kernel⟩
theorem sc_gaps_on:FnScope ["line","axis","numbers","found","low","high"] ["line","axis","numbers"] (defScope s_gaps_on):=⟨rfl,rfl,rfl,by decide +kernel,rfl,by decide +kernel,by decide +kernel⟩
theorem sc_gaps:FnScope ["body","axis","found","line","numbers"] ["body","axis"] (defScope s_gaps):=⟨rfl,rfl,rfl,by decide +kernel,rfl,by decide +kernel,by decide +kernel⟩
theorem sc_hold:FnScope ["body","axis","core","taken","cell","near"] ["body","axis","core"] (defScope s_hold):=⟨rfl,rfl,rfl,by decide +kernel,rfl,by decide +kernel,by decide +kernel⟩
theorem sc__law_cell_at:FnScope ["_law_script","_law_k"] ["_law_script","_law_k"] (defScope s__law_cell_at):=⟨rfl,rfl,rfl,by decide +kernel,rfl,by decide +kernel,by decide +kernel⟩
theorem sc__law_number:FnScope ["_law_cell","_law_k","_law_number_here","_law_digits","_law_turn"] ["_law_cell","_law_k"] (defScope s__law_number):=⟨rfl,rfl,rfl,by decide +kernel,rfl,by decide +kernel,by decide +kernel⟩
theorem sc__law_frame:FnScope ["_law_script","_law_sizes","_law_lows","_law_k","_law_cell","_law_size","_law_far"] ["_law_script"] (defScope s__law_frame):=⟨rfl,rfl,rfl,by decide +kernel,rfl,by decide +kernel,by decide +kernel⟩
theorem sc__law_spot:FnScope ["_law_frame_here","_law_cell","_law_sizes","_law_lows"] ["_law_frame_here","_law_cell"] (defScope s__law_spot):=⟨rfl,rfl,rfl,by decide +kernel,rfl,by decide +kernel,by decide +kernel⟩
theorem sc__law_body:FnScope ["_law_script","_law_frame_here","_law_cells","_law_known","_law_sizes","_law_lows","_law_cell","_law_spot_here","_law_at","_law_turn"] ["_law_script","_law_frame_here","_law_cells"] (defScope s__law_body):=⟨rfl,rfl,rfl,by decide +kernel,rfl,by decide +kernel,by decide +kernel⟩
theorem sc__law_beside:FnScope ["_law_spot_here","_law_at","_law_by"] ["_law_spot_here","_law_at","_law_by"] (defScope s__law_beside):=⟨rfl,rfl,rfl,by decide +kernel,rfl,by decide +kernel,by decide +kernel⟩
theorem sc__law_whole:FnScope ["_law_found"] ["_law_found"] (defScope s__law_whole):=⟨rfl,rfl,rfl,by decide +kernel,rfl,by decide +kernel,by decide +kernel⟩
theorem sc__law_is_spot:FnScope ["_law_found"] ["_law_found"] (defScope s__law_is_spot):=⟨rfl,rfl,rfl,by decide +kernel,rfl,by decide +kernel,by decide +kernel⟩
theorem sc__law_lines:FnScope ["_law_body_here","_law_at","_law_lines_here","_law_spot_here"] ["_law_body_here","_law_at"] (defScope s__law_lines):=⟨rfl,rfl,rfl,by decide +kernel,rfl,by decide +kernel,by decide +kernel⟩
theorem sc__law_between:FnScope ["_law_body_here","_law_at","_law_lines_here","_law_some","_law_line","_law_number_here"] ["_law_body_here","_law_at"] (defScope s__law_between):=⟨rfl,rfl,rfl,by decide +kernel,rfl,by decide +kernel,by decide +kernel⟩
theorem sc__law_nears:FnScope ["_law_spot_here","_law_some","_law_at"] ["_law_spot_here"] (defScope s__law_nears):=⟨rfl,rfl,rfl,by decide +kernel,rfl,by decide +kernel,by decide +kernel⟩
theorem sc__law_pieces:FnScope ["_law_some","_law_left","_law_spot_here","_law_found","_law_one","_law_at","_law_near"] ["_law_some"] (defScope s__law_pieces):=⟨rfl,rfl,rfl,by decide +kernel,rfl,by decide +kernel,by decide +kernel⟩
theorem sc__law_due:FnScope ["_law_known","_law_core","_law_spot_here","_law_near"] ["_law_known","_law_core"] (defScope s__law_due):=⟨rfl,rfl,rfl,by decide +kernel,rfl,by decide +kernel,by decide +kernel⟩
theorem sc__law_shell:FnScope ["_law_frame_here","_law_sizes","_law_lows","_law_some","_law_x","_law_y","_law_z"] ["_law_frame_here"] (defScope s__law_shell):=⟨rfl,rfl,rfl,by decide +kernel,rfl,by decide +kernel,by decide +kernel⟩
theorem sc__law_bodies:FnScope ["_law_script","_law_frame_here","_law_body_here","_law_shell_here","_law_gone"] ["_law_script","_law_frame_here"] (defScope s__law_bodies):=⟨rfl,rfl,rfl,by decide +kernel,rfl,by decide +kernel,by decide +kernel⟩
theorem sc__law_asked:FnScope ["_law_body_here","_law_at","_law_some","_law_known","_law_spot_here","_law_core","_law_handed","_law_found"] ["_law_body_here","_law_at"] (defScope s__law_asked):=⟨rfl,rfl,rfl,by decide +kernel,rfl,by decide +kernel,by decide +kernel⟩
theorem sc_law:FnScope ["_law_script","_law_frame_here","_law_body_here","_law_at"] ["_law_script"] (defScope s_law):=⟨rfl,rfl,rfl,by decide +kernel,rfl,by decide +kernel,by decide +kernel⟩
end
section
variable {P:Program} {w:World} {K:PySem.W.Frag} {mg:Str->Option Value} {base:Heap} {ad:Ad}
theorem ok_is_whole (L:All K w mg ad):FnOk P w K mg base CX0 1 ad.f_is_whole ad.d_is_whole ["thing"] spWhole:=by
 refine L.is_whole.F.okQ sc_is_whole (fun vs H Q E h=>?_) (fun cdv A outer s H vs Q E hr h=>?_)
 ·obtain ⟨x,rfl,_⟩:=h
  rfl
 obtain ⟨x,rfl,hs,k⟩:=h
 refine ⟨_,(qss_one (qs_ret (qe_and (qe_callB (qc_isI (K:=K) rfl) rfl L.n_isinstance b_isinstance (qa_cons (qv 0) (qa_cons (qe_bltn (v:=.ty "int") rfl L.n_int b_int rfl) qa_nil))) (qe_one (qe_not (qe_callB (qc_isI (K:=K) rfl) rfl L.n_isinstance b_isinstance (qa_cons (qv 0) (qa_cons (qe_bltn (v:=.ty "bool") rfl L.n_bool b_bool rfl) qa_nil)))))))),?_⟩
 cases x with
 | non=>exact ⟨_,rfl,_,_,_,false,rfl,.non,kit_non_int K,false,rfl,iteF k⟩
 | bl b=>exact ⟨_,rfl,_,_,_,true,rfl,.bl b,kit_bool_int K,true,rfl,iteT ⟨_,rfl,_,_,_,true,rfl,.bl b,kit_bool_bool K,true,rfl,k⟩⟩
 | int i=>exact ⟨_,rfl,_,_,_,true,rfl,.int i,kit_int_int K,true,rfl,iteT ⟨_,rfl,_,_,_,false,rfl,.int i,kit_int_bool K,false,rfl,k⟩⟩
 | str z=>exact ⟨_,rfl,_,_,_,false,rfl,.str z,kit_str_int K,false,rfl,iteF k⟩
 | _=>cases hs
theorem ok_is_near (L:All K w mg ad):FnOk P w K mg base CX0 2 ad.f_is_near ad.d_is_near ["thing"] spNear:=by
 refine L.is_near.F.okQ sc_is_near (fun vs H Q E h=>?_) (fun cdv A outer s H vs Q E hr h=>?_)
 ·obtain ⟨x,rfl,_⟩:=h
  rfl
 obtain ⟨x,rfl,hs,k⟩:=h
 refine ⟨_,(qss_one (qs_ret (qe_and (qe_call ((ok_is_whole L).mono (by decide)) hr rfl L.is_whole.m L.is_whole.F.kp L.is_whole.b .nil pass0 (qa_cons (qv 0) qa_nil)) (qe_one (qe_chain qo_le qo_le (qe_neg (qe_globI L.m_FARTHEST rfl)) (qv 0) (qe_globI L.m_FARTHEST rfl)))))),?_⟩
 cases x with
 | non=>exact ⟨_,rfl,_,rfl,rfl,false,rfl,iteF k⟩
 | bl b=>exact ⟨_,rfl,_,rfl,rfl,false,rfl,iteF k⟩
 | str z=>exact ⟨_,rfl,_,rfl,rfl,false,rfl,iteF k⟩
 | int i =>
  refine ⟨_,rfl,_,rfl,rfl,true,rfl,iteT ?_⟩
  refine ⟨60,rfl,_,rfl,_,_,rfl,rfl,_,rfl,?_⟩
  have k:Q (.bl (decide (-60≤i)&&decide (i≤60))) H:=k
  cases e:decide (-60≤i)
  ·rw [e] at k
   exact iteF k
  ·rw [e,Bool.true_and] at k
   exact iteT ⟨_,_,rfl,rfl,k⟩
 | _=>cases hs
theorem ok_is_cell (L:All K w mg ad):FnOk P w K mg base CX0 3 ad.f_is_cell ad.d_is_cell ["thing"] (spCell K):=by
 refine L.is_cell.F.okQ sc_is_cell (fun vs H Q E h=>?_) (fun cdv A outer s H vs Q E hr h=>?_)
 ·obtain ⟨x,rfl,_⟩:=h
  rfl
 obtain ⟨x,rfl,h⟩:=h
 refine ⟨_,(qss_cons (qs_if (QW.t (qw_or (qt_not (qt_val (qe_callB (qc_isI (K:=K) rfl) rfl L.n_isinstance b_isinstance (qa_cons (qv 0) (qa_cons (qe_bltn (v:=.ty "tuple") rfl L.n_tuple b_tuple rfl) qa_nil))))) (qw_or1 (qt_cmpR qo_ne (qe_callB (qc_len (K:=K) rfl) rfl L.n_len b_len (qa_cons (qv 0) qa_nil)) qe_int (nomark _))))) (qss_one (qs_ret qe_bl)) qss_nil)
  (qss_one (qs_ret (qe_callB (qc_all (K:=K) rfl rfl) rfl L.n_all b_all (qa_cons (qe_comp (N:=["number"]) ["number"] [] rfl rfl rfl rfl (qi_tup (K:=K) rfl (qv 0)) (fun _ _ _ _=>(qg_name (i:=0) (by show (["number"]:List Str).Nodup;decide +kernel) rfl (Or.inl rfl))) (fun _ _ _ _=>qf_nil) (fun _ _ _ _=>(qe_call ((ok_is_near L).mono (by decide)) hr rfl L.is_near.m L.is_near.F.kp L.is_near.b .nil pass0 (qa_cons (qv 0) qa_nil)))) qa_nil))))),?_⟩
 rcases h with ⟨a,xs,rfl,hS,hsm,hl4,k⟩ | ⟨⟨t,ty,hk⟩,k⟩
 ·refine ⟨_,rfl,_,_,_,true,rfl,.tup hS,kit_tuple_tuple K,_,rfl,iteF ?_⟩
  refine ⟨_,rfl,a,_,rfl,.inr (SqT.of hS),rfl,_,rfl,?_⟩
  by_cases h3:xs.length=3
  ·rw [h3] at k ⊢
   refine iteF ?_
   refine ⟨_,rfl,a,rfl,⟨_,SqT.of hS⟩,fun acc hacc=>comp_turns (n:=xs.length) (fun i σ' H'=>(∃ o,σ'=[o])/\Same H H'/\H' acc=some (.lst (((xs.take i).map nearV).map V.bl))) ?_ ?_ ?_⟩
   ·exact ⟨⟨none,rfl⟩,same_nw (Same.refl H) hacc,upd_same⟩
   ·rintro σ' H' ⟨_,s1,e1⟩
    rw [List.take_of_length_le (Nat.le_refl _)] at e1
    refine ⟨itt_stop (SqT.of (s1 _ _ hS)),acc,xs.map nearV,rfl,SqL.of e1,?_⟩
    have e:(xs.map nearV).all id=(decide (3=3)&&xs.all nearV):=by simp [List.all_map]
    rw [e]
    exact k H' s1
   ·rintro i σ' H' hi ⟨⟨o,rfl⟩,s1,e1⟩
    refine ⟨itt_go (SqT.of (s1 _ _ hS)) hi,fun x H2 y=>?_⟩
    obtain ⟨rfl,ex⟩:=itt_yld (SqT.of (s1 _ _ hS)) y
    have sx:smp x=true:=List.all_eq_true.mp hsm x (List.mem_of_getElem? ex)
    dsimp only [gName,tYes]
    refine iteT ?_
    refine ⟨_,rfl,x,rfl,sx,_,e1,?_,⟨_,rfl⟩,same_up s1 hacc,?_⟩
    ·rw [List.length_map,List.length_map,List.length_take]
     exact small1000 (by lia)
    ·rw [upd_same,List.take_add_one,ex]
     simp
  ·have e:(!decide (V.int (xs.length:Int)=V.int 3))=true:=by
    have:¬ V.int (xs.length:Int)=V.int 3:=fun z=>h3 (by have:=V.int.inj z;lia)
    simp [this]
   rw [e]
   refine iteT ?_
   have q:=k H (Same.refl H)
   rw [decide_eq_false h3] at q
   exact q
 ·refine ⟨_,rfl,_,_,_,false,rfl,ty,hk,_,rfl,iteT ?_⟩
  exact k
theorem ok_refuse_other_things (L:All K w mg ad):FnOk P w K mg base CX0 4 ad.f_refuse_other_things ad.d_refuse_other_things ["things"] (spRefuse K):=by
 refine L.refuse_other_things.F.okQ sc_refuse_other_things (fun vs H Q E h=>?_) (fun cdv A outer s H vs Q E hr h=>?_)
 ·obtain ⟨a,ys,cs,rfl,_⟩:=h
  rfl
 obtain ⟨a,ys,cs,rfl,hS,hc,hl,hw,k⟩:=h
 refine ⟨_,(qss_one (qs_for PassesOwn.never rfl (qi_enumL (K:=K) rfl rfl L.n_enumerate (qa_cons (qv 0) qa_nil)) (qg_tup (K:=K) (n:=2) rfl rfl (qgs_cons (qg_name (i:=1) sc_refuse_other_things.nd rfl (Or.inl rfl)) (qgs_cons (qg_name (i:=2) sc_refuse_other_things.nd rfl (Or.inl rfl)) qgs_nil)))
   (qss_one (qs_if (qt_not (qt_val (qe_call ((ok_is_cell L).mono (by decide)) hr rfl L.is_cell.m L.is_cell.F.kp L.is_cell.b .nil pass0 (qa_cons (qv 2) qa_nil)))) (qss_one qs_never) qss_nil)))),?_⟩
 walk_at "rd"
 refine ⟨a,rfl,⟨_,hS⟩,?_⟩
 refine for_feeds (R:=IsN IsC) (H0:=H) (fun i σ H'=>(∃ o1 o2,σ=[some (.ref a),o1,o2])/\Same H H') (feeds_enumL hS hc) (fun _ _ _ q=>q.2) ⟨⟨_,_,rfl⟩,Same.refl _⟩ ?_ ?_
 ·rintro σ H' ⟨⟨o1,o2,rfl⟩,s1⟩
  exact k H' s1
 ·rintro i ⟨j,c⟩ v σ H1 H' hi ex ⟨⟨o1,o2,rfl⟩,s1⟩ s2 ⟨t,u,rfl,et,b,rfl,eb⟩
  have hm:c∈cs:=by
   have:=List.mem_of_getElem? ex
   exact (List.of_mem_zip this).2
  have hwc:=hw c hm
  walk_at "rd"
  refine ⟨_,rfl,.inl ⟨b,c.v,rfl,eb,rfl,by show 3≤4;decide,fun H2 s3=>?_⟩⟩
  have ec:(decide (c.v.length=3)&&c.v.all nearV)=true:=by
   obtain ⟨⟨a1,a2⟩,⟨b1,b2⟩,⟨c1,c2⟩⟩:=hwc
   obtain ⟨x,y,z⟩:=c
   dsimp only at *
   simp [C3.v,C3.l,nearV,near,a1,a2,b1,b2,c1,c2]
  rw [ec]
  walk_at "rd"
  exact ⟨⟨_,_,rfl⟩,s1.trans (s2.trans s3)⟩
theorem ok_few_enough (L:All K w mg ad):FnOk P w K mg base CX0 1 ad.f_few_enough ad.d_few_enough ["cells"] (spFewA K):=by
 refine L.few_enough.F.okQ sc_few_enough (fun vs H Q E h=>?_) (fun cdv A outer s H vs Q E hr h=>?_)
 ·obtain ⟨a,ys,rfl,_⟩:=h
  rfl
 obtain ⟨a,ys,rfl,hS,hl,k⟩:=h
 refine ⟨_,(qss_cons (qs_if (qt_cmpR qo_gt (qe_callB (qc_len (K:=K) rfl) rfl L.n_len b_len (qa_cons (qv 0) qa_nil)) (qe_globI L.m_MOST_CELLS rfl) (nomark _)) (qss_one qs_never) qss_nil)
  (qss_one (qs_ret (qv 0)))),?_⟩
 walk_at "rd"
 rw [decide_eq_false (show ¬ (600:Int) < (ys.length:Int) by lia)]
 walk_at "rd"
 exact k H (Same.refl _)
theorem ok_body_of (L:All K w mg ad):FnOk P w K mg base CX0 5 ad.f_body_of ad.d_body_of ["cells"] (spBodyA K):=by
 refine L.body_of.F.okQ sc_body_of (fun vs H Q E h=>?_) (fun cdv A outer s H vs Q E hr h=>?_)
 ·obtain ⟨a,ys,cs,rfl,_⟩:=h
  rfl
 obtain ⟨a,ys,cs,rfl,hS,hc,hl,hin,h6,k⟩:=h
 refine ⟨_,(qss_cons (qs_expr (qe_call ((ok_refuse_other_things L).mono (by decide)) hr rfl L.refuse_other_things.m L.refuse_other_things.F.kp L.refuse_other_things.b .nil pass0 (qa_cons (qv 0) qa_nil)))
  (qss_one (qs_ret (qe_call ((ok_few_enough L).mono (by decide)) hr rfl L.few_enough.m L.few_enough.F.kp L.few_enough.b .nil pass0 (qa_cons (qe_callB (qc_sortS (w:=w) rfl rfl) rfl L.n_sorted b_sorted (qa_cons (qe_callTy (qc_setC (K:=K) (w:=w) rfl rfl rfl hr.units) rfl L.n_set b_set (qa_cons (qv 0) qa_nil)) qa_nil)) qa_nil))))),?_⟩
 walk_at "rd"
 refine ⟨a,ys,cs,rfl,hS,hc,by lia,hin,fun H1 s1=>?_⟩
 have hcs:=Rs.up s1 hc
 obtain ⟨ps,e1,e2,e3,e4⟩:=prs_of (K:=K) hcs
 have hpl:ps.length=cs.length:=by have:=congrArg List.length e2;simpa using this
 walk_at "rd"
 refine ⟨a,ps,rfl,by rw [←e1];exact s1.seq hS,e4,by lia,fun S es hSn hnd hm hes=>?_⟩
 have sS:=same_new (o:=SetO w S es) hSn
 walk_at "rd"
 refine ⟨S,es,2,rfl,upd_same,fun x hx=>⟨sS _ _ (hes x hx),?_⟩,fun p zs ks' hp hperm hsrt hr=>?_⟩
 ·have:=(hm x.1).mp (List.mem_map.mpr ⟨x,hx,rfl⟩)
  rw [e2] at this
  obtain ⟨c,_,e⟩:=List.mem_map.mp this
  rw [←e]
  rfl
 have hb:=body_sorted (cs:=cs) hperm hsrt hr hnd (fun k=>by rw [hm k,e2])
 have sp:=same_new (o:=.lst zs) hp
 have sA:=s1.trans (sS.trans sp)
 have hpn:H p=none:=(s1.trans sS).free hp
 have hzl:zs.length=(bodyC cs).length:=hb.len
 walk_at "rd"
 refine ⟨p,zs,rfl,upd_same,by lia,fun H2 s2=>?_⟩
 exact k p zs H2 (sA.trans s2) hpn (s2 _ _ upd_same) (Rs.up s2 hb)
theorem ok_along (L:All K w mg ad):FnOk P w K mg base CX0 1 ad.f_along ad.d_along ["cell","axis"] (spAlong K):=by
 refine L.along.F.okQ sc_along (fun vs H Q E h=>?_) (fun cdv A outer s H vs Q E hr h=>?_)
 ·obtain ⟨a,ax,c,rfl,_⟩:=h
  rfl
 obtain ⟨a,ax,c,rfl,hS,k⟩:=h
 refine ⟨_,(qss_one (qs_ret (qe_ix (qx_tup (K:=K) rfl) (qv 0) (qe_ix (qx_top (K:=K) (w:=w) rfl rfl) (qe_glob (v:=.ref ad.a_PLACES) rfl L.m_PLACES rfl) (qv 1) (fun _ _=>rfl)) (fun _ _=>rfl)))),?_⟩
 exact ⟨_,rfl,_,rfl,_,_,_,_,rfl,rfl,L.t_PLACES,mem_ax ax,a,_,_,_,rfl,rfl,hS,at_ax ax c,k⟩
theorem ok_placed (L:All K w mg ad):FnOk P w K mg base CX0 1 ad.f_placed ad.d_placed ["cell","axis","number"] (spPlaced K):=by
 refine L.placed.F.okQ sc_placed (fun vs H Q E h=>?_) (fun cdv A outer s H vs Q E hr h=>?_)
 ·obtain ⟨a,ax,c,v,rfl,_⟩:=h
  rfl
 obtain ⟨a,ax,c,v,rfl,hS,k⟩:=h
 refine ⟨_,(qss_cons (qs_set (i:=3) sc_placed.nd rfl (Or.inl rfl) (qe_callTy (qc_list (K:=K) rfl) rfl L.n_list b_list (qa_cons (qv 0) qa_nil)))
  (qss_cons (qs_asg (qv 2) (qg_sub (qv 3) (qe_ix (qx_top (K:=K) (w:=w) rfl rfl) (qe_glob (v:=.ref ad.a_PLACES) rfl L.m_PLACES rfl) (qv 1) (fun _ _=>rfl))))
  (qss_one (qs_ret (qe_callTy (qc_tuple (K:=K) rfl) rfl L.n_tuple b_tuple (qa_cons (qv 3) qa_nil)))))),?_⟩
 obtain ⟨j,ej,hj⟩:=ix_ax ax c
 refine ⟨_,rfl,a,_,rfl,.inr hS,fun l hl=>?_⟩
 refine ⟨_,rfl,_,rfl,_,rfl,_,_,_,_,rfl,rfl,L.t_PLACES,mem_ax ax,l,_,_,_,rfl,rfl,upd_same,ej,?_⟩
 refine ⟨_,rfl,l,_,rfl,.inl ⟨SqL.of upd_same,fun p hp=>?_⟩⟩
 rw [hj]
 rw [hj] at hp
 exact k p _ (same_nw (same_up (same_nw (Same.refl H) hl) hl) hp) upd_same
theorem ok_next_cell (L:All K w mg ad):FnOk P w K mg base CX0 2 ad.f_next_cell ad.d_next_cell ["cell","way"] (spNext K):=by
 refine L.next_cell.F.okQ sc_next_cell (fun vs H Q E h=>?_) (fun cdv A outer s H vs Q E hr h=>?_)
 ·obtain ⟨a,u,c,rfl,_⟩:=h
  rfl
 obtain ⟨a,u,c,rfl,hS,k⟩:=h
 refine ⟨_,(qss_cons (qs_set (i:=2) sc_next_cell.nd rfl (Or.inl rfl) (qe_ix qx_str (qv 1) qe_int (fun _ _=>rfl)))
  (qss_cons (qs_set (i:=3) sc_next_cell.nd rfl (Or.inl rfl) (qe_ifExp (qt_cmpR qo_eq (qe_ix qx_str (qv 1) qe_int (fun _ _=>rfl)) qe_str (nomark _)) qe_int (qe_neg qe_int)))
  (qss_one (qs_ret (qe_call ((ok_placed L).mono (by decide)) hr rfl L.placed.m L.placed.F.kp L.placed.b .nil pass0 (qa_cons (qv 0) (qa_cons (qv 2) (qa_cons (qe_op qo_add (qe_call ((ok_along L).mono (by decide)) hr rfl L.along.m L.along.F.kp L.along.b .nil pass0 (qa_cons (qv 0) (qa_cons (qv 2) qa_nil))) (qv 3)) qa_nil)))))))),?_⟩
 obtain ⟨c1,e1,q1⟩:=way_ax u
 obtain ⟨c0,e0,q0⟩:=way_sg u
 refine ⟨_,rfl,u.s,1,c1,rfl,rfl,way_len u,e1,?_⟩
 rw [q1]
 refine ⟨_,rfl,u.s,0,c0,rfl,rfl,way_len u,e0,rfl,_,rfl,?_⟩
 rw [q0]
 have nx:u.next c=u.ax.put (u.ax.at c+sg u.up) c:=rfl
 cases hu:u.up
 ·refine iteF ?_
  rw [hu] at nx
  rw [nx] at k
  exact ⟨1,rfl,_,rfl,_,rfl,_,rfl,_,rfl,a,u.ax,c,rfl,hS,_,rfl,_,_,rfl,rfl,a,u.ax,c,_,rfl,hS,k⟩
 ·refine iteT ?_
  rw [hu] at nx
  rw [nx] at k
  exact ⟨_,rfl,_,rfl,_,rfl,_,rfl,a,u.ax,c,rfl,hS,_,rfl,_,_,rfl,rfl,a,u.ax,c,_,rfl,hS,k⟩
theorem ok_neighbours (L:All K w mg ad):FnOk P w K mg base CX0 3 ad.f_neighbours ad.d_neighbours ["cell"] (spNb K):=by
 refine L.neighbours.F.okQ sc_neighbours (fun vs H Q E h=>?_) (fun cdv A outer s H vs Q E hr h=>?_)
 ·obtain ⟨a,c,rfl,_⟩:=h
  rfl
 obtain ⟨a,c,rfl,hS,k⟩:=h
 refine ⟨_,(qss_one (qs_ret (qe_callB (qc_sortT (K:=K) rfl) rfl L.n_sorted b_sorted (qa_cons (qe_comp (N:=["way","cell"]) ["way"] [0] rfl rfl rfl rfl (qi_tup (K:=K) rfl (qe_glob (v:=.ref ad.a_WAYS) rfl L.m_WAYS rfl)) (fun _ _ _ _=>(qg_name (i:=0) (by show (["way","cell"]:List Str).Nodup;decide +kernel) rfl (Or.inl rfl))) (fun _ _ _ _=>qf_nil) (fun _ _ _ _=>(qe_call ((ok_next_cell L).mono (by decide)) hr rfl L.next_cell.m L.next_cell.F.kp L.next_cell.b .nil pass0 (qa_cons (qv 1) (qa_cons (qv 0) qa_nil))))) qa_nil)))),?_⟩
 refine ⟨_,rfl,⟨_,L.t_WAYS _⟩,fun acc hacc=>comp_turns (n:=6) (fun i σ' H'=>(∃ o,σ'=[o,some (.ref a)])/\Same H H'/\∃ ps,Made H' acc ps/\ps.map (·.2)=(allW.take i).map fun u=>(u.next c).l) ?_ ?_ ?_⟩
 ·exact ⟨⟨none,rfl⟩,same_nw (Same.refl H) hacc,[],⟨upd_same,fun q hq=>nomatch hq⟩,rfl⟩
 ·rintro σ' H' ⟨_,s1,ps,mk,e⟩
  have e6:allW.take 6=allW:=rfl
  rw [e6] at e
  have hl:ps.length=6:=by have:=congrArg List.length e;simpa [allW] using this
  refine ⟨itt_stop (L.t_WAYS H'),acc,ps,3,rfl,SqL.of mk.1,mk.tps,fun q hq=>?_,by decide,by lia,by lia,fun p qs hp hq hr=>?_⟩
  ·have:q.2∈ps.map (·.2):=List.mem_map.mpr ⟨q,hq,rfl⟩
   rw [e] at this
   obtain ⟨u,_,eu⟩:=List.mem_map.mp this
   rw [←eu]
   rfl
  ·refine k p qs _ (same_nw s1 hp) ⟨upd_same,fun q hq'=>?_⟩ (s1.free hp) ?_
   ·have m:=mk.2 q (hq.mem_iff.mp hq')
    rw [upd_ne (ne_of_none m hp)]
    exact m
   ·refine srt_one _ _ ?_ (List.pairwise_map.mpr hr) (nbs_rise c)
    have h1:=hq.map (·.2)
    rw [e] at h1
    exact h1.trans (nbs_perm c)
 ·rintro i σ' H' hi ⟨⟨o,rfl⟩,s1,ps,mk,e⟩
  refine ⟨itt_go (L.t_WAYS H') hi,fun x H2 y=>?_⟩
  obtain ⟨rfl,ex⟩:=itt_yld (L.t_WAYS H') y
  rw [List.getElem?_map] at ex
  cases eu:allW[i]? with
  | none=>rw [eu] at ex;cases ex
  | some u =>
   rw [eu] at ex
   obtain rfl:V.str u.s=x:=Option.some.inj ex
   dsimp only [gName,tYes]
   refine iteT ?_
   refine ⟨_,rfl,_,rfl,a,u,c,rfl,same_tup s1 hS,fun p H3 s3 e3=>?_⟩
   have hl:(refs ps).length < sizeLine:=by
    have:=congrArg List.length e
    rw [List.length_map] at this ⊢
    rw [this,List.length_map,List.length_take]
    exact small1000 (by lia)
   refine ⟨_,s3 _ _ mk.1,hl,⟨_,rfl⟩,same_up (s1.trans s3) hacc,ps ++ [(p,(u.next c).l)],⟨?_,fun q hq=>?_⟩,?_⟩
   ·rw [upd_same];simp [refs]
   ·rcases List.mem_append.mp hq with hq | hq
    ·have m:=s3 _ _ (mk.2 q hq)
     rw [upd_ne (ne_of m (s3 _ _ mk.1) (by intro z;cases z))]
     exact m
    ·obtain rfl:q=(p,(u.next c).l):=by simpa using hq
     rw [upd_ne (ne_of e3 (s3 _ _ mk.1) (by intro z;cases z))]
     exact e3
   ·rw [List.map_append,e,List.take_add_one,eu]
    simp
theorem ok_marked (L:All K w mg ad):FnOk P w K mg base CX0 1 ad.f_marked ad.d_marked ["cells"] (spMarked K):=by
 refine L.marked.F.okQ sc_marked (fun vs H Q E h=>?_) (fun cdv A outer s H vs Q E hr h=>?_)
 ·obtain ⟨a,ys,cs,rfl,_⟩:=h
  rfl
 obtain ⟨a,ys,cs,rfl,hS,hc,hl,k⟩:=h
 refine ⟨_,(qss_cons (qs_set (i:=1) sc_marked.nd rfl (Or.inl rfl) qe_dnewT)
  (qss_cons (qs_for PassesOwn.never rfl (qi_list (K:=K) rfl (qv 0)) (qg_name (i:=2) sc_marked.nd rfl (Or.inl rfl))
   (qss_one (qs_dput (hu_of hr) (qv 1) (qv 2) qe_bl rfl)))
  (qss_one (qs_ret (qv 1))))),?_⟩
 walk_at "rd"
 intro d hd
 walk_at "rd"
 refine for_feeds (R:=IsC) (H0:=H) (fun i σ H'=>(∃ o,σ=[some (.ref a),some (.ref d),o])/\Same H H'/\Marks H' d ((cs.take i).foldl addC [])) (feeds_list hS hc) (fun _ _ _ q=>q.2.1) ⟨⟨_,rfl⟩,same_new hd,upd_same⟩ ?_ ?_
 ·rintro σ H' ⟨⟨o,rfl⟩,s1,e1⟩
  rw [List.take_of_length_le (Nat.le_refl _)] at e1
  walk_at "rd"
  exact k d H' s1 hd e1
 ·rintro i c v σ H1 H' hi ex ⟨⟨o,rfl⟩,s1,e1⟩ s2 ⟨b,rfl,eb⟩
  walk_at "rd"
  have hl2:=fold_addC_len (cs.take i)
  rw [List.length_take] at hl2
  refine marks_put (s2 _ _ e1) eb (by lia) fun e3=>⟨⟨_,rfl⟩,same_up (s1.trans s2) hd,?_⟩
  rw [take_snoc ex,List.foldl_append]
  exact e3
theorem ok_line_of (L:All K w mg ad):FnOk P w K mg base CX0 1 ad.f_line_of ad.d_line_of ["cell","axis"] (spLine K):=by
 refine L.line_of.F.okQ sc_line_of (fun vs H Q E h=>?_) (fun cdv A outer s H vs Q E hr h=>?_)
 ·obtain ⟨a,ax,c,rfl,_⟩:=h
  rfl
 obtain ⟨a,ax,c,rfl,hS,k⟩:=h
 refine ⟨_,(qss_one (qs_ret (qe_callTy (qc_tuple (K:=K) rfl) rfl L.n_tuple b_tuple (qa_cons (qe_comp (N:=["place","number","axis"]) ["place","number"] [1] rfl rfl rfl rfl (qi_enumT (K:=K) rfl rfl L.n_enumerate (qa_cons (qv 0) qa_nil)) (fun _ _ _ _=>(qg_tup (K:=K) (n:=2) rfl rfl (qgs_cons (qg_name (i:=0) (by show (["place","number","axis"]:List Str).Nodup;decide +kernel) rfl (Or.inl rfl)) (qgs_cons (qg_name (i:=1) (by show (["place","number","axis"]:List Str).Nodup;decide +kernel) rfl (Or.inl rfl)) qgs_nil)))) (fun _ _ _ _=>(qf_one (qt_cmpR qo_ne (qv 0) (qe_ix (qx_top (K:=K) (w:=w) rfl rfl) (qe_glob (v:=.ref ad.a_PLACES) rfl L.m_PLACES rfl) (qv 2) (fun _ _=>rfl)) (nomark _)))) (fun _ _ _ _=>(qv 1))) qa_nil)))),?_⟩
 walk_at "rd"
 refine ⟨a,rfl,⟨_,hS⟩,?_⟩
 intro acc hacc
 refine comp_fm (R:=IsN IsI) (S:=IsI) (fun x:Nat×Int=>!decide ((x.1:Int)=ax.n)) (fun x:Nat×Int=>x.2) 2 [some (.str ax.s)] (feeds_enumT hS (Rs.ints c.l)) (by show 3≤16000000;decide) hacc ?_ ?_
 ·rintro os v ⟨i,n⟩ H' R1 R0 ho s1 _ ⟨T,u,rfl,eT,hu⟩ k1 k0
  have hu:u=.int n:=hu
  subst hu
  match os,ho with
  | [o1,o2],_ =>
   walk_at "rd"
   refine rd_top L.t_PLACES ?_
   walk_at "rd"
   by_cases h:(i:Int)=ax.n
   ·rw [decide_eq_true h]
    refine iteF ?_
    exact k0 [_,_] _ rfl (Same.refl _) (by show (!decide ((i:Int)=ax.n))=false;rw [decide_eq_true h];rfl)
   ·rw [decide_eq_false h]
    refine iteT ?_
    walk_at "rd"
    exact k1 [_,_] _ _ rfl (Same.refl _) (by show (!decide ((i:Int)=ax.n))=true;rw [decide_eq_false h];rfl) rfl
 ·intro zs H1 s1 e1 r1
  walk_at "rd"
  intro p hp
  have ez:=ints_eq r1
  have el:(((List.range c.l.length).zip c.l).filter fun x:Nat×Int=>!decide ((x.1:Int)=ax.n)).map (fun x:Nat×Int=>x.2)=lnI ax c:=by
   obtain ⟨x,y,z⟩:=c
   cases ax <;> rfl
  rw [ez,el]
  exact k p _ (s1.trans (same_new hp)) upd_same
theorem ok_on_line (L:All K w mg ad):FnOk P w K mg base CX0 1 ad.f_on_line ad.d_on_line ["line","axis","number"] (spOnLine K):=by
 refine L.on_line.F.okQ sc_on_line (fun vs H Q E h=>?_) (fun cdv A outer s H vs Q E hr h=>?_)
 ·obtain ⟨a,ax,p,q,n,rfl,_⟩:=h
  rfl
 obtain ⟨a,ax,p,q,n,rfl,hS,k⟩:=h
 refine ⟨_,(qss_cons (qs_set (i:=3) sc_on_line.nd rfl (Or.inl rfl) (qe_callTy (qc_list (K:=K) rfl) rfl L.n_list b_list (qa_cons (qv 0) qa_nil)))
  (qss_cons (qs_expr (qe_bm (K:=K) rfl PySem.F.plainAttrs_list PySem.F.slot_list_insert PySem.F.type_list_insert mt_insert (qv 3) (qa_cons (qe_ix (qx_top (K:=K) (w:=w) rfl rfl) (qe_glob (v:=.ref ad.a_PLACES) rfl L.m_PLACES rfl) (qv 1) (fun _ _=>rfl)) (qa_cons (qv 2) qa_nil))))
  (qss_one (qs_ret (qe_callTy (qc_tuple (K:=K) rfl) rfl L.n_tuple b_tuple (qa_cons (qv 3) qa_nil)))))),?_⟩
 obtain ⟨n0,n3⟩:=ax_n03 ax
 walk_at "rd"
 intro l hl
 walk_at "rd"
 refine ⟨.inl ⟨rfl,_,SqL.of upd_same⟩,?_⟩
 walk_at "rd"
 refine rd_top L.t_PLACES ?_
 walk_at "rd"
 refine ⟨l,_,ax.n,_,rfl,rfl,upd_same,n0,by show ax.n≤2;lia,by show 2≤100000;decide,?_⟩
 rw [ins_at]
 walk_at "rd"
 intro t ht
 have sl:=same_up (o:=.lst (insC ax p q n).v) (same_new (o:=.lst [V.int p,V.int q]) hl) hl
 exact k t _ (sl.trans (same_new ht)) upd_same
theorem ok_lines_of (L:All K w mg ad):FnOk P w K mg base CX0 2 ad.f_lines_of ad.d_lines_of ["body","axis"] (spLinesK K):=by
 refine L.lines_of.F.okQ sc_lines_of (fun vs H Q E h=>?_) (fun cdv A outer s H vs Q E hr h=>?_)
 ·obtain ⟨a,ax,ys,cs,rfl,_⟩:=h
  rfl
 obtain ⟨a,ax,ys,cs,rfl,hS,hc,hl,k⟩:=h
 refine ⟨_,(qss_cons (qs_set (i:=2) sc_lines_of.nd rfl (Or.inl rfl) qe_dnewT)
  (qss_cons (qs_for PassesOwn.never rfl (qi_list (K:=K) rfl (qv 0)) (qg_name (i:=3) sc_lines_of.nd rfl (Or.inl rfl))
   (qss_one (qs_expr (qe_bm (K:=K) rfl PySem.F.plainAttrs_list PySem.F.slot_list_append PySem.F.type_list_append mt_append (qe_dsetd (hu_of hr) (qv 2) (qe_call ((ok_line_of L).mono (by decide)) hr rfl L.line_of.m L.line_of.F.kp L.line_of.b .nil pass0 (qa_cons (qv 3) (qa_cons (qv 1) qa_nil))) (qe_lst qa_nil) ⟨rfl,rfl,rfl,rfl⟩) (qa_cons (qe_call ((ok_along L).mono (by decide)) hr rfl L.along.m L.along.F.kp L.along.b .nil pass0 (qa_cons (qv 3) (qa_cons (qv 1) qa_nil))) qa_nil)))))
  (qss_one (qs_ret (qv 2))))),?_⟩
 walk_at "rd"
 intro d hd
 walk_at "rd"
 refine for_feeds (R:=IsC) (H0:=H) (fun i σ H'=>(∃ o,σ=[some (.ref a),some (.str ax.s),some (.ref d),o])/\Same H H'/\∃ kvs ks,LnS H H' d ax (cs.take i) kvs ks) (feeds_list hS hc) (fun _ _ _ q=>q.2.1)
  ⟨⟨_,rfl⟩,same_new hd,[],[],⟨upd_same,Nat.zero_le _,fun k=>.inl ⟨rfl,rfl⟩,fun k k' v e=>by cases e⟩,rfl,.nil,fun _ h=>nomatch h⟩ ?_ ?_
 ·rintro σ H' ⟨⟨o,rfl⟩,s1,kvs,ks,L1⟩
  rw [List.take_of_length_le (Nat.le_refl _)] at L1
  walk_at "rd"
  exact k d ks H' s1 hd L1.lines
 ·rintro i c v σ H1 H' hi ex ⟨⟨o,rfl⟩,s1,kvs,ks,L1⟩ s2 ⟨b,rfl,eb⟩
  rw [take_snoc ex]
  have hlen:kvs.length≤100000:=by have:=L1.len;rw [List.length_take] at this;lia
  have ed:=s2 _ _ L1.e
  walk_at "rd"
  refine ⟨d,rfl,.inr ⟨kvs,.inl ed⟩,?_⟩
  walk_at "rd"
  refine ⟨b,ax,c,rfl,SqT.of eb,fun p H2 s3 e3=>?_⟩
  walk_at "rd"
  refine ⟨le0,fun q hq=>?_⟩
  have s4:=s2.trans (s3.trans (same_new (o:=.lst []) hq))
  have sH:=s1.trans s4
  have ek:upd H2 q (.lst []) p=some (.tup ((kI (lnI ax c)).map kV)):=by rw [kI_v];exact lk_old hq e3
  have ed4:=s4 _ _ L1.e
  have eb4:=(s3.trans (same_new (o:=.lst []) hq)) _ _ eb
  have hqH:H q=none:=(s1.trans (s2.trans s3)).free hq
  refine ⟨kvs,kI (lnI ax c),p,ed4,rfl,ek,smallM (by lia),fun v hv=>?_,fun hv=>?_⟩
  ·rcases L1.at' (lnI ax c) with ⟨z,_⟩ | ⟨l,hv',el,nl⟩
   ·rw [z] at hv;cases hv
   rw [hv'] at hv
   obtain rfl:=Option.some.inj hv
   have el4:=s4 _ _ el
   have ndl:d≠l:=fun e=>by subst e;rw [ed4] at el4;cases el4
   walk_at "rd"
   refine ⟨.inl ⟨rfl,_,SqL.of el4⟩,?_⟩
   walk_at "rd"
   refine ⟨b,ax,c,rfl,SqT.of eb4,?_⟩
   walk_at "rd"
   have nlen:(numsAt ax (cs.take i) (lnI ax c)).length≤100000:=by
    unfold numsAt
    rw [List.length_map]
    have h1:=List.length_filter_le (fun x=>decide (lnI ax x=lnI ax c)) (cs.take i)
    rw [List.length_take] at h1
    lia
   refine ⟨l,_,_,rfl,rfl,el4,smallM (by rw [List.length_map];lia),?_⟩
   walk_at "rd"
   refine ⟨⟨_,rfl⟩,same_up sH nl,kvs,ks,⟨lk_ne ndl ed4,by have:=L1.len;rw [List.length_append];lia,fun k'=>?_,L1.inj⟩,L1.ek,L1.nd,fun k' hk'=>nums_keep (L1.ne k' hk')⟩
   rw [numsAt_snoc]
   by_cases hk:lnI ax c=k'
   ·subst hk
    rw [if_pos rfl]
    exact .inr ⟨l,hv',by rw [upd_same,List.map_append];rfl,nl⟩
   ·rw [if_neg hk,List.append_nil]
    rcases L1.at' k' with z | ⟨l',hv2,el2,nl2⟩
    ·exact .inl z
    ·refine .inr ⟨l',hv2,lk_ne (fun e=>?_) (s4 _ _ el2),nl2⟩
     subst e
     exact hk (L1.inj _ _ _ hv' hv2)
  ·have hnil:numsAt ax (cs.take i) (lnI ax c)=[]:=by
    rcases L1.at' (lnI ax c) with ⟨_,z⟩ | ⟨l,hv',_⟩
    ·exact z
    ·rw [hv] at hv';cases hv'
   have ndq:d≠q:=fun e=>by subst e;rw [(s2.trans s3) _ _ L1.e] at hq;cases hq
   have eq5:upd (upd H2 q (.lst [])) d (.dT (putK kvs (kI (lnI ax c)) (.ref q))) q=some (.lst []):=lk_ne ndq.symm upd_same
   walk_at "rd"
   refine ⟨.inl ⟨rfl,_,SqL.of eq5⟩,?_⟩
   walk_at "rd"
   refine ⟨b,ax,c,rfl,SqT.of (lk_kind ed4 (by intro z;cases z) eb4),?_⟩
   walk_at "rd"
   refine ⟨q,_,_,rfl,rfl,eq5,small1000 (by simp),?_⟩
   walk_at "rd"
   refine ⟨⟨_,rfl⟩,same_up (same_up sH hd) hqH,_,ks ++ [lnI ax c],⟨lk_ne ndq upd_same,?_,fun k'=>?_,fun k1 k2 v h1 h2=>?_⟩,put_keys L1.ek hv,List.nodup_append.mpr ⟨L1.nd,by simp,fun a ha b hb e=>?_⟩,fun k' hk'=>?_⟩
   ·have h1:=length_putK kvs (kI (lnI ax c)) (.ref q)
    have h2:=L1.len
    rw [List.length_append,List.length_singleton]
    lia
   ·rw [numsAt_snoc,valV_put]
    by_cases hk:lnI ax c=k'
    ·subst hk
     rw [if_pos rfl,if_pos rfl,hnil]
     exact .inr ⟨q,rfl,upd_same,hqH⟩
    ·rw [if_neg hk,List.append_nil,if_neg (fun e=>hk (kI_inj e).symm)]
     rcases L1.at' k' with z | ⟨l',hv2,el2,nl2⟩
     ·exact .inl z
     ·have el4:=s4 _ _ el2
      refine .inr ⟨l',hv2,?_,nl2⟩
      rw [upd_ne,upd_ne]
      ·exact el4
      ·intro e;subst e;rw [ed4] at el4;cases el4
      ·intro e;subst e;rw [(s2.trans s3) _ _ el2] at hq;cases hq
   ·rw [valV_put] at h1 h2
    have old:∀ k',valV kvs (kI k')=some (.ref q)->False:=fun k' h=>by
     rcases L1.at' k' with ⟨z,_⟩ | ⟨l',hv2,el2,_⟩
     ·rw [z] at h;cases h
     ·rw [hv2] at h
      cases Option.some.inj h
      rw [(s2.trans s3) _ _ el2] at hq
      cases hq
    by_cases e1:kI k1=kI (lnI ax c)
    ·by_cases e2:kI k2=kI (lnI ax c)
     ·exact kI_inj (e1.trans e2.symm)
     ·rw [if_pos e1] at h1
      rw [if_neg e2] at h2
      obtain rfl:=Option.some.inj h1
      exact absurd (old k2 h2) id
    ·rw [if_neg e1] at h1
     by_cases e2:kI k2=kI (lnI ax c)
     ·rw [if_pos e2] at h2
      obtain rfl:=Option.some.inj h2
      exact absurd (old k1 h1) id
     ·rw [if_neg e2] at h2
      exact L1.inj _ _ _ h1 h2
   ·rw [List.mem_singleton] at hb
    subst hb
    subst e
    exact (key_val L1.ek).mp ha hv
   ·rcases List.mem_append.mp hk' with z | z
    ·exact nums_keep (L1.ne k' z)
    ·rw [List.mem_singleton] at z
     subst z
     rw [numsAt_snoc,if_pos rfl,hnil]
     simp
end
section
variable {P:Program} {w:World} {K:PySem.W.Frag} {mg:Str->Option Value} {base:Heap} {ad:Ad}
theorem ok_gaps_on (L:All K w mg ad):FnOk P w K mg base CX0 2 ad.f_gaps_on ad.d_gaps_on ["line","axis","numbers"] (spGapsOn K):=by
 refine L.gaps_on.F.okQ sc_gaps_on (fun vs H Q E h=>?_) (fun cdv A outer s H vs Q E hr h=>?_)
 ·obtain ⟨l,b,ax,p,q,ns,rfl,_⟩:=h
  rfl
 obtain ⟨l,b,ax,p,q,ns,rfl,hl,hb,hz,hs,hgl,k⟩:=h
 refine ⟨_,(qss_cons (qs_set (i:=3) sc_gaps_on.nd rfl (Or.inl rfl) (qe_lst qa_nil))
  (qss_cons (qs_for PassesOwn.never rfl (qi_zip (K:=K) rfl rfl L.n_zip (qa_cons (qv 2) (qa_cons (qe_slL (K:=K) rfl (qv 2) (qo_some qe_int) qo_none) qa_nil))) (qg_tup (K:=K) (n:=2) rfl rfl (qgs_cons (qg_name (i:=4) sc_gaps_on.nd rfl (Or.inl rfl)) (qgs_cons (qg_name (i:=5) sc_gaps_on.nd rfl (Or.inl rfl)) qgs_nil)))
   (qss_one (qs_expr (qe_bm (K:=K) rfl PySem.F.plainAttrs_list PySem.F.slot_list_extend PySem.F.type_list_extend mt_extend (qv 3) (qa_cons (qe_comp (N:=["number","line","axis"]) ["number"] [0,1] rfl rfl rfl rfl (qi_range2 rfl L.n_range (qa_cons (qe_op qo_add (qv 4) qe_int) (qa_cons (qv 5) qa_nil))) (fun _ _ _ _=>(qg_name (i:=0) (by show (["number","line","axis"]:List Str).Nodup;decide +kernel) rfl (Or.inl rfl))) (fun _ _ _ _=>qf_nil) (fun _ _ _ _=>(qe_call ((ok_on_line L).mono (by decide)) hr rfl L.on_line.m L.on_line.F.kp L.on_line.b .nil pass0 (qa_cons (qv 1) (qa_cons (qv 2) (qa_cons (qv 0) qa_nil)))))) qa_nil)))))
  (qss_one (qs_ret (qv 3))))),?_⟩
 walk_at "rd"
 refine ⟨le0,fun f hf=>?_⟩
 have sf:=same_new (o:=.lst []) hf
 have hb0:=sf.seq hb
 have hl0:=sf _ _ hl
 have ef:upd H f (.lst []) f=some (.lst []):=upd_same
 generalize upd H f (.lst [])=H0 at sf hb0 hl0 ef ⊢
 walk_at "rd"
 intro lt hlt
 have sl:=same_new (o:=.lst (cutV (ns.map V.int) (some 1) none)) hlt
 have ecut:cutV (ns.map V.int) (some 1) none=(ns.drop 1).map V.int:=by
  cases ns with
  | nil=>rfl
  | cons n0 r=>exact cut_from1 n0 r
 rw [ecut] at sl ⊢
 have hb1:=sl.seq hb0
 have hl1:=sl _ _ hl0
 have ef1:=sl _ _ ef
 have hlt1:upd H0 lt (.lst ((ns.drop 1).map V.int)) lt=some (.lst ((ns.drop 1).map V.int)):=upd_same
 have nlf:lt≠f:=fun z=>by subst z;rw [ef] at hlt;cases hlt
 have sA:=sf.trans sl
 generalize upd H0 lt (.lst ((ns.drop 1).map V.int))=H1 at sl hb1 hl1 hlt1 ef1 sA ⊢
 have sB:=same_hid (p:=f) sA hf
 have nlf':l≠f:=fun z=>by subst z;rw [ef1] at hl1;cases hl1
 walk_at "rd"
 refine for_feeds (R:=IsP IsI IsI) (H0:=hid H1 f) (fun i σ H'=>(∃ o4 o5,σ=[some (.ref l),some (.str ax.s),some (.ref b),some (.ref f),o4,o5])/\Same (hid H1 f) H'/\∃ us gs,H' f=some (.lst us)/\Cs H' us (gs.map fun n=>insC ax p q n)/\gs ++ gapN (ns.drop i)=gapN ns)
  (feeds_zip (sB.seq hb) (Rs.ints ns) (SqL.of (hid_at nlf hlt1)) (Rs.ints (ns.drop 1))) (fun _ _ _ q=>q.2.1) ⟨⟨_,_,rfl⟩,hid_same,[],[],ef1,.nil,rfl⟩ ?_ ?_
 ·rintro σ H' ⟨⟨o4,o5,rfl⟩,s2,us,gs,e2,r2,hg⟩
  walk_at "rd"
  have hnil:gapN (ns.drop ((ns.zip (ns.drop 1)).length))=[]:=by
   have:(ns.drop ((ns.zip (ns.drop 1)).length)).length≤1:=by rw [List.length_zip,List.length_drop,List.length_drop];lia
   cases hd:ns.drop ((ns.zip (ns.drop 1)).length) with
   | nil=>rfl
   | cons a r =>
    cases r with
    | nil=>rfl
    | cons b r=>rw [hd] at this;simp at this
  rw [hnil,List.append_nil] at hg
  rw [←hg] at k
  exact k f us H' (sB.trans s2) hf e2 r2
 ·rintro i ⟨lo,hi⟩ v σ H2 H' hi' ex ⟨⟨o4,o5,rfl⟩,s2,us,gs,e2,r2,hg⟩ s3 ⟨t,x,y,rfl,et,rfl,rfl⟩
  rw [List.getElem?_zip_eq_some] at ex
  obtain ⟨ex1,ex2⟩:=ex
  rw [List.getElem?_drop,Nat.add_comm] at ex2
  have s4:=s2.trans s3
  have e3:=s3 _ _ e2
  have r3:=Rs.up s3 r2
  have hl3:=s4 _ _ (hid_at nlf' hl1)
  have b1:=hs lo (List.mem_of_getElem? ex1)
  have b2:=hs hi (List.mem_of_getElem? ex2)
  have hd:ns.drop i=lo :: hi :: ns.drop (i+2):=by
   rw [List.drop_eq_getElem_cons (List.getElem?_eq_some_iff.mp ex1).1,List.drop_eq_getElem_cons (List.getElem?_eq_some_iff.mp ex2).1,(List.getElem?_eq_some_iff.mp ex1).2,(List.getElem?_eq_some_iff.mp ex2).2]
  have hd1:ns.drop (i+1)=hi :: ns.drop (i+2):=by
   rw [List.drop_eq_getElem_cons (List.getElem?_eq_some_iff.mp ex2).1,(List.getElem?_eq_some_iff.mp ex2).2]
  have hgn:gapN (ns.drop i)=((List.range (hi - (lo+1)).toNat).map fun i:Nat=>lo+1+(i:Int)) ++ gapN (ns.drop (i+1)):=by
   rw [hd,hd1,gapN]
  have hlen:gs.length+(hi - (lo+1)).toNat≤100000:=by
   have:=congrArg List.length hg
   rw [hgn,List.length_append,List.length_append,List.length_map,List.length_range] at this
   lia
  walk_at "rd"
  refine ⟨.inl ⟨rfl,_,SqL.of e3⟩,?_⟩
  walk_at "rd"
  dsimp only
  intro acc hacc
  refine comp_map (S:=IsC) (fun n=>insC ax p q n) 1 [some (.ref l),some (.str ax.s)] feeds_range (by rw [List.length_map,List.length_range];lia) hacc ?_ ?_
  ·rintro os v n H'' R1 ho t1 _ rfl kk
   obtain ⟨o,rfl⟩:=List.length_eq_one_iff.mp ho
   walk_at "rd"
   refine ⟨l,ax,p,q,n,rfl,t1 _ _ hl3,fun t H2 s e=>?_⟩
   exact kk [_] _ _ rfl s ⟨t,rfl,e⟩
  intro zs H4 s5 e5 r5
  have e4:=s5 _ _ e3
  have hul:us.length=gs.length:=by rw [r2.len,List.length_map]
  have hzl:zs.length=(hi - (lo+1)).toNat:=by rw [r5.len,List.length_map,List.length_map,List.length_range]
  walk_at "rd"
  refine ⟨f,acc,us,zs,rfl,rfl,e4,e5,Nat.le_of_lt (big_ok (by lia)),?_⟩
  refine ⟨⟨_,_,rfl⟩,same_up (s4.trans s5) hid_none,_,gs ++ ((List.range (hi - (lo+1)).toNat).map fun i:Nat=>lo+1+(i:Int)),upd_same,?_,by rw [List.append_assoc,←hgn];exact hg⟩
  rw [List.map_append]
  exact Rs.lst e4 (Rs.app (Rs.up s5 r3) r5)
theorem ok_gaps (L:All K w mg ad):FnOk P w K mg base CX0 6 ad.f_gaps ad.d_gaps ["body","axis"] (spGapsA K):=by
 refine L.gaps.F.okQ sc_gaps (fun vs H Q E h=>?_) (fun cdv A outer s H vs Q E hr h=>?_)
 ·obtain ⟨a,ax,cs,rfl,_⟩:=h
  rfl
 obtain ⟨a,ax,cs,rfl,⟨ys,hS,hc,asc,nd,hl,wi⟩,hfew,h6,k⟩:=h
 refine ⟨_,(qss_cons (qs_set (i:=2) sc_gaps.nd rfl (Or.inl rfl) (qe_lst qa_nil))
  (qss_cons (qs_for PassesOwn.never rfl (qi_items (qe_bm0 (K:=K) rfl PySem.F.plainAttrs_dict PySem.F.slot_dict_items PySem.F.type_dict_items mt_items (qe_call ((ok_lines_of L).mono (by decide)) hr rfl L.lines_of.m L.lines_of.F.kp L.lines_of.b .nil pass0 (qa_cons (qv 0) (qa_cons (qv 1) qa_nil))))) (qg_tup (K:=K) (n:=2) rfl rfl (qgs_cons (qg_name (i:=3) sc_gaps.nd rfl (Or.inl rfl)) (qgs_cons (qg_name (i:=4) sc_gaps.nd rfl (Or.inl rfl)) qgs_nil)))
   (qss_one (qs_expr (qe_bm (K:=K) rfl PySem.F.plainAttrs_list PySem.F.slot_list_extend PySem.F.type_list_extend mt_extend (qv 2) (qa_cons (qe_call ((ok_gaps_on L).mono (by decide)) hr rfl L.gaps_on.m L.gaps_on.F.kp L.gaps_on.b .nil pass0 (qa_cons (qv 3) (qa_cons (qv 1) (qa_cons (qv 4) qa_nil)))) qa_nil)))))
  (qss_one (qs_ret (qe_call ((ok_body_of L).mono (by decide)) hr rfl L.body_of.m L.body_of.F.kp L.body_of.b .nil pass0 (qa_cons (qv 2) qa_nil)))))),?_⟩
 walk_at "rd"
 refine ⟨le0,fun f hf=>?_⟩
 have sf:=same_new (o:=.lst []) hf
 walk_at "rd"
 refine rd_iItm ?_
 walk_at "rd"
 refine ⟨a,ax,ys,cs,rfl,SqL.of (sf _ _ hS),Rs.up sf hc,by lia,fun d ks H1 s1 nd1 hL=>?_⟩
 walk_at "rd"
 obtain ⟨kvs,ed,ek,hnd,hm,hv⟩:=hL
 refine ⟨.inr (.inr (.inl ⟨rfl,.inr ⟨kvs,ed⟩⟩)),d,kvs,rfl,rfl,ed,fun v hv'=>?_⟩
 have sv:=same_new (o:=ViewO v d) hv'
 refine ⟨v,d,kvs,rfl,upd_same,sv _ _ ed,fun o=>?_⟩
 have hdH:H d=none:=sf.free nd1
 have ef0:H1 f=some (.lst []):=s1 _ _ upd_same
 have nfd:f≠d:=fun z=>by subst z;rw [ed] at ef0;cases ef0
 have hlf:∀ k∈ks,∀ l,valV kvs (kI k)=some (.ref l)->l≠f:=fun k' hk' l hl' z=>by
  subst z
  obtain ⟨l',x,y⟩:=hv k' hk'
  rw [hl'] at x
  cases x
  rw [ef0] at y
  have:=Option.some.inj y
  injection this with this
  exact (hm k').mp hk' (List.map_eq_nil_iff.mp this.symm)
 have hld:∀ k∈ks,∀ l,valV kvs (kI k)=some (.ref l)->l≠d:=fun k' hk' l hl' z=>by
  subst z
  obtain ⟨l',x,y⟩:=hv k' hk'
  rw [hl'] at x
  cases x
  rw [ed] at y
  cases y
 have hF:upd (upd H1 v (ViewO v d)) d (.frz o (.dT kvs)) d=some (.frz o (.dT kvs)):=upd_same
 have ef:upd (upd H1 v (ViewO v d)) d (.frz o (.dT kvs)) f=some (.lst []):=lk_ne nfd (sv _ _ ef0)
 have hv3:∀ k∈ks,∃ l,valV kvs (kI k)=some (.ref l)/\hid (upd (upd H1 v (ViewO v d)) d (.frz o (.dT kvs))) f l=some (.lst ((numsAt ax cs k).map V.int)):=fun k' hk'=>let ⟨l,x,y⟩:=hv k' hk';⟨l,x,hid_at (hlf k' hk' l x) (lk_ne (hld k' hk' l x) (sv _ _ y))⟩
 have sB:Same H (hid (upd (upd H1 v (ViewO v d)) d (.frz o (.dT kvs))) f):=same_hid (same_up (sf.trans (s1.trans sv)) hdH) hf
 generalize upd (upd H1 v (ViewO v d)) d (.frz o (.dT kvs))=HF at hF ef hv3 sB ⊢
 refine for_feeds (R:=IsKVp) (H0:=hid HF f) (fun i σ H'=>(∃ o3 o4,σ=[some (.ref a),some (.str ax.s),some (.ref f),o3,o4])/\Same (hid HF f) H'/\∃ us fs,H' f=some (.lst us)/\Cs H' us fs/\GapM ax cs (ks.take i) fs/\fs.length≤gcount ax cs (ks.take i)) (feeds_items (hid_at nfd.symm hF)) (fun _ _ _ q=>q.2.1)
  ⟨⟨_,_,rfl⟩,hid_same,[],[],ef,.nil,fun c=>by simp,Nat.zero_le _⟩ ?_ ?_
 ·rintro σ H2 ⟨⟨o3,o4,rfl⟩,s2,us,fs,e2,r2,hg,hgl⟩
  have hkl:ks.length=kvs.length:=by have:=congrArg List.length ek;simpa using this.symm
  rw [List.take_of_length_le (by lia)] at hg hgl
  have hgb:=gapM_all hg hm
  have hf9:=hfew ks hnd
  have s3:=sB.trans s2
  walk_at "rd"
  refine ⟨f,us,fs,rfl,SqL.of e2,r2,by lia,fun c hc=>gap_in asc nd wi ((hg c).mp hc).2,h6 _ hgb,fun p zs H' s n e' r=>?_⟩
  exact k _ hgb p zs H' (s3.trans s) (s3.free n) e' r
 ·rintro i ⟨kk,vv⟩ w' σ H3 H4 hi ex ⟨⟨o3,o4,rfl⟩,s3,us,fs,e3,r3,hg,hgl⟩ s4 ⟨T,b,rfl,eT,eb⟩
  obtain ⟨k',ek',exk⟩:∃ k',kk=kI k'/\ks[i]?=some k':=by
   have h1:(kvs.map (·.1))[i]?=some kk:=by rw [List.getElem?_map,ex];rfl
   rw [ek,List.getElem?_map] at h1
   obtain ⟨k',h2,h3⟩:=Option.map_eq_some_iff.mp h1
   exact ⟨k',h3.symm,h2⟩
  subst ek'
  have eb:H4 b=some (.tup (k'.map V.int)):=by rw [←kI_v];exact eb
  have hkm:=List.mem_of_getElem? exk
  have hne:numsAt ax cs k'≠[]:=(hm k').mp hkm
  obtain ⟨p0,q0,rfl⟩:∃ p q,k'=[p,q]:=by
   obtain ⟨c,_,e⟩:=key_of hne
   obtain ⟨x,y,z⟩:=c
   cases ax <;> exact ⟨_,_,e.symm⟩
  obtain ⟨l,hval,el⟩:=hv3 _ hkm
  have evv:vv=.ref l:=val_at ek hnd ex hval
  subst evv
  have s5:=s3.trans s4
  have el5:=s5 _ _ el
  have e5:=s4 _ _ e3
  have r5:=Rs.up s4 r3
  have hone:(gapN (numsAt ax cs [p0,q0])).length≤4900:=by have:=hfew [[p0,q0]] (by simp);simpa [gcount] using this
  have hnl:=nums_len (ax:=ax) (cs:=cs) (k:=[p0,q0])
  have hgs:gcount ax cs (ks.take (i+1))=gcount ax cs (ks.take i)+(gapN (numsAt ax cs [p0,q0])).length:=by
   unfold gcount
   rw [take_snoc exk,List.map_append,List.sum_append]
   simp
  have hgi:gcount ax cs (ks.take i)≤4900:=hfew _ (hnd.sublist (List.take_sublist _ _))
  dsimp only at eT
  walk_at "rd"
  refine ⟨.inl ⟨rfl,_,SqL.of e5⟩,?_⟩
  walk_at "rd"
  refine ⟨b,l,ax,p0,q0,numsAt ax cs [p0,q0],rfl,eb,SqL.of el5,by lia,fun n hn=>nums_in wi hn,by lia,fun r zs H5 s6 nr er rr=>?_⟩
  have hzl:zs.length=(gapN (numsAt ax cs [p0,q0])).length:=by rw [rr.len,List.length_map]
  have hul:us.length=fs.length:=r3.len
  have e6:=s6 _ _ e5
  walk_at "rd"
  refine ⟨f,r,us,zs,rfl,rfl,e6,er,Nat.le_of_lt (big_ok (by lia)),?_⟩
  walk_at "rd"
  refine ⟨⟨_,_,rfl⟩,same_up (s5.trans s6) hid_none,_,fs ++ gcells ax cs [p0,q0],upd_same,Rs.lst e6 (Rs.app (Rs.up s6 r5) rr),by rw [take_snoc exk];exact gapM_snoc hg,?_⟩
  rw [List.length_append,hgs]
  unfold gcells
  rw [List.length_map]
  lia
end
section
variable {P:Program} {w:World} {K:PySem.W.Frag} {mg:Str->Option Value} {base:Heap} {ad:Ad}
theorem ok__law_cell_at (L:All K w mg ad):FnOk P w K mg base CX0 1 ad.f__law_cell_at ad.d__law_cell_at ["_law_script","_law_k"] (spCellAt K):=by
 refine L._law_cell_at.F.okQ sc__law_cell_at (fun vs H Q E h=>?_) (fun cdv A outer s H vs Q E hr h=>?_)
 ·obtain ⟨a,ns,k,rfl,_⟩:=h
  rfl
 obtain ⟨a,ns,k,rfl,hS,h0,q⟩:=h
 refine ⟨_,(qss_cons (qs_if (qt_cmpR qo_lt (qv 1) (qe_callB (qc_len (K:=K) rfl) rfl L.n_len b_len (qa_cons (qv 0) qa_nil)) (nomark _)) (qss_one (qs_ret (qe_ix (qx_list (K:=K) rfl) (qv 0) (qv 1) (fun _ _=>rfl)))) qss_nil)
  (qss_one (qs_ret qe_int))),?_⟩
 refine ⟨_,rfl,_,rfl,a,_,rfl,.inl hS,_,_,rfl,rfl,_,rfl,?_⟩
 refine ite2 (fun c=>?_) (fun c=>q 0)
 have c':=of_decide_eq_true c
 rw [List.length_map] at c'
 have hk:k.toNat < ns.length:=by lia
 have e:atI (ns.map V.int) k=some (.int ns[k.toNat]):=by
  have q:atI (ns.map V.int) ((k.toNat:Nat):Int)=some (.int ns[k.toNat]):=atI_nat (by rw [List.getElem?_map,List.getElem?_eq_getElem hk] <;> rfl)
  rwa [show ((k.toNat:Nat):Int)=k by lia] at q
 exact ⟨_,rfl,_,rfl,a,_,_,_,rfl,rfl,hS,e,q _⟩
theorem ok__law_number (L:All K w mg ad):FnOk P w K mg base CX0 1 ad.f__law_number ad.d__law_number ["_law_cell","_law_k"] spNum:=by
 refine L._law_number.F.okQ sc__law_number (fun vs H Q E h=>?_) (fun cdv A outer s H vs Q E hr h=>?_)
 ·obtain ⟨c,kk,rfl,_⟩:=h
  rfl
 obtain ⟨c,kk,rfl,k0,k1,k⟩:=h
 refine ⟨_,(qss_cons (qs_if (qt_cmpR qo_eq (qe_op qo_mod (qv 0) qe_int) qe_int (nomark _)) (qss_cons (qs_set (i:=2) sc__law_number.nd rfl (Or.inl rfl) (qe_op qo_mod (qe_op qo_mul (qe_op qo_add (qe_op qo_mod (qv 0) qe_int) qe_int) (qe_op qo_add qe_int (qe_op qo_mul (qe_op qo_mul qe_int (qv 1)) (qv 1)))) qe_int))
  (qss_one (qs_ret (qe_op qo_mod (qe_op qo_mul (qv 2) (qe_op qo_add (qe_op qo_fdiv (qv 2) qe_int) (qv 1))) qe_int)))) qss_nil)
  (qss_cons (qs_set (i:=3) sc__law_number.nd rfl (Or.inl rfl) (qe_op qo_fdiv (qv 0) qe_int))
  (qss_cons (qs_for PassesOwn.never rfl (qi_range1 rfl L.n_range (qa_cons (qv 1) qa_nil)) (qg_name (i:=4) sc__law_number.nd rfl (Or.inl rfl))
   (qss_one (qs_set (i:=3) sc__law_number.nd rfl (Or.inl rfl) (qe_op qo_fdiv (qv 3) qe_int))))
  (qss_one (qs_ret (qe_op qo_mod (qv 3) qe_int)))))),?_⟩
 walk_at "rd"
 by_cases he:c % 2=0
 ·rw [decide_eq_true he]
  walk_at "rd"
  exact k _ H (Int.emod_nonneg _ (by decide)) (Same.refl _)
 ·rw [decide_eq_false he]
  walk_at "rd"
  refine for_feeds (R:=IsI) (H0:=H) (fun i σ H'=>(∃ n o,σ=[some (.int c),some (.int kk),none,some (.int n),o])/\Same H H') feeds_range (fun _ _ _ q=>q.2) ⟨⟨_,_,rfl⟩,Same.refl _⟩ ?_ ?_
  ·rintro σ H' ⟨⟨n,o,rfl⟩,s⟩
   walk_at "rd"
   exact k _ H' (Int.emod_nonneg _ (by decide)) s
  ·rintro i x v σ H1 H' hi ex ⟨⟨n,o,rfl⟩,s1⟩ s2 rfl
   walk_at "rd"
   exact ⟨⟨_,_,rfl⟩,s1.trans s2⟩
theorem ok__law_frame (L:All K w mg ad):FnOk P w K mg base CX0 2 ad.f__law_frame ad.d__law_frame ["_law_script"] (spFrame K):=by
 refine L._law_frame.F.okQ sc__law_frame (fun vs H Q E h=>?_) (fun cdv A outer s H vs Q E hr h=>?_)
 ·obtain ⟨x,ns,rfl,_⟩:=h
  rfl
 obtain ⟨x,ns,rfl,hS,k⟩:=h
 refine ⟨_,(qss_cons (qs_set (i:=1) sc__law_frame.nd rfl (Or.inl rfl) (qe_lst qa_nil))
  (qss_cons (qs_set (i:=2) sc__law_frame.nd rfl (Or.inl rfl) (qe_lst qa_nil))
  (qss_cons (qs_for PassesOwn.never rfl (qi_range1 rfl L.n_range (qa_cons qe_int qa_nil)) (qg_name (i:=3) sc__law_frame.nd rfl (Or.inl rfl))
   (qss_cons (qs_set (i:=4) sc__law_frame.nd rfl (Or.inl rfl) (qe_call ((ok__law_cell_at L).mono (by decide)) hr rfl L._law_cell_at.m L._law_cell_at.F.kp L._law_cell_at.b .nil pass0 (qa_cons (qv 0) (qa_cons (qv 3) qa_nil))))
  (qss_cons (qs_set (i:=5) sc__law_frame.nd rfl (Or.inl rfl) (qe_op qo_add qe_int (qe_op qo_mod (qe_call ((ok__law_number L).mono (by decide)) hr rfl L._law_number.m L._law_number.F.kp L._law_number.b .nil pass0 (qa_cons (qv 4) (qa_cons qe_int qa_nil))) qe_int)))
  (qss_cons (qs_if (qt_cmpR qo_eq (qe_op qo_mod (qe_call ((ok__law_number L).mono (by decide)) hr rfl L._law_number.m L._law_number.F.kp L._law_number.b .nil pass0 (qa_cons (qv 4) (qa_cons qe_int qa_nil))) qe_int) qe_int (nomark _)) (qss_one (qs_set (i:=5) sc__law_frame.nd rfl (Or.inl rfl) (qe_op qo_add qe_int (qe_op qo_mod (qe_call ((ok__law_number L).mono (by decide)) hr rfl L._law_number.m L._law_number.F.kp L._law_number.b .nil pass0 (qa_cons (qv 4) (qa_cons qe_int qa_nil))) qe_int)))) qss_nil)
  (qss_cons (qs_expr (qe_bm (K:=K) rfl PySem.F.plainAttrs_list PySem.F.slot_list_append PySem.F.type_list_append mt_append (qv 1) (qa_cons (qv 5) qa_nil)))
  (qss_cons (qs_set (i:=6) sc__law_frame.nd rfl (Or.inl rfl) (qe_op qo_sub (qe_op qo_mod (qe_call ((ok__law_number L).mono (by decide)) hr rfl L._law_number.m L._law_number.F.kp L._law_number.b .nil pass0 (qa_cons (qv 4) (qa_cons qe_int qa_nil))) (qe_op qo_sub qe_int (qv 5))) qe_int))
  (qss_one (qs_expr (qe_bm (K:=K) rfl PySem.F.plainAttrs_list PySem.F.slot_list_append PySem.F.type_list_append mt_append (qv 2) (qa_cons (qe_ix (qx_list (K:=K) rfl) (qe_lst (qa_cons (qe_neg qe_int) (qa_cons (qe_op qo_sub qe_int (qv 5)) (qa_cons (qe_op qo_sub qe_int (qe_op qo_fdiv (qv 5) qe_int)) (qa_cons (qv 6) qa_nil))))) (qe_op qo_mod (qe_call ((ok__law_number L).mono (by decide)) hr rfl L._law_number.m L._law_number.F.kp L._law_number.b .nil pass0 (qa_cons (qv 4) (qa_cons qe_int qa_nil))) qe_int) (fun _ _=>rfl)) qa_nil))))))))))
  (qss_one (qs_ret (qe_lst (qa_cons (qv 1) (qa_cons (qv 2) qa_nil)))))))),?_⟩
 walk_at "rd"
 refine ⟨le0,fun ls hls=>?_⟩
 walk_at "rd"
 refine ⟨le0,fun ll hll=>?_⟩
 walk_at "rd"
 have sB:Same H (upd (upd H ls (.lst [])) ll (.lst [])):=(same_new hls).trans (same_new hll)
 have hllH:H ll=none:=(same_new hls).free hll
 have nsl:ls≠ll:=ne_of_none upd_same hll
 refine for_feeds (R:=IsI) (H0:=H) (fun i σ H'=>(∃ o1 o2 o3 o4,σ=[some (.ref x),some (.ref ls),some (.ref ll),o1,o2,o3,o4])/\Same H H'/\∃ as bs:List Int,H' ls=some (.lst (as.map V.int))/\H' ll=some (.lst (bs.map V.int))/\as.length=i/\bs.length=i /\
   ∀ (j:Nat) (a b:Int),as[j]?=some a->bs[j]?=some b->1≤a/\a≤45/\-60≤b/\b+a≤61) feeds_range (fun _ _ _ q=>q.2.1)
  ⟨⟨_,_,_,_,rfl⟩,sB,[],[],lk_old hll upd_same,upd_same,rfl,rfl,fun j a b h=>by simp at h⟩ ?_ ?_
 ·rintro σ H' ⟨⟨o1,o2,o3,o4,rfl⟩,s1,as,bs,e1,e2,l1,l2,ok⟩
  walk_at "rd"
  refine ⟨le2,fun p hp=>?_⟩
  walk_at "rd"
  have l1:as.length=3:=l1
  have l2:bs.length=3:=l2
  obtain ⟨a1,a2,a3,rfl⟩:=len3 l1
  obtain ⟨b1,b2,b3,rfl⟩:=len3 l2
  refine k p ⟨a1,a2,a3⟩ ⟨b1,b2,b3⟩ _ (s1.trans (same_new hp)) ⟨ls,ll,upd_same,lk_old hp e1,lk_old hp e2,fun ax=>?_⟩
  cases ax
  ·exact ok 0 a1 b1 rfl rfl
  ·exact ok 1 a2 b2 rfl rfl
  ·exact ok 2 a3 b3 rfl rfl
 ·rintro i n v σ H1 H' hi ex ⟨⟨o1,o2,o3,o4,rfl⟩,s1,as,bs,e1,e2,l1,l2,ok⟩ s2 rfl
  have hi3:i < 3:=by simpa using hi
  have hn:n=i:=by
   rw [List.getElem?_map,List.getElem?_range (by simpa using hi)] at ex
   have:(0:Int)+(i:Int)=n:=Option.some.inj ex
   lia
  walk_at "rd"
  refine ⟨x,ns,n,rfl,Same.seq (s1.trans s2) hS,by lia,fun m=>?_⟩
  walk_at "rd"
  refine ⟨m,1,rfl,by decide,by decide,fun m1 H2 p1 s3=>?_⟩
  with_reducible refine rd_c ?_
  with_reducible refine rd_mod ?_ ?_
  ·decide
  with_reducible refine rd_i0 ?_
  with_reducible refine rd_gname ?_
  with_reducible refine rd_seqK fun N hN=>?_
  have fin:∀ (sz:Int) (H2:Hp),1≤sz->sz≤45->Same H' H2->N [some (.ref x),some (.ref ls),some (.ref ll),some (.int n),some (.int m),some (.int sz),o4] H2:=by
   intro sz H2 z1 z2 s3
   apply hN
   walk_at "rd"
   refine ⟨.inl ⟨rfl,_,SqL.of ((s2.trans s3) _ _ e1)⟩,?_⟩
   walk_at "rd"
   refine ⟨ls,_,_,rfl,rfl,(s2.trans s3) _ _ e1,small1000 (by rw [List.length_map];lia),?_⟩
   have sA:Same H (upd H2 ls (.lst (as.map V.int ++ [.int sz]))):=same_up (s1.trans (s2.trans s3)) hls
   have eA:upd H2 ls (.lst (as.map V.int ++ [.int sz])) ll=some (.lst (bs.map V.int)):=lk_ne nsl.symm ((s2.trans s3) _ _ e2)
   have eB:upd H2 ls (.lst (as.map V.int ++ [.int sz])) ls=some (.lst (as.map V.int ++ [.int sz])):=upd_same
   generalize upd H2 ls (.lst (as.map V.int ++ [.int sz]))=H3 at sA eA eB ⊢
   walk_at "rd"
   refine ⟨m,4,rfl,by decide,by decide,fun m4 H4 p4 s4=>?_⟩
   walk_at "rd"
   refine ⟨.inl ⟨rfl,_,SqL.of (s4 _ _ eA)⟩,?_⟩
   walk_at "rd"
   refine ⟨le4,fun q hq=>?_⟩
   walk_at "rd"
   refine ⟨m,5,rfl,by decide,by decide,fun m5 H5 p5 s5=>?_⟩
   walk_at "rd"
   obtain ⟨v,hv,ev⟩:=at4 (-60) (61 - sz) (0 - sz / 2) (m4 % (122 - sz) - 60) (m5 % 4) (by lia) (by lia)
   refine rd_ixL (SqL.of (s5 _ _ upd_same)) ev ?_
   walk_at "rd"
   have s6:=s4.trans ((same_new hq).trans s5)
   refine ⟨ll,_,_,rfl,rfl,s6 _ _ eA,small1000 (by rw [List.length_map];lia),?_⟩
   refine ⟨⟨_,_,_,_,rfl⟩,same_up (sA.trans s6) hllH,as ++ [sz],bs ++ [v],?_,?_,by simp [l1],by simp [l2],fun j a b ha hb=>?_⟩
   ·rw [lk_ne nsl (s6 _ _ eB)]
    simp
   ·rw [upd_same]
    simp
   ·by_cases hj:j < i
    ·rw [List.getElem?_append_left (by lia)] at ha hb
     exact ok j a b ha hb
    ·rw [List.getElem?_append_right (by lia)] at ha hb
     rw [l1] at ha
     rw [l2] at hb
     have hj0:j - i=0:=by
      rcases Nat.eq_zero_or_pos (j - i) with z | z
      ·exact z
      ·rw [List.getElem?_eq_none (by simp only [List.length_cons,List.length_nil];lia)] at ha;cases ha
     rw [hj0] at ha hb
     obtain rfl:sz=a:=Option.some.inj ha
     obtain rfl:v=b:=Option.some.inj hb
     have r:=Int.emod_nonneg m4 (show (122 - sz)≠0 by lia)
     have r':=Int.emod_lt_of_pos m4 (show 0 < 122 - sz by lia)
     rcases hv with h | h | h | h <;> rw [h] <;> lia
  walk_at "rd"
  refine ⟨m,2,rfl,by decide,by decide,fun m2 H3 p2 s4=>?_⟩
  walk_at "rd"
  by_cases h7:m2 % 7=1
  ·rw [decide_eq_true h7]
   walk_at "rd"
   refine ⟨m,3,rfl,by decide,by decide,fun m3 H4 p3 s5=>?_⟩
   walk_at "rd"
   exact fin _ _ (by lia) (by lia) (s3.trans (s4.trans s5))
  ·rw [decide_eq_false h7]
   walk_at "rd"
   exact fin _ _ (by lia) (by lia) (s3.trans s4)
theorem ok__law_spot (L:All K w mg ad):FnOk P w K mg base CX0 2 ad.f__law_spot ad.d__law_spot ["_law_frame_here","_law_cell"] (spSpot K):=by
 refine L._law_spot.F.okQ sc__law_spot (fun vs H Q E h=>?_) (fun cdv A outer s H vs Q E hr h=>?_)
 ·obtain ⟨p,n,sz,lo,rfl,_⟩:=h
  rfl
 obtain ⟨p,n,sz,lo,rfl,⟨q1,q2,e0,e1,e2,fok⟩,k⟩:=h
 refine ⟨_,(qss_cons (qs_asg (qv 0) (qg_lst (K:=K) (n:=2) rfl rfl (qgs_cons (qg_name (i:=2) sc__law_spot.nd rfl (Or.inr rfl)) (qgs_cons (qg_name (i:=3) sc__law_spot.nd rfl (Or.inr rfl)) qgs_nil))))
  (qss_one (qs_ret (qe_callTy (qc_tuple (K:=K) rfl) rfl L.n_tuple b_tuple (qa_cons (qe_comp (N:=["_law_k","_law_lows","_law_cell","_law_sizes"]) ["_law_k"] [3,1,2] rfl rfl rfl rfl (qi_range1 rfl L.n_range (qa_cons qe_int qa_nil)) (fun _ _ _ _=>(qg_name (i:=0) (by show (["_law_k","_law_lows","_law_cell","_law_sizes"]:List Str).Nodup;decide +kernel) rfl (Or.inl rfl))) (fun _ _ _ _=>qf_nil) (fun _ _ _ _=>(qe_op qo_add (qe_ix (qx_list (K:=K) rfl) (qv 1) (qv 0) (fun _ _=>rfl)) (qe_op qo_mod (qe_call ((ok__law_number L).mono (by decide)) hr rfl L._law_number.m L._law_number.F.kp L._law_number.b .nil pass0 (qa_cons (qv 2) (qa_cons (qe_op qo_add qe_int (qv 0)) qa_nil))) (qe_ix (qx_list (K:=K) rfl) (qv 3) (qv 0) (fun _ _=>rfl)))))) qa_nil))))),?_⟩
 walk_at "rd"
 intro acc hacc
 refine comp_map (S:=SpR sz lo) (fun i:Int=>i) 1 [some (.ref q2),some (.int n),some (.ref q1)] feeds_range (by decide) hacc ?_ ?_
 ·rintro os v i H' R1 ho s2 hi rfl kk
  obtain ⟨o,rfl⟩:=List.length_eq_one_iff.mp ho
  have hb:0≤i/\i < 3:=by
   obtain ⟨j,hj,rfl⟩:=List.mem_map.mp hi
   have:j < 3:=List.mem_range.mp hj
   lia
  obtain ⟨ax,rfl⟩:=ax_of hb.1 hb.2
  have f:=fok ax
  walk_at "rd"
  refine rd_ixL (SqL.of (s2 _ _ e2)) (at_ax ax lo) ?_
  walk_at "rd"
  refine ⟨n,6+ax.n,rfl,by lia,by lia,fun m H3 m0 s3=>?_⟩
  walk_at "rd"
  refine rd_ixL (SqL.of ((s2.trans s3) _ _ e1)) (at_ax ax sz) ?_
  walk_at "rd"
  have r:=Int.emod_nonneg m (show ax.at sz≠0 by omega)
  have r':=Int.emod_lt_of_pos m (show 0 < ax.at sz by omega)
  exact kk [_] _ _ rfl s3 ⟨_,rfl,fun bx hbx=>by cases ax_inj hbx;lia⟩
 ·intro zs H' s2 ea r2
  rw [show List.map (fun i:Int=>i) ((List.range (Int.toNat 3)).map fun i:Nat=>(0:Int)+(i:Int))=[0,1,2] from by decide] at r2
  obtain ⟨c,rfl,hin⟩:=spot3 r2
  walk_at "rd"
  intro t ht
  walk_at "rd"
  exact k t c _ (s2.trans (same_new ht)) upd_same hin
theorem ok__law_body (L:All K w mg ad):FnOk P w K mg base CX0 3 ad.f__law_body ad.d__law_body ["_law_script","_law_frame_here","_law_cells"] (spBodyF K):=by
 refine L._law_body.F.okQ sc__law_body (fun vs H Q E h=>?_) (fun cdv A outer s H vs Q E hr h=>?_)
 ·obtain ⟨x,p,l,sz,lo,ms,rfl,_⟩:=h
  rfl
 obtain ⟨x,p,l,sz,lo,ms,rfl,hF,hM,hml,k⟩:=h
 have hF':=hF
 obtain ⟨q1,q2,e0,e1,e2,fok⟩:=hF'
 refine ⟨_,(qss_cons (qs_set (i:=3) sc__law_body.nd rfl (Or.inl rfl) qe_dnewT)
  (qss_cons (qs_asg (qv 1) (qg_lst (K:=K) (n:=2) rfl rfl (qgs_cons (qg_name (i:=4) sc__law_body.nd rfl (Or.inl rfl)) (qgs_cons (qg_name (i:=5) sc__law_body.nd rfl (Or.inl rfl)) qgs_nil))))
  (qss_cons (qs_for PassesOwn.never rfl (qi_list (K:=K) rfl (qv 2)) (qg_name (i:=6) sc__law_body.nd rfl (Or.inl rfl))
   (qss_cons (qs_set (i:=7) sc__law_body.nd rfl (Or.inl rfl) (qe_callTy (qc_list (K:=K) rfl) rfl L.n_list b_list (qa_cons (qe_call ((ok__law_spot L).mono (by decide)) hr rfl L._law_spot.m L._law_spot.F.kp L._law_spot.b .nil pass0 (qa_cons (qv 1) (qa_cons (qv 6) qa_nil))) qa_nil)))
  (qss_cons (qs_set (i:=8) sc__law_body.nd rfl (Or.inl rfl) (qe_op qo_mod (qe_call ((ok__law_number L).mono (by decide)) hr rfl L._law_number.m L._law_number.F.kp L._law_number.b .nil pass0 (qa_cons (qv 6) (qa_cons qe_int qa_nil))) qe_int))
  (qss_one (qs_for PassesOwn.never rfl (qi_range1 rfl L.n_range (qa_cons (qe_op qo_add qe_int (qe_op qo_mod (qe_call ((ok__law_number L).mono (by decide)) hr rfl L._law_number.m L._law_number.F.kp L._law_number.b .nil pass0 (qa_cons (qv 6) (qa_cons qe_int qa_nil))) qe_int)) qa_nil)) (qg_name (i:=9) sc__law_body.nd rfl (Or.inl rfl))
   (qss_cons (qs_if (qt_cmpR qo_lt (qe_ix (qx_list (K:=K) rfl) (qv 7) (qv 8) (fun _ _=>rfl)) (qe_op qo_add (qe_ix (qx_list (K:=K) rfl) (qv 5) (qv 8) (fun _ _=>rfl)) (qe_ix (qx_list (K:=K) rfl) (qv 4) (qv 8) (fun _ _=>rfl))) (nomark _)) (qss_one (qs_dput (hu_of hr) (qv 3) (qe_callTy (qc_tuple (K:=K) rfl) rfl L.n_tuple b_tuple (qa_cons (qv 7) qa_nil)) qe_bl rfl)) qss_nil)
  (qss_one (qs_asg (qe_op qo_add (qe_ix (qx_list (K:=K) rfl) (qv 7) (qv 8) (fun _ _=>rfl)) qe_int) (qg_sub (qv 7) (qv 8))))))))))
  (qss_one (qs_ret (qe_callB (qc_sortD (K:=K) rfl rfl) rfl L.n_sorted b_sorted (qa_cons (qv 3) qa_nil))))))),?_⟩
 walk_at "rd"
 intro d hd
 walk_at "rd"
 refine for_feeds (R:=IsI) (H0:=H) (fun i σ H'=>(∃ o1 o2 o3 o4,σ=[some (.ref x),some (.ref p),some (.ref l),some (.ref d),some (.ref q1),some (.ref q2),o1,o2,o3,o4])/\Same H H'/\∃ cs,Marks H' d cs/\cs.Nodup/\(∀ c∈cs,InF sz lo c)/\cs.length≤4 * i) (feeds_list hM (Rs.ints ms)) (fun _ _ _ q=>q.2.1)
  ⟨⟨_,_,_,_,rfl⟩,same_new hd,[],upd_same,List.nodup_nil,(fun _ h=>nomatch h),Nat.zero_le _⟩ ?_ ?_
 ·rintro σ H' ⟨⟨o1,o2,o3,o4,rfl⟩,s1,cs,e3,nd,wi,hl⟩
  walk_at "rd"
  refine rd_sortD e3 fun p' zs hp hc=>?_
  walk_at "rd"
  exact k p' zs (srtC cs) _ (s1.trans (same_new hp)) (s1.free hp) upd_same hc (srtC_asc cs) (srtC_nodup nd) (fun c h=>wi c ((srtC_perm cs).mem_iff.mp h)) (by rw [(srtC_perm cs).length_eq];omega)
 ·rintro i n v σ H1 H' hi ex ⟨⟨o1,o2,o3,o4,rfl⟩,s1,cs,e3,nd,wi,hl⟩ s2 rfl
  walk_at "rd"
  refine ⟨p,n,sz,lo,rfl,FR.up (s1.trans s2) hF,fun t c H2 s3 et hin=>?_⟩
  walk_at "rd"
  intro ls hls
  walk_at "rd"
  refine ⟨n,9,rfl,by decide,by decide,fun m H3 m0 s4=>?_⟩
  walk_at "rd"
  refine ⟨n,10,rfl,by decide,by decide,fun m' H4 m0' s5=>?_⟩
  rw [axm_n m]
  generalize axm m=ax
  have sX:=s1.trans (s2.trans s3)
  have hlsH:H ls=none:=sX.free hls
  have nd':d≠ls:=ne_of_none ((s2.trans s3) _ _ e3) hls
  have sY:=(same_new (o:=.lst c.v) hls).trans (s4.trans s5)
  have r4:=Int.emod_nonneg m' (show (4:Int)≠0 by decide)
  have r4':=Int.emod_lt_of_pos m' (show (0:Int) < 4 by decide)
  walk_at "rd"
  refine for_feeds (R:=IsI) (H0:=H) (fun j σ H5=>(∃ o,σ=[some (.ref x),some (.ref p),some (.ref l),some (.ref d),some (.ref q1),some (.ref q2),some (.int n),some (.ref ls),some (.int ax.n),o])/\Same H H5/\H5 ls=some (.lst (ax.put (ax.at c+(j:Int)) c).v)/\∃ cs',Marks H5 d cs'/\cs'.Nodup/\(∀ c∈cs',InF sz lo c)/\cs'.length≤cs.length+j) feeds_range (fun _ _ _ q=>q.2.1)
   ⟨⟨_,rfl⟩,sX.trans sY,?_,cs,sY _ _ ((s2.trans s3) _ _ e3),nd,wi,Nat.le_refl _⟩ ?_ ?_
  ·have z:ax.put (ax.at c+((0:Nat):Int)) c=c:=by rw [show ax.at c+((0:Nat):Int)=ax.at c by lia];exact (put_at ax (rfl:lnI ax c=lnI ax c)).symm
   rw [z]
   exact (s4.trans s5) _ _ upd_same
  ·rintro σ H5 ⟨⟨o,rfl⟩,s6,els,cs',e4,nd2,wi2,hl2⟩
   have hlen:((List.range (1+m' % 4).toNat).map fun i:Nat=>(0:Int)+(i:Int)).length=(1+m' % 4).toNat:=by simp
   rw [hlen] at hl2
   exact ⟨⟨_,_,_,_,rfl⟩,s6,cs',e4,nd2,wi2,by lia⟩
  ·rintro j y v σ H5 H6 hj exj ⟨⟨o,rfl⟩,s6,els,cs',e4,nd2,wi2,hl2⟩ s7 rfl
   have hj4:j < 4:=by
    have:j < (1+m' % 4).toNat:=by simpa using hj
    lia
   have els':=s7 _ _ els
   have e4':=s7 _ _ e4
   have s8:=s6.trans s7
   with_reducible refine rd_gname ?_
   with_reducible refine rd_seqK fun N hN=>?_
   have fin:∀ (H7:Hp) (cs2:List C3),Same H H7->H7 ls=some (.lst (ax.put (ax.at c+(j:Int)) c).v)->Marks H7 d cs2->cs2.Nodup->(∀ c∈cs2,InF sz lo c)->cs2.length≤cs.length+(j+1) ->
     N [some (.ref x),some (.ref p),some (.ref l),some (.ref d),some (.ref q1),some (.ref q2),some (.int n),some (.ref ls),some (.int ax.n),some (.int y)] H7:=by
    intro H7 cs2 s9 el9 em9 nd3 wi3 hl3
    apply hN
    walk_at "rd"
    refine rd_ixL (SqL.of el9) (at_ax ax _) ?_
    rw [at_put]
    obtain ⟨jj,ej,hjj⟩:=ix_ax ax (ax.put (ax.at c+(j:Int)) c)
    walk_at "rd"
    refine rd_setL el9 ej ?_
    rw [hjj,put_put,show ax.at c+(j:Int)+1=ax.at c+((j+1:Nat):Int) by lia]
    exact ⟨⟨_,rfl⟩,same_up s9 hlsH,upd_same,cs2,lk_ne nd' em9,nd3,wi3,hl3⟩
   walk_at "rd"
   refine rd_ixL (SqL.of els') (at_ax ax _) ?_
   rw [at_put]
   walk_at "rd"
   refine rd_ixL (SqL.of (s8 _ _ e2)) (at_ax ax lo) ?_
   walk_at "rd"
   refine rd_ixL (SqL.of (s8 _ _ e1)) (at_ax ax sz) ?_
   walk_at "rd"
   by_cases hlt:ax.at c+(j:Int) < ax.at lo+ax.at sz
   ·rw [decide_eq_true hlt]
    walk_at "rd"
    intro t' ht'
    walk_at "rd"
    refine marks_put (lk_old ht' e4') upd_same (by lia) fun e5=>?_
    refine fin _ _ (same_up (s8.trans (same_new ht')) hd) (lk_ne nd'.symm (lk_old ht' els')) e5 (nodup_addC nd2) (fun c' hc'=>?_) ?_
    ·rcases mem_addC.mp hc' with z | z
     ·exact wi2 c' z
     ·subst z
      exact inF_put hin (by have:=(hin ax).1;lia) hlt
    ·have:=@len_addC cs' (ax.put (ax.at c+(j:Int)) c)
     lia
   ·rw [decide_eq_false hlt]
    walk_at "rd"
    exact fin _ _ s8 els' e4' nd2 wi2 (by lia)
theorem ok__law_beside (L:All K w mg ad):FnOk P w K mg base CX0 1 ad.f__law_beside ad.d__law_beside ["_law_spot_here","_law_at","_law_by"] (spLNext K):=by
 refine L._law_beside.F.okQ sc__law_beside (fun vs H Q E h=>?_) (fun cdv A outer s H vs Q E hr h=>?_)
 ·obtain ⟨a,ax,c,st,rfl,_⟩:=h
  rfl
 obtain ⟨a,ax,c,st,rfl,hS,k⟩:=h
 refine ⟨_,(qss_one (qs_ret (qe_op qo_catG (qe_op qo_catG (qe_slT (K:=K) rfl (qv 0) qo_none (qo_some (qv 1))) (qe_tup (qa_cons (qe_op qo_add (qe_ix (qx_tup (K:=K) rfl) (qv 0) (qv 1) (fun _ _=>rfl)) (qv 2)) qa_nil))) (qe_slT (K:=K) rfl (qv 0) (qo_some (qe_op qo_add (qv 1) qe_int)) qo_none)))),?_⟩
 obtain ⟨n0,n3⟩:=ax_n03 ax
 walk_at "rd"
 refine rd_slT hS (cut_lo c _ n0 n3) fun p1 h1=>?_
 have s1:=same_new (o:=.tup (cutV c.v none (some ax.n))) h1
 walk_at "rd"
 refine rd_ixT (same_tup s1 hS) (at_ax ax c) ?_
 walk_at "rd"
 refine ⟨le1,fun p2 h2=>?_⟩
 have s2:=s1.trans (same_new (o:=.tup [V.int (ax.at c+st)]) h2)
 have z1:=cut_z (xs:=c.v) (lo:=none) (hi:=some ax.n) (by show 3≤10;decide)
 have z2:=cut_z (xs:=c.v) (lo:=some (ax.n+1)) (hi:=none) (by show 3≤10;decide)
 refine rd_catG (lk_old h2 upd_same) upd_same (Nat.le_of_lt (small1000 (by simp only [List.length_cons,List.length_nil];lia))) fun p3 H3 s3 e3=>?_
 walk_at "rd"
 refine rd_slT (same_tup (s2.trans s3) hS) (cut_hi c _ n0 n3) fun p4 h4=>?_
 walk_at "rd"
 refine rd_catG (lk_old h4 e3) upd_same (Nat.le_of_lt (small1000 (by simp only [List.length_append,List.length_cons,List.length_nil];lia))) fun p5 H5 s5 e5=>?_
 rw [cut_ax] at e5
 exact k p5 H5 ((s2.trans s3).trans ((same_new h4).trans s5)) e5
theorem ok__law_whole (L:All K w mg ad):FnOk P w K mg base CX0 1 ad.f__law_whole ad.d__law_whole ["_law_found"] spWholeL:=by
 refine L._law_whole.F.okQ sc__law_whole (fun vs H Q E h=>?_) (fun cdv A outer s H vs Q E hr h=>?_)
 ·obtain ⟨n,rfl,_⟩:=h
  rfl
 obtain ⟨n,rfl,k⟩:=h
 refine ⟨_,(qss_one (qs_ret (qe_and (qe_callB (qc_isI (K:=K) rfl) rfl L.n_isinstance b_isinstance (qa_cons (qv 0) (qa_cons (qe_bltn (v:=.ty "int") rfl L.n_int b_int rfl) qa_nil))) (qe_one (qe_not (qe_callB (qc_isI (K:=K) rfl) rfl L.n_isinstance b_isinstance (qa_cons (qv 0) (qa_cons (qe_bltn (v:=.ty "bool") rfl L.n_bool b_bool rfl) qa_nil)))))))),?_⟩
 walk_at "rd"
 exact k
theorem ok__law_is_spot (L:All K w mg ad):FnOk P w K mg base CX0 2 ad.f__law_is_spot ad.d__law_is_spot ["_law_found"] spIsSpot:=by
 refine L._law_is_spot.F.okQ sc__law_is_spot (fun vs H Q E h=>?_) (fun cdv A outer s H vs Q E hr h=>?_)
 ·obtain ⟨a,c,rfl,_⟩:=h
  rfl
 obtain ⟨a,c,rfl,hS,k⟩:=h
 refine ⟨_,(qss_cons (qs_if (QW.t (qw_or (qt_not (qt_val (qe_callB (qc_isI (K:=K) rfl) rfl L.n_isinstance b_isinstance (qa_cons (qv 0) (qa_cons (qe_bltn (v:=.ty "tuple") rfl L.n_tuple b_tuple rfl) qa_nil))))) (qw_or1 (qt_cmpR qo_ne (qe_callB (qc_len (K:=K) rfl) rfl L.n_len b_len (qa_cons (qv 0) qa_nil)) qe_int (nomark _))))) (qss_one (qs_ret qe_bl)) qss_nil)
  (qss_one (qs_ret (qe_and (qe_call ((ok__law_whole L).mono (by decide)) hr rfl L._law_whole.m L._law_whole.F.kp L._law_whole.b .nil pass0 (qa_cons (qe_ix (qx_tup (K:=K) rfl) (qv 0) qe_int (fun _ _=>rfl)) qa_nil)) (qe_and (qe_call ((ok__law_whole L).mono (by decide)) hr rfl L._law_whole.m L._law_whole.F.kp L._law_whole.b .nil pass0 (qa_cons (qe_ix (qx_tup (K:=K) rfl) (qv 0) qe_int (fun _ _=>rfl)) qa_nil)) (qe_one (qe_call ((ok__law_whole L).mono (by decide)) hr rfl L._law_whole.m L._law_whole.F.kp L._law_whole.b .nil pass0 (qa_cons (qe_ix (qx_tup (K:=K) rfl) (qv 0) qe_int (fun _ _=>rfl)) qa_nil)))))))),?_⟩
 walk_at "rd"
 rw [show (!decide ((c.v.length:Int)=3))=false from rfl]
 walk_at "rd"
 refine ⟨_,rfl,?_⟩
 walk_at "rd"
 refine ⟨_,rfl,?_⟩
 walk_at "rd"
 refine ⟨_,rfl,?_⟩
 walk_at "rd"
 exact k _ (Same.refl _)
theorem ok__law_lines (L:All K w mg ad):FnOk P w K mg base CX0 1 ad.f__law_lines ad.d__law_lines ["_law_body_here","_law_at"] (spLLinesK K):=by
 refine L._law_lines.F.okQ sc__law_lines (fun vs H Q E h=>?_) (fun cdv A outer s H vs Q E hr h=>?_)
 ·obtain ⟨a,ax,ys,cs,rfl,_⟩:=h
  rfl
 obtain ⟨a,ax,ys,cs,rfl,hS,hc,hl,k⟩:=h
 refine ⟨_,(qss_cons (qs_set (i:=2) sc__law_lines.nd rfl (Or.inl rfl) qe_dnewT)
  (qss_cons (qs_for PassesOwn.never rfl (qi_list (K:=K) rfl (qv 0)) (qg_name (i:=3) sc__law_lines.nd rfl (Or.inl rfl))
   (qss_one (qs_expr (qe_bm (K:=K) rfl PySem.F.plainAttrs_list PySem.F.slot_list_append PySem.F.type_list_append mt_append (qe_dsetd (hu_of hr) (qv 2) (qe_op qo_catG (qe_slT (K:=K) rfl (qv 3) qo_none (qo_some (qv 1))) (qe_slT (K:=K) rfl (qv 3) (qo_some (qe_op qo_add (qv 1) qe_int)) qo_none)) (qe_lst qa_nil) ⟨rfl,rfl,rfl,rfl⟩) (qa_cons (qe_ix (qx_tup (K:=K) rfl) (qv 3) (qv 1) (fun _ _=>rfl)) qa_nil)))))
  (qss_one (qs_ret (qv 2))))),?_⟩
 walk_at "rd"
 intro d hd
 walk_at "rd"
 obtain ⟨n0,n3⟩:=ax_n03 ax
 refine for_feeds (R:=IsC) (H0:=H) (fun i σ H'=>(∃ o,σ=[some (.ref a),some (.int ax.n),some (.ref d),o])/\Same H H'/\∃ kvs ks,LnS H H' d ax (cs.take i) kvs ks) (feeds_list hS hc) (fun _ _ _ q=>q.2.1)
  ⟨⟨_,rfl⟩,same_new hd,[],[],⟨upd_same,Nat.zero_le _,fun k=>.inl ⟨rfl,rfl⟩,fun k k' v e=>by cases e⟩,rfl,.nil,fun _ h=>nomatch h⟩ ?_ ?_
 ·rintro σ H' ⟨⟨o,rfl⟩,s1,kvs,ks,L1⟩
  rw [List.take_of_length_le (Nat.le_refl _)] at L1
  walk_at "rd"
  exact k d ks H' s1 hd L1.lines
 ·rintro i c v σ H1 H' hi ex ⟨⟨o,rfl⟩,s1,kvs,ks,L1⟩ s2 ⟨b,rfl,eb⟩
  rw [take_snoc ex]
  have hlen:kvs.length≤100000:=by have:=L1.len;rw [List.length_take] at this;lia
  have ed:=s2 _ _ L1.e
  walk_at "rd"
  refine ⟨d,rfl,.inr ⟨kvs,.inl ed⟩,?_⟩
  walk_at "rd"
  refine rd_slT (SqT.of eb) (cut_lo c _ n0 n3) fun p1 h1=>?_
  walk_at "rd"
  have ebx:=lk_old (o:=.tup (cutV c.v none (some ax.n))) h1 eb
  refine rd_slT (SqT.of ebx) (cut_hi c _ n0 n3) fun p2 h2=>?_
  walk_at "rd"
  have z1:=cut_z (xs:=c.v) (lo:=none) (hi:=some ax.n) (by show 3≤10;decide)
  have z2:=cut_z (xs:=c.v) (lo:=some (ax.n+1)) (hi:=none) (by show 3≤10;decide)
  refine rd_catG (lk_old h2 upd_same) upd_same (Nat.le_of_lt (small1000 (by lia))) fun p H2 s3' e3=>?_
  rw [cut_ln] at e3
  have s3:=(same_new (o:=.tup (cutV c.v none (some ax.n))) h1).trans ((same_new (o:=.tup (cutV c.v (some (ax.n+1)) none)) h2).trans s3')
  walk_at "rd"
  refine ⟨le0,fun q hq=>?_⟩
  have s4:=s2.trans (s3.trans (same_new (o:=.lst []) hq))
  have sH:=s1.trans s4
  have ek:upd H2 q (.lst []) p=some (.tup ((kI (lnI ax c)).map kV)):=by rw [kI_v];exact lk_old hq e3
  have ed4:=s4 _ _ L1.e
  have eb4:=(s3.trans (same_new (o:=.lst []) hq)) _ _ eb
  have hqH:H q=none:=(s1.trans (s2.trans s3)).free hq
  refine ⟨kvs,kI (lnI ax c),p,ed4,rfl,ek,smallM (by lia),fun v hv=>?_,fun hv=>?_⟩
  ·rcases L1.at' (lnI ax c) with ⟨z,_⟩ | ⟨l,hv',el,nl⟩
   ·rw [z] at hv;cases hv
   rw [hv'] at hv
   obtain rfl:=Option.some.inj hv
   have el4:=s4 _ _ el
   have ndl:d≠l:=fun e=>by subst e;rw [ed4] at el4;cases el4
   walk_at "rd"
   refine ⟨.inl ⟨rfl,_,SqL.of el4⟩,?_⟩
   walk_at "rd"
   refine rd_ixT (SqT.of eb4) (at_ax ax c) ?_
   walk_at "rd"
   have nlen:(numsAt ax (cs.take i) (lnI ax c)).length≤100000:=by
    unfold numsAt
    rw [List.length_map]
    have h1:=List.length_filter_le (fun x=>decide (lnI ax x=lnI ax c)) (cs.take i)
    rw [List.length_take] at h1
    lia
   refine ⟨l,_,_,rfl,rfl,el4,smallM (by rw [List.length_map];lia),?_⟩
   walk_at "rd"
   refine ⟨⟨_,rfl⟩,same_up sH nl,kvs,ks,⟨lk_ne ndl ed4,by have:=L1.len;rw [List.length_append];lia,fun k'=>?_,L1.inj⟩,L1.ek,L1.nd,fun k' hk'=>nums_keep (L1.ne k' hk')⟩
   rw [numsAt_snoc]
   by_cases hk:lnI ax c=k'
   ·subst hk
    rw [if_pos rfl]
    exact .inr ⟨l,hv',by rw [upd_same,List.map_append];rfl,nl⟩
   ·rw [if_neg hk,List.append_nil]
    rcases L1.at' k' with z | ⟨l',hv2,el2,nl2⟩
    ·exact .inl z
    ·refine .inr ⟨l',hv2,lk_ne (fun e=>?_) (s4 _ _ el2),nl2⟩
     subst e
     exact hk (L1.inj _ _ _ hv' hv2)
  ·have hnil:numsAt ax (cs.take i) (lnI ax c)=[]:=by
    rcases L1.at' (lnI ax c) with ⟨_,z⟩ | ⟨l,hv',_⟩
    ·exact z
    ·rw [hv] at hv';cases hv'
   have ndq:d≠q:=fun e=>by subst e;rw [(s2.trans s3) _ _ L1.e] at hq;cases hq
   have eq5:upd (upd H2 q (.lst [])) d (.dT (putK kvs (kI (lnI ax c)) (.ref q))) q=some (.lst []):=lk_ne ndq.symm upd_same
   walk_at "rd"
   refine ⟨.inl ⟨rfl,_,SqL.of eq5⟩,?_⟩
   walk_at "rd"
   refine rd_ixT (SqT.of (lk_kind ed4 (by intro z;cases z) eb4)) (at_ax ax c) ?_
   walk_at "rd"
   refine ⟨q,_,_,rfl,rfl,eq5,small1000 (by simp),?_⟩
   walk_at "rd"
   refine ⟨⟨_,rfl⟩,same_up (same_up sH hd) hqH,_,ks ++ [lnI ax c],⟨lk_ne ndq upd_same,?_,fun k'=>?_,fun k1 k2 v h1 h2=>?_⟩,put_keys L1.ek hv,List.nodup_append.mpr ⟨L1.nd,by simp,fun a ha b hb e=>?_⟩,fun k' hk'=>?_⟩
   ·have h1:=length_putK kvs (kI (lnI ax c)) (.ref q)
    have h2:=L1.len
    rw [List.length_append,List.length_singleton]
    lia
   ·rw [numsAt_snoc,valV_put]
    by_cases hk:lnI ax c=k'
    ·subst hk
     rw [if_pos rfl,if_pos rfl,hnil]
     exact .inr ⟨q,rfl,upd_same,hqH⟩
    ·rw [if_neg hk,List.append_nil,if_neg (fun e=>hk (kI_inj e).symm)]
     rcases L1.at' k' with z | ⟨l',hv2,el2,nl2⟩
     ·exact .inl z
     ·have el4:=s4 _ _ el2
      refine .inr ⟨l',hv2,?_,nl2⟩
      rw [upd_ne,upd_ne]
      ·exact el4
      ·intro e;subst e;rw [ed4] at el4;cases el4
      ·intro e;subst e;rw [(s2.trans s3) _ _ el2] at hq;cases hq
   ·rw [valV_put] at h1 h2
    have old:∀ k',valV kvs (kI k')=some (.ref q)->False:=fun k' h=>by
     rcases L1.at' k' with ⟨z,_⟩ | ⟨l',hv2,el2,_⟩
     ·rw [z] at h;cases h
     ·rw [hv2] at h
      cases Option.some.inj h
      rw [(s2.trans s3) _ _ el2] at hq
      cases hq
    by_cases e1:kI k1=kI (lnI ax c)
    ·by_cases e2:kI k2=kI (lnI ax c)
     ·exact kI_inj (e1.trans e2.symm)
     ·rw [if_pos e1] at h1
      rw [if_neg e2] at h2
      obtain rfl:=Option.some.inj h1
      exact absurd (old k2 h2) id
    ·rw [if_neg e1] at h1
     by_cases e2:kI k2=kI (lnI ax c)
     ·rw [if_pos e2] at h2
      obtain rfl:=Option.some.inj h2
      exact absurd (old k1 h1) id
     ·rw [if_neg e2] at h2
      exact L1.inj _ _ _ h1 h2
   ·rw [List.mem_singleton] at hb
    subst hb
    subst e
    exact (key_val L1.ek).mp ha hv
   ·rcases List.mem_append.mp hk' with z | z
    ·exact nums_keep (L1.ne k' z)
    ·rw [List.mem_singleton] at z
     subst z
     rw [numsAt_snoc,if_pos rfl,hnil]
     simp
end
section
variable {P:Program} {w:World} {K:PySem.W.Frag} {mg:Str->Option Value} {base:Heap} {ad:Ad}
theorem ok__law_between (L:All K w mg ad):FnOk P w K mg base CX0 2 ad.f__law_between ad.d__law_between ["_law_body_here","_law_at"] (spBetween K):=by
 refine L._law_between.F.okQ sc__law_between (fun vs H Q E h=>?_) (fun cdv A outer s H vs Q E hr h=>?_)
 ·obtain ⟨a,ax,cs,rfl,_⟩:=h
  rfl
 obtain ⟨a,ax,cs,rfl,⟨ys,hS,hc,asc,nd,hl,wi⟩,k⟩:=h
 refine ⟨_,(qss_cons (qs_set (i:=2) sc__law_between.nd rfl (Or.inl rfl) (qe_call ((ok__law_lines L).mono (by decide)) hr rfl L._law_lines.m L._law_lines.F.kp L._law_lines.b .nil pass0 (qa_cons (qv 0) (qa_cons (qv 1) qa_nil))))
  (qss_cons (qs_set (i:=3) sc__law_between.nd rfl (Or.inl rfl) (qe_lst qa_nil))
  (qss_cons (qs_forD PassesOwn.never rfl (qv 2) (qg_name (i:=4) sc__law_between.nd rfl (Or.inl rfl))
   (qss_one (qs_for PassesOwn.never rfl (qi_range2 rfl L.n_range (qa_cons (qe_callB (qc_minL (K:=K) rfl rfl) rfl L.n_min b_min (qa_cons (qe_dget (hu_of hr) (qv 2) (qv 4) (fun _ _=>rfl)) qa_nil)) (qa_cons (qe_callB (qc_maxL (K:=K) rfl rfl) rfl L.n_max b_max (qa_cons (qe_dget (hu_of hr) (qv 2) (qv 4) (fun _ _=>rfl)) qa_nil)) qa_nil))) (qg_name (i:=5) sc__law_between.nd rfl (Or.inl rfl))
   (qss_one (qs_if (qt_cmpR (qo_notIn (K:=K) rfl) (qv 5) (qe_dget (hu_of hr) (qv 2) (qv 4) (fun _ _=>rfl)) rfl) (qss_one (qs_expr (qe_bm (K:=K) rfl PySem.F.plainAttrs_list PySem.F.slot_list_append PySem.F.type_list_append mt_append (qv 3) (qa_cons (qe_op qo_catG (qe_op qo_catG (qe_slG (K:=K) rfl (qv 4) qo_none (qo_some (qv 1))) (qe_tup (qa_cons (qv 5) qa_nil))) (qe_slG (K:=K) rfl (qv 4) (qo_some (qv 1)) qo_none)) qa_nil)))) qss_nil)))))
  (qss_one (qs_ret (qe_callB (qc_sortC (K:=K) rfl) rfl L.n_sorted b_sorted (qa_cons (qv 3) qa_nil))))))),?_⟩
 walk_at "rd"
 refine ⟨a,ax,ys,cs,rfl,SqL.of hS,hc,by lia,fun d ks H1 s1 nd1 hL=>?_⟩
 walk_at "rd"
 refine ⟨le0,fun f hf=>?_⟩
 obtain ⟨kvs,ed,ek,hnd,hm,hv⟩:=LinesK.up (same_new (o:=.lst []) hf) hL
 have hcnt:kvs.length≤1000:=by
  have h1:kvs.length=ks.length:=by have:=congrArg List.length ek;simpa using this
  have h2:=nodup_lenG (m:=cs.map (lnI ax)) hnd fun k hk=>by
   obtain ⟨c,h1,h2⟩:=key_of ((hm k).mp hk)
   exact List.mem_map.mpr ⟨c,h1,h2⟩
  rw [List.length_map] at h2
  lia
 have hfH:H f=none:=s1.free hf
 have s2:=s1.trans (same_new (o:=.lst []) hf)
 have ef:upd H1 f (.lst []) f=some (.lst []):=upd_same
 have hlf:∀ k∈ks,∀ l,valV kvs (kI k)=some (.ref l)->l≠f:=fun k' hk' l hl' z=>by
  subst z
  obtain ⟨l',x,y⟩:=hv k' hk'
  rw [hl'] at x
  cases x
  rw [ef] at y
  have:=Option.some.inj y
  injection this with this
  exact (hm k').mp hk' (List.map_eq_nil_iff.mp this.symm)
 have hld:∀ k∈ks,∀ l,valV kvs (kI k)=some (.ref l)->l≠d:=fun k' hk' l hl' z=>by
  subst z
  obtain ⟨l',x,y⟩:=hv k' hk'
  rw [hl'] at x
  cases x
  rw [ed] at y
  cases y
 generalize upd H1 f (.lst [])=H2 at s2 ed hv ef ⊢
 have nfd:f≠d:=fun z=>by subst z;rw [ed] at ef;cases ef
 walk_at "rd"
 refine rd_forD ⟨d,kvs,rfl,ed,fun o=>?_⟩
 have hF:upd H2 d (.frz o (.dT kvs)) d=some (.frz o (.dT kvs)):=upd_same
 have ef3:upd H2 d (.frz o (.dT kvs)) f=some (.lst []):=lk_ne nfd ef
 have hv3:∀ k∈ks,∃ l,valV kvs (kI k)=some (.ref l)/\l≠f/\hid (upd H2 d (.frz o (.dT kvs))) f l=some (.lst ((numsAt ax cs k).map V.int)):=fun k' hk'=>let ⟨l,x,y⟩:=hv k' hk';⟨l,x,hlf k' hk' l x,hid_at (hlf k' hk' l x) (lk_ne (hld k' hk' l x) y)⟩
 refine for_feeds (R:=IsK) (H0:=hid (upd H2 d (.frz o (.dT kvs))) f) (fun i σ H'=>(∃ o4 o5,σ=[some (.ref a),some (.int ax.n),some (.ref d),some (.ref f),o4,o5])/\Same (hid (upd H2 d (.frz o (.dT kvs))) f) H'/\∃ us ds,H' f=some (.lst us)/\Cs H' us ds/\ds.Nodup/\ds.length≤200 * i/\GapM ax cs (ks.take i) ds) (feeds_keys (hid_at nfd.symm hF)) (fun _ _ _ q=>q.2.1)
  ⟨⟨_,_,rfl⟩,hid_same,[],[],ef3,.nil,.nil,Nat.le_refl _,fun c=>by simp⟩ ?_ ?_
 ·rintro σ H3 ⟨⟨o4,o5,rfl⟩,s3,us,ds,e3,r3,n3,l3,f3⟩
  have hkl:ks.length=kvs.length:=by have:=congrArg List.length ek;simpa using this.symm
  rw [List.take_of_length_le (by lia)] at f3
  have ed3:=s3 _ _ (hid_at nfd.symm hF)
  refine ⟨⟨o,ed3⟩,?_⟩
  have sT:Same H (upd H3 d (.dT kvs)):=same_thaw s2 ed hfH s3
  have e4:upd H3 d (.dT kvs) f=some (.lst us):=lk_ne nfd e3
  have r4:Cs (upd H3 d (.dT kvs)) us ds:=Paired.mapP r3 fun _ _ ⟨b,x,y⟩=>⟨b,x,lk_kind ed3 (by intro z;cases z) y⟩
  generalize upd H3 d (.dT kvs)=H4 at sT e4 r4 ⊢
  walk_at "rd"
  refine rd_sortC (SqL.of e4) r4 fun p zs hp hcz=>?_
  have hpm:=srtC_perm ds
  have hn:=hpm.nodup_iff.mpr n3
  refine k (srtC ds) p zs _ ⟨srtC_asc ds,hn,fun c=>?_⟩ (sT.trans (same_new hp)) (sT.free hp) upd_same hcz
  rw [hpm.mem_iff,f3 c]
  refine ⟨fun z=>z.2,fun z=>⟨(hm _).mpr fun e=>?_,z⟩⟩
  unfold IsGap at z
  rw [e] at z
  cases z
 ·rintro i ⟨kk,vv⟩ v σ H3 H4 hi ex ⟨⟨o4,o5,rfl⟩,s3,us,ds,e3,r3,n3',l3,f3⟩ s4 ⟨b,rfl,eb⟩
  obtain ⟨k',ek',exk⟩:∃ k',kk=kI k'/\ks[i]?=some k':=by
   have h1:(kvs.map (·.1))[i]?=some kk:=by rw [List.getElem?_map,ex];rfl
   rw [ek,List.getElem?_map] at h1
   obtain ⟨k',h2,h3⟩:=Option.map_eq_some_iff.mp h1
   exact ⟨k',h3.symm,h2⟩
  subst ek'
  have eb:H4 b=some (.tup (k'.map V.int)):=by rw [←kI_v];exact eb
  have hkm:=List.mem_of_getElem? exk
  have hne:numsAt ax cs k'≠[]:=(hm k').mp hkm
  obtain ⟨p0,q0,rfl⟩:∃ p q,k'=[p,q]:=by
   obtain ⟨c,_,e⟩:=key_of hne
   obtain ⟨x,y,z⟩:=c
   cases ax <;> exact ⟨_,_,e.symm⟩
  have knew:[p0,q0]∉ks.take i:=fun z=>by
   obtain ⟨j,hj⟩:=List.getElem?_of_mem z
   have hji:j < i:=by have:=(List.getElem?_eq_some_iff.mp hj).1;rw [List.length_take] at this;lia
   rw [List.getElem?_take_of_lt hji] at hj
   obtain ⟨l1,e1⟩:=List.getElem?_eq_some_iff.mp hj
   obtain ⟨l2,e2⟩:=List.getElem?_eq_some_iff.mp exk
   have:=(List.pairwise_iff_getElem.mp hnd) j i l1 l2 hji
   exact this (e1.trans e2.symm)
  obtain ⟨l,hval,nlf,el⟩:=hv3 _ hkm
  have s5:=s3.trans s4
  have ed5:=s5 _ _ (hid_at nfd.symm hF)
  have el5:=s5 _ _ el
  walk_at "rd"
  refine ⟨d,.ref l,rfl,.inr ⟨kvs,kI [p0,q0],b,.inr ⟨o,ed5⟩,rfl,by rw [kI_v];exact eb,hval.symm⟩,?_⟩
  walk_at "rd"
  refine rd_minL (SqL.of el5) hne fun M hM hMa=>?_
  walk_at "rd"
  refine ⟨d,.ref l,rfl,.inr ⟨kvs,kI [p0,q0],b,.inr ⟨o,ed5⟩,rfl,by rw [kI_v];exact eb,hval.symm⟩,?_⟩
  walk_at "rd"
  refine rd_maxL (SqL.of el5) hne fun N hN hNa=>?_
  obtain ⟨gM,gN⟩:=lk_head (asc_nums asc nd _) hM hMa hN hNa
  have b1:=nums_in wi hM
  have b2:=nums_in wi hN
  have b3:=hMa _ hN
  walk_at "rd"
  refine for_feeds (R:=IsI) (H0:=hid (upd H2 d (.frz o (.dT kvs))) f) (fun j σ H'=>(∃ o5,σ=[some (.ref a),some (.int ax.n),some (.ref d),some (.ref f),some (.ref b),o5])/\Same (hid (upd H2 d (.frz o (.dT kvs))) f) H'/\H' b=some (.tup [.int p0,.int q0])/\∃ us es,H' f=some (.lst us)/\Cs H' us (ds ++ es)/\es=(((List.range j).map (fun m:Nat=>M+(m:Int))).filter fun n=>decide (n∉numsAt ax cs [p0,q0])).map (fun n=>insC ax p0 q0 n)) feeds_range (fun _ _ _ q=>q.2.1)
   ⟨⟨_,rfl⟩,s5,eb,us,[],s4 _ _ e3,by rw [List.append_nil];exact Rs.up s4 r3,rfl⟩ ?_ ?_
  ·rintro σ H' ⟨⟨o5,rfl⟩,s6,eb6,us',es,e6,r6,rfl⟩
   simp only [List.length_map,List.length_range] at r6
   have hgm:∀ n:Int,n∈(((List.range (N - M).toNat).map (fun m:Nat=>M+(m:Int))).filter fun n=>decide (n∉numsAt ax cs [p0,q0]))↔n∈gapN (numsAt ax cs [p0,q0]):=fun n=>by
    rw [gapN_mem (asc_nums asc nd _),List.mem_filter,List.mem_map,decide_eq_true_eq]
    constructor
    ·rintro ⟨⟨m,hm',rfl⟩,h2⟩
     have:=List.mem_range.mp hm'
     refine ⟨h2,⟨M,hM,?_⟩,N,hN,by lia⟩
     have:M+(m:Int)≠M:=fun e=>h2 (by rw [e];exact hM)
     lia
    ·rintro ⟨h1,⟨x,hx,h2⟩,y,hy,h3⟩
     have:=hMa x hx
     have:=hNa y hy
     exact ⟨⟨(n - M).toNat,List.mem_range.mpr (by lia),by lia⟩,h1⟩
   have hnd':(((List.range (N - M).toNat).map (fun m:Nat=>M+(m:Int))).filter fun n=>decide (n∉numsAt ax cs [p0,q0])).Nodup:=by
    refine List.Pairwise.filter _ ?_
    rw [List.pairwise_map]
    exact List.nodup_range.imp fun {x y} h e=>h (by lia)
   refine ⟨⟨_,_,rfl⟩,s6,us',_,e6,r6,?_,?_,fun c=>?_⟩
   ·refine List.nodup_append.mpr ⟨n3',?_,fun c h1 c' h2 e=>?_⟩
    ·rw [List.Nodup,List.pairwise_map]
     refine hnd'.imp fun {x y} h e=>h ?_
     have:=congrArg ax.at e
     rwa [ins_n,ins_n] at this
    ·subst e
     obtain ⟨m,_,rfl⟩:=List.mem_map.mp h2
     have:=((f3 _).mp h1).1
     rw [ins_ln] at this
     exact knew this
   ·rw [List.length_append,List.length_map]
    have:=List.length_filter_le (fun n=>decide (n∉numsAt ax cs [p0,q0])) ((List.range (N - M).toNat).map (fun m:Nat=>M+(m:Int)))
    rw [List.length_map,List.length_range] at this
    lia
   ·rw [List.mem_append,f3 c,take_snoc exk,List.mem_append,List.mem_singleton]
    constructor
    ·rintro (⟨h1,h2⟩ | h)
     ·exact ⟨.inl h1,h2⟩
     ·obtain ⟨m,hm',rfl⟩:=List.mem_map.mp h
      refine ⟨.inr (ins_ln ax p0 q0 m),?_⟩
      unfold IsGap
      rw [ins_ln,ins_n]
      exact (hgm m).mp hm'
    ·rintro ⟨h1 | h1,h2⟩
     ·exact .inl ⟨h1,h2⟩
     ·refine .inr (List.mem_map.mpr ⟨ax.at c,(hgm _).mpr ?_,(ins_of h1).symm⟩)
      unfold IsGap at h2
      rwa [h1] at h2
  ·rintro j n v σ H6 H7 hj exj ⟨⟨o5,rfl⟩,s6,eb6,us',es,e6,r6,rfl⟩ s7 rfl
   obtain ⟨jj,rfl,hjj⟩:∃ jj:Nat,n=M+(jj:Int)/\jj=j:=by
    rw [List.getElem?_map] at exj
    obtain ⟨jj,h1,rfl⟩:=Option.map_eq_some_iff.mp exj
    obtain ⟨l1,e1⟩:=List.getElem?_eq_some_iff.mp h1
    rw [List.getElem_range] at e1
    exact ⟨jj,rfl,e1.symm⟩
   subst hjj
   have eb7:=s7 _ _ eb6
   have e7:=s7 _ _ e6
   have s67:=s6.trans s7
   have ed7:=s67 _ _ (hid_at nfd.symm hF)
   have el7:=s67 _ _ el
   have hjl:jj < 122:=by
    have:=(List.getElem?_eq_some_iff.mp exj).1
    rw [List.length_map,List.length_range] at this
    lia
   have hul:us'.length≤300000:=by
    rw [r6.len,List.length_append,List.length_map]
    have:=List.length_filter_le (fun n=>decide (n∉numsAt ax cs [p0,q0])) ((List.range jj).map (fun m:Nat=>M+(m:Int)))
    rw [List.length_map,List.length_range] at this
    have:i < kvs.length:=(List.getElem?_eq_some_iff.mp ex).1
    lia
   have step:((List.range (jj+1)).map (fun m:Nat=>M+(m:Int))).filter (fun n=>decide (n∉numsAt ax cs [p0,q0]))=((List.range jj).map (fun m:Nat=>M+(m:Int))).filter (fun n=>decide (n∉numsAt ax cs [p0,q0])) ++ (if M+(jj:Int)∉numsAt ax cs [p0,q0] then [M+(jj:Int)] else []):=by
    rw [List.range_succ,List.map_append,List.filter_append]
    congr 1
    by_cases g:M+(jj:Int)∉numsAt ax cs [p0,q0]
    ·rw [if_pos g,List.map_cons,List.map_nil,List.filter_cons,if_pos (decide_eq_true g)];rfl
    ·rw [if_neg g,List.map_cons,List.map_nil,List.filter_cons,if_neg (by simpa using g)];rfl
   have z1:=cut_z (xs:=[V.int p0,V.int q0]) (lo:=none) (hi:=some ax.n) (by show 2≤10;decide)
   have z2:=cut_z (xs:=[V.int p0,V.int q0]) (lo:=some ax.n) (hi:=none) (by show 2≤10;decide)
   walk_at "rd"
   refine ⟨d,.ref l,rfl,.inr ⟨kvs,kI [p0,q0],b,.inr ⟨o,ed7⟩,rfl,by rw [kI_v];exact eb7,hval.symm⟩,?_⟩
   walk_at "rd"
   refine rd_notInI (SqL.of el7) ?_
   by_cases g:M+(jj:Int)∈numsAt ax cs [p0,q0]
   ·rw [decide_eq_true g]
    walk_at "rd"
    refine ⟨⟨_,rfl⟩,s67,eb7,us',_,e7,?_,rfl⟩
    rw [step,if_neg (fun z=>z g),List.append_nil]
    exact Rs.up s7 r6
   rw [decide_eq_false g]
   walk_at "rd"
   refine ⟨.inl ⟨rfl,_,SqL.of e7⟩,?_⟩
   walk_at "rd"
   refine rd_slG eb7 fun u1 J1 w1 f1=>?_
   walk_at "rd"
   refine ⟨le1,fun u2 hu2=>?_⟩
   have w2:=same_new (o:=.tup [V.int (M+(jj:Int))]) hu2
   walk_at "rd"
   refine rd_catG (w2 _ _ f1) upd_same (Nat.le_of_lt (small1000 (by simp only [List.length_cons,List.length_nil];lia))) fun u3 J3 w3 f3'=>?_
   walk_at "rd"
   refine rd_slG ((w1.trans (w2.trans w3)) _ _ eb7) fun u4 J4 w4 f4=>?_
   walk_at "rd"
   refine rd_catG (w4 _ _ f3') f4 (Nat.le_of_lt (small1000 (by simp only [List.length_append,List.length_cons,List.length_nil];lia))) fun u5 J5 w5 f5=>?_
   rw [cut_ins] at f5
   have wA:=w1.trans (w2.trans (w3.trans (w4.trans w5)))
   walk_at "rd"
   refine ⟨f,_,_,rfl,rfl,wA _ _ e7,big_ok (by lia),?_⟩
   walk_at "rd"
   refine ⟨⟨_,rfl⟩,same_up (s6.trans (s7.trans wA)) hid_none,lk_ne (fun z=>by subst z;rw [e7] at eb7;cases eb7) (wA _ _ eb7),_,_,upd_same,?_,rfl⟩
   rw [step,if_pos g,List.map_append,←List.append_assoc]
   exact Rs.lst (wA _ _ e7) (Rs.app (Rs.up (s7.trans wA) r6) (.cons ⟨u5,rfl,f5⟩ .nil))
end
section
variable {P:Program} {w:World} {K:PySem.W.Frag} {mg:Str->Option Value} {base:Heap} {ad:Ad}
theorem fold_mem {x:C3}:∀ (l a:List C3),x∈l.foldl addC a↔x∈a\/x∈l
 | [],a=>by simp
 | c :: l,a=>by
  rw [List.foldl_cons,fold_mem l,mem_addC,List.mem_cons]
  constructor
  ·rintro ((h | h) | h)
   ·exact .inl h
   ·exact .inr (.inl h)
   ·exact .inr (.inr h)
  ·rintro (h | h | h)
   ·exact .inl (.inl h)
   ·exact .inl (.inr h)
   ·exact .inr h
theorem ok_hold (L:All K w mg ad):FnOk P w K mg base CX0 7 ad.f_hold ad.d_hold ["body","axis","core"] (spHoldC K):=by
 refine L.hold.F.okQ sc_hold (fun vs H Q E h=>?_) (fun cdv A outer s H vs Q E hr h=>?_)
 ·obtain ⟨b,co,ax,cs,ds,core,ys,rfl,_⟩:=h
  rfl
 obtain ⟨b,co,ax,cs,ds,core,ys,rfl,hB,hF,hG,h6,eco,rco,hcl,k⟩:=h
 obtain ⟨zb,eb,rb,_,_,lb,_⟩:=id hB
 refine ⟨_,(qss_cons (qs_set (i:=3) sc_hold.nd rfl (Or.inl rfl) (qe_call ((ok_marked L).mono (by decide)) hr rfl L.marked.m L.marked.F.kp L.marked.b .nil pass0 (qa_cons (qe_op qo_cat (qv 0) (qe_call ((ok_gaps L).mono (by decide)) hr rfl L.gaps.m L.gaps.F.kp L.gaps.b .nil pass0 (qa_cons (qv 0) (qa_cons (qv 1) qa_nil)))) qa_nil)))
  (qss_cons (qs_for PassesOwn.never rfl (qi_list (K:=K) rfl (qv 2)) (qg_name (i:=4) sc_hold.nd rfl (Or.inl rfl))
   (qss_one (qs_for PassesOwn.never rfl (qi_list (K:=K) rfl (qe_call ((ok_neighbours L).mono (by decide)) hr rfl L.neighbours.m L.neighbours.F.kp L.neighbours.b .nil pass0 (qa_cons (qv 4) qa_nil))) (qg_name (i:=5) sc_hold.nd rfl (Or.inl rfl))
   (qss_one (qs_if (qt_dnotin (hu_of hr) (qv 5) (qv 3) rfl) (qss_one (qs_ret (qe_tup (qa_cons (qv 4) (qa_cons (qv 5) qa_nil))))) qss_nil)))))
  (qss_one (qs_ret qe_non)))),?_⟩
 walk_at "rd"
 refine ⟨b,ax,cs,rfl,hB,hF,fun ds' hG'=>by rw [gapB_one hG' hG];exact h6,fun ds' hG' p zs H1 s1 hp e1 r1=>?_⟩
 rw [gapB_one hG' hG] at r1
 have l1:=rb.len
 have l2:=r1.len
 refine rd_catL (s1 _ _ eb) e1 (by rw [sizeLine_eq];lia) fun p2 hp2=>?_
 have s2:=s1.trans (same_new (o:=.lst (zb ++ zs)) hp2)
 have r2:Cs (upd H1 p2 (.lst (zb ++ zs))) (zb ++ zs) (cs ++ ds):=Rs.app (Rs.up s2 rb) (Rs.up (same_new hp2) r1)
 walk_at "rd"
 refine ⟨p2,zb ++ zs,cs ++ ds,rfl,SqL.of upd_same,r2,by rw [List.length_append];lia,fun d H2 s3 hd e2=>?_⟩
 have s4:=s2.trans s3
 have eco2:=s4 _ _ eco
 have rco2:=Rs.up s4 rco
 have mem:∀ x,x∈(cs ++ ds).foldl addC []↔x∈cs ++ ds:=fun x=>by rw [fold_mem];simp
 walk_at "rd"
 refine for_feeds (R:=IsC) (H0:=H2) (fun i σ H'=>(∃ o1 o2,σ=[some (.ref b),some (.str ax.s),some (.ref co),some (.ref d),o1,o2])/\Same H2 H'/\∀ c∈core.take i,∀ y∈nb c,y∈cs ++ ds) (feeds_list (SqL.of eco2) rco2) (fun _ _ _ q=>q.2.1) ⟨⟨_,_,rfl⟩,Same.refl _,by rw [List.take_zero];exact fun _ h=>nomatch h⟩ ?_ ?_
 ·rintro σ H3 ⟨⟨o1,o2,rfl⟩,s5,m5⟩
  rw [List.take_of_length_le (Nat.le_refl _)] at m5
  walk_at "rd"
  exact k .non H3 (s4.trans s5) (by rw [due_none m5];rfl)
 ·rintro i c v σ H3 H4 hi ex ⟨⟨o1,o2,rfl⟩,s5,m5⟩ s6 ⟨a,rfl,ea⟩
  walk_at "rd"
  refine ⟨a,c,rfl,SqT.of ea,fun p3 ps H5 s7 mk hp3 e5=>?_⟩
  obtain ⟨e5,r5⟩:=cs_made mk e5
  have ed:=(s5.trans (s6.trans s7)) _ _ e2
  walk_at "rd"
  refine for_feeds (R:=IsC) (H0:=H5) (fun j σ H'=>(∃ o2,σ=[some (.ref b),some (.str ax.s),some (.ref co),some (.ref d),some (.ref a),o2])/\Same H5 H'/\∀ y∈(nb c).take j,y∈cs ++ ds) (feeds_list (SqL.of e5) r5) (fun _ _ _ q=>q.2.1) ⟨⟨_,rfl⟩,Same.refl _,by rw [List.take_zero];exact fun _ h=>nomatch h⟩ ?_ ?_
  ·rintro σ H6 ⟨⟨o2,rfl⟩,s8,m8⟩
   rw [List.take_of_length_le (Nat.le_refl _)] at m8
   refine ⟨⟨_,_,rfl⟩,s5.trans (s6.trans (s7.trans s8)),fun x hx=>?_⟩
   rw [take_snoc ex] at hx
   rcases List.mem_append.mp hx with hx | hx
   ·exact m5 x hx
   ·rw [List.mem_singleton.mp hx]
    exact m8
  ·rintro j y v σ H6 H7 hj exj ⟨⟨o2,rfl⟩,s8,m8⟩ s9 ⟨a2,rfl,ea2⟩
   have s89:=s8.trans s9
   walk_at "rd"
   refine ⟨d,_,rfl,marks_get (.inl (s89 _ _ ed)) ea2,?_⟩
   rw [val_marks]
   by_cases g:y∈cs ++ ds
   ·rw [decide_eq_true ((mem y).mpr g)]
    walk_at "rd"
    refine ⟨⟨_,rfl⟩,s89,fun x hx=>?_⟩
    rw [take_snoc exj] at hx
    rcases List.mem_append.mp hx with hx | hx
    ·exact m8 x hx
    ·rw [List.mem_singleton.mp hx]
     exact g
   ·rw [decide_eq_false fun z=>g ((mem y).mp z)]
    walk_at "rd"
    refine ⟨le2,fun t ht=>?_⟩
    walk_at "rd"
    have sA:=s7.trans (s89.trans (same_new (o:=.tup [.ref a,.ref a2]) ht))
    refine k (.ref t) _ (s4.trans (s5.trans (s6.trans sA))) ?_
    rw [due_some m5 ex m8 exj g]
    exact ⟨t,a,a2,rfl,upd_same,sA _ _ ea,lk_old ht ea2⟩
theorem ok__law_nears (L:All K w mg ad):FnOk P w K mg base CX0 2 ad.f__law_nears ad.d__law_nears ["_law_spot_here"] (spNearsS K):=by
 refine L._law_nears.F.okQ sc__law_nears (fun vs H Q E h=>?_) (fun cdv A outer s H vs Q E hr h=>?_)
 ·obtain ⟨a,c,rfl,_⟩:=h
  rfl
 obtain ⟨a,c,rfl,hS,k⟩:=h
 refine ⟨_,(qss_cons (qs_set (i:=1) sc__law_nears.nd rfl (Or.inl rfl) (qe_lst qa_nil))
  (qss_cons (qs_for PassesOwn.never rfl (qi_range1 rfl L.n_range (qa_cons qe_int qa_nil)) (qg_name (i:=2) sc__law_nears.nd rfl (Or.inl rfl))
   (qss_one (qs_set (i:=1) sc__law_nears.nd rfl (Or.inl rfl) (qe_op qo_cat (qv 1) (qe_lst (qa_cons (qe_call ((ok__law_beside L).mono (by decide)) hr rfl L._law_beside.m L._law_beside.F.kp L._law_beside.b .nil pass0 (qa_cons (qv 0) (qa_cons (qv 2) (qa_cons (qe_neg qe_int) qa_nil)))) (qa_cons (qe_call ((ok__law_beside L).mono (by decide)) hr rfl L._law_beside.m L._law_beside.F.kp L._law_beside.b .nil pass0 (qa_cons (qv 0) (qa_cons (qv 2) (qa_cons qe_int qa_nil)))) qa_nil)))))))
  (qss_one (qs_ret (qe_callB (qc_sortC (K:=K) rfl) rfl L.n_sorted b_sorted (qa_cons (qv 1) qa_nil)))))),?_⟩
 walk_at "rd"
 refine ⟨le0,fun lf hlf=>?_⟩
 walk_at "rd"
 have hlr:((List.range (Int.toNat 3)).map fun i:Nat=>(0:Int)+(i:Int)).length=3:=by decide
 refine for_feeds (R:=IsI) (H0:=H) (fun i σ H'=>(∃ q o1,σ=[some (.ref a),some (.ref q),o1]/\H q=none/\∃ zs,H' q=some (.lst zs)/\Cs H' zs ((nbL c).take (2 * i)))/\Same H H') feeds_range (fun _ _ _ q=>q.2) ⟨⟨lf,_,rfl,hlf,[],upd_same,.nil⟩,same_new hlf⟩ ?_ ?_
 ·rintro σ H1 ⟨⟨q,o1,rfl,hq,zs,e1,c1⟩,s1⟩
  rw [hlr] at c1
  walk_at "rd"
  refine rd_sortC (SqL.of e1) c1 fun p zs2 hp hc2=>?_
  walk_at "rd"
  rw [show (nbL c).take (2 * 3)=nbL c from rfl,srt_nb] at hc2
  exact k p zs2 _ (s1.trans (same_new hp)) (s1.free hp) upd_same hc2
 ·rintro i n v σ H1 H2 hi ex ⟨⟨q,o1,rfl,hq,zs,e1,c1⟩,s1⟩ s2 rfl
  rw [hlr] at hi
  have hn:n=(i:Int):=by
   rw [List.getElem?_map,List.getElem?_range (by lia)] at ex
   have:(0:Int)+(i:Int)=n:=Option.some.inj ex
   lia
  subst hn
  have s12:=s1.trans s2
  have e2:=s2 _ _ e1
  obtain ⟨ax,hax⟩:=ax_of (i:=(i:Int)) (by lia) (by lia)
  have hS2:=same_tup s12 hS
  walk_at "rd"
  refine ⟨a,ax,c,-1,by rw [hax];rfl,hS2,fun p1 H3 s3 e3=>?_⟩
  walk_at "rd"
  refine ⟨a,ax,c,1,by rw [hax];rfl,same_tup s3 hS2,fun p2 H4 s4 e4=>?_⟩
  walk_at "rd"
  refine ⟨le2,fun l2 hl2=>?_⟩
  have sl:=same_new (o:=.lst [.ref p1,.ref p2]) hl2
  have hz:=c1.len
  have hz6:((nbL c).take (2 * i)).length≤6:=by
   rw [List.length_take]
   have h6:(nbL c).length=6:=rfl
   lia
  refine rd_catL ((s3.trans (s4.trans sl)) _ _ e2) upd_same (Nat.le_of_lt (small1000 (by simp only [List.length_cons,List.length_nil];lia))) fun lc hlc=>?_
  have sc:=same_new (o:=.lst (zs ++ [.ref p1,.ref p2])) hlc
  have sA:=s3.trans (s4.trans (sl.trans sc))
  walk_at "rd"
  refine ⟨⟨lc,_,rfl,(s12.trans (s3.trans (s4.trans sl))).free hlc,_,upd_same,?_⟩,s12.trans sA⟩
  rw [←nbL_at c ax hax]
  exact Rs.app (Rs.up (s2.trans sA) c1) (.cons ⟨p1,rfl,(s4.trans (sl.trans sc)) _ _ e3⟩ (.cons ⟨p2,rfl,(sl.trans sc) _ _ e4⟩ .nil))
theorem ok__law_due (L:All K w mg ad):FnOk P w K mg base CX0 3 ad.f__law_due ad.d__law_due ["_law_known","_law_core"] (spDueC K):=by
 refine L._law_due.F.okQ sc__law_due (fun vs H Q E h=>?_) (fun cdv A outer s H vs Q E hr h=>?_)
 ·obtain ⟨d,co,ms,core,ys,rfl,_⟩:=h
  rfl
 obtain ⟨d,co,ms,core,ys,rfl,hd,eco,rco,hcl,k⟩:=h
 refine ⟨_,(qss_cons (qs_for PassesOwn.never rfl (qi_list (K:=K) rfl (qv 1)) (qg_name (i:=2) sc__law_due.nd rfl (Or.inl rfl))
   (qss_one (qs_for PassesOwn.never rfl (qi_list (K:=K) rfl (qe_call ((ok__law_nears L).mono (by decide)) hr rfl L._law_nears.m L._law_nears.F.kp L._law_nears.b .nil pass0 (qa_cons (qv 2) qa_nil))) (qg_name (i:=3) sc__law_due.nd rfl (Or.inl rfl))
   (qss_one (qs_if (qt_dnotin (hu_of hr) (qv 3) (qv 0) rfl) (qss_one (qs_ret (qe_tup (qa_cons (qv 2) (qa_cons (qv 3) qa_nil))))) qss_nil)))))
  (qss_one (qs_ret qe_non))),?_⟩
 walk_at "rd"
 refine for_feeds (R:=IsC) (H0:=H) (fun i σ H'=>(∃ o1 o2,σ=[some (.ref d),some (.ref co),o1,o2])/\Same H H'/\∀ c∈core.take i,∀ y∈nb c,y∈ms) (feeds_list (SqL.of eco) rco) (fun _ _ _ q=>q.2.1) ⟨⟨_,_,rfl⟩,Same.refl _,by rw [List.take_zero];exact fun _ h=>nomatch h⟩ ?_ ?_
 ·rintro σ H3 ⟨⟨o1,o2,rfl⟩,s5,m5⟩
  rw [List.take_of_length_le (Nat.le_refl _)] at m5
  walk_at "rd"
  exact k .non H3 s5 (by rw [due_none m5];rfl)
 ·rintro i c v σ H3 H4 hi ex ⟨⟨o1,o2,rfl⟩,s5,m5⟩ s6 ⟨a,rfl,ea⟩
  walk_at "rd"
  refine ⟨a,c,rfl,SqT.of ea,fun p3 zs H5 s7 hp3 e5 r5=>?_⟩
  have ed:=(s5.trans (s6.trans s7)) _ _ hd
  walk_at "rd"
  refine for_feeds (R:=IsC) (H0:=H5) (fun j σ H'=>(∃ o2,σ=[some (.ref d),some (.ref co),some (.ref a),o2])/\Same H5 H'/\∀ y∈(nb c).take j,y∈ms) (feeds_list (SqL.of e5) r5) (fun _ _ _ q=>q.2.1) ⟨⟨_,rfl⟩,Same.refl _,by rw [List.take_zero];exact fun _ h=>nomatch h⟩ ?_ ?_
  ·rintro σ H6 ⟨⟨o2,rfl⟩,s8,m8⟩
   rw [List.take_of_length_le (Nat.le_refl _)] at m8
   refine ⟨⟨_,_,rfl⟩,s5.trans (s6.trans (s7.trans s8)),fun x hx=>?_⟩
   rw [take_snoc ex] at hx
   rcases List.mem_append.mp hx with hx | hx
   ·exact m5 x hx
   ·rw [List.mem_singleton.mp hx]
    exact m8
  ·rintro j y v σ H6 H7 hj exj ⟨⟨o2,rfl⟩,s8,m8⟩ s9 ⟨a2,rfl,ea2⟩
   have s89:=s8.trans s9
   walk_at "rd"
   refine ⟨d,_,rfl,marks_get (.inl (s89 _ _ ed)) ea2,?_⟩
   rw [val_marks]
   by_cases g:y∈ms
   ·rw [decide_eq_true g]
    walk_at "rd"
    refine ⟨⟨_,rfl⟩,s89,fun x hx=>?_⟩
    rw [take_snoc exj] at hx
    rcases List.mem_append.mp hx with hx | hx
    ·exact m8 x hx
    ·rw [List.mem_singleton.mp hx]
     exact g
   ·rw [decide_eq_false g]
    walk_at "rd"
    refine ⟨le2,fun t ht=>?_⟩
    walk_at "rd"
    have sA:=s7.trans (s89.trans (same_new (o:=.tup [.ref a,.ref a2]) ht))
    refine k (.ref t) _ (s5.trans (s6.trans sA)) ?_
    rw [due_some m5 ex m8 exj g]
    exact ⟨t,a,a2,rfl,upd_same,sA _ _ ea,lk_old ht ea2⟩
end
section
variable {P:Program} {w:World} {K:PySem.W.Frag} {mg:Str->Option Value} {base:Heap} {ad:Ad}
theorem hh_same {H H':Hp} {a b:Addr} (s:Same H H'):Same (hid (hid H a) b) (hid (hid H' a) b):=by
 refine same_hid (same_hid ((hid_same.trans hid_same).trans s) ?_) hid_none
 by_cases e:a=b
 ·subst e;exact hid_none
 ·unfold hid;rw [if_neg e,if_pos rfl]
theorem hh_none {H:Hp} {a b:Addr}:hid (hid H a) b a=none:=by
 by_cases e:a=b
 ·subst e;exact hid_none
 ·unfold hid;rw [if_neg e,if_pos rfl]
theorem kd_marks (cs:List C3):KD (cs.map mk1) cs:=by
 unfold KD
 rw [List.map_map]
 rfl
theorem ok__law_pieces (L:All K w mg ad):FnOk P w K mg base CX0 3 ad.f__law_pieces ad.d__law_pieces ["_law_some"] (spPieces K):=by
 refine L._law_pieces.F.okQ sc__law_pieces (fun vs H Q E h=>?_) (fun cdv A outer s H vs Q E hr h=>?_)
 ·obtain ⟨a,ys,ss,rfl,_⟩:=h
  rfl
 obtain ⟨a,ys,ss,rfl,ea,ra,nd,hl,k⟩:=h
 refine ⟨_,(qss_cons (qs_set (i:=1) sc__law_pieces.nd rfl (Or.inl rfl) qe_dnewT)
  (qss_cons (qs_for PassesOwn.never rfl (qi_list (K:=K) rfl (qv 0)) (qg_name (i:=2) sc__law_pieces.nd rfl (Or.inl rfl))
   (qss_one (qs_dput (hu_of hr) (qv 1) (qv 2) qe_bl rfl)))
  (qss_cons (qs_set (i:=3) sc__law_pieces.nd rfl (Or.inl rfl) (qe_lst qa_nil))
  (qss_cons (qs_for PassesOwn.never rfl (qi_list (K:=K) rfl (qv 0)) (qg_name (i:=2) sc__law_pieces.nd rfl (Or.inl rfl))
   (qss_one (qs_if (qt_din (hu_of hr) (qv 2) (qv 1) rfl) (qss_cons (qs_expr (qe_dpopT (hu_of hr) (qv 1) (qv 2) ⟨rfl,rfl,rfl,rfl⟩))
  (qss_cons (qs_set (i:=4) sc__law_pieces.nd rfl (Or.inl rfl) (qe_lst (qa_cons (qv 2) qa_nil)))
  (qss_cons (qs_set (i:=5) sc__law_pieces.nd rfl (Or.inl rfl) qe_int)
  (qss_cons (qs_while PassesOwn.never (qt_cmpR qo_lt (qv 5) (qe_callB (qc_len (K:=K) rfl) rfl L.n_len b_len (qa_cons (qv 4) qa_nil)) (nomark _))
   (qss_cons (qs_for PassesOwn.never rfl (qi_list (K:=K) rfl (qe_call ((ok__law_nears L).mono (by decide)) hr rfl L._law_nears.m L._law_nears.F.kp L._law_nears.b .nil pass0 (qa_cons (qe_ix (qx_list (K:=K) rfl) (qv 4) (qv 5) (fun _ _=>rfl)) qa_nil))) (qg_name (i:=6) sc__law_pieces.nd rfl (Or.inl rfl))
   (qss_one (qs_if (qt_din (hu_of hr) (qv 6) (qv 1) rfl) (qss_cons (qs_expr (qe_dpopT (hu_of hr) (qv 1) (qv 6) ⟨rfl,rfl,rfl,rfl⟩))
  (qss_one (qs_expr (qe_bm (K:=K) rfl PySem.F.plainAttrs_list PySem.F.slot_list_append PySem.F.type_list_append mt_append (qv 4) (qa_cons (qv 6) qa_nil))))) qss_nil)))
  (qss_one (qs_set (i:=5) sc__law_pieces.nd rfl (Or.inl rfl) (qe_op qo_add (qv 5) qe_int)))))
  (qss_one (qs_expr (qe_bm (K:=K) rfl PySem.F.plainAttrs_list PySem.F.slot_list_append PySem.F.type_list_append mt_append (qv 3) (qa_cons (qe_callB (qc_sortC (K:=K) rfl) rfl L.n_sorted b_sorted (qa_cons (qv 4) qa_nil)) qa_nil)))))))) qss_nil)))
  (qss_one (qs_ret (qe_callB (qc_sortLL (K:=K) rfl hr.units) rfl L.n_sorted b_sorted (qa_cons (qv 3) qa_nil)))))))),?_⟩
 walk_at "rd"
 intro d hd
 walk_at "rd"
 refine for_feeds (R:=IsC) (H0:=H) (fun i σ H'=>(∃ o,σ=[some (.ref a),some (.ref d),o,none,none,none,none])/\Same H H'/\Marks H' d ((ss.take i).foldl addC [])) (feeds_list (SqL.of ea) ra) (fun _ _ _ q=>q.2.1) ⟨⟨_,rfl⟩,same_new hd,upd_same⟩ ?_ ?_
 rotate_left
 ·rintro i c v σ H1 H' hi ex ⟨⟨o,rfl⟩,s1,e1⟩ s2 ⟨b,rfl,eb⟩
  walk_at "rd"
  have hl2:=fold_addC_len (ss.take i)
  rw [List.length_take] at hl2
  refine marks_put (s2 _ _ e1) eb (by lia) fun e3=>⟨⟨_,rfl⟩,same_up (s1.trans s2) hd,?_⟩
  rw [take_snoc ex,List.foldl_append]
  exact e3
 rintro σ H1 ⟨⟨o,rfl⟩,s1,e1⟩
 rw [List.take_of_length_le (Nat.le_refl _),addC_nodup nd] at e1
 walk_at "rd"
 refine ⟨le0,fun fo hfo=>?_⟩
 have hfoH:H fo=none:=s1.free hfo
 have nfd:fo≠d:=fun z=>by rw [z,show H1 d=_ from e1] at hfo;cases hfo
 walk_at "rd"
 refine for_feeds (R:=IsC) (H0:=H) (fun i σ H'=>(∃ o1 o3 o4 o5,σ=[some (.ref a),some (.ref d),o1,some (.ref fo),o3,o4,o5])/\Same H H'/\∃ lk ls zs css,H' d=some (.dT lk)/\KD lk ls/\ls.Nodup/\ls.length≤600/\H' fo=some (.lst zs)/\zs.length≤i/\Rs IsCL (hid (hid H' fo) d) zs css/\∀ cs∈css,cs.length≤600)
  (feeds_list (SqL.of ea) ra) (fun _ _ _ q=>q.2.1) ⟨⟨_,_,_,_,rfl⟩,s1.trans (same_new hfo),ss.map mk1,ss,[],[],lk_old hfo e1,kd_marks ss,nd,hl,upd_same,Nat.zero_le _,.nil,fun _ h=>nomatch h⟩ ?_ ?_
 ·rintro σ H2 ⟨⟨o1,o3,o4,o5,rfl⟩,s2,lk,ls,zs,css,ed,hk,ndl,hll,efo,hzl,hr,h6⟩
  walk_at "rd"
  refine ⟨fo,zs,css,rfl,SqL.of efo,rsCL_up (hid_same.trans hid_same) hr,fun p zs2 dss hp hpm hr2=>?_⟩
  walk_at "rd"
  exact k p zs2 dss _ (s2.trans (same_new hp)) (s2.free hp) upd_same hr2 fun cs hc=>h6 cs (hpm.mem_iff.mp hc)
 ·rintro i c v σ H2 H3 hi ex ⟨⟨o1,o3,o4,o5,rfl⟩,s2,lk,ls,zs,css,ed,hk,ndl,hll,efo,hzl,hr,h6⟩ s3 ⟨b,rfl,eb⟩
  have ed3:=s3 _ _ ed
  have efo3:=s3 _ _ efo
  have hr3:=rsCL_up (hh_same (a:=fo) (b:=d) s3) hr
  have s23:=s2.trans s3
  have sHG:Same H (hid (hid H3 fo) d):=same_hid (same_hid s23 hfoH) hd
  walk_at "rd"
  refine ⟨d,_,rfl,dget_c ed3 eb,?_⟩
  rw [kd_some c hk]
  by_cases g:c∈ls
  rotate_left
  ·rw [decide_eq_false g]
   walk_at "rd"
   exact ⟨⟨_,_,_,_,rfl⟩,s23,lk,ls,zs,css,ed3,hk,ndl,hll,efo3,by lia,hr3,h6⟩
  rw [decide_eq_true g]
  have hv:∃ vv,valV lk (keyC c)=some vv:=by
   have:=kd_some c hk
   rw [decide_eq_true g] at this
   exact Option.isSome_iff_exists.mp this
  obtain ⟨vv,hvv⟩:=hv
  have hdl:=drop_len ndl g
  walk_at "rd"
  refine rd_dpopT ?_
  walk_at "rd"
  refine ⟨d,rfl,.inr ⟨lk,.inl ed3⟩,?_⟩
  walk_at "rd"
  refine ⟨lk,keyC c,b,vv,ed3,rfl,by rw [keyC_v];exact eb,hvv,?_⟩
  have eb4:upd H3 d (.dT (dropK lk (keyC c))) b=some (.tup c.v):=lk_kind ed3 (by intro z;cases z) eb
  have efo4:upd H3 d (.dT (dropK lk (keyC c))) fo=some (.lst zs):=lk_ne nfd efo3
  have sG4:Same (hid (hid H3 fo) d) (upd H3 d (.dT (dropK lk (keyC c)))):=same_up (hid_same.trans hid_same) hid_none
  have ed4:upd H3 d (.dT (dropK lk (keyC c))) d=some (.dT (dropK lk (keyC c))):=upd_same
  generalize upd H3 d (.dT (dropK lk (keyC c)))=H4 at eb4 efo4 sG4 ed4 ⊢
  walk_at "rd"
  refine ⟨le1,fun on hon=>?_⟩
  have nod:d≠on:=ne_of_none ed4 hon
  have nof:fo≠on:=ne_of_none efo4 hon
  have hGon:hid (hid H3 fo) d on=none:=sG4.free hon
  walk_at "rd"
  refine rd_while (fun m σ H'=>∃ o lk ls ys cs,∃ n:Nat,σ=[some (.ref a),some (.ref d),some (.ref b),some (.ref fo),some (.ref on),some (.int (n:Int)),o]/\Same (hid (hid H3 fo) d) H'/\H' fo=some (.lst zs)/\H' d=some (.dT lk)/\KD lk ls/\ls.Nodup/\H' on=some (.lst ys)/\Cs H' ys cs/\ls.length+cs.length≤600/\n≤cs.length/\n+m=601) 601
   ⟨_,dropK lk (keyC c),ls.filter fun x=>decide (x≠c),[.ref b],[c],0,rfl,sG4.trans (same_new hon),lk_old hon efo4,lk_old hon ed4,kd_drop hk,ndl.filter _,upd_same,.cons ⟨b,rfl,lk_old hon eb4⟩ .nil,by simp only [List.length_singleton];lia,Nat.zero_le _,rfl⟩ ?_
  rintro m σ H5 ⟨o,lk5,ls5,ys5,cs5,n,rfl,sG5,efo5,ed5,hk5,nd5,eon5,r5,hs5,hn5,hm5⟩
  have hy5:=r5.len
  walk_at "rd"
  by_cases gn:(n:Int) < (ys5.length:Int)
  rotate_left
  ·rw [decide_eq_false gn]
   walk_at "rd"
   refine ⟨.inl ⟨rfl,_,SqL.of efo5⟩,?_⟩
   walk_at "rd"
   refine rd_sortC (SqL.of eon5) r5 fun q zs6 hq hc6=>?_
   walk_at "rd"
   have sq:=same_new (o:=.lst zs6) hq
   have hzi:i < 600:=by
    have:=(List.getElem?_eq_some_iff.mp ex).1
    lia
   refine ⟨fo,zs,_,rfl,rfl,sq _ _ efo5,by rw [sizeLine_eq];lia,?_⟩
   walk_at "rd"
   have nqf:q≠fo:=fun z=>by rw [z,efo5] at hq;cases hq
   have nqd:q≠d:=fun z=>by rw [z,ed5] at hq;cases hq
   have sB:Same (hid (hid H3 fo) d) (upd (upd H5 q (.lst zs6)) fo (.lst (zs ++ [.ref q]))):=same_up (sG5.trans sq) hh_none
   have sBh:Same (hid (hid H3 fo) d) (hid (hid (upd (upd H5 q (.lst zs6)) fo (.lst (zs ++ [.ref q]))) fo) d):=same_hid (same_hid sB hh_none) hid_none
   have eqF:upd (upd H5 q (.lst zs6)) fo (.lst (zs ++ [.ref q])) q=some (.lst zs6):=lk_ne nqf upd_same
   have edF:upd (upd H5 q (.lst zs6)) fo (.lst (zs ++ [.ref q])) d=some (.dT lk5):=lk_ne nfd.symm (sq _ _ ed5)
   have cF:Cs (upd (upd H5 q (.lst zs6)) fo (.lst (zs ++ [.ref q]))) zs6 (srtC cs5):=Rs.lst (sq _ _ efo5) hc6
   refine ⟨⟨_,_,_,_,rfl⟩,sHG.trans sB,lk5,ls5,zs ++ [.ref q],css ++ [srtC cs5],edF,hk5,nd5,by lia,upd_same,by rw [List.length_append,List.length_singleton];lia,?_,fun cs hcs=>?_⟩
   ·refine Rs.app (rsCL_up sBh hr3) (.cons ⟨q,zs6,rfl,hid_at nqd (hid_at nqf eqF),?_⟩ .nil)
    refine cs_hidG (o:=.dT lk5) ?_ (fun _ z=>nomatch z) (cs_hidG upd_same (fun _ z=>nomatch z) cF)
    exact hid_at nfd.symm edF
   ·rcases List.mem_append.mp hcs with hcs | hcs
    ·exact h6 cs hcs
    ·rw [List.mem_singleton.mp hcs,(srtC_perm _).length_eq]
     lia
  rw [decide_eq_true gn]
  walk_at "rd"
  have hnc:n < cs5.length:=by lia
  obtain ⟨vb,evb,b5,rfl,eb5⟩:=r5.get' (List.getElem?_eq_getElem hnc)
  refine ⟨fun σ' H'=>∃ m',m' < m/\(∃ o lk ls ys cs,∃ n:Nat,σ'=[some (.ref a),some (.ref d),some (.ref b),some (.ref fo),some (.ref on),some (.int (n:Int)),o]/\Same (hid (hid H3 fo) d) H'/\H' fo=some (.lst zs)/\H' d=some (.dT lk)/\KD lk ls/\ls.Nodup/\H' on=some (.lst ys)/\Cs H' ys cs/\ls.length+cs.length≤600/\n≤cs.length/\n+m'=601),fun σ' H' z=>z,?_⟩
  walk_at "rd"
  refine rd_ixL (SqL.of eon5) (atI_nat evb) ?_
  walk_at "rd"
  refine ⟨b5,cs5[n],rfl,SqT.of eb5,fun p7 zs7 H7 s7 hp7 e7 r7=>?_⟩
  have ed7:=s7 _ _ ed5
  have eon7:=s7 _ _ eon5
  have efo7:=s7 _ _ efo5
  have npd:p7≠d:=fun z=>by rw [z,ed5] at hp7;cases hp7
  have npo:p7≠on:=fun z=>by rw [z,eon5] at hp7;cases hp7
  have npf:p7≠fo:=fun z=>by rw [z,efo5] at hp7;cases hp7
  walk_at "rd"
  have fG:SqL K (hid (hid H7 d) on) p7 zs7:=SqL.of (hid_at npo (hid_at npd e7))
  have cG:Cs (hid (hid H7 d) on) zs7 (nb cs5[n]):=cs_hidG (o:=.lst ys5) (hid_at nod.symm eon7) (fun _ z=>nomatch z) (cs_hidG ed7 (fun _ z=>nomatch z) r7)
  have sG7:Same (hid (hid H3 fo) d) (hid (hid H7 d) on):=same_hid (same_hid (sG5.trans s7) hid_none) hGon
  have efoG:hid (hid H7 d) on fo=some (.lst zs):=hid_at nof (hid_at nfd efo7)
  refine for_feeds (R:=IsC) (H0:=hid (hid H7 d) on) (fun j σ H'=>(∃ o,σ=[some (.ref a),some (.ref d),some (.ref b),some (.ref fo),some (.ref on),some (.int (n:Int)),o])/\Same (hid (hid H7 d) on) H'/\∃ lk ls ys cs,H' d=some (.dT lk)/\KD lk ls/\ls.Nodup/\H' on=some (.lst ys)/\Cs H' ys cs/\ls.length+cs.length≤600/\n < cs.length)
   (feeds_list fG cG) (fun _ _ _ q=>q.2.1) ⟨⟨_,rfl⟩,hid_same.trans hid_same,lk5,ls5,ys5,cs5,ed7,hk5,nd5,eon7,Rs.up s7 r5,hs5,hnc⟩ ?_ ?_
  ·rintro σ H8 ⟨⟨o8,rfl⟩,s8,lk8,ls8,ys8,cs8,ed8,hk8,nd8,eon8,r8,hs8,hn8⟩
   walk_at "rd"
   refine ⟨m - 1,by lia,o8,lk8,ls8,ys8,cs8,n+1,?_,sG7.trans s8,s8 _ _ efoG,ed8,hk8,nd8,eon8,r8,hs8,by lia,by lia⟩
   rfl
  ·rintro j x v σ H8 H9 hj exj ⟨⟨o8,rfl⟩,s8,lk8,ls8,ys8,cs8,ed8,hk8,nd8,eon8,r8,hs8,hn8⟩ s9 ⟨b9,rfl,eb9⟩
   have ed9:=s9 _ _ ed8
   have eon9:=s9 _ _ eon8
   have r9:=Rs.up s9 r8
   walk_at "rd"
   refine ⟨d,_,rfl,dget_c ed9 eb9,?_⟩
   rw [kd_some x hk8]
   by_cases gx:x∈ls8
   rotate_left
   ·rw [decide_eq_false gx]
    walk_at "rd"
    exact ⟨⟨_,rfl⟩,s8.trans s9,lk8,ls8,ys8,cs8,ed9,hk8,nd8,eon9,r9,hs8,hn8⟩
   rw [decide_eq_true gx]
   obtain ⟨vx,hvx⟩:∃ vv,valV lk8 (keyC x)=some vv:=by
    have:=kd_some x hk8
    rw [decide_eq_true gx] at this
    exact Option.isSome_iff_exists.mp this
   have hdx:=drop_len nd8 gx
   walk_at "rd"
   refine rd_dpopT ?_
   walk_at "rd"
   refine ⟨d,rfl,.inr ⟨lk8,.inl ed9⟩,?_⟩
   walk_at "rd"
   refine ⟨lk8,keyC x,b9,vx,ed9,rfl,by rw [keyC_v];exact eb9,hvx,?_⟩
   have eb10:upd H9 d (.dT (dropK lk8 (keyC x))) b9=some (.tup x.v):=lk_kind ed9 (by intro z;cases z) eb9
   have eon10:upd H9 d (.dT (dropK lk8 (keyC x))) on=some (.lst ys8):=lk_ne nod.symm eon9
   have ed10:upd H9 d (.dT (dropK lk8 (keyC x))) d=some (.dT (dropK lk8 (keyC x))):=upd_same
   have r10:Cs (upd H9 d (.dT (dropK lk8 (keyC x)))) ys8 cs8:=Rs.up (same_up hid_same hid_none) (cs_hidG ed9 (fun _ z=>nomatch z) r9)
   have s10:Same (hid (hid H7 d) on) (upd H9 d (.dT (dropK lk8 (keyC x)))):=same_up (s8.trans s9) hh_none
   generalize upd H9 d (.dT (dropK lk8 (keyC x)))=H10 at eb10 eon10 ed10 r10 s10 ⊢
   have hy8:=r8.len
   walk_at "rd"
   refine ⟨.inl ⟨rfl,_,SqL.of eon10⟩,?_⟩
   walk_at "rd"
   refine ⟨on,_,_,rfl,rfl,eon10,by rw [sizeLine_eq];lia,?_⟩
   walk_at "rd"
   refine ⟨⟨_,rfl⟩,same_up s10 hid_none,dropK lk8 (keyC x),ls8.filter fun y=>decide (y≠x),ys8 ++ [.ref b9],cs8 ++ [x],lk_ne nod ed10,kd_drop hk8,nd8.filter _,upd_same,?_,by rw [List.length_append,List.length_singleton];lia,by rw [List.length_append,List.length_singleton];lia⟩
   exact Rs.lst eon10 (Rs.app r10 (.cons ⟨b9,rfl,eb10⟩ .nil))
end
section
variable {P:Program} {w:World} {K:PySem.W.Frag} {mg:Str->Option Value} {base:Heap} {ad:Ad}
theorem rngS_at {lo:Int} {n i:Nat} {x:Int} (h:((List.range n).map fun i:Nat=>lo+(i:Int))[i]?=some x):x=lo+(i:Int)/\i < n:=by
 have hi:i < n:=by
  have:=(List.getElem?_eq_some_iff.mp h).1
  simpa using this
 rw [List.getElem?_map,List.getElem?_range hi] at h
 exact ⟨(Option.some.inj h).symm,hi⟩
theorem cle_of {c d:C3} (h:c.x < d.x\/(c.x=d.x/\(c.y < d.y\/(c.y=d.y/\c.z < d.z)))):cle c d=true/\c≠d:=by
 obtain ⟨x,y,z⟩:=c
 obtain ⟨x',y',z'⟩:=d
 dsimp only at h
 constructor
 ·have:HT.lexLt [x',y',z'] [x,y,z]=false:=by
   rw [HT.lexLt_cons]
   split
   ·rw [HT.lexLt_cons]
    split
    ·rw [HT.lexLt_cons]
     split
     ·rfl
     ·exact decide_eq_false (by lia)
    ·exact decide_eq_false (by lia)
   ·exact decide_eq_false (by lia)
  unfold cle
  show (!HT.lexLt [x',y',z'] [x,y,z])=true
  rw [this]
  rfl
 ·intro e
  simp only [C3.mk.injEq] at e
  lia
theorem asc_snoc {cs:List C3} {d:C3} (ha:Asc cs) (hn:cs.Nodup) (h:∀ c∈cs,c.x < d.x\/(c.x=d.x/\(c.y < d.y\/(c.y=d.y/\c.z < d.z)))):Asc (cs ++ [d])/\(cs ++ [d]).Nodup:=by
 refine ⟨List.pairwise_append.mpr ⟨ha,List.pairwise_singleton _ _,fun a h1 b h2=>?_⟩,List.pairwise_append.mpr ⟨hn,List.pairwise_singleton _ _,fun a h1 b h2=>?_⟩⟩
 ·rw [List.mem_singleton.mp h2]
  exact (cle_of (h a h1)).1
 ·rw [List.mem_singleton.mp h2]
  exact (cle_of (h a h1)).2
theorem ok__law_shell (L:All K w mg ad):FnOk P w K mg base CX0 1 ad.f__law_shell ad.d__law_shell ["_law_frame_here"] (spShell K):=by
 refine L._law_shell.F.okQ sc__law_shell (fun vs H Q E h=>?_) (fun cdv A outer s H vs Q E hr h=>?_)
 ·obtain ⟨p,sz,lo,rfl,_⟩:=h
  rfl
 obtain ⟨p,sz,lo,rfl,hF,k⟩:=h
 obtain ⟨q1,q2,e0,e1,e2,fok⟩:=id hF
 have f1:=fok .x
 have f2:=fok .y
 have f3:=fok .z
 simp only [Ax.at] at f1 f2 f3
 have e1':H q1=some (.lst [.int sz.x,.int sz.y,.int sz.z]):=e1
 have e2':H q2=some (.lst [.int lo.x,.int lo.y,.int lo.z]):=e2
 have m1:1≤(if (4:Int) < sz.x then 4 else sz.x)/\(if (4:Int) < sz.x then 4 else sz.x)≤4/\(if (4:Int) < sz.x then 4 else sz.x)≤sz.x:=by split <;> lia
 have m2:1≤(if (4:Int) < sz.y then 4 else sz.y)/\(if (4:Int) < sz.y then 4 else sz.y)≤4/\(if (4:Int) < sz.y then 4 else sz.y)≤sz.y:=by split <;> lia
 have m3:1≤(if (4:Int) < sz.z then 4 else sz.z)/\(if (4:Int) < sz.z then 4 else sz.z)≤4/\(if (4:Int) < sz.z then 4 else sz.z)≤sz.z:=by split <;> lia
 refine ⟨_,(qss_cons (qs_asg (qv 0) (qg_lst (K:=K) (n:=2) rfl rfl (qgs_cons (qg_name (i:=1) sc__law_shell.nd rfl (Or.inl rfl)) (qgs_cons (qg_name (i:=2) sc__law_shell.nd rfl (Or.inl rfl)) qgs_nil))))
  (qss_cons (qs_set (i:=3) sc__law_shell.nd rfl (Or.inl rfl) (qe_lst qa_nil))
  (qss_cons (qs_for PassesOwn.never rfl (qi_range2 rfl L.n_range (qa_cons (qe_ix (qx_list (K:=K) rfl) (qv 2) qe_int (fun _ _=>rfl)) (qa_cons (qe_op qo_add (qe_ix (qx_list (K:=K) rfl) (qv 2) qe_int (fun _ _=>rfl)) (qe_callB (qc_min2 rfl) rfl L.n_min b_min (qa_cons (qe_ix (qx_list (K:=K) rfl) (qv 1) qe_int (fun _ _=>rfl)) (qa_cons qe_int qa_nil)))) qa_nil))) (qg_name (i:=4) sc__law_shell.nd rfl (Or.inl rfl))
   (qss_one (qs_for PassesOwn.never rfl (qi_range2 rfl L.n_range (qa_cons (qe_ix (qx_list (K:=K) rfl) (qv 2) qe_int (fun _ _=>rfl)) (qa_cons (qe_op qo_add (qe_ix (qx_list (K:=K) rfl) (qv 2) qe_int (fun _ _=>rfl)) (qe_callB (qc_min2 rfl) rfl L.n_min b_min (qa_cons (qe_ix (qx_list (K:=K) rfl) (qv 1) qe_int (fun _ _=>rfl)) (qa_cons qe_int qa_nil)))) qa_nil))) (qg_name (i:=5) sc__law_shell.nd rfl (Or.inl rfl))
   (qss_one (qs_for PassesOwn.never rfl (qi_range2 rfl L.n_range (qa_cons (qe_ix (qx_list (K:=K) rfl) (qv 2) qe_int (fun _ _=>rfl)) (qa_cons (qe_op qo_add (qe_ix (qx_list (K:=K) rfl) (qv 2) qe_int (fun _ _=>rfl)) (qe_callB (qc_min2 rfl) rfl L.n_min b_min (qa_cons (qe_ix (qx_list (K:=K) rfl) (qv 1) qe_int (fun _ _=>rfl)) (qa_cons qe_int qa_nil)))) qa_nil))) (qg_name (i:=6) sc__law_shell.nd rfl (Or.inl rfl))
   (qss_one (qs_expr (qe_bm (K:=K) rfl PySem.F.plainAttrs_list PySem.F.slot_list_append PySem.F.type_list_append mt_append (qv 3) (qa_cons (qe_tup (qa_cons (qv 4) (qa_cons (qv 5) (qa_cons (qv 6) qa_nil)))) qa_nil)))))))))
  (qss_one (qs_ret (qv 3)))))),?_⟩
 walk_at "rd"
 refine ⟨le0,fun l hl=>?_⟩
 walk_at "rd"
 generalize (if (4:Int) < sz.x then 4 else sz.x)=w1 at m1 ⊢
 refine for_feeds (R:=IsI) (H0:=H) (fun i σ H'=>(∃ o1 o2 o3,σ=[some (.ref p),some (.ref q1),some (.ref q2),some (.ref l),o1,o2,o3])/\Same H H'/\∃ zs cs,H' l=some (.lst zs)/\Cs H' zs cs/\Asc cs/\cs.Nodup/\(∀ c∈cs,InF sz lo c)/\cs.length≤i * 16/\∀ c∈cs,c.x < lo.x+(i:Int)) feeds_range (fun _ _ _ q=>q.2.1)
  ⟨⟨_,_,_,rfl⟩,same_new hl,[],[],upd_same,.nil,List.Pairwise.nil,List.nodup_nil,(fun _ h=>nomatch h),Nat.zero_le _,fun _ h=>nomatch h⟩ ?_ ?_
 ·rintro σ H1 ⟨⟨o1,o2,o3,rfl⟩,s1,zs,cs,el,rl,ha,hn,hin,hlen,_⟩
  rw [List.length_map,List.length_range] at hlen
  walk_at "rd"
  exact k l zs cs H1 s1 hl el rl ha hn hin (by lia)
 ·rintro i x v σ H1 H2 hi ex ⟨⟨o1,o2,o3,rfl⟩,s1,zs,cs,el,rl,ha,hn,hin,hlen,hb⟩ s2 rfl
  obtain ⟨rfl,hiw⟩:=rngS_at ex
  have s12:=s1.trans s2
  walk_at "rd"
  generalize (if (4:Int) < sz.y then 4 else sz.y)=w2 at m2 ⊢
  refine for_feeds (R:=IsI) (H0:=H) (fun j σ H'=>(∃ o2 o3,σ=[some (.ref p),some (.ref q1),some (.ref q2),some (.ref l),some (.int (lo.x+(i:Int))),o2,o3])/\Same H H'/\∃ zs cs,H' l=some (.lst zs)/\Cs H' zs cs/\Asc cs/\cs.Nodup/\(∀ c∈cs,InF sz lo c)/\cs.length≤i * 16+j * 4/\∀ c∈cs,c.x < lo.x+(i:Int)\/(c.x=lo.x+(i:Int)/\c.y < lo.y+(j:Int))) feeds_range (fun _ _ _ q=>q.2.1)
   ⟨⟨_,_,rfl⟩,s12,zs,cs,s2 _ _ el,Rs.up s2 rl,ha,hn,hin,by omega,fun c hc=>.inl (hb c hc)⟩ ?_ ?_
  ·rintro σ H3 ⟨⟨o2,o3,rfl⟩,s3,zs3,cs3,el3,rl3,ha3,hn3,hin3,hlen3,hb3⟩
   rw [List.length_map,List.length_range] at hlen3
   exact ⟨⟨_,_,_,rfl⟩,s3,zs3,cs3,el3,rl3,ha3,hn3,hin3,by lia,fun c hc=>by have:=hb3 c hc;lia⟩
  ·rintro j y v σ H3 H4 hj exj ⟨⟨o2,o3,rfl⟩,s3,zs3,cs3,el3,rl3,ha3,hn3,hin3,hlen3,hb3⟩ s4 rfl
   obtain ⟨rfl,hjw⟩:=rngS_at exj
   have s34:=s3.trans s4
   walk_at "rd"
   generalize (if (4:Int) < sz.z then 4 else sz.z)=w3 at m3 ⊢
   refine for_feeds (R:=IsI) (H0:=H) (fun e σ H'=>(∃ o3,σ=[some (.ref p),some (.ref q1),some (.ref q2),some (.ref l),some (.int (lo.x+(i:Int))),some (.int (lo.y+(j:Int))),o3])/\Same H H'/\∃ zs cs,H' l=some (.lst zs)/\Cs H' zs cs/\Asc cs/\cs.Nodup/\(∀ c∈cs,InF sz lo c)/\cs.length≤i * 16+j * 4+e/\∀ c∈cs,c.x < lo.x+(i:Int)\/(c.x=lo.x+(i:Int)/\(c.y < lo.y+(j:Int)\/(c.y=lo.y+(j:Int)/\c.z < lo.z+(e:Int))))) feeds_range (fun _ _ _ q=>q.2.1)
    ⟨⟨_,rfl⟩,s34,zs3,cs3,s4 _ _ el3,Rs.up s4 rl3,ha3,hn3,hin3,by omega,fun c hc=>by have:=hb3 c hc;lia⟩ ?_ ?_
   ·rintro σ H5 ⟨⟨o3,rfl⟩,s5,zs5,cs5,el5,rl5,ha5,hn5,hin5,hlen5,hb5⟩
    rw [List.length_map,List.length_range] at hlen5
    exact ⟨⟨_,_,rfl⟩,s5,zs5,cs5,el5,rl5,ha5,hn5,hin5,by lia,fun c hc=>by have:=hb5 c hc;lia⟩
   ·rintro e z v σ H5 H6 he exe ⟨⟨o3,rfl⟩,s5,zs5,cs5,el5,rl5,ha5,hn5,hin5,hlen5,hb5⟩ s6 rfl
    obtain ⟨rfl,hew⟩:=rngS_at exe
    have el6:=s6 _ _ el5
    have hy:=rl5.len
    walk_at "rd"
    refine ⟨.inl ⟨rfl,_,SqL.of el6⟩,?_⟩
    walk_at "rd"
    refine ⟨le3,fun t ht=>?_⟩
    walk_at "rd"
    have el7:=lk_old (o:=.tup [.int (lo.x+(i:Int)),.int (lo.y+(j:Int)),.int (lo.z+(e:Int))]) ht el6
    refine ⟨l,_,_,rfl,rfl,el7,by rw [sizeLine_eq];lia,?_⟩
    walk_at "rd"
    obtain ⟨ha6,hn6⟩:=asc_snoc (d:=⟨lo.x+(i:Int),lo.y+(j:Int),lo.z+(e:Int)⟩) ha5 hn5 hb5
    refine ⟨⟨_,rfl⟩,same_up ((s5.trans s6).trans (same_new ht)) hl,_,cs5 ++ [⟨lo.x+(i:Int),lo.y+(j:Int),lo.z+(e:Int)⟩],upd_same,Rs.lst el7 (Rs.app (Rs.up (s6.trans (same_new ht)) rl5) (.cons ⟨t,rfl,upd_same⟩ .nil)),ha6,hn6,fun c hc=>?_,by rw [List.length_append,List.length_singleton];lia,fun c hc=>?_⟩
    ·rcases List.mem_append.mp hc with hc | hc
     ·exact hin5 c hc
     ·rw [List.mem_singleton.mp hc]
      intro bx
      cases bx <;> simp only [Ax.at] <;> lia
    ·rcases List.mem_append.mp hc with hc | hc
     ·have:=hb5 c hc
      lia
     ·rw [List.mem_singleton.mp hc]
      dsimp only
      lia
end
section
variable {P:Program} {w:World} {K:PySem.W.Frag} {mg:Str->Option Value} {base:Heap} {ad:Ad}
theorem cut_50 (ns:List Int):(cutX ns (some 3) (some 53)).length≤50:=by
 unfold cutX
 rw [List.length_take]
 have h1:HT.sIx ns.length ns.length (some 53)≤53:=by simp [HT.sIx];lia
 have h2:HT.sIx ns.length 0 (some 3)=min 3 ns.length:=by simp [HT.sIx]
 have h3:HT.sIx ns.length ns.length (some 53)≤ns.length:=by simp [HT.sIx];lia
 lia
theorem cut_le {α:Type} (xs:List α) (lo hi:Option Int):(cutX xs lo hi).length≤xs.length:=(cut_sub' xs lo hi).length_le
noncomputable def IsAC:Hp->V->Unit->Prop:=fun H v _=>∃ a c,v=.ref a/\H a=some (.tup (C3.v c))
noncomputable instance:Rep IsAC:=⟨fun s ⟨a,c,e,q⟩=>⟨a,c,e,s _ _ q⟩,fun h' ⟨a,c,e,q⟩=>⟨a,c,e,lk_kind h' (by intro z;cases z) q⟩⟩
theorem ac_cs {H:Hp}:∀ {zs:List V} {us:List Unit},Rs IsAC H zs us->∃ gs,Cs H zs gs
 | _,_,.nil=>⟨[],.nil⟩
 | _,_,.cons ⟨a,c,e,q⟩ t=>let ⟨gs,r⟩:=ac_cs t;⟨c :: gs,.cons ⟨a,e,q⟩ r⟩
theorem ok__law_bodies (L:All K w mg ad):FnOk P w K mg base CX0 4 ad.f__law_bodies ad.d__law_bodies ["_law_script","_law_frame_here"] (spBodies K):=by
 refine L._law_bodies.F.okQ sc__law_bodies (fun vs H Q E h=>?_) (fun cdv A outer s H vs Q E hr h=>?_)
 ·obtain ⟨x,p,ns,sz,lo,rfl,_⟩:=h
  rfl
 obtain ⟨x,p,ns,sz,lo,rfl,hS,hl,hF,k⟩:=h
 refine ⟨_,(qss_cons (qs_set (i:=2) sc__law_bodies.nd rfl (Or.inl rfl) (qe_call ((ok__law_body L).mono (by decide)) hr rfl L._law_body.m L._law_body.F.kp L._law_body.b .nil pass0 (qa_cons (qv 0) (qa_cons (qv 1) (qa_cons (qe_slL (K:=K) rfl (qv 0) (qo_some qe_int) (qo_some qe_int)) qa_nil)))))
  (qss_cons (qs_set (i:=3) sc__law_bodies.nd rfl (Or.inl rfl) (qe_call ((ok__law_shell L).mono (by decide)) hr rfl L._law_shell.m L._law_shell.F.kp L._law_shell.b .nil pass0 (qa_cons (qv 1) qa_nil)))
  (qss_cons (qs_set (i:=4) sc__law_bodies.nd rfl (Or.inr rfl) (qe_comp (N:=["_law_cell","_law_frame_here"]) ["_law_cell"] [1] rfl rfl rfl rfl (qi_list (K:=K) rfl (qe_slL (K:=K) rfl (qv 0) (qo_some qe_int) (qo_some qe_int))) (fun _ _ _ _=>(qg_name (i:=0) (by show (["_law_cell","_law_frame_here"]:List Str).Nodup;decide +kernel) rfl (Or.inl rfl))) (fun _ _ _ _=>qf_nil) (fun _ _ _ _=>(qe_call ((ok__law_spot L).mono (by decide)) hr rfl L._law_spot.m L._law_spot.F.kp L._law_spot.b .nil pass0 (qa_cons (qv 1) (qa_cons (qv 0) qa_nil))))))
  (qss_one (qs_ret (qe_lst (qa_cons (qv 2) (qa_cons (qe_comp (N:=["_law_spot_here","_law_gone"]) ["_law_spot_here"] [4] rfl rfl rfl rfl (qi_list (K:=K) rfl (qv 3)) (fun _ _ _ _=>(qg_name (i:=0) (by show (["_law_spot_here","_law_gone"]:List Str).Nodup;decide +kernel) rfl (Or.inl rfl))) (fun _ _ _ _=>(qf_one (qt_cmpR (qo_notInC (K:=K) rfl hr.units) (qv 0) (qv 1) rfl))) (fun _ _ _ _=>(qv 0))) qa_nil)))))))),?_⟩
 walk_at "rd"
 intro l1 hl1
 rw [cut_ints]
 have s0:=same_new (o:=.lst ((cutX ns (some 3) (some 53)).map V.int)) hl1
 have hc50:=cut_50 ns
 walk_at "rd"
 refine ⟨x,p,l1,sz,lo,_,rfl,FR.up s0 hF,SqL.of upd_same,by lia,fun b yb cb H1 s1 hb eb rb ab nb' ib lb=>?_⟩
 have s01:=s0.trans s1
 walk_at "rd"
 refine ⟨p,sz,lo,rfl,FR.up s01 hF,fun q zq cq H2 s2 hq eq rq aq nq iq lq=>?_⟩
 have s02:=s01.trans s2
 have hS2:=s02.seq hS
 walk_at "rd"
 intro l2 hl2
 rw [cut_ints]
 have s3:=same_new (o:=.lst ((cutX ns (some 3) (some 9)).map V.int)) hl2
 have hc9:=cut_le ns (some 3) (some 9)
 walk_at "rd"
 intro acc hacc
 refine comp_map (S:=IsAC) (fun _:Int=>()) 1 [some (.ref p)] (feeds_list (SqL.of upd_same) (Rs.ints _)) (by lia) hacc ?_ ?_
 ·rintro os v n H4 R1 ho s4 _ rfl kk
  obtain ⟨o,rfl⟩:=List.length_eq_one_iff.mp ho
  walk_at "rd"
  refine ⟨p,n,sz,lo,rfl,FR.up (s02.trans (s3.trans s4)) hF,fun t c H5 s5 e5 _=>?_⟩
  exact kk [_] _ _ rfl s5 ⟨t,c,rfl,e5⟩
 intro zg H4 s4 e4 r4
 obtain ⟨gs,rg⟩:=ac_cs r4
 have s24:=s3.trans s4
 have eq4:=s24 _ _ eq
 have rq4:=Rs.up s24 rq
 walk_at "rd"
 intro acc2 hacc2
 refine comp_fm (S:=IsC) (fun c:C3=>!decide (c∈gs)) (fun c:C3=>c) 1 [some (.ref acc)] (feeds_list (SqL.of eq4) rq4) (by lia) hacc2 ?_ ?_
 ·rintro os v c H5 R1 R0 ho s5 _ ⟨bc,rfl,ebc⟩ k1 k0
  obtain ⟨o,rfl⟩:=List.length_eq_one_iff.mp ho
  walk_at "rd"
  refine rd_notInC (SqT.of ebc) (SqL.of (s5 _ _ e4)) (Rs.up s5 rg) ?_
  walk_at "rd"
  by_cases g:c∈gs
  ·rw [decide_eq_true g]
   rw [if_neg (by decide)]
   exact k0 [_] _ rfl (Same.refl _) (by rw [decide_eq_true g];rfl)
  ·rw [decide_eq_false g]
   rw [if_pos (by decide)]
   walk_at "rd"
   exact k1 [_] _ _ rfl (Same.refl _) (by rw [decide_eq_false g];rfl) ⟨bc,rfl,ebc⟩
 intro zf H5 s5 e5 r5
 rw [List.map_id'] at r5
 walk_at "rd"
 refine ⟨le2,fun r hr2=>?_⟩
 walk_at "rd"
 have sr:=same_new (o:=.lst [.ref b,.ref acc2]) hr2
 have sb:=s2.trans (s24.trans (s5.trans sr))
 have sub:((cq.filter fun c:C3=>!decide (c∈gs))).Sublist cq:=List.filter_sublist
 refine k r _ _ (s02.trans (s24.trans (s5.trans sr))) ((s02.trans (s24.trans s5)).free hr2) upd_same (.cons ⟨b,yb,cb,rfl,sb _ _ eb,Rs.up sb rb,ab,nb',ib,by lia⟩ (.cons ⟨acc2,zf,_,rfl,sr _ _ e5,Rs.up sr r5,List.Pairwise.sublist sub aq,sub.nodup nq,fun c hc=>iq c (sub.subset hc),?_⟩ .nil))
 have:=sub.length_le
 lia
end
section
variable {P:Program} {w:World} {K:PySem.W.Frag} {mg:Str->Option Value} {base:Heap} {ad:Ad}
theorem due_hv {H:Hp} {v:V} {o:Option (C3×C3)} (h:IsDue H v o):HV H v o:=by
 cases o with
 | none=>exact h
 | some x=>exact h
theorem due_up {H H':Hp} {v:V} {o:Option (C3×C3)} (s:Same H H') (h:IsDue H v o):IsDue H' v o:=by
 cases o with
 | none=>exact h
 | some x =>
  obtain ⟨t,a,b,e,q1,q2,q3⟩:=h
  exact ⟨t,a,b,e,s _ _ q1,s _ _ q2,s _ _ q3⟩
theorem cutL_rs {α:Type} {R:Hp->V->α->Prop} {H:Hp} {ys:List V} {xs:List α} (lo hi:Option Int) (h:Rs R H ys xs):Rs R H (cutV ys lo hi) (cutX xs lo hi):=by
 have e:=h.len
 unfold cutV cutX
 rw [e]
 exact Rs.take _ (Rs.drop _ h)
theorem ok__law_asked (L:All K w mg ad):FnOk P w K mg base CX0 8 ad.f__law_asked ad.d__law_asked ["_law_body_here","_law_at"] (spAskedC K):=by
 refine L._law_asked.F.okQ sc__law_asked (fun vs H Q E h=>?_) (fun cdv A outer s H vs Q E hr h=>?_)
 ·obtain ⟨a,ax,cs,rfl,_⟩:=h
  rfl
 obtain ⟨a,ax,cs,rfl,hB,hF,k⟩:=h
 obtain ⟨ya,ea,ra,asc,nd,lna,hw⟩:=id hB
 obtain ⟨cx,ecx,eca⟩:=ax_str ax
 refine ⟨_,(qss_cons (qs_set (i:=2) sc__law_asked.nd rfl (Or.inl rfl) (qe_call ((ok__law_between L).mono (by decide)) hr rfl L._law_between.m L._law_between.F.kp L._law_between.b .nil pass0 (qa_cons (qv 0) (qa_cons (qv 1) qa_nil))))
  (qss_cons (qs_if (qt_cmpR qo_gt (qe_callB (qc_len (K:=K) rfl) rfl L.n_len b_len (qa_cons (qv 2) qa_nil)) qe_int (nomark _)) (qss_one (qs_ret qe_bl)) qss_nil)
  (qss_cons (qs_set (i:=3) sc__law_asked.nd rfl (Or.inl rfl) qe_dnewT)
  (qss_cons (qs_for PassesOwn.never rfl (qi_list (K:=K) rfl (qe_op qo_cat (qv 0) (qv 2))) (qg_name (i:=4) sc__law_asked.nd rfl (Or.inl rfl))
   (qss_one (qs_dput (hu_of hr) (qv 3) (qv 4) qe_bl rfl)))
  (qss_cons (qs_for PassesOwn.never rfl (qi_list (K:=K) rfl (qe_slL (K:=K) rfl (qe_call ((ok__law_pieces L).mono (by decide)) hr rfl L._law_pieces.m L._law_pieces.F.kp L._law_pieces.b .nil pass0 (qa_cons (qv 2) qa_nil)) qo_none (qo_some qe_int))) (qg_name (i:=5) sc__law_asked.nd rfl (Or.inl rfl))
   (qss_cons (qs_set (i:=6) sc__law_asked.nd rfl (Or.inl rfl) (qe_lst (qa_cons (qe_callTy (qc_list (K:=K) rfl) rfl L.n_list b_list (qa_cons (qv 0) qa_nil)) (qa_cons (qe_callTy (qc_list (K:=K) rfl) rfl L.n_list b_list (qa_cons (qv 5) qa_nil)) qa_nil))))
  (qss_cons (qs_set (i:=7) sc__law_asked.nd rfl (Or.inl rfl) (qe_call ((ok_hold L).mono (by decide)) hr rfl L.hold.m L.hold.F.kp L.hold.b .nil pass0 (qa_cons (qe_ix (qx_list (K:=K) rfl) (qv 6) qe_int (fun _ _=>rfl)) (qa_cons (qe_ix qx_str qe_str (qv 1) (fun _ _=>rfl)) (qa_cons (qe_ix (qx_list (K:=K) rfl) (qv 6) qe_int (fun _ _=>rfl)) qa_nil)))))
  (qss_cons (qs_if (QW.t (qw_or (qt_cmpR (qo_neD (K:=K) rfl hr.units) (qv 6) (qe_lst (qa_cons (qv 0) (qa_cons (qv 5) qa_nil))) (nomark _)) (qw_or1 (qt_cmpR (qo_neD (K:=K) rfl hr.units) (qv 7) (qe_call ((ok__law_due L).mono (by decide)) hr rfl L._law_due.m L._law_due.F.kp L._law_due.b .nil pass0 (qa_cons (qv 3) (qa_cons (qv 5) qa_nil))) (nomark _))))) (qss_one (qs_ret qe_bl)) qss_nil)
  (qss_cons (qs_if (QW.t (qw_and (qt_cmpR qo_notN (qv 7) qe_non (nomark _)) (qw_and1 (QW.t (qw_or (qt_not (qt_val (qe_callB (qc_isI (K:=K) rfl) rfl L.n_isinstance b_isinstance (qa_cons (qv 7) (qa_cons (qe_bltn (v:=.ty "tuple") rfl L.n_tuple b_tuple rfl) qa_nil))))) (qw_or1 (qt_cmpR qo_ne (qe_callB (qc_len (K:=K) rfl) rfl L.n_len b_len (qa_cons (qv 7) qa_nil)) qe_int (nomark _)))))))) (qss_one (qs_ret qe_bl)) qss_nil)
  (qss_one (qs_if (QW.t (qw_and (qt_cmpR qo_notN (qv 7) qe_non (nomark _)) (qw_and1 (QW.t (qw_or (qt_not (qt_val (qe_call ((ok__law_is_spot L).mono (by decide)) hr rfl L._law_is_spot.m L._law_is_spot.F.kp L._law_is_spot.b .nil pass0 (qa_cons (qe_ix (qx_tup (K:=K) rfl) (qv 7) qe_int (fun _ _=>rfl)) qa_nil)))) (qw_or1 (qt_not (qt_val (qe_call ((ok__law_is_spot L).mono (by decide)) hr rfl L._law_is_spot.m L._law_is_spot.F.kp L._law_is_spot.b .nil pass0 (qa_cons (qe_ix (qx_tup (K:=K) rfl) (qv 7) qe_int (fun _ _=>rfl)) qa_nil)))))))))) (qss_one (qs_ret qe_bl)) qss_nil)))))))
  (qss_one (qs_ret qe_bl))))))),?_⟩
 walk_at "rd"
 refine ⟨a,ax,cs,rfl,hB,fun ds p zs H1 hG s1 hp e1 r1=>?_⟩
 have hzd:=r1.len
 have hya:=ra.len
 walk_at "rd"
 by_cases g:(600:Int) < (zs.length:Int)
 ·rw [decide_eq_true g]
  walk_at "rd"
  exact k H1 s1
 rw [decide_eq_false g]
 walk_at "rd"
 intro d hd
 have sd:=same_new (o:=.dT []) hd
 walk_at "rd"
 refine rd_catL (sd _ _ (s1 _ _ ea)) (sd _ _ e1) (by rw [sizeLine_eq];lia) fun p2 hp2=>?_
 have npd:p2≠d:=fun z=>by rw [z,upd_same] at hp2;cases hp2
 have s2:=sd.trans (same_new (o:=.lst (ya ++ zs)) hp2)
 have e2:upd (upd H1 d (.dT [])) p2 (.lst (ya ++ zs)) p2=some (.lst (ya ++ zs)):=upd_same
 have ed2:upd (upd H1 d (.dT [])) p2 (.lst (ya ++ zs)) d=some (.dT []):=lk_old hp2 upd_same
 have r2:Cs (upd (upd H1 d (.dT [])) p2 (.lst (ya ++ zs))) (ya ++ zs) (cs ++ ds):=Rs.app (Rs.up (s1.trans s2) ra) (Rs.up s2 r1)
 generalize upd (upd H1 d (.dT [])) p2 (.lst (ya ++ zs))=H2 at s2 e2 ed2 r2 ⊢
 have sH1G:Same H1 (hid H2 d):=same_hid s2 hd
 have fG:SqL K (hid H2 d) p2 (ya ++ zs):=SqL.of (hid_at npd e2)
 have cG:Cs (hid H2 d) (ya ++ zs) (cs ++ ds):=cs_hidG ed2 (fun _ z=>nomatch z) r2
 walk_at "rd"
 refine for_feeds (R:=IsC) (H0:=hid H2 d) (fun i σ H'=>(∃ o,σ=[some (.ref a),some (.int ax.n),some (.ref p),some (.ref d),o,none,none,none])/\Same (hid H2 d) H'/\Marks H' d (((cs ++ ds).take i).foldl addC [])) (feeds_list fG cG) (fun _ _ _ q=>q.2.1) ⟨⟨_,rfl⟩,hid_same,ed2⟩ ?_ ?_
 rotate_left
 ·rintro i c v σ H3 H4 hi ex ⟨⟨o,rfl⟩,s3,e3⟩ s4 ⟨b,rfl,eb⟩
  walk_at "rd"
  have hl2:=fold_addC_len ((cs ++ ds).take i)
  rw [List.length_take,List.length_append] at hl2
  refine marks_put (s4 _ _ e3) eb (by lia) fun e5=>⟨⟨_,rfl⟩,same_up (s3.trans s4) hid_none,?_⟩
  rw [take_snoc ex,List.foldl_append]
  exact e5
 rintro σ H3 ⟨⟨o,rfl⟩,s3,e3⟩
 rw [List.take_of_length_le (Nat.le_refl _)] at e3
 have mem:∀ x,x∈(cs ++ ds).foldl addC []↔x∈cs ++ ds:=fun x=>by rw [fold_mem];simp
 have s13:=sH1G.trans s3
 have ep3:=s13 _ _ e1
 have rp3:=Rs.up s13 r1
 walk_at "rd"
 refine ⟨p,zs,ds,rfl,ep3,rp3,hG.nd,by lia,fun q zq css H4 s4 hq eq rq h6=>?_⟩
 have hzq:=rq.len
 walk_at "rd"
 intro l3 hl3
 have s5:=same_new (o:=.lst (cutV zq none (some 2))) hl3
 have e5:upd H4 l3 (.lst (cutV zq none (some 2))) l3=some (.lst (cutV zq none (some 2))):=upd_same
 have r5:=cutL_rs none (some 2) (rsCL_up s5 rq)
 have h65:∀ c∈cutX css none (some 2),c.length≤600:=fun c hc=>h6 c ((cut_sub' css none (some 2)).subset hc)
 generalize upd H4 l3 (.lst (cutV zq none (some 2)))=H5 at s5 e5 r5 ⊢
 have s35:=s4.trans s5
 have ed5:=s35 _ _ e3
 have s05:=s1.trans (s13.trans s35)
 walk_at "rd"
 refine for_feeds (R:=IsCL) (H0:=H5) (fun i σ H'=>(∃ o1 o2 o3 o4,σ=[some (.ref a),some (.int ax.n),some (.ref p),some (.ref d),o1,o2,o3,o4])/\Same H5 H') (feeds_listG (R:=IsCL) (fun s h=>IsCL.up s h) (SqL.of e5) r5) (fun _ _ _ q=>q.2) ⟨⟨_,_,_,_,rfl⟩,Same.refl _⟩ ?_ ?_
 ·rintro σ H6 ⟨⟨o1,o2,o3,o4,rfl⟩,s6⟩
  walk_at "rd"
  exact k H6 (s05.trans s6)
 ·rintro i core v σ H6 H7 hi ex ⟨⟨o1,o2,o3,o4,rfl⟩,s6⟩ s7 ⟨pc,yc,rfl,ec,rc⟩
  have hcl:=h65 core (List.mem_of_getElem? ex)
  have s57:=s6.trans s7
  have s07:=s05.trans s57
  have ea7:=s07 _ _ ea
  walk_at "rd"
  intro b1 hb1
  have t1:=same_new (o:=.lst ya) hb1
  have ec8:=t1 _ _ ec
  walk_at "rd"
  intro b2 hb2
  have t2:=same_new (o:=.lst yc) hb2
  walk_at "rd"
  refine ⟨le2,fun hn hhn=>?_⟩
  have t3:=same_new (o:=.lst [.ref b1,.ref b2]) hhn
  have eb1:upd (upd (upd H7 b1 (.lst ya)) b2 (.lst yc)) hn (.lst [.ref b1,.ref b2]) b1=some (.lst ya):=(t2.trans t3) _ _ upd_same
  have eb2:upd (upd (upd H7 b1 (.lst ya)) b2 (.lst yc)) hn (.lst [.ref b1,.ref b2]) b2=some (.lst yc):=t3 _ _ upd_same
  have ehn:upd (upd (upd H7 b1 (.lst ya)) b2 (.lst yc)) hn (.lst [.ref b1,.ref b2]) hn=some (.lst [.ref b1,.ref b2]):=upd_same
  have t123:=t1.trans (t2.trans t3)
  generalize upd (upd (upd H7 b1 (.lst ya)) b2 (.lst yc)) hn (.lst [.ref b1,.ref b2])=H8 at eb1 eb2 ehn t123 ⊢
  have s08:=s07.trans t123
  have ra8:=Rs.up s08 ra
  have rc8:=Rs.up t123 rc
  walk_at "rd"
  refine rd_str (by decide) ecx ?_
  rw [eca]
  walk_at "rd"
  refine ⟨b1,b2,ax,cs,ds,core,yc,rfl,⟨ya,eb1,ra8,asc,nd,lna,hw⟩,hF,hG,by lia,eb2,rc8,by lia,fun v H9 s9 hdue=>?_⟩
  have ea9:=(s08.trans s9) _ _ ea
  have ec9:=(t123.trans s9) _ _ ec
  have eb19:=s9 _ _ eb1
  have eb29:=s9 _ _ eb2
  have ehn9:=s9 _ _ ehn
  have ra9:=Rs.up s9 ra8
  have rc9:=Rs.up s9 rc8
  walk_at "rd"
  refine ⟨le2,fun hm hhm=>?_⟩
  have t4:=same_new (o:=.lst [.ref a,.ref pc]) hhm
  have datL:∀ {x y:Addr},upd H9 hm (.lst [.ref a,.ref pc]) x=some (.lst ya)->upd H9 hm (.lst [.ref a,.ref pc]) y=some (.lst yc)->Dats K (upd H9 hm (.lst [.ref a,.ref pc])) [.ref x,.ref y] [.list (cs.map encC),.list (core.map encC)]:=fun hx hy=>.cons (dat_cs hx (Rs.up t4 ra9)) (.cons (dat_cs hy (Rs.up t4 rc9)) .nil)
  refine rd_neD (.lst (SqL.of (t4 _ _ ehn9)) (datL (t4 _ _ eb19) (t4 _ _ eb29))) (.lst (SqL.of upd_same) (datL (t4 _ _ ea9) (t4 _ _ ec9))) (shp_two cs core) ?_
  walk_at "rd"
  refine ⟨d,pc,_,core,yc,rfl,(s57.trans (t123.trans (s9.trans t4))) _ _ ed5,t4 _ _ ec9,Rs.up t4 rc9,by lia,fun v2 H10 s10 hdue2=>?_⟩
  rw [due_congr mem] at hdue2
  have sEnd:=s57.trans (t123.trans (s9.trans (t4.trans s10)))
  have hdue10:=due_up (t4.trans s10) hdue
  refine rd_neD (dat_hv (due_hv hdue10)) (dat_hv (due_hv hdue2)) (shp_hv _).ok ?_
  walk_at "rd"
  cases ho:dueF (cs ++ ds) core with
  | none =>
   rw [ho] at hdue10
   obtain rfl:v=.non:=hdue10
   walk_at "rd"
   exact ⟨⟨_,_,_,_,rfl⟩,sEnd⟩
  | some x =>
   obtain ⟨c1,c2⟩:=x
   rw [ho] at hdue10
   obtain ⟨t,a1,a2,rfl,et,e11,e12⟩:=hdue10
   walk_at "rd"
   rw [show decide (([V.ref a1,V.ref a2].length:Int)=2)=true from rfl]
   walk_at "rd"
   refine ⟨a1,c1,rfl,e11,fun H11 s11=>?_⟩
   have et11:=s11 _ _ et
   walk_at "rd"
   refine ⟨a2,c2,rfl,s11 _ _ e12,fun H12 s12=>?_⟩
   walk_at "rd"
   exact ⟨⟨_,_,_,_,rfl⟩,sEnd.trans (s11.trans s12)⟩
end
section
variable {P:Program} {w:World} {K:PySem.W.Frag} {mg:Str->Option Value} {base:Heap} {ad:Ad}
theorem ok_law (L:All K w mg ad):FnOk P w K mg base CX0 9 ad.f_law ad.d_law ["_law_script"] (spLaw K):=by
 refine L.law.F.okQ sc_law (fun vs H Q E h=>?_) (fun cdv A outer s H vs Q E hr h=>?_)
 ·obtain ⟨x,ns,rfl,_⟩:=h
  rfl
 obtain ⟨x,ns,rfl,hS,hl,k⟩:=h
 refine ⟨_,(qss_cons (qs_set (i:=1) sc_law.nd rfl (Or.inl rfl) (qe_call ((ok__law_frame L).mono (by decide)) hr rfl L._law_frame.m L._law_frame.F.kp L._law_frame.b .nil pass0 (qa_cons (qv 0) qa_nil)))
  (qss_cons (qs_for PassesOwn.never rfl (qi_list (K:=K) rfl (qe_call ((ok__law_bodies L).mono (by decide)) hr rfl L._law_bodies.m L._law_bodies.F.kp L._law_bodies.b .nil pass0 (qa_cons (qv 0) (qa_cons (qv 1) qa_nil)))) (qg_name (i:=2) sc_law.nd rfl (Or.inl rfl))
   (qss_one (qs_for PassesOwn.never rfl (qi_range1 rfl L.n_range (qa_cons qe_int qa_nil)) (qg_name (i:=3) sc_law.nd rfl (Or.inl rfl))
   (qss_one (qs_if (qt_not (qt_val (qe_call ((ok__law_asked L).mono (by decide)) hr rfl L._law_asked.m L._law_asked.F.kp L._law_asked.b .nil pass0 (qa_cons (qv 2) (qa_cons (qv 3) qa_nil))))) (qss_one (qs_ret qe_bl)) qss_nil)))))
  (qss_one (qs_ret qe_bl)))),?_⟩
 walk_at "rd"
 refine ⟨x,ns,rfl,hS,fun p sz lo H1 s1 hF=>?_⟩
 obtain ⟨_,_,_,_,_,fok⟩:=id hF
 walk_at "rd"
 refine ⟨x,p,ns,sz,lo,rfl,s1.seq hS,hl,hF,fun q zs H2 s2 hq eq rq=>?_⟩
 walk_at "rd"
 refine for_feeds (R:=IsBdy sz lo) (H0:=H2) (fun i σ H'=>(∃ o1 o2,σ=[some (.ref x),some (.ref p),o1,o2])/\Same H2 H') (feeds_listG (R:=IsBdy sz lo) (fun s h=>IsBdy.up s h) (SqL.of eq) rq) (fun _ _ _ q=>q.2) ⟨⟨_,_,rfl⟩,Same.refl _⟩ ?_ ?_
 ·rintro σ H3 ⟨⟨o1,o2,rfl⟩,s3⟩
  walk_at "rd"
  exact k H3
 ·rintro i u v σ H3 H4 hi ex ⟨⟨o1,o2,rfl⟩,s3⟩ s4 ⟨b,yb,cb,rfl,eb,rb,ab,nb',ib,lb⟩
  have hw:∀ c∈cb,c.within 60:=fun c hc=>by
   have g1:=ib c hc .x
   have g2:=ib c hc .y
   have g3:=ib c hc .z
   have f1:=fok .x
   have f2:=fok .y
   have f3:=fok .z
   simp only [Ax.at] at g1 g2 g3 f1 f2 f3
   refine ⟨⟨?_,?_⟩,⟨?_,?_⟩,?_,?_⟩ <;> lia
  walk_at "rd"
  refine for_feeds (R:=IsI) (H0:=H4) (fun j σ H'=>(∃ o2,σ=[some (.ref x),some (.ref p),some (.ref b),o2])/\Same H4 H') feeds_range (fun _ _ _ q=>q.2) ⟨⟨_,rfl⟩,Same.refl _⟩ ?_ ?_
  ·rintro σ H5 ⟨⟨o2,rfl⟩,s5⟩
   exact ⟨⟨_,_,rfl⟩,s3.trans (s4.trans s5)⟩
  ·rintro j n v σ H5 H6 hj exj ⟨⟨o2,rfl⟩,s5⟩ s6 rfl
   obtain ⟨rfl,hj3⟩:=rngS_at exj
   have hj3:j < 3:=hj3
   obtain ⟨ax,hax⟩:=ax_of (i:=(0:Int)+(j:Int)) (by lia) (by lia)
   have s56:=s5.trans s6
   walk_at "rd"
   refine ⟨b,ax,cb,by rw [hax];rfl,⟨yb,s56 _ _ eb,Rs.up s56 rb,ab,nb',by lia,hw⟩,few_frame ab nb' fok ib lb,fun H7 s7=>?_⟩
   walk_at "rd"
   exact ⟨⟨_,rfl⟩,s56.trans s7⟩
end
end P53
namespace Pc
theorem args1 {us:List PySem.Value} (h:us.length=1):∃ a0,us=[a0]:=by
 cases us with
 | nil=>cases h
 | cons a0 us =>
 replace h:=Nat.succ.inj h
 cases us with
 | nil=>exact ⟨a0,rfl⟩
 | cons _ _=>cases h
theorem args2 {us:List PySem.Value} (h:us.length=2):∃ a0 a1,us=[a0,a1]:=by
 cases us with
 | nil=>cases h
 | cons a0 us =>
 replace h:=Nat.succ.inj h
 cases us with
 | nil=>cases h
 | cons a1 us =>
 replace h:=Nat.succ.inj h
 cases us with
 | nil=>exact ⟨a0,a1,rfl⟩
 | cons _ _=>cases h
theorem args3 {us:List PySem.Value} (h:us.length=3):∃ a0 a1 a2,us=[a0,a1,a2]:=by
 cases us with
 | nil=>cases h
 | cons a0 us =>
 replace h:=Nat.succ.inj h
 cases us with
 | nil=>cases h
 | cons a1 us =>
 replace h:=Nat.succ.inj h
 cases us with
 | nil=>cases h
 | cons a2 us =>
 replace h:=Nat.succ.inj h
 cases us with
 | nil=>exact ⟨a0,a1,a2,rfl⟩
 | cons _ _=>cases h
end Pc
local macro_rules | `(tactic| walk_at "fn0")=>`(tactic| (dsimp only [L2.KOf];refine' Pc.fn_mk (by assumption) (by assumption) ?a ?l ?c ?k ?b;(case a=>k_is);(case l=>k_is);(case c=>k_is);(case k=>k_is)))
open PySem PySem.W PyProof.Rows
set_option maxRecDepth 100000 in
set_option maxHeartbeats 0 in
theorem PySem.Challenge.cw_pourhall_k53_what_holds_cores_holds : PySem.Challenge.rw_pourhall_k53_what_holds_cores.Holds := by
 w_on;o_law
 refine holds_open (q:=P53.vw) (XP:=XL P53.vw [])
  (YP:=P53.hk.says) P53.left P53.hk.of P53.hk.keeps (fun s h=>xl_of s (Bool.and_eq_true_iff.mp h).1) XL.keeps (by rfl) (by rfl) (by rfl)
  (fun s h=>recFacts_of (Bool.and_eq_true_iff.mp h).2) (by rfl) (by assumption) (by decide +kernel) ⟨rfl,rfl,rfl,rfl,rfl,by decide +kernel⟩ ?hw ?hc
 (case hw=>w_witness2)
 delta P53.hk
 k_fill
 refine Pc.walkK (l:=PySem.Challenge.rw_pourhall_k53_what_holds_cores) (k:=9) (by decide) rfl rfl (fun w h Y=>PySem.W.kIn_of Y) ?F
 case F =>
  intro w mg fa h KX G hmg
  have t_PLACES:∃ a,mg "PLACES"=some (.ref a)/\L2.TopD (L2.KOf KX) w a Pc.plD:=by
   dsimp only [L2.KOf]
   refine' Pc.place_mk KX G ?m ?l ?k ?x0 ?x1 ?x2
   (case m=>k_is);(case l=>k_is);(case k=>k_keys);(case x0=>k_is);(case x1=>k_is);(case x2=>k_is)
  obtain ⟨a_PLACES,m_PLACES,t_PLACES⟩:=t_PLACES
  have t_WAYS:∃ a,mg "WAYS"=some (.ref a)/\∀ H,L2.SqT (L2.KOf KX) H a (Pc.allW.map fun u=>L2.V.str u.s):=by
   dsimp only [L2.KOf]
   refine' Pc.tup_mk KX G ?m ?l ?r ?z
   (case m=>k_is);(case l=>k_is)
   (case r=>exact .cons ⟨_,rfl⟩ (.cons ⟨_,rfl⟩ (.cons ⟨_,rfl⟩ (.cons ⟨_,rfl⟩ (.cons ⟨_,rfl⟩ (.cons ⟨_,rfl⟩ .nil))))))
   (case z=>exact Pc.le6)
  obtain ⟨a_WAYS,m_WAYS,t_WAYS⟩:=t_WAYS
  have m_FARTHEST:∃ t,mg "FARTHEST"=some (.int 60 t):=by refine' Pc.int_mk KX G ?e;(case e=>k_is)
  have m_MOST_CELLS:∃ t,mg "MOST_CELLS"=some (.int 600 t):=by refine' Pc.int_mk KX G ?e;(case e=>k_is)
  have n_ValueError:mg "ValueError"=none:=by refine' PySem.W.mg_none_of KX G ?e;(case e=>k_is)
  have n_all:mg "all"=none:=by refine' PySem.W.mg_none_of KX G ?e;(case e=>k_is)
  have n_bool:mg "bool"=none:=by refine' PySem.W.mg_none_of KX G ?e;(case e=>k_is)
  have n_enumerate:mg "enumerate"=none:=by refine' PySem.W.mg_none_of KX G ?e;(case e=>k_is)
  have n_int:mg "int"=none:=by refine' PySem.W.mg_none_of KX G ?e;(case e=>k_is)
  have n_isinstance:mg "isinstance"=none:=by refine' PySem.W.mg_none_of KX G ?e;(case e=>k_is)
  have n_len:mg "len"=none:=by refine' PySem.W.mg_none_of KX G ?e;(case e=>k_is)
  have n_list:mg "list"=none:=by refine' PySem.W.mg_none_of KX G ?e;(case e=>k_is)
  have n_max:mg "max"=none:=by refine' PySem.W.mg_none_of KX G ?e;(case e=>k_is)
  have n_min:mg "min"=none:=by refine' PySem.W.mg_none_of KX G ?e;(case e=>k_is)
  have n_range:mg "range"=none:=by refine' PySem.W.mg_none_of KX G ?e;(case e=>k_is)
  have n_set:mg "set"=none:=by refine' PySem.W.mg_none_of KX G ?e;(case e=>k_is)
  have n_sorted:mg "sorted"=none:=by refine' PySem.W.mg_none_of KX G ?e;(case e=>k_is)
  have n_tuple:mg "tuple"=none:=by refine' PySem.W.mg_none_of KX G ?e;(case e=>k_is)
  have n_zip:mg "zip"=none:=by refine' PySem.W.mg_none_of KX G ?e;(case e=>k_is)
  have h_is_whole:∃ f fd,Pc.Fn (L2.KOf KX) mg "is_whole" P53.s_is_whole f fd ["thing"]:=by
   walk_at "fn0"
   exact fun _ _ _ _ _ _ us hl=>by obtain ⟨_,rfl⟩:=Pc.args1 hl;rfl
  obtain ⟨f_is_whole,d_is_whole,h_is_whole⟩:=h_is_whole
  have h_is_near:∃ f fd,Pc.Fn (L2.KOf KX) mg "is_near" P53.s_is_near f fd ["thing"]:=by
   walk_at "fn0"
   exact fun _ _ _ _ _ _ us hl=>by obtain ⟨_,rfl⟩:=Pc.args1 hl;rfl
  obtain ⟨f_is_near,d_is_near,h_is_near⟩:=h_is_near
  have h_is_cell:∃ f fd,Pc.Fn (L2.KOf KX) mg "is_cell" P53.s_is_cell f fd ["thing"]:=by
   walk_at "fn0"
   exact fun _ _ _ _ _ _ us hl=>by obtain ⟨_,rfl⟩:=Pc.args1 hl;rfl
  obtain ⟨f_is_cell,d_is_cell,h_is_cell⟩:=h_is_cell
  have h_along:∃ f fd,Pc.Fn (L2.KOf KX) mg "along" P53.s_along f fd ["cell","axis"]:=by
   walk_at "fn0"
   exact fun _ _ _ _ _ _ us hl=>by obtain ⟨_,_,rfl⟩:=Pc.args2 hl;rfl
  obtain ⟨f_along,d_along,h_along⟩:=h_along
  have h_placed:∃ f fd,Pc.Fn (L2.KOf KX) mg "placed" P53.s_placed f fd ["cell","axis","number"]:=by
   walk_at "fn0"
   exact fun _ _ _ _ _ _ us hl=>by obtain ⟨_,_,_,rfl⟩:=Pc.args3 hl;rfl
  obtain ⟨f_placed,d_placed,h_placed⟩:=h_placed
  have h_line_of:∃ f fd,Pc.Fn (L2.KOf KX) mg "line_of" P53.s_line_of f fd ["cell","axis"]:=by
   walk_at "fn0"
   exact fun _ _ _ _ _ _ us hl=>by obtain ⟨_,_,rfl⟩:=Pc.args2 hl;rfl
  obtain ⟨f_line_of,d_line_of,h_line_of⟩:=h_line_of
  have h_on_line:∃ f fd,Pc.Fn (L2.KOf KX) mg "on_line" P53.s_on_line f fd ["line","axis","number"]:=by
   walk_at "fn0"
   exact fun _ _ _ _ _ _ us hl=>by obtain ⟨_,_,_,rfl⟩:=Pc.args3 hl;rfl
  obtain ⟨f_on_line,d_on_line,h_on_line⟩:=h_on_line
  have h_next_cell:∃ f fd,Pc.Fn (L2.KOf KX) mg "next_cell" P53.s_next_cell f fd ["cell","way"]:=by
   walk_at "fn0"
   exact fun _ _ _ _ _ _ us hl=>by obtain ⟨_,_,rfl⟩:=Pc.args2 hl;rfl
  obtain ⟨f_next_cell,d_next_cell,h_next_cell⟩:=h_next_cell
  have h_neighbours:∃ f fd,Pc.Fn (L2.KOf KX) mg "neighbours" P53.s_neighbours f fd ["cell"]:=by
   walk_at "fn0"
   exact fun _ _ _ _ _ _ us hl=>by obtain ⟨_,rfl⟩:=Pc.args1 hl;rfl
  obtain ⟨f_neighbours,d_neighbours,h_neighbours⟩:=h_neighbours
  have h_refuse_other_things:∃ f fd,Pc.Fn (L2.KOf KX) mg "refuse_other_things" P53.s_refuse_other_things f fd ["things"]:=by
   walk_at "fn0"
   exact fun _ _ _ _ _ _ us hl=>by obtain ⟨_,rfl⟩:=Pc.args1 hl;rfl
  obtain ⟨f_refuse_other_things,d_refuse_other_things,h_refuse_other_things⟩:=h_refuse_other_things
  have h_few_enough:∃ f fd,Pc.Fn (L2.KOf KX) mg "few_enough" P53.s_few_enough f fd ["cells"]:=by
   walk_at "fn0"
   exact fun _ _ _ _ _ _ us hl=>by obtain ⟨_,rfl⟩:=Pc.args1 hl;rfl
  obtain ⟨f_few_enough,d_few_enough,h_few_enough⟩:=h_few_enough
  have h_body_of:∃ f fd,Pc.Fn (L2.KOf KX) mg "body_of" P53.s_body_of f fd ["cells"]:=by
   walk_at "fn0"
   exact fun _ _ _ _ _ _ us hl=>by obtain ⟨_,rfl⟩:=Pc.args1 hl;rfl
  obtain ⟨f_body_of,d_body_of,h_body_of⟩:=h_body_of
  have h_marked:∃ f fd,Pc.Fn (L2.KOf KX) mg "marked" P53.s_marked f fd ["cells"]:=by
   walk_at "fn0"
   exact fun _ _ _ _ _ _ us hl=>by obtain ⟨_,rfl⟩:=Pc.args1 hl;rfl
  obtain ⟨f_marked,d_marked,h_marked⟩:=h_marked
  have h_lines_of:∃ f fd,Pc.Fn (L2.KOf KX) mg "lines_of" P53.s_lines_of f fd ["body","axis"]:=by
   walk_at "fn0"
   exact fun _ _ _ _ _ _ us hl=>by obtain ⟨_,_,rfl⟩:=Pc.args2 hl;rfl
  obtain ⟨f_lines_of,d_lines_of,h_lines_of⟩:=h_lines_of
  have h_gaps_on:∃ f fd,Pc.Fn (L2.KOf KX) mg "gaps_on" P53.s_gaps_on f fd ["line","axis","numbers"]:=by
   walk_at "fn0"
   exact fun _ _ _ _ _ _ us hl=>by obtain ⟨_,_,_,rfl⟩:=Pc.args3 hl;rfl
  obtain ⟨f_gaps_on,d_gaps_on,h_gaps_on⟩:=h_gaps_on
  have h_gaps:∃ f fd,Pc.Fn (L2.KOf KX) mg "gaps" P53.s_gaps f fd ["body","axis"]:=by
   walk_at "fn0"
   exact fun _ _ _ _ _ _ us hl=>by obtain ⟨_,_,rfl⟩:=Pc.args2 hl;rfl
  obtain ⟨f_gaps,d_gaps,h_gaps⟩:=h_gaps
  have h_hold:∃ f fd,Pc.Fn (L2.KOf KX) mg "hold" P53.s_hold f fd ["body","axis","core"]:=by
   walk_at "fn0"
   exact fun _ _ _ _ _ _ us hl=>by obtain ⟨_,_,_,rfl⟩:=Pc.args3 hl;rfl
  obtain ⟨f_hold,d_hold,h_hold⟩:=h_hold
  have h__law_cell_at:∃ f fd,Pc.Fn (L2.KOf KX) mg "_law_cell_at" P53.s__law_cell_at f fd ["_law_script","_law_k"]:=by
   walk_at "fn0"
   exact fun _ _ _ _ _ _ us hl=>by obtain ⟨_,_,rfl⟩:=Pc.args2 hl;rfl
  obtain ⟨f__law_cell_at,d__law_cell_at,h__law_cell_at⟩:=h__law_cell_at
  have h__law_number:∃ f fd,Pc.Fn (L2.KOf KX) mg "_law_number" P53.s__law_number f fd ["_law_cell","_law_k"]:=by
   walk_at "fn0"
   exact fun _ _ _ _ _ _ us hl=>by obtain ⟨_,_,rfl⟩:=Pc.args2 hl;rfl
  obtain ⟨f__law_number,d__law_number,h__law_number⟩:=h__law_number
  have h__law_frame:∃ f fd,Pc.Fn (L2.KOf KX) mg "_law_frame" P53.s__law_frame f fd ["_law_script"]:=by
   walk_at "fn0"
   exact fun _ _ _ _ _ _ us hl=>by obtain ⟨_,rfl⟩:=Pc.args1 hl;rfl
  obtain ⟨f__law_frame,d__law_frame,h__law_frame⟩:=h__law_frame
  have h__law_spot:∃ f fd,Pc.Fn (L2.KOf KX) mg "_law_spot" P53.s__law_spot f fd ["_law_frame_here","_law_cell"]:=by
   walk_at "fn0"
   exact fun _ _ _ _ _ _ us hl=>by obtain ⟨_,_,rfl⟩:=Pc.args2 hl;rfl
  obtain ⟨f__law_spot,d__law_spot,h__law_spot⟩:=h__law_spot
  have h__law_body:∃ f fd,Pc.Fn (L2.KOf KX) mg "_law_body" P53.s__law_body f fd ["_law_script","_law_frame_here","_law_cells"]:=by
   walk_at "fn0"
   exact fun _ _ _ _ _ _ us hl=>by obtain ⟨_,_,_,rfl⟩:=Pc.args3 hl;rfl
  obtain ⟨f__law_body,d__law_body,h__law_body⟩:=h__law_body
  have h__law_beside:∃ f fd,Pc.Fn (L2.KOf KX) mg "_law_beside" P53.s__law_beside f fd ["_law_spot_here","_law_at","_law_by"]:=by
   walk_at "fn0"
   exact fun _ _ _ _ _ _ us hl=>by obtain ⟨_,_,_,rfl⟩:=Pc.args3 hl;rfl
  obtain ⟨f__law_beside,d__law_beside,h__law_beside⟩:=h__law_beside
  have h__law_whole:∃ f fd,Pc.Fn (L2.KOf KX) mg "_law_whole" P53.s__law_whole f fd ["_law_found"]:=by
   walk_at "fn0"
   exact fun _ _ _ _ _ _ us hl=>by obtain ⟨_,rfl⟩:=Pc.args1 hl;rfl
  obtain ⟨f__law_whole,d__law_whole,h__law_whole⟩:=h__law_whole
  have h__law_is_spot:∃ f fd,Pc.Fn (L2.KOf KX) mg "_law_is_spot" P53.s__law_is_spot f fd ["_law_found"]:=by
   walk_at "fn0"
   exact fun _ _ _ _ _ _ us hl=>by obtain ⟨_,rfl⟩:=Pc.args1 hl;rfl
  obtain ⟨f__law_is_spot,d__law_is_spot,h__law_is_spot⟩:=h__law_is_spot
  have h__law_lines:∃ f fd,Pc.Fn (L2.KOf KX) mg "_law_lines" P53.s__law_lines f fd ["_law_body_here","_law_at"]:=by
   walk_at "fn0"
   exact fun _ _ _ _ _ _ us hl=>by obtain ⟨_,_,rfl⟩:=Pc.args2 hl;rfl
  obtain ⟨f__law_lines,d__law_lines,h__law_lines⟩:=h__law_lines
  have h__law_between:∃ f fd,Pc.Fn (L2.KOf KX) mg "_law_between" P53.s__law_between f fd ["_law_body_here","_law_at"]:=by
   walk_at "fn0"
   exact fun _ _ _ _ _ _ us hl=>by obtain ⟨_,_,rfl⟩:=Pc.args2 hl;rfl
  obtain ⟨f__law_between,d__law_between,h__law_between⟩:=h__law_between
  have h__law_nears:∃ f fd,Pc.Fn (L2.KOf KX) mg "_law_nears" P53.s__law_nears f fd ["_law_spot_here"]:=by
   walk_at "fn0"
   exact fun _ _ _ _ _ _ us hl=>by obtain ⟨_,rfl⟩:=Pc.args1 hl;rfl
  obtain ⟨f__law_nears,d__law_nears,h__law_nears⟩:=h__law_nears
  have h__law_pieces:∃ f fd,Pc.Fn (L2.KOf KX) mg "_law_pieces" P53.s__law_pieces f fd ["_law_some"]:=by
   walk_at "fn0"
   exact fun _ _ _ _ _ _ us hl=>by obtain ⟨_,rfl⟩:=Pc.args1 hl;rfl
  obtain ⟨f__law_pieces,d__law_pieces,h__law_pieces⟩:=h__law_pieces
  have h__law_due:∃ f fd,Pc.Fn (L2.KOf KX) mg "_law_due" P53.s__law_due f fd ["_law_known","_law_core"]:=by
   walk_at "fn0"
   exact fun _ _ _ _ _ _ us hl=>by obtain ⟨_,_,rfl⟩:=Pc.args2 hl;rfl
  obtain ⟨f__law_due,d__law_due,h__law_due⟩:=h__law_due
  have h__law_shell:∃ f fd,Pc.Fn (L2.KOf KX) mg "_law_shell" P53.s__law_shell f fd ["_law_frame_here"]:=by
   walk_at "fn0"
   exact fun _ _ _ _ _ _ us hl=>by obtain ⟨_,rfl⟩:=Pc.args1 hl;rfl
  obtain ⟨f__law_shell,d__law_shell,h__law_shell⟩:=h__law_shell
  have h__law_bodies:∃ f fd,Pc.Fn (L2.KOf KX) mg "_law_bodies" P53.s__law_bodies f fd ["_law_script","_law_frame_here"]:=by
   walk_at "fn0"
   exact fun _ _ _ _ _ _ us hl=>by obtain ⟨_,_,rfl⟩:=Pc.args2 hl;rfl
  obtain ⟨f__law_bodies,d__law_bodies,h__law_bodies⟩:=h__law_bodies
  have h__law_asked:∃ f fd,Pc.Fn (L2.KOf KX) mg "_law_asked" P53.s__law_asked f fd ["_law_body_here","_law_at"]:=by
   walk_at "fn0"
   exact fun _ _ _ _ _ _ us hl=>by obtain ⟨_,_,rfl⟩:=Pc.args2 hl;rfl
  obtain ⟨f__law_asked,d__law_asked,h__law_asked⟩:=h__law_asked
  have h_law:∃ f fd,Pc.Fn (L2.KOf KX) mg "law" P53.s_law f fd ["_law_script"]:=by
   walk_at "fn0"
   exact fun _ _ _ _ _ _ us hl=>by obtain ⟨_,rfl⟩:=Pc.args1 hl;rfl
  obtain ⟨f_law,d_law,h_law⟩:=h_law
  have L:P53.All (L2.KOf KX) w mg ⟨a_PLACES,a_WAYS,f_is_whole,d_is_whole,f_is_near,d_is_near,f_is_cell,d_is_cell,f_along,d_along,f_placed,d_placed,f_line_of,d_line_of,f_on_line,d_on_line,f_next_cell,d_next_cell,f_neighbours,d_neighbours,f_refuse_other_things,d_refuse_other_things,f_few_enough,d_few_enough,f_body_of,d_body_of,f_marked,d_marked,f_lines_of,d_lines_of,f_gaps_on,d_gaps_on,f_gaps,d_gaps,f_hold,d_hold,f__law_cell_at,d__law_cell_at,f__law_number,d__law_number,f__law_frame,d__law_frame,f__law_spot,d__law_spot,f__law_body,d__law_body,f__law_beside,d__law_beside,f__law_whole,d__law_whole,f__law_is_spot,d__law_is_spot,f__law_lines,d__law_lines,f__law_between,d__law_between,f__law_nears,d__law_nears,f__law_pieces,d__law_pieces,f__law_due,d__law_due,f__law_shell,d__law_shell,f__law_bodies,d__law_bodies,f__law_asked,d__law_asked,f_law,d_law⟩:=⟨m_PLACES,t_PLACES,m_WAYS,t_WAYS,m_FARTHEST,m_MOST_CELLS,n_ValueError,n_all,n_bool,n_enumerate,n_int,n_isinstance,n_len,n_list,n_max,n_min,n_range,n_set,n_sorted,n_tuple,n_zip,h_is_whole,h_is_near,h_is_cell,h_along,h_placed,h_line_of,h_on_line,h_next_cell,h_neighbours,h_refuse_other_things,h_few_enough,h_body_of,h_marked,h_lines_of,h_gaps_on,h_gaps,h_hold,h__law_cell_at,h__law_number,h__law_frame,h__law_spot,h__law_body,h__law_beside,h__law_whole,h__law_is_spot,h__law_lines,h__law_between,h__law_nears,h__law_pieces,h__law_due,h__law_shell,h__law_bodies,h__law_asked,h_law⟩
  have q0:=hmg.symm.trans h_law.m
  cases q0
  exact ⟨d_law,fun s u=>h_law.bt s [u] rfl,fun base _ _=>P53.ok_law L⟩
