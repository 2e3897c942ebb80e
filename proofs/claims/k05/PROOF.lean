import PyProof.Rows.All
import Wide.All
import OpenK.AllK
import Wide.FinOn
import Lean
import PyProof.EqAt
import PyProof.EqKinds
import PyProof.TupleCall
import PyProof.Rows.SetFrom
import PyProof.Rows.SortStr
import KE.KDictSum
import KE.KEqDict
import PySem.Challenge.RW_rulestable_k05_grammars_refused
set_option Elab.async false
set_option linter.all false
set_option maxRecDepth 100000
namespace L2
open PySem PySem.Spec PyProof.Rows
noncomputable abbrev Key:=Sum Int Str
noncomputable def keyIs:Key→Value→Bool
 | .inl k,v=>Value.isInt k v
 | .inr x,v=>Value.isStrOf x v
noncomputable def keyH (w:World):Key→Int
 | .inl k=>hashInt k
 | .inr x=>hashStr w x
theorem u0R:∀ {k:Key}{v:Value},keyIs k v=true→(∃ i t,k=Sum.inl i∧v=Value.int i t)∨(∃ x t,k=Sum.inr x∧v=Value.str x t)
 | .inl i,v,h=>by
  obtain ⟨t,e⟩:=Value.isInt_shape (k:=i) (v:=v) h
  exact .inl ⟨i,t,rfl,e⟩
 | .inr x,v,h=>by
  obtain ⟨t,e⟩:=Value.isStrOf_shape (x:=x) (v:=v) h
  exact .inr ⟨x,t,rfl,e⟩
theorem v1g (i:Int) (t:Tok):keyIs (.inl i) (.int i t)=true:=by simp [keyIs,Value.isInt]
theorem v1f (x:Str) (t:Tok):keyIs (.inr x) (.str x t)=true:=by simp [keyIs,Value.isStrOf]
theorem key_ll (a b:Int):decide ((Sum.inl a:Key)=Sum.inl b)=(a==b):=by
 by_cases e:a=b
 ·subst e;simp
 ·have h:¬ (Sum.inl a:Key)=Sum.inl b:=fun q=>e (Sum.inl.inj q)
  rw [decide_eq_false h]
  exact (beq_eq_false_iff_ne.mpr e).symm
theorem key_rr (a b:Str):decide ((Sum.inr a:Key)=Sum.inr b)=decide (a=b):=by
 by_cases e:a=b
 ·subst e;simp
 ·have h:¬ (Sum.inr a:Key)=Sum.inr b:=fun q=>e (Sum.inr.inj q)
  rw [decide_eq_false h,decide_eq_false e]
theorem key_lr (a:Int) (b:Str):decide ((Sum.inl a:Key)=Sum.inr b)=false:=decide_eq_false (fun q=>nomatch q)
theorem key_rl (a:Str) (b:Int):decide ((Sum.inr a:Key)=Sum.inl b)=false:=decide_eq_false (fun q=>nomatch q)
noncomputable def mixKind (prog:Program) (w:World):PySem.KeyKind prog w Key where
 is:=keyIs
 hash:=keyH w
 inj:=fun v a b ha hb=>by
  rcases u0R ha with ⟨i,t,rfl,rfl⟩ | ⟨x,t,rfl,rfl⟩
  ·rcases u0R hb with ⟨j,u,rfl,e⟩ | ⟨y,u,rfl,e⟩
   ·injection e with e1 _;rw [e1]
   ·exact nomatch e
  ·rcases u0R hb with ⟨j,u,rfl,e⟩ | ⟨y,u,rfl,e⟩
   ·exact nomatch e
   ·injection e with e1 _;rw [e1]
 byValue:=fun k v h=>by
  rcases u0R h with ⟨i,t,rfl,rfl⟩ | ⟨x,t,rfl,rfl⟩ <;> rfl
 pyHash:=fun hv h=>by
  rcases u0R hv with ⟨i,t,rfl,rfl⟩ | ⟨x,t,rfl,rfl⟩
  ·exact wpAny_pyHash_int h
  ·exact wpAny_pyHash_str h
 eqBool:=fun hu hv h=>by
  rcases u0R hu with ⟨i,t,rfl,rfl⟩ | ⟨x,t,rfl,rfl⟩
  ·rcases u0R hv with ⟨j,u,rfl,rfl⟩ | ⟨y,u,rfl,rfl⟩
   ·rw [key_ll] at h;exact wpAny_eqBool_int h
   ·rw [key_lr] at h;exact SeqAt.EqAt.int_str i t y u _ _ _ _ h
  ·rcases u0R hv with ⟨j,u,rfl,rfl⟩ | ⟨y,u,rfl,rfl⟩
   ·rw [key_rl] at h;exact SeqAt.EqAt.str_int x t j u _ _ _ _ h
   ·rw [key_rr] at h;exact wpAny_eqBool_str h
 «strs»:=fun k x t v h=>by
  rcases u0R h with ⟨i,u,rfl,e⟩ | ⟨y,u,rfl,e⟩
  ·exact nomatch e
  ·injection e with e1 _
   subst e1
   cases v <;> rfl
theorem v0c (prog:Program) (w:World) (k:Key) (v:Value):(mixKind prog w).is k v=keyIs k v:=rfl
theorem u3y (prog:Program) (w:World) (i:Int) (t:Tok):(mixKind prog w).is (.inl i) (.int i t)=true:=v1g i t
theorem u3x (prog:Program) (w:World) (x:Str) (t:Tok):(mixKind prog w).is (.inr x) (.str x t)=true:=v1f x t
inductive V where
 | non | bl (b:Bool) | int (i:Int) | str (x:Str) | byt (b:Array UInt8) | flt (b:UInt64) | ref (a:Addr) | ty (n:String)
 deriving DecidableEq
noncomputable def RelV:V→Value→Prop
 | .non,u=>u=Value.none
 | .bl b,u=>u=Value.bool b
 | .int i,u=>∃ t,u=Value.int i t
 | .str x,u=>∃ t,u=Value.str x t
 | .byt b,u=>∃ t,u=Value.bytes b t
 | .flt b,u=>∃ t,u=Value.float b t
 | .ref a,u=>u=Value.ref a
 | .ty n,u=>u=Value.type n
noncomputable abbrev Vals:List V→List Value→Prop:=Paired RelV
theorem Vals.length {xs:List V}{us:List Value} (r:Vals xs us):xs.length=us.length:=Paired.length r
theorem Vals.get:∀ {xs:List V}{us:List Value}{i:Nat}{x:V},Vals xs us→xs[i]?=some x→∃ u,us[i]?=some u∧RelV x u
 | _,_,_,_,.nil,e=>by simp at e
 | _,_,0,_,.cons r _,e=>by simp at e;subst e;exact ⟨_,rfl,r⟩
 | _,_,i+1,x,.cons _ t,e=>by
  obtain ⟨u,h1,h2⟩:=Vals.get (i:=i) (x:=x) t (by simpa using e)
  exact ⟨u,by simpa using h1,h2⟩
theorem Vals.append:∀ {xs ys:List V}{us ws:List Value},Vals xs us→Vals ys ws→Vals (xs++ys) (us++ws)
 | _,_,_,_,.nil,s=>s
 | _,_,_,_,.cons r t,s=>.cons r (Vals.append t s)
theorem Vals.take:∀ {xs:List V}{us:List Value} (n:Nat),Vals xs us→Vals (xs.take n) (us.take n)
 | _,_,0,_=>.nil
 | _,_,_+1,.nil=>.nil
 | _,_,n+1,.cons r t=>.cons r (Vals.take n t)
theorem Vals.drop:∀ {xs:List V}{us:List Value} (n:Nat),Vals xs us→Vals (xs.drop n) (us.drop n)
 | _,_,0,r=>r
 | _,_,_+1,.nil=>.nil
 | _,_,n+1,.cons _ t=>Vals.drop n t
noncomputable def RelO:Option V→Option Value→Prop
 | some v,some u=>RelV v u
 | none,none=>True
 | _,_=>False
noncomputable def KV {κ:Type}:List (κ×V)→List (κ×Value)→Prop:=Paired fun (p:κ×V) (q:κ×Value)=>p.1=q.1∧RelV p.2 q.2
noncomputable def kV:Key→V
 | .inl i=>.int i
 | .inr x=>.str x
inductive HO where
 /-- a list -/
 | lst (xs:List V)
 /-- a tuple (never changes) -/
 | tup (xs:List V)
 /-- a dict whose keys are ints and texts;one whose keys are tuples of ints and texts (the empty one is both) -/
 | dK (kvs:List (Key×V)) | dT (kvs:List (List Key×V))
 /-- a set of ints: its members,its size -/
 | set (S:Int→Bool) (n:Nat)
 /-- an instance of the class at C,its dict at dx,its attributes -/
 | ins (C dx:Addr) (fs:List (Str×V))
 /-- the dict of the instance at x -/
 | own (x:Addr)
 /-- the dict of an exception -/
 | xd (fs:List (Str×V))
 /-- a bound method,f of x -/
 | met (f x:Addr)
 /-- a range object lo,lo+1,.. below hi -/
 | rng (lo hi:Int)
 /-- a thing that is known to the object (the script;a dict while a loop walks it): read,never written while it is so -/
 | frz (o:Obj) (u:HO)
 /-- a code object's table -/
 | tbl (ps:Array Value)
 /-- any other thing,by what is true of its one object (a def of one's own: SetO a S n:=HO.ext fun h=>..) -/
 | ext (φ:Heap→Prop)
noncomputable abbrev Hp:=Addr→Option HO
noncomputable def upd (H:Hp) (a:Addr) (o:HO):Hp:=fun b=>if b=a then some o else H b
theorem u0k {H:Hp}{a:Addr}{o:HO}:upd H a o a=some o:=by unfold upd;rw [if_pos rfl]
theorem u0r {H:Hp}{a b:Addr}{o:HO} (h:b≠a):upd H a o b=H b:=by unfold upd;rw [if_neg h]
theorem upd_upd {H:Hp}{a:Addr}{o u:HO}:upd (upd H a o) a u=upd H a u:=by
 funext b;unfold upd;split <;> rfl
theorem ne_of {H:Hp}{a b:Addr}{o u:HO} (h:H a=some o) (h':H b=some u) (d:o≠u):a≠b:=by
 intro e;subst e;rw [h] at h';exact d (Option.some.inj h')
theorem u0x {H:Hp}{a b:Addr}{o:HO} (h:H a=some o) (h':H b=none):a≠b:=by
 intro e;subst e;rw [h] at h';cases h'
section
variable (P:Program) (w:World)
noncomputable def ObjOk (H:Hp) (h:Heap) (a:Addr):HO→Prop
 | .lst xs=>xs.length≤sizeLine∧∃ (its:List Value) (n:Nat),Vals xs its∧h.get? a=some { cls:=.type "list",data:=.seq its.toArray n }
 | .tup xs=>xs.length≤sizeLine∧∃ its:List Value,Vals xs its∧IsTup h a its.toArray
 | .dK kvs=>kvs.length≤sizeLine∧(a==sysModules)=false∧∃ vs,KV kvs vs∧h.DictOf (mixKind P w) a vs
 | .dT kvs=>kvs.length≤sizeLine∧(a==sysModules)=false∧∃ xs:List (List Key×Addr×Value),
   Paired (fun (p:List Key×V) (q:List Key×Addr×Value)=>p.1=q.1∧H q.2.1=some (.tup (p.1.map kV))∧RelV p.2 q.2.2) kvs xs ∧
   ∃ o es ep,h.get? a=some o∧o.ExactDict∧o.data=.dict es ep∧es.toList=xs.map (entryOfKey (tupleKind (mixKind P w)))∧(xs.map (·.1)).Nodup
 | .set S n=>h.SetOf (intKind P w) a S n
 | .ins C dx fs=>H dx=some (.own a)∧fs.length≤1000∧dx≠a∧h.get? a=some (PySem.W.instObj C dx) ∧
   ∃ mA,h.Ns1 dx mA∧(∀ f,RelO (fs.lookup f) (mA f))∧PySem.Within mA (fs.map (·.1))
 | .own _=>∃ o,h.get? a=some o
 | .xd fs=>∃ mA,h.Ns1 a mA∧∀ f,RelO (fs.lookup f) (mA f)
 | .rng lo hi=>∃ t u v,h.get? a=some { cls:=.type "range",data:=.fields #[.int lo t,.int hi u,.int 1 v] }
 | .frz o u=>h.get? a=some o∧ObjOk H h a u
 | .tbl ps=>h.get? a=some { cls:=.none,data:=.fields ps }
 | .met f x=>h.get? a=some (PySem.W.methodObj (.ref f) (.ref x))
 | .ext φ=>φ h∧(∃ o,h.get? a=some o)∧∀ h1 h2:Heap,φ h1→(∀ o,h1.get? a=some o→h2.get? a=some o)→φ h2
noncomputable def HOk (H:Hp) (h:Heap):Prop:=∀ a o,H a=some o→ObjOk P w H h a o
end
section
variable {P:Program}{w:World}{H H':Hp}{h h':Heap}{a:Addr}{o:HO}
theorem ObjOk.lt (x:ObjOk P w H h a o):a<h.objs.size:=by
 cases o with
 | lst xs=>obtain ⟨_,_,_,_,e⟩:=x;exact Heap.lt_size e
 | tup xs=>obtain ⟨_,_,_,p⟩:=x;exact p.lt
 | dK kvs=>obtain ⟨_,_,_,_,o,_,_,e,_⟩:=x;exact Heap.lt_size e
 | dT kvs=>obtain ⟨_,_,_,_,o,_,_,e,_⟩:=x;exact Heap.lt_size e
 | set S n=>obtain ⟨o,_,_,_,e,_⟩:=x;exact Heap.lt_size e
 | ins C dx fs=>obtain ⟨_,_,_,e,_⟩:=x;exact Heap.lt_size e
 | own y=>obtain ⟨_,e⟩:=x;exact Heap.lt_size e
 | xd fs=>obtain ⟨_,⟨_,_,_,e,_⟩,_⟩:=x;exact Heap.lt_size e
 | rng lo hi=>obtain ⟨_,_,_,e⟩:=x;exact Heap.lt_size e
 | frz ob u=>obtain ⟨e,_⟩:=x;exact Heap.lt_size e
 | tbl ps=>exact Heap.lt_size (show h.get? a=some _ from x)
 | met f y=>exact Heap.lt_size (show h.get? a=some _ from x)
 | ext φ=>obtain ⟨_,⟨_,e⟩,_⟩:=x;exact Heap.lt_size e
theorem Paired.mapP {α β:Type}{F G:α→β→Prop}:∀ {l₁:List α}{l₂:List β},Paired F l₁ l₂→(∀ a b,F a b→G a b)→Paired G l₁ l₂
 | _,_,.nil,_=>.nil
 | _,_,.cons r t,f=>.cons (f _ _ r) (Paired.mapP t f)
theorem ObjOk.stay (x:ObjOk P w H h a o) (k:∀ b u,(b=a∨H b=some (.own a))→h.get? b=some u→h'.get? b=some u)
  (ho:∀ b,H b=some (.own a)→H' b=some (.own a)) (ht:∀ b xs,H b=some (.tup xs)→H' b=some (.tup xs)):ObjOk P w H' h' a o:=by
 induction o with
 | lst xs=>obtain ⟨z,its,n,r,e⟩:=x;exact ⟨z,its,n,r,k _ _ (.inl rfl) e⟩
 | tup xs=>obtain ⟨z,its,r,ob,e,c⟩:=x;exact ⟨z,its,r,ob,k _ _ (.inl rfl) e,c⟩
 | dK kvs=>obtain ⟨z,y,vs,r,ob,es,ep,e,c⟩:=x;exact ⟨z,y,vs,r,ob,es,ep,k _ _ (.inl rfl) e,c⟩
 | dT kvs =>
  obtain ⟨z,y,xs,r,ob,es,ep,e,c⟩:=x
  exact ⟨z,y,xs,Paired.mapP r fun p q z=>⟨z.1,ht _ _ z.2.1,z.2.2⟩,ob,es,ep,k _ _ (.inl rfl) e,c⟩
 | set S n=>obtain ⟨ob,es,ep,t,e,c⟩:=x;exact ⟨ob,es,ep,t,k _ _ (.inl rfl) e,c⟩
 | ins C dx fs =>
  obtain ⟨d,z,ne,e,mA,⟨od,es,ep,e2,c⟩,r⟩:=x
  exact ⟨ho _ d,z,ne,k _ _ (.inl rfl) e,mA,⟨od,es,ep,k _ _ (.inr d) e2,c⟩,r⟩
 | own y=>obtain ⟨ob,e⟩:=x;exact ⟨ob,k _ _ (.inl rfl) e⟩
 | xd fs=>obtain ⟨mA,⟨od,es,ep,e,c⟩,r⟩:=x;exact ⟨mA,⟨od,es,ep,k _ _ (.inl rfl) e,c⟩,r⟩
 | rng lo hi=>obtain ⟨t,u,v,e⟩:=x;exact ⟨t,u,v,k _ _ (.inl rfl) e⟩
 | frz ob u ih=>obtain ⟨e,q⟩:=x;exact ⟨k _ _ (.inl rfl) e,ih q⟩
 | tbl ps =>
  have e:h.get? a=some { cls:=.none,data:=.fields ps }:=x
  show h'.get? a=some { cls:=.none,data:=.fields ps }
  exact k a _ (.inl rfl) e
 | met f y =>
  have e:h.get? a=some (PySem.W.methodObj (.ref f) (.ref y)):=x
  show h'.get? a=some (PySem.W.methodObj (.ref f) (.ref y))
  exact k a _ (.inl rfl) e
 | ext φ=>obtain ⟨p,⟨o,e⟩,st⟩:=x;exact ⟨st _ _ p fun o q=>k _ _ (.inl rfl) q,⟨o,k _ _ (.inl rfl) e⟩,st⟩
theorem HOk.lt (x:HOk P w H h) (e:H a=some o):a<h.objs.size:=(x a o e).lt
theorem HOk.fresh (x:HOk P w H h) (e:h.objs.size≤a):H a=none:=by
 cases q:H a with
 | none=>rfl
 | some u=>exact absurd (Nat.lt_of_lt_of_le (x.lt q) e) (Nat.lt_irrefl _)
theorem HOk.kept (x:HOk P w H h) (k:∀ b u,h.get? b=some u→h'.get? b=some u):HOk P w H h':=fun a o e =>
 (x a o e).stay (fun b u _ q=>k b u q) (fun _ q=>q) fun _ _ q=>q
theorem HOk.laid (x:HOk P w H h) (k:∀ b u,h.get? b=some u→h'.get? b=some u) (hp:h.objs.size≤a) (new:ObjOk P w (upd H a o) h' a o):HOk P w (upd H a o) h':=fun b u e=>by
 have hn:=x.fresh hp
 by_cases hb:b=a
 ·subst hb;rw [u0k] at e;cases e;exact new
 ·rw [u0r hb] at e
  exact (x b u e).stay (fun c v _ q=>k c v q) (fun c q=>by rw [u0r (u0x q hn)];exact q) fun c xs q=>by rw [u0r (u0x q hn)];exact q
end
noncomputable def Rd (H:Hp) (a:Addr) (u:HO):Prop:=H a=some u∨∃ o,H a=some (.frz o u)
theorem Rd.ok {P:Program}{w:World}{H:Hp}{h:Heap}{a:Addr}{u:HO} (r:Rd H a u) (x:HOk P w H h):ObjOk P w H h a u:=by
 rcases r with r | ⟨o,r⟩
 ·exact x a u r
 ·obtain ⟨_,q⟩:=x a _ r
  exact q
noncomputable def Mut:Option HO→Prop
 | some (.lst _)=>True
 | some (.dK _)=>True
 | some (.dT _)=>True
 | some (.set _ _)=>True
 | some (.ins _ _ _)=>True
 | some (.ext _)=>True
 | _=>False
section
variable {P:Program}{w:World}{H:Hp}{h h':Heap}{x e:Addr}{o':HO}
theorem HOk.write (ok:HOk P w H h) (mu:Mut (H x)) (he:e=x∨H e=some (.own x)) (k:∀ b u,b≠e→h.get? b=some u→h'.get? b=some u) (heo:∃ u,h'.get? e=some u)
  (new:ObjOk P w (upd H x o') h' x o'):HOk P w (upd H x o') h':=fun b u q=>by
 have nown:∀ c y,H c=some (.own y)→c≠x:=fun c y r z=>by subst z;rw [r] at mu;exact mu
 have ntup:∀ c xs,H c=some (.tup xs)→c≠x:=fun c xs r z=>by subst z;rw [r] at mu;exact mu
 by_cases hb:b=x
 ·subst hb;rw [u0k] at q;cases q;exact new
 ·rw [u0r hb] at q
  by_cases hbe:b=e
  ·have q':H b=some (.own x):=by
    rcases he with z | z
    ·exact absurd (hbe.trans z) hb
    ·rw [hbe];exact z
   rw [q] at q';cases q'
   obtain ⟨v,hv⟩:=heo
   exact ⟨v,by rw [hbe];exact hv⟩
  ·refine (ok b u q).stay (fun c v hc r=>k c v ?_ r) (fun c r=>by rw [u0r (nown c b r)];exact r) fun c xs r=>by rw [u0r (ntup c xs r)];exact r
   rcases hc with rfl | hc
   ·exact hbe
   ·rintro rfl
    rcases he with z | z
    ·exact nown c b hc z
    ·rw [hc] at z;cases z;exact hb rfl
end
structure Un (fs ex:List Addr) (H H':Hp) (h h':Heap):Prop where
 keep:∀ b o,h.get? b=some o→H b=none→b∉fs→b∉ex→h'.get? b=some o
 slot:∀ b o,h.get? b=some o→H b=none→b∈fs→b∉ex→∃ sl,h'.get? b=some { o with slots:=sl }
 free:∀ b o,h.get? b=some o→H b=none→b∉ex→H' b=none
 there:∀ b o,h.get? b=some o→b∉ex→∃ o',h'.get? b=some o'
 tups:∀ b xs,H b=some (.tup xs)→H' b=some (.tup xs)
 frzs:∀ b o u,H b=some (.frz o u)→H' b=some (.frz o u)
 tbls:∀ b ps,H b=some (.tbl ps)→∃ more,H' b=some (.tbl (ps++more))
section
variable {fs fs' ex ex':List Addr}{H H1 H2:Hp}{h h1 h2 h':Heap}{a x e:Addr}{o:HO}
theorem Un.any (u:Un fs ex H H1 h h1) {b:Addr}{ob:Obj} (q:h.get? b=some ob) (n:H b=none) (hx:b∉ex):∃ sl,h1.get? b=some { ob with slots:=sl }:=by
 by_cases hb:b∈fs
 ·exact u.slot b ob q n hb hx
 ·exact ⟨ob.slots,u.keep b ob q n hb hx⟩
theorem Un.kept (k:∀ b u,h.get? b=some u→h'.get? b=some u):Un fs ex H H h h' :=
 ⟨fun b ob q _ _ _=>k b ob q,fun b ob q _ _ _=>⟨ob.slots,k b ob q⟩,fun _ _ _ n _=>n,fun b ob q _=>⟨ob,k b ob q⟩,fun _ _ q=>q,fun _ _ _ q=>q,fun _ ps q=>⟨#[],by rw [q];simp⟩⟩
theorem Un.refl:Un fs ex H H h h:=Un.kept fun _ _ q=>q
theorem Un.laid (k:∀ b u,h.get? b=some u→h'.get? b=some u) (hp:h.objs.size≤a) (hn:H a=none):Un fs ex H (upd H a o) h h' where
 keep:=fun b u q _ _ _=>k b u q
 slot:=fun b u q _ _ _=>⟨u.slots,k b u q⟩
 free:=fun b u q n _=>by rw [u0r (Nat.ne_of_lt (Nat.lt_of_lt_of_le (Heap.lt_size q) hp))];exact n
 there:=fun b u q _=>⟨u,k b u q⟩
 tups:=fun b xs q=>by rw [u0r (u0x q hn)];exact q
 frzs:=fun b u xs q=>by rw [u0r (u0x q hn)];exact q
 tbls:=fun b ps q=>⟨#[],by rw [u0r (u0x q hn),q];simp⟩
theorem Un.write (mu:Mut (H x)) (he:e=x∨H e=some (.own x)) (k:∀ b u,b≠e→h.get? b=some u→h'.get? b=some u) (heo:∃ u,h'.get? e=some u):Un fs ex H (upd H x o) h h':=by
 have hx:∀ b,H b=none→b≠x:=fun b n z=>by subst z;rw [n] at mu;exact mu
 have hb:∀ b,H b=none→b≠e:=fun b n z=>by
  subst z
  rcases he with r | r
  ·exact hx b n r
  ·rw [n] at r;cases r
 have hm:∀ b u,H b=some u→¬ Mut (some u)→b≠x:=fun b u q nm z=>by subst z;rw [q] at mu;exact nm mu
 refine ⟨fun b u q n _ _=>k b u (hb b n) q,fun b u q n _ _=>⟨u.slots,k b u (hb b n) q⟩,fun b u q n _=>by rw [u0r (hx b n)];exact n,fun b u q _=>?_,
  fun b xs q=>by rw [u0r (hm b _ q fun z=>z)];exact q,fun b u xs q=>by rw [u0r (hm b _ q fun z=>z)];exact q,fun b ps q=>⟨#[],by rw [u0r (hm b _ q fun z=>z),q];simp⟩⟩
 by_cases hbe:b=e
 ·subst hbe;exact heo
 ·exact ⟨u,k b u hbe q⟩
end
noncomputable def trk (h:Heap) (H:Hp):List Addr:=(List.range h.objs.size).filter fun a=>(H a).isSome
noncomputable def hidT (h:Heap) (H:Hp):Heap:=PySem.W.hideAll h (trk h H)
theorem v1q (h:Heap) (H:Hp):(hidT h H).objs.size=h.objs.size:=PySem.W.hideAll_size _ _
theorem v2V {h:Heap}{H:Hp}{b:Addr}{o:Obj} (e:h.get? b=some o) (n:H b=none):(hidT h H).get? b=some o :=
 PySem.W.hideAll_get _ e fun hm=>by
  have q:(H b).isSome=true:=(List.mem_filter.mp hm).2
  rw [n] at q;simp at q
theorem of_hidT {h:Heap}{H:Hp}{b:Addr}{o:Obj} (e:(hidT h H).get? b=some o):h.get? b=some o∧H b=none:=by
 have e':h.get? b=some o:=PySem.W.of_hideAll (trk h H) e
 refine ⟨e',?_⟩
 cases q:H b with
 | none=>rfl
 | some x =>
  have hm:b∈trk h H:=List.mem_filter.mpr ⟨List.mem_range.mpr (Heap.lt_size e'),by simp [q]⟩
  have z:(hidT h H).get? b=none:=PySem.W.hideAll_none (trk h H) hm
  rw [z] at e;cases e
structure Mod (K:PySem.W.Frag) (mg:Str→Option Value) (base:Heap):Prop where
 kin:K.In base
 glob:base.Ns mainGlobals mg
 blt:∃ mb,base.Ns builtinsNs mb∧∀ x:Str,x≠"__name__"→mb x=bootBuiltins x
 nolimit:base.NoLimit
structure Cx where
 prog:Program
 w:World
 K:PySem.W.Frag
 mg:Str→Option Value
 base:Heap
 A:Around
 N:List Str
 s₀:Shared
 H₀:Hp
 env:Env
 outer:List Env
 stack:List Env
 ex:List Addr
 fn:Str→Bool
 calm:Bool
 pn:List (Addr×Obj)
 xe:Value→Shared→Prop
noncomputable def frs (l:List Env):List Addr:=l.filterMap (·.frame)
noncomputable abbrev Cx.fs (X:Cx):List Addr:=frs X.outer
noncomputable def Vis (sc:Scope) (x:Str):Prop:=sc.names.lookup x=some .local∨sc.names.lookup x=some .cell∨sc.names.lookup x=some .free
noncomputable def Loc (sc:Scope) (x:Str):Prop:=sc.names.lookup x=some .local∨sc.names.lookup x=some .cell
noncomputable def Look (env:Env) (h:Heap) (m:Str→Option Value) (x:Str) (u:Value):Prop :=
 (env.kindOf x=some .local∧m x=some u)∨((env.kindOf x=some .cell∨env.kindOf x=some .free)∧∃ c,env.cells.lookup x=some c∧h.IsCell c (some u))
structure Cx.Ok (X:Cx):Prop where
 mod:Mod X.K X.mg X.base
 kind:X.env.scope.kind=.function
 glob:X.env.globals=mainGlobals
 blt:X.env.builtins=builtinsNs
 above:X.s₀.heap.objs.size≤X.env.locals
 inj:∀ x y c,X.env.cells.lookup x=some c→X.env.cells.lookup y=some c→x=y
 has:∀ x,(X.env.kindOf x=some .cell∨X.env.kindOf x=some .free)→∃ c,X.env.cells.lookup x=some c
 cab:∀ x c,X.fn x=true→X.env.cells.lookup x=some c→X.s₀.heap.objs.size≤c
 hd:X.calm=true→X.A.handled=none
 frames:X.A.frames=some X.stack
 stk:X.stack=X.outer∨(X.stack=X.env::X.outer∧X.env.frame=some X.env.locals)
 exf:∀ b∈X.ex,b≠X.env.locals∧∀ x c,X.env.cells.lookup x=some c→c≠b
 bs:∀ b o,X.base.get? b=some o→X.s₀.heap.get? b=some o∧X.H₀ b=none
 bsz:X.base.objs.size≤X.s₀.heap.objs.size
 noex:∀ b o,X.base.get? b=some o→b∉X.ex
 exfs:∀ b∈X.ex,b∉X.fs
 funs:X.s₀.heap.FunFrames X.base X.outer
 frf:∀ b∈X.fs,X.H₀ b=none
structure Inv (X:Cx) (pins:List (Addr×Obj)) (σ:List (Option V)) (H:Hp) (s:Shared):Prop where
 ok:X.Ok
 os:s.os=X.s₀.os
 bare:AllBare s.gens
 base:Un X.fs X.ex X.H₀ H X.s₀.heap s.heap
 loc:∃ m,s.heap.Ns X.env.locals m∧∀ (i:Nat) (x:Str) (v:V),X.N[i]?=some x→σ[i]?=some (some v)→Vis X.env.scope x→∃ u,RelV v u∧Look X.env s.heap m x u
 cell:∀ x c,X.env.cells.lookup x=some c→∃ v,s.heap.IsCell c v
 free:H X.env.locals=none
 freeC:∀ x c,X.env.cells.lookup x=some c→H c=none
 pin:∀ p∈X.pn++pins,s.heap.get? p.1=some p.2∧H p.1=none∧p.1≠X.env.locals∧p.1∉X.fs∧∀ v,p.2.data≠.cell v
 hok:HOk X.prog X.w H s.heap
 len:σ.length=X.N.length
section
variable {X:Cx}{pins:List (Addr×Obj)}{σ:List (Option V)}{H H':Hp}{s:Shared}{h':Heap}
theorem Cx.Ok.nofr (ok:X.Ok) {b:Addr}{o:Obj} (e:X.base.get? b=some o):b∉X.fs:=fun hb=>by
 have:=(ok.funs.mem hb).1
 rw [e] at this;cases this
theorem Inv.bs (I:Inv X pins σ H s):∀ b o,X.base.get? b=some o→s.heap.get? b=some o∧H b=none:=fun b o e =>
 ⟨I.base.keep b o (I.ok.bs b o e).1 (I.ok.bs b o e).2 (I.ok.nofr e) (I.ok.noex b o e),I.base.free b o (I.ok.bs b o e).1 (I.ok.bs b o e).2 (I.ok.noex b o e)⟩
theorem Inv.bk (I:Inv X pins σ H s):∀ b o,X.base.get? b=some o→s.heap.get? b=some o:=fun b o e=>(I.bs b o e).1
theorem Inv.mod (I:Inv X pins σ H s):Mod X.K X.mg X.base:=I.ok.mod
theorem Inv.kIn (I:Inv X pins σ H s):X.K.In s.heap:=I.ok.mod.kin.keeps I.bk
theorem Inv.fr (I:Inv X pins σ H s):∃ m,Fr X.base X.env.locals s.heap m :=
 let ⟨m,hn,_⟩:=I.loc
 ⟨m,hn,I.bk,Nat.le_trans I.ok.bsz I.ok.above⟩
theorem Inv.lt (I:Inv X pins σ H s):X.env.locals<s.heap.objs.size:=let ⟨_,hn,_⟩:=I.loc;hn.lt
theorem Inv.sz (I:Inv X pins σ H s):X.s₀.heap.objs.size≤s.heap.objs.size:=Nat.le_trans I.ok.above (Nat.le_of_lt I.lt)
theorem Inv.nofs (I:Inv X pins σ H s) {a:Addr} (h:s.heap.objs.size≤a):a∉X.fs:=fun hb=>by
 obtain ⟨_,o,ho,_⟩:=I.ok.funs.mem hb
 exact absurd (Nat.lt_of_lt_of_le (Heap.lt_size ho) (Nat.le_trans I.sz h)) (Nat.lt_irrefl _)
theorem Inv.cne (I:Inv X pins σ H s):∀ x c,X.env.cells.lookup x=some c→c≠X.env.locals:=fun x c e z=>by
 obtain ⟨v,o,ho,hd⟩:=I.cell x c e
 obtain ⟨m,⟨o',es,ep,ho',hd',_⟩,_⟩:=I.loc
 rw [z,ho'] at ho;cases ho;rw [hd'] at hd;cases hd
theorem Inv.funs (I:Inv X pins σ H s):s.heap.FunFrames X.base X.outer:=by
 have all:∀ (l:List Env),(∀ b∈frs l,b∈X.fs)→X.s₀.heap.FunFrames X.base l→s.heap.FunFrames X.base l:=by
  intro l
  induction l with
  | nil=>intro _ _;trivial
  | cons env r ih =>
   intro hs hl
   obtain ⟨hk,⟨L,o,hf,hn,ho,hd⟩,hr⟩:=hl
   have hL:L∈X.fs:=hs L (by unfold frs;rw [List.filterMap_cons,hf];exact List.mem_cons_self)
   obtain ⟨sl,e⟩:=I.base.slot L o ho (I.ok.frf L hL) hL fun z=>I.ok.exfs L z hL
   exact ⟨hk,⟨L,_,hf,hn,e,hd⟩,ih (fun b hb=>hs b (by unfold frs;rw [List.filterMap_cons,hf];exact List.mem_cons_of_mem _ hb)) hr⟩
 exact all X.outer (fun _ hb=>hb) I.ok.funs
theorem Inv.stack (I:Inv X pins σ H s):s.heap.FunFrames X.base X.stack:=by
 rcases I.ok.stk with e | ⟨e,hf⟩
 ·rw [e];exact I.funs
 ·rw [e]
  obtain ⟨m,hn,_⟩:=I.loc
  refine .cons (by rw [I.ok.kind];decide) hf hn ?_ I.funs
  exact Heap.get?_none_of_le (Nat.le_trans I.ok.bsz I.ok.above)
theorem Inv.stkSub (I:Inv X pins σ H s):∀ b∈frs X.stack,b∈X.env.locals::X.fs:=fun b hb=>by
 rcases I.ok.stk with e | ⟨e,hf⟩
 ·rw [e] at hb;exact List.mem_cons_of_mem _ hb
 ·rw [e] at hb
  unfold frs at hb
  rw [List.filterMap_cons,hf] at hb
  exact hb
theorem Inv.stkFree (I:Inv X pins σ H s):∀ b∈frs X.stack,H b=none:=fun b hb=>by
 rcases List.mem_cons.mp (I.stkSub b hb) with e | hb
 ·rw [e];exact I.free
 ·obtain ⟨_,o,ho,_⟩:=I.ok.funs.mem hb
  exact I.base.free b o ho (I.ok.frf b hb) fun z=>I.ok.exfs b z hb
theorem Inv.step {g':Array GenState}{t':Nat}{d':Drawn}{ch:List Addr} (I:Inv X pins σ H s)
  (hch:∀ b∈ch,(b∈X.ex∨X.s₀.heap.objs.size≤b)∧b≠X.env.locals∧(∀ x c,X.env.cells.lookup x=some c→c≠b)∧∀ p∈X.pn++pins,p.1≠b)
  (keep:∀ b o,b≠X.env.locals→b∉X.fs→b∉ch→s.heap.get? b=some o→H b=none→h'.get? b=some o)
  (slot:∀ b o,b≠X.env.locals→b∈X.fs→b∉ch→s.heap.get? b=some o→H b=none→∃ sl,h'.get? b=some { o with slots:=sl }) (free:∀ b o,b∉ch→s.heap.get? b=some o→H b=none→H' b=none)
  (there:∀ b o,b∉ch→s.heap.get? b=some o→∃ o',h'.get? b=some o')
  (tups:∀ b xs,H b=some (.tup xs)→H' b=some (.tup xs)) (frzs:∀ b o u,H b=some (.frz o u)→H' b=some (.frz o u)) (tbls:∀ b ps,H b=some (.tbl ps)→∃ more,H' b=some (.tbl (ps++more)))
  (ns:∀ m,s.heap.Ns X.env.locals m→h'.Ns X.env.locals m) (hok:HOk X.prog X.w H' h') (hg:AllBare g') :
  Inv X pins σ H' { s with heap:=h',gens:=g',drawn:=d',toks:=t' }:=by
 have neL:∀ b o,X.s₀.heap.get? b=some o→b≠X.env.locals:=fun b o e=>Nat.ne_of_lt (Nat.lt_of_lt_of_le (Heap.lt_size e) I.ok.above)
 have neC:∀ b o,X.s₀.heap.get? b=some o→b∉X.ex→b∉ch:=fun b o e hx hb=>by
  rcases (hch b hb).1 with z | z
  ·exact hx z
  ·exact absurd (Nat.lt_of_lt_of_le (Heap.lt_size e) z) (Nat.lt_irrefl _)
 have cellK:∀ x c,X.env.cells.lookup x=some c→∀ v,s.heap.IsCell c v→h'.IsCell c v:=fun x c e v ⟨o,ho,hd⟩=>by
  have nch:c∉ch:=fun z=>(hch c z).2.2.1 x c e rfl
  by_cases hc:c∈X.fs
  ·obtain ⟨sl,q⟩:=slot c o (I.cne x c e) hc nch ho (I.freeC x c e)
   exact ⟨_,q,hd⟩
  ·exact ⟨o,keep c o (I.cne x c e) hc nch ho (I.freeC x c e),hd⟩
 refine ⟨I.ok,I.os,hg,⟨fun b o e n hb hx=>?_,fun b o e n hb hx=>?_,fun b o e n hx=>?_,fun b o e hx=>?_,fun b xs e=>tups b xs (I.base.tups b xs e),fun b o xs e=>frzs b o xs (I.base.frzs b o xs e),fun b ps e=>?_⟩,?_,fun x c e=>?_,?_,fun x c e=>?_,fun p hp=>?_,hok,I.len⟩
 ·exact keep b o (neL b o e) hb (neC b o e hx) (I.base.keep b o e n hb hx) (I.base.free b o e n hx)
 ·obtain ⟨sl,e1⟩:=I.base.slot b o e n hb hx
  obtain ⟨sl',e2⟩:=slot b _ (neL b o e) hb (neC b o e hx) e1 (I.base.free b o e n hx)
  exact ⟨sl',e2⟩
 ·obtain ⟨o',e1⟩:=I.base.there b o e hx
  exact free b o' (neC b o e hx) e1 (I.base.free b o e n hx)
 ·obtain ⟨o',e1⟩:=I.base.there b o e hx
  exact there b o' (neC b o e hx) e1
 ·obtain ⟨m1,e1⟩:=I.base.tbls b ps e
  obtain ⟨m2,e2⟩:=tbls b _ e1
  exact ⟨m1++m2,by rw [e2,Array.append_assoc]⟩
 ·obtain ⟨m,hn,hl⟩:=I.loc
  refine ⟨m,ns m hn,fun i x v e1 e2 e3=>?_⟩
  obtain ⟨u,r,l⟩:=hl i x v e1 e2 e3
  refine ⟨u,r,?_⟩
  rcases l with l | ⟨k,c,e,z⟩
  ·exact .inl l
  ·exact .inr ⟨k,c,e,cellK x c e _ z⟩
 ·obtain ⟨v,z⟩:=I.cell x c e
  exact ⟨v,cellK x c e v z⟩
 ·obtain ⟨m,⟨o,_,_,ho,_⟩,_⟩:=I.loc
  exact free _ o (fun z=>(hch _ z).2.1 rfl) ho I.free
 ·obtain ⟨v,o,ho,hd⟩:=I.cell x c e
  exact free c o (fun z=>(hch c z).2.2.1 x c e rfl) ho (I.freeC x c e)
 ·obtain ⟨e,n,ne,nf,d⟩:=I.pin p hp
  have nch:p.1∉ch:=fun z=>(hch p.1 z).2.2.2 p hp rfl
  exact ⟨keep p.1 p.2 ne nf nch e n,free p.1 p.2 nch e n,ne,nf,d⟩
theorem Inv.un {t':Nat} (I:Inv X pins σ H s) (u:Un X.fs [] H H' s.heap h') (hok:HOk X.prog X.w H' h'):Inv X pins σ H' { s with heap:=h',toks:=t' }:=by
 obtain ⟨m,⟨o,es,ep,ho,r⟩,_⟩:=id I.loc
 obtain ⟨sl,hL⟩:=u.any ho I.free (by simp)
 exact I.step (g':=s.gens) (d':=s.drawn) (ch:=[]) (fun _ z=>nomatch z) (fun b o _ hb _ e n=>u.keep b o e n hb (by simp)) (fun b o _ hb _ e n=>u.slot b o e n hb (by simp)) (fun b o _ e n=>u.free b o e n (by simp)) (fun b o _ e=>u.there b o e (by simp)) u.tups u.frzs u.tbls (fun m' hm=>by
  obtain ⟨o',es',ep',ho',r'⟩:=hm
  rw [ho] at ho';cases ho'
  exact ⟨_,es',ep',hL,r'⟩) hok I.bare
theorem Inv.call {g':Array GenState}{t':Nat}{d':Drawn}{ch:List Addr} (I:Inv X pins σ H s) (u:Un (frs X.stack) ch H H' s.heap h') (hok:HOk X.prog X.w H' h') (hg:AllBare g')
  (hch:∀ b∈ch,(b∈X.ex∨X.s₀.heap.objs.size≤b)∧b≠X.env.locals∧(∀ x c,X.env.cells.lookup x=some c→c≠b)∧∀ p∈X.pn++pins,p.1≠b) :
  Inv X pins σ H' { s with heap:=h',gens:=g',drawn:=d',toks:=t' }:=by
 obtain ⟨m,⟨o,es,ep,ho,r⟩,_⟩:=id I.loc
 obtain ⟨sl,hL⟩:=u.any ho I.free fun z=>(hch _ z).2.1 rfl
 exact I.step (ch:=ch) hch (fun b o hL hb hc e n=>u.keep b o e n (fun z=>(List.mem_cons.mp (I.stkSub b z)).elim hL hb) hc) (fun b o _ _ hc e n=>u.any e n hc) (fun b o hc e n=>u.free b o e n hc) (fun b o hc e=>u.there b o e hc) u.tups u.frzs u.tbls (fun m' hm=>by
  obtain ⟨o',es',ep',ho',r'⟩:=hm
  rw [ho] at ho';cases ho'
  exact ⟨_,es',ep',hL,r'⟩) hok hg
theorem Inv.turned {t':Nat}{it:Addr} (I:Inv X pins σ H s) (k:∀ b o,b≠it→s.heap.get? b=some o→h'.get? b=some o) (hn:H it=none) (hL:it≠X.env.locals)
  (h1:it∈X.ex∨X.s₀.heap.objs.size≤it) (h2:∀ x c,X.env.cells.lookup x=some c→c≠it) (h3:∀ p∈X.pn++pins,p.1≠it):Inv X pins σ H { s with heap:=h',toks:=t' }:=by
 have nit:∀ b u,H b=some u→b≠it:=fun b u e z=>by rw [z,hn] at e;cases e
 refine I.step (g':=s.gens) (d':=s.drawn) (ch:=[it]) (fun b hb=>?_) (fun b o _ _ hc e _=>k b o (fun z=>hc (by simp [z])) e) (fun b o _ _ hc e _=>⟨o.slots,k b o (fun z=>hc (by simp [z])) e⟩) (fun _ _ _ _ n=>n)
  (fun b o hc e=>⟨o,k b o (fun z=>hc (by simp [z])) e⟩) (fun _ _ e=>e) (fun _ _ _ e=>e) (fun b ps e=>⟨#[],by rw [e];simp⟩) (fun m hm=>?_) (fun b u e=>?_) I.bare
 ·have e:b=it:=by simpa using hb
  subst e
  exact ⟨h1,hL,h2,h3⟩
 ·obtain ⟨o,es,ep,ho,r⟩:=hm
  exact ⟨o,es,ep,k _ o (Ne.symm hL) ho,r⟩
 ·refine (I.hok b u e).stay (fun c v hc q=>k c v ?_ q) (fun _ q=>q) fun _ _ q=>q
  rcases hc with z | z
  ·rw [z];exact nit b u e
  ·exact nit c _ z
theorem Inv.tok (I:Inv X pins σ H s) (t:Nat):Inv X pins σ H { s with toks:=t }:=I.un (h':=s.heap) (t':=t) Un.refl I.hok
theorem Inv.kept {t':Nat} (I:Inv X pins σ H s) (k:∀ b u,s.heap.get? b=some u→h'.get? b=some u):Inv X pins σ H { s with heap:=h',toks:=t' }:=I.un (Un.kept k) (I.hok.kept k)
theorem Inv.laid {a:Addr}{o:HO}{t':Nat} (I:Inv X pins σ H s) (k:∀ b u,s.heap.get? b=some u→h'.get? b=some u) (hp:s.heap.objs.size≤a) (new:ObjOk X.prog X.w (upd H a o) h' a o) :
  Inv X pins σ (upd H a o) { s with heap:=h',toks:=t' }:=I.un (Un.laid k hp (I.hok.fresh hp)) (I.hok.laid k hp new)
theorem Inv.write {x e:Addr}{o:HO}{t':Nat} (I:Inv X pins σ H s) (mu:Mut (H x)) (he:e=x∨H e=some (.own x)) (k:∀ b u,b≠e→s.heap.get? b=some u→h'.get? b=some u) (heo:∃ u,h'.get? e=some u)
  (new:ObjOk X.prog X.w (upd H x o) h' x o):Inv X pins σ (upd H x o) { s with heap:=h',toks:=t' }:=I.un (Un.write mu he k heo) (I.hok.write mu he k heo new)
theorem Inv.weak {σ':List (Option V)} (I:Inv X pins σ H s) (hl:σ'.length=σ.length) (w:∀ (i:Nat) v,σ'[i]?=some (some v)→σ[i]?=some (some v)):Inv X pins σ' H s :=
 ⟨I.ok,I.os,I.bare,I.base,let ⟨m,hn,hl'⟩:=I.loc;⟨m,hn,fun i x v e1 e2 e3=>hl' i x v e1 (w i v e2) e3⟩,I.cell,I.free,I.freeC,I.pin,I.hok,hl.trans I.len⟩
theorem Inv.pins_of {pins':List (Addr×Obj)} (I:Inv X pins σ H s) (h:∀ p∈pins',s.heap.get? p.1=some p.2∧H p.1=none∧p.1≠X.env.locals∧p.1∉X.fs∧∀ v,p.2.data≠.cell v):Inv X pins' σ H s :=
 ⟨I.ok,I.os,I.bare,I.base,I.loc,I.cell,I.free,I.freeC,fun p hp=>(List.mem_append.mp hp).elim (fun z=>I.pin p (List.mem_append_left _ z)) (h p),I.hok,I.len⟩
theorem u6k {N:List Str} (hN:N.Nodup) {i j:Nat}{x:Str} (a:N[i]?=some x) (b:N[j]?=some x):i=j:=by
 obtain ⟨h1,e1⟩:=List.getElem?_eq_some_iff.mp a
 obtain ⟨h2,e2⟩:=List.getElem?_eq_some_iff.mp b
 exact (List.getElem_inj hN).mp (e1.trans e2.symm)
theorem u6z {M:Model}{A:Around}{E:Value→Shared→Prop}{i:Nat}{x:Str}{v:V}{u:Value}{Q:Unit→Shared→Prop} (I:Inv X pins σ H s) (hN:X.N.Nodup) (hi:X.N[i]?=some x) (hx:Loc X.env.scope x) (r:RelV v u)
  (h:∀ s',Inv X pins (σ.set i (some v)) H s'→(∃ a,Heap.SameBut a s.heap s'.heap∧(a=X.env.locals∨X.env.cells.lookup x=some a))→Q () s') (hf:X.fn x=true∨X.env.scope.names.lookup x=some .local:=by first | exact .inl rfl | exact .inr rfl | assumption):wpAny M A (storeName X.env x u) Q E s:=by
 obtain ⟨m,hn,hl⟩:=id I.loc
 have hcls:(X.env.scope.kind==.class||(X.env.scope.kind==.module&&X.env.locals != X.env.globals))=false:=by rw [I.ok.kind];rfl
 have hiσ:i<σ.length:=by rw [I.len];exact (List.getElem?_eq_some_iff.mp hi).1
 have cne:=I.cne
 have tracked:∀ {a:Addr}{h':Heap},(∃ o,s.heap.get? a=some o∧H a=none)→Heap.SameBut a s.heap h'→HOk X.prog X.w H h':=fun {a h'} ha hs b ob e=>by
  obtain ⟨_,_,hfree⟩:=ha
  refine (I.hok b ob e).stay (fun c w' hc q=>(hs.2 c ?_).trans q) (fun _ q=>q) fun _ _ q=>q
  rintro rfl
  rcases hc with rfl | hc
  ·rw [hfree] at e;cases e
  ·rw [hfree] at hc;cases hc
 rcases hx with hk | hk
 ·refine wpAny_storeName_local hk hn (fun h' hn' hs=>?_) hcls
  obtain ⟨oL,_,_,hoL,_⟩:=id hn
  refine h _ ⟨I.ok,I.os,I.bare,⟨fun b o e n hb hx=>?_,fun b o e n hb hx=>?_,I.base.free,fun b o e hx=>?_,I.base.tups,I.base.frzs,I.base.tbls⟩,⟨_,hn',fun j y v' e1 e2 e3=>?_⟩,fun y c e=>?_,I.free,I.freeC,fun p hp=>?_,tracked ⟨oL,hoL,I.free⟩ hs,by simpa using I.len⟩ ⟨_,hs,.inl rfl⟩
  ·exact (hs.2 b (Nat.ne_of_lt (Nat.lt_of_lt_of_le (Heap.lt_size e) I.ok.above))).trans (I.base.keep b o e n hb hx)
  ·obtain ⟨sl,e1⟩:=I.base.slot b o e n hb hx
   exact ⟨sl,(hs.2 b (Nat.ne_of_lt (Nat.lt_of_lt_of_le (Heap.lt_size e) I.ok.above))).trans e1⟩
  ·obtain ⟨o',e1⟩:=I.base.there b o e hx
   exact ⟨o',(hs.2 b (Nat.ne_of_lt (Nat.lt_of_lt_of_le (Heap.lt_size e) I.ok.above))).trans e1⟩
  ·by_cases hj:j=i
   ·subst hj
    rw [hi] at e1;cases e1
    rw [List.getElem?_set_self hiσ] at e2
    cases e2
    exact ⟨u,r,.inl ⟨hk,by simp⟩⟩
   ·rw [List.getElem?_set_ne (Ne.symm hj)] at e2
    obtain ⟨u',r',q⟩:=hl j y v' e1 e2 e3
    refine ⟨u',r',?_⟩
    rcases q with ⟨k,e⟩ | ⟨k,c,e,z⟩
    ·refine .inl ⟨k,?_⟩
     have:y≠x:=fun e=>hj (u6k hN e1 (e ▸ hi))
     simp [this,e]
    ·exact .inr ⟨k,c,e,z.sameBut hs (cne y c e)⟩
  ·obtain ⟨w',z⟩:=I.cell y c e
   exact ⟨w',z.sameBut hs (cne y c e)⟩
  ·obtain ⟨e,n,ne,nf,d⟩:=I.pin p hp
   exact ⟨(hs.2 p.1 ne).trans e,n,ne,nf,d⟩
 ·have hfn:X.fn x=true:=by
   rcases hf with z | z
   ·exact z
   ·rw [z] at hk;cases hk
  obtain ⟨c,hc⟩:=I.ok.has x (.inl hk)
  obtain ⟨w',z⟩:=I.cell x c hc
  refine wpAny_storeName_cell I.ok.kind hk hc z (fun h' hc' hs=>?_)
  obtain ⟨oc,hoc,hocd⟩:=id z
  refine h { s with heap:=h' } ⟨I.ok,I.os,I.bare,⟨fun b o e n hb hx=>?_,fun b o e n hb hx=>?_,I.base.free,fun b o e hx=>?_,I.base.tups,I.base.frzs,I.base.tbls⟩,⟨m,hn.sameBut hs (Ne.symm (cne x c hc)),fun j y v' e1 e2 e3=>?_⟩,fun y c' e=>?_,I.free,I.freeC,fun p hp=>?_,tracked ⟨oc,hoc,I.freeC x c hc⟩ hs,by simpa using I.len⟩ ⟨c,hs,.inr hc⟩
  ·exact (hs.2 b (Nat.ne_of_lt (Nat.lt_of_lt_of_le (Heap.lt_size e) (I.ok.cab x c hfn hc)))).trans (I.base.keep b o e n hb hx)
  ·obtain ⟨sl,e1⟩:=I.base.slot b o e n hb hx
   exact ⟨sl,(hs.2 b (Nat.ne_of_lt (Nat.lt_of_lt_of_le (Heap.lt_size e) (I.ok.cab x c hfn hc)))).trans e1⟩
  ·obtain ⟨o',e1⟩:=I.base.there b o e hx
   exact ⟨o',(hs.2 b (Nat.ne_of_lt (Nat.lt_of_lt_of_le (Heap.lt_size e) (I.ok.cab x c hfn hc)))).trans e1⟩
  ·by_cases hj:j=i
   ·subst hj
    rw [hi] at e1;cases e1
    rw [List.getElem?_set_self hiσ] at e2
    cases e2
    exact ⟨u,r,.inr ⟨.inl hk,c,hc,hc'⟩⟩
   ·rw [List.getElem?_set_ne (Ne.symm hj)] at e2
    obtain ⟨u',r',q⟩:=hl j y v' e1 e2 e3
    refine ⟨u',r',?_⟩
    rcases q with q | ⟨k,c',e,z'⟩
    ·exact .inl q
    ·refine .inr ⟨k,c',e,z'.sameBut hs ?_⟩
     rintro rfl
     exact hj (u6k hN e1 (I.ok.inj _ _ _ e hc ▸ hi))
  ·by_cases hcc:c'=c
   ·subst hcc;exact ⟨_,hc'⟩
   ·obtain ⟨w2,z2⟩:=I.cell y c' e
    exact ⟨w2,z2.sameBut hs hcc⟩
  ·obtain ⟨e,n,ne,nf,d⟩:=I.pin p hp
   refine ⟨(hs.2 p.1 ?_).trans e,n,ne,nf,d⟩
   intro q
   rw [q,hoc] at e
   have q':oc=p.2:=Option.some.inj e
   exact d w' (by rw [← q'];exact hocd)
theorem u4y {M:Model}{A:Around}{E:Value→Shared→Prop}{i:Nat}{x:Str}{v:V}{u:Value}{Q:Unit→Shared→Prop} (I:Inv X pins σ H s) (hN:X.N.Nodup) (hi:X.N[i]?=some x) (hx:Loc X.env.scope x) (r:RelV v u)
  (h:∀ s',Inv X pins (σ.set i (some v)) H s'→Q () s') (hf:X.fn x=true∨X.env.scope.names.lookup x=some .local:=by first | exact .inl rfl | exact .inr rfl | assumption):wpAny M A (storeName X.env x u) Q E s :=
 u6z I hN hi hx r (fun s' I' _=>h s' I') hf
theorem Inv.call' {s':Shared}{ch:List Addr} (I:Inv X pins σ H s) (ho:s'.os=s.os) (u:Un (frs X.stack) ch H H' s.heap s'.heap) (hok:HOk X.prog X.w H' s'.heap) (hg:AllBare s'.gens)
  (hch:∀ b∈ch,(b∈X.ex∨X.s₀.heap.objs.size≤b)∧b≠X.env.locals∧(∀ x c,X.env.cells.lookup x=some c→c≠b)∧∀ p∈X.pn++pins,p.1≠b):Inv X pins σ H' s':=by
 obtain ⟨h',g',d',t',o'⟩:=s'
 have e:o'=s.os:=ho
 subst e
 exact I.call (g':=g') (t':=t') (d':=d') u hok hg hch
end
noncomputable abbrev XK:=Value→Option Addr→Hp→Prop
noncomputable abbrev St:=List (Option V)
noncomputable abbrev VK:=V→Hp→Prop
noncomputable abbrev TE:=St→Hp→VK→Prop
noncomputable abbrev TT:=St→Hp→(Bool→Hp→Prop)→Prop
noncomputable abbrev TA:=St→Hp→(List V→Hp→Prop)→Prop
structure Ends where
 nx:St→Hp→Prop
 rt:VK
 bk:St→Hp→Prop:=fun _ _=>False
 ct:St→Hp→Prop:=fun _ _=>False
noncomputable abbrev TS:=Ends→St→Hp→Prop
noncomputable def EP (X:Cx) (pins:List (Addr×Obj)) (σ:St) (Q:VK) (u:Value) (s':Shared):Prop:=∃ v H',Inv X pins σ H' s'∧RelV v u∧Q v H'
noncomputable def TP (X:Cx) (pins:List (Addr×Obj)) (σ:St) (Q:Bool→Hp→Prop) (b:Bool) (s':Shared):Prop:=∃ H',Inv X pins σ H' s'∧Q b H'
noncomputable def AP (X:Cx) (pins:List (Addr×Obj)) (σ:St) (Q:List V→Hp→Prop) (us:List Value) (s':Shared):Prop:=∃ vs H',Inv X pins σ H' s'∧Vals vs us∧Q vs H'
noncomputable def SP (X:Cx) (pins:List (Addr×Obj)) (D:Ends) (f:Flow) (s':Shared):Prop :=
 match f with
 | .next=>∃ σ' H',Inv X pins σ' H' s'∧D.nx σ' H'
 | .brk=>∃ σ' H',Inv X pins σ' H' s'∧D.bk σ' H'
 | .cont=>∃ σ' H',Inv X pins σ' H' s'∧D.ct σ' H'
 | .ret u=>∃ v σ' H',Inv X pins σ' H' s'∧RelV v u∧D.rt v H'
noncomputable def PE (X:Cx) (e:Expr) (t:TE):Prop :=
 ∀ (pins:List (Addr×Obj)) (s:Shared) (σ:St) (H:Hp) (Q:VK),Inv X pins σ H s→t σ H Q→wpAny (model X.prog X.w) X.A (eval e X.env) (EP X pins σ Q) X.xe s
noncomputable def PT (X:Cx) (e:Expr) (t:TT):Prop :=
 ∀ (pins:List (Addr×Obj)) (s:Shared) (σ:St) (H:Hp) (Q:Bool→Hp→Prop),Inv X pins σ H s→t σ H Q→wpAny (model X.prog X.w) X.A (isTrue e X.env (eval e X.env)) (TP X pins σ Q) X.xe s
noncomputable def PW (X:Cx) (e:Expr) (t:TT):Prop :=
 ∀ (whole:Sem Value) (pins:List (Addr×Obj)) (s:Shared) (σ:St) (H:Hp) (Q:Bool→Hp→Prop),Inv X pins σ H s→t σ H Q→wpAny (model X.prog X.w) X.A (isTrue e X.env whole) (TP X pins σ Q) X.xe s
theorem PW.pt {X:Cx}{e:Expr}{t:TT} (h:PW X e t):PT X e t:=h _
noncomputable def PA (X:Cx) (es:List Expr) (t:TA):Prop :=
 ∀ (pos:Pos) (pins:List (Addr×Obj)) (s:Shared) (σ:St) (H:Hp) (Q:List V→Hp→Prop),Inv X pins σ H s→t σ H Q→wpAny (model X.prog X.w) X.A (spliced (backTo pos (starEach es X.env))) (AP X pins σ Q) X.xe s
noncomputable def PS (X:Cx) (st:Stmt) (t:TS):Prop :=
 ∀ (pins:List (Addr×Obj)) (s:Shared) (σ:St) (H:Hp) (D:Ends),Inv X pins σ H s→t D σ H→wpAny (model X.prog X.w) X.A (exec st X.env) (SP X pins D) X.xe s
noncomputable def PSs (X:Cx) (st:List Stmt) (t:TS):Prop :=
 ∀ (pins:List (Addr×Obj)) (s:Shared) (σ:St) (H:Hp) (D:Ends),Inv X pins σ H s→t D σ H→wpAny (model X.prog X.w) X.A (execs st X.env) (SP X pins D) X.xe s
theorem thn {α:Type}{t:Sem α}{Q Q':α→Shared→Prop}{M:Model}{A:Around}{E:Value→Shared→Prop}{s:Shared} (h:wpAny M A t Q E s) (hQ:∀ a s,Q a s→Q' a s):wpAny M A t Q' E s:=wpAny_mono h hQ fun _ _ x=>x
section
variable {X:Cx}
theorem bin {a b:Expr}{ta tb:TE} (ha:PE X a ta) (hb:PE X b tb) {pins:List (Addr×Obj)}{s:Shared}{σ:St}{H:Hp}{R:V→V→Hp→Prop} (I:Inv X pins σ H s) (h:ta σ H fun x H1=>tb σ H1 fun y H2=>R x y H2)
  {α:Type}{Q:α→Shared→Prop}{f:Value→Value→Sem α}
  (hf:∀ v u s2 x y H2,Inv X pins σ H2 s2→RelV x v→RelV y u→R x y H2→wpAny (model X.prog X.w) X.A (f v u) Q X.xe s2) :
  wpAny (model X.prog X.w) X.A (eval a X.env) (fun v s₁=>wpAny (model X.prog X.w) X.A (eval b X.env) (fun u s₂=>wpAny (model X.prog X.w) X.A (f v u) Q X.xe s₂) X.xe s₁) X.xe s:=by
 refine thn (ha pins s σ H _ I h) fun v s1 ⟨x,H1,I1,r1,q1⟩=>?_
 refine thn (hb pins s1 σ H1 _ I1 q1) fun u s2 ⟨y,H2,I2,r2,q2⟩=>?_
 exact hf v u s2 x y H2 I2 r1 r2 q2
noncomputable def tVar (i:Nat):TE:=fun σ H Q=>∃ v,σ[i]?=some (some v)∧Q v H
noncomputable def tC (v:V):TE:=fun _ H Q=>Q v H
theorem u4h {i:Nat}{x:Str}{pos:Pos} (hN:X.N[i]?=some x) (hv:Vis X.env.scope x) (hd:(x==("__debug__":Str))=false:=by decide) (hcd:(x==("__classdict__":Str))=false:=by decide):PE X (.Name x pos) (tVar i):=by
 intro pins s σ H Q I h
 obtain ⟨v,e,h⟩:=h
 obtain ⟨m,hn,hl⟩:=I.loc
 obtain ⟨u,r,l⟩:=hl i x v hN e hv
 have fin:EP X pins σ Q u s:=⟨v,H,I,r,h⟩
 rcases l with ⟨hk,hm⟩ | ⟨hk,c,hc,hcell⟩
 ·exact wpAny_Name (wpAny_loadName_local I.ok.kind hk hn hm fin) hd
 ·rcases hk with hk | hk
  ·exact wpAny_Name (wpAny_loadName_cell I.ok.kind hk hc hcell fin) hd
  ·exact wpAny_Name (wpAny_loadName_free I.ok.kind hk hc hcell fin hcd) hd
theorem pe_int {i j pos}:PE X (.Constant (.int i) j pos) (tC (.int i)):=fun _ _ _ H _ I h=>wpAny_Constant_int ⟨.int i,H,I.tok _,⟨_,rfl⟩,h⟩
theorem pe_bl {b j pos}:PE X (.Constant (.bool b) j pos) (tC (.bl b)):=fun _ _ _ H _ I h=>Constant_bool ⟨.bl b,H,I,rfl,h⟩
theorem pe_non {j pos}:PE X (.Constant .none j pos) (tC .non):=fun _ _ _ H _ I h=>Constant_none ⟨.non,H,I,rfl,h⟩
theorem v3m {x j pos}:PE X (.Constant (.str x) j pos) (tC (.str x)):=fun _ _ _ H _ I h=>Calls.Constant_str ⟨.str x,H,I.tok _,⟨_,rfl⟩,h⟩
noncomputable def Gl (X:Cx) (x:Str):Prop:=X.env.kindOf x=some .globalImplicit
theorem u3A {E:Value→Shared→Prop}{pins:List (Addr×Obj)}{s:Shared}{σ:St}{H:Hp}{x:Str}{u:Value}{pos:Pos}{Q:Value→Shared→Prop} (I:Inv X pins σ H s) (hg:Gl X x) (hm:X.mg x=some u) (h:Q u s)
  (hd:(x==("__debug__":Str))=false:=by decide):wpAny (model X.prog X.w) X.A (eval (.Name x pos) X.env) Q E s :=
 Calls.Name_function_global I.ok.kind hg (Calls.loadGlobal_global (by rw [I.ok.glob];exact I.mod.glob.keeps I.bk) hm h) hd
theorem u7e {E:Value→Shared→Prop}{pins:List (Addr×Obj)}{s:Shared}{σ:St}{H:Hp}{x:Str}{u:Value}{pos:Pos}{Q:Value→Shared→Prop} (I:Inv X pins σ H s) (hg:Gl X x) (hm:X.mg x=none) (hv:bootBuiltins x=some u) (h:Q u s)
  (hn:x≠"__name__":=by decide) (hd:(x==("__debug__":Str))=false:=by decide):wpAny (model X.prog X.w) X.A (eval (.Name x pos) X.env) Q E s:=by
 obtain ⟨mb,h1,h2⟩:=I.mod.blt
 exact Calls.Name_function_global I.ok.kind hg (Calls.loadGlobal_builtin (by rw [I.ok.glob];exact I.mod.glob.keeps I.bk) hm (by rw [I.ok.blt];exact h1.keeps I.bk) ((h2 x hn).trans hv) h) hd
theorem pe_glob {x:Str}{v:V}{u:Value}{pos:Pos} (hg:Gl X x) (hm:X.mg x=some u) (r:RelV v u) (hd:(x==("__debug__":Str))=false:=by decide):PE X (.Name x pos) (tC v) :=
 fun _ _ _ H _ I h=>u3A I hg hm ⟨v,H,I,r,h⟩ hd
theorem pe_bltn {x:Str}{v:V}{u:Value}{pos:Pos} (hg:Gl X x) (hm:X.mg x=none) (hv:bootBuiltins x=some u) (r:RelV v u) (hn:x≠"__name__":=by decide) (hd:(x==("__debug__":Str))=false:=by decide):PE X (.Name x pos) (tC v) :=
 fun _ _ _ H _ I h=>u7e I hg hm hv ⟨v,H,I,r,h⟩ hn hd
variable {a b:Expr}{ta tb:TE}{pos:Pos}
noncomputable def PC (X:Cx) (op:CmpOp) (a b:Expr) (t:TE):Prop :=
 ∀ (pins:List (Addr×Obj)) (s:Shared) (σ:St) (H:Hp) (Q:VK),Inv X pins σ H s→t σ H Q →
  wpAny (model X.prog X.w) X.A (eval a X.env) (fun v s₁=>wpAny (model X.prog X.w) X.A (eval b X.env) (fun u s₂=>wpAny (model X.prog X.w) X.A (compareOp op v u) (EP X pins σ Q) X.xe s₂) X.xe s₁) X.xe s
noncomputable def tB (t:TE):TT:=fun σ H Q=>t σ H fun x H1=>∃ c,x=.bl c∧Q c H1
theorem pt_cmp {op:CmpOp}{t:TE} (h:PC X op a b t) (h1:behindInMarks op b=false:=by first | exact nobehind _ (by decide) (by decide) | rfl):PT X (.Compare a [op] [b] pos) (tB t):=by
 intro pins s σ H Q I hw
 refine wpAny_isTrue_Compare1 (thn (h pins s σ H _ I hw) fun v s1 h1=>thn h1 fun u s2 h2=>thn h2 fun c s3 ⟨x,H1,I1,r1,q1⟩=>?_) h1
 obtain ⟨d,rfl,q⟩:=q1
 cases r1
 exact wpAny_truthy_bool ⟨H1,I1,q⟩
theorem pt_val {e:Expr}{t:TE} (h:PE X e t) (he:∀ whole,isTrue e X.env whole=(do let v ← whole;standAt e.pos;holding [v] (truthy v)):=by intro _;rfl):PT X e (tB t):=by
 intro pins s σ H Q I hw
 refine isTrue_plain (thn (h pins s σ H _ I hw) fun v s1 ⟨x,H1,I1,r1,q1⟩=>?_) (he _)
 obtain ⟨d,rfl,q⟩:=q1
 cases r1
 exact wpAny_truthy_bool ⟨H1,I1,q⟩
variable {tA tB':TT}{rest:List Expr}
noncomputable def tAnd (t u:TT):TT:=fun σ H Q=>t σ H fun c H1=>if c=true then u σ H1 Q else Q false H1
noncomputable def tOr (t u:TT):TT:=fun σ H Q=>t σ H fun c H1=>if c=true then Q true H1 else u σ H1 Q
noncomputable def tNot (t:TT):TT:=fun σ H Q=>t σ H fun c H1=>Q (!c) H1
theorem pw_and1 (ha:PT X a tA):PW X (.BoolOp .And [a] pos) tA:=by
 intro wh pins s σ H Q I h
 refine isTrue_and (thn (ha pins s σ H Q I h) fun c s1 e=>?_)
 cases c with
 | true=>exact isTrue_and_nil e
 | false=>exact e
theorem pw_or1 (ha:PT X a tA):PW X (.BoolOp .Or [a] pos) tA:=by
 intro wh pins s σ H Q I h
 refine isTrue_or (thn (ha pins s σ H Q I h) fun c s1 e=>?_)
 cases c with
 | false=>exact isTrue_or_nil e
 | true=>exact e
theorem pw_and (ha:PT X a tA) (hb:PW X (.BoolOp .And (b::rest) pos) tB'):PW X (.BoolOp .And (a::b::rest) pos) (tAnd tA tB'):=by
 intro wh pins s σ H Q I h
 refine isTrue_and (thn (ha pins s σ H _ I h) fun c s1 ⟨H1,I1,q1⟩=>?_)
 cases c with
 | true=>exact hb wh pins s1 σ H1 Q I1 q1
 | false=>exact ⟨H1,I1,q1⟩
theorem pw_or (ha:PT X a tA) (hb:PW X (.BoolOp .Or (b::rest) pos) tB'):PW X (.BoolOp .Or (a::b::rest) pos) (tOr tA tB'):=by
 intro wh pins s σ H Q I h
 refine isTrue_or (thn (ha pins s σ H _ I h) fun c s1 ⟨H1,I1,q1⟩=>?_)
 cases c with
 | true=>exact ⟨H1,I1,q1⟩
 | false=>exact hb wh pins s1 σ H1 Q I1 q1
theorem pt_not (ha:PT X a tA):PT X (.UnaryOp .Not a pos) (tNot tA):=by
 intro pins s σ H Q I h
 exact isTrue_not (ha pins s σ H (fun c H1=>Q (!c) H1) I h)
noncomputable def tAndV (ta tb:TE):TE:=fun σ H Q=>ta σ H fun x H1=>∃ c,x=.bl c∧if c=true then tb σ H1 Q else Q (.bl false) H1
noncomputable def tOrV (ta tb:TE):TE:=fun σ H Q=>ta σ H fun x H1=>∃ c,x=.bl c∧if c=true then Q (.bl true) H1 else tb σ H1 Q
theorem pe_one {op}{t:TE} (h:PE X a t):PE X (.BoolOp op [a] pos) t:=fun pins s σ H Q I hw=>BoolOp_one (h pins s σ H Q I hw)
theorem pe_and (ha:PE X a ta) (hb:PE X (.BoolOp .And (b::rest) pos) tb):PE X (.BoolOp .And (a::b::rest) pos) (tAndV ta tb):=by
 intro pins s σ H Q I h
 refine BoolOp_and (thn (ha pins s σ H _ I h) fun v s1 ⟨x,H1,I1,r1,q1⟩=>?_)
 obtain ⟨c,rfl,q1⟩:=q1
 cases r1
 refine wpAny_truthy_bool ?_
 cases c with
 | true=>exact hb pins s1 σ H1 Q I1 q1
 | false=>exact ⟨.bl false,H1,I1,rfl,q1⟩
theorem pe_or (ha:PE X a ta) (hb:PE X (.BoolOp .Or (b::rest) pos) tb):PE X (.BoolOp .Or (a::b::rest) pos) (tOrV ta tb):=by
 intro pins s σ H Q I h
 refine BoolOp_or (thn (ha pins s σ H _ I h) fun v s1 ⟨x,H1,I1,r1,q1⟩=>?_)
 obtain ⟨c,rfl,q1⟩:=q1
 cases r1
 refine wpAny_truthy_bool ?_
 cases c with
 | false=>exact hb pins s1 σ H1 Q I1 q1
 | true=>exact ⟨.bl true,H1,I1,rfl,q1⟩
noncomputable def tIf (t:TT) (ta tb:TE):TE:=fun σ H Q=>t σ H fun c H1=>if c=true then ta σ H1 Q else tb σ H1 Q
theorem v2y {c:Expr} (hc:PT X c tA) (ha:PE X a ta) (hb:PE X b tb):PE X (.IfExp c a b pos) (tIf tA ta tb):=by
 intro pins s σ H Q I h
 refine wpAny_IfExp (thn (hc pins s σ H _ I h) fun d s1 ⟨H1,I1,q1⟩=>?_)
 cases d with
 | true=>exact ha pins s1 σ H1 Q I1 q1
 | false=>exact hb pins s1 σ H1 Q I1 q1
end
noncomputable def SqL (K:PySem.W.Frag) (H:Hp) (a:Addr) (xs:List V):Prop :=
 Rd H a (.lst xs) ∨
  ∃ (o:Obj) (its:Array Value) (n:Nat),K.lookup a=some o∧o.cls=.type "list"∧o.dict=none∧o.data=.seq its n∧its.size≤sizeLine∧Vals xs its.toList
noncomputable def SqT (K:PySem.W.Frag) (H:Hp) (a:Addr) (xs:List V):Prop :=
 Rd H a (.tup xs) ∨
  ∃ (o:Obj) (its:Array Value) (n:Nat),K.lookup a=some o∧o.cls=.type "tuple"∧o.data=.seq its n∧its.size≤sizeLine∧Vals xs its.toList
noncomputable def absV:Value→Option V
 | .none=>some .non
 | .bool b=>some (.bl b)
 | .int i _=>some (.int i)
 | .str x _=>some (.str x)
 | .bytes b _=>some (.byt b)
 | .float b _=>some (.flt b)
 | .ref a=>some (.ref a)
 | .type n=>some (.ty n)
 | _=>none
theorem RelV.abs {x:V}{u:Value} (r:RelV x u):absV u=some x:=by
 cases x with
 | non=>cases r;rfl
 | bl _=>cases r;rfl
 | int _=>obtain ⟨t,rfl⟩:=r;rfl
 | str _=>obtain ⟨t,rfl⟩:=r;rfl
 | byt _=>obtain ⟨t,rfl⟩:=r;rfl
 | flt _=>obtain ⟨t,rfl⟩:=r;rfl
 | ref _=>cases r;rfl
 | ty _=>cases r;rfl
theorem RelV.inj {x y:V}{u:Value} (r:RelV x u) (q:RelV y u):x=y:=Option.some.inj (r.abs.symm.trans q.abs)
theorem Vals.inj:∀ {xs ys:List V}{us:List Value},Vals xs us→Vals ys us→xs=ys
 | _,_,_,.nil,.nil=>rfl
 | _,_,_,.cons r t,.cons r' t'=>by rw [r.inj r',Vals.inj t t']
section
variable {X:Cx}{pins:List (Addr×Obj)}{σ:St}{H:Hp}{s:Shared}{a:Addr}{xs ys:List V}
theorem Inv.list (I:Inv X pins σ H s) (h:SqL X.K H a xs):∃ its:List Value,Vals xs its∧PlainL s.heap a its.toArray∧xs.length≤sizeLine:=by
 rcases h with h | ⟨o,its,n,hk,hc,hd,hs,hz,r⟩
 ·obtain ⟨z,its,n,r,e⟩:=h.ok I.hok
  exact ⟨its,r,⟨_,n,e,rfl,rfl,rfl⟩,z⟩
 ·refine ⟨its.toList,r,⟨o,n,I.kIn a o hk,hc,hd,by simpa using hs⟩,?_⟩
  have e:=r.length
  simp only [Array.length_toList] at e
  omega
theorem Inv.tuple (I:Inv X pins σ H s) (h:SqT X.K H a xs):∃ its:List Value,Vals xs its∧IsTup s.heap a its.toArray∧xs.length≤sizeLine:=by
 rcases h with h | ⟨o,its,n,hk,hc,hs,hz,r⟩
 ·obtain ⟨z,its,r,p⟩:=h.ok I.hok
  exact ⟨its,r,p,z⟩
 ·refine ⟨its.toList,r,⟨o,I.kIn a o hk,hc,n,by simpa using hs⟩,?_⟩
  have e:=r.length
  simp only [Array.length_toList] at e
  omega
theorem Inv.list_inj (I:Inv X pins σ H s) (h:SqL X.K H a xs) (h':SqL X.K H a ys):xs=ys:=by
 obtain ⟨its,r,⟨o,n,e,_,_,d⟩,_⟩:=I.list h
 obtain ⟨its',r',⟨o',n',e',_,_,d'⟩,_⟩:=I.list h'
 rw [e] at e';cases e'
 rw [d] at d'
 injection d' with d1 _
 have:its=its':=by simpa using congrArg Array.toList d1
 subst this
 exact r.inj r'
theorem Inv.tuple_inj (I:Inv X pins σ H s) (h:SqT X.K H a xs) (h':SqT X.K H a ys):xs=ys:=by
 obtain ⟨its,r,⟨o,e,_,n,d⟩,_⟩:=I.tuple h
 obtain ⟨its',r',⟨o',e',_,n',d'⟩,_⟩:=I.tuple h'
 rw [e] at e';cases e'
 rw [d] at d'
 injection d' with d1 _
 have:its=its':=by simpa using congrArg Array.toList d1
 subst this
 exact r.inj r'
end
noncomputable abbrev Cx.wish (X:Cx) (E:Value→Shared→Prop):Cx:={ X with xe:=E }
noncomputable abbrev Cx.nox (X:Cx):Cx:=X.wish fun _ _=>False
theorem Cx.Ok.wish {X:Cx} (ok:X.Ok) (E:Value→Shared→Prop):(X.wish E).Ok :=
 ⟨ok.mod,ok.kind,ok.glob,ok.blt,ok.above,ok.inj,ok.has,ok.cab,ok.hd,ok.frames,ok.stk,ok.exf,ok.bs,ok.bsz,ok.noex,ok.exfs,ok.funs,ok.frf⟩
theorem Cx.Ok.unwish {X:Cx}{E:Value→Shared→Prop} (ok:(X.wish E).Ok):X.Ok :=
 ⟨ok.mod,ok.kind,ok.glob,ok.blt,ok.above,ok.inj,ok.has,ok.cab,ok.hd,ok.frames,ok.stk,ok.exf,ok.bs,ok.bsz,ok.noex,ok.exfs,ok.funs,ok.frf⟩
section
variable {X:Cx}{pins:List (Addr×Obj)}{σ:St}{H:Hp}{s:Shared}{E:Value→Shared→Prop}
theorem Inv.wish (I:Inv X pins σ H s) (E:Value→Shared→Prop):Inv (X.wish E) pins σ H s:=⟨I.ok.wish E,I.os,I.bare,I.base,I.loc,I.cell,I.free,I.freeC,I.pin,I.hok,I.len⟩
theorem Inv.unwish (I:Inv (X.wish E) pins σ H s):Inv X pins σ H s:=⟨I.ok.unwish,I.os,I.bare,I.base,I.loc,I.cell,I.free,I.freeC,I.pin,I.hok,I.len⟩
theorem SP.unwish {D:Ends}{f:Flow}{s':Shared} (h:SP (X.wish E) pins D f s'):SP X pins D f s':=by
 cases f with
 | next=>obtain ⟨σ',H',I,q⟩:=h;exact ⟨σ',H',I.unwish,q⟩
 | brk=>obtain ⟨σ',H',I,q⟩:=h;exact ⟨σ',H',I.unwish,q⟩
 | cont=>obtain ⟨σ',H',I,q⟩:=h;exact ⟨σ',H',I.unwish,q⟩
 | ret u=>obtain ⟨v,σ',H',I,r,q⟩:=h;exact ⟨v,σ',H',I.unwish,r,q⟩
theorem PSs.nox {st:List Stmt}{t:TS} (h:PSs X.nox st t):PSs X st t:=fun pins s σ H D I hw =>
 wpAny_mono (h pins s σ H D (I.wish _) hw) (fun _ _ q=>q.unwish) fun _ _ z=>False.elim z
end
section
variable {X:Cx}{st:Stmt}{rest:List Stmt}{t u:TS}{e:Expr}{te:TE}{pos:Pos}
noncomputable def tNext:TS:=fun D σ H=>D.nx σ H
noncomputable def tSeq (t u:TS):TS:=fun D σ H=>t { D with nx:=u D } σ H
theorem pss_nil:PSs X [] tNext:=fun _ _ σ H _ I h=>wpAny_execs_nil ⟨σ,H,I,h⟩
theorem v2u (h1:PS X st t) (h2:PSs X rest u):PSs X (st::rest) (tSeq t u):=by
 intro pins s σ H D I h
 refine wpAny_execs_cons (thn (h1 pins s σ H { D with nx:=u D } I h) fun f s1 q=>?_)
 cases f with
 | next =>
  obtain ⟨σ',H',I',q⟩:=q
  exact h2 pins s1 σ' H' D I' q
 | ret v=>exact q
 | brk=>exact q
 | cont=>exact q
theorem v0P (h1:PS X st t):PSs X [st] t:=by
 intro pins s σ H D I h
 refine wpAny_execs_cons (thn (h1 pins s σ H D I h) fun f s1 q=>?_)
 cases f with
 | next=>exact wpAny_execs_nil q
 | ret v=>exact q
 | brk=>exact q
 | cont=>exact q
theorem Inv.quiet {pins:List (Addr×Obj)}{σ:St}{H:Hp}{s:Shared} (I:Inv X pins σ H s):interactive X.env=false:=by simp [interactive,I.ok.kind]
noncomputable def tDrop (te:TE):TS:=fun D σ H=>te σ H fun _ H1=>D.nx σ H1
theorem u8d (he:PE X e te) (hs:swapsWith e none pos.line X.env=pure false:=by rfl):PS X (.Expr e pos) (tDrop te):=by
 intro pins s σ H D I h
 exact wpAny_Expr_any (thn (he pins s σ H _ I h) fun v s1 ⟨x,H1,I1,r1,q1⟩=>⟨σ,H1,I1,q1⟩) I.quiet hs
noncomputable def tRet (te:TE):TS:=fun D σ H=>te σ H D.rt
theorem ps_ret (he:PE X e te):PS X (.Return (some e) pos) (tRet te):=by
 intro pins s σ H D I h
 exact wpAny_Return_some (thn (he pins s σ H _ I h) fun v s1 ⟨x,H1,I1,r1,q1⟩=>⟨x,σ,H1,I1,r1,q1⟩)
noncomputable def tIfS (c:TT) (t u:TS):TS:=fun D σ H=>c σ H fun b H1=>if b=true then t D σ H1 else u D σ H1
theorem ps_if {c:Expr}{a b:List Stmt}{tc:TT} (hc:PT X c tc) (ha:PSs X a t) (hb:PSs X b u):PS X (.If c a b pos) (tIfS tc t u):=by
 intro pins s σ H D I h
 refine wpAny_If (thn (hc pins s σ H _ I h) fun d s1 ⟨H1,I1,q1⟩=>?_)
 cases d with
 | true=>exact ha pins s1 σ H1 D I1 q1
 | false=>exact hb pins s1 σ H1 D I1 q1
end
noncomputable abbrev TG:=V→St→Hp→(St→Hp→Prop)→Prop
noncomputable abbrev TGs:=List V→St→Hp→(St→Hp→Prop)→Prop
noncomputable def PG (X:Cx) (target:Expr) (t:TG):Prop :=
 ∀ (pins:List (Addr×Obj)) (s:Shared) (σ:St) (H:Hp) (v:V) (u:Value) (Q:St→Hp→Prop),Inv X pins σ H s→RelV v u→t v σ H Q →
  wpAny (model X.prog X.w) X.A (assign target X.env u) (fun _ s'=>∃ σ' H',Inv X pins σ' H' s'∧Q σ' H') X.xe s
noncomputable def PGs (X:Cx) (ts:List Expr) (t:TGs):Prop :=
 ∀ (pins:List (Addr×Obj)) (s:Shared) (σ:St) (H:Hp) (vs:List V) (us:List Value) (Q:St→Hp→Prop),Inv X pins σ H s→Vals vs us→t vs σ H Q →
  wpAny (model X.prog X.w) X.A (assignInOrder ((assignEach ts X.env).map (·.2)) us) (fun _ s'=>∃ σ' H',Inv X pins σ' H' s'∧Q σ' H') X.xe s
section
variable {X:Cx}{pos:Pos}
noncomputable def gName (i:Nat):TG:=fun v σ H Q=>Q (σ.set i (some v)) H
theorem pg_name {i:Nat}{x:Str} (hN:X.N.Nodup) (hi:X.N[i]?=some x) (hx:Loc X.env.scope x) (hf:X.fn x=true∨X.env.scope.names.lookup x=some .local:=by first | exact .inl rfl | exact .inr rfl | assumption):PG X (.Name x pos) (gName i):=by
 intro pins s σ H v u Q I r h
 exact wpAny_assign_Name (u4y I hN hi hx r (fun s' I'=>⟨_,H,I',h⟩) hf)
noncomputable def gNil:TGs:=fun vs σ H Q=>vs=[]∧Q σ H
noncomputable def gCons (t:TG) (u:TGs):TGs:=fun vs σ H Q=>∃ v r,vs=v::r∧t v σ H fun σ' H'=>u r σ' H' Q
theorem pgs_nil:PGs X [] gNil:=by
 intro pins s σ H vs us Q I r h
 obtain ⟨e,h⟩:=h
 subst e
 cases r
 exact assignInOrder_nil ⟨σ,H,I,h⟩
theorem v2w {e:Expr}{es:List Expr}{t:TG}{u:TGs} (h1:PG X e t) (h2:PGs X es u)
  (hs:(assignEach (e::es) X.env).map (·.2)=assign e X.env::(assignEach es X.env).map (·.2):=by rfl):PGs X (e::es) (gCons t u):=by
 intro pins s σ H vs us Q I r h
 obtain ⟨v,vr,e1,h⟩:=h
 subst e1
 cases r with
 | cons r rr =>
  rw [hs]
  refine assignInOrder_cons (thn (h1 pins s σ H _ _ _ I r h) fun _ s1 ⟨σ1,H1,I1,q1⟩=>?_)
  exact h2 pins s1 σ1 H1 _ _ Q I1 rr q1
noncomputable def gTup (K:PySem.W.Frag) (n:Nat) (t:TGs):TG:=fun v σ H Q=>∃ a xs,v=.ref a∧SqT K H a xs∧xs.length=n∧t xs σ H Q
theorem pg_tup {es:List Expr}{k:Nat}{t:TGs}{n:Nat} (hc:X.calm=true) (h:PGs X es t)
  (hn:(assignEach es X.env).length=n:=by rfl) (hst:(assignEach es X.env).findIdx? (·.1)=none:=by rfl):PG X (.Tuple es k pos) (gTup X.K n t):=by
 intro pins s σ H v u Q I r hw
 obtain ⟨a,xs,e1,hq,hl,hw⟩:=hw
 subst e1
 cases r
 obtain ⟨its,rv,ht,hz⟩:=I.tuple hq
 refine assign_Tuple_tuple (I.ok.hd hc) ht (by simp [hn,← hl,rv.length]) hst fun h' hx=>?_
 have I1:Inv X pins σ H { s with heap:=h' }:=I.kept (t':=s.toks) fun b o e=>hx b o (Nat.ne_of_lt (Heap.lt_size e)) e
 exact h pins _ σ H xs _ Q I1 (by simpa using rv) hw
noncomputable def tAsg (te:TE) (g:TG):TS:=fun D σ H=>te σ H fun x H1=>g x σ H1 D.nx
theorem ps_asg {tg e:Expr}{te:TE}{g:TG} (he:PE X e te) (hg:PG X tg g) (hs:swapsWithSole [tg] e pos.line X.env=pure false:=by rfl) (hw:swappedStores [tg] e X.env=pure none:=by rfl)
  (h1:(assignEach [tg] X.env).map (·.2)=[assign tg X.env]:=by rfl):PS X (.Assign [tg] e pos) (tAsg te g):=by
 intro pins s σ H D I h
 refine wpAny_Assign_stores (thn (he pins s σ H _ I h) fun v s1 ⟨x,H1,I1,r1,q1⟩=>?_) hs hw
 rw [h1]
 exact thn (hg pins s1 σ H1 x v _ I1 r1 q1) fun _ s2 q=>q
theorem ps_set {i:Nat}{x:Str}{e:Expr}{te:TE}{pos':Pos} (hN:X.N.Nodup) (hi:X.N[i]?=some x) (hx:Loc X.env.scope x) (he:PE X e te) (hs:swapsWith e (some (.Name x pos')) pos.line X.env=pure false:=by rfl) (hf:X.fn x=true∨X.env.scope.names.lookup x=some .local:=by first | exact .inl rfl | exact .inr rfl | assumption) :
  PS X (.Assign [.Name x pos'] e pos) (tAsg te (gName i)):=by
 intro pins s σ H D I h
 refine wpAny_Assign_Name (thn (he pins s σ H _ I h) fun v s1 ⟨y,H1,I1,r1,q1⟩=>?_) hs
 exact u4y I1 hN hi hx r1 (fun s2 I2=>⟨_,H1,I2,q1⟩) hf
end
section
variable {X:Cx}{pos:Pos}
end
structure It where
 go:Nat→Hp→Prop
 yld:Nat→Hp→V→Hp→Prop
 stop:Nat→Hp→Prop
noncomputable def FpOk (X:Cx) (pins:List (Addr×Obj)) (H:Hp) (b:Addr):Prop :=
 H b=none∧b≠X.env.locals∧b∉X.fs∧(b∈X.ex∨X.s₀.heap.objs.size≤b)∧(∀ x c,X.env.cells.lookup x=some c→c≠b)∧∀ p∈X.pn++pins,p.1≠b
theorem Inv.fpOk {X:Cx}{pins:List (Addr×Obj)}{σ:St}{H H':Hp}{s:Shared}{b:Addr} (I:Inv X pins σ H s) (hb:s.heap.objs.size≤b) (hn:H' b=none):FpOk X pins H' b:=by
 refine ⟨hn,Nat.ne_of_gt (Nat.lt_of_lt_of_le I.lt hb),I.nofs hb,.inr (Nat.le_trans I.sz hb),fun x c e z=>?_,fun p hp z=>?_⟩
 ·obtain ⟨v,q⟩:=I.cell x c e
  exact absurd (Nat.lt_of_lt_of_le q.lt (by rw [z];exact hb)) (Nat.lt_irrefl _)
 ·exact absurd (Nat.lt_of_lt_of_le (Heap.lt_size (I.pin p hp).1) (by rw [z];exact hb)) (Nat.lt_irrefl _)
structure Turn (P:Program) (w:World) (K:PySem.W.Frag) (tg:Expr) (J:It) (fp:List Addr) (it:Addr) (tn:Nat→Heap→Prop):Prop where
 mem:it∈fp
 obj:∀ i h,tn i h→∀ b∈fp,∃ o,h.get? b=some o∧∀ v,o.data≠.cell v
 keep:∀ i h h',tn i h→(∀ b∈fp,∀ o,h.get? b=some o→h'.get? b=some o)→tn i h'
 item:∀ (X:Cx),X.prog=P→X.w=w→X.K=K→X.calm=true→∀ (i:Nat) (pins:List (Addr×Obj)) (s:Shared) (σ:St) (H:Hp) (E:Value→Shared→Prop),Inv X pins σ H s→(∀ b∈fp,FpOk X pins H b)→tn i s.heap→J.go i H →
  wpAny (model P w) X.A (pyNext (.ref it)) (fun r s1=>∃ u,r=some u ∧
   wpAny (model P w) X.A (letOwnedTupleGo tg (.ref it) u) (fun _ s2=>∃ x H',Inv X pins σ H' s2∧RelV x u∧J.yld i H x H'∧tn (i+1) s2.heap∧∀ b∈fp,H' b=none) E s1) E s
 done:∀ (X:Cx),X.prog=P→X.w=w→X.K=K→X.calm=true→∀ (i:Nat) (pins:List (Addr×Obj)) (s:Shared) (σ:St) (H:Hp) (E:Value→Shared→Prop),Inv X pins σ H s→(∀ b∈fp,FpOk X pins H b)→tn i s.heap→J.stop i H →
  wpAny (model P w) X.A (pyNext (.ref it)) (fun r s1=>r=none∧Inv X pins σ H s1) E s
 self:∀ (A:Around) (i:Nat) (s:Shared) (Q:Value→Shared→Prop) (E:Value→Shared→Prop),tn i s.heap→Q (.ref it) s→wpAny (model P w) A (pyIter (.ref it)) Q E s
noncomputable abbrev TI:=St→Hp→(It→Hp→Prop)→Prop
noncomputable def PIE (X:Cx) (pins:List (Addr×Obj)) (σ:St) (tg:Expr) (R:It→Hp→Prop) (itv:Value) (s2:Shared):Prop :=
 ∃ (it:Addr) (fp:List Addr) (tn:Nat→Heap→Prop) (J:It) (H':Hp),itv=.ref it∧Inv X pins σ H' s2∧Turn X.prog X.w X.K tg J fp it tn∧tn 0 s2.heap∧(∀ b∈fp,FpOk X pins H' b)∧R J H'
noncomputable def PI (X:Cx) (tg iter:Expr) (wi:TI):Prop :=
 ∀ (pins:List (Addr×Obj)) (s:Shared) (σ:St) (H:Hp) (R:It→Hp→Prop),Inv X pins σ H s→wi σ H R →
  wpAny (model X.prog X.w) X.A (eval iter X.env) (fun v s1=>wpAny (model X.prog X.w) X.A (pyIter v) (PIE X pins σ tg R) X.xe s1) X.xe s
theorem v1u {M:Model}{A:Around}{E:Value→Shared→Prop}{s:Shared}{tg:Expr}{it:Addr}{u:Value}{o:Obj}{n:String}{vs:Array Value}{Q:Unit→Shared→Prop} (ho:s.heap.get? it=some o) (hc:o.cls=.type n) (hd:o.data=.fields vs)
  (hn:["enumerate","zip","dict_itemiterator","dict_reverseitemiterator","odict_iterator","itertools.zip_longest","itertools.pairwise"].contains n=false) (hQ:Q () s):wpAny M A (letOwnedTupleGo tg (.ref it) u) Q E s:=by
 unfold letOwnedTupleGo
 cases tg <;> first
  | exact wpAny_pure hQ
  | (cases u <;> first
    | exact wpAny_pure hQ
    | (refine wpAny_bind (wpAny_load ho ?_)
       rw [hc,hd]
       show wpAny M A (if (["enumerate","zip","dict_itemiterator","dict_reverseitemiterator","odict_iterator","itertools.zip_longest","itertools.pairwise"].contains n&&vs[0]?==some (rawInt _))=true then _ else _) Q E s
       rw [if_neg (by intro h;rw [hn,Bool.false_and] at h;cases h)]
       exact wpAny_pure hQ))
noncomputable def Itl (K:PySem.W.Frag) (a:Addr):It :=
 ⟨fun i H=>∃ xs x,SqL K H a xs∧xs[i]?=some x,fun i H x H'=>H'=H∧∀ xs,SqL K H a xs→xs[i]?=some x,fun i H=>∃ xs,SqL K H a xs∧xs.length≤i⟩
noncomputable def Itt (K:PySem.W.Frag) (a:Addr):It :=
 ⟨fun i H=>∃ xs x,SqT K H a xs∧xs[i]?=some x,fun i H x H'=>H'=H∧∀ xs,SqT K H a xs→xs[i]?=some x,fun i H=>∃ xs,SqT K H a xs∧xs.length≤i⟩
noncomputable def Itr (lo:Int) (n:Nat):It:=⟨fun i _=>i<n,fun i H x H'=>H'=H∧x=.int (lo+i),fun i _=>n≤i⟩
theorem v0w {P:Program}{w:World}{K:PySem.W.Frag}{tg:Expr} (a it:Addr):Turn P w K tg (Itl K a) [it] it (fun i h=>h.IsListIter it a i) where
 mem:=by simp
 obj:=fun i h st b hb=>by
  have e:b=it:=by simpa using hb
  subst e
  obtain ⟨o,e,c,d⟩:=st
  exact ⟨o,e,fun v z=>by rw [d] at z;cases z⟩
 keep:=fun i h h' st k=>st.at fun o e=>k it (by simp) o e
 item:=by
  intro X hP hw hK hc i pins s σ H E I hf st hg
  subst hP hw hK
  obtain ⟨xs,x,hq,hx⟩:=hg
  obtain ⟨its,rv,p,hz⟩:=I.list hq
  obtain ⟨u,hu,ru⟩:=rv.get hx
  obtain ⟨f0,f1,f2,f3,f4,f5⟩:=hf it (by simp)
  refine wpAny_pyNext_list_item st p.isList (x:=u) (by simpa using hu) fun h' st' sb=>?_
  have I1:Inv X pins σ H { s with heap:=h' }:=I.turned (t':=s.toks) (fun b o hb e=>(sb.2 b hb).trans e) f0 f1 f3 f4 f5
  obtain ⟨o,e,c,d⟩:=id st'
  exact ⟨u,rfl,v1u (s:={ s with heap:=h' }) e c d (by decide) ⟨x,H,I1,ru,⟨rfl,fun ys hy=>by rw [I.list_inj hy hq];exact hx⟩,st',fun b hb=>(hf b hb).1⟩⟩
 done:=by
  intro X hP hw hK hc i pins s σ H E I hf st hg
  subst hP hw hK
  obtain ⟨xs,hq,hx⟩:=hg
  obtain ⟨its,rv,p,hz⟩:=I.list hq
  obtain ⟨f0,f1,f2,f3,f4,f5⟩:=hf it (by simp)
  have hl:=rv.length
  exact wpAny_pyNext_list_end (I.ok.hd hc) st p.isList (by simp;omega) fun h' eb=>⟨rfl,I.turned (t':=s.toks) (fun b o hb e=>eb b o hb e) f0 f1 f3 f4 f5⟩
 self:=fun _ _ _ _ _ st h=>wpAny_pyIter_listiter st h
theorem u9u {P:Program}{w:World}{K:PySem.W.Frag}{tg:Expr} (a it:Addr):Turn P w K tg (Itt K a) [it] it (fun i h=>h.IsTupleIter it a i) where
 mem:=by simp
 obj:=fun i h st b hb=>by
  have e:b=it:=by simpa using hb
  subst e
  obtain ⟨o,e,c,d⟩:=st
  exact ⟨o,e,fun v z=>by rw [d] at z;cases z⟩
 keep:=fun i h h' st k=>st.at fun o e=>k it (by simp) o e
 item:=by
  intro X hP hw hK hc i pins s σ H E I hf st hg
  subst hP hw hK
  obtain ⟨xs,x,hq,hx⟩:=hg
  obtain ⟨its,rv,p,hz⟩:=I.tuple hq
  obtain ⟨u,hu,ru⟩:=rv.get hx
  obtain ⟨f0,f1,f2,f3,f4,f5⟩:=hf it (by simp)
  refine wpAny_pyNext_tuple_item st (show s.heap.IsTuple a its.toArray from p) (x:=u) (by simpa using hu) fun h' st' sb=>?_
  have I1:Inv X pins σ H { s with heap:=h' }:=I.turned (t':=s.toks) (fun b o hb e=>(sb.2 b hb).trans e) f0 f1 f3 f4 f5
  obtain ⟨o,e,c,d⟩:=id st'
  exact ⟨u,rfl,v1u (s:={ s with heap:=h' }) e c d (by decide) ⟨x,H,I1,ru,⟨rfl,fun ys hy=>by rw [I.tuple_inj hy hq];exact hx⟩,st',fun b hb=>(hf b hb).1⟩⟩
 done:=by
  intro X hP hw hK hc i pins s σ H E I hf st hg
  subst hP hw hK
  obtain ⟨xs,hq,hx⟩:=hg
  obtain ⟨its,rv,p,hz⟩:=I.tuple hq
  obtain ⟨f0,f1,f2,f3,f4,f5⟩:=hf it (by simp)
  have hl:=rv.length
  exact wpAny_pyNext_tuple_end (I.ok.hd hc) st (show s.heap.IsTuple a its.toArray from p) (by simp;omega) fun h' eb=>⟨rfl,I.turned (t':=s.toks) (fun b o hb e=>eb b o hb e) f0 f1 f3 f4 f5⟩
 self:=fun _ _ _ _ _ st h=>wpAny_pyIter_tupleiter st h
theorem u9v {P:Program}{w:World}{K:PySem.W.Frag}{tg:Expr} (it:Addr) (lo:Int) (n:Nat):Turn P w K tg (Itr lo n) [it] it (fun i h=>IsRangeIter h it (lo+(i:Nat)*1) ((n:Int) - (i:Nat)) 1) where
 mem:=by simp
 obj:=fun i h st b hb=>by
  have e:b=it:=by simpa using hb
  subst e
  exact ⟨_,st,fun v z=>by
   have z':Data.fields _=Data.cell v:=z
   cases z'⟩
 keep:=fun i h h' st k=>k it (by simp) _ st
 item:=by
  intro X hP hw hK hc i pins s σ H E I hf st hg
  subst hP hw hK
  obtain ⟨f0,f1,f2,f3,f4,f5⟩:=hf it (by simp)
  have W:=Walks.range (prog:=X.prog) (w:=X.w) (I.ok.hd hc) it lo 1 n
  refine W.item i s _ _ hg st fun v h' tk hv st' kk=>?_
  obtain ⟨t,rfl⟩:=hv
  have I1:Inv X pins σ H { s with heap:=h',toks:=tk }:=I.turned (fun b o hb e=>kk b o (by simpa using hb) e) f0 f1 f3 f4 f5
  refine ⟨_,rfl,v1u (s:={ s with heap:=h',toks:=tk }) (n:="range_iterator") st' rfl rfl (by decide) ⟨.int (lo+i),H,I1,⟨t,?_⟩,⟨rfl,rfl⟩,st',fun b hb=>(hf b hb).1⟩⟩
  rw [Int.mul_one]
 done:=by
  intro X hP hw hK hc i pins s σ H E I hf st hg
  subst hP hw hK
  obtain ⟨f0,f1,f2,f3,f4,f5⟩:=hf it (by simp)
  exact wpAny_pyNext_range_end (I.ok.hd hc) st (by have:n≤i:=hg;omega) fun h' eb=>⟨rfl,I.turned (t':=s.toks) (fun b o hb e=>eb b o hb e) f0 f1 f3 f4 f5⟩
 self:=fun _ _ _ _ _ st h=>wpAny_pyIter_rangeiter st h
section
variable {X:Cx}{tg:Expr}
noncomputable def iList (K:PySem.W.Frag) (tl:TE):TI:=fun σ H R=>tl σ H fun x H1=>∃ a,x=.ref a∧(∃ xs,SqL K H1 a xs)∧R (Itl K a) H1
noncomputable def iTup (K:PySem.W.Frag) (tl:TE):TI:=fun σ H R=>tl σ H fun x H1=>∃ a,x=.ref a∧(∃ xs,SqT K H1 a xs)∧R (Itt K a) H1
theorem v0S {l:Expr}{tl:TE} (hl:PE X l tl):PI X tg l (iList X.K tl):=by
 intro pins s σ H R I h
 refine thn (hl pins s σ H _ I h) fun v s1 ⟨x,H1,I1,r1,q1⟩=>?_
 obtain ⟨a,e,⟨xs,hq⟩,q⟩:=q1
 subst e
 cases r1
 obtain ⟨its,rv,p,hz⟩:=I1.list hq
 refine wpAny_pyIter_list p.isList ?_
 refine ⟨s1.heap.objs.size,[s1.heap.objs.size],_,_,H1,rfl,I1.kept (t':=s1.toks) fun b o e=>Heap.get?_push_of_some _ e,v0w a _,⟨_,Heap.get?_push_size _ rfl,rfl,rfl⟩,fun b hb=>?_,q⟩
 have e:b=s1.heap.objs.size:=by simpa using hb
 subst e
 exact I1.fpOk (Nat.le_refl _) (I1.hok.fresh (Nat.le_refl _))
theorem pi_tup {l:Expr}{tl:TE} (hl:PE X l tl):PI X tg l (iTup X.K tl):=by
 intro pins s σ H R I h
 refine thn (hl pins s σ H _ I h) fun v s1 ⟨x,H1,I1,r1,q1⟩=>?_
 obtain ⟨a,e,⟨xs,hq⟩,q⟩:=q1
 subst e
 cases r1
 obtain ⟨its,rv,p,hz⟩:=I1.tuple hq
 refine wpAny_pyIter_tuple (show s1.heap.IsTuple a its.toArray from p) ?_
 refine ⟨s1.heap.objs.size,[s1.heap.objs.size],_,_,H1,rfl,I1.kept (t':=s1.toks) fun b o e=>Heap.get?_push_of_some _ e,u9u a _,⟨_,Heap.get?_push_size _ rfl,rfl,rfl⟩,fun b hb=>?_,q⟩
 have e:b=s1.heap.objs.size:=by simpa using hb
 subst e
 exact I1.fpOk (Nat.le_refl _) (I1.hok.fresh (Nat.le_refl _))
theorem v2r {pins:List (Addr×Obj)}{σ:St}{H:Hp}{s:Shared}{R:It→Hp→Prop}{E:Value→Shared→Prop}{lo hi:Int}{t u v:Tok}{tk:Nat} (I:Inv X pins σ H s) (h1:-(2^62)≤lo) (h2:lo<2^62) (h3:-(2^62)≤hi) (h4:hi<2^62)
  (q:R (Itr lo (hi - lo).toNat) H):wpAny (model X.prog X.w) X.A (pyIter (.ref s.heap.objs.size)) (PIE X pins σ tg R) E { s with heap:=s.heap.push { cls:=.type "range",data:=.fields #[.int lo t,.int hi u,.int 1 v] },toks:=tk }:=by
 refine wpAny_pyIter_range (IsRange.new ..) (small_one h1 h2 h3 h4) ?_
 have I1:Inv X pins σ H { s with heap:=s.heap.push { cls:=.type "range",data:=.fields #[.int lo t,.int hi u,.int 1 v] },toks:=tk }:=I.kept fun b o e=>Heap.get?_push_of_some _ e
 refine ⟨(s.heap.push { cls:=.type "range",data:=.fields #[.int lo t,.int hi u,.int 1 v] }).objs.size,[(s.heap.push { cls:=.type "range",data:=.fields #[.int lo t,.int hi u,.int 1 v] }).objs.size],_,_,H,rfl,
  I1.kept (t':=tk) fun b o e=>Heap.get?_push_of_some _ e,u9v _ lo (hi - lo).toNat,?_,fun b hb=>?_,q⟩
 ·have e1:lo+((0:Nat):Int)*1=lo:=by simp
  have e2:(((hi - lo).toNat:Nat):Int) - ((0:Nat):Int)=Builtin.Range.rangeSize lo hi 1:=by rw [rangeSize_one];split <;> omega
  show IsRangeIter _ _ (lo+((0:Nat):Int)*1) ((((hi - lo).toNat:Nat):Int) - ((0:Nat):Int)) 1
  rw [e1,e2]
  exact Heap.get?_push_size _ rfl
 ·have e:b=(s.heap.push { cls:=.type "range",data:=.fields #[.int lo t,.int hi u,.int 1 v] }).objs.size:=by simpa using hb
  subst e
  exact I1.fpOk (Nat.le_refl _) (I1.hok.fresh (Nat.le_refl _))
noncomputable def iRng1 (ta:TA):TI:=fun σ H R=>ta σ H fun vs H1=>∃ j:Int,vs=[.int j]∧-(2^62)≤j∧j<2^62∧R (Itr 0 j.toNat) H1
theorem v0R {a:Expr}{ta:TA}{p pos:Pos} (hg:Gl X "range") (hm:X.mg "range"=none) (ha:PA X [a] ta) (hs:starEach [a] X.env=[(false,eval a X.env)]:=by rfl):PI X tg (.Call (.Name "range" p) [a] [] pos) (iRng1 ta):=by
 intro pins s σ H R I h
 refine Call_ (u7e I hg hm boot_range (PyProof.Rows.callWith_type1 (thn (ha pos pins s σ H _ I h) fun us s1 ⟨vs,H1,I1,r1,q1⟩=>?_) hs rfl))
 obtain ⟨j,e,q1,q2,q⟩:=q1
 subst e
 cases r1 with
 | cons r rr =>
  cases rr
  obtain ⟨t,rfl⟩:=r
  exact call_range_1 (v2r I1 (by omega) (by omega) q1 q2 (by simpa using q))
noncomputable def tFor (wi:TI) (g:TG) (tb:TS):TS:=fun D σ H=>wi σ H fun J H1=>∃ W:Nat→Nat→St→Hp→Prop,(∃ m,W 0 m σ H1)∧∀ i m σ H,W i m σ H →
 (J.stop i H∧D.nx σ H)∨(J.go i H∧∃ N:St→Hp→Prop,(∀ σ' H',N σ' H'→∃ m',m'<m∧W (i+1) m' σ' H')∧∀ x H',J.yld i H x H'→g x σ H' fun σ2 H2=>tb { D with nx:=N,ct:=N,bk:=D.nx } σ2 H2)
noncomputable def pinsAt (fp:List Addr) (h:Heap):List (Addr×Obj):=fp.filterMap fun b=>(h.get? b).map fun o=>(b,o)
theorem u2m {fp:List Addr}{h:Heap}{b:Addr}{o:Obj} (hb:b∈fp) (e:h.get? b=some o):(b,o)∈pinsAt fp h:=List.mem_filterMap.mpr ⟨b,hb,by rw [e];rfl⟩
theorem v0V {fp:List Addr}{h:Heap}{p:Addr×Obj} (hp:p∈pinsAt fp h):p.1∈fp∧h.get? p.1=some p.2:=by
 obtain ⟨b,hb,e⟩:=List.mem_filterMap.mp hp
 cases q:h.get? b with
 | none=>rw [q] at e;cases e
 | some o =>
  rw [q] at e
  have e':(b,o)=p:=Option.some.inj e
  subst e'
  exact ⟨hb,q⟩
theorem Inv.pinned {pins:List (Addr×Obj)}{σ:St}{H:Hp}{s:Shared}{fp:List Addr} (I:Inv X pins σ H s) (hf:∀ b∈fp,FpOk X pins H b) (ho:∀ b∈fp,∃ o,s.heap.get? b=some o∧∀ v,o.data≠.cell v):Inv X (pins++pinsAt fp s.heap) σ H s :=
 I.pins_of fun p hp=>(List.mem_append.mp hp).elim (fun z=>I.pin p (List.mem_append_right _ z)) fun z=>by
  obtain ⟨hb,e⟩:=v0V z
  obtain ⟨f0,f1,f2,_⟩:=hf p.1 hb
  obtain ⟨o,e',d⟩:=ho p.1 hb
  rw [e] at e';cases e'
  exact ⟨e,f0,f1,f2,d⟩
theorem Inv.unpinned {pins pl:List (Addr×Obj)}{σ:St}{H:Hp}{s:Shared} (I:Inv X (pins++pl) σ H s):Inv X pins σ H s:=I.pins_of fun p hp=>I.pin p (List.mem_append_right _ (List.mem_append_left _ hp))
theorem ps_for {iter:Expr}{body:List Stmt}{wi:TI}{g:TG}{tb:TS}{pos:Pos} (hp:PassesOwn (model X.prog X.w) X.A X.env X.xe) (hc:X.calm=true) (hi:PI X tg iter wi) (hg:PG X tg g) (hb:PSs X body tb)
  (hs:∀ x,foldedSetIterable iter X.env x=pure x:=by intro _;rfl):PS X (.For tg iter body [] pos) (tFor wi g tb):=by
 intro pins s σ H D I h
 refine wpAny_For (thn (hi pins s σ H _ I h) fun v s1 h1=>thn h1 fun itv s2 h2=>?_) hs
 obtain ⟨it,fp,tn,J,H2,e,I2,T,st2,f2,W,⟨m0,w0⟩,turn⟩:=h2
 subst e
 have stat:∀ {H':Hp},(∀ b∈fp,H' b=none)→∀ b∈fp,FpOk X pins H' b:=fun hn b hb=>⟨hn b hb,(f2 b hb).2⟩
 refine codeAny_forLoop_any (fun n s'=>∃ i σ' H',Inv X pins σ' H' s'∧tn i s'.heap∧(∀ b∈fp,H' b=none)∧W i n σ' H') ?_ m0 ⟨0,σ,H2,I2,st2,fun b hb=>(f2 b hb).1,w0⟩
 rintro n s3 ⟨i,σ3,H3,I3,st3,fr3,w3⟩
 rcases turn i n σ3 H3 w3 with ⟨stop,qn⟩ | ⟨go,N,hN,step⟩
 ·refine wpAny_passesOwn hp (thn (T.done X rfl rfl rfl hc i pins s3 σ3 H3 X.xe I3 (stat fr3) st3 stop) fun r s4 ⟨hr,I4⟩=>?_)
  subst hr
  exact wpAny_execs_nil ⟨σ3,H3,I4,qn⟩
 ·refine wpAny_passesOwn hp (thn (T.item X rfl rfl rfl hc i pins s3 σ3 H3 X.xe I3 (stat fr3) st3 go) fun r s4 ⟨u,hr,h4⟩=>?_)
  subst hr
  refine wpAny_passesOwn hp (thn h4 fun _ s5 ⟨x,H5,I5,r5,y5,st5,fr5⟩=>?_)
  have I5':=I5.pinned (stat fr5) (T.obj _ _ st5)
  refine wpAny_passesOwn hp (thn (hg _ s5 σ3 H5 x u _ I5' r5 (step x H5 y5)) fun _ s6 ⟨σ6,H6,I6,q6⟩=>?_)
  refine wpAny_passesOwn hp (thn (hb _ s6 σ6 H6 _ I6 q6) fun f s7 q7=>?_)
  have again:∀ {σ7:St}{H7:Hp},Inv X (pins++pinsAt fp s5.heap) σ7 H7 s7→N σ7 H7→∃ m,m<n∧∃ i σ' H',Inv X pins σ' H' s7∧tn i s7.heap∧(∀ b∈fp,H' b=none)∧W i m σ' H':=fun {σ7 H7} I7 n7=>by
   obtain ⟨m',hm,w7⟩:=hN σ7 H7 n7
   refine ⟨m',hm,i+1,σ7,H7,I7.unpinned,T.keep _ _ _ st5 fun b hb o e=>(I7.pin (b,o) (List.mem_append_right _ (List.mem_append_right _ (u2m hb e)))).1,fun b hb=>?_,w7⟩
   obtain ⟨o,e,d⟩:=T.obj _ _ st5 b hb
   exact (I7.pin (b,o) (List.mem_append_right _ (List.mem_append_right _ (u2m hb e)))).2.1
  cases f with
  | next=>obtain ⟨σ7,H7,I7,n7⟩:=q7;exact again I7 n7
  | cont=>obtain ⟨σ7,H7,I7,n7⟩:=q7;exact again I7 n7
  | brk=>obtain ⟨σ7,H7,I7,q7⟩:=q7;exact ⟨σ7,H7,I7.unpinned,q7⟩
  | ret v=>obtain ⟨x7,σ7,H7,I7,r7,q7⟩:=q7;exact ⟨x7,σ7,H7,I7.unpinned,r7,q7⟩
end
noncomputable abbrev R2:=V→V→Hp→VK→Prop
noncomputable def OpR (X:Cx) (f:Value→Value→Sem Value) (r:R2):Prop :=
 ∀ (pins:List (Addr×Obj)) (s:Shared) (σ:St) (H:Hp) (x y:V) (v u:Value) (Q:VK),Inv X pins σ H s→RelV x v→RelV y u→r x y H Q →
  wpAny (model X.prog X.w) X.A (f v u) (EP X pins σ Q) X.xe s
noncomputable def CallR (X:Cx) (f:Value) (r:List V→Hp→VK→Prop):Prop :=
 ∀ (pins:List (Addr×Obj)) (s:Shared) (σ:St) (H:Hp) (xs:List V) (us:List Value) (Q:VK),Inv X pins σ H s→Vals xs us→r xs H Q →
  wpAny (model X.prog X.w) X.A (call f us) (EP X pins σ Q) X.xe s
noncomputable def TruR (X:Cx) (r:V→Hp→(Bool→Hp→Prop)→Prop):Prop :=
 ∀ (pins:List (Addr×Obj)) (s:Shared) (σ:St) (H:Hp) (x:V) (v:Value) (Q:Bool→Hp→Prop),Inv X pins σ H s→RelV x v→r x H Q →
  wpAny (model X.prog X.w) X.A (truthy v) (TP X pins σ Q) X.xe s
noncomputable def tOp (r:R2) (ta tb:TE):TE:=fun σ H Q=>ta σ H fun x H1=>tb σ H1 fun y H2=>r x y H2 Q
noncomputable def rI (C:Int→Int→Prop) (g:Int→Int→V):R2:=fun x y H Q=>∃ i j,x=.int i∧y=.int j∧C i j∧Q (g i j) H
noncomputable def rI0 (g:Int→Int→V):R2:=fun x y H Q=>∃ i j,x=.int i∧y=.int j∧Q (g i j) H
section
variable {X:Cx}{a b c:Expr}{ta tb tc:TE}{pos:Pos}
theorem binT (ha:PE X a ta) (hb:PE X b tb) {pins:List (Addr×Obj)}{s:Shared}{σ:St}{H:Hp}{R:V→V→Hp→Prop} (I:Inv X pins σ H s)
  (h:ta σ H fun x H1=>tb σ H1 fun y H2=>R x y H2) {Q:Value→Shared→Prop}{f:Value→Value→Sem Value}
  (hf:∀ v u s2 x y H2,Inv X pins σ H2 s2→RelV x v→RelV y u→R x y H2→wpAny (model X.prog X.w) X.A (f v u) Q X.xe s2) :
  wpAny (model X.prog X.w) X.A (eval a X.env) (fun v s₁=>wpAny (model X.prog X.w) X.A (eval b X.env) (fun u s₂=>wpAny (model X.prog X.w) X.A (f v u) Q X.xe s₂) X.xe s₁) X.xe s:=by
 refine thn (ha pins s σ H _ I h) fun v s1 ⟨x,H1,I1,r1,q1⟩=>?_
 refine thn (hb pins s1 σ H1 _ I1 q1) fun u s2 ⟨y,H2,I2,r2,q2⟩=>?_
 exact hf v u s2 x y H2 I2 r1 r2 q2
theorem pe_op {op:Operator}{r:R2} (ho:OpR X (binaryOp op) r) (ha:PE X a ta) (hb:PE X b tb):PE X (.BinOp a op b pos) (tOp r ta tb):=by
 intro pins s σ H Q I h
 exact wpAny_BinOp (binT ha hb I h fun v u s2 x y H2 I2 rx ry q=>ho pins s2 σ H2 x y v u Q I2 rx ry q)
theorem opI {f:Value→Value→Sem Value}{C:Int→Int→Prop}{g:Int→Int→Int}
  (rule:∀ (i j:Int) (t u:Tok) (s:Shared) (Q:Value→Shared→Prop) (E:Value→Shared→Prop),C i j→Q (.int (g i j) s.toks) { s with toks:=s.toks+1 }→wpAny (model X.prog X.w) X.A (f (.int i t) (.int j u)) Q E s) :
  OpR X f (rI C fun i j=>.int (g i j)):=by
 intro pins s σ H x y v u Q I rx ry h
 obtain ⟨i,j,rfl,rfl,hc,q⟩:=h
 obtain ⟨t,rfl⟩:=rx
 obtain ⟨t',rfl⟩:=ry
 exact rule i j t t' s _ _ hc ⟨.int (g i j),H,I.tok _,⟨_,rfl⟩,q⟩
theorem opI0 {f:Value→Value→Sem Value}{g:Int→Int→Int}
  (rule:∀ (i j:Int) (t u:Tok) (s:Shared) (Q:Value→Shared→Prop) (E:Value→Shared→Prop),Q (.int (g i j) s.toks) { s with toks:=s.toks+1 }→wpAny (model X.prog X.w) X.A (f (.int i t) (.int j u)) Q E s) :
  OpR X f (rI0 fun i j=>.int (g i j)):=by
 intro pins s σ H x y v u Q I rx ry h
 obtain ⟨i,j,rfl,rfl,q⟩:=h
 obtain ⟨t,rfl⟩:=rx
 obtain ⟨t',rfl⟩:=ry
 exact rule i j t t' s _ _ ⟨.int (g i j),H,I.tok _,⟨_,rfl⟩,q⟩
theorem opB0 {f:Value→Value→Sem Value}{g:Int→Int→Bool}
  (rule:∀ (i j:Int) (t u:Tok) (s:Shared) (Q:Value→Shared→Prop) (E:Value→Shared→Prop),Q (.bool (g i j)) s→wpAny (model X.prog X.w) X.A (f (.int i t) (.int j u)) Q E s) :
  OpR X f (rI0 fun i j=>.bl (g i j)):=by
 intro pins s σ H x y v u Q I rx ry h
 obtain ⟨i,j,rfl,rfl,q⟩:=h
 obtain ⟨t,rfl⟩:=rx
 obtain ⟨t',rfl⟩:=ry
 exact rule i j t t' s _ _ ⟨.bl (g i j),H,I,rfl,q⟩
noncomputable def CPow (i j:Int):Prop:=0≤j∧j≤1000000∧i.natAbs<2^64
noncomputable def CMul (i j:Int):Prop:=(-(2^64)<i∧i<2^64)∨(-(2^64)<j∧j<2^64)
theorem CMul.ok {i j:Int} (h:CMul i j):IntMulOk i j:=by
 rcases h with ⟨h1,h2⟩ | ⟨h1,h2⟩
 ·exact .of_left (intBits_le_64 h1 h2)
 ·exact .of_right (intBits_le_64 h1 h2)
theorem u9t (k:Nat):(0:Int)≤2^k:=by
 rw [two_pow_cast]
 exact Int.natCast_nonneg _
theorem op_add:OpR X (binaryOp .Add) (rI0 fun i j=>.int (i+j)):=opI0 fun _ _ _ _ _ _ _ q=>add_int q
theorem op_sub:OpR X (binaryOp .Sub) (rI0 fun i j=>.int (i - j)):=opI0 fun _ _ _ _ _ _ _ q=>sub_int q
theorem op_mul:OpR X (binaryOp .Mult) (rI CMul fun i j=>.int (i*j)):=opI fun _ _ _ _ _ _ _ hc q=>mul_int q hc.ok
theorem op_mod:OpR X (binaryOp .Mod) (rI (fun _ j=>0<j) fun i j=>.int (i%j)):=opI fun i j _ _ _ _ _ hc q=>by
 have h1:(0:Int)<j:=hc
 exact mod_int' (by omega) (by rw [Int.fmod_eq_emod_of_nonneg i (by omega)];exact q)
theorem op_pow:OpR X (binaryOp .Pow) (rI CPow fun i j=>.int (i^j.toNat)):=opI fun _ _ _ _ _ _ _ hc q=>pow_int_small hc.1 hc.2.1 hc.2.2 q
theorem op_shr:OpR X (binaryOp .RShift) (rI (fun _ j=>0≤j) fun i j=>.int (i / 2^j.toNat)):=opI fun i j _ _ _ _ _ hc q =>
 rshift_int hc (by rw [Int.fdiv_eq_ediv_of_nonneg i (u9t _)];exact q)
theorem op_and:OpR X (binaryOp .BitAnd) (rI0 fun i j=>.int (Builtin.bitAnd i j)):=opI0 fun _ _ _ _ _ _ _ q=>and_int q
end
section
variable {X:Cx}{a b c:Expr}{ta tb tc:TE}{pos:Pos}
theorem v1z {pins:List (Addr×Obj)}{σ:St}{H:Hp}{s:Shared}{Q:VK}{k k':Bool} (I:Inv X pins σ H s) (q:Q (.bl k) H) (e:k=k'):EP X pins σ Q (.bool k') s:=by
 subst e
 exact ⟨.bl k,H,I,rfl,q⟩
theorem op_lt:OpR X (compareOp .Lt) (rI0 fun i j=>.bl (decide (i<j))):=opB0 fun _ _ _ _ _ _ _ q=>lt_int q
theorem op_le:OpR X (compareOp .LtE) (rI0 fun i j=>.bl (decide (i≤j))):=opB0 fun _ _ _ _ _ _ _ q=>le_int q
theorem op_gt:OpR X (compareOp .Gt) (rI0 fun i j=>.bl (decide (j<i))):=opB0 fun _ _ _ _ _ _ _ q=>gt_int q
theorem op_ge:OpR X (compareOp .GtE) (rI0 fun i j=>.bl (decide (j≤i))):=opB0 fun _ _ _ _ _ _ _ q=>ge_int q
theorem v0U:OpR X (compareOp .In) (fun x y H Q=>∃ i j,x=.str i∧y=.str j∧Q (.bl (!(Builtin.Str.occurrences j i 0 j.length 1).isEmpty)) H):=by
 intro pins s σ H x y v u Q I rx ry h
 obtain ⟨i,j,rfl,rfl,q⟩:=h
 obtain ⟨t,rfl⟩:=rx
 obtain ⟨t',rfl⟩:=ry
 exact in_str (v1z I q rfl)
theorem op_isN:OpR X (compareOp .Is) (fun x y H Q=>y=.non∧Q (.bl (decide (x=.non))) H):=by
 intro pins s σ H x y v u Q I rx ry h
 obtain ⟨rfl,q⟩:=h
 cases ry
 refine is_none_gen (v1z I q ?_)
 cases x <;> first
  | (cases rx;rfl)
  | (obtain ⟨t,rfl⟩:=rx;rfl)
theorem op_notN:OpR X (compareOp .IsNot) (fun x y H Q=>y=.non∧Q (.bl (!decide (x=.non))) H):=by
 intro pins s σ H x y v u Q I rx ry h
 obtain ⟨rfl,q⟩:=h
 cases ry
 refine isnot_none_gen (v1z I q ?_)
 cases x <;> first
  | (cases rx;rfl)
  | (obtain ⟨t,rfl⟩:=rx;rfl)
theorem nomark (b:Expr) {op:CmpOp} (h:op≠.In:=by decide) (h2:op≠.NotIn:=by decide):behindInMarks op b=false:=by
 have e1:(op==CmpOp.In)=false:=by cases op <;> first | rfl | exact absurd rfl h
 have e2:(op==CmpOp.NotIn)=false:=by cases op <;> first | rfl | exact absurd rfl h2
 cases b <;> simp [behindInMarks,e1,e2]
theorem pe_cmpR {op:CmpOp}{r:R2} (ho:OpR X (compareOp op) r) (ha:PE X a ta) (hb:PE X b tb) (hm:behindInMarks op b=false):PE X (.Compare a [op] [b] pos) (tOp r ta tb):=by
 intro pins s σ H Q I h
 exact wpAny_Compare1 (binT ha hb I h fun v u s2 x y H2 I2 rx ry q=>ho pins s2 σ H2 x y v u Q I2 rx ry q) hm
noncomputable def tTest (t:TE):TT:=fun σ H Q=>t σ H fun x H'=>∃ k,x=.bl k∧Q k H'
theorem pt_cmpR {op:CmpOp}{r:R2} (ho:OpR X (compareOp op) r) (ha:PE X a ta) (hb:PE X b tb) (hm:behindInMarks op b=false):PT X (.Compare a [op] [b] pos) (tTest (tOp r ta tb)):=by
 intro pins s σ H Q I h
 refine wpAny_isTrue_Compare1 (thn (ha pins s σ H _ I h) fun v s1 ⟨x,H1,I1,r1,q1⟩=>thn (hb pins s1 σ H1 _ I1 q1) fun u s2 ⟨y,H2,I2,r2,q2⟩ =>
  thn (ho pins s2 σ H2 x y v u _ I2 r1 r2 q2) fun c s3 ⟨z,H3,I3,r3,k,e,q3⟩=>?_) hm
 subst e
 cases r3
 exact wpAny_truthy_bool ⟨H3,I3,q3⟩
noncomputable def tChain (r r':R2) (ta tb tc:TE):TE:=fun σ H Q=>ta σ H fun x H1=>tb σ H1 fun y H2=>r x y H2 fun z H3=>∃ k,z=.bl k ∧
 (if k=true then tc σ H3 fun w' H4=>r' y w' H4 Q else Q (.bl false) H3)
theorem v2B {op op':CmpOp}{r r':R2} (ho:OpR X (compareOp op) r) (ho':OpR X (compareOp op') r') (ha:PE X a ta) (hb:PE X b tb) (hc:PE X c tc)
  (hm:lastMarks [op,op'] [b,c]=false:=by with_unfolding_all rfl):PE X (.Compare a [op,op'] [b,c] pos) (tChain r r' ta tb tc):=by
 intro pins s σ H Q I h
 refine Compare_chain (thn (ha pins s σ H _ I h) fun v s1 ⟨x,H1,I1,r1,q1⟩=>chain_link (thn (hb pins s1 σ H1 _ I1 q1) fun u s2 ⟨y,H2,I2,r2,q2⟩ =>
  thn (ho pins s2 σ H2 x y v u _ I2 r1 r2 q2) fun d s3 ⟨z,H3,I3,r3,k,e,q3⟩=>?_)) hm
 subst e
 cases r3
 refine wpAny_truthy_bool ?_
 cases k with
 | false=>exact ite_ff ⟨.bl false,H3,I3,rfl,q3⟩
 | true=>exact ite_tt (chain_last (thn (hc pins s3 σ H3 _ I3 q3) fun w' s4 ⟨z',H4,I4,r4,q4⟩=>ho' pins s4 σ H4 y z' u w' Q I4 r2 r4 q4))
theorem v2t {op op':CmpOp}{r r':R2} (ho:OpR X (compareOp op) r) (ho':OpR X (compareOp op') r') (ha:PE X a ta) (hb:PE X b tb) (hc:PE X c tc)
  (hm:lastMarks [op,op'] [b,c]=false:=by with_unfolding_all rfl):PT X (.Compare a [op,op'] [b,c] pos) (tTest (tChain r r' ta tb tc)):=by
 intro pins s σ H Q I h
 refine isTrue_chain (thn (ha pins s σ H _ I h) fun v s1 ⟨x,H1,I1,r1,q1⟩=>test_link (thn (hb pins s1 σ H1 _ I1 q1) fun u s2 ⟨y,H2,I2,r2,q2⟩ =>
  thn (ho pins s2 σ H2 x y v u _ I2 r1 r2 q2) fun d s3 ⟨z,H3,I3,r3,k,e,q3⟩=>?_)) hm
 subst e
 cases r3
 refine wpAny_truthy_bool ?_
 cases k with
 | false =>
  obtain ⟨k',e',q'⟩:=q3
  cases e'
  exact ite_ff ⟨H3,I3,q'⟩
 | true =>
  refine ite_tt (test_last (thn (hc pins s3 σ H3 _ I3 q3) fun w' s4 ⟨z',H4,I4,r4,q4⟩=>thn (ho' pins s4 σ H4 y z' u w' _ I4 r2 r4 q4) fun d' s5 ⟨z2,H5,I5,r5,k2,e2,q5⟩=>?_))
  subst e2
  cases r5
  exact wpAny_truthy_bool ⟨H5,I5,q5⟩
noncomputable def TruV (K:PySem.W.Frag) (x:V) (H:Hp) (k:Bool):Prop :=
 match x with
 | .non=>k=false
 | .bl b=>k=b
 | .int i=>k=(i != 0)
 | .str y=>y.length≤sizeLine∧k=((y.length:Int) != 0)
 | .byt y=>y.size≤sizeLine∧k=((y.size:Int) != 0)
 | .ref p=>(∃ xs,SqL K H p xs∧k=!xs.isEmpty)∨(∃ xs,SqT K H p xs∧k=!xs.isEmpty)∨∃ kvs,H p=some (.dK kvs)∧k=!kvs.isEmpty
 | _=>False
theorem v0g {κ:Type}{kvs:List (κ×V)}{vs:List (κ×Value)} (r:KV kvs vs):(!vs.isEmpty)=!kvs.isEmpty:=by
 cases r <;> rfl
theorem u5I {xs:List V}{its:List Value} (r:Vals xs its):(!its.toArray.isEmpty)=!xs.isEmpty:=by
 cases r <;> simp
theorem line63:(sizeLine:Nat)<2^63:=by rw [sizeLine_eq];decide
theorem tru_ok:TruR X (fun x H Q=>∃ k,TruV X.K x H k∧Q k H):=by
 intro pins s σ H x v Q I rx h
 obtain ⟨k,e,q⟩:=h
 have hl:=line63
 have hs:sizeLine=16777216:=sizeLine_eq
 cases x with
 | non =>
  cases rx
  have e':k=false:=e
  subst e'
  exact truthy_none ⟨H,I,q⟩
 | bl b =>
  cases rx
  have e':k=b:=e
  subst e'
  exact wpAny_truthy_bool ⟨H,I,q⟩
 | int i =>
  obtain ⟨t,rfl⟩:=rx
  have e':k=(i != 0):=e
  subst e'
  exact PySem.P.truthy_int ⟨H,I,q⟩
 | str y =>
  obtain ⟨t,rfl⟩:=rx
  obtain ⟨hy,e'⟩:y.length≤sizeLine∧k=((y.length:Int) != 0):=e
  subst e'
  exact PySem.P.truthy_str (by omega) ⟨H,I.tok _,q⟩
 | byt y =>
  obtain ⟨t,rfl⟩:=rx
  obtain ⟨hy,e'⟩:y.size≤sizeLine∧k=((y.size:Int) != 0):=e
  subst e'
  exact PySem.W.truthy_bytes (by omega) ⟨H,I.tok _,q⟩
 | ref p =>
  cases rx
  have e':(∃ xs,SqL X.K H p xs∧k=!xs.isEmpty)∨(∃ xs,SqT X.K H p xs∧k=!xs.isEmpty)∨∃ kvs,H p=some (.dK kvs)∧k=!kvs.isEmpty:=e
  rcases e' with ⟨xs,hx,e'⟩ | ⟨xs,hx,e'⟩ | ⟨kvs,hx,e'⟩
  ·subst e'
   obtain ⟨its,r,pl,hz⟩:=I.list hx
   have hlen:=r.length
   exact wpAny_truthy_list pl.isList (by simp only [List.size_toArray];omega) ⟨H,I.tok _,by rw [u5I r];exact q⟩
  ·subst e'
   obtain ⟨its,r,pl,hz⟩:=I.tuple hx
   have hlen:=r.length
   exact truthy_tuple pl (by simp only [List.size_toArray];omega) ⟨H,I.tok _,by rw [u5I r];exact q⟩
  ·subst e'
   obtain ⟨hz,hS,vs,r,m⟩:kvs.length≤sizeLine∧(p==sysModules)=false∧∃ vs,KV kvs vs∧s.heap.DictOf (mixKind X.prog X.w) p vs:=I.hok p _ hx
   have hlen:kvs.length=vs.length:=Paired.length r
   exact wpAny_truthy_dict hS m (by omega) ⟨H,I.tok _,by rw [v0g r];exact q⟩
 | _=>exact (show False from e).elim
theorem v0b:OpR X (binaryOp .Add) (fun x y H Q=>∃ i j,x=.str i∧y=.str j∧i.length+j.length≤sizeLine∧Q (.str (i++j)) H):=by
 intro pins s σ H x y v u Q I rx ry h
 obtain ⟨i,j,rfl,rfl,hz,q⟩:=h
 obtain ⟨t,rfl⟩:=rx
 obtain ⟨t',rfl⟩:=ry
 exact add_str (fun t' tk=>⟨.str (i++j),H,I.tok _,⟨_,rfl⟩,q⟩) hz
theorem vals1 {x:V}{us:List Value} (r:Vals [x] us):∃ u,us=[u]∧RelV x u:=by
 cases r with
 | cons r1 r2=>cases r2;exact ⟨_,rfl,r1⟩
theorem vals2 {x y:V}{us:List Value} (r:Vals [x,y] us):∃ u w',us=[u,w']∧RelV x u∧RelV y w':=by
 cases r with
 | cons r1 r2 =>
  cases r2 with
  | cons r3 r4=>cases r4;exact ⟨_,_,rfl,r1,r3⟩
theorem u7C:CallR X (.type "int") (fun xs H Q=>(∃ i,xs=[.int i]∧Q (.int i) H)∨∃ k,xs=[.bl k]∧Q (.int (if k then 1 else 0)) H):=by
 intro pins s σ H xs us Q I r h
 rcases h with ⟨i,rfl,q⟩ | ⟨k,rfl,q⟩
 ·obtain ⟨u,rfl,t,rfl⟩:=vals1 r
  exact call_int_int ⟨.int i,H,I,⟨_,rfl⟩,q⟩
 ·obtain ⟨u,rfl,r1⟩:=vals1 r
  cases r1
  exact call_int_bool ⟨.int (if k then 1 else 0),H,I.tok _,⟨_,rfl⟩,q⟩
theorem u7y:CallR X (.type "str") (fun xs H Q=>∃ i,xs=[.int i]∧i.natAbs.log2<1920∧Q (.str (toString i)) H):=by
 intro pins s σ H xs us Q I r h
 obtain ⟨i,rfl,hz,q⟩:=h
 obtain ⟨u,rfl,t,rfl⟩:=vals1 r
 exact PySem.P.str_of_int hz ⟨.str _,H,I.tok _,⟨_,rfl⟩,q⟩
noncomputable def LenV (K:PySem.W.Frag) (x:V) (H:Hp) (n:Nat):Prop :=
 match x with
 | .str y=>y.length≤sizeLine∧n=y.length
 | .byt y=>y.size≤sizeLine∧n=y.size
 | .ref p=>(∃ xs,SqL K H p xs∧n=xs.length)∨∃ xs,SqT K H p xs∧n=xs.length
 | _=>False
theorem u6s:CallR X (.builtin "len") (fun xs H Q=>∃ x n,xs=[x]∧LenV X.K x H n∧Q (.int n) H):=by
 intro pins s σ H xs us Q I r h
 obtain ⟨x,n,rfl,e,q⟩:=h
 obtain ⟨u,rfl,rx⟩:=vals1 r
 have hl:=line63
 have hs:sizeLine=16777216:=sizeLine_eq
 cases x with
 | str y =>
  obtain ⟨t,rfl⟩:=rx
  obtain ⟨hy,e'⟩:y.length≤sizeLine∧n=y.length:=e
  subst e'
  exact len_str (by omega) ⟨.int _,H,I.tok _,⟨_,rfl⟩,q⟩
 | byt y =>
  obtain ⟨t,rfl⟩:=rx
  obtain ⟨hy,e'⟩:y.size≤sizeLine∧n=y.size:=e
  subst e'
  exact PySem.W.len_bytes (by omega) ⟨.int _,H,I.tok _,⟨_,rfl⟩,q⟩
 | ref p =>
  cases rx
  have e':(∃ xs,SqL X.K H p xs∧n=xs.length)∨∃ xs,SqT X.K H p xs∧n=xs.length:=e
  rcases e' with ⟨xs,hx,e'⟩ | ⟨xs,hx,e'⟩
  ·subst e'
   obtain ⟨its,r',pl,hz⟩:=I.list hx
   have hlen:=r'.length
   exact Calls.call_len_list pl.isList (by simp only [List.size_toArray];omega) ⟨.int xs.length,H,I.tok _,⟨_,by simp only [List.size_toArray];rw [hlen]⟩,q⟩
  ·subst e'
   obtain ⟨its,r',pl,hz⟩:=I.tuple hx
   have hlen:=r'.length
   exact len_tuple pl (by simp only [List.size_toArray];omega) ⟨.int xs.length,H,I.tok _,⟨_,by simp only [List.size_toArray];rw [hlen]⟩,q⟩
 | _=>exact (show False from e).elim
end
structure ObjM (h:Heap) (x dx C:Addr) (mA:Str→Option Value):Prop where
 obj:h.get? x=some (PySem.W.instObj C dx)
 ns:h.Ns1 dx mA
 ne:dx≠x
theorem u7a {h:Heap}{dx:Addr}{mA:Str→Option Value} (n:h.Ns1 dx mA):∃ od,h.get? dx=some od∧∀ name,PySem.W.lookIn name od=some (mA name):=by
 obtain ⟨o,es,ep,ho,hd,hk,_,hm⟩:=n
 refine ⟨o,ho,fun name=>?_⟩
 have e:=hm name
 unfold nsFind findBy at e
 rw [← Array.find?_toList] at e
 unfold PySem.W.lookIn
 rw [hd]
 dsimp only
 split
 ·rename_i y q
  rw [q] at e
  exact congrArg some e
 ·rename_i q
  rw [q] at e
  have a:es.toList.any (·.refKey)=false:=by
   rw [List.any_eq_false]
   intro y hy
   obtain ⟨z,t,hkey⟩:=hk y (Array.mem_toList_iff.mp hy)
   simp [DictEntry.refKey,hkey]
  have a':¬ es.toList.any (·.refKey)=true:=by rw [a];exact Bool.false_ne_true
  rw [if_neg a']
  exact congrArg some e
theorem ObjM.look {h:Heap}{x dx C:Addr}{mA:Str→Option Value} (I:ObjM h x dx C mA):∃ od,PySem.W.InstAt h x (PySem.W.instObj C dx) C (some od)∧∀ name,PySem.W.lookIn name od=some (mA name) :=
 let ⟨od,ho,hl⟩:=u7a I.ns
 ⟨od,⟨I.obj,rfl,rfl,ho⟩,hl⟩
section
variable {prog:Program}{w:World}{A:Around}{E:Value→Shared→Prop}{s:Shared}{K:PySem.W.Frag}{x dx C f:Addr}{mA:Str→Option Value}{name:Str}{v:Value}
theorem get_map {expr:Bool}{Q:Value→Shared→Prop} (X:K.In s.heap) (I:ObjM s.heap x dx C mA) (hg:PySem.W.plainGet K C name=true) (hh:PySem.W.hasDictIn K C=true)
  (ha:PySem.W.findIn K (.ref C) name=some none) (hv:mA name=some v) (hv':PySem.W.handedIn v=true) (h:Q v { s with toks:=s.toks+1 }) :
  wpAny (model prog w) A (getAttr (.ref x) name expr) Q E s:=by
 obtain ⟨od,J,hl⟩:=I.look
 exact PySem.W.get_value X J (PySem.W.plainGet_of hg).1 (PySem.W.findObj_own hh ha rfl (by rw [hl,hv])) hv' h
theorem set_map {ns:List Str}{Q:Unit→Shared→Prop} (X:K.In s.heap) (I:ObjM s.heap x dx C mA)
  (hs:PySem.W.findIn K (.ref C) "__setattr__"=some (some (.builtin "object.__setattr__"))) (hp:PySem.W.plainOver K C=true) (ht:PySem.W.takerIn K C name=some none) (hh:PySem.W.hasDictIn K C=true)
  (hw:PySem.Within mA ns) (hsz:ns.length≤sizeLine)
  (h:∀ h',ObjM h' x dx C (fun y=>if y=name then some v else mA y)→Heap.SameBut dx s.heap h'→Q () { s with heap:=h',toks:=s.toks+2 }) :
  wpAny (model prog w) A (setAttr (.ref x) name v) Q E s:=by
 obtain ⟨od,J,hl⟩:=I.look
 refine PySem.W.set_plain X J hs (PySem.W.osa_open (s:={ s with toks:=s.toks+1 }) (r:=none) X J hp ht fun b=>?_)
 obtain ⟨cd,hc,hd'⟩:=PySem.W.any_some hh
 have hx:s.heap.get? x=some ⟨.ref C,some dx,.plain,#[]⟩:=I.obj
 refine wpAny_bind (wpAny_pure (wpAny_bind (wpAny_bind (wpAny_loadPart hx (wpAny_bind (PySem.W.Looks.here (s:={ s with toks:=s.toks+1 }) (PySem.W.looks_clsIn X hc) ?_))))))
 rw [hd']
 refine wpAny_pure (a:=some dx) (wpAny_bind (wpAny_pure (wpAny_bind ?_)))
 refine wpAny_nsSet1 (s:={ s with toks:=s.toks+1 }) I.ns fun h' hn2 hs2=>?_
 obtain ⟨oD,esD,epD,hoD,hdD,hcD⟩:=hn2.count (PySem.Within.cons name v hw)
 refine wpAny_bind (wpAny_lookBehind hoD (by rw [hdD];exact pastItsLine_dict (Nat.le_trans hcD (by rw [List.length_cons];omega))) ?_)
 exact wpAny_pure (h _ ⟨(hs2.2 _ (Ne.symm I.ne)).trans I.obj,hn2,I.ne⟩ hs2)
theorem v2K {R:Result→Shared→Prop}{vs:List Value}{kw:List (Str×Value)} (X:K.In s.heap) (hm:PySem.W.makesIn K C=true)
  (hi:PySem.W.findIn K (.ref C) "__init__"=some (some (.ref f))) (hf:PySem.W.typeIn K (.ref f)=some (.type "function"))
  (h:codeAny (model prog w) (A.under (.builtin "type.__call__" ⟨.ref C::vs,kw⟩)) (.call (.ref f) ⟨.ref (s.heap.objs.size+1)::vs,kw⟩) (PySem.W.InitBack (s.heap.objs.size+1) R)
   { s with heap:=(s.heap.push PySem.W.emptyDict).push (PySem.W.instObj C s.heap.objs.size) }) :
  codeAny (model prog w) A (.call (.ref C) ⟨vs,kw⟩) R s:=by
 obtain ⟨hh,g,d,t,os⟩:=s
 exact PySem.W.make_core (PySem.W.makes_of X hm) (PySem.W.looks_findIn X hi) (fun self=>PySem.W.bind_fn X self hf) (.inl rfl) h
end
noncomputable def putF (f:Str) (v:V):List (Str×V)→List (Str×V)
 | []=>[(f,v)]
 | (g,x)::r=>if g=f then (g,v)::r else (g,x)::putF f v r
theorem u4O (f g:Str) (v:V):∀ fs:List (Str×V),(putF f v fs).lookup g=if g=f then some v else fs.lookup g
 | []=>by
  show List.lookup g [(f,v)]=_
  by_cases h:g=f
  ·have hb:(g==f)=true:=beq_iff_eq.mpr h
   simp only [List.lookup,hb,if_pos h]
  ·have hb:(g==f)=false:=beq_eq_false_iff_ne.mpr h
   simp only [List.lookup,hb,if_neg h]
 | (k,x)::r=>by
  have ih:=u4O f g v r
  rw [show putF f v ((k,x)::r)=(if k=f then (k,v)::r else (k,x)::putF f v r) from rfl]
  by_cases hk:k=f
  ·rw [if_pos hk]
   by_cases h:g=k
   ·have hb:(g==k)=true:=beq_iff_eq.mpr h
    simp only [List.lookup,hb,if_pos (h.trans hk)]
   ·have hb:(g==k)=false:=beq_eq_false_iff_ne.mpr h
    simp only [List.lookup,hb,if_neg (fun e:g=f=>h (e.trans hk.symm))]
  ·rw [if_neg hk]
   by_cases h:g=k
   ·have hb:(g==k)=true:=beq_iff_eq.mpr h
    simp only [List.lookup,hb,if_neg (fun e:g=f=>hk (h.symm.trans e))]
   ·have hb:(g==k)=false:=beq_eq_false_iff_ne.mpr h
    simp only [List.lookup,hb]
    exact ih
theorem u4R (f:Str) (v:V):∀ fs:List (Str×V),f∈(putF f v fs).map (·.1)∧∀ g,g∈fs.map (·.1)→g∈(putF f v fs).map (·.1)
 | []=>⟨by simp [putF],fun g h=>by simp at h⟩
 | (k,x)::r=>by
  obtain ⟨i1,i2⟩:=u4R f v r
  rw [show putF f v ((k,x)::r)=(if k=f then (k,v)::r else (k,x)::putF f v r) from rfl]
  by_cases hk:k=f
  ·rw [if_pos hk]
   subst hk
   exact ⟨by simp,fun g h=>by simpa using h⟩
  ·rw [if_neg hk]
   refine ⟨?_,fun g h=>?_⟩
   ·rw [List.map_cons]
    exact List.mem_cons_of_mem _ i1
   ·rw [List.map_cons] at h ⊢
    rcases List.mem_cons.mp h with e | e
    ·exact List.mem_cons.mpr (.inl e)
    ·exact List.mem_cons_of_mem _ (i2 g e)
theorem u4Q (f:Str) (v:V):∀ fs:List (Str×V),(putF f v fs).length≤fs.length+1
 | []=>by simp [putF]
 | (k,x)::r=>by
  have ih:=u4Q f v r
  rw [show putF f v ((k,x)::r)=(if k=f then (k,v)::r else (k,x)::putF f v r) from rfl]
  by_cases hk:k=f
  ·rw [if_pos hk,List.length_cons,List.length_cons];omega
  ·rw [if_neg hk,List.length_cons,List.length_cons];omega
theorem RelO.some_of {v:V}{o:Option Value} (r:RelO (some v) o):∃ u,o=some u∧RelV v u:=by
 cases o with
 | none=>exact (show False from r).elim
 | some u=>exact ⟨u,rfl,r⟩
theorem u7i {v:V}{u:Value} (r:RelV v u):PySem.W.handedIn u=true:=by
 cases v with
 | non=>cases (show u=Value.none from r);rfl
 | bl b=>cases (show u=Value.bool b from r);rfl
 | int i=>obtain ⟨t,e⟩:=(show ∃ t,u=Value.int i t from r);cases e;rfl
 | str x=>obtain ⟨t,e⟩:=(show ∃ t,u=Value.str x t from r);cases e;rfl
 | byt b=>obtain ⟨t,e⟩:=(show ∃ t,u=Value.bytes b t from r);cases e;rfl
 | flt b=>obtain ⟨t,e⟩:=(show ∃ t,u=Value.float b t from r);cases e;rfl
 | ref a=>cases (show u=Value.ref a from r);rfl
 | ty n=>cases (show u=Value.type n from r);rfl
section
variable {P:Program}{w:World}{H H':Hp}{h h':Heap}{a C dx:Addr}{fs fs':List (Str×V)}
theorem u8p (hok:HOk P w H h) (e:H a=some (.ins C dx fs)):∃ mA,ObjM h a dx C mA∧(∀ f,RelO (fs.lookup f) (mA f))∧PySem.Within mA (fs.map (·.1))∧fs.length≤1000∧H dx=some (.own a):=by
 obtain ⟨d,z,ne,ob,mA,n,r,q⟩:=(show ObjOk P w H h a (.ins C dx fs) from hok a _ e)
 exact ⟨mA,⟨ob,n,ne⟩,r,q,z,d⟩
end
structure Cls (K:PySem.W.Frag) (C:Addr):Prop where
 pg:PySem.W.plainGet K C Str.empty=true
 hd:PySem.W.hasDictIn K C=true
 po:PySem.W.plainOver K C=true
 sa:PySem.W.findIn K (.ref C) "__setattr__"=some (some (.builtin "object.__setattr__"))
theorem Cls.get {K:PySem.W.Frag}{C:Addr} (c:Cls K C) (f:Str):PySem.W.plainGet K C f=true:=c.pg
noncomputable def NoAttr (K:PySem.W.Frag) (C:Addr) (f:Str):Prop:=PySem.W.findIn K (.ref C) f=some none
theorem NoAttr.taker {K:PySem.W.Frag}{C:Addr}{f:Str} (n:NoAttr K C f):PySem.W.takerIn K C f=some none:=by
 unfold PySem.W.takerIn
 rw [show PySem.W.findIn K (.ref C) f=some none from n]
 rfl
section
variable {X:Cx}{pins:List (Addr×Obj)}{σ:St}{H:Hp}{s:Shared}{a C dx:Addr}{fs:List (Str×V)}{f:Str}{v:V}{A:Around}{E:Value→Shared→Prop}
theorem v0h {b:Bool}{Q:Value→Shared→Prop} (I:Inv X pins σ H s) (e:H a=some (.ins C dx fs)) (c:Cls X.K C) (n:NoAttr X.K C f) (l:fs.lookup f=some v)
  (h:∀ u s',Inv X pins σ H s'→RelV v u→Q u s'):wpAny (model X.prog X.w) A (getAttr (.ref a) f b) Q E s:=by
 obtain ⟨mA,O,r,_,_,_⟩:=u8p I.hok e
 obtain ⟨u,hu,ru⟩:=RelO.some_of (v:=v) (o:=mA f) (by rw [← l];exact r f)
 exact get_map I.kIn O (c.get f) c.hd n hu (u7i ru) (h u _ (I.tok _) ru)
theorem u9z {y:V}{u:Value}{Q:Unit→Shared→Prop} (I:Inv X pins σ H s) (e:H a=some (.ins C dx fs)) (c:Cls X.K C) (n:NoAttr X.K C f) (hl:fs.length<1000) (ry:RelV y u)
  (h:∀ s',Inv X pins σ (upd H a (.ins C dx (putF f y fs))) s'→Q () s'):wpAny (model X.prog X.w) A (setAttr (.ref a) f u) Q E s:=by
 obtain ⟨mA,O,r,wi,_,ho⟩:=u8p I.hok e
 have hz:(fs.map (·.1)).length≤sizeLine:=by rw [List.length_map,sizeLine_eq];omega
 refine set_map I.kIn O c.sa c.po n.taker c.hd wi hz fun h' O' sb=>h _ ?_
 have hd:∃ o,h'.get? dx=some o:=let ⟨o,_,_,e',_⟩:=O'.ns;⟨o,e'⟩
 refine I.write (x:=a) (e:=dx) (by rw [e];exact True.intro) (.inr ho) (fun b q hb z=>(sb.2 b hb).trans z) hd ?_
 refine ⟨by rw [u0r O.ne];exact ho,?_,O.ne,O'.obj,_,O'.ns,fun g=>?_,fun g hg=>?_⟩
 ·have:=u4Q f y fs;omega
 ·show RelO ((putF f y fs).lookup g) (if g=f then some u else mA g)
  rw [u4O]
  by_cases q:g=f
  ·rw [if_pos q,if_pos q];exact ry
  ·rw [if_neg q,if_neg q];exact r g
 ·by_cases q:g=f
  ·rw [q];exact (u4R f y fs).1
  ·refine (u4R f y fs).2 g (wi g fun z=>hg ?_)
   show (if g=f then some u else mA g)=none
   rw [if_neg q];exact z
theorem Inv.made (I:Inv X pins σ H s):Inv X pins σ (upd (upd H s.heap.objs.size (.own (s.heap.objs.size+1))) (s.heap.objs.size+1) (.ins C s.heap.objs.size []))
  { s with heap:=(s.heap.push PySem.W.emptyDict).push (PySem.W.instObj C s.heap.objs.size) }:=by
 have e1:(s.heap.push PySem.W.emptyDict).get? s.heap.objs.size=some PySem.W.emptyDict:=Heap.get?_push_size s.heap rfl
 have e2:((s.heap.push PySem.W.emptyDict).push (PySem.W.instObj C s.heap.objs.size)).get? (s.heap.objs.size+1)=some (PySem.W.instObj C s.heap.objs.size):=by
  have:=Heap.get?_push_size (s.heap.push PySem.W.emptyDict) (o:=PySem.W.instObj C s.heap.objs.size) rfl
  rwa [Heap.size_push] at this
 have e3:(s.heap.push PySem.W.emptyDict).Ns s.heap.objs.size (fun _=>none):=⟨PySem.W.emptyDict,#[],_,e1,rfl,(fun e he=>absurd he (by simp)),fun _=>rfl⟩
 have I1:=I.laid (a:=s.heap.objs.size) (o:=.own (s.heap.objs.size+1)) (h':=s.heap.push PySem.W.emptyDict) (t':=s.toks) (fun b u q=>Heap.get?_push_of_some _ q) (Nat.le_refl _) ⟨_,e1⟩
 refine I1.laid (a:=s.heap.objs.size+1) (o:=.ins C s.heap.objs.size []) (t':=s.toks) (fun b u q=>Heap.get?_push_of_some _ q) (Nat.le_of_eq (Heap.size_push _ _)) ?_
 have ne:s.heap.objs.size≠s.heap.objs.size+1:=Nat.ne_of_lt (Nat.lt_succ_self _)
 refine ⟨by rw [u0r ne,u0k],Nat.zero_le _,ne,e2,fun _=>none,(Heap.Ns1.of_empty e3).at fun o q=>Heap.get?_push_of_some _ q,fun _=>True.intro,fun y hy=>absurd rfl hy⟩
theorem v1Y {prog:Program}{w:World}{env:Env}{e:Expr}{f:Str}{pos:Pos}{s:Shared}{Q:Value→Shared→Prop} (hb:attributeBase e f env (eval e env)=eval e env)
  (h:wpAny (model prog w) A (eval e env) (fun o s₁=>wpAny (model prog w) A (getAttr o f true) Q E s₁) E s):wpAny (model prog w) A (eval (.Attribute e f pos) env) Q E s :=
 Attribute_any_ h (by rw [arm_eval_Attribute,hb])
end
noncomputable def tFld (K:PySem.W.Frag) (ta:TE) (f:Str):TE:=fun σ H Q=>ta σ H fun x H1=>∃ a C dx fs v,x=.ref a∧H1 a=some (.ins C dx fs)∧Cls K C∧NoAttr K C f∧fs.lookup f=some v∧Q v H1
noncomputable def sFld (K:PySem.W.Frag) (ta tv:TE) (f:Str):TS:=fun D σ H=>tv σ H fun y H1=>ta σ H1 fun x H2=>∃ a C dx fs,x=.ref a∧H2 a=some (.ins C dx fs)∧Cls K C∧NoAttr K C f∧fs.length<1000 ∧
 D.nx σ (upd H2 a (.ins C dx (putF f y fs)))
section
variable {X:Cx}{o e value:Expr}{f:Str}{pos pos' tpos:Pos}{ta tv:TE}
theorem v3o (he:PE X e ta) (hb:attributeBase e f X.env (eval e X.env)=eval e X.env):PE X (.Attribute e f pos) (tFld X.K ta f):=by
 intro pins s σ H Q I h
 refine v1Y hb (thn (he pins s σ H _ I h) fun u s1 ⟨x,H1,I1,rx,a,C,dx,fs,v,ex,ea,c,n,l,q⟩=>?_)
 subst ex
 obtain rfl:u=Value.ref a:=rx
 exact v0h I1 ea c n l fun u' s2 I2 ru=>⟨v,H1,I2,ru,q⟩
theorem ps_fld (ha:PE X o ta) (hv:PE X value tv) (hs:swapsWith value (some (.Attribute o f pos')) pos.line X.env=pure false):PS X (.Assign [.Attribute o f pos'] value pos) (sFld X.K ta tv f):=by
 intro pins s σ H D I h
 refine plainObj_wpAny_Assign_Attribute (thn (hv pins s σ H _ I h) fun u s1 ⟨y,H1,I1,ry,q⟩=>thn (ha pins s1 σ H1 _ I1 q) fun ov s2 ⟨x,H2,I2,rx,a,C,dx,fs,ex,ea,c,n,l,q2⟩=>?_) hs
 subst ex
 obtain rfl:ov=Value.ref a:=rx
 exact u9z I2 ea c n l ry fun s3 I3=>⟨σ,_,I3,q2⟩
end
section
variable {X:Cx}{pins:List (Addr×Obj)}{σ:St}{H:Hp}{s:Shared}{A:Around}{E:Value→Shared→Prop}{Q:Value→Shared→Prop}{c:Value}{b:Bool}
inductive TyOf (K:PySem.W.Frag) (H:Hp):V→Value→Prop where
 | non:TyOf K H .non (.type "NoneType")
 | bl (x:Bool):TyOf K H (.bl x) (.type "bool")
 | int (i:Int):TyOf K H (.int i) (.type "int")
 | str (x:Str):TyOf K H (.str x) (.type "str")
 | flt (x:UInt64):TyOf K H (.flt x) (.type "float")
 | lst {a:Addr}{xs:List V} (e:H a=some (.lst xs)):TyOf K H (.ref a) (.type "list")
 | frz {a:Addr}{o:Obj}{xs:List V} (e:H a=some (.frz o (.lst xs))):TyOf K H (.ref a) (.type "list")
 | tup {a:Addr}{xs:List V} (e:H a=some (.tup xs)):TyOf K H (.ref a) (.type "tuple")
 | dK {a:Addr}{kvs:List (Key×V)} (e:H a=some (.dK kvs)):TyOf K H (.ref a) (.type "dict")
 | dT {a:Addr}{kvs:List (List Key×V)} (e:H a=some (.dT kvs)):TyOf K H (.ref a) (.type "dict")
 | ins {a C dx:Addr}{fs:List (Str×V)} (e:H a=some (.ins C dx fs)) (cl:Cls K C) (ha:PySem.W.findIn K (.ref C) "__class__"=some (some (.builtin "object.__class__")))
   (hn:PySem.W.specialIn K (.builtin "object.__class__") "__get__"=some (some (.builtin "getset_descriptor.__get__"))) (htk:PySem.W.takesIn K (.builtin "object.__class__")=some true)
   (hm:PySem.W.mroIn K C (.type "object")=some true):TyOf K H (.ref a) (.ref C)
theorem u2p {x:V}{u t:Value} (I:Inv X pins σ H s) (rx:RelV x u) (ty:TyOf X.K H x t) (e:PySem.W.kitOne X.K t c=some b) (h:∀ tk,Q (.bool b) { s with toks:=tk }) :
  wpAny (model X.prog X.w) A (call (.builtin "isinstance") [u,c]) Q E s:=by
 cases ty with
 | non=>cases (show u=Value.none from rx);exact PySem.W.kia_one PySem.W.kitx_none I.kIn True.intro e (fun z=>nomatch z) h
 | bl y=>cases (show u=Value.bool y from rx);exact PySem.W.kia_one PySem.W.kitx_bool I.kIn True.intro e (fun z=>nomatch z) h
 | int i=>obtain ⟨t,q⟩:=(show ∃ t,u=Value.int i t from rx);cases q;exact PySem.W.kia_one PySem.W.kitx_int I.kIn True.intro e (fun z=>nomatch z) h
 | str y=>obtain ⟨t,q⟩:=(show ∃ t,u=Value.str y t from rx);cases q;exact PySem.W.kia_one PySem.W.kitx_str I.kIn True.intro e (fun z=>nomatch z) h
 | flt y=>obtain ⟨t,q⟩:=(show ∃ t,u=Value.float y t from rx);cases q;exact PySem.W.kia_one PySem.W.kitx_float I.kIn True.intro e (fun z=>nomatch z) h
 | @lst a xs ea =>
  cases (show u=Value.ref a from rx)
  obtain ⟨_,_,n,_,h1⟩:=(show ObjOk X.prog X.w H s.heap a (.lst xs) from I.hok a _ ea)
  exact PySem.W.kia_one PySem.W.kitx_list I.kIn ⟨_,h1,rfl⟩ e (fun z=>nomatch z) h
 | @frz a ob xs ea =>
  cases (show u=Value.ref a from rx)
  obtain ⟨_,_,_,n,_,h1⟩:=(show ObjOk X.prog X.w H s.heap a (.frz ob (.lst xs)) from I.hok a _ ea)
  exact PySem.W.kia_one PySem.W.kitx_list I.kIn ⟨_,h1,rfl⟩ e (fun z=>nomatch z) h
 | @tup a xs ea =>
  cases (show u=Value.ref a from rx)
  obtain ⟨_,_,_,p⟩:=(show ObjOk X.prog X.w H s.heap a (.tup xs) from I.hok a _ ea)
  obtain ⟨o,h1,h2,_⟩:=p
  exact PySem.W.kia_one PySem.W.kitx_tuple I.kIn ⟨o,h1,h2⟩ e (fun z=>nomatch z) h
 | @dK a kvs ea =>
  cases (show u=Value.ref a from rx)
  obtain ⟨_,_,vs,_,p⟩:=(show ObjOk X.prog X.w H s.heap a (.dK kvs) from I.hok a _ ea)
  obtain ⟨o,es,ep,h1,h2,_⟩:=p
  exact PySem.W.kia_one PySem.W.kitx_dict I.kIn ⟨o,h1,h2.1⟩ e (fun z=>nomatch z) h
 | @dT a kvs ea =>
  cases (show u=Value.ref a from rx)
  obtain ⟨_,_,xs,_,o,es,ep,h1,h2,_⟩:=(show ObjOk X.prog X.w H s.heap a (.dT kvs) from I.hok a _ ea)
  exact PySem.W.kia_one PySem.W.kitx_dict I.kIn ⟨o,h1,h2.1⟩ e (fun z=>nomatch z) h
 | @ins a C dx fs ea cl ha hn htk hm =>
  cases (show u=Value.ref a from rx)
  obtain ⟨mA,O,_⟩:=u8p I.hok ea
  obtain ⟨od,J,_⟩:=O.look
  exact PySem.W.kia_one (PySem.W.kitx_own (cl.get _) cl.hd ha hn htk hm) I.kIn J e (fun z=>nomatch z) h
end
structure Room (k:Nat) (A:Around):Prop where
 hd:A.handled=none
 dp:A.depth+3*k+5<recursionLimit
 un:A.units+16*k+200<cLine
theorem Room.mono {j k:Nat}{A:Around} (r:Room k A) (h:j≤k):Room j A:=⟨r.hd,by have:=r.dp;omega,by have:=r.un;omega⟩
theorem Room.deeper {k:Nat}{A:Around} (r:Room (k+1) A) (env:Env):Room k (A.deeper env) :=
 ⟨r.hd,by have:=r.dp;show A.depth+1+3*k+5<_;omega,by have:=r.un;show A.units+3+16*k+200<_;omega⟩
theorem v0e {A:Around}{C:Addr}{us:List Value}{kw:List (Str×Value)}:(A.under (.builtin "type.__call__" ⟨.ref C::us,kw⟩)).depth=A.depth+1:=by
 first | rfl | simp [Around.under,Code.weight,Code.isCreation,Code.isGuard,Code.isCaller,Code.frames,Code.isFrame,guardIds]
theorem v0d {A:Around}{C:Addr}{us:List Value}{kw:List (Str×Value)}:(A.under (.builtin "type.__call__" ⟨.ref C::us,kw⟩)).units=A.units+1:=by
 first | rfl | simp [Around.under,Code.cUnits,Code.frames,Code.isFrame]
theorem Room.make {k:Nat}{A:Around} (r:Room (k+1) A) (C:Addr) (us:List Value) (kw:List (Str×Value)):Room k (A.under (.builtin "type.__call__" ⟨.ref C::us,kw⟩)) :=
 ⟨r.hd,by have:=r.dp;rw [v0e];omega,by have:=r.un;rw [v0d];omega⟩
theorem Room.depth {k:Nat}{A:Around} (r:Room k A):A.depth<recursionLimit:=by have:=r.dp;omega
noncomputable def tNil:TA:=fun _ H Q=>Q [] H
noncomputable def tCons (ta:TE) (tr:TA):TA:=fun σ H Q=>ta σ H fun x H1=>tr σ H1 fun xs H2=>Q (x::xs) H2
section
variable {X:Cx}{e:Expr}{es:List Expr}{te:TE}{t:TA}{pos:Pos}
theorem u8E:PA X [] tNil:=fun _ _ _ _ H Q I h=>Calls.spliced_nil ⟨[],H,I,.nil,h⟩
theorem pa_cons (ha:PE X e te) (hr:PA X es t) (hs:starEach (e::es) X.env=(false,eval e X.env)::starEach es X.env:=by rfl):PA X (e::es) (tCons te t):=by
 intro pos pins s σ H Q I h
 rw [hs]
 show wpAny _ _ (spliced ((false,eval e X.env)::backTo pos (starEach es X.env))) _ _ s
 refine Calls.spliced_cons (thn (ha pins s σ H _ I h) fun u s1 ⟨x,H1,I1,r1,q1⟩=>?_)
 exact thn (hr pos pins s1 σ H1 _ I1 q1) fun us s2 ⟨xs,H2,I2,r2,q2⟩=>⟨x::xs,H2,I2,.cons r1 r2,q2⟩
noncomputable def tTup (t:TA):TE:=fun σ H Q=>t σ H fun xs H1=>xs.length≤sizeLine∧∀ p,H1 p=none→Q (.ref p) (upd H1 p (.tup xs))
noncomputable def tLst (t:TA):TE:=fun σ H Q=>t σ H fun xs H1=>xs.length≤sizeLine∧∀ p,H1 p=none→Q (.ref p) (upd H1 p (.lst xs))
theorem pe_tup {x1} (h:PA X es t):PE X (.Tuple es x1 pos) (tTup t):=by
 intro pins s σ H Q I hq
 refine wpAny_Tuple_spliced (thn (h pos pins s σ H _ I hq) fun us s1 ⟨xs,H1,I1,r,z,q⟩=>⟨by rw [← r.length];exact z,?_⟩)
 have hf:H1 s1.heap.objs.size=none:=I1.hok.fresh (Nat.le_refl _)
 refine ⟨.ref s1.heap.objs.size,upd H1 s1.heap.objs.size (.tup xs),I1.laid (t':=s1.toks) (fun b u e=>Heap.get?_push_of_some _ e) (Nat.le_refl _) ?_,rfl,q _ hf⟩
 exact ⟨z,us,r,⟨_,Heap.get?_push_size _ rfl,rfl,_,rfl⟩⟩
theorem v3n (h:PA X es t):PE X (.List es pos) (tLst t):=by
 intro pins s σ H Q I hq
 refine wpAny_List_spliced (thn (h pos pins s σ H _ I hq) fun us s1 ⟨xs,H1,I1,r,z,q⟩=>⟨by rw [← r.length];exact z,?_⟩)
 have hf:H1 s1.heap.objs.size=none:=I1.hok.fresh (Nat.le_refl _)
 refine ⟨.ref s1.heap.objs.size,upd H1 s1.heap.objs.size (.lst xs),I1.laid (t':=s1.toks) (fun b u e=>Heap.get?_push_of_some _ e) (Nat.le_refl _) ?_,rfl,q _ hf⟩
 exact ⟨z,us,0,r,Heap.get?_push_size _ rfl⟩
end
noncomputable abbrev Sp:=List V→Hp→VK→XK→Prop
noncomputable abbrev CXT:=List Env→Hp→Shared→XK→Value→Shared→Prop
structure Env0 (P:Program) (w:World) (K:PySem.W.Frag) (mg:Str→Option Value) (base:Heap) (A:Around) (outer:List Env) (s:Shared) (H:Hp):Prop where
 frames:A.frames=some outer
 mod:Mod K mg base
 bs:∀ b o,base.get? b=some o→s.heap.get? b=some o∧H b=none
 bsz:base.objs.size≤s.heap.objs.size
 funs:s.heap.FunFrames base outer
 frf:∀ b∈frs outer,H b=none
 hok:HOk P w H s.heap
 bare:AllBare s.gens
noncomputable def CE (outer:List Env) (P:Program) (w:World) (H:Hp) (s:Shared) (Q:VK) (u:Value) (s':Shared):Prop :=
 ∃ v H',s'.os=s.os∧AllBare s'.gens∧Un (frs outer) [] H H' s.heap s'.heap∧HOk P w H' s'.heap∧RelV v u∧Q v H'
noncomputable def CR (CX:CXT) (outer:List Env) (P:Program) (w:World) (H:Hp) (s:Shared) (Q:VK) (E:XK) (r:Result) (s':Shared):Prop :=
 match r with
 | .ok (.ret u)=>CE outer P w H s Q u s'
 | .ok _=>False
 | .error e=>CX outer H s E e s'
structure FnOk (P:Program) (w:World) (K:PySem.W.Frag) (mg:Str→Option Value) (base:Heap) (CX:CXT) (k:Nat) (f:Addr) (fd:FuncData) (ps:List Str) (sp:Sp):Prop where
 len:∀ vs H Q E,sp vs H Q E→vs.length=ps.length
 run:∀ (A:Around) (outer:List Env) (s:Shared) (H:Hp) (args:Args) (us:List Value) (vs:List V) (Q:VK) (E:XK),Room k A→Env0 P w K mg base A outer s H→BindsTo s fd args (ps.zip us)→Vals vs us→sp vs H Q E →
  codeAny (model P w) A (.call (.ref f) args) (CR CX outer P w H s Q E) s
theorem FnOk.imp {P:Program}{w:World}{K:PySem.W.Frag}{mg:Str→Option Value}{base:Heap}{CX:CXT}{k:Nat}{f:Addr}{fd:FuncData}{ps:List Str}{sp sp':Sp} (F:FnOk P w K mg base CX k f fd ps sp)
  (h:∀ vs H Q E,sp' vs H Q E→sp vs H Q E):FnOk P w K mg base CX k f fd ps sp' :=
 ⟨fun vs H Q E q=>F.len vs H Q E (h _ _ _ _ q),fun A outer s H args us vs Q E hr he hb hv hs=>F.run A outer s H args us vs Q E hr he hb hv (h _ _ _ _ hs)⟩
theorem Env0.make {P:Program}{w:World}{K:PySem.W.Frag}{mg:Str→Option Value}{base:Heap}{A:Around}{outer:List Env}{s:Shared}{H:Hp} (e:Env0 P w K mg base A outer s H) (C:Addr) (us:List Value) (kw:List (Str×Value)) :
  Env0 P w K mg base (A.under (.builtin "type.__call__" ⟨.ref C::us,kw⟩)) outer s H:=⟨by first | exact e.frames | (simpa [Around.under,Code.envs,Code.isFrame,pushEnvs] using e.frames),e.mod,e.bs,e.bsz,e.funs,e.frf,e.hok,e.bare⟩
section
variable {X:Cx}{pins:List (Addr×Obj)}{σ:St}{H:Hp}{s s':Shared}
theorem Inv.env0 (I:Inv X pins σ H s):Env0 X.prog X.w X.K X.mg X.base X.A X.stack s H :=
 ⟨I.ok.frames,I.ok.mod,I.bs,Nat.le_trans I.ok.bsz I.sz,I.stack,I.stkFree,I.hok,I.bare⟩
theorem Inv.after {Q:VK}{u:Value} (I:Inv X pins σ H s) (h:CE X.stack X.prog X.w H s Q u s'):EP X pins σ Q u s':=by
 obtain ⟨v,H',os,bare,un,hok,r,q⟩:=h
 obtain ⟨hh,g,d,t,os'⟩:=s'
 obtain rfl:os'=s.os:=os
 exact ⟨v,H',I.call (h':=hh) (g':=g) (d':=d) (t':=t) (ch:=[]) un hok bare (fun b z=>absurd z (by simp)),r,q⟩
end
noncomputable def tCall (sp:Sp) (dvs:List V) (E:XK) (t:TA):TE:=fun σ H Q=>t σ H fun vs H1=>sp (vs++dvs) H1 Q E
noncomputable def Binds (K:PySem.W.Frag) (fd:FuncData) (ps:List Str) (ds:List Value):Prop :=
 ∀ (s:Shared) (us:List Value),K.In s.heap→(us++ds).length=ps.length→BindsTo s fd ⟨us,[]⟩ (ps.zip (us++ds))
theorem Binds.all {K:PySem.W.Frag}{fd:FuncData}{ps:List Str} (h:∀ us:List Value,us.length=ps.length→bindArgs fd ⟨us,[]⟩=pure (ps.zip us)):Binds K fd ps []:=fun s us _ hl=>by
 rw [List.append_nil] at hl ⊢
 exact .of_eq (h us hl)
noncomputable def Passes (CX:CXT) (X:Cx) (E:XK):Prop:=∀ (pins:List (Addr×Obj)) (σ:St) (H:Hp) (s:Shared) (e:Value) (s':Shared),Inv X pins σ H s→CX X.stack H s E e s'→X.xe e s'
section
variable {X:Cx}{CX:CXT}{k:Nat}{f C:Addr}{fd:FuncData}{ps:List Str}{sp:Sp}{dvs:List V}{ds:List Value}{E:XK}{x m:Str}{p pos apos:Pos}{e o:Expr}{es:List Expr}{ta:TE}{t:TA}
theorem run_fn {pins:List (Addr×Obj)}{σ:St}{H:Hp}{s:Shared}{Q:VK}{us:List Value}{vs:List V} (F:FnOk X.prog X.w X.K X.mg X.base CX k f fd ps sp) (hr:Room k X.A) (hb:Binds X.K fd ps ds) (hd:Vals dvs ds) (hx:Passes CX X E)
  (I:Inv X pins σ H s) (r:Vals vs us) (h:sp (vs++dvs) H Q E):wpAny (model X.prog X.w) X.A (call (.ref f) us) (EP X pins σ Q) X.xe s:=by
 have r2:Vals (vs++dvs) (us++ds):=r.append hd
 have hl:(us++ds).length=ps.length:=by rw [← r2.length];exact F.len _ _ _ _ h
 refine wpAny_call (codeAny_mono (F.run X.A X.stack s H ⟨us,[]⟩ (us++ds) (vs++dvs) Q E hr I.env0 (hb s us I.kIn hl) r2 h) fun r s' hq=>?_)
 cases r with
 | error e=>exact hx pins σ H s e s' I hq
 | ok fl =>
  cases fl with
  | ret u=>exact I.after hq
  | next=>exact False.elim hq
  | brk=>exact False.elim hq
  | cont=>exact False.elim hq
theorem pe_call (F:FnOk X.prog X.w X.K X.mg X.base CX k f fd ps sp) (hr:Room k X.A) (hg:Gl X x) (hm:X.mg x=some (.ref f)) (hk:PySem.W.keepIn X.K (.ref f)=true) (hb:Binds X.K fd ps ds) (hd:Vals dvs ds) (hx:Passes CX X E)
  (ha:PA X (e::es) t) (hdb:(x==("__debug__":Str))=false:=by decide) (he:starEach (e::es) X.env=(false,eval e X.env)::starEach es X.env:=by rfl) (hpl:(backTo pos (starEach es X.env)).any (·.1)=false:=by rfl) :
  PE X (.Call (.Name x p) (e::es) [] pos) (tCall sp dvs E t):=by
 intro pins s σ H Q I h
 refine wpAny_Call_Name_kw (u3A I hg hm ?_ hdb)
 refine PySem.W.callWith_K (h₀:=X.base) I.ok.mod.kin hk (thn (ha pos pins s σ H _ I h) fun us s1 ⟨vs,H1,I1,r,q⟩=>⟨I1.kIn,?_⟩) he hpl
 exact run_fn F hr hb hd hx I1 r q
structure Mk (K:PySem.W.Frag) (C f:Addr):Prop where
 makes:PySem.W.makesIn K C=true
 init:PySem.W.findIn K (.ref C) "__init__"=some (some (.ref f))
 fn:PySem.W.isFn K (.ref f)=true
 kp:PySem.W.keepIn K (.ref C)=true
end
section
variable {X:Cx}{CX:CXT}{k:Nat}{f C:Addr}{fd:FuncData}{ps ks:List Str}{sp:Sp}{E:XK}{x m:Str}{p pos apos kpos:Pos}{e o:Expr}{es:List Expr}{kws:List Keyword}{te ta:TE}{t tk:TA}{nm:Option Str}
variable {g:List Value→List Value→List Value}{gV:List V→List V→List V}
end
structure FnScope (N P:List Str) (sc:Scope):Prop where
 kind:sc.kind=.function
 co:sc.isCoroutine=false
 gen:sc.isGenerator=false
 nd:N.Nodup
 pre:N.take P.length=P
 par:∀ x∈P,sc.names.lookup x=some .local∨sc.names.lookup x=some .cell
 nofree:∀ y∈sc.names,y.2≠.free
theorem u7E {kindOf:Str→Option NameKind}{x:Str}:∀ {binds:List (Str×Value)}{m:Str→Option Value},(∀ v,(x,v)∉binds)→bindL kindOf binds m x=m x
 | [],_,_=>rfl
 | (n,v)::r,m,h=>by
  unfold bindL
  rw [u7E fun w hw=>h w (List.mem_cons_of_mem _ hw)]
  split
  ·have:x≠n:=by rintro rfl;exact h v List.mem_cons_self
   simp [this]
  ·rfl
theorem u7G {kindOf:Str→Option NameKind}{x:Str}:∀ {binds:List (Str×Value)}{m:Str→Option Value},(∀ v,(x,v)∉binds)→bindC kindOf binds m x=m x
 | [],_,_=>rfl
 | (n,v)::r,m,h=>by
  unfold bindC
  rw [u7G fun w hw=>h w (List.mem_cons_of_mem _ hw)]
  split
  ·rfl
  ·have:x≠n:=by rintro rfl;exact h v List.mem_cons_self
   simp [this]
theorem u7F {kindOf:Str→Option NameKind}{x:Str}{v:Value}:∀ {P:List Str}{vs:List Value}{i:Nat}{m:Str→Option Value},P.Nodup→P[i]?=some x→vs[i]?=some v→kindOf x=some .local →
  bindL kindOf (P.zip vs) m x=some v
 | [],_,_,_,_,h,_,_=>by simp at h
 | _::_,[],_,_,_,_,h,_=>by simp at h
 | p::P,w::vs,0,m,nd,h1,h2,hk=>by
  simp at h1 h2;subst h1;subst h2
  show bindL kindOf ((p,w)::P.zip vs) m p=_
  unfold bindL
  rw [u7E fun v hv=>(List.nodup_cons.mp nd).1 (List.of_mem_zip hv).1,if_pos hk]
  simp
 | p::P,w::vs,i+1,m,nd,h1,h2,hk=>by
  show bindL kindOf ((p,w)::P.zip vs) m x=_
  unfold bindL
  exact u7F (i:=i) (List.nodup_cons.mp nd).2 (by simpa using h1) (by simpa using h2) hk
theorem u7H {kindOf:Str→Option NameKind}{x:Str}{v:Value}:∀ {P:List Str}{vs:List Value}{i:Nat}{m:Str→Option Value},P.Nodup→P[i]?=some x→vs[i]?=some v→kindOf x≠some .local →
  bindC kindOf (P.zip vs) m x=some v
 | [],_,_,_,_,h,_,_=>by simp at h
 | _::_,[],_,_,_,_,h,_=>by simp at h
 | p::P,w::vs,0,m,nd,h1,h2,hk=>by
  simp at h1 h2;subst h1;subst h2
  show bindC kindOf ((p,w)::P.zip vs) m p=_
  unfold bindC
  rw [u7G fun v hv=>(List.nodup_cons.mp nd).1 (List.of_mem_zip hv).1,if_neg hk]
  simp
 | p::P,w::vs,i+1,m,nd,h1,h2,hk=>by
  show bindC kindOf ((p,w)::P.zip vs) m x=_
  unfold bindC
  exact u7H (i:=i) (List.nodup_cons.mp nd).2 (by simpa using h1) (by simpa using h2) hk
noncomputable def start (N:List Str) (vs:List V):St:=vs.map some++List.replicate (N.length - vs.length) none
noncomputable def cxOf (CX:CXT) (P:Program) (w:World) (K:PySem.W.Frag) (mg:Str→Option Value) (base:Heap) (N:List Str) (qual:Str) (scope:Scope) (f:Addr) (cd:Value) (A:Around) (outer:List Env) (s:Shared) (H:Hp) (E:XK):Cx where
 prog:=P
 w:=w
 K:=K
 mg:=mg
 base:=base
 A:=A.deeper (envOfC qual scope s.heap.objs.size f cd)
 N:=N
 s₀:=s
 H₀:=H
 env:=envOfC qual scope s.heap.objs.size f cd
 outer:=outer
 stack:=envOfC qual scope s.heap.objs.size f cd::outer
 ex:=[]
 calm:=true
 fn:=fun _=>true
 pn:=[]
 xe:=fun e s'=>wpAny (model P w) (A.deeper (envOfC qual scope s.heap.objs.size f cd)) (leaving (envOfC qual scope s.heap.objs.size f cd) e) (fun _ s''=>CX outer H s E e s'') (fun e' s''=>CX outer H s E e' s'') s'
theorem u9m {sc:Scope}{n:Nat}{x:Str} (h:sc.names.lookup x=some .cell):∃ c,(cellsFrom n sc.names []).lookup x=some c:=by
 have q:=PySem.W.cellsFrom_some sc.names n [] (.inl h)
 exact Option.isSome_iff_exists.mp q
theorem v1m {CX:CXT}{P:Program}{w:World}{K:PySem.W.Frag}{mg:Str→Option Value}{base:Heap}{N ps:List Str}{qual:Str}{scope:Scope}{f:Addr}{cd:Value}{A:Around}{outer:List Env}{s s1:Shared}{H:Hp}{E:XK}{us:List Value}{vs:List V}
  (S:FnScope N ps scope) (hd:A.handled=none) (e0:Env0 P w K mg base A outer s H) (hl:vs.length=ps.length) (r:Vals vs us)
  (x:InCallC s s.heap.objs.size (bindL (envOfC qual scope s.heap.objs.size f cd).kindOf (ps.zip us) fun _=>none) (cellsFrom (s.heap.objs.size+1) scope.names []) (bindC (envOfC qual scope s.heap.objs.size f cd).kindOf (ps.zip us) fun _=>none) s1) :
  Inv (cxOf CX P w K mg base N qual scope f cd A outer s H E) [] (start N vs) H s1:=by
 have hpl:ps.length≤N.length:=by have:=congrArg List.length S.pre;rw [List.length_take] at this;omega
 obtain ⟨h1,tk,rfl,hk⟩:=x.done
 have noA:∀ b:Addr,b∉(cxOf CX P w K mg base N qual scope f cd A outer s H E).ex:=fun b z=>absurd (show b∈([]:List Addr) from z) (by simp)
 refine ⟨⟨e0.mod,S.kind,rfl,rfl,Nat.le_refl _,fun y z c h1 h2=>?_,fun y hy=>?_,fun y c _ h=>?_,fun _=>hd,Around.frames_deeper e0.frames,.inr ⟨rfl,rfl⟩,fun b z=>absurd z (noA b),e0.bs,e0.bsz,fun b _ _=>noA b,fun b z=>absurd z (noA b),e0.funs,e0.frf⟩,
  rfl,e0.bare,Un.kept hk,⟨_,x.toInCall.ns,fun i y v h1 h2 h3=>?_⟩,fun y c h=>⟨_,x.cell y c h⟩,e0.hok.fresh (Nat.le_refl _),fun y c h=>?_,fun p hp=>absurd (show p∈([]:List (Addr×Obj)) from hp) (by simp),e0.hok.kept hk,?_⟩
 ·exact name_of_addr x.apart (PySem.mem_of_lookup h1) (PySem.mem_of_lookup h2)
 ·have hy:scope.names.lookup y=some .cell∨scope.names.lookup y=some .free:=hy
  rcases hy with hy | hy
  ·exact u9m hy
  ·exact absurd rfl (S.nofree _ (PySem.mem_of_lookup hy))
 ·exact Nat.le_of_lt (x.above y c (PySem.mem_of_lookup h))
 ·have hi:i<vs.length:=by
   unfold start at h2
   by_cases hi:i<vs.length
   ·exact hi
   ·rw [List.getElem?_append_right (by simpa using hi)] at h2
    rw [List.getElem?_replicate] at h2
    split at h2 <;> cases h2
  have ha:vs[i]?=some v:=by
   unfold start at h2
   rw [List.getElem?_append_left (by simpa using hi),List.getElem?_map] at h2
   cases e:vs[i]? with
   | none=>rw [e] at h2;cases h2
   | some a=>rw [e] at h2;cases h2;rfl
  obtain ⟨u,hu,rv⟩:=r.get ha
  have hp:ps[i]?=some y:=by
   rw [← S.pre,List.getElem?_take_of_lt (by omega)];exact h1
  have ndP:ps.Nodup:=by rw [← S.pre];exact S.nd.sublist (List.take_sublist _ _)
  refine ⟨u,rv,?_⟩
  rcases S.par y (List.mem_of_getElem? hp) with k | k
  ·exact .inl ⟨k,u7F ndP hp hu k⟩
  ·obtain ⟨c,e⟩:=u9m (n:=s.heap.objs.size+1) k
   refine .inr ⟨.inl k,c,e,?_⟩
   have q:=x.cell y c e
   rw [u7H ndP hp hu (by show scope.names.lookup y≠_;rw [k];decide)] at q
   exact q
 ·exact e0.hok.fresh (Nat.le_of_lt (x.above y c (PySem.mem_of_lookup h)))
 ·unfold start
  show _=N.length
  rw [List.length_append,List.length_map,List.length_replicate]
  omega
theorem fn_of {CX:CXT}{P:Program}{w:World}{K:PySem.W.Frag}{mg:Str→Option Value}{base:Heap}{k:Nat}{f:Addr}{name qual:Str}{params:Arguments}{body:List Stmt}{scope:Scope}{dV kV doc pm cdv ct oc:Value}{an od:Option Addr}
  {osl:Array (Option Value)}{N ps:List Str}{sp:Sp} (lk:K.lookup f=some ⟨oc,od,.func (PySem.W.fnOf name qual params body scope dV kV doc pm an cdv ct),osl⟩) (hcd:PySem.W.codeIn K cdv qual=true) (S:FnScope N ps scope)
  (len:∀ vs H Q E,sp vs H Q E→vs.length=ps.length)
  (hbody:∀ (A:Around) (outer:List Env) (s:Shared) (H:Hp) (vs:List V) (Q:VK) (E:XK),Room k (A.deeper (envOfC qual scope s.heap.objs.size f cdv))→sp vs H Q E →
   ∃ t,PSs (cxOf CX P w K mg base N qual scope f cdv A outer s H E) body t∧t { nx:=fun _ H'=>Q .non H',rt:=Q } (start N vs) H) :
  FnOk P w K mg base CX (k+1) f (PySem.W.fnOf name qual params body scope dV kV doc pm an cdv ct) ps sp:=by
 refine ⟨len,fun A outer s H args us vs Q E hr e0 hb r hsp=>?_⟩
 have hl:=len _ _ _ _ hsp
 have KX:K.In s.heap:=e0.mod.kin.keeps fun b o e=>(e0.bs b o e).1
 have lim:s.heap.NoLimit:=e0.mod.nolimit.keeps fun b o e=>(e0.bs b o e).1
 have hkind:∀ y∈ps.zip us,scope.names.lookup y.1=some .local∨(scope.names.lookup y.1=some .cell∧((cellsFrom (s.heap.objs.size+1) scope.names []).lookup y.1).isSome=true):=fun ⟨n,v⟩ hy=>by
  rcases S.par n (List.of_mem_zip hy).1 with q | q
  ·exact .inl q
  ·exact .inr ⟨q,PySem.W.cellsFrom_some _ _ _ (.inl q)⟩
 refine codeAny_call_function hr.depth (KX _ _ lk) rfl S.co S.gen rfl (PySem.W.codeRec_of KX hcd) (hb _ _ _ _ ?_)
 refine wpAny_newFunctionEnv_cells S.kind hkind fun env he s1 x=>?_
 subst he
 refine ⟨lim.keeps x.toInCall.keep,codeAny_func ?_⟩
 obtain ⟨t,ht,hq⟩:=hbody A outer s H vs Q E (hr.deeper _) hsp
 have I:Inv (cxOf CX P w K mg base N qual scope f cdv A outer s H E) [] (start N vs) H s1:=v1m S hr.hd e0 hl r x
 refine wpAny_mono (ht [] s1 (start N vs) H _ I hq) (fun fl s' hs=>?_) fun e s' hs=>hs
 have fin:∀ {σ':St}{H':Hp}{v:V}{u:Value},Inv (cxOf CX P w K mg base N qual scope f cdv A outer s H E) [] σ' H' s'→RelV v u→Q v H'→CE outer P w H s Q u s' :=
  fun {σ' H' v u} J rv q=>⟨v,H',J.os,J.bare,J.base,J.hok,rv,q⟩
 cases fl with
 | ret u =>
  obtain ⟨v,σ',H',J,rv,q⟩:=hs
  exact fin J rv q
 | next =>
  obtain ⟨σ',H',J,q⟩:=hs
  exact fin (v:=V.non) (u:=Value.none) J rfl q
 | brk =>
  obtain ⟨_,_,_,q⟩:=hs
  exact False.elim q
 | cont =>
  obtain ⟨_,_,_,q⟩:=hs
  exact False.elim q
section
variable {X:Cx}{x:Str}{p pos:Pos}{e:Expr}{es:List Expr}{t:TA}{id T:String}{r:List V→Hp→VK→Prop}
noncomputable def tCB (r:List V→Hp→VK→Prop) (t:TA):TE:=fun σ H Q=>t σ H fun vs H1=>r vs H1 Q
theorem v2C (hc:CallR X (.builtin id) r) (hg:Gl X x) (hm:X.mg x=none) (hv:bootBuiltins x=some (.builtin id)) (ha:PA X (e::es) t) (hn:x≠"__name__":=by decide) (hdb:(x==("__debug__":Str))=false:=by decide)
  (he:starEach (e::es) X.env=(false,eval e X.env)::starEach es X.env:=by rfl) (hpl:(backTo pos (starEach es X.env)).any (·.1)=false:=by rfl):PE X (.Call (.Name x p) (e::es) [] pos) (tCB r t):=by
 intro pins s σ H Q I h
 refine wpAny_Call_Name_kw (u7e I hg hm hv ?_ hn hdb)
 exact PyProof.Rows.callWith_builtin1 (thn (ha pos pins s σ H _ I h) fun us s1 ⟨vs,H1,I1,r1,q1⟩=>hc pins s1 σ H1 vs us Q I1 r1 q1) he hpl
theorem v0T (hc:CallR X (.type T) r) (hg:Gl X x) (hm:X.mg x=none) (hv:bootBuiltins x=some (.type T)) (ha:PA X (e::es) t) (hn:x≠"__name__":=by decide) (hdb:(x==("__debug__":Str))=false:=by decide)
  (he:starEach (e::es) X.env=(false,eval e X.env)::starEach es X.env:=by rfl) (hpl:(backTo pos (starEach es X.env)).any (·.1)=false:=by rfl):PE X (.Call (.Name x p) (e::es) [] pos) (tCB r t):=by
 intro pins s σ H Q I h
 refine wpAny_Call_Name_kw (u7e I hg hm hv ?_ hn hdb)
 exact PyProof.Rows.callWith_type1 (thn (ha pos pins s σ H _ I h) fun us s1 ⟨vs,H1,I1,r1,q1⟩=>hc pins s1 σ H1 vs us Q I1 r1 q1) he hpl
end
end L2
namespace HT
open PySem PyProof.Rows
section
open PySem.SeqAt
open PySem.AutoSeq1 (wpAny_loadPart')
open PySem.MeetsSeq PySem.MeetsSeq2 PySem.MeetsSeq3
end
section
variable {prog:Program}{w:World}{A:Around}{E:Value→Shared→Prop}{s:Shared}
noncomputable def sIx (n d:Nat):Option Int→Nat
 | none=>d
 | some v=>if v<0 then (v+(n:Int)).toNat else min v.toNat n
theorem sIx_none (n d:Nat):sIx n d none=d:=rfl
theorem sIx_nat (n d k:Nat):sIx n d (some (k:Int))=min k n:=by
 show (if (k:Int)<0 then ((k:Int)+(n:Int)).toNat else min (k:Int).toNat n)=min k n
 rw [if_neg (by omega),Int.toNat_natCast]
theorem sIx_le (n d:Nat) (hd:d≤n) (o:Option Int):sIx n d o≤n:=by
 cases o with
 | none=>exact hd
 | some v =>
  show (if v<0 then (v+(n:Int)).toNat else min v.toNat n)≤n
  by_cases hv:v<0
  ·rw [if_pos hv];omega
  ·rw [if_neg hv];exact Nat.min_le_right _ _
theorem v1U (v:Int) (n d:Nat):(if v<0 then max (v+(n:Int)) 0 else min v (n:Int))=((sIx n d (some v):Nat):Int):=by
 show (if v<0 then max (v+(n:Int)) 0 else min v (n:Int))=(((if v<0 then (v+(n:Int)).toNat else min v.toNat n):Nat):Int)
 by_cases hv:v<0
 ·simp only [if_pos hv];omega
 ·simp only [if_neg hv];omega
theorem v0p (lo hi:Option Int) (n:Nat):Builtin.Slice.sliceAdjust lo hi 1 (n:Int)=(((sIx n 0 lo:Nat):Int),((sIx n n hi:Nat):Int)):=by
 have h1:¬ ((1:Int)<0):=by omega
 unfold Builtin.Slice.sliceAdjust
 simp only [h1,if_false]
 refine Prod.ext ?_ ?_
 ·cases lo with
  | none=>rfl
  | some v=>exact v1U v n 0
 ·cases hi with
  | none=>rfl
  | some v=>exact v1U v n n
theorem v0a (i j:Nat):Builtin.Slice.slicePlaces (i:Int) (j:Int) 1=j - i:=by
 unfold Builtin.Slice.slicePlaces
 have h1:(1:Int) > 0:=by omega
 simp only [h1,if_true,Int.ediv_one]
 split <;> omega
theorem slicePart_ {v:Value}{o:Option Int}{Q:Option Int→Shared→Prop} (p:IsPart v o) (h:Q o s):wpAny (model prog w) A (Builtin.Slice.slicePartIndex v) Q E s:=by
 cases p with
 | none=>exact slicePart_none h
 | int i t=>exact slicePart_int h
theorem u4m {sl:Addr}{vl vu:Value}{lo hi:Option Int}{n:Nat}{Q:Int×Int×Nat→Shared→Prop} (hs:s.heap.IsSliceOf sl vl vu .none) (pl:IsPart vl lo) (pu:IsPart vu hi)
  (h:Q (((sIx n 0 lo:Nat):Int),1,sIx n n hi - sIx n 0 lo) s):wpAny (model prog w) A (Builtin.Slice.sliceApplied (.ref sl) (pure (n:Int))) Q E s:=by
 obtain ⟨os,hos,hcs,hds⟩:=id hs
 unfold Builtin.Slice.sliceApplied Builtin.Slice.sliceFields
 refine wpAny_bind (wpAny_bind (wpAny_field hos hds (x:=vl) rfl (wpAny_bind (wpAny_field hos hds (x:=vu) rfl (wpAny_bind (wpAny_field hos hds (x:=.none) rfl (wpAny_pure ?_)))))))
 refine wpAny_bind (slicePart_none ?_)
 show wpAny _ _ (if ((1:Int)==0)=true then _ else _) _ _ s
 rw [if_neg (by decide)]
 refine wpAny_bind (slicePart_ pl (wpAny_bind (slicePart_ pu (wpAny_bind (wpAny_pure ?_)))))
 show wpAny _ _ (match Builtin.Slice.sliceAdjust lo hi 1 (n:Int) with | (lo,hi)=>pure (lo,(1:Int),Builtin.Slice.slicePlaces lo hi 1)) _ _ s
 rw [v0p lo hi n]
 show wpAny _ _ (pure (((sIx n 0 lo:Nat):Int),(1:Int),Builtin.Slice.slicePlaces ((sIx n 0 lo:Nat):Int) ((sIx n n hi:Nat):Int) 1)) _ _ s
 rw [v0a]
 exact wpAny_pure h
theorem v2v (xs:Array Value) (i k:Nat):((List.range k).filterMap fun (m:Nat)=>xs[((i:Int)+(m:Int)*1).toNat]?).toArray=((xs.toList.drop i).take k).toArray:=by
 have e:(fun (m:Nat)=>xs[((i:Int)+(m:Int)*1).toNat]?)=fun m=>xs[i+m]?:=by
  funext m
  have:((i:Int)+(m:Int)*1).toNat=i+m:=by omega
  rw [this]
 rw [e]
 have:=pick_run xs i k
 rw [List.filterMap_map] at this
 have e2:((fun x=>xs[x]?) ∘ fun x=>i+x)=fun m=>xs[i+m]?:=rfl
 rw [e2] at this
 rw [this]
theorem getItem_tuple_cut {t sl:Addr}{items:Array Value}{vl vu:Value}{lo hi:Option Int}{Q:Value→Shared→Prop} (ht:IsTup s.heap t items) (hs:s.heap.IsSliceOf sl vl vu .none) (pl:IsPart vl lo) (pu:IsPart vu hi)
  (hw:¬ (sIx items.size 0 lo=0∧sIx items.size items.size hi=items.size))
  (h:Q (.ref s.heap.objs.size) { s with heap:=s.heap.push { cls:=.type "tuple",data:=.seq ((items.toList.drop (sIx items.size 0 lo)).take (sIx items.size items.size hi - sIx items.size 0 lo)).toArray } })
  (hsz:items.size≤sizeLine):wpAny (model prog w) A (getItem (.ref t) (.ref sl)) Q E s:=by
 have htake:sizeOk (.seq ((items.toList.drop (sIx items.size 0 lo)).take (sIx items.size items.size hi - sIx items.size 0 lo)).toArray):=by
  show ((items.toList.drop (sIx items.size 0 lo)).take (sIx items.size items.size hi - sIx items.size 0 lo)).toArray.size≤sizeLine
  rw [List.size_toArray,List.length_take,List.length_drop,Array.length_toList]
  omega
 have hj:sIx items.size items.size hi≤items.size:=sIx_le _ _ (Nat.le_refl _) hi
 obtain ⟨os,hos,hcs,hds⟩:=id hs
 have hTs:s.TypeIs (.ref sl) "slice":=⟨os,hos,hcs⟩
 unfold getItem
 try with_reducible refine wpAny_holding ?_
 first | refine wpAny_bind (wpAny_pure ?_) | skip
 refine wpAny_bind (wpAny_sequenceKey ht.typeIs (by decide) ?_)
 refine wpAny_bind (wpAny_callSpecial?_slot (name:=Str.ofString "__getitem__") ht.typeIs PyProof.Rows.slot_tuple_getitem
  (wpAny_call_entry PyProof.Rows.slot_tuple_getitem ht.typeIs entry_tuple_getitem ?_ (args_tuple_getitem _ _)))
 show wpAny _ _ (Builtin.Tuple.tupleItemsOf (.ref t) >>= _) _ _ s
 refine wpAny_bind (tupleItemsOf_ ht ?_)
 refine wpAny_bind (wpAny_typeOf hTs ?_)
 rw [if_pos (by decide)]
 refine wpAny_bind (u4m hs pl pu ?_)
 have hno:¬ ((((sIx items.size 0 lo:Nat):Int)==0&&(1:Int)==1&&(sIx items.size items.size hi - sIx items.size 0 lo)==items.size)=true):=by
  intro q
  rw [Bool.and_eq_true,Bool.and_eq_true] at q
  have q1:((sIx items.size 0 lo:Nat):Int)=0:=eq_of_beq q.1.1
  have q2:sIx items.size items.size hi - sIx items.size 0 lo=items.size:=eq_of_beq q.2
  exact hw ⟨by omega,by omega⟩
 show wpAny _ _ (if (((sIx items.size 0 lo:Nat):Int)==0&&(1:Int)==1&&(sIx items.size items.size hi - sIx items.size 0 lo)==items.size)=true then _ else _) _ _ s
 rw [if_neg hno,v2v]
 first
  | exact wpAny_bind (m:=Builtin.Tuple.tupleExact _) (wpAny_newObj_type (wpAny_pure ⟨_,rfl,wpAny_pure h⟩) htake)
  | exact wpAny_bind (m:=Builtin.Tuple.tupleExact _) (wpAny_newObj_type (wpAny_bind (wpAny_pure (wpAny_pure ⟨_,rfl,wpAny_pure h⟩))) htake)
  | exact wpAny_bind (wpAny_bind (m:=Builtin.Tuple.tupleExact _) (wpAny_newObj_type (wpAny_pure (wpAny_pure ⟨_,rfl,wpAny_pure h⟩)) htake))
  | exact wpAny_bind (wpAny_bind (m:=Builtin.Tuple.tupleExact _) (wpAny_newObj_type (wpAny_pure ⟨_,rfl,wpAny_pure h⟩) htake))
end
end HT
namespace L2
open PySem PySem.Spec PyProof.Rows
noncomputable abbrev TO:=St→Hp→(Option Int→Hp→Prop)→Prop
noncomputable def PO (X:Cx) (e:Option Expr) (t:TO):Prop :=
 ∀ (pins:List (Addr×Obj)) (s:Shared) (σ:St) (H:Hp) (Q:Option Int→Hp→Prop),Inv X pins σ H s→t σ H Q →
  wpAny (model X.prog X.w) X.A (evalPart e X.env) (fun u s'=>∃ o H',Inv X pins σ H' s'∧IsPart u o∧Q o H') X.xe s
noncomputable def tNoPart:TO:=fun _ H Q=>Q none H
noncomputable def tPart (t:TE):TO:=fun σ H Q=>t σ H fun x H1=>∃ i,x=.int i∧Q (some i) H1
section
variable {X:Cx}{e:Expr}{te:TE}{lo hi:Option Expr}{tl th:TO}{pos p2:Pos}
theorem po_none:PO X none tNoPart:=by
 intro pins s σ H Q I h
 rw [evalPart_none]
 exact wpAny_pure ⟨none,H,I,.none,h⟩
theorem po_some (h:PE X e te):PO X (some e) (tPart te):=by
 intro pins s σ H Q I hw
 rw [evalPart_some]
 refine thn (h pins s σ H _ I hw) fun u s1 ⟨x,H1,I1,r1,q1⟩=>?_
 obtain ⟨i,rfl,q⟩:=q1
 obtain ⟨t,rfl⟩:=r1
 exact ⟨some i,H1,I1,.int i t,q⟩
noncomputable def SlR (X:Cx) (r:V→Option Int→Option Int→Hp→VK→Prop):Prop :=
 ∀ (pins:List (Addr×Obj)) (s:Shared) (σ:St) (H:Hp) (x:V) (v vl vu:Value) (lo hi:Option Int) (sl:Addr) (Q:VK),Inv X pins σ H s→RelV x v→s.heap.IsSliceOf sl vl vu .none→IsPart vl lo→IsPart vu hi→r x lo hi H Q →
  ∃ T id,typeLookup (.type T) "__getitem__"=pure (some (.builtin id))∧s.TypeIs v T∧wpAny (model X.prog X.w) X.A (getItem v (.ref sl)) (EP X pins σ Q) X.xe s
noncomputable def tSl (r:V→Option Int→Option Int→Hp→VK→Prop) (te:TE) (tl th:TO):TE:=fun σ H Q=>te σ H fun x H1=>tl σ H1 fun l H2=>th σ H2 fun u H3=>r x l u H3 Q
theorem v2x {r:V→Option Int→Option Int→Hp→VK→Prop} (hr:SlR X r) (he:PE X e te) (hl:PO X lo tl) (hu:PO X hi th):PE X (.Subscript e (.Slice lo hi none p2) pos) (tSl r te tl th):=by
 intro pins s σ H Q I h
 refine Subscript_ (thn (he pins s σ H _ I h) fun v s1 ⟨x,H1,I1,r1,q1⟩=>?_)
 refine wpAny_Slice (thn (hl pins s1 σ H1 _ I1 q1) fun vl s2 ⟨l,H2,I2,pl,q2⟩=>thn (hu pins s2 σ H2 _ I2 q2) fun vu s3 ⟨u,H3,I3,pu,q3⟩=>?_)
 rw [evalPart_none]
 refine wpAny_pure ?_
 have I4:Inv X pins σ H3 { s3 with heap:=s3.heap.push { cls:=.type "slice",data:=.fields #[vl,vu,.none] } }:=I3.kept (t':=s3.toks) fun b ob q=>Heap.get?_push_of_some _ q
 obtain ⟨T,id,hT,ht,hg⟩:=hr pins { s3 with heap:=s3.heap.push { cls:=.type "slice",data:=.fields #[vl,vu,.none] } } σ H3 x v vl vu l u s3.heap.objs.size Q I4 r1 (Heap.IsSliceOf.new ..) pl pu q3
 show wpAny (model X.prog X.w) X.A (subscriptTail e (.Slice lo hi none p2) v (.ref s3.heap.objs.size)) (EP X pins σ Q) X.xe { s3 with heap:=s3.heap.push { cls:=.type "slice",data:=.fields #[vl,vu,.none] } }
 exact tail_any (ops:=[.ref s3.heap.objs.size,v]) ht hT hg (by with_unfolding_all rfl)
noncomputable def cutV (xs:List V) (lo hi:Option Int):List V:=(xs.drop (HT.sIx xs.length 0 lo)).take (HT.sIx xs.length xs.length hi - HT.sIx xs.length 0 lo)
theorem u5h (xs:List V) (lo hi:Option Int):(cutV xs lo hi).length≤xs.length:=by
 unfold cutV
 rw [List.length_take,List.length_drop]
 omega
noncomputable def rSlT (K:PySem.W.Frag):V→Option Int→Option Int→Hp→VK→Prop:=fun x lo hi H Q=>∃ a xs,x=.ref a∧SqT K H a xs ∧
 ¬ (HT.sIx xs.length 0 lo=0∧HT.sIx xs.length xs.length hi=xs.length)∧∀ p,H p=none→Q (.ref p) (upd H p (.tup (cutV xs lo hi)))
theorem sl_tup:SlR X (rSlT X.K):=by
 intro pins s σ H x v vl vu lo hi sl Q I rx hs pl pu h
 obtain ⟨a,xs,rfl,hx,hw,q⟩:=h
 cases rx
 obtain ⟨its,r,ht,hz⟩:=I.tuple hx
 have hlen:its.toArray.size=xs.length:=by rw [List.size_toArray];exact r.length.symm
 refine ⟨"tuple",_,PyProof.Rows.slot_tuple_getitem.lookup,ht.typeIs,?_⟩
 refine HT.getItem_tuple_cut ht hs pl pu (by rw [hlen];exact hw) ?_ (by rw [hlen];exact hz)
 rw [hlen]
 refine ⟨.ref s.heap.objs.size,_,I.laid (t':=s.toks) (o:=.tup (cutV xs lo hi)) (fun b ob q=>Heap.get?_push_of_some _ q) (Nat.le_refl _) ?_,rfl,q _ (I.hok.fresh (Nat.le_refl _))⟩
 exact ⟨Nat.le_trans (u5h xs lo hi) hz,_,(r.drop (HT.sIx xs.length 0 lo)).take (HT.sIx xs.length xs.length hi - HT.sIx xs.length 0 lo),IsTup.new _ _⟩
end
noncomputable def ixN (n:Nat) (i:Int):Option Nat:=if 0≤i then (if i<n then some i.toNat else none) else if -(n:Int)≤i then some (i+n).toNat else none
noncomputable def atI {α:Type} (xs:List α) (i:Int):Option α:=(ixN xs.length i).bind fun j=>xs[j]?
theorem ixN_seq {n:Nat}{i:Int}{j:Nat} (h:ixN n i=some j):seqIndex? i n=some j∧j<n∧-(n:Int)≤i∧i<n:=by
 unfold ixN at h
 by_cases h0:0≤i
 ·rw [if_pos h0] at h
  by_cases h1:i<n
  ·rw [if_pos h1] at h
   have e:i.toNat=j:=Option.some.inj h
   exact ⟨by rw [seqIndex_of h0 h1,e],by omega,by omega,h1⟩
  ·rw [if_neg h1] at h;cases h
 ·rw [if_neg h0] at h
  by_cases h1:-(n:Int)≤i
  ·rw [if_pos h1] at h
   have e:(i+n).toNat=j:=Option.some.inj h
   exact ⟨by rw [seqIndex_neg (by omega) h1,e],by omega,h1,by omega⟩
  ·rw [if_neg h1] at h;cases h
theorem u8v {α:Type}{xs:List α}{i:Int}{v:α} (h:atI xs i=some v):∃ j,seqIndex? i xs.length=some j∧xs[j]?=some v∧j<xs.length∧-(xs.length:Int)≤i∧i<xs.length:=by
 unfold atI at h
 cases e:ixN xs.length i with
 | none=>rw [e] at h;cases h
 | some j =>
  rw [e] at h
  obtain ⟨h1,h2,h3,h4⟩:=ixN_seq e
  exact ⟨j,h1,h,h2,h3,h4⟩
theorem u6t {α:Type}{xs:List α}{j:Nat}{v:α} (h:xs[j]?=some v):atI xs (j:Int)=some v:=by
 have hj:j<xs.length:=(List.getElem?_eq_some_iff.mp h).1
 have e:ixN xs.length (j:Int)=some j:=by
  unfold ixN
  rw [if_pos (by omega),if_pos (by omega)];simp
 unfold atI;rw [e];exact h
noncomputable def PlainIx (b:Expr):Prop:=∀ o i,subscripted b false o i=operate [o,i] (getItem o i)
noncomputable def IxR (X:Cx) (r:R2):Prop :=
 ∀ (value slice:Expr) (pins:List (Addr×Obj)) (s:Shared) (σ:St) (H:Hp) (x y:V) (v u:Value) (Q:VK),Inv X pins σ H s→RelV x v→RelV y u→r x y H Q →
  subscripted slice false v u=operate [v,u] (getItem v u)→wpAny (model X.prog X.w) X.A (subscriptTail value slice v u) (EP X pins σ Q) X.xe s
noncomputable def MtR (X:Cx) (id:String) (r:V→List V→Hp→VK→Prop):Prop :=
 ∀ (pins:List (Addr×Obj)) (s:Shared) (σ:St) (H:Hp) (x:V) (xs:List V) (v:Value) (us:List Value) (Q:VK),Inv X pins σ H s→RelV x v→Vals xs us→r x xs H Q →
  wpAny (model X.prog X.w) X.A (call (.builtin id) (v::us)) (EP X pins σ Q) X.xe s
section
variable {X:Cx}{a b:Expr}{ta tb:TE}{pos:Pos}
theorem pe_ix {r:R2} (hr:IxR X r) (ha:PE X a ta) (hb:PE X b tb) (hs:PlainIx b):PE X (.Subscript a b pos) (tOp r ta tb):=by
 intro pins s σ H Q I h
 exact Subscript_ (binT ha hb I h fun v u s2 x y H2 I2 rx ry q=>hr a b pins s2 σ H2 x y v u Q I2 rx ry q (hs _ _))
noncomputable def rIxL (K:PySem.W.Frag):R2:=fun x y H Q=>∃ p xs i v,x=.ref p∧y=.int i∧SqL K H p xs∧atI xs i=some v∧Q v H
noncomputable def rIxT (K:PySem.W.Frag):R2:=fun x y H Q=>∃ p xs i v,x=.ref p∧y=.int i∧SqT K H p xs∧atI xs i=some v∧Q v H
noncomputable def rIxS:R2:=fun x y H Q=>∃ z i c,x=.str z∧y=.int i∧z.length≤sizeLine∧atI z.cps.toList i=some c∧Q (.str ⟨#[c]⟩) H
theorem ix_list:IxR X (rIxL X.K):=by
 intro value slice pins s σ H x y v u Q I rx ry h hs
 obtain ⟨p,xs,i,z,rfl,rfl,hq,he,q⟩:=h
 cases rx
 obtain ⟨t,rfl⟩:=ry
 obtain ⟨its,r,pl,hz⟩:=I.list hq
 obtain ⟨j,h1,h2,h3,h4,h5⟩:=u8v he
 obtain ⟨w,ew,rw'⟩:=r.get h2
 have hl:=r.length
 have hn:=line63
 have fin:EP X pins σ Q w s:=⟨z,H,I,rw',q⟩
 by_cases h0:0≤i
 ·have hj:i.toNat=j:=by
   rw [seqIndex_of h0 h5] at h1
   exact Option.some.inj h1
  exact item_listR pl.isList h0 (by omega) (by rw [hj];simpa using ew) fin hs
 ·have hj:(i+(its.toArray.size:Int)).toNat=j:=by
   rw [seqIndex_neg (by omega) h4] at h1
   rw [List.size_toArray,← hl]
   exact Option.some.inj h1
  exact subscriptTail_builtinR (x:=w) pl.isList.typeIs slot_list_getitem.lookup
   (wpAny_getItem_list_neg (Q:=fun r s'=>r=w∧EP X pins σ Q r s') pl.isList (by omega) (by rw [List.size_toArray] <;> omega) (by omega) (by rw [hj];simpa using ew) ⟨rfl,fin⟩) hs
theorem ix_tup:IxR X (rIxT X.K):=by
 intro value slice pins s σ H x y v u Q I rx ry h hs
 obtain ⟨p,xs,i,z,rfl,rfl,hq,he,q⟩:=h
 cases rx
 obtain ⟨t,rfl⟩:=ry
 obtain ⟨its,r,pl,hz⟩:=I.tuple hq
 obtain ⟨j,h1,h2,h3,h4,h5⟩:=u8v he
 obtain ⟨w,ew,rw'⟩:=r.get h2
 have hl:=r.length
 have hn:=line63
 have fin:EP X pins σ Q w s:=⟨z,H,I,rw',q⟩
 exact subscriptTail_builtinR (x:=w) pl.typeIs slot_tuple_getitem.lookup
  (getItem_tuple (j:=j) (Q:=fun r s'=>r=w∧EP X pins σ Q r s') pl (by omega) (by omega) (by rw [List.size_toArray,← hl];exact h1) (by simpa using ew) ⟨rfl,fin⟩) hs
theorem ix_str:IxR X rIxS:=by
 intro value slice pins s σ H x y v u Q I rx ry h hs
 obtain ⟨z,i,c,rfl,rfl,hz,he,q⟩:=h
 obtain ⟨t,rfl⟩:=rx
 obtain ⟨t',rfl⟩:=ry
 obtain ⟨j,h1,h2,h3,h4,h5⟩:=u8v he
 have hl:z.cps.toList.length=z.length:=by simp [Str.length]
 rw [hl] at h1 h4 h5
 have hn:=line63
 exact tail_any (typeIs_str s z t) slot_str_getitem.lookup (getItem_str (c:=c) (by
  have e1:decide (i < -(2^63:Int))=false:=decide_eq_false (by omega)
  have e2:decide (i ≥ 2^63)=false:=decide_eq_false (by omega)
  rw [e1,e2,Bool.or_false]) (by rw [h1];simpa using h2) ⟨.str ⟨#[c]⟩,H,I.tok _,⟨_,rfl⟩,q⟩) hs
theorem u6C (lo hi:Option Int) (n:Nat):(sliceBounds lo hi none n).1=((HT.sIx n 0 lo:Nat):Int)∧(sliceBounds lo hi none n).2.1=((HT.sIx n n hi:Nat):Int)∧(sliceBounds lo hi none n).2.2=1:=by
 refine ⟨?_,?_,rfl⟩
 ·cases lo with
  | none=>simp [sliceBounds,HT.sIx]
  | some i =>
   simp only [sliceBounds,HT.sIx,Option.getD_none,show (1:Int) > 0 by decide,if_true]
   by_cases h:i<0
   ·simp only [h,if_true] <;> omega
   ·simp only [h,if_false] <;> omega
 ·cases hi with
  | none=>simp [sliceBounds,HT.sIx]
  | some i =>
   simp only [sliceBounds,HT.sIx,Option.getD_none,show (1:Int) > 0 by decide,if_true]
   by_cases h:i<0
   ·simp only [h,if_true] <;> omega
   ·simp only [h,if_false] <;> omega
theorem u5V (its:List Value) (lo hi:Option Int):slicePick its.toArray lo hi none=((its.drop (HT.sIx its.length 0 lo)).take (HT.sIx its.length its.length hi - HT.sIx its.length 0 lo)).toArray:=by
 obtain ⟨h1,h2,h3⟩:=u6C lo hi its.toArray.size
 unfold slicePick
 rw [h1,h2,h3]
 simp only [sliceRange_one,pick_run,List.size_toArray] <;> rfl
noncomputable def rSlL (K:PySem.W.Frag):V→Option Int→Option Int→Hp→VK→Prop:=fun x lo hi H Q=>∃ a xs,x=.ref a∧SqL K H a xs∧∀ p,H p=none→Q (.ref p) (upd H p (.lst (cutV xs lo hi)))
theorem sl_list:SlR X (rSlL X.K):=by
 intro pins s σ H x v vl vu lo hi sl Q I rx hs pl pu h
 obtain ⟨a,xs,rfl,hx,q⟩:=h
 cases rx
 obtain ⟨its,r,ht,hz⟩:=I.list hx
 have hlen:=r.length
 refine ⟨"list",_,slot_list_getitem.lookup,ht.isList.typeIs,?_⟩
 refine wpAny_getItem_list_slice ht.isList hs pl pu .none (by simp) ?_ (by rw [List.size_toArray] <;> omega)
 rw [u5V,← hlen]
 refine ⟨.ref s.heap.objs.size,_,I.laid (t':=s.toks) (o:=.lst (cutV xs lo hi)) (fun b ob q=>Heap.get?_push_of_some _ q) (Nat.le_refl _) ?_,rfl,q _ (I.hok.fresh (Nat.le_refl _))⟩
 exact ⟨Nat.le_trans (u5h xs lo hi) hz,_,0,(r.drop (HT.sIx xs.length 0 lo)).take (HT.sIx xs.length xs.length hi - HT.sIx xs.length 0 lo),Heap.get?_push_size _ rfl⟩
theorem u6T:OpR X (compareOp .NotIn) (fun x y H Q=>∃ i j,x=.str i∧y=.str j∧Q (.bl (!(!(Builtin.Str.occurrences j i 0 j.length 1).isEmpty))) H):=by
 intro pins s σ H x y v u Q I rx ry h
 obtain ⟨i,j,rfl,rfl,q⟩:=h
 obtain ⟨t,rfl⟩:=rx
 obtain ⟨t',rfl⟩:=ry
 exact notIn_str ⟨.bl _,H,I,rfl,q⟩
theorem u7B:CallR X (.type "list") (fun xs H Q=>∃ p ys,xs=[.ref p]∧(SqL X.K H p ys∨SqT X.K H p ys)∧∀ l,H l=none→Q (.ref l) (upd H l (.lst ys))):=by
 intro pins s σ H xs us Q I r h
 obtain ⟨p,ys,rfl,hq,q⟩:=h
 obtain ⟨u,rfl,rx⟩:=vals1 r
 cases rx
 have fin:∀ (its:List Value),Vals ys its→ys.length≤sizeLine→∀ (h':Heap) (c':Nat),(∀ b o',s.heap.get? b=some o'→h'.get? b=some o') →
   h'.get? s.heap.objs.size=some { cls:=.type "list",dict:=none,data:=.seq its.toArray c',slots:=#[] }→EP X pins σ Q (.ref s.heap.objs.size) { s with heap:=h' }:=fun its r' hz h' c' kp e =>
  ⟨.ref s.heap.objs.size,_,I.laid (t':=s.toks) kp (Nat.le_refl _) (show ObjOk X.prog X.w _ h' _ (.lst ys) from ⟨hz,its,c',r',e⟩),rfl,q _ (I.hok.fresh (Nat.le_refl _))⟩
 rcases hq with hq | hq
 ·obtain ⟨its,r',pl,hz⟩:=I.list hq
  have hlen:=r'.length
  obtain ⟨o,ho,hc,n,hd⟩:=pl.isList
  exact call_list_seq p (.inl rfl) ho hc hd (fun h' c' kp e=>fin its r' hz h' c' kp e) (by simp only [List.size_toArray] <;> omega)
 ·obtain ⟨its,r',pl,hz⟩:=I.tuple hq
  have hlen:=r'.length
  obtain ⟨o,ho,hc,n,hd⟩:=pl
  exact call_list_seq p (.inr rfl) ho hc hd (fun h' c' kp e=>fin its r' hz h' c' kp e) (by simp only [List.size_toArray] <;> omega)
theorem u3J:CallR X (.type "tuple") (fun xs H Q=>∃ p ys,xs=[.ref p]∧((SqL X.K H p ys∧∀ l,H l=none→Q (.ref l) (upd H l (.tup ys)))∨(SqT X.K H p ys∧Q (.ref p) H))):=by
 intro pins s σ H xs us Q I r h
 obtain ⟨p,ys,rfl,h⟩:=h
 obtain ⟨u,rfl,rx⟩:=vals1 r
 cases rx
 rcases h with ⟨hq,q⟩ | ⟨hq,q⟩
 ·obtain ⟨its,r',pl,hz⟩:=I.list hq
  have hlen:=r'.length
  refine call_tuple_list pl.isList (fun h' kp=>?_) (by simp only [List.size_toArray] <;> omega)
  have I1:Inv X pins σ H { s with heap:=h' }:=I.kept (t':=s.toks) kp
  have I2:Inv X pins σ (upd H h'.objs.size (.tup ys)) { s with heap:=h'.push { cls:=.type "tuple",data:=.seq its.toArray } } :=
   I1.laid (t':=s.toks) (fun b o e=>Heap.get?_push_of_some _ e) (Nat.le_refl _) (show ObjOk X.prog X.w _ _ _ (.tup ys) from ⟨hz,its,r',IsTup.new _ _⟩)
  exact ⟨.ref h'.objs.size,_,I2,rfl,q _ (I1.hok.fresh (Nat.le_refl _))⟩
 ·obtain ⟨its,r',pl,hz⟩:=I.tuple hq
  exact call_tuple_same pl ⟨.ref p,H,I,rfl,q⟩
noncomputable def tyV (K:PySem.W.Frag) (T:String) (x:V) (H:Hp):Prop:=match x with
 | .str _=>T="str"
 | .int _=>T="int"
 | .ref p=>(T="list"∧∃ xs,SqL K H p xs)∨(T="tuple"∧∃ o,K.lookup p=some o∧o.cls=.type "tuple"∧o.dict=none) ∨
   (T="dict"∧((∃ kvs,H p=some (.dK kvs))∨∃ kvs,H p=some (.dT kvs)))∨(T="set"∧∃ S n,H p=some (.set S n))
 | _=>False
theorem v3k {pins:List (Addr×Obj)}{σ:St}{H:Hp}{s:Shared}{T:String}{x:V}{v:Value} (I:Inv X pins σ H s) (r:RelV x v) (ty:tyV X.K T x H) :
  s.TypeIs v T∧∀ a,v=.ref a→∃ ob,s.heap.get? a=some ob∧ob.dict=none:=by
 cases x with
 | str z =>
  obtain ⟨t,rfl⟩:=r
  cases (show T="str" from ty)
  exact ⟨typeIs_str s z t,fun _ e=>nomatch e⟩
 | int i =>
  obtain ⟨t,rfl⟩:=r
  cases (show T="int" from ty)
  exact ⟨typeIs_int s i t,fun _ e=>nomatch e⟩
 | ref p =>
  cases r
  rcases ty with ⟨rfl,xs,hq⟩ | ⟨rfl,o,hk,hc,hd⟩ | ⟨rfl,hk⟩ | ⟨rfl,S,n,hk⟩
  ·obtain ⟨its,_,pl,_⟩:=I.list hq
   refine ⟨pl.isList.typeIs,fun a e=>?_⟩
   cases e
   obtain ⟨o,n,e,c,hd,_⟩:=pl
   exact ⟨o,e,hd⟩
  ·refine ⟨⟨o,I.kIn p o hk,hc⟩,fun a e=>?_⟩
   cases e
   exact ⟨o,I.kIn _ o hk,hd⟩
  ·have z:∃ o,s.heap.get? p=some o∧o.ExactDict:=by
    rcases hk with ⟨kvs,hk⟩ | ⟨kvs,hk⟩
    ·obtain ⟨_,_,_,_,o,_,_,e,ex,_⟩:=I.hok p _ hk
     exact ⟨o,e,ex⟩
    ·obtain ⟨_,_,_,_,o,_,_,e,ex,_⟩:=I.hok p _ hk
     exact ⟨o,e,ex⟩
   obtain ⟨o,e,ex⟩:=z
   refine ⟨⟨o,e,ex.1⟩,fun a e2=>?_⟩
   cases e2
   exact ⟨o,e,ex.2.1⟩
  ·obtain ⟨o,_,_,_,e,ex,_⟩:=I.hok p _ hk
   refine ⟨⟨o,e,ex.1⟩,fun a e2=>?_⟩
   cases e2
   exact ⟨o,e,ex.2.1⟩
 | _=>exact False.elim ty
noncomputable def tBM0 (K:PySem.W.Frag) (T:String) (r:V→List V→Hp→VK→Prop) (to:TE):TE:=fun σ H Q=>to σ H fun x H1=>tyV K T x H1∧r x [] H1 Q
noncomputable def tBM (K:PySem.W.Frag) (T:String) (r:V→List V→Hp→VK→Prop) (to:TE) (t:TA):TE:=fun σ H Q=>to σ H fun x H1=>tyV K T x H1∧t σ H1 fun xs H2=>r x xs H2 Q
variable {o e:Expr}{es:List Expr}{to:TE}{t:TA}{name:Str}{apos cpos:Pos}{T id:String}{r:V→List V→Hp→VK→Prop}
theorem pe_bm0 (pa:PlainAttrs T) (slot:Slot T name id) (hty:typeOf (.builtin id)=pure (.type "method_descriptor")) (hm:MtR X id r) (ho:PE X o to)
  (hbase:attributeBase o name X.env (eval o X.env)=eval o X.env:=by rfl) (hline:(apos.endLine==cpos.line)=true:=by rfl):PE X (.Call (.Attribute o name apos) [] [] cpos) (tBM0 X.K T r to):=by
 intro pins s σ H Q I h
 refine wpAny_Call_method0_late hbase hline (thn (ho pins s σ H _ I h) fun v s1 ⟨x,H1,I1,r1,ty,q1⟩=>?_)
 obtain ⟨h1,h2⟩:=v3k I1 r1 ty
 exact ⟨T,id,pa,slot,hty,h1,h2,Calls.callWith_builtin rfl (PySem.evalArgs_none (hm pins s1 σ H1 x [] v [] Q I1 r1 .nil q1))⟩
theorem pe_bm (pa:PlainAttrs T) (slot:Slot T name id) (hty:typeOf (.builtin id)=pure (.type "method_descriptor")) (hm:MtR X id r) (ho:PE X o to) (ha:PA X (e::es) t)
  (hbase:attributeBase o name X.env (eval o X.env)=eval o X.env:=by rfl)
  (hfew:((backTo cpos (starEach (e::es) X.env)).all (fun x=>!x.1)&&(backToKw cpos (keywordEach [] X.env)).all (fun x=>x.1.isSome)
   && decide ((e::es).length+([]:List Keyword).length+(if ([]:List Keyword).isEmpty then 0 else 1)<30))=true:=by rfl)
  (hline:(apos.endLine==cpos.line)=true:=by rfl) (hs:starEach (e::es) X.env=(false,eval e X.env)::starEach es X.env:=by rfl) (hplain:(backTo cpos (starEach es X.env)).any (·.1)=false:=by rfl) :
  PE X (.Call (.Attribute o name apos) (e::es) [] cpos) (tBM X.K T r to t):=by
 intro pins s σ H Q I h
 refine wpAny_Call_method_late hbase hfew hline rfl (thn (ho pins s σ H _ I h) fun v s1 ⟨x,H1,I1,r1,ty,q1⟩=>?_)
 obtain ⟨h1,h2⟩:=v3k I1 r1 ty
 refine ⟨T,id,pa,slot,hty,h1,h2,?_⟩
 have hA:=ha cpos pins s1 σ H1 _ I1 q1
 rw [hs] at hA ⊢
 refine Calls.callWith_builtin (by show (false||(backTo cpos (starEach es X.env)).any (·.1))=false;rw [hplain] <;> rfl) (Calls.evalArgs_plain ?_)
 exact thn hA fun us s2 ⟨vs,H2,I2,r2,q2⟩=>hm pins s2 σ H2 x vs v us Q I2 r1 r2 q2
end
noncomputable def MtM (X:Cx) (id:String) (r:V→List V→Hp→VK→Prop):Prop :=
 ∀ (pins:List (Addr×Obj)) (s:Shared) (σ:St) (H:Hp) (x:V) (xs:List V) (v:Value) (us:List Value) (Q:VK),Inv X pins σ H s→RelV x v→Vals xs us→r x xs H Q →
  wpAny (model X.prog X.w) X.A (call (.builtin id) (v::us)) (EP X pins σ Q) X.xe s
theorem Vals.one:∀ {x:V}{us:List Value},Vals [x] us→∃ u,us=[u]∧RelV x u
 | _,_,.cons r .nil=>⟨_,rfl,r⟩
theorem Vals.zero:∀ {us:List Value},Vals [] us→us=[]
 | _,.nil=>rfl
theorem Vals.dropLast {xs:List V}{us:List Value} (h:Vals xs us):Vals xs.dropLast us.dropLast:=by
 induction h with
 | nil=>exact .nil
 | cons r t ih =>
  cases t with
  | nil=>exact .nil
  | cons q t'=>exact .cons r ih
theorem Vals.rep {xs:List V}{us:List Value} (h:Vals xs us):∀ k:Nat,Vals (List.replicate k xs).flatten (List.replicate k us).flatten
 | 0=>.nil
 | k+1=>by
  rw [List.replicate_succ,List.replicate_succ,List.flatten_cons,List.flatten_cons]
  exact Vals.append h (Vals.rep h k)
theorem v0j {α:Type} (l:List α):l.eraseIdx (l.length - 1)=l.dropLast:=by
 induction l with
 | nil=>rfl
 | cons a r ih =>
  cases r with
  | nil=>rfl
  | cons b r =>
   have e:(a::b::r).length - 1=((b::r).length - 1)+1:=by
    have h1:(a::b::r).length=r.length+2:=rfl
    have h2:(b::r).length=r.length+1:=rfl
    omega
   rw [e,List.eraseIdx_cons_succ,ih]
   all_goals rfl
theorem u4X (its:List Value):∀ (k:Nat) (acc:List Value),
  List.foldl (fun x1 x2=>x1++x2) acc.toArray (List.replicate k its.toArray)=(acc++(List.replicate k its).flatten).toArray
 | 0,acc=>by simp
 | k+1,acc=>by
  have e:acc.toArray++its.toArray=(acc++its).toArray:=by simp
  have e2:(acc++its)++(List.replicate k its).flatten=acc++(List.replicate (k+1) its).flatten:=by
   rw [List.replicate_succ,List.flatten_cons,List.append_assoc]
  rw [← e2,← u4X its k (acc++its),← e,List.replicate_succ,List.foldl_cons]
section
variable {X:Cx}{pins:List (Addr×Obj)}{σ:St}{H:Hp}{s:Shared}{l b:Addr}{xs ys zs:List V}
theorem Inv.lset {its its':List Value}{n:Nat}{f:Array Value→Array Value}{t':Nat} (I:Inv X pins σ H s) (hH:H l=some (.lst xs))
  (e:s.heap.get? l=some { cls:=.type "list",data:=.seq its.toArray n }) (hf:f its.toArray=its'.toArray) (hv:Vals ys its') (hz:ys.length≤sizeLine) :
  Inv X pins σ (upd H l (.lst ys)) { s with heap:=s.heap.update l (Obj.mapSeq f),toks:=t' }:=by
 have q:=PySem.IsL.update e f
 rw [hf] at q
 refine I.write (x:=l) (e:=l) (by rw [hH];exact trivial) (.inl rfl) (fun b' u hb hu=>(Heap.get?_update_other s.heap (Obj.mapSeq f) (Ne.symm hb)).trans hu) ⟨_,q⟩ ?_
 exact ⟨hz,its',_,hv,q⟩
theorem Inv.lnew {its:List Value}{t':Nat} (I:Inv X pins σ H s) (hv:Vals ys its) (hz:ys.length≤sizeLine) :
  Inv X pins σ (upd H s.heap.objs.size (.lst ys)) { s with heap:=s.heap.push { cls:=.type "list",data:=.seq its.toArray },toks:=t' } :=
 I.laid (fun _ _ q=>Heap.get?_push_of_some _ q) (Nat.le_refl _) ⟨hz,its,0,hv,Heap.get?_push_size _ rfl⟩
theorem Inv.fresh (I:Inv X pins σ H s):H s.heap.objs.size=none:=I.hok.fresh (Nat.le_refl _)
theorem Inv.lstM (I:Inv X pins σ H s) (hH:H l=some (.lst xs)):xs.length≤sizeLine∧∃ (its:List Value) (n:Nat),Vals xs its∧xs.length=its.length∧s.heap.get? l=some { cls:=.type "list",data:=.seq its.toArray n }:=by
 obtain ⟨z,its,n,r,e⟩:=I.hok l _ hH
 exact ⟨z,its,n,r,r.length,e⟩
theorem notLongL {n:Nat} (h:n≤sizeLine):Builtin.List.listTooLong n=false:=by
 unfold Builtin.List.listTooLong
 exact decide_eq_false (by omega)
end
section
variable {X:Cx}
noncomputable def rAppend:V→List V→Hp→VK→Prop:=fun x vs H Q=>∃ l xs y,x=.ref l∧vs=[y]∧H l=some (.lst xs)∧xs.length<sizeLine∧Q .non (upd H l (.lst (xs++[y])))
theorem v1a:MtM X "list.append" rAppend:=by
 intro pins s σ H x vs v us Q I rx rv h
 obtain ⟨l,xs,y,rfl,rfl,hH,hz,q⟩:=h
 cases rx
 obtain ⟨u,rfl,ru⟩:=rv.one
 obtain ⟨z,its,n,r,hl,e⟩:=I.lstM hH
 refine call_meets F.slot_list_append ⟨_,e,rfl⟩ F.entry_list_append (F.args_list_append_2 _ _) (PySem.list_append l its.toArray n u (by rw [List.size_toArray];omega)) ⟨e,?_⟩
 refine ⟨.non,_,I.lset (its':=its++[u]) hH e (by simp) (r.append (.cons ru .nil)) ?_,rfl,q⟩
 rw [List.length_append,List.length_singleton]
 omega
noncomputable def rPop:V→List V→Hp→VK→Prop:=fun x vs H Q=>∃ l xs y,x=.ref l∧vs=[]∧H l=some (.lst xs)∧xs[xs.length - 1]?=some y∧Q y (upd H l (.lst xs.dropLast))
theorem mt_pop:MtM X "list.pop" rPop:=by
 intro pins s σ H x vs v us Q I rx rv h
 obtain ⟨l,xs,y,rfl,rfl,hH,hy,q⟩:=h
 cases rx
 have hus:=rv.zero
 subst hus
 obtain ⟨z,its,n,r,hl,e⟩:=I.lstM hH
 obtain ⟨u,hu,ru⟩:=r.get hy
 have hy':its.toArray[its.toArray.size - 1]?=some u:=by
  show its.toArray[its.length - 1]?=some u
  rw [← Array.getElem?_toList,← hl]
  exact hu
 refine call_meets F.slot_list_pop ⟨_,e,rfl⟩ F.entry_list_pop (F.args_list_pop_1 _) (MeetsSeq.list_pop_last l its.toArray n u hy' (by rw [List.size_toArray];omega)) ⟨e,?_⟩
 refine ⟨y,_,I.lset (its':=its.dropLast) hH e ?_ r.dropLast ?_,ru,q⟩
 ·show its.toArray.eraseIdxIfInBounds (its.toArray.size - 1)=its.dropLast.toArray
  rw [List.size_toArray,List.eraseIdxIfInBounds_toArray,v0j]
 ·rw [List.length_dropLast]
  omega
noncomputable def rClear:V→List V→Hp→VK→Prop:=fun x vs H Q=>∃ l xs,x=.ref l∧vs=[]∧H l=some (.lst xs)∧Q .non (upd H l (.lst []))
theorem v2J:MtM X "list.clear" rClear:=by
 intro pins s σ H x vs v us Q I rx rv h
 obtain ⟨l,xs,rfl,rfl,hH,q⟩:=h
 cases rx
 have hus:=rv.zero
 subst hus
 obtain ⟨z,its,n,r,hl,e⟩:=I.lstM hH
 refine call_meets F.slot_list_clear ⟨_,e,rfl⟩ F.entry_list_clear (F.args_list_clear_1 _) (AutoSeq1.list_clear_list_0 l its.toArray n (by rw [List.size_toArray];omega)) ⟨e,?_⟩
 exact ⟨.non,_,I.lset (its':=[]) (ys:=[]) hH e rfl .nil (Nat.zero_le _),rfl,q⟩
theorem v1b {α:Type} (xs:List α) (k:Nat):(List.replicate k xs).flatten.length=k*xs.length:=by
 induction k with
 | zero=>simp
 | succ k ih=>rw [List.replicate_succ,List.flatten_cons,List.length_append,ih,Nat.succ_mul,Nat.add_comm]
end
section
variable {prog:Program}{w:World}{A:Around}{E:Value→Shared→Prop}{s:Shared}
end
section
variable {X:Cx}
end
end L2
namespace Att
open PySem PySem.W PySem.Calls PyProof.Rows
theorem u4T {P:Params}{h:Heap}:∀ (ns:List Int) (vs:List Value),WellAll P h vs (ns.map WData.int)→IntsAre vs ns:=by
 intro ns
 induction ns with
 | nil =>
  intro vs w
  rw [List.map_nil] at w
  cases w
  exact .nil
 | cons n ns ih =>
  intro vs w
  rw [List.map_cons] at w
  cases w with
  | cons a b =>
   cases a
   exact .cons _ _ (ih _ b)
theorem v0H {l:OpenLaw}{n:Nat} (hn:l.most=some n) {P:Params}{h:Heap}{args:List WData}{vals:List Value}
  (hpre:l.row.toRowW.claim.pre args=true) (hwl:WellAll P h vals args) :
  ∃ a vs ns,vals=[Value.ref a]∧args=[WData.list (ns.map WData.int)]∧h.get? a=some { cls:=.type "list",data:=.seq vs.toArray }∧IntsAre vs ns∧ns.length≤n:=by
 have hsh:WShape.hasAll [] args [.list .int]=true:=(pre_splitW hpre).1
 have hc:l.pre.holds [] { args:=args }=true:=(pre_splitW hpre).2
 obtain ⟨d,r,rfl,h1,h2⟩:=hasAllW_cons hsh
 obtain rfl:=hasAllW_nil h2
 obtain ⟨xs,rfl,h3⟩:=hasW_list h1
 obtain ⟨ns,rfl⟩:=items_int h3
 have hlen:ns.length≤n:=by
  unfold OpenLaw.pre at hc
  have h4:(WTm.not (.lt (.lit (.int (n:Int))) (.len (.arg 0)))).holds [] { args:=[.list (ns.map .int)] }=true:=by
   have h4:=(holds_andW hc).1
   rw [hn] at h4
   exact h4
  have h5:=condW_of h4 (w_not (w_lt w_lit (w_len_list (w_arg rfl))))
  rw [List.length_map] at h5
  refine Nat.le_of_not_lt fun q=>?_
  have q':(n:Int)<((ns.length:Nat):Int):=by omega
  first
   | (rw [decide_eq_true q'] at h5;exact absurd h5 (by decide))
   | (simp at h5;omega)
 cases hwl with
 | cons w1 w2 =>
  cases w2
  cases w1 with
  | list ho hall=>exact ⟨_,_,ns,rfl,rfl,ho,u4T ns _ hall,hlen⟩
theorem v0Q (l:OpenLaw) (args:List WData):l.row.toRowW.claim.post args (.bool true) args=true :=
 postW_of (r:=l.row.toRowW) (X:=(true==true))
  (show WShape.has [] (.bool true) .bool=true by first | rfl | decide | simp [WShape.has,WShape.arms,WShape.armsAll])
  (show (WTm.eq .res (.lit (.bool true))).value [] { args:=args,res:=some (.bool true),after:=args }=some (.bool (true==true)) from w_eq_bool (w_res rfl) w_lit) rfl
theorem attach_call {l:OpenLaw}{n:Nat}{q:Program}{loose:List Str}{XP:(Str→Option Value)→Heap→Prop}{YP:World→Heap→Prop}{d:DefRec}
  (hn:l.most=some n) (hdf:d.params.defaults=[])
  (call:∀ (w:World) (s₀ s₁:Shared) (mg mb:Str→Option Value) (fa:Addr) (o:Obj) (pm cd doc:Value) (a:Addr) (vs:List Value) (ns:List Int),
   Ground q loose [] XP w s₀ mg mb s₁.heap→YP w s₁.heap →
   s₁.heap.get? fa=some o→o.data=.func (docDef d.name d.params d.body d.scope pm cd doc)→s₁.heap.CodeRec cd d.name→mg d.name=some (.ref fa) →
   s₁.heap.get? a=some { cls:=.type "list",data:=.seq vs.toArray }→IntsAre vs ns→ns.length≤n→s₁.gens=#[] →
   codeAny (model l.prog w) callerA (.call (.ref fa) ⟨[.ref a],[]⟩) (fun r s'=>r=.ok (.ret (.bool true))∧OldK s₁.heap s'.heap∧s'.os=s₁.os∧AllBare s'.gens) s₁) :
  WalkO q loose XP YP l.row.toRowW d [] (fun f vs=>PySem.call f vs):=by
 intro w s₀ s₁ mg mb G Y fa o pm cd doc dV kV ho hd hcd hD hmg hg args vals as hpre hlay hrd hwl hlo
 obtain rfl:dV=.none:=Dflts.none hD hdf
 obtain rfl:kV=.none:=Dflts.noKw hD
 obtain ⟨a,vs,ns,rfl,rfl,hobj,hints,hlen⟩:=v0H hn hpre hwl
 refine enter_call (codeAny_mono (call w s₀ s₁ mg mb fa o pm cd doc a vs ns G Y ho (fd_plain hd) hcd hmg hobj hints hlen hg) fun r s' hq=>?_)
 obtain ⟨rfl,h2,h3,h4⟩:=hq
 exact ⟨.inl ⟨.bool true,.bool true,[],rfl,fun _=>rfl,.bool true,v0Q l _,fun _=>⟨List.Pairwise.nil,fun _ hm=>(nomatch hm)⟩⟩,h2,h3,h4⟩
section
variable {prog:Program}{w:World}{A:Around}{E:Value→Shared→Prop}{s:Shared}{K:Frag}
end
end Att
namespace L2
open PySem PySem.Spec PyProof.Rows
theorem u6w:∀ {vs:List Value}{ns:List Int},IntsAre vs ns→Vals (ns.map V.int) vs
 | _,_,.nil=>.nil
 | _,_,.cons n t h=>.cons ⟨t,rfl⟩ (u6w h)
noncomputable def Only (H:Hp):Prop:=∀ b,H b=none∨∃ o xs,H b=some (.frz o (.lst xs))
theorem v2O {P:Program}{w:World}{K:PySem.W.Frag}{mg mb:Str→Option Value}{CX:CXT}{k:Nat}{fa a:Addr}{fd:FuncData}{x:Str}{sp:Sp}{s₁:Shared}{vs:List Value}{ns:List Int}
  (KX:K.In s₁.heap) (hns:s₁.heap.Ns mainGlobals mg) (hb:s₁.heap.Ns builtinsNs mb) (hbb:∀ x:Str,x≠"__name__"→mb x=bootBuiltins x) (hlim:s₁.heap.NoLimit) (hg:s₁.gens=#[])
  (ha:s₁.heap.get? a=some { cls:=.type "list",data:=.seq vs.toArray }) (hi:IntsAre vs ns) (hl:ns.length≤sizeLine) (hr:Room k callerA)
  (F:∀ base:Heap,K.In base→base.Ns mainGlobals mg→FnOk P w K mg base CX k fa fd [x] sp) (hbind:∀ (s:Shared) (u:Value),BindsTo s fd ⟨[u],[]⟩ [(x,u)])
  (hsp:∀ H:Hp,Only H→SqL K H a (ns.map V.int)→sp [.ref a] H (fun v _=>v=.bl true) fun _ _ _=>False)
  (hCX:∀ H e s',CX [] H s₁ (fun _ _ _=>False) e s'→False) :
  codeAny (model P w) callerA (.call (.ref fa) ⟨[.ref a],[]⟩) (fun r s'=>r=.ok (.ret (.bool true))∧OldK s₁.heap s'.heap∧s'.os=s₁.os∧AllBare s'.gens) s₁:=by
 have rv:=u6w hi
 have lenV:=hi.length
 have core:∀ H:Hp,Only H→SqL K H a (ns.map V.int)→HOk P w H s₁.heap→(∀ b,H b≠none→b=a)→(H a≠none→K.lookup a=none) →
   codeAny (model P w) callerA (.call (.ref fa) ⟨[.ref a],[]⟩) (fun r s'=>r=.ok (.ret (.bool true))∧OldK s₁.heap s'.heap∧s'.os=s₁.os∧AllBare s'.gens) s₁:=by
  intro H hO hS hok hA hK
  have base_of:∀ {b:Addr}{o:Obj},s₁.heap.get? b=some o→H b=none→(hidT s₁.heap H).get? b=some o:=fun e n=>v2V e n
  have noA:∀ {b:Addr}{o:Obj}{es:Array DictEntry}{ep:Nat},s₁.heap.get? b=some o→o.data=.dict es ep→H b=none:=fun {b o es ep} e d=>by
   cases q:H b with
   | none=>rfl
   | some u =>
    have e':b=a:=hA b (by rw [q];simp)
    subst e'
    rw [ha] at e;cases e
    have d':Data.seq vs.toArray _=Data.dict es ep:=d
    cases d'
  have nsK:∀ {b:Addr}{m:Str→Option Value},s₁.heap.Ns b m→(hidT s₁.heap H).Ns b m:=fun {b m} ⟨o,es,ep,e,d,r⟩=>⟨o,es,ep,base_of e (noA e d),d,r⟩
  have hKb:K.In (hidT s₁.heap H):=fun b o e=>base_of (KX b o e) (by
   cases q:H b with
   | none=>rfl
   | some u =>
    have e':b=a:=hA b (by rw [q];simp)
    subst e'
    rw [hK (by rw [q];simp)] at e;cases e)
  have hM:Mod K mg (hidT s₁.heap H):=⟨hKb,nsK hns,⟨mb,nsK hb,hbb⟩,let ⟨mc,h1,h2⟩:=hlim;⟨mc,nsK h1,h2⟩⟩
  have e0:Env0 P w K mg (hidT s₁.heap H) callerA [] s₁ H:=⟨rfl,hM,fun b o e=>of_hidT e,Nat.le_of_eq (v1q _ _),trivial,fun b hb=>absurd (show b∈([]:List Addr) from hb) (by simp),hok,.of_eq hg⟩
  refine codeAny_mono ((F _ hKb (nsK hns)).run callerA [] s₁ H ⟨[.ref a],[]⟩ [.ref a] [.ref a] _ _ hr e0 (hbind s₁ (.ref a)) (.cons rfl .nil) (hsp H hO hS)) fun r s' h=>?_
  cases r with
  | error e=>exact (hCX H e s' h).elim
  | ok fl =>
   cases fl with
   | next=>exact False.elim h
   | brk=>exact False.elim h
   | cont=>exact False.elim h
   | ret u =>
    obtain ⟨v,H',os,bare,un,hok',r',q⟩:=h
    have q':v=.bl true:=q
    subst q'
    obtain rfl:u=Value.bool true:=r'
    refine ⟨rfl,OldK.of_keep fun b o e=>?_,os,bare⟩
    cases q:H b with
    | none=>exact un.keep b o e q (by intro z;exact absurd (show b∈([]:List Addr) from z) (by simp)) (by simp)
    | some u =>
     rcases hO b with z | ⟨ob,xs,z⟩
     ·rw [q] at z;cases z
     ·have z2:=un.frzs b ob _ z
      obtain ⟨e1,_⟩:=hok b _ z
      obtain ⟨e2,_⟩:=hok' b _ z2
      rw [e] at e1;cases e1
      exact e2
 cases hk:K.lookup a with
 | some o =>
  have e:=KX a o hk
  rw [ha] at e
  cases e
  refine core (fun _=>none) (fun _=>.inl rfl) (.inr ⟨_,vs.toArray,_,hk,rfl,rfl,rfl,by rw [List.size_toArray,lenV];exact hl,by simpa using rv⟩) (fun b u z=>by have z':(none:Option HO)=some u:=z;cases z') (fun b z=>absurd rfl z) fun z=>absurd rfl z
 | none =>
  refine core (fun b=>if b=a then some (.frz { cls:=.type "list",data:=.seq vs.toArray } (.lst (ns.map V.int))) else none) (fun b=>?_) (.inl (.inr ⟨{ cls:=.type "list",data:=.seq vs.toArray },if_pos rfl⟩)) (fun b u z=>?_) (fun b z=>?_) fun _=>hk
  ·by_cases hb:b=a
   ·exact .inr ⟨_,_,if_pos hb⟩
   ·exact .inl (if_neg hb)
  ·by_cases hb:b=a
   ·have z':=(if_pos hb).symm.trans z
    cases z'
    subst hb
    exact ⟨ha,by rw [List.length_map];exact hl,vs,_,rv,ha⟩
   ·have z':=(if_neg hb).symm.trans z
    cases z'
  ·by_cases hb:b=a
   ·exact hb
   ·exact absurd (if_neg hb) z
theorem walk_of {l:PySem.W.OpenLaw}{n k:Nat}{q:Program}{loose:List Str}{XP:(Str→Option Value)→Heap→Prop}{YP:World→Heap→Prop}{d:DefRec}{K:Params→PySem.W.Frag}{CX:World→CXT}{sp:World→Sp}{x:Str}
  (hn:l.most=some n) (hn2:n≤sizeLine) (hdf:d.params.defaults=[]) (hr:Room k callerA)
  (hY:∀ (w:World) (h:Heap),YP w h→(K w.params).In h)
  (F:∀ (w:World) (mg:Str→Option Value) (fa:Addr) (h:Heap),(K w.params).In h→h.Ns mainGlobals mg→mg d.name=some (.ref fa) →
   ∃ fd:FuncData,(∀ (s:Shared) (u:Value),BindsTo s fd ⟨[u],[]⟩ [(x,u)]) ∧
    ∀ base:Heap,(K w.params).In base→base.Ns mainGlobals mg→FnOk l.prog w (K w.params) mg base (CX w) k fa fd [x] (sp w))
  (hsp:∀ (w:World) (H:Hp) (a:Addr) (ns:List Int),ns.length≤n→Only H→SqL (K w.params) H a (ns.map V.int)→sp w [.ref a] H (fun v _=>v=.bl true) fun _ _ _=>False)
  (hCX:∀ (w:World) (H:Hp) (s:Shared) (e:Value) (s':Shared),CX w [] H s (fun _ _ _=>False) e s'→False) :
  PySem.W.WalkO q loose XP YP l.row.toRowW d [] (fun f vs=>PySem.call f vs):=by
 refine Att.attach_call hn hdf fun w s₀ s₁ mg mb fa o pm cd doc a vs ns G Y ho hd hcd hmg hobj hints hlen hg=>?_
 have KX:=hY w _ Y
 obtain ⟨fd,hb,hF⟩:=F w mg fa _ KX G.T.g hmg
 exact v2O KX G.T.g G.T.b G.T.builtins G.T.nolimit hg hobj hints (Nat.le_trans hlen hn2) hr hF hb (fun H hO hS=>hsp w H a ns hlen hO hS) fun H e s'=>hCX w H s₁ e s'
noncomputable def defArgs (s:Stmt):Arguments:=match s with
 | .FunctionDef _ a _ _ _ _ _ _ _ _=>a
 | _=>{ posonlyargs:=[],args:=[],vararg:=none,kwonlyargs:=[],kw_defaults:=[],kwarg:=none,defaults:=[] }
noncomputable def defBody (s:Stmt):List Stmt:=match s with
 | .FunctionDef _ _ b _ _ _ _ _ _ _=>b
 | _=>[]
noncomputable def defScope (s:Stmt):Scope:=match s with
 | .FunctionDef _ _ _ _ _ _ sc _ _ _=>sc
 | _=>{ kind:=.function,names:=[],isGenerator:=false,isCoroutine:=false }
noncomputable abbrev CX0:CXT:=fun _ _ _ _ _ _=>False
noncomputable abbrev E0:XK:=fun _ _ _=>False
theorem pass0 {X:Cx}:Passes CX0 X E0:=fun _ _ _ _ _ _ _ h=>h.elim
structure Fun (K:PySem.W.Frag) (x qual:Str) (st:Stmt) (f:Addr) (fd:FuncData):Prop where
 ex:∃ (oc:Value) (od:Option Addr) (kV doc pm:Value) (an:Option Addr) (cdv ct:Value) (osl:Array (Option Value)),
  fd=PySem.W.fnOf x qual (defArgs st) (defBody st) (defScope st) .none kV doc pm an cdv ct∧K.lookup f=some ⟨oc,od,.func fd,osl⟩∧PySem.W.codeIn K cdv qual=true
 kp:PySem.W.keepIn K (.ref f)=true
section
variable {P:Program}{w:World}{K:PySem.W.Frag}{mg:Str→Option Value}{base:Heap}
theorem Fun.ok {x qual:Str}{st:Stmt}{f:Addr}{fd:FuncData}{N ps:List Str}{k:Nat}{sp:Sp} (F:Fun K x qual st f fd) (S:FnScope N ps (defScope st)) (len:∀ vs H Q E,sp vs H Q E→vs.length=ps.length)
  (hbody:∀ (cdv:Value) (A:Around) (outer:List Env) (s:Shared) (H:Hp) (vs:List V) (Q:VK) (E:XK),Room k (A.deeper (envOfC qual (defScope st) s.heap.objs.size f cdv))→sp vs H Q E →
   ∃ t,PSs (cxOf CX0 P w K mg base N qual (defScope st) f cdv A outer s H E).nox (defBody st) t∧t { nx:=fun _ H'=>Q .non H',rt:=Q } (start N vs) H):FnOk P w K mg base CX0 (k+1) f fd ps sp:=by
 obtain ⟨oc,od,kV,doc,pm,an,cdv,ct,osl,rfl,lk,hcd⟩:=F.ex
 refine fn_of lk hcd S len fun A outer s H vs Q E hr hsp=>?_
 obtain ⟨t,h,q⟩:=hbody cdv A outer s H vs Q E hr hsp
 exact ⟨t,h.nox,q⟩
theorem Fun.binds {x qual:Str}{st:Stmt}{f:Addr}{fd:FuncData}{ps:List Str} (F:Fun K x qual st f fd)
  (h:∀ (kV doc pm:Value) (an:Option Addr) (cdv ct:Value) (us:List Value),us.length=ps.length→bindArgs (PySem.W.fnOf x qual (defArgs st) (defBody st) (defScope st) .none kV doc pm an cdv ct) ⟨us,[]⟩=pure (ps.zip us)):Binds K fd ps []:=by
 obtain ⟨oc,od,kV,doc,pm,an,cdv,ct,osl,rfl,lk,hcd⟩:=F.ex
 exact .all (h kV doc pm an cdv ct)
theorem u0m {x qual:Str}{st:Stmt}{f:Addr}{oc:Value}{od an:Option Addr}{osl:Array (Option Value)}{kV doc pm cdv ct:Value} (l:K.lookup f=some ⟨oc,od,.func (PySem.W.fnOf x qual (defArgs st) (defBody st) (defScope st) .none kV doc pm an cdv ct),osl⟩)
  (c:PySem.W.codeIn K cdv qual=true) (k:PySem.W.keepIn K (.ref f)=true):Fun K x qual st f (PySem.W.fnOf x qual (defArgs st) (defBody st) (defScope st) .none kV doc pm an cdv ct):=⟨⟨oc,od,kV,doc,pm,an,cdv,ct,osl,rfl,l,c⟩,k⟩
end
section
variable {X:Cx}
end
noncomputable def Same (H H':Hp):Prop:=∀ b o,H b=some o→H' b=some o
theorem Same.refl (H:Hp):Same H H:=fun _ _ h=>h
theorem Same.trans {H H1 H2:Hp} (a:Same H H1) (b:Same H1 H2):Same H H2:=fun c o h=>b c o (a c o h)
theorem Same.free {H H':Hp} (e:Same H H') {l:Addr} (h:H' l=Option.none):H l=Option.none:=by
 cases q:H l with
 | none=>rfl
 | some o =>
  rw [e l o q] at h
  cases h
theorem Same.seq {K:PySem.W.Frag}{H H':Hp}{a:Addr}{xs:List V} (e:Same H H') (h:SqL K H a xs):SqL K H' a xs:=by
 rcases h with (h | ⟨o,h⟩) | h
 ·exact .inl (.inl (e _ _ h))
 ·exact .inl (.inr ⟨o,e _ _ h⟩)
 ·exact .inr h
section
variable {P:Program}{w:World}{H H':Hp}{h h1 h2:Heap}{a C:Addr}{o:HO}{fs ex:List Addr}
theorem HOk.track (x:HOk P w H h) (hn:H a=none) (new:ObjOk P w (upd H a o) h a o):HOk P w (upd H a o) h:=fun b u e=>by
 by_cases hb:b=a
 ·subst hb;rw [u0k] at e;cases e;exact new
 ·rw [u0r hb] at e
  exact (x b u e).stay (fun _ _ _ q=>q) (fun c q=>by rw [u0r (u0x q hn)];exact q) (fun c xs q=>by rw [u0r (u0x q hn)];exact q)
theorem Un.track (u:Un fs ex H H' h h1) (hn:H' a=none) (ha:h.get? a=none):Un fs ex H (upd H' a o) h h1 where
 keep:=u.keep
 slot:=u.slot
 free:=fun b ob q n hx=>by
  rw [u0r (by rintro rfl;rw [ha] at q;cases q)]
  exact u.free b ob q n hx
 there:=u.there
 tups:=fun b xs q=>by have:=u.tups b xs q;rw [u0r (u0x this hn)];exact this
 frzs:=fun b ob xs q=>by have:=u.frzs b ob xs q;rw [u0r (u0x this hn)];exact this
 tbls:=fun b ps q=>by
  obtain ⟨m,this⟩:=u.tbls b ps q
  exact ⟨m,by rw [u0r (u0x this hn)];exact this⟩
end
theorem u4a (env:Env) (f:Str×NameKind→List (Str×Addr)→Sem (ForInStep (List (Str×Addr))))
  (h1:∀ n cs a,env.cells.lookup n=some a→f (n,.free) cs=pure (.yield ((n,a)::cs))) (h2:∀ n k cs,k≠.free→f (n,k) cs=pure (.yield cs)) :
  ∀ (l:List (Str×NameKind)) (cs:List (Str×Addr)),(∀ x∈l,x.2=.free→∃ c,env.cells.lookup x.1=some c)→(∀ x c,cs.lookup x=some c→env.cells.lookup x=some c) →
   ∃ cl,forIn l cs f=pure cl∧(∀ x c,cl.lookup x=some c→env.cells.lookup x=some c)∧(∀ x∈l,x.2=.free→∃ c,cl.lookup x.1=some c)∧∀ x c,cs.lookup x=some c→∃ c',cl.lookup x=some c'
 | [],cs,_,hc=>⟨cs,rfl,hc,(fun _ z=>(nomatch z)),fun x c q=>⟨c,q⟩⟩
 | (n,k)::l,cs,hl,hc=>by
  by_cases hk:k=.free
  ·subst hk
   obtain ⟨a,ha⟩:=hl (n,.free) List.mem_cons_self rfl
   have hc':∀ x c,((n,a)::cs).lookup x=some c→env.cells.lookup x=some c:=fun x c q=>by
    rw [List.lookup_cons] at q
    cases e:x==n with
    | true=>rw [e] at q;cases q;rw [eq_of_beq e];exact ha
    | false=>rw [e] at q;exact hc x c q
   obtain ⟨cl,e,p1,p2,p3⟩:=u4a env f h1 h2 l ((n,a)::cs) (fun x hx=>hl x (List.mem_cons_of_mem _ hx)) hc'
   refine ⟨cl,?_,p1,fun x hx hf=>?_,fun x c q=>?_⟩
   ·rw [List.forIn_cons,h1 n cs a ha,pure_bind];exact e
   ·rcases List.mem_cons.mp hx with rfl | hx
    ·exact p3 n a (by rw [List.lookup_cons];simp)
    ·exact p2 x hx hf
   ·by_cases e:(x==n)=true
    ·exact p3 x a (by rw [List.lookup_cons,e])
    ·have e':(x==n)=false:=by simpa using e
     exact p3 x c (by rw [List.lookup_cons,e'];exact q)
  ·obtain ⟨cl,e,p1,p2,p3⟩:=u4a env f h1 h2 l cs (fun x hx=>hl x (List.mem_cons_of_mem _ hx)) hc
   refine ⟨cl,?_,p1,fun x hx hf=>?_,p3⟩
   ·rw [List.forIn_cons,h2 n k cs hk,pure_bind];exact e
   ·rcases List.mem_cons.mp hx with rfl | hx
    ·exact absurd hf hk
    ·exact p2 x hx hf
theorem u3a {scope:Scope}{env:Env} (h:∀ x∈scope.names,x.2=.free→∃ c,env.cells.lookup x.1=some c) :
  ∃ cl,closureFor scope env=pure cl∧(∀ x c,cl.lookup x=some c→env.cells.lookup x=some c)∧∀ x∈scope.names,x.2=.free→∃ c,cl.lookup x.1=some c:=by
 unfold closureFor
 obtain ⟨cl,e,p1,p2,_⟩:=u4a env (fun (x:Str×NameKind) (r:List (Str×Addr))=>match x with
   | (name,kind)=>if (kind==NameKind.free)=true then (do let a ← cellOf env name;pure (ForInStep.yield ((name,a)::r))) else pure (ForInStep.yield r))
  (fun n cs a ha=>by simp [cellOf,ha]) (fun n k cs hk=>by
   have:(k==NameKind.free)=false:=by simpa using hk
   simp [this]) scope.names [] h (fun x c q=>by simp at q)
 refine ⟨cl,?_,p1,p2⟩
 first
  | (rw [e];rfl)
  | (simp only [pure_bind,bind_pure] at e ⊢;exact e)
  | (show (forIn scope.names [] _ >>= _)=_;rw [e];rfl)
theorem u1V (env:Env):∀ (names:List (Str×NameKind)) (x:Str),
  (names.map fun (n,k)=>if (k==NameKind.free&&env.scope.kind==.function&&env.kindOf n==some .cell) then (n,NameKind.cell) else (n,k)).lookup x =
   (names.lookup x).map fun k=>if (k==NameKind.free&&env.scope.kind==.function&&env.kindOf x==some .cell) then NameKind.cell else k
 | [],x=>rfl
 | (n,k)::r,x=>by
  have ih:=u1V env r x
  show List.lookup x ((if (k==NameKind.free&&env.scope.kind==.function&&env.kindOf n==some .cell)=true then (n,NameKind.cell) else (n,k))::_)=_
  cases hx:x==n with
  | true =>
   have e:=eq_of_beq hx
   subst e
   by_cases hc:(k==NameKind.free&&env.scope.kind==.function&&env.kindOf x==some .cell)=true
   ·rw [if_pos hc];simp only [List.lookup_cons,hx,Option.map_some,if_pos hc]
   ·rw [if_neg hc];simp only [List.lookup_cons,hx,Option.map_some,if_neg hc]
  | false =>
   by_cases hc:(k==NameKind.free&&env.scope.kind==.function&&env.kindOf n==some .cell)=true
   ·rw [if_pos hc];simp only [List.lookup_cons,hx];exact ih
   ·rw [if_neg hc];simp only [List.lookup_cons,hx];exact ih
noncomputable abbrev cxC (X:Cx) (own:List Str) (outs:List Nat) (scope:Scope) (cl:List (Str×Addr)) (C:Addr) (s:Shared) (H:Hp) (fp:List Addr):Cx where
 prog:=X.prog
 w:=X.w
 K:=X.K
 mg:=X.mg
 base:=X.base
 A:=X.A
 N:=own++outs.map fun j=>X.N.getD j Str.empty
 s₀:=s
 H₀:=H
 env:=compEnvC scope cl C X.env
 outer:=X.stack
 stack:=X.stack
 ex:=fp
 fn:=fun _=>false
 calm:=X.calm
 pn:=[]
 xe:=fun _ _=>False
noncomputable def stC (k:Nat) (outs:List Nat) (σ:St):St:=List.replicate k none++outs.map fun j=>(σ[j]?).join
structure CompOk (sc:Scope) (N:List Str) (own:List Str) (outs:List Nat) (scope:Scope):Prop where
 kind:scope.kind=.function
 cell:∀ y∈scope.names,y.2≠.cell
 loc:∀ y∈scope.names,y.2=.local→scope.names.lookup y.1=some .local
 fre:∀ y∈scope.names,y.2=.free→sc.names.lookup y.1=some .cell∨sc.names.lookup y.1=some .free
 out:∀ j∈outs,∃ y,N[j]?=some y∧scope.names.lookup y=some .free
 ownN:∀ y∈own,scope.names.lookup y=some .local
noncomputable def compB (sc:Scope) (N:List Str) (own:List Str) (outs:List Nat) (scope:Scope):Bool :=
 decide (scope.kind=.function)&&scope.names.all (fun y=>y.2 != .cell)&&scope.names.all (fun y=>y.2 != .local||scope.names.lookup y.1==some .local) &&
 scope.names.all (fun y=>y.2 != .free||sc.names.lookup y.1==some .cell||sc.names.lookup y.1==some .free) &&
 outs.all (fun j=>match N[j]? with | some y=>scope.names.lookup y==some .free | none=>false)&&own.all (fun y=>scope.names.lookup y==some .local)
theorem u0v {sc:Scope}{N own:List Str}{outs:List Nat}{scope:Scope} (h:compB sc N own outs scope=true):CompOk sc N own outs scope:=by
 unfold compB at h
 simp only [Bool.and_eq_true,List.all_eq_true,decide_eq_true_eq] at h
 obtain ⟨⟨⟨⟨⟨h1,h2⟩,h3⟩,h4⟩,h5⟩,h6⟩:=h
 refine ⟨h1,fun y hy=>?_,fun y hy hl=>?_,fun y hy hl=>?_,fun j hj=>?_,fun y hy=>?_⟩
 ·simpa using h2 y hy
 ·have:=h3 y hy
  rw [hl] at this
  simpa using this
 ·have:=h4 y hy
  rw [hl] at this
  simpa using this
 ·have:=h5 j hj
  cases e:N[j]? with
  | none=>rw [e] at this;cases this
  | some y=>rw [e] at this;exact ⟨y,rfl,by simpa using this⟩
 ·simpa using h6 y hy
noncomputable def PIf (X:Cx) (ifs:List Expr) (t:TT):Prop :=
 ∀ (pins:List (Addr×Obj)) (s:Shared) (σ:St) (H:Hp) (Q:Bool→Hp→Prop),Inv X pins σ H s→t σ H Q →
  wpAny (model X.prog X.w) X.A (forIn ifs true fun c r=>if r=true then do let ok ← isTrue c X.env (eval c X.env);pure (ForInStep.yield ok) else pure (ForInStep.yield r)) (TP X pins σ Q) X.xe s
noncomputable def tYes:TT:=fun _ H Q=>Q true H
theorem pif_nil {X:Cx}:PIf X [] tYes:=fun pins s σ H Q I h=>wpAny_pure ⟨H,I,h⟩
theorem pif_one {X:Cx}{c:Expr}{t:TT} (hc:PT X c t):PIf X [c] t:=fun pins s σ H Q I h=>by
 rw [List.forIn_cons]
 simp only [if_true,List.forIn_nil]
 refine wpAny_bind (wpAny_bind (thn (hc pins s σ H Q I h) fun b s1 q=>wpAny_pure (wpAny_pure q)))
noncomputable def CompRd (k:Nat) (outs:List Nat) (σ:St) (g:TG) (ti:TT) (te:TE) (J:It) (H1:Hp) (Q:VK):Prop:=∃ W:Nat→Nat→List V→Hp→Prop,(∃ m,W 0 m [] H1)∧∀ i m ys H,W i m ys H→ys.length≤sizeLine ∧
 ((J.stop i H∧∀ p,H p=none→Q (.ref p) (upd H p (.lst ys))) ∨
  (J.go i H∧∃ N:List V→Hp→Prop,(∀ ys' H',N ys' H'→∃ m',m'<m∧W (i+1) m' ys' H')∧∀ x H',J.yld i H x H'→g x (stC k outs σ) H' fun σ2 H2=>σ2.drop k=(outs.map fun j=>(σ[j]?).join)∧ti σ2 H2 fun b H3=>if b=true then te σ2 H3 fun y H4=>N (ys++[y]) H4 else N ys H3))
noncomputable def tComp (k:Nat) (outs:List Nat) (wi:TI) (g:TG) (ti:TT) (te:TE):TE:=fun σ H Q=>wi σ H fun J H1=>CompRd k outs σ g ti te J H1 Q
theorem u3q {prog:Program}{w:World}{A:Around}{R:Result→Shared→Prop}{s:Shared}{elt target iter:Expr}{ifs:List Expr}{scope:Scope}{pos:Pos}{it acc:Value}{env:Env} (I:Nat→Shared→Prop)
  (turn:∀ n s,I n s→wpAny (model prog w) A (pyNext it) (fun r s₁=>match r with
   | none=>R (.ok .next) s₁
   | some v=>wpAny (model prog w) A (letOwnedTupleGo target it v) (fun _ s₁'=>wpAny (model prog w) A (assign target env v) (fun _ s₂ =>
     wpAny (model prog w) A (forIn ifs true fun c r=>if r=true then do let ok ← isTrue c env (eval c env);pure (ForInStep.yield ok) else pure (ForInStep.yield r)) (fun ok s₃ =>
      if ok=true then wpAny (model prog w) A (eval elt env) (fun x s₄ =>
       wpAny (model prog w) A (call (.builtin "list.append") [acc,x]) (fun _ s₅=>∃ m,m<n∧I m s₅) (fun _ _=>False) s₄) (fun _ _=>False) s₃
      else ∃ m,m<n∧I m s₃) (fun _ _=>False) s₂) (fun _ _=>False) s₁') (fun _ _=>False) s₁) (fun _ _=>False) s)
  (n:Nat) (h:I n s) :
  codeAny (model prog w) A (.compLoop (.ListComp elt [⟨target,iter,ifs,0⟩] scope pos) 0 it acc env) R s:=by
 refine codeAny_loop rfl I (fun n s hI=>?_) n h
 show wpAny _ A ((compTurn (.ListComp elt [⟨target,iter,ifs,0⟩] scope pos) 0 it acc env).onRaise (fun x=>do noteFrame x env;theTreesLotGoes x)) _ _ s
 refine wpAny_noted ?_
 rw [compTurn_list]
 refine wpAny_bind (wpAny_standAt (wpAny_bind (wpAny_mono (turn n s hI) (fun r s₁ h₁=>?_) fun _ _ h'=>h'.elim)))
 cases r with
 | none=>exact wpAny_pure h₁
 | some v =>
  refine wpAny_bind (wpAny_mono h₁ (fun _ s₁' h₁'=>?_) fun _ _ h'=>h'.elim)
  refine wpAny_bind (wpAny_mono h₁' (fun _ s₂ h₂=>wpAny_bind (wpAny_mono h₂ (fun ok s₃ h₃=>?_) fun _ _ h'=>h'.elim)) fun _ _ h'=>h'.elim)
  cases ok with
  | false=>exact wpAny_pure ⟨rfl,h₃⟩
  | true =>
   exact wpAny_bind (wpAny_bind (wpAny_mono h₃ (fun x s₄ h₄=>wpAny_bind (wpAny_mono h₄ (fun _ s₅ h₅=>wpAny_pure (wpAny_pure ⟨rfl,h₅⟩)) fun _ _ h'=>h'.elim)) fun _ _ h'=>h'.elim))
section
variable {X:Cx}{pins:List (Addr×Obj)}{σ:St}{H:Hp}{s:Shared}{own:List Str}{outs:List Nat}{scope:Scope}{cl:List (Str×Addr)}{C:Addr}{fp:List Addr}
theorem u7f {sc:Scope} (ok:CompOk X.env.scope X.N own outs scope) {x:Str} (h:(compEnvC scope cl C X.env).kindOf x=some .cell∨(compEnvC scope cl C X.env).kindOf x=some .free):(x,NameKind.free)∈scope.names:=by
 have e:(compEnvC scope cl C X.env).kindOf x=(scope.names.lookup x).map fun k=>if (k==NameKind.free&&X.env.scope.kind==.function&&X.env.kindOf x==some .cell) then NameKind.cell else k:=u1V X.env scope.names x
 rw [e] at h
 cases q:scope.names.lookup x with
 | none=>rw [q] at h;simp at h
 | some k =>
  have hm:=PySem.mem_of_lookup q
  by_cases hk:k=.free
  ·subst hk;exact hm
  ·rw [q] at h
   have hkf:(k==NameKind.free)=false:=by simpa using hk
   simp only [Option.map_some,hkf,Bool.false_and,Bool.false_eq_true,if_false,Option.some.injEq] at h
   rcases h with h | h
   ·exact absurd h (ok.cell _ hm)
   ·exact absurd h hk
theorem cxC_ok (I:Inv X pins σ H s) (ok:CompOk X.env.scope X.N own outs scope) (hcl:∀ x c,cl.lookup x=some c→X.env.cells.lookup x=some c) (hcf:∀ x∈scope.names,x.2=.free→∃ c,cl.lookup x.1=some c)
  (hC:s.heap.objs.size≤C) (hfp:∀ b∈fp,FpOk X pins H b) (hfs:∀ b∈fp,b<s.heap.objs.size):(cxC X own outs scope cl C s H fp).Ok where
 mod:=I.ok.mod
 kind:=ok.kind
 glob:=I.ok.glob
 blt:=I.ok.blt
 above:=hC
 inj:=fun x y c h1 h2=>I.ok.inj x y c (hcl x c h1) (hcl y c h2)
 has:=fun x h=>by
  have hm:=u7f (sc:=scope) ok h
  exact hcf _ hm rfl
 cab:=fun x c h _=>by cases h
 hd:=I.ok.hd
 frames:=I.ok.frames
 stk:=.inl rfl
 exf:=fun b hb=>⟨Nat.ne_of_lt (Nat.lt_of_lt_of_le (hfs b hb) hC),fun x c e=>(hfp b hb).2.2.2.2.1 x c (hcl x c e)⟩
 bs:=I.bs
 bsz:=Nat.le_trans I.ok.bsz I.sz
 noex:=fun b o e hb=>by
  rcases (hfp b hb).2.2.2.1 with z | z
  ·exact I.ok.noex b o e z
  ·have h1:b<X.base.objs.size:=Heap.lt_size e
   exact absurd (Nat.lt_of_lt_of_le h1 (Nat.le_trans I.ok.bsz z)) (Nat.lt_irrefl _)
 exfs:=fun b hb z=>by
  rcases List.mem_cons.mp (I.stkSub b z) with q | q
  ·exact (hfp b hb).2.1 q
  ·exact (hfp b hb).2.2.1 q
 funs:=I.stack
 frf:=I.stkFree
theorem getD_eq {N:List Str}{j:Nat}{y:Str} (h:N[j]?=some y):N.getD j Str.empty=y:=by
 rw [List.getD_eq_getElem?_getD,h];rfl
theorem v2T (I:Inv X pins σ H s) (ok:CompOk X.env.scope X.N own outs scope) (hcl:∀ x c,cl.lookup x=some c→X.env.cells.lookup x=some c) (hcf:∀ x∈scope.names,x.2=.free→∃ c,cl.lookup x.1=some c)
  (hC:s.heap.objs.size≤C) (hfp:∀ b∈fp,FpOk X pins H b) (hfs:∀ b∈fp,b<s.heap.objs.size) {h':Heap}{t':Nat}{m:Str→Option Value} (hk:∀ b o,s.heap.get? b=some o→h'.get? b=some o) (hn:h'.Ns C m) :
  Inv (cxC X own outs scope cl C s H fp) [] (stC own.length outs σ) H { s with heap:=h',toks:=t' }:=by
 refine ⟨cxC_ok I ok hcl hcf hC hfp hfs,rfl,I.bare,Un.kept hk,⟨m,hn,fun i x v e1 e2 e3=>?_⟩,fun x c e=>?_,I.hok.fresh hC,fun x c e=>I.freeC x c (hcl x c e),fun p hp=>(nomatch hp),I.hok.kept hk,?_⟩
 ·have hi:own.length≤i:=by
   by_cases hi:own.length≤i
   ·exact hi
   ·exfalso
    unfold stC at e2
    rw [List.getElem?_append_left (by simp;omega),List.getElem?_replicate] at e2
    split at e2 <;> cases e2
  unfold stC at e2
  rw [List.getElem?_append_right (by simp;omega),List.length_replicate,List.getElem?_map] at e2
  have e1':(own++outs.map fun j=>X.N.getD j Str.empty)[i]?=some x:=e1
  rw [List.getElem?_append_right hi,List.getElem?_map] at e1'
  cases q:outs[i - own.length]? with
  | none=>rw [q] at e2;cases e2
  | some j =>
   rw [q] at e1' e2
   obtain ⟨y,hy,hyf⟩:=ok.out j (List.mem_of_getElem? q)
   have ex:y=x:=by
    rw [← getD_eq hy]
    exact Option.some.inj e1'
   subst ex
   have ev:σ[j]?=some (some v):=by
    have e2':(σ[j]?).join=some v:=Option.some.inj e2
    cases z:σ[j]? with
    | none=>rw [z] at e2';cases e2'
    | some o=>rw [z] at e2';cases o with
     | none=>cases e2'
     | some v'=>cases e2';rfl
   obtain ⟨m0,hn0,hl⟩:=I.loc
   have hkd:=ok.fre (y,.free) (PySem.mem_of_lookup hyf) rfl
   obtain ⟨u,r,l⟩:=hl j y v hy ev (hkd.elim (fun z=>.inr (.inl z)) fun z=>.inr (.inr z))
   refine ⟨u,r,?_⟩
   rcases l with ⟨k,_⟩ | ⟨k,c,ec,hcell⟩
   ·exfalso
    have k':X.env.scope.names.lookup y=some .local:=k
    rcases hkd with z | z
    ·have z':X.env.scope.names.lookup y=some .cell:=z
     rw [k'] at z';cases z'
    ·have z':X.env.scope.names.lookup y=some .free:=z
     rw [k'] at z';cases z'
   ·refine .inr ⟨?_,?_⟩
    ·have e:(compEnvC scope cl C X.env).kindOf y=(scope.names.lookup y).map fun k=>if (k==NameKind.free&&X.env.scope.kind==.function&&X.env.kindOf y==some .cell) then NameKind.cell else k:=u1V X.env scope.names y
     show (compEnvC scope cl C X.env).kindOf y=_∨(compEnvC scope cl C X.env).kindOf y=_
     rw [e,hyf,Option.map_some]
     split
     ·exact .inl rfl
     ·exact .inr rfl
    ·obtain ⟨c',ec'⟩:=hcf (y,.free) (PySem.mem_of_lookup hyf) rfl
     refine ⟨c',ec',?_⟩
     have:c'=c:=Option.some.inj ((hcl y c' ec').symm.trans ec)
     subst this
     obtain ⟨o,ho,hd⟩:=hcell
     exact ⟨o,hk _ o ho,hd⟩
 ·obtain ⟨v,o,ho,hd⟩:=I.cell x c (hcl x c e)
  exact ⟨v,o,hk c o ho,hd⟩
 ·unfold stC
  show _=(own++outs.map fun j=>X.N.getD j Str.empty).length
  simp
end
section
variable {X:Cx}{tg iter elt:Expr}{ifs:List Expr}{own:List Str}{outs:List Nat}{scope:Scope}{wi:TI}{g:TG}{ti:TT}{te:TE}{pos:Pos}
theorem u7w {pins:List (Addr×Obj)}{σ:St}{H:Hp}{s:Shared}{cl:List (Str×Addr)}{it:Addr}{fp:List Addr}{tn:Nat→Heap→Prop}{J:It}{E:Value→Shared→Prop}{Q:VK} (hc:X.calm=true) (ok:CompOk X.env.scope X.N own outs scope)
  (hcl:∀ x c,cl.lookup x=some c→X.env.cells.lookup x=some c) (hcf:∀ x∈scope.names,x.2=.free→∃ c,cl.lookup x.1=some c)
  (hg:∀ {C fp},PG (cxC X own outs scope cl C s H fp) tg g) (hf:∀ {C fp},PIf (cxC X own outs scope cl C s H fp) ifs ti) (he:∀ {C fp},PE (cxC X own outs scope cl C s H fp) elt te)
  (I:Inv X pins σ H s) (T:Turn X.prog X.w X.K tg J fp it tn) (st:tn 0 s.heap) (f2:∀ b∈fp,FpOk X pins H b)
  (hW:CompRd own.length outs σ g ti te J H Q)
  {RR:Value→Addr→Result→Shared→Prop}
  (hRR:∀ D C Hf s' m,s'.heap.Ns C m→Inv X pins σ Hf s'→Hf C=none→C≠X.env.locals→X.s₀.heap.objs.size≤C→(∀ x c,X.env.cells.lookup x=some c→c≠C)→(∀ p∈X.pn++pins,p.1≠C)→Q (.ref D) Hf→RR (.ref D) C (.ok .next) s') :
  wpAny (model X.prog X.w) X.A (newList []) (fun acc s₃=>wpAny (model X.prog X.w) X.A (newFunctionEnv scope X.env.globals cl [] X.env.qual none .none (some X.env)) (fun cenv s₄ =>
   codeAny (model X.prog X.w) X.A (.compStart (.ListComp elt [⟨tg,iter,ifs,0⟩] scope pos) 0 (.ref it) acc { cenv with scope:=relabel scope X.env }) (RR acc cenv.locals) s₄) E s₃) E s:=by
 obtain ⟨W,⟨m0,w0⟩,turn⟩:=hW
 have hfs:∀ b∈fp,@LT.lt Nat _ b s.heap.objs.size:=fun b hb=>let ⟨o,e,_⟩:=T.obj _ _ st b hb;Heap.lt_size e
 refine wpAny_newObj_type (wpAny_newFunctionEnv ok.cell (by intro y hy;simp at hy) (fun h₁ hns₁ hsb₁=>?_) ok.kind)
 dsimp only at hns₁ hsb₁ ⊢
 generalize hH2:s.heap.push { cls:=.type "list",dict:=none,data:=.seq ([]:List Value).toArray }=H2 at hns₁ hsb₁ ⊢
 have hC:H2.objs.size=s.heap.objs.size+1:=by rw [← hH2,Heap.size_push]
 generalize eC:H2.objs.size=C at hns₁ hsb₁ hC ⊢
 have hDC:s.heap.objs.size≠C:=by omega
 have below:∀ b,b<s.heap.objs.size→b≠C∧b≠s.heap.objs.size:=fun b hb=>⟨by omega,by omega⟩
 have old:∀ b o,s.heap.get? b=some o→h₁.get? b=some o:=fun b o e=>hsb₁.extBut b o (below b (Heap.lt_size e)).1 (Heap.get?_push_of_some _ (hH2 ▸ Heap.get?_push_of_some _ e))
 have hacc:h₁.PlainList s.heap.objs.size #[]:=⟨_,hsb₁.extBut _ _ hDC (Heap.get?_push_of_some _ (hH2 ▸ Heap.get?_push_size _ rfl))⟩
 have hst₁:tn 0 h₁:=T.keep _ _ _ st fun b _ o e=>old b o e
 have fresh:∀ a,s.heap.objs.size≤a→s.heap.get? a=none:=fun a ha=>by
  cases e:s.heap.get? a with
  | none=>rfl
  | some o'=>exact absurd (Heap.lt_size e) (Nat.not_lt.mpr ha)
 obtain ⟨D,hD⟩:∃ D:Nat,s.heap.objs.size=D:=⟨_,rfl⟩
 rw [hD] at hDC hacc ⊢
 have hDs:s.heap.get? D=none:=fresh D (Nat.le_of_eq hD)
 have hCs:s.heap.get? C=none:=fresh C (by omega)
 have hDfp:D∉fp:=fun z=>by have:=hfs D z;omega
 have hI0:∀ t',Inv (cxC X own outs scope cl C s H fp) [] (stC own.length outs σ) H { s with heap:=h₁,toks:=t' }:=fun t'=>v2T I ok hcl hcf (by omega) f2 hfs old hns₁
 have cellNe:∀ x c,cl.lookup x=some c→@LT.lt Nat _ c s.heap.objs.size:=fun x c e=>let ⟨v,q⟩:=I.cell x c (hcl x c e);q.lt
 have stkLt:∀ b∈frs X.stack,@LT.lt Nat _ b s.heap.objs.size:=fun b hb=>by
  obtain ⟨_,o,ho,_⟩:=I.stack.mem hb
  exact Heap.lt_size ho
 have stat:∀ {H':Hp}{oD:Obj},(∀ b∈fp,H' b=none)→∀ b∈fp,FpOk (cxC X own outs scope cl C s H fp) [(D,oD)] H' b:=fun {H' oD} hn b hb=>by
  refine ⟨hn b hb,(below b (hfs b hb)).1,fun z=>?_,.inl hb,fun x c e z=>(f2 b hb).2.2.2.2.1 x c (hcl x c e) z,fun p hp z=>?_⟩
  ·rcases List.mem_cons.mp (I.stkSub b z) with q | q
   ·exact (f2 b hb).2.1 q
   ·exact (f2 b hb).2.2.1 q
  ·have:p=(D,oD):=by simpa using hp
   subst this
   exact hDfp (show D∈fp from (show D=b from z) ▸ hb)
 have loop:∀ s₃:Shared,s₃={ s with heap:=h₁,toks:=s.toks+([]:List (Str×Value)).length } →
   codeAny (model X.prog X.w) X.A (.compLoop (.ListComp elt [⟨tg,iter,ifs,0⟩] scope pos) 0 (.ref it) (.ref D) (compEnvC scope cl C X.env)) (RR (.ref D) C) s₃:=by
  rintro s₃ rfl
  refine u3q (fun n s'=>∃ i ys us nn H',Inv (cxC X own outs scope cl C s H fp) [(D,{ cls:=.type "list",data:=.seq us.toArray nn })] (stC own.length outs σ) H' s'∧tn i s'.heap∧(∀ b∈fp,H' b=none)∧Vals ys us∧W i n ys H') ?_ m0 ?_
  ·rintro n s3 ⟨i,ys,us,nn,H3,I3,st3,fr3,hv,w3⟩
   have hD3:=I3.pin (D,_) (List.mem_append_right _ List.mem_cons_self)
   obtain ⟨hz,ht⟩:=turn i n ys H3 w3
   rcases ht with ⟨stop,qn⟩ | ⟨go,NN,hNN,step⟩
   ·refine thn (T.done (cxC X own outs scope cl C s H fp) rfl rfl rfl hc i _ s3 _ H3 _ I3 (stat fr3) st3 stop) fun r s4 ⟨hr,I4⟩=>?_
    subst hr
    have hD4:=I4.pin (D,_) (List.mem_append_right _ List.mem_cons_self)
    obtain ⟨m4,hn4,_⟩:=I4.loc
    have hC4:H3 C=none:=I4.free
    have hok:HOk X.prog X.w (upd H3 D (.lst ys)) s4.heap:=I4.hok.track hD4.2.1 ⟨hz,us,nn,hv,hD4.1⟩
    have hun:Un (frs X.stack) fp H (upd H3 D (.lst ys)) s.heap s4.heap:=Un.track I4.base hD4.2.1 hDs
    have I5:Inv X pins σ (upd H3 D (.lst ys)) s4:=I.call' I4.os hun hok I4.bare fun b hb=>⟨(f2 b hb).2.2.2.1,(f2 b hb).2.1,(f2 b hb).2.2.2.2.1,(f2 b hb).2.2.2.2.2⟩
    refine hRR D C _ s4 m4 hn4 I5 (by rw [u0r hDC.symm];exact hC4) ?_ ?_ ?_ ?_ (qn D hD4.2.1)
    ·intro z
     have h1:@LT.lt Nat _ X.env.locals s.heap.objs.size:=I.lt
     have z':@Eq Nat C X.env.locals:=z
     omega
    ·have h1:=I.sz
     exact Nat.le_trans h1 (by omega)
    ·intro x c e z
     obtain ⟨v,q⟩:=I.cell x c e
     have h1:@LT.lt Nat _ c s.heap.objs.size:=q.lt
     have z':@Eq Nat c C:=z
     omega
    ·intro p hp z
     have h1:@LT.lt Nat _ p.1 s.heap.objs.size:=Heap.lt_size (I.pin p hp).1
     have z':@Eq Nat p.1 C:=z
     omega
   ·refine thn (T.item (cxC X own outs scope cl C s H fp) rfl rfl rfl hc i _ s3 _ H3 (fun _ _=>False) I3 (stat fr3) st3 go) fun r s4 ⟨u,hr,h4⟩=>?_
    subst hr
    refine thn h4 fun _ s5 ⟨x,H5,I5,r5,y5,st5,fr5⟩=>?_
    have I5':=I5.pinned (stat fr5) (T.obj _ _ st5)
    refine thn (hg _ s5 _ H5 x u _ I5' r5 (step x H5 y5)) fun _ s6 ⟨σ6,H6,I6,d6,q6⟩=>?_
    have weak:∀ {H7:Hp}{s7:Shared}{us':List Value}{nn':Nat},Inv (cxC X own outs scope cl C s H fp) [(D,{ cls:=.type "list",data:=.seq us'.toArray nn' })] σ6 H7 s7→Inv (cxC X own outs scope cl C s H fp) [(D,{ cls:=.type "list",data:=.seq us'.toArray nn' })] (stC own.length outs σ) H7 s7:=fun {H7 s7 us' nn'} I7=>by
     refine I7.weak (by have e:=I7.len;have e2:(cxC X own outs scope cl C s H fp).N.length=own.length+outs.length:=by simp
                        rw [e,e2];unfold stC;simp) fun j v e=>?_
     have hj:own.length≤j:=by
      by_cases hj:own.length≤j
      ·exact hj
      ·exfalso
       unfold stC at e
       rw [List.getElem?_append_left (by simp;omega),List.getElem?_replicate] at e
       split at e <;> cases e
     unfold stC at e
     rw [List.getElem?_append_right (by simp;omega),List.length_replicate,← d6,List.getElem?_drop] at e
     rw [show own.length+(j - own.length)=j by omega] at e
     exact e
    refine thn (hf _ s6 σ6 H6 _ I6 q6) fun b s7 ⟨H7,I7,q7⟩=>?_
    have keepT:∀ {H8:Hp}{s8:Shared},Inv (cxC X own outs scope cl C s H fp) ([(D,{ cls:=.type "list",data:=.seq us.toArray nn })]++pinsAt fp s5.heap) σ6 H8 s8→(∀ b∈fp,∀ o,s5.heap.get? b=some o→s8.heap.get? b=some o)∧∀ b∈fp,H8 b=none:=fun {H8 s8} I8=>by
     refine ⟨fun b hb o e=>(I8.pin (b,o) (List.mem_append_right _ (List.mem_append_right _ (u2m hb e)))).1,fun b hb=>?_⟩
     obtain ⟨o,e,d⟩:=T.obj _ _ st5 b hb
     exact (I8.pin (b,o) (List.mem_append_right _ (List.mem_append_right _ (u2m hb e)))).2.1
    cases b with
    | false =>
     rw [if_neg (by simp)] at q7
     rw [if_neg (by simp)]
     obtain ⟨m',hm,w7⟩:=hNN _ _ q7
     exact ⟨m',hm,i+1,ys,us,nn,H7,weak I7.unpinned,T.keep _ _ _ st5 (keepT I7).1,(keepT I7).2,hv,w7⟩
    | true =>
     rw [if_pos rfl] at q7
     rw [if_pos rfl]
     refine thn (he _ s7 σ6 H7 _ I7 q7) fun u8 s8 ⟨y8,H8,I8,r8,q8⟩=>?_
     obtain ⟨m',hm,w8⟩:=hNN _ _ q8
     have hD8:=I8.pin (D,_) (List.mem_append_right _ (List.mem_append_left _ List.mem_cons_self))
     refine wpAny_list_append_plain (hsz:=by rw [List.size_toArray,← hv.length];exact hz) (x:=u8) ⟨nn,hD8.1⟩ fun h9 hl9 hs9=>?_
     obtain ⟨n9,e9⟩:=hl9
     have k9:∀ b o,b≠D→s8.heap.get? b=some o→h9.get? b=some o:=fun b o hb e=>(hs9.2 b hb).trans e
     have I8':Inv (cxC X own outs scope cl C s H fp) [] σ6 H8 s8:=I8.pins_of fun p hp=>(nomatch hp)
     have I9:Inv (cxC X own outs scope cl C s H fp) [] σ6 H8 { s8 with heap:=h9,toks:=s8.toks }:=I8'.turned k9 hD8.2.1 hDC (.inr (by show s.heap.objs.size≤D;omega)) (fun x c e z=>by have h1:=cellNe x c e;have z':@Eq Nat c D:=z;omega) (fun p hp=>(nomatch hp))
     have e9':h9.get? D=some { cls:=.type "list",data:=.seq (us++[u8]).toArray n9 }:=by
      rw [e9];simp
     have I9':Inv (cxC X own outs scope cl C s H fp) [(D,{ cls:=.type "list",data:=.seq (us++[u8]).toArray n9 })] σ6 H8 { s8 with heap:=h9,toks:=s8.toks }:=I9.pins_of fun p hp=>by
      have:p=(D,{ cls:=.type "list",data:=.seq (us++[u8]).toArray n9 }):=by simpa using hp
      subst this
      refine ⟨e9',hD8.2.1,hDC,fun z=>?_,fun v z=>by cases z⟩
      have:=stkLt D z
      omega
     refine ⟨m',hm,i+1,ys++[y8],us++[u8],n9,H8,weak I9',?_,(keepT I8).2,hv.append (.cons r8 .nil),w8⟩
     exact T.keep _ _ _ st5 fun b hb o e=>k9 b o (fun z=>hDfp (show D∈fp from (show b=D from z) ▸ hb)) ((keepT I8).1 b hb o e)
  ·obtain ⟨n0,e0⟩:=hacc
   refine ⟨0,[],[],n0,H,(hI0 _).pins_of fun p hp=>?_,hst₁,fun b hb=>(f2 b hb).1,.nil,w0⟩
   have:p=(D,{ cls:=.type "list",data:=.seq ([]:List Value).toArray n0 }):=by simpa using hp
   subst this
   refine ⟨e0,I.hok.fresh (by omega),hDC,fun z=>?_,fun v z=>by cases z⟩
   have:=stkLt D z
   omega
 exact codeAny_compStart_list (loop _ rfl) (T.self _ 0 _ _ _ hst₁ (loop _ rfl))
theorem u7h {scope:Scope}{pins:List (Addr×Obj)}{σ:St}{H:Hp}{s:Shared} (I:Inv X pins σ H s) (ok:CompOk X.env.scope X.N own outs scope):∀ x∈scope.names,x.2=.free→∃ c,X.env.cells.lookup x.1=some c:=fun x hx hf=>I.ok.has x.1 (ok.fre x hx hf)
theorem pe_comp (own:List Str) (outs:List Nat) (hc:X.calm=true) (ok:CompOk X.env.scope X.N own outs scope) (hi:PI X tg iter wi)
  (hg:∀ {cl C s H fp},PG (cxC X own outs scope cl C s H fp) tg g) (hf:∀ {cl C s H fp},PIf (cxC X own outs scope cl C s H fp) ifs ti) (he:∀ {cl C s H fp},PE (cxC X own outs scope cl C s H fp) elt te)
  (hs:∀ x,foldedSetIterable iter X.env x=pure x:=by intro _;rfl):PE X (.ListComp elt [⟨tg,iter,ifs,0⟩] scope pos) (tComp own.length outs wi g ti te):=by
 intro pins s σ H Q I h
 obtain ⟨cl,ecl,hcl,hcf⟩:=u3a (u7h I ok)
 rw [eval_ListComp]
 refine wpAny_comprehension_free (use:=none) rfl hs ecl ok.kind ok.loc (thn (hi pins s σ H _ I h) fun xv s₁ h₁=>thn h₁ fun itv s₂ h₂=>?_)
 obtain ⟨it,fp,tn,J,H2,e,I2,T,st2,f2,hW⟩:=h₂
 subst e
 refine u7w (Q:=Q) (RR:=fun acc C=>compPost (model X.prog X.w) X.A X.xe none (EP X pins σ Q) acc C) hc ok hcl hcf hg hf he I2 T st2 f2 hW ?_
 intro D C Hf s' m hn I' hC hL hs0 hce hpi q
 refine ⟨m,hn,fun h' hs'=>?_⟩
 exact ⟨.ref D,Hf,I'.turned (t':=s'.toks) (fun b o hb e=>(hs'.2 b hb).trans e) hC hL (.inr hs0) hce hpi,rfl,q⟩
theorem u9P {i:Nat}{y:Str}{py spos:Pos} (own:List Str) (outs:List Nat) (hc:X.calm=true) (ok:CompOk X.env.scope X.N own outs scope) (hN:X.N.Nodup) (hy:X.N[i]?=some y) (hx:X.env.scope.names.lookup y=some .local) (hi:PI X tg iter wi)
  (hg:∀ {cl C s H fp},PG (cxC X own outs scope cl C s H fp) tg g) (hf:∀ {cl C s H fp},PIf (cxC X own outs scope cl C s H fp) ifs ti) (he:∀ {cl C s H fp},PE (cxC X own outs scope cl C s H fp) elt te)
  (hsw:swapsWith (.ListComp elt [⟨tg,iter,ifs,0⟩] scope pos) (some (.Name y py)) spos.line X.env=pure true:=by rfl)
  (hs:∀ x,foldedSetIterable iter X.env x=pure x:=by intro _;rfl):PS X (.Assign [.Name y py] (.ListComp elt [⟨tg,iter,ifs,0⟩] scope pos) spos) (tAsg (tComp own.length outs wi g ti te) (gName i)):=by
 intro pins s σ H D I h
 obtain ⟨cl,ecl,hcl,hcf⟩:=u3a (u7h I ok)
 rw [exec_Assign_Name_used _ _ _ _ hsw]
 refine wpAny_bind (wpAny_standAt (wpAny_bind ?_))
 show wpAny _ X.A (do let _ ← comprehension (.ListComp elt [⟨tg,iter,ifs,0⟩] scope pos) scope X.env _ (newList []) false (eval iter X.env) (some (assign (.Name y py) X.env))) _ _ s
 refine wpAny_bind (wpAny_mono (wpAny_comprehension_free (use:=some (assign (.Name y py) X.env)) (Q:=fun _ s'=>SP X pins D .next s') rfl hs ecl ok.kind ok.loc
  (thn (hi pins s σ H _ I h) fun xv s₁ h₁=>thn h₁ fun itv s₂ h₂=>?_)) (fun _ s' hq=>wpAny_pure (wpAny_pure hq)) fun _ _ e=>e)
 obtain ⟨it,fp,tn,J,H2,e,I2,T,st2,f2,hW⟩:=h₂
 subst e
 refine u7w (Q:=fun x H1=>gName i x σ H1 D.nx) (RR:=fun acc C=>compPost (model X.prog X.w) X.A X.xe (some (assign (.Name y py) X.env)) (fun _ s'=>SP X pins D .next s') acc C) hc ok hcl hcf hg hf he I2 T st2 f2 hW ?_
 intro D' C Hf s' m hn I' hC hL hs0 hce hpi q
 show wpAny _ X.A (assign (.Name y py) X.env (.ref D')) _ _ _
 refine wpAny_assign_Name (u6z I' hN hy (.inl hx) (v:=.ref D') rfl (fun s2 I2' ⟨a,hsb,ha⟩=>?_) (.inr hx))
 have haC:C≠a:=by
  rcases ha with rfl | ha
  ·exact hL
  ·exact fun z=>hce _ _ ha z.symm
 refine ⟨m,hn.sameBut hsb haC,fun h' hs'=>?_⟩
 exact ⟨_,Hf,I2'.turned (t':=s2.toks) (fun b o hb e=>(hs'.2 b hb).trans e) hC hL (.inr hs0) hce hpi,q⟩
end
section
variable {X:Cx}{tg:Expr}
noncomputable def rSlS:V→Option Int→Option Int→Hp→VK→Prop:=fun x lo hi H Q=>∃ z,x=.str z∧z.length≤sizeLine∧Q (.str (Txt.slice z lo hi)) H
theorem sl_str:SlR X rSlS:=by
 intro pins s σ H x v vl vu lo hi sl Q I rx hs pl pu h
 obtain ⟨z,rfl,hz,q⟩:=h
 obtain ⟨t,rfl⟩:=rx
 refine ⟨"str",_,PySem.F.slot_str_getitem.lookup,typeIs_str _ _ _,?_⟩
 have fin:∀ lo' hi',lo'=lo→hi'=hi→∀ t' k,EP X pins σ Q (.str (Txt.slice z lo' hi') t') { s with toks:=k }:=fun lo' hi' e1 e2 t' k=>by
  subst e1 e2
  exact ⟨.str _,H,I.tok k,⟨t',rfl⟩,q⟩
 obtain ⟨o,ho,hc,hd⟩:=hs
 cases pl with
 | none =>
  cases pu with
  | none=>exact wpAny_getItem_str_slice (l:=none) (u:=none) (st:=none) ⟨o,ho,hc,hd⟩ rfl (post_val_or_str ⟨Nat.le_trans (Txt.slice_le z _ _) hz,fun t' k=>fin _ _ rfl rfl t' k⟩)
  | int j uj=>exact wpAny_getItem_str_slice (l:=none) (u:=some (j,uj)) (st:=none) ⟨o,ho,hc,hd⟩ rfl (post_val_or_str ⟨Nat.le_trans (Txt.slice_le z _ _) hz,fun t' k=>fin _ _ rfl rfl t' k⟩)
 | int i ui =>
  cases pu with
  | none=>exact wpAny_getItem_str_slice (l:=some (i,ui)) (u:=none) (st:=none) ⟨o,ho,hc,hd⟩ rfl (post_val_or_str ⟨Nat.le_trans (Txt.slice_le z _ _) hz,fun t' k=>fin _ _ rfl rfl t' k⟩)
  | int j uj=>exact wpAny_getItem_str_slice (l:=some (i,ui)) (u:=some (j,uj)) (st:=none) ⟨o,ho,hc,hd⟩ rfl (post_val_or_str ⟨Nat.le_trans (Txt.slice_le z _ _) hz,fun t' k=>fin _ _ rfl rfl t' k⟩)
noncomputable def Its (z:Str):It:=⟨fun i _=>i<z.cps.size,fun i H x H'=>H'=H∧∃ c,z.cps[i]?=some c∧x=.str ⟨#[c]⟩,fun i _=>z.cps.size≤i⟩
theorem u9w {P:Program}{w:World}{K:PySem.W.Frag}{tg:Expr} (z:Str) (t:Tok) (it:Addr):Turn P w K tg (Its z) [it] it (fun i h=>h.IsStrIter it "str_ascii_iterator" z t i) where
 mem:=by simp
 obj:=fun i h st b hb=>by
  have e:b=it:=by simpa using hb
  subst e
  obtain ⟨o,e,c,d⟩:=st
  exact ⟨o,e,fun v z=>by rw [d] at z;cases z⟩
 keep:=fun i h h' st k=>let ⟨o,e,r⟩:=st;⟨o,k it (by simp) o e,r⟩
 item:=by
  intro X hP hw hK hc i pins s σ H E I hf st hg
  subst hP hw hK
  obtain ⟨f0,f1,f2,f3,f4,f5⟩:=hf it (by simp)
  have hg':i<z.cps.size:=hg
  refine wpAny_pyNext_ascii_item st (c:=z.cps[i]) (by simp [hg']) fun h' st' sb=>?_
  have I1:Inv X pins σ H { s with heap:=h',toks:=s.toks+1 }:=I.turned (fun b o hb e=>(sb.2 b hb).trans e) f0 f1 f3 f4 f5
  obtain ⟨o,e,c,d⟩:=id st'
  exact ⟨_,rfl,v1u (s:={ s with heap:=h',toks:=s.toks+1 }) e c d (by decide) ⟨.str ⟨#[z.cps[i]]⟩,H,I1,⟨_,rfl⟩,⟨rfl,z.cps[i],by simp [hg'],rfl⟩,st',fun b hb=>(hf b hb).1⟩⟩
 done:=by
  intro X hP hw hK hc i pins s σ H E I hf st hg
  subst hP hw hK
  obtain ⟨f0,f1,f2,f3,f4,f5⟩:=hf it (by simp)
  have hg':z.cps.size≤i:=hg
  exact wpAny_pyNext_ascii_end (I.ok.hd hc) st (by simp;omega) fun h' eb=>⟨rfl,I.turned (t':=s.toks) (fun b o hb e=>eb b o hb e) f0 f1 f3 f4 f5⟩
 self:=fun _ _ _ _ _ st h=>wpAny_pyIter_striter_ascii st h
theorem v0v {P:Program}{w:World}{K:PySem.W.Frag}{tg:Expr} (z:Str) (t:Tok) (it:Addr):Turn P w K tg (Its z) [it] it (fun i h=>h.IsStrIter it "str_iterator" z t i) where
 mem:=by simp
 obj:=fun i h st b hb=>by
  have e:b=it:=by simpa using hb
  subst e
  obtain ⟨o,e,c,d⟩:=st
  exact ⟨o,e,fun v z=>by rw [d] at z;cases z⟩
 keep:=fun i h h' st k=>let ⟨o,e,r⟩:=st;⟨o,k it (by simp) o e,r⟩
 item:=by
  intro X hP hw hK hc i pins s σ H E I hf st hg
  subst hP hw hK
  obtain ⟨f0,f1,f2,f3,f4,f5⟩:=hf it (by simp)
  have hg':i<z.cps.size:=hg
  refine wpAny_pyNext_wide_item st (c:=z.cps[i]) (by simp [hg']) fun h' st' sb=>?_
  have I1:Inv X pins σ H { s with heap:=h',toks:=s.toks+1 }:=I.turned (fun b o hb e=>(sb.2 b hb).trans e) f0 f1 f3 f4 f5
  obtain ⟨o,e,c,d⟩:=id st'
  exact ⟨_,rfl,v1u (s:={ s with heap:=h',toks:=s.toks+1 }) e c d (by decide) ⟨.str ⟨#[z.cps[i]]⟩,H,I1,⟨_,rfl⟩,⟨rfl,z.cps[i],by simp [hg'],rfl⟩,st',fun b hb=>(hf b hb).1⟩⟩
 done:=by
  intro X hP hw hK hc i pins s σ H E I hf st hg
  subst hP hw hK
  obtain ⟨f0,f1,f2,f3,f4,f5⟩:=hf it (by simp)
  have hg':z.cps.size≤i:=hg
  exact wpAny_pyNext_wide_end (I.ok.hd hc) st (by simp;omega) fun h' eb=>⟨rfl,I.turned (t':=s.toks) (fun b o hb e=>eb b o hb e) f0 f1 f3 f4 f5⟩
 self:=fun _ _ _ _ _ st h=>wpAny_pyIter_striter_wide st h
noncomputable def iStr (tl:TE):TI:=fun σ H R=>tl σ H fun x H1=>∃ z,x=.str z∧R (Its z) H1
theorem pi_str {l:Expr}{tl:TE} (hl:PE X l tl):PI X tg l (iStr tl):=by
 intro pins s σ H R I h
 refine thn (hl pins s σ H _ I h) fun v s1 ⟨x,H1,I1,r1,q1⟩=>?_
 obtain ⟨z,rfl,q⟩:=q1
 obtain ⟨t,rfl⟩:=r1
 cases ha:z.cps.all (·<128) with
 | true =>
  refine wpAny_pyIter_ascii ha ?_
  have hn:H1 s1.heap.objs.size=none:=I1.hok.fresh (Nat.le_refl _)
  exact ⟨s1.heap.objs.size,[s1.heap.objs.size],_,Its z,H1,rfl,I1.kept (t':=s1.toks) (fun b o e=>Heap.get?_push_of_some _ e),u9w z t _,⟨_,Heap.get?_push_size _ rfl,rfl,rfl⟩,fun b hb=>by
   have e:b=s1.heap.objs.size:=by simpa using hb
   subst e
   exact I1.fpOk (Nat.le_refl _) hn,q⟩
 | false =>
  refine wpAny_pyIter_wide ha ?_
  have hn:H1 s1.heap.objs.size=none:=I1.hok.fresh (Nat.le_refl _)
  exact ⟨s1.heap.objs.size,[s1.heap.objs.size],_,Its z,H1,rfl,I1.kept (t':=s1.toks) (fun b o e=>Heap.get?_push_of_some _ e),v0v z t _,⟨_,Heap.get?_push_size _ rfl,rfl,rfl⟩,fun b hb=>by
   have e:b=s1.heap.objs.size:=by simpa using hb
   subst e
   exact I1.fpOk (Nat.le_refl _) hn,q⟩
theorem v3g (hc:X.calm=true):CallR X (.builtin "all") (fun xs H Q=>∃ (p:Addr) (bs:List Bool),xs=[.ref p]∧SqL X.K H p (bs.map V.bl)∧Q (.bl (bs.all id)) H):=by
 intro pins s σ H xs us Q I r h
 obtain ⟨p,bs,rfl,hq,q⟩:=h
 obtain ⟨u,rfl,ru⟩:=vals1 r
 cases ru
 obtain ⟨its,rv,hl,hz⟩:=I.list hq
 have hlen:=rv.length
 rw [List.length_map] at hlen
 have hlt:p<s.heap.objs.size:=let ⟨o,ho,_⟩:=hl.isList;Heap.lt_size ho
 refine call_all_walk (wpAny_pyIter_list hl.isList ?_)
 refine ⟨s.heap.objs.size,_,_,_,_,_,fun i=>bs.getD i false,rfl,Walks.list (show X.A.in1.handled=none from I.ok.hd hc) s.heap.objs.size p (Nat.ne_of_lt hlt) its.toArray,⟨⟨_,Heap.get?_push_size _ rfl,rfl,rfl⟩,hl.isList.at fun o e=>Heap.get?_push_of_some _ e⟩,?_,?_⟩
 ·intro i v s' Q' E' hv hQ
  have hv':its[i]?=some v:=by simpa using hv
  have hi:i<bs.length:=by
   have:=(List.getElem?_eq_some_iff.mp hv').1
   omega
  have hx:(bs.map V.bl)[i]?=some (V.bl bs[i]):=by rw [List.getElem?_map,List.getElem?_eq_getElem hi];rfl
  obtain ⟨u,hu,ru⟩:=rv.get hx
  rw [hv'] at hu
  cases hu
  cases ru
  have e:bs.getD i false=bs[i]:=by rw [List.getD_eq_getElem?_getD,List.getElem?_eq_getElem hi];rfl
  have hQ':Q' (bs.getD i false) s':=hQ
  rw [e] at hQ'
  exact wpAny_truthy_bool hQ'
 ·intro h' tk hk
  have hw:∀ b o,s.heap.get? b=some o→h'.get? b=some o:=fun b o e=>hk b o (by
   intro z
   have:b=s.heap.objs.size:=by simpa using z
   subst this
   exact absurd (Heap.lt_size e) (Nat.lt_irrefl _)) (Heap.get?_push_of_some _ e)
  have e:(List.range its.toArray.size).all (fun i=>bs.getD i false)=bs.all id:=by
   rw [List.size_toArray,← hlen]
   clear hlen hq rv q hz
   induction bs with
   | nil=>rfl
   | cons b bs ih =>
    rw [List.length_cons,List.range_succ_eq_map,List.all_cons,List.all_map,List.all_cons]
    simp only [List.getD_cons_zero,id]
    congr 1
  rw [e]
  exact ⟨.bl _,H,I.kept hw,rfl,q⟩
noncomputable def CDivB (i j:Int):Prop:=0<j∧j<2^64
theorem v2D:OpR X (binaryOp .FloorDiv) (rI CDivB fun i j=>.int (i / j)):=opI fun i j _ _ _ _ _ hc q=>by
 have h1:(0:Int)<j:=hc.1
 have h2:j<2^64:=hc.2
 refine floordiv_int (by omega) (by rw [Int.fdiv_eq_ediv_of_nonneg i (by omega)];exact q) (.inl (PyProof.noPylong_of_log2 ?_))
 have:j.natAbs.log2<64:=(Nat.log2_lt (by omega)).mpr (by omega)
 omega
end
noncomputable def notStar:Expr→Bool
 | .Starred _ _=>false
 | _=>true
theorem u1f {e:Expr}{es:List Expr}{env:Env} (h:notStar e=true):starEach (e::es) env=(false,eval e env)::starEach es env:=by
 cases e <;> first | rfl | exact absurd h Bool.false_ne_true
theorem u2x {pos:Pos}{env:Env}:∀ {es:List Expr},es.all notStar=true→(backTo pos (starEach es env)).any (·.1)=false
 | [],_=>rfl
 | e::es,h=>by
  rw [List.all_cons,Bool.and_eq_true] at h
  rw [u1f h.1]
  show (false||(backTo pos (starEach es env)).any (·.1))=false
  rw [u2x h.2]
  rfl
theorem u9o {pos:Pos}{env:Env}:∀ {es:List Expr},es.all notStar=true→(backTo pos (starEach es env)).all (fun x=>!x.1)=true
 | [],_=>rfl
 | e::es,h=>by
  rw [List.all_cons,Bool.and_eq_true] at h
  rw [u1f h.1]
  show (true&&(backTo pos (starEach es env)).all (fun x=>!x.1))=true
  rw [u9o h.2]
  rfl
theorem u0S {e:Expr}{es:List Expr} (h:(e::es).all notStar=true):notStar e=true∧es.all notStar=true:=by
 rw [List.all_cons,Bool.and_eq_true] at h
 exact h
section
variable {X:Cx}{e o:Expr}{es:List Expr}{te to:TE}{t:TA}{x name:Str}{p pos apos cpos:Pos}{id T:String}{r:List V→Hp→VK→Prop}{r3:V→List V→Hp→VK→Prop}
theorem pac (ha:PE X e te) (hr:PA X es t) (hs:notStar e=true:=by rfl):PA X (e::es) (tCons te t):=pa_cons ha hr (u1f hs)
theorem pcB (hc:CallR X (.builtin id) r) (hg:Gl X x) (hm:X.mg x=none) (hv:bootBuiltins x=some (.builtin id)) (ha:PA X (e::es) t) (hn:x≠"__name__":=by decide) (hdb:(x==("__debug__":Str))=false:=by decide)
  (hs:(e::es).all notStar=true:=by rfl):PE X (.Call (.Name x p) (e::es) [] pos) (tCB r t):=v2C hc hg hm hv ha hn hdb (u1f (u0S hs).1) (u2x (u0S hs).2)
theorem pcT (hc:CallR X (.type T) r) (hg:Gl X x) (hm:X.mg x=none) (hv:bootBuiltins x=some (.type T)) (ha:PA X (e::es) t) (hn:x≠"__name__":=by decide) (hdb:(x==("__debug__":Str))=false:=by decide)
  (hs:(e::es).all notStar=true:=by rfl):PE X (.Call (.Name x p) (e::es) [] pos) (tCB r t):=v0T hc hg hm hv ha hn hdb (u1f (u0S hs).1) (u2x (u0S hs).2)
theorem pbm (pa:PlainAttrs T) (slot:Slot T name id) (hty:typeOf (.builtin id)=pure (.type "method_descriptor")) (hm:MtR X id r3) (ho:PE X o to) (ha:PA X (e::es) t)
  (hs:(e::es).all notStar=true:=by rfl) (hl:decide ((e::es).length<30)=true:=by rfl)
  (hbase:attributeBase o name X.env (eval o X.env)=eval o X.env:=by rfl) (hline:(apos.endLine==cpos.line)=true:=by rfl) :
  PE X (.Call (.Attribute o name apos) (e::es) [] cpos) (tBM X.K T r3 to t):=by
 refine pe_bm pa slot hty hm ho ha hbase ?_ hline (u1f (u0S hs).1) (u2x (u0S hs).2)
 rw [u9o hs]
 have h2:(e::es).length+([]:List Keyword).length+(if ([]:List Keyword).isEmpty then 0 else 1)<30:=by
  have:=of_decide_eq_true hl
  simpa using this
 rw [decide_eq_true h2]
 rfl
end
noncomputable def Callee (P:Program) (w:World) (K:PySem.W.Frag) (mg:Str→Option Value) (base:Heap) (k:Nat) (x:Str) (ps:List Str) (sp:Sp):Prop :=
 ∃ f fd,FnOk P w K mg base CX0 k f fd ps sp∧Binds K fd ps []∧PySem.W.keepIn K (.ref f)=true∧mg x=some (.ref f)
noncomputable def Glo (mg:Str→Option Value) (x:Str) (v:V):Prop:=∃ u,mg x=some u∧RelV v u
section
variable {X:Cx}{P:Program}{w:World}{K:PySem.W.Frag}{mg:Str→Option Value}{base:Heap}{k k':Nat}{x:Str}{ps:List Str}{sp:Sp}{e:Expr}{es:List Expr}{t:TA}{p pos:Pos}{v:V}
theorem pe_fn (h:Callee P w K mg base k x ps sp) (hr:Room k' X.A) (hk:k≤k') (ha:PA X (e::es) t) (hg:Gl X x:=by rfl) (eP:X.prog=P:=by rfl) (ew:X.w=w:=by rfl) (eK:X.K=K:=by rfl) (em:X.mg=mg:=by rfl) (eb:X.base=base:=by rfl)
  (hdb:(x==("__debug__":Str))=false:=by decide) (hs:(e::es).all notStar=true:=by rfl) :
  PE X (.Call (.Name x p) (e::es) [] pos) (tCall sp [] E0 t):=by
 subst eP ew eK em eb
 obtain ⟨f,fd,F,hb,hkp,hm⟩:=h
 exact pe_call F (hr.mono hk) hg hm hkp hb .nil pass0 ha hdb (u1f (u0S hs).1) (u2x (u0S hs).2)
theorem pe_glo (h:Glo mg x v) (hg:Gl X x:=by rfl) (em:X.mg=mg:=by rfl) (hd:(x==("__debug__":Str))=false:=by decide):PE X (.Name x pos) (tC v):=by
 subst em
 obtain ⟨u,hm,r⟩:=h
 exact pe_glob hg hm r hd
end
section
variable {X:Cx}
end
section
variable {X:Cx}{pos pos':Pos}{x:Str}{e:Expr}{te:TE}{tg l:Expr}{tl:TE}
theorem u7Q {N:List Str}{i:Nat} (hi:N.findIdx? (fun y=>y==x)=some i):N[i]?=some x:=by
 obtain ⟨h1,h2,_⟩:=List.findIdx?_eq_some_iff_getElem.mp hi
 rw [List.getElem?_eq_getElem h1]
 exact congrArg some (eq_of_beq h2)
theorem pg_n {i:Nat} (hN:X.N.Nodup) (hi:X.N.findIdx? (fun y=>y==x)=some i:=by rfl) (hx:Loc X.env.scope x:=by first | exact Or.inl rfl | exact Or.inr rfl) (hf:X.fn x=true∨X.env.scope.names.lookup x=some .local:=by first | exact .inl rfl | exact .inr rfl) :
  PG X (.Name x pos) (gName i):=pg_name hN (u7Q hi) hx hf
theorem ps_n {i:Nat} (hN:X.N.Nodup) (he:PE X e te) (hi:X.N.findIdx? (fun y=>y==x)=some i:=by rfl) (hx:Loc X.env.scope x:=by first | exact Or.inl rfl | exact Or.inr rfl) (hs:swapsWith e (some (.Name x pos')) pos.line X.env=pure false:=by rfl)
  (hf:X.fn x=true∨X.env.scope.names.lookup x=some .local:=by first | exact .inl rfl | exact .inr rfl):PS X (.Assign [.Name x pos'] e pos) (tAsg te (gName i)):=ps_set hN (u7Q hi) hx he hs hf
end
mutual
inductive RdV (K:PySem.W.Frag) (H:Hp):V→PyData→Prop
 | non:RdV K H .non .none
 | bl (b:Bool):RdV K H (.bl b) (.bool b)
 | int (i:Int):RdV K H (.int i) (.int i)
 | str (z:Str):RdV K H (.str z) (.str z)
 | lst {a:Addr}{xs:List V}{ds:List PyData}:SqL K H a xs→RdVs K H xs ds→RdV K H (.ref a) (.list ds)
 | tup {a:Addr}{xs:List V}{ds:List PyData}:SqT K H a xs→RdVs K H xs ds→RdV K H (.ref a) (.tuple ds)
inductive RdVs (K:PySem.W.Frag) (H:Hp):List V→List PyData→Prop
 | nil:RdVs K H [] []
 | cons {x:V}{d:PyData}{xs:List V}{ds:List PyData}:RdV K H x d→RdVs K H xs ds→RdVs K H (x::xs) (d::ds)
end
section
variable {X:Cx}{pins:List (Addr×Obj)}{σ:St}{H:Hp}{s:Shared}
mutual
theorem RdV.reads (I:Inv X pins σ H s):∀ {x:V}{d:PyData}{u:Value},RdV X.K H x d→RelV x u→∃ as,Reads s.heap u d as
 | _,_,_,.non,r=>by cases r;exact ⟨_,.none⟩
 | _,_,_,.bl b,r=>by cases r;exact ⟨_,.bool b⟩
 | _,_,_,.int i,r=>by obtain ⟨t,rfl⟩:=r;exact ⟨_,.int i t⟩
 | _,_,_,.str z,r=>by obtain ⟨t,rfl⟩:=r;exact ⟨_,.str z t⟩
 | _,_,_,.lst hq hs,r=>by
  cases r
  obtain ⟨its,rv,p,hz⟩:=I.list hq
  obtain ⟨as,h⟩:=RdVs.reads I hs rv
  obtain ⟨o,ho,hc,n,hd⟩:=p.isList
  exact ⟨_,.list ho hc hd (by simpa using h)⟩
 | _,_,_,.tup hq hs,r=>by
  cases r
  obtain ⟨its,rv,p,hz⟩:=I.tuple hq
  obtain ⟨as,h⟩:=RdVs.reads I hs rv
  obtain ⟨o,ho,hc,n,hd⟩:=p
  exact ⟨_,.tuple ho hc hd (by simpa using h)⟩
theorem RdVs.reads (I:Inv X pins σ H s):∀ {xs:List V}{ds:List PyData}{us:List Value},RdVs X.K H xs ds→Vals xs us→∃ as,ReadsAll s.heap us ds as
 | _,_,_,.nil,r=>by cases r;exact ⟨_,.nil⟩
 | _,_,_,.cons h hs,r=>by
  cases r with
  | cons r1 r2 =>
   obtain ⟨as,h1⟩:=RdV.reads I h r1
   obtain ⟨bs,h2⟩:=RdVs.reads I hs r2
   exact ⟨_,.cons h1 h2⟩
end
end
theorem Same.seqT {K:PySem.W.Frag}{H H':Hp}{a:Addr}{xs:List V} (e:Same H H') (h:SqT K H a xs):SqT K H' a xs:=by
 rcases h with (h | ⟨o,h⟩) | h
 ·exact .inl (.inl (e _ _ h))
 ·exact .inl (.inr ⟨o,e _ _ h⟩)
 ·exact .inr h
mutual
theorem RdV.same {K:PySem.W.Frag}{H H':Hp} (e:Same H H'):∀ {x:V}{d:PyData},RdV K H x d→RdV K H' x d
 | _,_,.non=>.non
 | _,_,.bl b=>.bl b
 | _,_,.int i=>.int i
 | _,_,.str z=>.str z
 | _,_,.lst hq hs=>.lst (e.seq hq) (RdVs.same e hs)
 | _,_,.tup hq hs=>.tup (e.seqT hq) (RdVs.same e hs)
theorem RdVs.same {K:PySem.W.Frag}{H H':Hp} (e:Same H H'):∀ {xs:List V}{ds:List PyData},RdVs K H xs ds→RdVs K H' xs ds
 | _,_,.nil=>.nil
 | _,_,.cons h hs=>.cons (RdV.same e h) (RdVs.same e hs)
end
section
variable {X:Cx}
noncomputable def rEqD (K:PySem.W.Frag) (neg:Bool):R2:=fun x y H Q=>∃ d e,RdV K H x d∧RdV K H y e∧SeqAt.shaped d=true∧SeqAt.shaped e=true∧Q (.bl (if neg=true then !PyData.eqv d e else PyData.eqv d e)) H
theorem op_eqD (hu:X.A.units+64<cLine):OpR X (compareOp .Eq) (rEqD X.K false):=by
 intro pins s σ H x y v u Q I rx ry h
 obtain ⟨d,e,h1,h2,s1,s2,q⟩:=h
 obtain ⟨as,r1⟩:=h1.reads I rx
 obtain ⟨bs,r2⟩:=h2.reads I ry
 exact eq_dataH r1 r2 s1 s2 hu ⟨.bl _,H,I,rfl,q⟩
theorem op_neD (hu:X.A.units+64<cLine):OpR X (compareOp .NotEq) (rEqD X.K true):=by
 intro pins s σ H x y v u Q I rx ry h
 obtain ⟨d,e,h1,h2,s1,s2,q⟩:=h
 obtain ⟨as,r1⟩:=h1.reads I rx
 obtain ⟨bs,r2⟩:=h2.reads I ry
 exact ne_dataH r1 r2 s1 s2 hu ⟨.bl _,H,I,rfl,q⟩
end
end L2
namespace L2
open PySem PySem.Spec PyProof.Rows
section
variable (P:Program) (w:World)
end
section
variable {P:Program}{w:World}{H H':Hp}{h h':Heap}{a:Addr}{o:HO}
end
section
variable {P:Program}{w:World}{H:Hp}{h h':Heap}{x e:Addr}{o':HO}
end
section
variable {fs fs' ex ex':List Addr}{H H1 H2:Hp}{h h1 h2 h':Heap}{a x e:Addr}{o:HO}
end
section
variable {X:Cx}{pins:List (Addr×Obj)}{σ:List (Option V)}{H H':Hp}{s:Shared}{h':Heap}
end
section
variable {X:Cx}
variable {a b:Expr}{ta tb:TE}{pos:Pos}
variable {tA tB':TT}{rest:List Expr}
end
section
variable {X:Cx}{pins:List (Addr×Obj)}{σ:St}{H:Hp}{s:Shared}{a:Addr}{xs ys:List V}
end
section
variable {X:Cx}{pins:List (Addr×Obj)}{σ:St}{H:Hp}{s:Shared}{E:Value→Shared→Prop}
end
section
variable {X:Cx}{st:Stmt}{rest:List Stmt}{t u:TS}{e:Expr}{te:TE}{pos:Pos}
end
section
variable {X:Cx}{pos:Pos}
end
section
variable {X:Cx}{pos:Pos}
end
section
variable {X:Cx}{tg:Expr}
end
section
variable {X:Cx}{a b c:Expr}{ta tb tc:TE}{pos:Pos}
end
section
variable {X:Cx}{a b c:Expr}{ta tb tc:TE}{pos:Pos}
end
section
variable {prog:Program}{w:World}{A:Around}{E:Value→Shared→Prop}{s:Shared}{K:PySem.W.Frag}{x dx C f:Addr}{mA:Str→Option Value}{name:Str}{v:Value}
end
section
variable {P:Program}{w:World}{H H':Hp}{h h':Heap}{a C dx:Addr}{fs fs':List (Str×V)}
end
section
variable {X:Cx}{pins:List (Addr×Obj)}{σ:St}{H:Hp}{s:Shared}{a C dx:Addr}{fs:List (Str×V)}{f:Str}{v:V}{A:Around}{E:Value→Shared→Prop}
end
section
variable {X:Cx}{o e value:Expr}{f:Str}{pos pos' tpos:Pos}{ta tv:TE}
end
section
variable {X:Cx}{pins:List (Addr×Obj)}{σ:St}{H:Hp}{s:Shared}{A:Around}{E:Value→Shared→Prop}{Q:Value→Shared→Prop}{c:Value}{b:Bool}
end
section
variable {X:Cx}{e:Expr}{es:List Expr}{te:TE}{t:TA}{pos:Pos}
end
section
variable {X:Cx}{pins:List (Addr×Obj)}{σ:St}{H:Hp}{s s':Shared}
end
section
variable {X:Cx}{CX:CXT}{k:Nat}{f C:Addr}{fd:FuncData}{ps:List Str}{sp:Sp}{dvs:List V}{ds:List Value}{E:XK}{x m:Str}{p pos apos:Pos}{e o:Expr}{es:List Expr}{ta:TE}{t:TA}
end
section
variable {X:Cx}{CX:CXT}{k:Nat}{f C:Addr}{fd:FuncData}{ps ks:List Str}{sp:Sp}{E:XK}{x m:Str}{p pos apos kpos:Pos}{e o:Expr}{es:List Expr}{kws:List Keyword}{te ta:TE}{t tk:TA}{nm:Option Str}
variable {g:List Value→List Value→List Value}{gV:List V→List V→List V}
end
section
variable {X:Cx}{x:Str}{p pos:Pos}{e:Expr}{es:List Expr}{t:TA}{id T:String}{r:List V→Hp→VK→Prop}
end
section
variable {κ:Type} [DecidableEq κ]
noncomputable def valV (kvs:List (κ×V)) (k:κ):Option V:=(kvs.find? fun kv=>decide (kv.1=k)).map (·.2)
noncomputable def putK (kvs:List (κ×V)) (k:κ) (v:V):List (κ×V) :=
 if (kvs.any fun kv=>decide (kv.1=k))=true then kvs.map (fun kv=>if kv.1=k then (kv.1,v) else kv) else kvs++[(k,v)]
theorem u5S {p:κ×V}{r:List (κ×V)}{k:κ} (e:p.1=k):valV (p::r) k=some p.2:=by simp [valV,List.find?_cons,e]
theorem u5T {p:κ×V}{r:List (κ×V)}{k:κ} (e:¬ p.1=k):valV (p::r) k=valV r k:=by simp [valV,List.find?_cons,e]
theorem u8y (k:κ):∀ kvs:List (κ×V),(kvs.any fun kv=>decide (kv.1=k))=(valV kvs k).isSome
 | []=>rfl
 | p::r=>by
  rw [List.any_cons]
  by_cases e:p.1=k
  ·simp only [u5S e,decide_eq_true e,Bool.true_or,Option.isSome_some]
  ·rw [u5T e,decide_eq_false e,Bool.false_or];exact u8y k r
theorem u4P (kvs:List (κ×V)) (k:κ) (v:V):(putK kvs k v).length≤kvs.length+1:=by
 unfold putK
 split
 ·rw [List.length_map];omega
 ·rw [List.length_append,List.length_cons,List.length_nil];omega
theorem RelO.isSome_eq {o:Option V}{u:Option Value} (r:RelO o u):o.isSome=u.isSome:=by
 cases o with
 | none=>cases u with
  | none=>rfl
  | some _=>exact (show False from r).elim
 | some _=>cases u with
  | none=>exact (show False from r).elim
  | some _=>rfl
theorem KV.val {kvs:List (κ×V)}{vs:List (κ×Value)} (r:KV kvs vs) (k:κ):RelO (valV kvs k) (valueAt vs k):=by
 unfold KV at r
 induction r with
 | nil=>exact True.intro
 | @cons p q ps qs h t ih =>
  obtain ⟨h1,h2⟩:=h
  by_cases e:p.1=k
  ·have e':q.1=k:=h1.symm.trans e
   have b:valueAt (q::qs) k=some q.2:=by simp [valueAt,List.find?_cons,e']
   rw [u5S e,b];exact h2
  ·have e':¬ q.1=k:=fun z=>e (h1.trans z)
   have b:valueAt (q::qs) k=valueAt qs k:=by simp [valueAt,List.find?_cons,e']
   rw [u5T e,b];exact ih
theorem KV.any {kvs:List (κ×V)}{vs:List (κ×Value)} (r:KV kvs vs) (k:κ):(kvs.any fun kv=>decide (kv.1=k))=vs.any fun kv=>decide (kv.1=k):=by
 unfold KV at r
 induction r with
 | nil=>rfl
 | cons h t ih=>rw [List.any_cons,List.any_cons,ih,h.1]
theorem KV.repl {kvs:List (κ×V)}{vs:List (κ×Value)} (r:KV kvs vs) (k:κ) {y:V}{u:Value} (ry:RelV y u) :
  KV (kvs.map fun kv=>if kv.1=k then (kv.1,y) else kv) (vs.map fun kv=>if kv.1=k then (kv.1,u) else kv):=by
 unfold KV at r ⊢
 induction r with
 | nil=>exact .nil
 | @cons p q ps qs h t ih =>
  rw [List.map_cons,List.map_cons]
  refine .cons ?_ ih
  obtain ⟨h1,h2⟩:=h
  by_cases e:p.1=k
  ·rw [if_pos e,if_pos (h1.symm.trans e)];exact ⟨h1,ry⟩
  ·rw [if_neg e,if_neg (fun z=>e (h1.trans z))];exact ⟨h1,h2⟩
theorem KV.put {kvs:List (κ×V)}{vs:List (κ×Value)} (r:KV kvs vs) (k:κ) {y:V}{u:Value} (ry:RelV y u):KV (putK kvs k y) (stored vs k u):=by
 unfold putK stored
 rw [r.any k]
 by_cases e:(vs.any fun kv=>decide (kv.1=k))=true
 ·rw [if_pos e,if_pos e];exact r.repl k ry
 ·rw [if_neg e,if_neg e];exact Paired.snoc r ⟨rfl,ry⟩
theorem KV.keys {kvs:List (κ×V)}{vs:List (κ×Value)} (r:KV kvs vs):kvs.map (·.1)=vs.map (·.1):=by
 unfold KV at r
 induction r with
 | nil=>rfl
 | cons h t ih=>rw [List.map_cons,List.map_cons,ih,h.1]
theorem KV.length {kvs:List (κ×V)}{vs:List (κ×Value)} (r:KV kvs vs):kvs.length=vs.length:=Paired.length r
end
theorem kV_is {P:Program}{w:World}{k:Key}{u:Value} (r:RelV (kV k) u):(mixKind P w).is k u=true:=by
 cases k with
 | inl i=>obtain ⟨t,e⟩:=(show ∃ t,u=Value.int i t from r);subst e;exact u3y P w i t
 | inr x=>obtain ⟨t,e⟩:=(show ∃ t,u=Value.str x t from r);subst e;exact u3x P w x t
theorem u7g {P:Program}{w:World}:∀ {ks:List Key}{us:List Value},Vals (ks.map kV) us→ItemsAre (mixKind P w) ks us
 | [],_,r=>by rw [List.map_nil] at r;cases r;exact .nil
 | k::ks,_,r=>by
  rw [List.map_cons] at r
  cases r with
  | cons h t=>exact .cons (kV_is h) (u7g t)
noncomputable abbrev KT (H:Hp):List (List Key×V)→List (List Key×Addr×Value)→Prop:=Paired fun p q=>p.1=q.1∧H q.2.1=some (.tup (p.1.map kV))∧RelV p.2 q.2.2
theorem KT.val {H:Hp}{kvs:List (List Key×V)}{xs:List (List Key×Addr×Value)} (r:KT H kvs xs) (k:List Key):RelO (valV kvs k) ((atKey xs k).map (·.2)):=by
 induction r with
 | nil=>exact True.intro
 | @cons p q ps qs h t ih =>
  obtain ⟨h1,_,h2⟩:=h
  by_cases e:p.1=k
  ·have e':q.1=k:=h1.symm.trans e
   have b:atKey (q::qs) k=some q.2:=by simp [atKey,List.find?_cons,e']
   rw [u5S e,b];exact h2
  ·have e':¬ q.1=k:=fun z=>e (h1.trans z)
   have b:atKey (q::qs) k=atKey qs k:=by simp [atKey,List.find?_cons,e']
   rw [u5T e,b];exact ih
theorem KT.repl {H:Hp}{kvs:List (List Key×V)}{xs:List (List Key×Addr×Value)} (r:KT H kvs xs) (k:List Key) {y:V}{u:Value} (ry:RelV y u) :
  KT H (kvs.map fun kv=>if kv.1=k then (kv.1,y) else kv) (xs.map (putAt k u)):=by
 induction r with
 | nil=>exact .nil
 | @cons p q ps qs h t ih =>
  rw [List.map_cons,List.map_cons]
  refine .cons ?_ ih
  obtain ⟨h1,h2,h3⟩:=h
  unfold putAt
  by_cases e:p.1=k
  ·rw [if_pos e,if_pos (h1.symm.trans e)];exact ⟨h1,h2,ry⟩
  ·rw [if_neg e,if_neg (fun z=>e (h1.trans z))];exact ⟨h1,h2,h3⟩
theorem KT.put {H:Hp}{kvs:List (List Key×V)}{xs:List (List Key×Addr×Value)} (r:KT H kvs xs) (k:List Key) {b:Addr}{y:V}{u:Value} (hb:H b=some (.tup (k.map kV))) (ry:RelV y u) :
  KT H (putK kvs k y) (storedH xs k b u):=by
 have e:(kvs.any fun kv=>decide (kv.1=k))=(atKey xs k).isSome:=by
  rw [u8y,(r.val k).isSome_eq,Option.isSome_map]
 unfold putK storedH
 rw [e]
 by_cases q:(atKey xs k).isSome=true
 ·rw [if_pos q,if_pos q];exact r.repl k ry
 ·rw [if_neg q,if_neg q];exact Paired.snoc r ⟨rfl,hb,ry⟩
theorem KT.keeps {H H':Hp}{kvs:List (List Key×V)}{xs:List (List Key×Addr×Value)} (r:KT H kvs xs) (ht:∀ b ys,H b=some (.tup ys)→H' b=some (.tup ys)):KT H' kvs xs :=
 Paired.mapP r fun _ _ z=>⟨z.1,ht _ _ z.2.1,z.2.2⟩
section
variable {P:Program}{w:World}{H:Hp}{h:Heap}{a:Addr}
theorem rd_of {u:HO} (ok:HOk P w H h) (e:Rd H a u):ObjOk P w H h a u:=e.ok ok
theorem dk_rd {kvs:List (Key×V)} (ok:HOk P w H h) (e:Rd H a (.dK kvs)):kvs.length≤sizeLine∧(a==sysModules)=false∧∃ vs,KV kvs vs∧h.DictOf (mixKind P w) a vs :=
 show ObjOk P w H h a (.dK kvs) from rd_of ok e
theorem dk_of {kvs:List (Key×V)} (ok:HOk P w H h) (e:H a=some (.dK kvs)):kvs.length≤sizeLine∧(a==sysModules)=false∧∃ vs,KV kvs vs∧h.DictOf (mixKind P w) a vs:=dk_rd ok (.inl e)
theorem v1d {ks:List Key} (ok:HOk P w H h) (e:H a=some (.tup (ks.map kV))):(tupleKind (mixKind P w)).is h ks a:=by
 obtain ⟨_,its,r,o,h1,h2,n,h3⟩:=(show ObjOk P w H h a (.tup (ks.map kV)) from ok a _ e)
 exact ⟨o,its.toArray,n,h1,h2,h3,by simpa using u7g r⟩
theorem dt_rd {kvs:List (List Key×V)} (ok:HOk P w H h) (e:Rd H a (.dT kvs)):kvs.length≤sizeLine∧(a==sysModules)=false ∧
  ∃ xs,KT H kvs xs∧h.DictOfH (tupleKind (mixKind P w)) a xs:=by
 obtain ⟨z,y,xs,r,o,es,ep,h1,h2,h3,h4,h5⟩:=(show ObjOk P w H h a (.dT kvs) from rd_of ok e)
 refine ⟨z,y,xs,r,o,es,ep,h1,h2,h3,h4,fun x hx=>?_,h5⟩
 have all:∀ {l:List (List Key×V)}{m:List (List Key×Addr×Value)},KT H l m→∀ x∈m,(tupleKind (mixKind P w)).is h x.1 x.2.1:=by
  intro l m q
  induction q with
  | nil=>intro x hx;exact nomatch hx
  | @cons p q ps qs hq t ih =>
   intro x hx
   rcases List.mem_cons.mp hx with e | hx
   ·subst e
    exact v1d ok (by rw [← hq.1];exact hq.2.1)
   ·exact ih x hx
 exact all r x hx
theorem dt_of {kvs:List (List Key×V)} (ok:HOk P w H h) (e:H a=some (.dT kvs)):kvs.length≤sizeLine∧(a==sysModules)=false ∧
  ∃ xs,KT H kvs xs∧h.DictOfH (tupleKind (mixKind P w)) a xs:=dt_rd ok (.inl e)
end
noncomputable def DGet (H:Hp) (a:Addr) (y:V) (r:Option V):Prop :=
 (∃ kvs k,Rd H a (.dK kvs)∧y=kV k∧r=valV kvs k)∨∃ kvs k b,Rd H a (.dT kvs)∧y=.ref b∧H b=some (.tup (k.map kV))∧r=valV kvs k
noncomputable def DPut (H:Hp) (a:Addr) (y v:V) (H':Hp):Prop :=
 (∃ kvs k,H a=some (.dK kvs)∧y=kV k∧kvs.length<sizeLine∧H'=upd H a (.dK (putK kvs k v))) ∨
 ∃ kvs k b,H a=some (.dT kvs)∧y=.ref b∧H b=some (.tup (k.map kV))∧kvs.length<sizeLine∧H'=upd H a (.dT (putK kvs k v))
theorem DGet.k {H:Hp}{a:Addr}{kvs:List (Key×V)}{k:Key} (e:H a=some (.dK kvs)):DGet H a (kV k) (valV kvs k):=.inl ⟨kvs,k,.inl e,rfl,rfl⟩
theorem DPut.k {H:Hp}{a:Addr}{kvs:List (Key×V)}{k:Key}{v:V} (e:H a=some (.dK kvs)) (hl:kvs.length<sizeLine):DPut H a (kV k) v (upd H a (.dK (putK kvs k v))):=.inl ⟨kvs,k,e,rfl,hl,rfl⟩
section
variable {X:Cx}{pins:List (Addr×Obj)}{σ:St}{H:Hp}{s:Shared}{a:Addr}{y v:V}{u r:Value}{o:Option V}{A:Around}{E:Value→Shared→Prop}
theorem Inv.big (I:Inv X pins σ H s):sysModules<s.heap.objs.size:=by
 have h:mainGlobals<s.heap.objs.size:=(I.mod.glob.keeps I.bk).lt
 exact Nat.lt_trans (by decide) h
theorem d_in {Q:Value→Shared→Prop} (hu:A.units+1<cLine) (I:Inv X pins σ H s) (g:DGet H a y o) (ry:RelV y u) (h:∀ s',Inv X pins σ H s'→Q (.bool o.isSome) s') :
  wpAny (model X.prog X.w) A (compareOp .In u (.ref a)) Q E s:=by
 rcases g with ⟨kvs,k,e,ey,l⟩ | ⟨kvs,k,b,e,ey,eb,l⟩
 ·subst ey
  obtain ⟨z,hd,vs,rel,dd⟩:=dk_rd I.hok e
  refine wpAny_in_of (kV_is ry) hd dd.mapOf ?_
  rw [← (rel.val k).isSome_eq,← l]
  exact h _ (I.tok _)
 ·subst ey
  cases (show u=Value.ref b from ry)
  obtain ⟨z,hd,xs,rel,dd⟩:=dt_rd I.hok e
  refine wpAny_in_heap (tupleKind_room_in1 hu) (v1d I.hok eb) hd dd ?_
  have q:=(rel.val k).isSome_eq
  rw [Option.isSome_map] at q
  rw [← q,← l]
  exact h _ (I.tok _)
theorem u8u {h':Heap}{t':Nat}{ob:HO} (I:Inv X pins σ H s) (mu:Mut (H a)) (hs:Heap.SameBut a s.heap h') (he:∃ q,h'.get? a=some q) (new:ObjOk X.prog X.w (upd H a ob) h' a ob) :
  Inv X pins σ (upd H a ob) { s with heap:=h',toks:=t' } :=
 I.write (x:=a) (e:=a) mu (.inl rfl) (fun b q hb z=>(hs.2 b hb).trans z) he new
theorem dk_new {P:Program}{w:World}{H':Hp}{h':Heap}{kvs:List (Key×V)}{vs:List (Key×Value)} (z:kvs.length≤sizeLine) (hd:(a==sysModules)=false) (rel:KV kvs vs) (dd:h'.DictOf (mixKind P w) a vs) :
  ObjOk P w H' h' a (.dK kvs):=⟨z,hd,vs,rel,dd⟩
theorem v1L {H':Hp}{Q:Unit→Shared→Prop} (hu:A.units+1<cLine) (I:Inv X pins σ H s) (g:DPut H a y v H') (ry:RelV y u) (rv:RelV v r) (h:∀ s',Inv X pins σ H' s'→Q () s') :
  wpAny (model X.prog X.w) A (setItem (.ref a) u r) Q E s:=by
 rcases g with ⟨kvs,k,e,ey,l,eH⟩ | ⟨kvs,k,b,e,ey,eb,l,eH⟩
 ·subst ey eH
  obtain ⟨z,hd,vs,rel,dd⟩:=dk_of I.hok e
  have hz:vs.length≤sizeLine:=by rw [← rel.length];exact z
  have hl:(putK kvs k v).length≤sizeLine:=by have:=u4P kvs k v;omega
  refine wpAny_setItem_pairs (hsz:=hz) (kV_is ry) dd fun h' dd' hs=>h _ ?_
  have he:∃ q,h'.get? a=some q:=let ⟨q,_,_,hq,_⟩:=dd';⟨q,hq⟩
  exact u8u I (by rw [e];exact True.intro) hs he (dk_new hl hd (rel.put k rv) dd')
 ·subst ey eH
  cases (show u=Value.ref b from ry)
  obtain ⟨z,hd,xs,rel,dd⟩:=dt_of I.hok e
  have hz:xs.length≤sizeLine:=by rw [← Paired.length rel];exact z
  have hl:(putK kvs k v).length≤sizeLine:=by have:=u4P kvs k v;omega
  refine wpAny_setItem_heap (hsz:=hz) (tupleKind_room_in1 hu) (v1d I.hok eb) dd fun h' dd' hs=>h _ ?_
  obtain ⟨q,es,ep,hq,h2,h3,h4,_,h5⟩:=dd'
  refine u8u I (by rw [e];exact True.intro) hs ⟨q,hq⟩ ⟨hl,hd,_,(rel.put k eb rv).keeps fun c ys ec=>?_,q,es,ep,hq,h2,h3,h4,h5⟩
  rw [u0r (ne_of ec e (fun z=>nomatch z))]
  exact ec
end
section
variable {X:Cx}{pins:List (Addr×Obj)}{σ:St}{H:Hp}{s:Shared}{a:Addr}{kvs:List (Key×V)}{k:Key}{u:Value}{A:Around}{E:Value→Shared→Prop}
end
noncomputable def sDPut (td ty tv:TE):TS:=fun D σ H=>tv σ H fun v H1=>td σ H1 fun x H2=>ty σ H2 fun y H3=>∃ a H4,x=.ref a∧DPut H3 a y v H4∧D.nx σ H4
section
variable {X:Cx}{o i e value:Expr}{pos pos' tpos:Pos}{td ty tv:TE}
theorem ps_dput (hu:X.A.units+1<cLine) (ho:PE X o td) (hi:PE X i ty) (hv:PE X value tv) (hs:swapsWith value (some (.Subscript o i pos')) pos.line X.env=pure false) :
  PS X (.Assign [.Subscript o i pos'] value pos) (sDPut td ty tv):=by
 intro pins s σ H D I h
 refine wpAny_Assign_Subscript (thn (hv pins s σ H _ I h) fun r s1 ⟨v,H1,I1,rv,q1⟩=>thn (ho pins s1 σ H1 _ I1 q1) fun u s2 ⟨x,H2,I2,rx,q2⟩=>thn (hi pins s2 σ H2 _ I2 q2) fun iv s3 ⟨y,H3,I3,ry,a,H4,ex,g,q3⟩=>?_) hs
 subst ex
 obtain rfl:u=Value.ref a:=rx
 exact v1L hu I3 g ry rv fun s4 I4=>⟨σ,H4,I4,q3⟩
end
theorem u9g {P:Program}{w:World}{H:Hp} (h:Heap) (hb:sysModules<h.objs.size):ObjOk P w H (h.push { cls:=.type "dict",data:=.dict #[] }) h.objs.size (.dK []) :=
 ⟨Nat.zero_le _,beq_eq_false_iff_ne.mpr (Ne.symm (Nat.ne_of_lt hb)),[],.nil,Heap.DictOf.new h⟩
noncomputable def tDNewK:TE:=fun _ H Q=>∀ p,H p=none→Q (.ref p) (upd H p (.dK []))
section
variable {X:Cx}{pos:Pos}
theorem v2z:PE X (.Dict [] [] pos) tDNewK:=fun pins s σ H Q I h =>
 wpAny_Dict_empty ⟨.ref s.heap.objs.size,_,I.laid (a:=s.heap.objs.size) (o:=.dK []) (t':=s.toks) (fun _ _ q=>Heap.get?_push_of_some _ q) (Nat.le_refl _) (u9g s.heap I.big),rfl,h _ (I.hok.fresh (Nat.le_refl _))⟩
end
section
variable {X:Cx}{pins:List (Addr×Obj)}{σ:St}{H:Hp}{s:Shared}{a:Addr}{y d:V}{u r:Value}{o:Option V}{A:Around}{E:Value→Shared→Prop}
end
section
variable {X:Cx}{o e f:Expr}{apos cpos:Pos}{td ty tx:TE}
end
section
variable {X:Cx}{pins:List (Addr×Obj)}{σ:St}{H:Hp}{s:Shared}{a:Addr}{kvs:List (Key×V)}{A:Around}{E:Value→Shared→Prop}
end
section
variable {X:Cx}{pins:List (Addr×Obj)}{σ:St}{H:Hp}{s:Shared}{a:Addr}{y:V}{u:Value}{A:Around}{E:Value→Shared→Prop}
end
end L2
namespace Att
open PySem PySem.W PySem.Calls PyProof.Rows
section
variable {prog:Program}{w:World}{A:Around}{E:Value→Shared→Prop}{s:Shared}{K:Frag}
end
end Att
namespace L2
open PySem PySem.Spec PyProof.Rows
end L2
namespace L2
open PySem PySem.Spec PyProof.Rows
section
variable {P:Program}{w:World}{K:PySem.W.Frag}{mg:Str→Option Value}{base:Heap}
end
section
variable {X:Cx}
end
section
variable {κ:Type} [DecidableEq κ]
end
structure JE (X:Cx) (e:Expr) (t:TE):Prop where
 out:PE X e t
structure JS (X:Cx) (s:Stmt) (t:TS):Prop where
 out:PS X s t
structure JB (X:Cx) (s:List Stmt) (t:TS):Prop where
 out:PSs X s t
section
variable {X:Cx}{a b c e o:Expr}{es rest:List Expr}{ta tb tc te to:TE}{t u:TS}{tA tB':TT}{pos pos' p apos cpos:Pos}{x name:Str}{tr:TA}{v:V}{i:Nat}
theorem ev (i:Nat) {x:Str}{pos:Pos} (hN:X.N[i]?=some x:=by rfl) (hv:Vis X.env.scope x:=by first | exact Or.inl rfl | exact Or.inr (Or.inl rfl) | exact Or.inr (Or.inr rfl)) (hd:(x==("__debug__":Str))=false:=by decide)
  (hcd:(x==("__classdict__":Str))=false:=by decide):JE X (.Name x pos) (tVar i):=⟨u4h hN hv hd hcd⟩
variable {tg l:Expr}{tl:TE}
variable {st:Stmt}{sts:List Stmt}
theorem v1X (h1:JS X st t):JB X [st] t:=⟨v0P h1.out⟩
end
section
variable {P:Program}{w:World}{K:PySem.W.Frag}{mg:Str→Option Value}{base:Heap}
theorem Fun.okJ {x qual:Str}{st:Stmt}{f:Addr}{fd:FuncData}{N ps:List Str}{k:Nat}{sp:Sp} (F:Fun K x qual st f fd) (S:FnScope N ps (defScope st)) (len:∀ vs H Q E,sp vs H Q E→vs.length=ps.length)
  (hbody:∀ (cdv:Value) (A:Around) (outer:List Env) (s:Shared) (H:Hp) (vs:List V) (Q:VK) (E:XK),Room k (A.deeper (envOfC qual (defScope st) s.heap.objs.size f cdv))→sp vs H Q E →
   ∃ t,JB (cxOf CX0 P w K mg base N qual (defScope st) f cdv A outer s H E).nox (defBody st) t∧t { nx:=fun _ H'=>Q .non H',rt:=Q } (start N vs) H):FnOk P w K mg base CX0 (k+1) f fd ps sp :=
 F.ok S len fun cdv A outer s H vs Q E hr h=>let ⟨t,a,b⟩:=hbody cdv A outer s H vs Q E hr h;⟨t,a.out,b⟩
end
end L2
namespace KW
open PySem L2 PySem.Spec PyProof.Rows
end KW
namespace L2
open PySem PySem.Spec PyProof.Rows
section
variable {X:Cx}
end
noncomputable def cutC {α:Type} (xs:List α) (lo hi:Option Int):List α:=(xs.drop (HT.sIx xs.length 0 lo)).take (HT.sIx xs.length xs.length hi - HT.sIx xs.length 0 lo)
theorem v2s (a b:Nat):sliceRange (a:Int) (b:Int) 1=(List.range (b - a)).map (fun k=>a+k):=by
 unfold sliceRange
 have h:(if (1:Int) > 0 then (if (a:Int)<b then ((b:Int) - a+1 - 1) / 1 else 0) else (if (a:Int) > b then ((a:Int) - b - 1 - 1) / (-1) else 0)).toNat=b - a:=by
  rw [if_pos (by decide)]
  by_cases h:(a:Int)<b
  ·rw [if_pos h];omega
  ·rw [if_neg h];omega
 simp only [h]
 refine List.map_congr_left fun k _=>?_
 omega
theorem u9l (v:Int) (n d:Nat):max 0 (min (if v<0 then v+(n:Int) else v) (n:Int))=((HT.sIx n d (some v):Nat):Int):=by
 show max 0 (min (if v<0 then v+(n:Int) else v) (n:Int))=(((if v<0 then (v+(n:Int)).toNat else min v.toNat n):Nat):Int)
 by_cases hv:v<0
 ·simp only [if_pos hv];omega
 ·simp only [if_neg hv];omega
theorem u7R (l u:Option Int) (n:Nat):Builtin.Str.strSliceIndices l u 1 n=(List.range (HT.sIx n n u - HT.sIx n 0 l)).map (fun k=>HT.sIx n 0 l+k):=by
 rw [← v2s]
 unfold Builtin.Str.strSliceIndices
 simp only [show ((1:Int) > 0)=True from by simp,if_true]
 congr 1
 ·cases l with
  | none=>rfl
  | some v=>exact u9l v n 0
 ·cases u with
  | none=>rfl
  | some v=>exact u9l v n n
theorem v0C (z:Str) (l u:Option Int):(Txt.slice z l u).cps.toList=cutC z.cps.toList l u:=by
 have hn:z.cps.toList.length=z.length:=by rw [Array.length_toList];rfl
 have hl:HT.sIx z.length 0 l≤z.length:=HT.sIx_le _ 0 (Nat.zero_le _) l
 have hu:HT.sIx z.length z.length u≤z.length:=HT.sIx_le _ _ (Nat.le_refl _) u
 unfold Txt.slice cutC
 rw [u7R,hn]
 split
 ·rename_i h
  simp only [beq_self_eq_true,Bool.true_and,List.length_map,List.length_range,beq_iff_eq] at h
  have e1:HT.sIx z.length 0 l=0:=by omega
  have e2:HT.sIx z.length z.length u=z.length:=by omega
  rw [e1,e2,List.drop_zero,Nat.sub_zero,List.take_of_length_le (by omega)]
 ·by_cases h:HT.sIx z.length 0 l≤HT.sIx z.length z.length u
  ·have h2:=StrLaws.picks z.cps.toList (HT.sIx z.length z.length u - HT.sIx z.length 0 l) (HT.sIx z.length 0 l) (by omega)
   rw [← h2]
   show List.filterMap (fun x=>z.cps[x]?) _=_
   have e:(fun x=>z.cps[x]?)=(fun x:Nat=>z.cps.toList[x]?):=by funext i;simp
   rw [e]
  ·have e:HT.sIx z.length z.length u - HT.sIx z.length 0 l=0:=by omega
   rw [e,List.take_zero];rfl
theorem sIx_one (n d:Nat):HT.sIx n d (some 1)=min 1 n:=HT.sIx_nat n d 1
theorem u9y (z:Str):(Txt.slice z (some 1) none).cps.toList=z.cps.toList.drop 1:=by
 rw [v0C]
 unfold cutC
 rw [sIx_one,HT.sIx_none]
 by_cases h:1≤z.cps.toList.length
 ·rw [Nat.min_eq_left h,List.take_of_length_le (by rw [List.length_drop];omega)]
 ·have e:z.cps.toList=[]:=List.eq_nil_of_length_eq_zero (by omega)
  rw [e];rfl
section
variable {X:Cx}{K:PySem.W.Frag}
end
noncomputable abbrev bmV:List Value:=[.type "ValueError",.type "Exception",.type "BaseException",.type "object"]
noncomputable abbrev tupO (vs:List Value):Obj:={ cls:=.type "tuple",data:=.seq vs.toArray }
noncomputable abbrev excO (C t:Addr) (dx:Option Addr):Obj:={ cls:=.ref C,dict:=dx,data:=.fields #[.ref t,.none,.none,.none,.bool false,.none] }
noncomputable def onlyV:List Value→Bool
 | .ref _::r=>onlyV r
 | l=>l==bmV
noncomputable def xcB (K:PySem.W.Frag) (C f:Addr):Bool:=match K.lookup C with
 | some ⟨.type "type",_,.cls cd,sl⟩=>(match cd.mro,sl.toList with
  | .ref C'::bm,[_,_,_,_,some (.builtin n),_]=>C'==C&&n=="ValueError.__new__"&&!cd.hasDel&&PySem.W.tailIn K bmV bm&&cd.hasDict &&
    PySem.W.findIn K (.ref C) "__init__"==some (some (.ref f))&&PySem.W.typeIn K (.ref f)==some (.type "function")&&PySem.W.findIn K (.ref C) "__getattribute__"==some (some (.builtin "BaseException.__getattribute__")) &&
    PySem.W.findIn K (.ref C) "__setattr__"==some (some (.builtin "object.__setattr__"))&&PySem.W.findIn K (.ref C) "__getattr__"==some none&&PySem.W.keepIn K (.ref C)&&onlyV bm &&
    PySem.W.findIn K (.ref C) "__class__"==some (some (.builtin "object.__class__"))&&PySem.W.specialIn K (.builtin "object.__class__") "__get__"==some (some (.builtin "getset_descriptor.__get__"))&&PySem.W.takesIn K (.builtin "object.__class__")==some true&&PySem.W.mroIn K C (.type "object")==some true
  | _,_=>false)
 | _=>false
structure XCls (K:PySem.W.Frag) (C f:Addr):Prop where
 obj:∃ bm N nm q bs sn sub ab col dd k0 k1 k2 k3 k5,K.lookup C=some (excClassObj nm q C N bs bm true sn sub ab col dd k0 k1 k2 k3 k5 "ValueError.__new__")∧PySem.W.tailIn K bmV bm=true
 init:PySem.W.findIn K (.ref C) "__init__"=some (some (.ref f))
 fn:PySem.W.typeIn K (.ref f)=some (.type "function")
 ga:PySem.W.findIn K (.ref C) "__getattribute__"=some (some (.builtin "BaseException.__getattribute__"))
 sa:PySem.W.findIn K (.ref C) "__setattr__"=some (some (.builtin "object.__setattr__"))
 gt:PySem.W.findIn K (.ref C) "__getattr__"=some none
 kp:PySem.W.keepIn K (.ref C)=true
 ov:∃ cd,PySem.W.clsIn K C=some cd∧onlyV cd.mro=true∧cd.hasDict=true
 cl:PySem.W.findIn K (.ref C) "__class__"=some (some (.builtin "object.__class__"))
 cg:PySem.W.specialIn K (.builtin "object.__class__") "__get__"=some (some (.builtin "getset_descriptor.__get__"))
 ct:PySem.W.takesIn K (.builtin "object.__class__")=some true
 co:PySem.W.mroIn K C (.type "object")=some true
theorem u4E {K:PySem.W.Frag}{C f:Addr} (e:xcB K C f=true):XCls K C f:=by
 unfold xcB at e
 split at e
 ·rename_i dd cd sl ho
  split at e
  ·rename_i C' bm k0 k1 k2 k3 n k5 hm hs
   simp only [Bool.and_eq_true,beq_iff_eq,Bool.not_eq_true'] at e
   obtain ⟨⟨⟨⟨⟨⟨⟨⟨⟨⟨⟨⟨⟨⟨⟨rfl,rfl⟩,hdel⟩,ht⟩,hdi⟩,e1⟩,e2⟩,e3⟩,e4⟩,e5⟩,e6⟩,e7⟩,e8⟩,e9⟩,e10⟩,e11⟩:=e
   obtain ⟨nm,bs,mro,ns,qn,hd,sn,sub,ab,col,del⟩:=cd
   dsimp only at hm hdel hdi
   subst hm hdel hdi
   have hsl:sl=#[k0,k1,k2,k3,some (.builtin "ValueError.__new__"),k5]:=by
    obtain ⟨l⟩:=sl
    simp only at hs
    rw [hs]
   subst hsl
   exact ⟨⟨bm,ns,nm,qn,bs,sn,sub,ab,col,dd,k0,k1,k2,k3,k5,ho,ht⟩,e1,e2,e3,e4,e5,e6,⟨_,by unfold PySem.W.clsIn;rw [ho],by show onlyV bm=true;exact e7,rfl⟩,e8,e9,e10,e11⟩
  ·cases e
 ·cases e
section
variable {prog:Program}{w:World}{A:Around}{K:PySem.W.Frag}{C f:Addr}{h:Heap}{g:Array GenState}{d:Drawn}{t:Nat}{os:OsState}{R:Result→Shared→Prop}
theorem v3b {rest:List Value} (X:K.In h) (c:XCls K C f) (hz:rest.length≤sizeLine)
  (hq:codeAny (model prog w) (A.under (.builtin "type.__call__" ⟨.ref C::rest,[]⟩)) (.call (.ref f) ⟨.ref (h.objs.size+1)::rest,[]⟩) (PySem.W.InitBack (h.objs.size+1) R) ⟨(h.push (tupO rest)).push (excO C h.objs.size none),g,d,t,os⟩) :
  codeAny (model prog w) A (.call (.ref C) ⟨rest,[]⟩) R ⟨h,g,d,t,os⟩:=by
 obtain ⟨bm,N,nm,q,bs,sn,sub,ab,col,dd,k0,k1,k2,k3,k5,hK,ht⟩:=c.obj
 have T:=PySem.W.tail_of_in X ht
 have hC:=X _ _ hK
 have FV:=PySem.F.excBase_ValueError
 have b1:=tc_lookup
 have b2:=tc_bind (.ref C)
 have b3:(⟨h,g,d,t,os⟩:Shared).TypeIs (.ref C) "type":=⟨_,hC,rfl⟩
 refine codeAny_of_tree ?_
 show wpAny _ _ (callAny (.ref C) _) _ _ _
 repeat (any_goals (first | assumption | with_reducible refine wpAny_loadPart_at hC ?_ | wp_step))
 refine ⟨rfl,?_⟩
 refine codeAny_call_builtin_at (Code.quiet_builtin _ (by decide +kernel)) entry_typeCall (wpAny_check_type_call_sub hC ?_)
 repeat (first | with_reducible refine wpAny_loadPart_at hC ?_ | with_reducible refine wpAny_madeBy_exc hC ?_ | wp_step)
 refine codeAny_call_builtin_code (Code.quiet_builtin _ FV.quiet) (wpAny_check_new_subU FV (by decide +kernel) T hC ?_)
 refine codeAny_exc_new_subU FV (by decide +kernel) FV T hC ?_ hz
 show wpAny _ (A.under (Code.builtin "type.__call__" ⟨Value.ref C::rest,[]⟩)) _ _ _ ⟨(h.push (tupO rest)).push (excO C h.objs.size none),g,d,t,os⟩
 have hk:∀ b o,h.get? b=some o→((h.push (tupO rest)).push (excO C h.objs.size none)).get? b=some o:=fun b o e=>Heap.get?_push_of_some _ (Heap.get?_push_of_some _ e)
 have X1:K.In ((h.push (tupO rest)).push (excO C h.objs.size none)):=X.keeps hk
 have hg:((h.push (tupO rest)).push (excO C h.objs.size none)).get? (h.objs.size+1)=some (excO C h.objs.size none):=by heap_get
 have ty:PySem.W.Looks (model prog w) ((h.push (tupO rest)).push (excO C h.objs.size none)) (typeOf (.ref (h.objs.size+1))) (.ref C):=(PySem.W.Looks.ld hg).andThen .now
 have hcC:(Value.ref C::bm).contains (.ref C)=true:=by simp
 have su:PySem.W.Looks (model prog w) ((h.push (tupO rest)).push (excO C h.objs.size none)) (isSubtype (.ref C) (.ref C)) true:=PySem.W.looks_mroIn X1 (by unfold PySem.W.mroIn PySem.W.clsIn;rw [hK];exact congrArg some hcC)
 have li:=PySem.W.looks_findIn (M:=model prog w) X1 c.init
 have lb:=PySem.W.bind_fn (M:=model prog w) X1 (.ref (h.objs.size+1)) c.fn
 unfold isInstance callSpecial? specialOf
 repeat (first | with_reducible refine wpAny_call ?_ | lk)
 refine codeAny_mono hq fun r s' z=>?_
 rcases r with e | (v | _ | _ | _) <;> first | exact z | exact z.elim | skip
 obtain ⟨rfl,z⟩:=z
 exact wpAny_pure (wpAny_pure z)
end
theorem u6c (self:Value):∀ {l:List Value},onlyV l=true→refuseLoop self "__setattr__" l=pure ()
 | .ref c::r,e=>by
  rw [refuseLoop_ref]
  exact u6c self (l:=r) (by unfold onlyV at e;exact e)
 | [],e=>by cases (beq_iff_eq.mp (show (([]:List Value)==bmV)=true from e))
 | v::r,e=>by
  cases v <;> first
   | (unfold onlyV at e;rw [beq_iff_eq.mp e];kernel_rfl)
   | (rw [refuseLoop_ref];exact u6c self (l:=r) (by unfold onlyV at e;exact e))
theorem u3l:∀ {l:List Value},onlyV l=true→l.contains (.type "BaseException")=true
 | .ref c::r,e=>by
  rw [List.contains_cons,u3l (l:=r) (by unfold onlyV at e;exact e),Bool.or_true]
 | [],e=>by cases (beq_iff_eq.mp (show (([]:List Value)==bmV)=true from e))
 | v::r,e=>by
  cases v <;> first
   | (unfold onlyV at e;rw [beq_iff_eq.mp e];decide +kernel)
   | (rw [List.contains_cons,u3l (l:=r) (by unfold onlyV at e;exact e),Bool.or_true])
theorem u4L:∀ {l:List Value},onlyV l=true→l.contains (.type "object")=true
 | .ref c::r,e=>by
  rw [List.contains_cons,u4L (l:=r) (by unfold onlyV at e;exact e),Bool.or_true]
 | [],e=>by cases (beq_iff_eq.mp (show (([]:List Value)==bmV)=true from e))
 | v::r,e=>by
  cases v <;> first
   | (unfold onlyV at e;rw [beq_iff_eq.mp e];decide +kernel)
   | (rw [List.contains_cons,u4L (l:=r) (by unfold onlyV at e;exact e),Bool.or_true])
noncomputable def ExAt (h:Heap) (e C:Addr) (dx:Option Addr):Prop:=∃ t f1 f2 f3 f4 f5 sl,h.get? e=some { cls:=.ref C,dict:=dx,data:=.fields #[.ref t,f1,f2,f3,f4,f5],slots:=sl }
section
variable {prog:Program}{w:World}{A:Around}{E:Value→Shared→Prop}{s:Shared}{K:PySem.W.Frag}{e C f:Addr}{name:Str}{v:Value}{R:Result→Shared→Prop}
theorem exc_osa {ox:Obj}{od:Option Obj}{tk:Tok} (X:K.In s.heap) (c:XCls K C f) (I:PySem.W.InstAt s.heap e ox C od) (hn:PySem.W.findIn K (.ref C) name=some none)
  (h:∀ b,wpAny (model prog w) A.in1 (Builtin.ObjectAttr.storeInOwnDict (.ref e) (.ref C) (.str name tk) name v b)
   (fun fin s'=>match fin with | .done f=>R (.ok f) s' | .again c'=>c'.quiet=true∧codeAny (model prog w) A c' R s') (fun x s'=>R (.error x) s') s) :
  codeAny (model prog w) A (.call (.builtin "object.__setattr__") ⟨[.ref e,.str name tk,v],[]⟩) R s:=by
 have SF:=PySem.F.store_object
 obtain ⟨cd,hc,ho,_⟩:=c.ov
 have ne:cd.mro.isEmpty=false:=by
  cases q:cd.mro with
  | nil=>rw [q] at ho;cases (beq_iff_eq.mp (show (([]:List Value)==bmV)=true from ho))
  | cons _ _=>rfl
 have sub:PySem.W.Looks (model prog w) s.heap (isInstance (.ref e) (.type "object")) true :=
  I.type.andThen (PySem.W.looks_mroIn X (by unfold PySem.W.mroIn;rw [hc,Option.bind_some,if_neg (by rw [ne];decide),u4L ho]))
 refine codeAny_call_builtin SF.slot.plain SF.entry (@PySem.W.check_slot (model prog w) _ _ s "object.__setattr__" "object" "__setattr__" (.ref e) [.str name tk,v] [] _ SF.kind SF.split sub (SF.args (.ref e) (.str name tk) v) ?_)
 have hm:PySem.W.Looks (model prog w) s.heap (mroOf (.ref C)) cd.mro:=(PySem.W.looks_clsIn X hc).andThen .now
 rw [PySem.W.osa_eq,refuse_eq]
 refine wpAny_bind (wpAny_bind (I.type.here (wpAny_bind (hm.here ?_))))
 rw [u6c _ ho]
 refine wpAny_pure (wpAny_bind (I.type.here (wpAny_bind ((PySem.W.looks_findIn X hn).here (wpAny_bind (wpAny_pure (a:=none) ?_))))))
 exact h _
set_option maxHeartbeats 4000000 in
theorem exc_get {Q:Value→Shared→Prop}{expr:Bool}{dx:Addr}{mA:Str→Option Value} (X:K.In s.heap) (c:XCls K C f) (he:ExAt s.heap e C (some dx)) (hm:s.heap.Ns1 dx mA) (hn:PySem.W.findIn K (.ref C) name=some none) (hv:mA name=some v)
  (hv':PySem.W.handedIn v=true) (h:Q v { s with toks:=s.toks+1 }):wpAny (model prog w) A (getAttr (.ref e) name expr) Q E s:=by
 obtain ⟨t,f1,f2,f3,f4,f5,sl,he⟩:=he
 obtain ⟨od,hod,hl⟩:=u7a hm
 have I:PySem.W.InstAt s.heap e _ C (some od):=⟨he,rfl,rfl,hod⟩
 obtain ⟨cd,hc,ho,hd⟩:=c.ov
 have L0:=I.type (M:=model prog w)
 have L1:=PySem.W.looks_findIn (M:=model prog w) X c.ga
 have L2:=PySem.W.looks_findIn (M:=model prog w) X c.gt
 have hf:PySem.W.findObj K C (some od) name=some (.value v):=by
  unfold PySem.W.findObj
  rw [hc,Option.bind_some,hn,Option.bind_some,Option.bind_some,Option.bind_some]
  show ((PySem.W.ownOf cd (some od) name).bind _)=_
  unfold PySem.W.ownOf
  rw [if_pos hd]
  show ((PySem.W.lookIn name od).bind _)=_
  rw [hl,hv]
  rfl
 have L3:=PySem.W.looks_find (M:=model prog w) X I hf
 obtain ⟨hh,g,d,tt,os⟩:=s
 unfold getAttr getAttrBy
 refine wpAny_bind (wpAny_mkText (wpAny_holding (wpAny_bind (L0.at (wpAny_bind (L1.at ?_))))))
 have FA:=PySem.F.attr_ValueError
 have ne:cd.mro.isEmpty=false:=by
  cases q:cd.mro with
  | nil=>rw [q] at ho;cases (beq_iff_eq.mp (show (([]:List Value)==bmV)=true from ho))
  | cons _ _=>rfl
 have sub:PySem.W.Looks (model prog w) hh (isInstance (.ref e) (.type "BaseException")) true :=
  L0.andThen (PySem.W.looks_mroIn X (by unfold PySem.W.mroIn;rw [hc,Option.bind_some,if_neg (by rw [ne];decide),u3l ho]))
 show wpAny _ _ (getAttrByItsOwn _ _ _ _ _ _) _ _ _
 unfold getAttrByItsOwn
 refine wpAny_bind (L2.at ?_)
 refine wpAny_bind (wpAny_attempt ?_)
 have hx0:(expr&&onTheHeap (Value.builtin "BaseException.__getattribute__"))=false:=by cases expr <;> rfl
 unfold callGetattribute
 rw [if_neg (by rw [hx0];exact Bool.false_ne_true)]
 refine wpAny_holding ?_
 unfold boundAndCalled
 rw [FA.ga.bind]
 refine wpAny_bind (wpAny_pure (wpAny_call ?_))
 refine codeAny_call_builtin FA.ga.plain F.entry_bexc_ga (@PySem.W.check_slot (model prog w) _ _ ⟨hh,g,d,tt+1,os⟩ "BaseException.__getattribute__" "BaseException" "__getattribute__" (.ref e) [.str name tt] [] _ (by decide +kernel) (by decide +kernel) sub (F.args_bexc_ga (.ref e) (.str name tt)) ?_)
 show wpAny _ _ (Builtin.«object.__getattribute__» ⟨[.ref e,.str name tt],[]⟩) _ _ _
 unfold Builtin.«object.__getattribute__»
 refine wpAny_bind (wpAny_pure (a:=(Value.ref e,[Value.str name tt])) (wpAny_bind (wpAny_pure (a:=name) (wpAny_bind (L0.at (wpAny_bind (L3.at ?_)))))))
 refine wpAny_pure ?_
 show wpAny _ _ (handedOut v) _ _ _
 rw [PySem.W.handedOut_of hv']
 exact wpAny_pure h
end
noncomputable def XO (C:Addr) (dx:Option Addr) (e:Addr):HO:=.ext fun h=>ExAt h e C dx
noncomputable def DXO (dx:Addr) (fs:List (Str×V)):HO:=.ext fun h=>∃ mA,h.Ns1 dx mA∧(∀ f,RelO (fs.lookup f) (mA f))∧PySem.Within mA (fs.map (·.1))
section
variable {P:Program}{w:World}{H:Hp}{h:Heap}{e C dx:Addr}{d:Option Addr}{fs:List (Str×V)}
theorem xo_ok (x:ExAt h e C d):ObjOk P w H h e (XO C d e) :=
 ⟨x,let ⟨_,_,_,_,_,_,_,q⟩:=x;⟨_,q⟩,fun h1 h2 ⟨t,f1,f2,f3,f4,f5,sl,q⟩ k=>⟨t,f1,f2,f3,f4,f5,sl,k _ q⟩⟩
theorem v3s {mA:Str→Option Value} (n:h.Ns1 dx mA) (r:∀ f,RelO (fs.lookup f) (mA f)) (z:PySem.Within mA (fs.map (·.1))):ObjOk P w H h dx (DXO dx fs) :=
 ⟨⟨mA,n,r,z⟩,let ⟨o,_,_,q,_⟩:=n;⟨o,q⟩,fun h1 h2 ⟨m,a,b,c⟩ k=>⟨m,a.at k,b,c⟩⟩
theorem v0q (x:HOk P w H h) (q:H e=some (XO C d e)):ExAt h e C d:=(show ObjOk P w H h e (XO C d e) from x e _ q).1
theorem dxo_at (x:HOk P w H h) (q:H dx=some (DXO dx fs)):∃ mA,h.Ns1 dx mA∧(∀ f,RelO (fs.lookup f) (mA f))∧PySem.Within mA (fs.map (·.1)):=(show ObjOk P w H h dx (DXO dx fs) from x dx _ q).1
end
section
variable {X:Cx}{pins:List (Addr×Obj)}{σ:St}{H:Hp}{s:Shared}{a C dx fI:Addr}{fs:List (Str×V)}{f:Str}{v:V}{A:Around}{E:Value→Shared→Prop}
theorem xget_ok {b:Bool}{Q:Value→Shared→Prop} (I:Inv X pins σ H s) (e:H a=some (XO C (some dx) a)) (ed:H dx=some (DXO dx fs)) (c:XCls X.K C fI) (n:NoAttr X.K C f) (l:fs.lookup f=some v)
  (h:∀ u s',Inv X pins σ H s'→RelV v u→Q u s'):wpAny (model X.prog X.w) A (getAttr (.ref a) f b) Q E s:=by
 obtain ⟨mA,nA,r,_⟩:=dxo_at I.hok ed
 obtain ⟨u,hu,ru⟩:=RelO.some_of (v:=v) (o:=mA f) (by rw [← l];exact r f)
 exact exc_get I.kIn c (v0q I.hok e) nA n hu (u7i ru) (h u _ (I.tok _) ru)
end
section
variable {X:Cx}{e o value:Expr}{es:List Expr}{ta tv te:TE}{t:TA}{f x:Str}{p pos pos':Pos}{C fI:Addr}{fd:FuncData}{ps:List Str}{sp:Sp}{k:Nat}{v:V}
noncomputable def tXFld (K:PySem.W.Frag) (ta:TE) (f:Str):TE:=fun σ H Q=>ta σ H fun x H1=>∃ a C fI dx fs v,x=.ref a∧H1 a=some (XO C (some dx) a)∧H1 dx=some (DXO dx fs)∧XCls K C fI∧NoAttr K C f∧fs.lookup f=some v∧Q v H1
theorem pe_xfld (he:PE X e ta) (hb:attributeBase e f X.env (eval e X.env)=eval e X.env):PE X (.Attribute e f pos) (tXFld X.K ta f):=by
 intro pins s σ H Q I h
 refine v1Y hb (thn (he pins s σ H _ I h) fun u s1 ⟨x,H1,I1,rx,a,C,fI,dx,fs,v,ex,ea,ed,c,n,l,q⟩=>?_)
 subst ex
 obtain rfl:u=Value.ref a:=rx
 exact xget_ok I1 ea ed c n l fun u' s2 I2 ru=>⟨v,H1,I2,ru,q⟩
end
section
variable {X:Cx}{pins:List (Addr×Obj)}{σ:St}{H:Hp}{s:Shared}{h':Heap}
theorem Inv.turned2 {t':Nat}{e it p:Addr}{ys:List V} (I:Inv X pins σ H s) (k:∀ b o,b≠e→b≠it→s.heap.get? b=some o→h'.get? b=some o) (f1:FpOk X pins H e) (f2:FpOk X pins H it) (hp:s.heap.objs.size≤p)
  (new:ObjOk X.prog X.w (upd H p (.tup ys)) h' p (.tup ys)):Inv X pins σ (upd H p (.tup ys)) { s with heap:=h',toks:=t' }:=by
 have hfr:H p=none:=I.hok.fresh hp
 have nin:∀ b u,H b=some u→b≠e∧b≠it:=fun b u q=>⟨(fun z=>by rw [z,f1.1] at q;cases q),(fun z=>by rw [z,f2.1] at q;cases q)⟩
 have nch:∀ b,b∉[e,it]→b≠e∧b≠it:=fun b hb=>⟨fun z=>hb (by simp [z]),fun z=>hb (by simp [z])⟩
 refine I.call' (ch:=[e,it]) rfl ⟨fun b o q n _ hx=>k b o (nch b hx).1 (nch b hx).2 q,fun b o q n _ hx=>⟨o.slots,k b o (nch b hx).1 (nch b hx).2 q⟩,fun b o q n _=>?_,fun b o q hx=>⟨o,k b o (nch b hx).1 (nch b hx).2 q⟩,fun b xs q=>?_,fun b o u q=>?_,fun b ps q=>⟨#[],?_⟩⟩ ?_ I.bare fun b hb=>?_
 ·rw [u0r (by rintro rfl;exact absurd (Heap.lt_size q) (Nat.not_lt.mpr hp))];exact n
 ·rw [u0r (u0x q hfr)];exact q
 ·rw [u0r (u0x q hfr)];exact q
 ·rw [u0r (u0x q hfr),q];simp
 ·intro b u q
  by_cases hb:b=p
  ·subst hb;rw [u0k] at q;cases q;exact new
  ·rw [u0r hb] at q
   refine (I.hok b u q).stay (fun c v hc z=>?_) (fun c z=>by rw [u0r (u0x z hfr)];exact z) fun c xs z=>by rw [u0r (u0x z hfr)];exact z
   rcases hc with rfl | hc
   ·exact k c v (nin c u q).1 (nin c u q).2 z
   ·exact k c v (nin c _ hc).1 (nin c _ hc).2 z
 ·rcases List.mem_cons.mp hb with rfl | hb
  ·exact ⟨f1.2.2.2.1,f1.2.1,f1.2.2.2.2.1,f1.2.2.2.2.2⟩
  ·obtain rfl:b=it:=by simpa using hb
   exact ⟨f2.2.2.2.1,f2.2.1,f2.2.2.2.2.1,f2.2.2.2.2.2⟩
end
noncomputable def Ite (K:PySem.W.Frag) (a:Addr):It :=
 ⟨fun i H=>∃ xs x,SqL K H a xs∧xs[i]?=some x,fun i H y H'=>∃ p x,H p=none∧y=.ref p∧H'=upd H p (.tup [.int i,x])∧∀ xs,SqL K H a xs→xs[i]?=some x,fun i H=>∃ xs,SqL K H a xs∧xs.length≤i⟩
theorem v0x {P:Program}{w:World}{K:PySem.W.Frag}{es:List Expr}{k:Nat}{pos:Pos} (a e it:Addr) (hne:e≠it) :
  Turn P w K (.Tuple es k pos) (Ite K a) [e,it] e (fun i h=>(∃ old,IsEnum h e it (i:Int) old)∧h.IsListIter it a i) where
 mem:=by simp
 obj:=fun i h st b hb=>by
  obtain ⟨⟨old,q⟩,o,e2,c,d⟩:=st
  rcases List.mem_cons.mp hb with rfl | hb
  ·exact ⟨_,q,fun v z=>by cases z⟩
  ·obtain rfl:b=it:=by simpa using hb
   exact ⟨o,e2,fun v z=>by rw [d] at z;cases z⟩
 keep:=fun i h h' st k=>⟨let ⟨old,q⟩:=st.1;⟨old,k e (by simp) _ q⟩,st.2.at fun o q=>k it (by simp) o q⟩
 item:=by
  intro X hP hw hK hc i pins s σ H E I hf st hg
  subst hP hw hK
  obtain ⟨xs,x,hq,hx⟩:=hg
  obtain ⟨its,rv,p,hz⟩:=I.list hq
  obtain ⟨u,hu,ru⟩:=rv.get hx
  obtain ⟨⟨old,he⟩,hl⟩:=st
  have f1:=hf e (by simp)
  have f2:=hf it (by simp)
  have hel:e<s.heap.objs.size:=Heap.lt_size he
  refine wpAny_pyNext_enum_item he hl p.isList (x:=u) (by simpa using hu) hne fun h1 eo li ht hsz kk=>⟨_,rfl,?_⟩
  refine wpAny_letOwnedTupleGo_enum (s:={ s with heap:=h1,toks:=s.toks+1 }) eo fun h2 en sb=>?_
  have hpe:s.heap.objs.size≠e:=Nat.ne_of_gt hel
  have hfr:H s.heap.objs.size=none:=I.hok.fresh (Nat.le_refl _)
  have k2:∀ b o,b≠e→b≠it→s.heap.get? b=some o→h2.get? b=some o:=fun b o hb hi q=>(sb.2 b hb).trans (kk b o hb hi q)
  have ht2:h2.get? s.heap.objs.size=some { cls:=.type "tuple",data:=.seq #[.int i s.toks,u] }:=(sb.2 _ hpe).trans ht
  have I2:=I.turned2 (t':=s.toks+1) (p:=s.heap.objs.size) (ys:=[.int i,x]) k2 f1 f2 (Nat.le_refl _) ⟨by show 2≤sizeLine;decide,[.int i s.toks,u],.cons ⟨_,rfl⟩ (.cons ru .nil),⟨_,ht2,rfl,_,rfl⟩⟩
  have en':IsEnum h2 e it (((i+1:Nat):Int)) u:=by
   have:((i+1:Nat):Int)=(i:Int)+1:=by omega
   rw [this];exact en
  refine ⟨.ref s.heap.objs.size,_,I2,rfl,⟨s.heap.objs.size,x,hfr,rfl,rfl,fun ys hy=>by rw [I.list_inj hy hq];exact hx⟩,⟨⟨u,en'⟩,?_⟩,fun b hb=>?_⟩
  ·obtain ⟨o,q,r⟩:=li
   exact ⟨o,(sb.2 it (Ne.symm hne)).trans q,r⟩
  ·have hb':b<s.heap.objs.size:=by
    rcases List.mem_cons.mp hb with rfl | hb
    ·exact hel
    ·obtain rfl:b=it:=by simpa using hb
     obtain ⟨o,q,_⟩:=hl
     exact Heap.lt_size q
   rw [u0r (Nat.ne_of_lt hb')]
   exact (hf b hb).1
 done:=by
  intro X hP hw hK hc i pins s σ H E I hf st hg
  subst hP hw hK
  obtain ⟨xs,hq,hx⟩:=hg
  obtain ⟨its,rv,p,hz⟩:=I.list hq
  obtain ⟨⟨old,he⟩,hl⟩:=st
  obtain ⟨f0,f1,f2,f3,f4,f5⟩:=hf it (by simp)
  have hlen:=rv.length
  exact wpAny_pyNext_enum_end (I.ok.hd hc) he hl p.isList (by simp;omega) fun h' eb=>⟨rfl,I.turned (t':=s.toks) (fun b o hb q=>eb b o hb q) f0 f1 f3 f4 f5⟩
 self:=fun _ _ _ _ _ st h=>by
  obtain ⟨⟨old,he⟩,_⟩:=st
  exact wpAny_pyIter_enum he h
noncomputable def iEnum (K:PySem.W.Frag) (ta:TA):TI:=fun σ H R=>ta σ H fun vs H1=>∃ a xs,vs=[.ref a]∧SqL K H1 a xs∧R (Ite K a) H1
section
variable {X:Cx}{a:Expr}{ta:TA}{p pos tp:Pos}{es:List Expr}{k:Nat}
theorem pi_enum (hg:Gl X "enumerate") (hm:X.mg "enumerate"=none) (ha:PA X [a] ta) (hs:starEach [a] X.env=[(false,eval a X.env)]:=by rfl):PI X (.Tuple es k tp) (.Call (.Name "enumerate" p) [a] [] pos) (iEnum X.K ta):=by
 intro pins s σ H R I h
 refine Call_ (u7e I hg hm (show bootBuiltins "enumerate"=some (.type "enumerate") by decide +kernel) (PyProof.Rows.callWith_type1 (thn (ha pos pins s σ H _ I h) fun us s1 ⟨vs,H1,I1,r1,q1⟩=>?_) hs rfl))
 obtain ⟨a',xs,e,hq,q⟩:=q1
 subst e
 obtain ⟨u,rfl,ru⟩:=vals1 r1
 cases ru
 obtain ⟨its,rv,pl,hz⟩:=I1.list hq
 refine call_enumerate_list pl.isList fun h' en li hsz kk=>?_
 refine wpAny_pyIter_enum en ?_
 have hne:s1.heap.objs.size+1≠s1.heap.objs.size:=Nat.succ_ne_self _
 refine ⟨s1.heap.objs.size+1,[s1.heap.objs.size+1,s1.heap.objs.size],_,Ite X.K a',H1,rfl,I1.kept (t':=s1.toks) kk,v0x a' _ _ hne,⟨⟨_,en⟩,li⟩,fun b hb=>?_,q⟩
 have hb':s1.heap.objs.size≤b:=by
  rcases List.mem_cons.mp hb with rfl | hb
  ·exact Nat.le_succ _
  ·have e:b=s1.heap.objs.size:=by simpa using hb
   rw [e];exact Nat.le_refl _
 exact I1.fpOk hb' (I1.hok.fresh hb')
end
inductive DK where
 | i (n:Int) | s (z:Str) | t (ks:List DK)
noncomputable instance:DecidableEq DK:=fun a b=>_root_.Classical.propDecidable (a=b)
inductive D where
 | non | bl (b:Bool) | int (i:Int) | str (z:Str) | ty (T:String)
 | lst (ds:List D) | tup (ds:List D) | dct (kvs:List (D×D)) | ins (C:Addr) (fs:List (Str×D)) | exc (C:Addr) (fs:List (Str×D)) | dn (hs:List DK→Int) (kvs:List (List DK×D))
inductive Res (α:Type) where
 | ok (a:α) | err (x:D) | bad
namespace Res
noncomputable def bind {α β:Type}:Res α→(α→Res β)→Res β
 | .ok a,f=>f a
 | .err x,_=>.err x
 | .bad,_=>.bad
noncomputable def all {α:Type} (r:Res α) (P:α→Prop) (E:D→Prop):Prop:=match r with
 | .ok a=>P a
 | .err x=>E x
 | .bad=>False
@[simp] theorem bind_ok {α β:Type} (a:α) (f:α→Res β):(Res.ok a).bind f=f a:=rfl
@[simp] theorem bind_err {α β:Type} (x:D) (f:α→Res β):(Res.err x).bind f=.err x:=rfl
@[simp] theorem bind_bad {α β:Type} (f:α→Res β):Res.bad.bind f=.bad:=rfl
theorem all_bind {α β:Type}{r:Res α}{f:α→Res β}{P:β→Prop}{E:D→Prop}:(r.bind f).all P E↔r.all (fun a=>(f a).all P E) E:=by
 cases r <;> exact Iff.rfl
theorem all_mono {α:Type}{r:Res α}{P Q:α→Prop}{E F:D→Prop} (h:r.all P E) (p:∀ a,P a→Q a) (e:∀ x,E x→F x):r.all Q F:=by
 cases r with
 | ok a=>exact p a h
 | err x=>exact e x h
 | bad=>exact h
end Res
noncomputable def kD:Key→D
 | .inl i=>.int i
 | .inr z=>.str z
mutual
noncomputable def DK.toD:DK→D
 | .i n=>.int n
 | .s z=>.str z
 | .t ks=>.tup (DK.toDs ks)
noncomputable def DK.toDs:List DK→List D
 | []=>[]
 | k::ks=>k.toD::DK.toDs ks
end
mutual
noncomputable def DK.py:DK→PyData
 | .i n=>.int n
 | .s z=>.str z
 | .t ks=>.tuple (DK.pys ks)
noncomputable def DK.pys:List DK→List PyData
 | []=>[]
 | k::ks=>k.py::DK.pys ks
end
mutual
noncomputable def DK.dep:DK→Nat
 | .i _=>0
 | .s _=>0
 | .t ks=>DK.deps ks+1
noncomputable def DK.deps:List DK→Nat
 | []=>0
 | k::ks=>max k.dep (DK.deps ks)
end
noncomputable def okK (k:List DK):Bool:=decide ((DK.t k).dep≤8)&&SeqAt.shaped (DK.t k).py
noncomputable def NDO (a:Addr) (hs:List DK→Int) (xs:List (List DK×Addr×Value)):HO:=.ext fun h=>∃ o es ep,h.get? a=some o∧o.ExactDict∧o.data=.dict es ep∧es.toList=xs.map (fun x=>⟨hs x.1,.ref x.2.1,x.2.2⟩)∧(xs.map (·.1)).Nodup∧xs.length≤sizeLine∧(a==sysModules)=false
mutual
inductive Rp (K:PySem.W.Frag) (H:Hp):V→D→Prop
 | non:Rp K H .non .non
 | bl (b:Bool):Rp K H (.bl b) (.bl b)
 | int (i:Int):Rp K H (.int i) (.int i)
 | str {z:Str} (h:z.length≤sizeLine):Rp K H (.str z) (.str z)
 | ty (T:String):Rp K H (.ty T) (.ty T)
 | lst {a:Addr}{xs:List V}{ds:List D}:Rd H a (.lst xs)→Rps K H xs ds→Rp K H (.ref a) (.lst ds)
 | tup {a:Addr}{xs:List V}{ds:List D}:SqT K H a xs→Rps K H xs ds→Rp K H (.ref a) (.tup ds)
 | dK {a:Addr}{kvs:List (Key×V)}{ps:List (D×D)}:H a=some (.dK kvs)→Rpk K H kvs ps→Rp K H (.ref a) (.dct ps)
 | ins {a C dx:Addr}{fs:List (Str×V)}{gs:List (Str×D)}:H a=some (.ins C dx fs)→Rpf K H fs gs→Rp K H (.ref a) (.ins C gs)
 | exc {a C dx:Addr}{fs:List (Str×V)}{gs:List (Str×D)}:H a=some (XO C (some dx) a)→H dx=some (DXO dx fs)→Rpf K H fs gs→Rp K H (.ref a) (.exc C gs)
 | dn {a:Addr}{hs:List DK→Int}{xs:List (List DK×Addr×Value)}{kvs:List (List DK×D)}:H a=some (NDO a hs xs)→Rpn K H xs kvs→Rp K H (.ref a) (.dn hs kvs)
inductive Rps (K:PySem.W.Frag) (H:Hp):List V→List D→Prop
 | nil:Rps K H [] []
 | cons {x:V}{d:D}{xs:List V}{ds:List D}:Rp K H x d→Rps K H xs ds→Rps K H (x::xs) (d::ds)
inductive Rpk (K:PySem.W.Frag) (H:Hp):List (Key×V)→List (D×D)→Prop
 | nil:Rpk K H [] []
 | cons {k:Key}{x:V}{d:D}{xs:List (Key×V)}{ds:List (D×D)}:Rp K H x d→Rpk K H xs ds→Rpk K H ((k,x)::xs) ((kD k,d)::ds)
inductive Rpf (K:PySem.W.Frag) (H:Hp):List (Str×V)→List (Str×D)→Prop
 | nil:Rpf K H [] []
 | cons {k:Str}{x:V}{d:D}{xs:List (Str×V)}{ds:List (Str×D)}:Rp K H x d→Rpf K H xs ds→Rpf K H ((k,x)::xs) ((k,d)::ds)
inductive Rpn (K:PySem.W.Frag) (H:Hp):List (List DK×Addr×Value)→List (List DK×D)→Prop
 | nil:Rpn K H [] []
 | cons {k:List DK}{q:Addr}{u:Value}{x:V}{d:D}{xs:List (List DK×Addr×Value)}{ds:List (List DK×D)}:okK k=true→Rp K H (.ref q) (DK.t k).toD→RelV x u→Rp K H x d→Rpn K H xs ds→Rpn K H ((k,q,u)::xs) ((k,d)::ds)
end
section
variable {K:PySem.W.Frag}{H H':Hp}
theorem Rd.same (e:Same H H') {a:Addr}{u:HO} (h:Rd H a u):Rd H' a u:=by
 rcases h with h | ⟨o,h⟩
 ·exact .inl (e _ _ h)
 ·exact .inr ⟨o,e _ _ h⟩
mutual
theorem Rp.same (e:Same H H'):∀ {x:V}{d:D},Rp K H x d→Rp K H' x d
 | _,_,.non=>.non
 | _,_,.bl b=>.bl b
 | _,_,.int i=>.int i
 | _,_,.str h=>.str h
 | _,_,.ty T=>.ty T
 | _,_,.lst hq hs=>.lst (hq.same e) (Rps.same e hs)
 | _,_,.tup hq hs=>.tup (e.seqT hq) (Rps.same e hs)
 | _,_,.dK hq hs=>.dK (e _ _ hq) (Rpk.same e hs)
 | _,_,.ins hq hs=>.ins (e _ _ hq) (Rpf.same e hs)
 | _,_,.exc hq hr hs=>.exc (e _ _ hq) (e _ _ hr) (Rpf.same e hs)
 | _,_,.dn hq hs=>.dn (e _ _ hq) (Rpn.same e hs)
theorem Rps.same (e:Same H H'):∀ {x:List V}{d:List D},Rps K H x d→Rps K H' x d
 | _,_,.nil=>.nil
 | _,_,.cons h hs=>.cons (Rp.same e h) (Rps.same e hs)
theorem Rpk.same (e:Same H H'):∀ {x:List (Key×V)}{d:List (D×D)},Rpk K H x d→Rpk K H' x d
 | _,_,.nil=>.nil
 | _,_,.cons h hs=>.cons (Rp.same e h) (Rpk.same e hs)
theorem Rpf.same (e:Same H H'):∀ {x:List (Str×V)}{d:List (Str×D)},Rpf K H x d→Rpf K H' x d
 | _,_,.nil=>.nil
 | _,_,.cons h hs=>.cons (Rp.same e h) (Rpf.same e hs)
theorem Rpn.same (e:Same H H'):∀ {x:List (List DK×Addr×Value)}{d:List (List DK×D)},Rpn K H x d→Rpn K H' x d
 | _,_,.nil=>.nil
 | _,_,.cons o h r h2 hs=>.cons o (Rp.same e h) r (Rp.same e h2) (Rpn.same e hs)
end
theorem Rps.length:∀ {xs:List V}{ds:List D},Rps K H xs ds→xs.length=ds.length
 | _,_,.nil=>rfl
 | _,_,.cons _ hs=>congrArg (·+1) hs.length
theorem Rps.get:∀ {xs:List V}{ds:List D}{i:Nat}{d:D},Rps K H xs ds→ds[i]?=some d→∃ x,xs[i]?=some x∧Rp K H x d
 | _,_,0,_,.cons h _,e=>by cases e;exact ⟨_,rfl,h⟩
 | _,_,i+1,_,.cons _ hs,e=>hs.get (i:=i) (by simpa using e)
theorem Rps.append:∀ {xs ys:List V}{ds es:List D},Rps K H xs ds→Rps K H ys es→Rps K H (xs++ys) (ds++es)
 | _,_,_,_,.nil,h=>h
 | _,_,_,_,.cons h hs,h'=>.cons h (hs.append h')
theorem Rps.take:∀ {xs:List V}{ds:List D} (n:Nat),Rps K H xs ds→Rps K H (xs.take n) (ds.take n)
 | _,_,0,_=>by simpa using Rps.nil
 | _,_,_+1,.nil=>by simpa using Rps.nil
 | _,_,n+1,.cons h hs=>by simpa using Rps.cons h (hs.take n)
theorem Rps.drop:∀ {xs:List V}{ds:List D} (n:Nat),Rps K H xs ds→Rps K H (xs.drop n) (ds.drop n)
 | _,_,0,h=>h
 | _,_,_+1,.nil=>by simpa using Rps.nil
 | _,_,n+1,.cons _ hs=>by simpa using hs.drop n
theorem Rps.rep {xs:List V}{ds:List D} (h:Rps K H xs ds):∀ n:Nat,Rps K H (List.replicate n xs).flatten (List.replicate n ds).flatten
 | 0=>.nil
 | n+1=>by simpa [List.replicate_succ] using h.append (h.rep n)
theorem Rpf.lookup:∀ {fs:List (Str×V)}{gs:List (Str×D)}{f:Str}{d:D},Rpf K H fs gs→gs.lookup f=some d→∃ v,fs.lookup f=some v∧Rp K H v d
 | _,_,f,d,.cons (k:=k) h hs,e=>by
  rw [List.lookup_cons] at e ⊢
  cases q:f==k with
  | true=>rw [q] at e;cases e;exact ⟨_,rfl,h⟩
  | false=>rw [q] at e;exact hs.lookup e
end
structure Stp (F H F' H':Hp):Prop where
 ff:Same F F'
 fh:Same F' H'
 hh:Same H H'
 no:∀ a,F a=none→H a≠none→F' a=none
section
variable {F H F' H' F'' H'':Hp}{a:Addr}{o:HO}
theorem Stp.refl (h:Same F H):Stp F H F H:=⟨Same.refl F,h,Same.refl H,fun _ q _=>q⟩
theorem u3g (e:Same H H') {a:Addr} (h:H a≠none):H' a≠none:=by
 intro q
 cases z:H a with
 | none=>exact h z
 | some o=>rw [e a o z] at q;cases q
theorem Stp.trans (x:Stp F H F' H') (y:Stp F' H' F'' H''):Stp F H F'' H'' :=
 ⟨x.ff.trans y.ff,y.fh,x.hh.trans y.hh,fun a q r=>y.no a (x.no a q r) (u3g x.hh r)⟩
theorem v2p (h:Same F H):Same (upd F a o) (upd H a o):=fun b u e=>by
 unfold upd at e ⊢
 by_cases q:b=a
 ·rw [if_pos q] at e ⊢;exact e
 ·rw [if_neg q] at e ⊢;exact h b u e
theorem u0q (h:F a=none):Same F (upd F a o):=fun b u e=>by
 unfold upd
 by_cases q:b=a
 ·subst q;rw [h] at e;cases e
 ·rw [if_neg q];exact e
theorem Stp.new (h:Same F H) (n:H a=none):Stp F H (upd F a o) (upd H a o) :=
 ⟨u0q (h.free n),v2p h,u0q n,fun b q r=>by
  unfold upd
  by_cases z:b=a
  ·subst z;exact absurd n r
  ·rw [if_neg z];exact q⟩
theorem Stp.only (h:Same F H) (e:Same H H'):Stp F H F H':=⟨Same.refl F,h.trans e,e,fun _ q _=>q⟩
end
inductive OD where
 | l (ds:List D) | d (kvs:List (D×D)) | i (a C:Addr) (gs:List (Str×D)) | n (hs:List DK→Int) (kvs:List (List DK×D))
noncomputable def OD.toD:OD→D
 | .l ds=>.lst ds
 | .d kvs=>.dct kvs
 | .i _ C gs=>.ins C gs
 | .n hs kvs=>.dn hs kvs
inductive Ro (K:PySem.W.Frag) (F:Hp) (a:Addr):HO→OD→Prop
 | l {xs:List V}{ds:List D}:Rps K F xs ds→Ro K F a (.lst xs) (.l ds)
 | d {kvs:List (Key×V)}{ps:List (D×D)}:Rpk K F kvs ps→Ro K F a (.dK kvs) (.d ps)
 | i {C dx:Addr}{fs:List (Str×V)}{gs:List (Str×D)}:Rpf K F fs gs→Ro K F a (.ins C dx fs) (.i a C gs)
 | n {hs:List DK→Int}{xs:List (List DK×Addr×Value)}{kvs:List (List DK×D)}:Rpn K F xs kvs→Ro K F a (NDO a hs xs) (.n hs kvs)
theorem Ro.same {K:PySem.W.Frag}{F F':Hp}{a:Addr} (e:Same F F') {h:HO}{o:OD} (r:Ro K F a h o):Ro K F' a h o:=by
 cases r with
 | l r=>exact .l (Rps.same e r)
 | d r=>exact .d (Rpk.same e r)
 | i r=>exact .i (Rpf.same e r)
 | n r=>exact .n (Rpn.same e r)
theorem Ro.rp {K:PySem.W.Frag}{F:Hp}{a:Addr}{h:HO}{o:OD} (r:Ro K F a h o) (e:F a=some h):Rp K F (.ref a) o.toD:=by
 cases r with
 | l r=>exact .lst (.inl e) r
 | d r=>exact .dK e r
 | i r=>exact .ins e r
 | n r=>exact .dn e r
inductive Sl where
 | val (d:D) | own (o:OD)
noncomputable abbrev Rho:=List (Option Sl)
structure Rel (K:PySem.W.Frag) (B:Hp×Hp) (ρ:Rho) (σ:St) (F H:Hp):Prop where
 st:Stp B.1 B.2 F H
 len:σ.length=ρ.length
 val:∀ (i:Nat) d,ρ[i]?=some (some (.val d))→∃ v,σ[i]?=some (some v)∧Rp K F v d
 own:∀ (i:Nat) o,ρ[i]?=some (some (.own o))→∃ a h,σ[i]?=some (some (.ref a))∧F a=none∧B.2 a=none∧H a=some h∧Ro K F a h o
 dis:∀ (i j:Nat) o u a,ρ[i]?=some (some (.own o))→ρ[j]?=some (some (.own u))→σ[i]?=some (some (.ref a))→σ[j]?=some (some (.ref a))→i=j
noncomputable def frzS:Sl→Sl
 | .val d=>.val d
 | .own o=>.val o.toD
noncomputable def frz (ρ:Rho):Rho:=ρ.map (Option.map frzS)
section
variable {K:PySem.W.Frag}{B:Hp×Hp}{ρ:Rho}{σ:St}{F H F' H':Hp}
theorem Rel.fh (r:Rel K B ρ σ F H):Same F H:=r.st.fh
theorem Rel.step (r:Rel K B ρ σ F H) (s:Stp F H F' H'):Rel K B ρ σ F' H' where
 st:=r.st.trans s
 len:=r.len
 val i d e:=let ⟨v,h1,h2⟩:=r.val i d e;⟨v,h1,h2.same s.ff⟩
 own i o e:=let ⟨a,h,h1,h2,h3,h4,h5⟩:=r.own i o e;⟨a,h,h1,s.no a h2 (by rw [h4];simp),h3,s.hh a h h4,Ro.same s.ff h5⟩
 dis:=r.dis
theorem u3R {i:Nat}{x:Sl} (h:(frz ρ)[i]?=some (some x)):∃ y,ρ[i]?=some (some y)∧x=frzS y:=by
 unfold frz at h
 rw [List.getElem?_map] at h
 cases q:ρ[i]? with
 | none=>rw [q] at h;cases h
 | some z =>
  rw [q] at h
  cases z with
  | none=>simp at h
  | some y=>simp at h;exact ⟨y,rfl,h.symm⟩
open Classical in
theorem Rel.frz (r:Rel K B ρ σ F H):∃ F',Same F F'∧Rel K B (frz ρ) σ F' H:=by
 let T:Addr→Prop:=fun a=>∃ (i:Nat) (o:OD),ρ[i]?=some (some (.own o))∧σ[i]?=some (some (.ref a))
 let F':Hp:=fun a=>if T a then H a else F a
 have hT:∀ a,T a→F a=none∧B.2 a=none:=fun a ⟨i,o,e,q⟩=>by
  obtain ⟨b,h,h1,h2,h3,_⟩:=r.own i o e
  rw [q] at h1;cases h1;exact ⟨h2,h3⟩
 have e1:Same F F':=fun a o e=>by
  show (if T a then H a else F a)=some o
  by_cases q:T a
  ·rw [(hT a q).1] at e;cases e
  ·rw [if_neg q];exact e
 have e2:Same F' H:=fun a o e=>by
  have e':(if T a then H a else F a)=some o:=e
  by_cases q:T a
  ·rw [if_pos q] at e';exact e'
  ·rw [if_neg q] at e';exact r.fh a o e'
 refine ⟨F',e1,⟨⟨r.st.ff.trans e1,e2,r.st.hh,fun a q z=>?_⟩,?_,?_,?_,?_⟩⟩
 ·show (if T a then H a else F a)=none
  by_cases t:T a
  ·exact absurd (hT a t).2 z
  ·rw [if_neg t];exact r.st.no a q z
 ·rw [r.len];unfold L2.frz;simp
 ·intro i d e
  obtain ⟨y,h1,h2⟩:=u3R e
  cases y with
  | val d'=>cases h2;obtain ⟨v,q1,q2⟩:=r.val i d h1;exact ⟨v,q1,q2.same e1⟩
  | own o =>
   cases h2
   obtain ⟨a,h,q1,q2,q3,q4,q5⟩:=r.own i o h1
   have t:T a:=⟨i,o,h1,q1⟩
   exact ⟨.ref a,q1,Ro.rp (Ro.same e1 q5) (show (if T a then H a else F a)=some h by rw [if_pos t];exact q4)⟩
 ·intro i o e
  obtain ⟨y,h1,h2⟩:=u3R e
  cases y <;> cases h2
 ·intro i j o u a e
  obtain ⟨y,h1,h2⟩:=u3R e
  cases y <;> cases h2
theorem u1v {α:Type}{l:List α}{i j:Nat}{x y:α} (h:(l.set i x)[j]?=some y):(j=i∧i<l.length∧y=x)∨(j≠i∧l[j]?=some y):=by
 rw [List.getElem?_set] at h
 by_cases q:i=j
 ·rw [if_pos q] at h
  by_cases z:i<l.length
  ·rw [if_pos z] at h;exact .inl ⟨q.symm,z,(Option.some.inj h).symm⟩
  ·rw [if_neg z] at h;cases h
 ·rw [if_neg q] at h;exact .inr ⟨fun e=>q e.symm,h⟩
theorem u8B {α:Type}{l:List α}{i:Nat}{x:α} (h:i<l.length):(l.set i x)[i]?=some x:=by simp [h]
theorem u1y {α:Type}{l:List α}{i j:Nat}{x:α} (h:j≠i):(l.set i x)[j]?=l[j]?:=by rw [List.getElem?_set,if_neg (fun e=>h e.symm)]
theorem Rel.set {i:Nat}{v:V}{d:D} (r:Rel K B ρ σ F H) (h:Rp K F v d):Rel K B (ρ.set i (some (.val d))) (σ.set i (some v)) F H where
 st:=r.st
 len:=by simp [r.len]
 val j d' e:=by
  rcases u1v e with ⟨rfl,q,z⟩ | ⟨q,z⟩
  ·cases z;exact ⟨v,u8B (r.len ▸ q),h⟩
  ·rw [u1y q];exact r.val j d' z
 own j o e:=by
  rcases u1v e with ⟨rfl,q,z⟩ | ⟨q,z⟩
  ·cases z
  ·rw [u1y q];exact r.own j o z
 dis j k o u a e e':=by
  rcases u1v e with ⟨rfl,q,z⟩ | ⟨q,z⟩
  ·cases z
  ·rcases u1v e' with ⟨rfl,q',z'⟩ | ⟨q',z'⟩
   ·cases z'
   ·rw [u1y q,u1y q'];exact r.dis j k o u a z z'
theorem Rel.setOwn {i:Nat}{a:Addr}{h:HO}{o:OD} (r:Rel K B ρ σ F H) (h1:F a=none) (h2:B.2 a=none) (h3:H a=some h) (h4:Ro K F a h o)
  (hd:∀ (j:Nat) u,ρ[j]?=some (some (.own u))→σ[j]?≠some (some (.ref a))):Rel K B (ρ.set i (some (.own o))) (σ.set i (some (.ref a))) F H where
 st:=r.st
 len:=by simp [r.len]
 val j d' e:=by
  rcases u1v e with ⟨rfl,q,z⟩ | ⟨q,z⟩
  ·cases z
  ·rw [u1y q];exact r.val j d' z
 own j u e:=by
  rcases u1v e with ⟨rfl,q,z⟩ | ⟨q,z⟩
  ·cases z;exact ⟨a,h,u8B (r.len ▸ q),h1,h2,h3,h4⟩
  ·rw [u1y q];exact r.own j u z
 dis j k u u' b e e':=by
  rcases u1v e with ⟨rfl,q,z⟩ | ⟨q,z⟩
  ·rcases u1v e' with ⟨rfl,q',z'⟩ | ⟨q',z'⟩
   ·intro _ _;rfl
   ·rw [u1y q',u8B (r.len ▸ q)]
    intro x y;cases x;exact absurd y (hd k u' z')
  ·rcases u1v e' with ⟨rfl,q',z'⟩ | ⟨q',z'⟩
   ·rw [u1y q,u8B (r.len ▸ q')]
    intro x y;cases y;exact absurd x (hd j u z)
   ·rw [u1y q,u1y q'];exact r.dis j k u u' b z z'
theorem Rel.write {i:Nat}{a:Addr}{h':HO}{o o':OD} (r:Rel K B ρ σ F H) (e:ρ[i]?=some (some (.own o))) (hs:σ[i]?=some (some (.ref a))) (h4:Ro K F a h' o') :
  Rel K B (ρ.set i (some (.own o'))) σ F (upd H a h'):=by
 obtain ⟨b,h,q1,q2,q3,q4,q5⟩:=r.own i o e
 rw [hs] at q1;cases q1
 have e1:∀ G:Hp,G a=none→Same G H→Same G (upd H a h'):=fun G n s b u x=>by
  unfold upd
  by_cases z:b=a
  ·subst z;rw [n] at x;cases x
  ·rw [if_neg z];exact s b u x
 refine ⟨⟨r.st.ff,e1 F q2 r.fh,e1 B.2 q3 r.st.hh,r.st.no⟩,by simp [r.len],?_,?_,?_⟩
 ·intro j d x
  rcases u1v x with ⟨rfl,q,z⟩ | ⟨q,z⟩
  ·cases z
  ·exact r.val j d z
 ·intro j u x
  rcases u1v x with ⟨rfl,q,z⟩ | ⟨q,z⟩
  ·cases z;exact ⟨a,h',hs,q2,q3,u0k,h4⟩
  ·obtain ⟨c,g,p1,p2,p3,p4,p5⟩:=r.own j u z
   have ne:c≠a:=fun w=>q (by subst w;exact r.dis j i u o c z e p1 hs)
   exact ⟨c,g,p1,p2,p3,by rw [u0r ne];exact p4,p5⟩
 ·intro j k u u' c x y
  have f:∀ (m:Nat) w,(ρ.set i (some (Sl.own o')))[m]?=some (some (.own w))→∃ w',ρ[m]?=some (some (.own w')):=fun m w p=>by
   rcases u1v p with ⟨rfl,_,_⟩ | ⟨_,z⟩
   ·exact ⟨o,e⟩
   ·exact ⟨w,z⟩
  obtain ⟨w1,z1⟩:=f j u x
  obtain ⟨w2,z2⟩:=f k u' y
  exact r.dis j k w1 w2 c z1 z2
end
noncomputable abbrev XQ:=V→St→Hp→Prop
theorem frz_frz (ρ:Rho):frz (frz ρ)=frz ρ:=by
 unfold frz
 rw [List.map_map]
 congr 1
 funext x
 cases x with
 | none=>rfl
 | some y=>cases y <;> rfl
noncomputable def ErrK (K:PySem.W.Frag) (xq:XQ) (B:Hp×Hp) (ρ:Rho) (σ:St) (x:D):Prop:=∀ v F' H',Rel K B (frz ρ) σ F' H'→Rp K F' v x→xq v σ H'
noncomputable def liftE (K:PySem.W.Frag) (xq:XQ) (f:Rho→Res D):TE:=fun σ H Q=>∃ B F ρ,Rel K B ρ σ F H ∧
 (f ρ).all (fun d=>∀ v F' H',Stp F H F' H'→Rp K F' v d→Q v H') (ErrK K xq B ρ σ)
noncomputable def liftA (K:PySem.W.Frag) (xq:XQ) (f:Rho→Res (List D)):TA:=fun σ H Q=>∃ B F ρ,Rel K B ρ σ F H ∧
 (f ρ).all (fun ds=>∀ vs F' H',Stp F H F' H'→Rps K F' vs ds→Q vs H') (ErrK K xq B ρ σ)
noncomputable def liftT (K:PySem.W.Frag) (xq:XQ) (f:Rho→Res Bool):TT:=fun σ H Q=>∃ B F ρ,Rel K B ρ σ F H ∧
 (f (frz ρ)).all (fun b=>∀ H',Stp F H F H'→Q b H') (ErrK K xq B ρ σ)
noncomputable def liftN (K:PySem.W.Frag) (xq:XQ) (f:Rho→Res OD):TE:=fun σ H Q=>∃ B F ρ,Rel K B ρ σ F H ∧
 (f ρ).all (fun o=>∀ a h F' H',Stp F H F' H'→F' a=none→H a=none→H' a=some h→Ro K F' a h o→Q (.ref a) H') (ErrK K xq B ρ σ)
structure DE (X:Cx) (xq:XQ) (e:Expr) (f:Rho→Res D):Prop where
 out:PE X e (liftE X.K xq f)
structure DN (X:Cx) (xq:XQ) (e:Expr) (f:Rho→Res OD):Prop where
 out:PE X e (liftN X.K xq f)
structure DT (X:Cx) (xq:XQ) (e:Expr) (f:Rho→Res Bool):Prop where
 out:PT X e (liftT X.K xq f)
structure DW (X:Cx) (xq:XQ) (e:Expr) (f:Rho→Res Bool):Prop where
 out:PW X e (liftT X.K xq f)
structure DA (X:Cx) (xq:XQ) (es:List Expr) (f:Rho→Res (List D)):Prop where
 out:PA X es (liftA X.K xq f)
 ns:es.all notStar=true
noncomputable def rD (K:PySem.W.Frag) (g:D→D→Res D):R2:=fun x y H Q=>∃ F dx dy,Same F H∧Rp K F x dx∧Rp K F y dy∧(g dx dy).all (fun d=>∀ v F' H',Stp F H F' H'→Rp K F' v d→Q v H') (fun _=>False)
noncomputable def rDs (K:PySem.W.Frag) (g:List D→Res D):List V→Hp→VK→Prop:=fun xs H Q=>∃ F ds,Same F H∧Rps K F xs ds∧(g ds).all (fun d=>∀ v F' H',Stp F H F' H'→Rp K F' v d→Q v H') (fun _=>False)
section
variable {K:PySem.W.Frag}{xq:XQ}{B:Hp×Hp}{ρ:Rho}{σ:St}{F H F' H':Hp}{x:D}
theorem seqE {α:Type}{fa:Rho→Res D}{g:D→Res α}{P:α→Prop}{T:VK} (R:Rel K B ρ σ F H) (h:((fa ρ).bind g).all P (ErrK K xq B ρ σ))
  (k:∀ d v F' H',Stp F H F' H'→Rel K B ρ σ F' H'→Rp K F' v d→(g d).all P (ErrK K xq B ρ σ)→T v H'):liftE K xq fa σ H T :=
 ⟨B,F,ρ,R,Res.all_mono (Res.all_bind.mp h) (fun d h' v F' H' s p=>k d v F' H' s (R.step s) p h') (fun _ e=>e)⟩
theorem seqA {α:Type}{fa:Rho→Res (List D)}{g:List D→Res α}{P:α→Prop}{T:List V→Hp→Prop} (R:Rel K B ρ σ F H) (h:((fa ρ).bind g).all P (ErrK K xq B ρ σ))
  (k:∀ d v F' H',Stp F H F' H'→Rel K B ρ σ F' H'→Rps K F' v d→(g d).all P (ErrK K xq B ρ σ)→T v H'):liftA K xq fa σ H T :=
 ⟨B,F,ρ,R,Res.all_mono (Res.all_bind.mp h) (fun d h' v F' H' s p=>k d v F' H' s (R.step s) p h') (fun _ e=>e)⟩
end
noncomputable def noE {α:Type}:Res α→Res α
 | .err _=>.bad
 | r=>r
section
variable {K:PySem.W.Frag}{xq:XQ}{B:Hp×Hp}{ρ:Rho}{σ:St}{F H F' H':Hp}{x:D}
theorem doneN {r:Res D}{Q:VK}{E:D→Prop}{F0 H0:Hp} (s:Stp F0 H0 F H) (h:(noE r).all (fun d=>∀ v F' H',Stp F0 H0 F' H'→Rp K F' v d→Q v H') E) :
  r.all (fun d=>∀ v F' H',Stp F H F' H'→Rp K F' v d→Q v H') (fun _=>False):=by
 cases r with
 | ok d=>exact fun v F' H' s' p=>h v F' H' (s.trans s') p
 | err x=>exact h
 | bad=>exact h
end
noncomputable def getV (ρ:Rho) (i:Nat):Res D:=match ρ[i]? with
 | some (some (.val d))=>.ok d
 | _=>.bad
theorem getV_ok {ρ:Rho}{i:Nat}{P:D→Prop}{E:D→Prop} (h:(getV ρ i).all P E):∃ d,ρ[i]?=some (some (.val d))∧P d:=by
 unfold getV at h
 split at h
 ·rename_i d e;exact ⟨d,e,h⟩
 ·exact h.elim
section
variable {X:Cx}{xq:XQ}{a b c e o:Expr}{es rest:List Expr}{fa fb fc fe:Rho→Res D}{fA fB:Rho→Res Bool}{fs:Rho→Res (List D)}{pos pos' p apos cpos:Pos}{x name:Str}
theorem DE.of {t:TE} (h:PE X e t) (k:∀ B F ρ σ H Q,Rel X.K B ρ σ F H→(fe ρ).all (fun d=>∀ v F' H',Stp F H F' H'→Rp X.K F' v d→Q v H') (ErrK X.K xq B ρ σ)→t σ H Q):DE X xq e fe :=
 ⟨fun pins s σ H Q I ⟨B,F,ρ,R,q⟩=>h pins s σ H Q I (k B F ρ σ H Q R q)⟩
theorem DT.of {t:TT} (h:PT X e t) (k:∀ B F ρ σ H Q,Rel X.K B ρ σ F H→(fA (frz ρ)).all (fun b=>∀ H',Stp F H F H'→Q b H') (ErrK X.K xq B ρ σ)→t σ H Q):DT X xq e fA :=
 ⟨fun pins s σ H Q I ⟨B,F,ρ,R,q⟩=>h pins s σ H Q I (k B F ρ σ H Q R q)⟩
theorem d_C {v:V}{d:D} (h:PE X e (tC v)) (p:∀ F,Rp X.K F v d):DE X xq e (fun _=>.ok d):=DE.of h fun B F ρ σ H Q R q=>q v F H (Stp.refl R.fh) (p F)
theorem u0c {i j pos}:DE X xq (.Constant (.int i) j pos) (fun _=>.ok (.int i)):=d_C pe_int fun _=>.int i
theorem d_bl {i j pos}:DE X xq (.Constant (.bool i) j pos) (fun _=>.ok (.bl i)):=d_C pe_bl fun _=>.bl i
theorem u2W {j pos}:DE X xq (.Constant .none j pos) (fun _=>.ok .non):=d_C pe_non fun _=>.non
theorem u0i {z:Str}{j pos} (h:z.length≤sizeLine:=by decide):DE X xq (.Constant (.str z) j pos) (fun _=>.ok (.str z)):=d_C v3m fun _=>.str h
theorem dv (i:Nat) {x:Str}{pos:Pos} (hN:X.N[i]?=some x:=by rfl) (hv:Vis X.env.scope x:=by first | exact Or.inl rfl | exact Or.inr (Or.inl rfl) | exact Or.inr (Or.inr rfl)) (hd:(x==("__debug__":Str))=false:=by decide)
  (hcd:(x==("__classdict__":Str))=false:=by decide):DE X xq (.Name x pos) (fun ρ=>getV ρ i) :=
 DE.of (u4h hN hv hd hcd) fun B F ρ σ H Q R q=>by
  obtain ⟨d,e,h⟩:=getV_ok q
  obtain ⟨v,h1,h2⟩:=R.val i d e
  exact ⟨v,h1,h v F H (Stp.refl R.fh) h2⟩
noncomputable def GloD (K:PySem.W.Frag) (mg:Str→Option Value) (x:Str) (d:D):Prop:=∃ v,Glo mg x v∧∀ F,Rp K F v d
theorem u5f {mg:Str→Option Value}{K:PySem.W.Frag}{d:D} (h:GloD K mg x d) (hg:Gl X x:=by rfl) (em:X.mg=mg:=by rfl) (eK:X.K=K:=by rfl) (hd:(x==("__debug__":Str))=false:=by decide):DE X xq (.Name x pos) (fun _=>.ok d):=by
 obtain ⟨v,h1,h2⟩:=h
 subst eK
 exact d_C (pe_glo h1 hg em hd) h2
theorem d_ty {T:String} (hm:X.mg x=none) (hv:bootBuiltins x=some (.type T)) (hg:Gl X x:=by rfl) (hn:x≠"__name__":=by decide) (hd:(x==("__debug__":Str))=false:=by decide):DE X xq (.Name x pos) (fun _=>.ok (.ty T)) :=
 d_C (v:=.ty T) (pe_bltn hg hm hv rfl hn hd) fun _=>.ty T
theorem d_op {op:Operator}{g:D→D→Res D} (ho:OpR X (binaryOp op) (rD X.K g)) (ha:DE X xq a fa) (hb:DE X xq b fb):DE X xq (.BinOp a op b pos) (fun ρ=>(fa ρ).bind fun x=>(fb ρ).bind fun y=>noE (g x y)) :=
 DE.of (pe_op ho ha.out hb.out) fun B F ρ σ H Q R q=>seqE R q fun d v F1 H1 s1 R1 p1 q1=>seqE R1 q1 fun d2 v2 F2 H2 s2 R2 p2 q2 =>
  ⟨F2,d,d2,R2.fh,p1.same s2.ff,p2,doneN (s1.trans s2) q2⟩
theorem u3c {op:CmpOp}{g:D→D→Res D} (ho:OpR X (compareOp op) (rD X.K g)) (ha:DE X xq a fa) (hb:DE X xq b fb) (hm:behindInMarks op b=false:=by first | exact nomark _ | with_unfolding_all rfl) :
  DE X xq (.Compare a [op] [b] pos) (fun ρ=>(fa ρ).bind fun x=>(fb ρ).bind fun y=>noE (g x y)) :=
 DE.of (pe_cmpR ho ha.out hb.out hm) fun B F ρ σ H Q R q=>seqE R q fun d v F1 H1 s1 R1 p1 q1=>seqE R1 q1 fun d2 v2 F2 H2 s2 R2 p2 q2 =>
  ⟨F2,d,d2,R2.fh,p1.same s2.ff,p2,doneN (s1.trans s2) q2⟩
theorem d_ix {g:D→D→Res D} (ho:IxR X (rD X.K g)) (ha:DE X xq a fa) (hb:DE X xq b fb) (hs:PlainIx b:=by intro _ _;rfl):DE X xq (.Subscript a b pos) (fun ρ=>(fa ρ).bind fun x=>(fb ρ).bind fun y=>noE (g x y)) :=
 DE.of (pe_ix ho ha.out hb.out hs) fun B F ρ σ H Q R q=>seqE R q fun d v F1 H1 s1 R1 p1 q1=>seqE R1 q1 fun d2 v2 F2 H2 s2 R2 p2 q2 =>
  ⟨F2,d,d2,R2.fh,p1.same s2.ff,p2,doneN (s1.trans s2) q2⟩
noncomputable def asB:D→Res Bool
 | .bl b=>.ok b
 | _=>.bad
theorem u5Q {d:D}{P:Bool→Prop}{E:D→Prop} (h:(asB d).all P E):∃ b,d=.bl b∧P b:=by
 cases d <;> first | exact h.elim | exact ⟨_,rfl,h⟩
theorem Rp.blI {K:PySem.W.Frag}{F:Hp}{v:V}{b:Bool} (h:Rp K F v (.bl b)):v=.bl b:=by cases h;rfl
noncomputable def fChain (g g':D→D→Res D) (x y:D) (z:Res D):Res D:=(noE (g x y)).bind fun w=>(asB w).bind fun c=>if c=true then z.bind fun z=>noE (g' y z) else .ok (.bl false)
theorem v1O {op op':CmpOp}{g g':D→D→Res D} (ho:OpR X (compareOp op) (rD X.K g)) (ho':OpR X (compareOp op') (rD X.K g')) (ha:DE X xq a fa) (hb:DE X xq b fb) (hc:DE X xq c fc)
  (hm:lastMarks [op,op'] [b,c]=false:=by with_unfolding_all rfl):DE X xq (.Compare a [op,op'] [b,c] pos) (fun ρ=>(fa ρ).bind fun x=>(fb ρ).bind fun y=>fChain g g' x y (fc ρ)) :=
 DE.of (v2B ho ho' ha.out hb.out hc.out hm) fun B F ρ σ H Q R q=>seqE R q fun d v F1 H1 s1 R1 p1 q1=>seqE R1 q1 fun d2 v2 F2 H2 s2 R2 p2 q2=>by
  refine ⟨F2,d,d2,R2.fh,p1.same s2.ff,p2,?_⟩
  unfold fChain at q2
  have q3:=Res.all_bind.mp q2
  generalize g d d2=r at q3
  cases r with
  | err x=>exact q3
  | bad=>exact q3
  | ok w =>
   obtain ⟨k,rfl,q4⟩:=u5Q (Res.all_bind.mp (show ((asB w).bind _).all _ _ from q3))
   intro v3 F3 H3 s3 p3
   refine ⟨k,p3.blI,?_⟩
   have s03:=(s1.trans s2).trans s3
   cases k with
   | false=>exact q4 (.bl false) F3 H3 s03 (.bl false)
   | true=>exact seqE (R2.step s3) q4 fun d4 v4 F4 H4 s4 R4 p4 q5=>⟨F4,d2,d4,R4.fh,(p2.same s3.ff).same s4.ff,p4,doneN (s03.trans s4) q5⟩
theorem u3X {op} (h:DE X xq a fa):DE X xq (.BoolOp op [a] pos) fa:=⟨pe_one h.out⟩
theorem u2X (ha:DE X xq a fa) (hb:DE X xq (.BoolOp .And (b::rest) pos) fb):DE X xq (.BoolOp .And (a::b::rest) pos) (fun ρ=>(fa ρ).bind fun x=>(asB x).bind fun k=>if k=true then fb ρ else .ok (.bl false)) :=
 DE.of (pe_and ha.out hb.out) fun B F ρ σ H Q R q=>seqE R q fun d v F1 H1 s1 R1 p1 q1=>by
  obtain ⟨k,rfl,q2⟩:=u5Q (Res.all_bind.mp q1)
  refine ⟨k,p1.blI,?_⟩
  cases k with
  | false=>exact q2 _ F1 H1 s1 (.bl false)
  | true=>exact ⟨B,F1,ρ,R1,Res.all_mono q2 (fun d k v F' H' s p=>k v F' H' (s1.trans s) p) fun _ e=>e⟩
theorem d_or (ha:DE X xq a fa) (hb:DE X xq (.BoolOp .Or (b::rest) pos) fb):DE X xq (.BoolOp .Or (a::b::rest) pos) (fun ρ=>(fa ρ).bind fun x=>(asB x).bind fun k=>if k=true then .ok (.bl true) else fb ρ) :=
 DE.of (pe_or ha.out hb.out) fun B F ρ σ H Q R q=>seqE R q fun d v F1 H1 s1 R1 p1 q1=>by
  obtain ⟨k,rfl,q2⟩:=u5Q (Res.all_bind.mp q1)
  refine ⟨k,p1.blI,?_⟩
  cases k with
  | true=>exact q2 _ F1 H1 s1 (.bl true)
  | false=>exact ⟨B,F1,ρ,R1,Res.all_mono q2 (fun d k v F' H' s p=>k v F' H' (s1.trans s) p) fun _ e=>e⟩
theorem ErrK.frz {K:PySem.W.Frag}{B:Hp×Hp}{ρ:Rho}{σ:St}{x:D} (h:ErrK K xq B ρ σ x):ErrK K xq B (frz ρ) σ x:=fun v F' H' R p=>h v F' H' (frz_frz ρ ▸ R) p
theorem d_ife (hc:DT X xq c fA) (ha:DE X xq a fa) (hb:DE X xq b fb):DE X xq (.IfExp c a b pos) (fun ρ=>(fA (frz ρ)).bind fun k=>if k=true then fa ρ else fb ρ) :=
 DE.of (v2y hc.out ha.out hb.out) fun B F ρ σ H Q R q=>⟨B,F,ρ,R,Res.all_mono (Res.all_bind.mp q) (fun k q1 H1 s1=>by
  cases k with
  | true=>exact ⟨B,F,ρ,R.step s1,Res.all_mono q1 (fun d k v F' H' s p=>k v F' H' (s1.trans s) p) fun _ e=>e⟩
  | false=>exact ⟨B,F,ρ,R.step s1,Res.all_mono q1 (fun d k v F' H' s p=>k v F' H' (s1.trans s) p) fun _ e=>e⟩) fun _ e=>e⟩
theorem tfrz {P:Bool→Prop}{K:PySem.W.Frag}{B:Hp×Hp}{ρ:Rho}{σ:St}{F H:Hp}{Q:Bool→Hp→Prop} (R:Rel K B ρ σ F H) (h:((fe (frz ρ)).bind asB).all (fun b=>∀ H',Stp F H F H'→Q b H') (ErrK K xq B ρ σ)) :
  liftE K xq fe σ H (fun x H'=>∃ k,x=.bl k∧Q k H'):=by
 obtain ⟨F1,e1,R1⟩:=R.frz
 refine ⟨B,F1,L2.frz ρ,R1,Res.all_mono (Res.all_bind.mp h) (fun d q v F' H' s p=>?_) fun _ e=>e.frz⟩
 obtain ⟨k,rfl,q⟩:=u5Q q
 exact ⟨k,p.blI,q H' (Stp.only R.fh s.hh)⟩
theorem u0L (h:DE X xq e fe) (he:∀ whole,isTrue e X.env whole=(do let v ← whole;standAt e.pos;holding [v] (truthy v)):=by intro _;rfl):DT X xq e (fun ρ=>(fe ρ).bind asB) :=
 DT.of (pt_val h.out he) fun B F ρ σ H Q R q=>tfrz (P:=fun _=>True) R q
theorem u0n {op:CmpOp}{g:D→D→Res D} (ho:OpR X (compareOp op) (rD X.K g)) (ha:DE X xq a fa) (hb:DE X xq b fb) (hm:behindInMarks op b=false:=by first | exact nomark _ | with_unfolding_all rfl) :
  DT X xq (.Compare a [op] [b] pos) (fun ρ=>(fa ρ).bind fun x=>(fb ρ).bind fun y=>(noE (g x y)).bind asB) :=
 DT.of (pt_cmpR ho ha.out hb.out hm) fun B F ρ σ H Q R q=>by
  obtain ⟨F0,e0,R0⟩:=R.frz
  have q':=Res.all_mono q (fun _ k=>k) (fun x (e:ErrK X.K xq B ρ σ x)=>e.frz)
  refine seqE R0 q' fun d v F1 H1 s1 R1 p1 q1=>seqE R1 q1 fun d2 v2 F2 H2 s2 R2 p2 q2=>⟨F2,d,d2,R2.fh,p1.same s2.ff,p2,?_⟩
  have q3:=Res.all_bind.mp q2
  generalize g d d2=r at q3
  cases r with
  | err x=>exact q3
  | bad=>exact q3
  | ok w =>
   obtain ⟨k,rfl,q4⟩:=u5Q (show (asB w).all _ _ from q3)
   exact fun v3 F3 H3 s3 p3=>⟨k,p3.blI,q4 H3 (Stp.only R.fh ((s1.hh.trans s2.hh).trans s3.hh))⟩
theorem seqT {α:Type}{K:PySem.W.Frag}{B:Hp×Hp}{ρ:Rho}{σ:St}{F H:Hp}{g:Bool→Res α}{P:α→Prop}{T:Bool→Hp→Prop} (R:Rel K B ρ σ F H) (h:((fA (frz ρ)).bind g).all P (ErrK K xq B ρ σ))
  (k:∀ b H',Stp F H F H'→Rel K B ρ σ F H'→(g b).all P (ErrK K xq B ρ σ)→T b H'):liftT K xq fA σ H T :=
 ⟨B,F,ρ,R,Res.all_mono (Res.all_bind.mp h) (fun d h' H' s=>k d H' s (R.step s) h') (fun _ e=>e)⟩
theorem u0M (ha:DT X xq a fA):DT X xq (.UnaryOp .Not a pos) (fun ρ=>(fA ρ).bind fun k=>.ok (!k)) :=
 DT.of (pt_not ha.out) fun B F ρ σ H Q R q=>seqT R q fun k H1 s1 R1 q1=>q1 H1 s1
theorem dt_w (h:DW X xq e fA):DT X xq e fA:=⟨h.out.pt⟩
theorem u2U (ha:DT X xq a fA):DW X xq (.BoolOp .And [a] pos) fA:=⟨pw_and1 ha.out⟩
theorem u3H (ha:DT X xq a fA):DW X xq (.BoolOp .Or [a] pos) fA:=⟨pw_or1 ha.out⟩
theorem u3p (ha:DT X xq a fA) (hb:DW X xq (.BoolOp .And (b::rest) pos) fB):DW X xq (.BoolOp .And (a::b::rest) pos) (fun ρ=>(fA ρ).bind fun k=>if k=true then fB ρ else .ok false) :=
 ⟨fun wh pins s σ H Q I ⟨B,F,ρ,R,q⟩=>pw_and ha.out hb.out wh pins s σ H Q I (seqT R q fun k H1 s1 R1 q1=>by
  cases k with
  | false=>exact q1 H1 s1
  | true=>exact ⟨B,F,ρ,R1,Res.all_mono q1 (fun k q H2 s2=>q H2 (s1.trans s2)) fun _ e=>e⟩)⟩
theorem u4x (ha:DT X xq a fA) (hb:DW X xq (.BoolOp .Or (b::rest) pos) fB):DW X xq (.BoolOp .Or (a::b::rest) pos) (fun ρ=>(fA ρ).bind fun k=>if k=true then .ok true else fB ρ) :=
 ⟨fun wh pins s σ H Q I ⟨B,F,ρ,R,q⟩=>pw_or ha.out hb.out wh pins s σ H Q I (seqT R q fun k H1 s1 R1 q1=>by
  cases k with
  | true=>exact q1 H1 s1
  | false=>exact ⟨B,F,ρ,R1,Res.all_mono q1 (fun k q H2 s2=>q H2 (s1.trans s2)) fun _ e=>e⟩)⟩
theorem u0b:DA X xq [] (fun _=>.ok []):=⟨fun pos pins s σ H Q I ⟨B,F,ρ,R,q⟩=>u8E pos pins s σ H Q I (q [] F H (Stp.refl R.fh) .nil),rfl⟩
theorem u0a (ha:DE X xq e fe) (hr:DA X xq es fs) (hs:notStar e=true:=by rfl):DA X xq (e::es) (fun ρ=>(fe ρ).bind fun d=>(fs ρ).bind fun ds=>.ok (d::ds)) :=
 ⟨fun pos pins s σ H Q I ⟨B,F,ρ,R,q⟩=>pac ha.out hr.out hs pos pins s σ H Q I (seqE R q fun d v F1 H1 s1 R1 p1 q1=>seqA R1 q1 fun ds vs F2 H2 s2 R2 p2 q2 =>
  q2 (v::vs) F2 H2 (s1.trans s2) (.cons (p1.same s2.ff) p2)),by rw [List.all_cons,hs,hr.ns];rfl⟩
noncomputable def szD {α:Type} (ds:List D) (k:Res α):Res α:=if ds.length≤sizeLine then k else .bad
theorem v0y {α:Type}{ds:List D}{k:Res α}{P:α→Prop}{E:D→Prop} (h:(szD ds k).all P E):ds.length≤sizeLine∧k.all P E:=by
 unfold szD at h
 by_cases q:ds.length≤sizeLine
 ·rw [if_pos q] at h;exact ⟨q,h⟩
 ·rw [if_neg q] at h;exact h.elim
theorem u0f {x1} (h:DA X xq es fs):DE X xq (.Tuple es x1 pos) (fun ρ=>(fs ρ).bind fun ds=>szD ds (.ok (.tup ds))) :=
 DE.of (pe_tup h.out) fun B F ρ σ H Q R q=>seqA R q fun ds vs F1 H1 s1 R1 p1 q1=>by
  obtain ⟨hz,q2⟩:=v0y q1
  exact ⟨p1.length ▸ hz,fun p n=>q2 _ _ _ (s1.trans (Stp.new R1.fh n)) (.tup (.inl (.inl u0k)) (p1.same (Stp.new R1.fh n).ff))⟩
theorem u0H (h:DA X xq es fs):DE X xq (.List es pos) (fun ρ=>(fs ρ).bind fun ds=>szD ds (.ok (.lst ds))) :=
 DE.of (v3n h.out) fun B F ρ σ H Q R q=>seqA R q fun ds vs F1 H1 s1 R1 p1 q1=>by
  obtain ⟨hz,q2⟩:=v0y q1
  exact ⟨p1.length ▸ hz,fun p n=>q2 _ _ _ (s1.trans (Stp.new R1.fh n)) (.lst (.inl u0k) (p1.same (Stp.new R1.fh n).ff))⟩
theorem u5c (h:DA X xq es fs):DN X xq (.List es pos) (fun ρ=>(fs ρ).bind fun ds=>szD ds (.ok (.l ds))) :=
 ⟨fun pins s σ H Q I ⟨B,F,ρ,R,q⟩=>v3n h.out pins s σ H Q I (seqA R q fun ds vs F1 H1 s1 R1 p1 q1=>by
  obtain ⟨hz,q2⟩:=v0y q1
  refine ⟨p1.length ▸ hz,fun p n=>q2 p _ F1 _ (s1.trans (Stp.only R1.fh (u0q n))) (R1.fh.free n) (s1.hh.free n) u0k (.l p1)⟩)⟩
theorem DN.de {f:Rho→Res OD} (h:DN X xq e f):DE X xq e (fun ρ=>(f ρ).bind fun o=>.ok o.toD) :=
 ⟨fun pins s σ H Q I ⟨B,F,ρ,R,q⟩=>h.out pins s σ H Q I ⟨B,F,ρ,R,Res.all_mono (Res.all_bind.mp q) (fun o q1 a hh F' H' s1 n1 n2 e1 r1=>by
  have s2:Stp F H (upd F' a hh) H':=⟨s1.ff.trans (u0q n1),fun b u x=>by
   unfold upd at x
   by_cases z:b=a
   ·rw [if_pos z] at x;cases x;subst z;exact e1
   ·rw [if_neg z] at x;exact s1.fh b u x,s1.hh,fun b x y=>by
   unfold upd
   by_cases z:b=a
   ·subst z;exact absurd n2 y
   ·rw [if_neg z];exact s1.no b x y⟩
  exact q1 _ _ _ s2 ((Ro.same (u0q n1) r1).rp u0k)) fun _ e=>e⟩⟩
end
inductive Out where
 | nx (ρ:Rho) | rt (d:D) | bk (ρ:Rho) | ct (ρ:Rho) | er (x:D) (ρ:Rho) | bad
namespace Out
noncomputable def all (o:Out) (N:Rho→Prop) (R:D→Prop) (B C:Rho→Prop) (E:Rho→D→Prop):Prop:=match o with
 | .nx ρ=>N ρ
 | .rt d=>R d
 | .bk ρ=>B ρ
 | .ct ρ=>C ρ
 | .er x ρ=>E ρ x
 | .bad=>False
noncomputable def andThen (o:Out) (f:Rho→Out):Out:=match o with
 | .nx ρ=>f ρ
 | o=>o
@[simp] theorem then_nx (ρ:Rho) (f:Rho→Out):(Out.nx ρ).andThen f=f ρ:=rfl
@[simp] theorem then_rt (d:D) (f:Rho→Out):(Out.rt d).andThen f=.rt d:=rfl
@[simp] theorem then_bk (ρ:Rho) (f:Rho→Out):(Out.bk ρ).andThen f=.bk ρ:=rfl
@[simp] theorem then_ct (ρ:Rho) (f:Rho→Out):(Out.ct ρ).andThen f=.ct ρ:=rfl
@[simp] theorem then_er (x:D) (ρ:Rho) (f:Rho→Out):(Out.er x ρ).andThen f=.er x ρ:=rfl
@[simp] theorem then_bad (f:Rho→Out):Out.bad.andThen f=.bad:=rfl
end Out
noncomputable def Res.go {α:Type} (r:Res α) (ρ:Rho) (k:α→Out):Out:=match r with
 | .ok a=>k a
 | .err x=>.er x (frz ρ)
 | .bad=>.bad
@[simp] theorem go_ok {α:Type} (a:α) (ρ:Rho) (k:α→Out):(Res.ok a).go ρ k=k a:=rfl
@[simp] theorem go_err {α:Type} (x:D) (ρ:Rho) (k:α→Out):(Res.err x).go ρ k=.er x (frz ρ):=rfl
@[simp] theorem go_bad {α:Type} (ρ:Rho) (k:α→Out):Res.bad.go ρ k=.bad:=rfl
theorem u1m {α:Type}{r:Res α}{ρ:Rho}{k:α→Out}{N:Rho→Prop}{R:D→Prop}{B C:Rho→Prop}{E:Rho→D→Prop} (h:(r.go ρ k).all N R B C E):r.all (fun a=>(k a).all N R B C E) (E (frz ρ)):=by
 cases r <;> exact h
theorem v2g {o:Out}{f:Rho→Out}{N:Rho→Prop}{R:D→Prop}{B C:Rho→Prop}{E:Rho→D→Prop} (h:(o.andThen f).all N R B C E):o.all (fun ρ=>(f ρ).all N R B C E) R B C E:=by
 cases o <;> exact h
structure OkS (K:PySem.W.Frag) (xq:XQ) (B:Hp×Hp) (T:Ends) (o:Out):Prop where
 out:o.all (fun ρ=>∀ σ F H,Rel K B ρ σ F H→T.nx σ H) (fun d=>∀ v F H,Stp B.1 B.2 F H→Rp K F v d→T.rt v H)
  (fun ρ=>∀ σ F H,Rel K B ρ σ F H→T.bk σ H) (fun ρ=>∀ σ F H,Rel K B ρ σ F H→T.ct σ H) (fun ρ x=>∀ v σ F H,Rel K B ρ σ F H→Rp K F v x→xq v σ H)
noncomputable def liftS (K:PySem.W.Frag) (xq:XQ) (f:Rho→Out):TS:=fun T σ H=>∃ B F ρ,Rel K B ρ σ F H∧OkS K xq B T (f ρ)
structure DS (X:Cx) (xq:XQ) (st:Stmt) (f:Rho→Out):Prop where
 out:PS X st (liftS X.K xq f)
structure DB (X:Cx) (xq:XQ) (sts:List Stmt) (f:Rho→Out):Prop where
 out:PSs X sts (liftS X.K xq f)
noncomputable def liftG (K:PySem.W.Frag) (ix:List Nat) (g:D→Rho→Res Rho):TG:=fun v σ H Q=>∃ B F ρ d,Rel K B ρ σ F H∧Rp K F v d ∧
 (g d ρ).all (fun ρ'=>∀ σ',Rel K B ρ' σ' F H→σ'.length=σ.length→(∀ j,j∉ix→σ'[j]?=σ[j]?)→Q σ' H) (fun _=>False)
noncomputable def liftGs (K:PySem.W.Frag) (ix:List Nat) (g:List D→Rho→Res Rho):TGs:=fun vs σ H Q=>∃ B F ρ ds,Rel K B ρ σ F H∧Rps K F vs ds ∧
 (g ds ρ).all (fun ρ'=>∀ σ',Rel K B ρ' σ' F H→σ'.length=σ.length→(∀ j,j∉ix→σ'[j]?=σ[j]?)→Q σ' H) (fun _=>False)
structure DG (X:Cx) (tg:Expr) (ix:List Nat) (g:D→Rho→Res Rho):Prop where
 out:PG X tg (liftG X.K ix g)
structure DGs (X:Cx) (tgs:List Expr) (ix:List Nat) (g:List D→Rho→Res Rho):Prop where
 out:PGs X tgs (liftGs X.K ix g)
structure Feed (K:PySem.W.Frag) (F:Hp) (J:It) (ds:List D):Prop where
 go:∀ i H,Same F H→i<ds.length→J.go i H
 yld:∀ i F1 H x H' d,Same F F1→Same F1 H→ds[i]?=some d→J.yld i H x H'→∃ F',Stp F1 H F' H'∧Rp K F' x d
 stop:∀ i H,Same F H→ds.length≤i→J.stop i H
noncomputable def liftI (K:PySem.W.Frag) (xq:XQ) (f:Rho→Res (List D)):TI:=fun σ H R=>∃ B F ρ,Rel K B ρ σ F H ∧
 (f ρ).all (fun ds=>∀ J F' H',Stp F H F' H'→Feed K F' J ds→R J H') (ErrK K xq B ρ σ)
structure DI (X:Cx) (xq:XQ) (tg iter:Expr) (f:Rho→Res (List D)):Prop where
 out:PI X tg iter (liftI X.K xq f)
theorem Feed.list {K:PySem.W.Frag}{F:Hp}{a:Addr}{xs:List V}{ds:List D} (h:SqL K F a xs) (r:Rps K F xs ds):Feed K F (Itl K a) ds where
 go i H e hi:=⟨xs,xs[i]'(r.length ▸ hi),e.seq h,by simp [r.length ▸ hi]⟩
 yld i F1 H x H' d e1 e2 hd y:=by
  obtain ⟨rfl,y⟩:=y
  obtain ⟨v,hv,p⟩:=r.get hd
  have:xs[i]?=some x:=y xs ((e1.trans e2).seq h)
  rw [hv] at this;cases this
  exact ⟨F1,Stp.refl e2,p.same e1⟩
 stop i H e hi:=⟨xs,e.seq h,r.length ▸ hi⟩
theorem Feed.tup {K:PySem.W.Frag}{F:Hp}{a:Addr}{xs:List V}{ds:List D} (h:SqT K F a xs) (r:Rps K F xs ds):Feed K F (Itt K a) ds where
 go i H e hi:=⟨xs,xs[i]'(r.length ▸ hi),e.seqT h,by simp [r.length ▸ hi]⟩
 yld i F1 H x H' d e1 e2 hd y:=by
  obtain ⟨rfl,y⟩:=y
  obtain ⟨v,hv,p⟩:=r.get hd
  have:xs[i]?=some x:=y xs ((e1.trans e2).seqT h)
  rw [hv] at this;cases this
  exact ⟨F1,Stp.refl e2,p.same e1⟩
 stop i H e hi:=⟨xs,e.seqT h,r.length ▸ hi⟩
theorem u4M:(1:Nat)≤sizeLine:=by decide
noncomputable def chars (z:Str):List D:=z.cps.toList.map fun c=>.str ⟨#[c]⟩
theorem Feed.str {K:PySem.W.Frag}{F:Hp} (z:Str):Feed K F (Its z) (chars z) where
 go i H e hi:=by
  show i<z.cps.size
  simpa [chars] using hi
 yld i F1 H x H' d e1 e2 hd y:=by
  obtain ⟨rfl,c,hc,rfl⟩:=y
  have e3:z.cps.toList[i]?=some c:=by simpa using hc
  unfold chars at hd
  rw [List.getElem?_map,e3] at hd
  cases hd
  exact ⟨F1,Stp.refl e2,.str (by show (#[c]:Array Nat).size≤sizeLine;exact u4M)⟩
 stop i H e hi:=by
  show z.cps.size≤i
  simpa [chars] using hi
noncomputable def intL (lo:Int) (n:Nat):List D:=(List.range n).map fun (i:Nat)=>.int (lo+(i:Int))
theorem Feed.rng {K:PySem.W.Frag}{F:Hp} (lo:Int) (n:Nat):Feed K F (Itr lo n) (intL lo n) where
 go i H e hi:=by
  show i<n
  simpa [intL] using hi
 yld i F1 H x H' d e1 e2 hd y:=by
  obtain ⟨rfl,rfl⟩:=y
  have hi:i<n:=by
   have:=(List.getElem?_eq_some_iff.mp hd).1
   simpa [intL] using this
  unfold intL at hd
  rw [List.getElem?_map,List.getElem?_range hi] at hd
  cases hd
  exact ⟨F1,Stp.refl e2,.int _⟩
 stop i H e hi:=by
  show n≤i
  simpa [intL] using hi
section
variable {X:Cx}{xq:XQ}{st:Stmt}{sts:List Stmt}{e c tg:Expr}{fe:Rho→Res D}{fT:Rho→Res Bool}{f g:Rho→Out}{pos pos':Pos}{x:Str}
theorem DS.of {t:TS} (h:PS X st t) (k:∀ B F ρ σ H T,Rel X.K B ρ σ F H→OkS X.K xq B T (f ρ)→t T σ H):DS X xq st f :=
 ⟨fun pins s σ H T I ⟨B,F,ρ,R,q⟩=>h pins s σ H T I (k B F ρ σ H T R q)⟩
theorem u0l:DB X xq [] (fun ρ=>.nx ρ):=⟨fun pins s σ H T I ⟨B,F,ρ,R,q⟩=>pss_nil pins s σ H T I (q.out σ F H R)⟩
theorem u0e (h:DS X xq st f):DB X xq [st] f:=⟨v0P h.out⟩
theorem u0d (h1:DS X xq st f) (h2:DB X xq sts g):DB X xq (st::sts) (fun ρ=>(f ρ).andThen g) :=
 ⟨fun pins s σ H T I ⟨B,F,ρ,R,q⟩=>v2u h1.out h2.out pins s σ H T I ⟨B,F,ρ,R,⟨by
  have q1:=v2g q.out
  generalize f ρ=o at q1
  cases o with
  | nx ρ1=>exact fun σ1 F1 H1 R1=>⟨B,F1,ρ1,R1,⟨q1⟩⟩
  | rt d=>exact q1
  | bk r=>exact q1
  | ct r=>exact q1
  | er x r=>exact q1
  | bad=>exact q1⟩⟩⟩
theorem errOf {K:PySem.W.Frag}{B:Hp×Hp}{ρ:Rho}{σ:St}{x:D} (h:∀ v σ F H,Rel K B (frz ρ) σ F H→Rp K F v x→xq v σ H):ErrK K xq B ρ σ x:=fun v F H R p=>h v σ F H R p
theorem u0h (he:DE X xq e fe):DS X xq (.Return (some e) pos) (fun ρ=>(fe (frz ρ)).go ρ fun d=>.rt d) :=
 DS.of (ps_ret he.out) fun B F ρ σ H T R q=>by
  obtain ⟨F1,e1,R1⟩:=R.frz
  exact ⟨B,F1,frz ρ,R1,Res.all_mono (u1m q.out) (fun d q v F' H' s p=>q v F' H' (R1.st.trans s) p) fun x q=>(errOf q).frz⟩
theorem u5b (he:DE X xq e fe) (hs:swapsWith e none pos.line X.env=pure false:=by rfl):DS X xq (.Expr e pos) (fun ρ=>(fe (frz ρ)).go ρ fun _=>.nx ρ) :=
 DS.of (u8d he.out hs) fun B F ρ σ H T R q=>by
  obtain ⟨F1,e1,R1⟩:=R.frz
  exact ⟨B,F1,frz ρ,R1,Res.all_mono (u1m q.out) (fun d q v F' H' s p=>q σ F H' (R.step (Stp.only R.fh s.hh))) fun x q=>(errOf q).frz⟩
theorem u0y {a b:List Stmt} (hc:DT X xq c fT) (ha:DB X xq a f) (hb:DB X xq b g):DS X xq (.If c a b pos) (fun ρ=>(fT (frz ρ)).go ρ fun k=>if k=true then f ρ else g ρ) :=
 DS.of (ps_if hc.out ha.out hb.out) fun B F ρ σ H T R q=>⟨B,F,ρ,R,Res.all_mono (u1m q.out) (fun k q H' s=>by
  cases k with
  | true=>exact ⟨B,F,ρ,R.step s,⟨q⟩⟩
  | false=>exact ⟨B,F,ρ,R.step s,⟨q⟩⟩) fun x q=>errOf q⟩
theorem ds_n {i:Nat} (hN:X.N.Nodup) (he:DE X xq e fe) (hi:X.N.findIdx? (fun y=>y==x)=some i:=by rfl) (hx:Loc X.env.scope x:=by first | exact Or.inl rfl | exact Or.inr rfl) (hs:swapsWith e (some (.Name x pos')) pos.line X.env=pure false:=by rfl)
  (hf:X.fn x=true∨X.env.scope.names.lookup x=some .local:=by first | exact .inl rfl | exact .inr rfl):DS X xq (.Assign [.Name x pos'] e pos) (fun ρ=>(fe ρ).go ρ fun d=>.nx (ρ.set i (some (.val d)))) :=
 DS.of (ps_n hN he.out hi hx hs hf) fun B F ρ σ H T R q=>⟨B,F,ρ,R,Res.all_mono (u1m q.out) (fun d q v F' H' s p=>q _ F' H' ((R.step s).set p)) fun x q=>errOf q⟩
theorem u2O {i:Nat}{fn:Rho→Res OD} (hN:X.N.Nodup) (he:DN X xq e fn) (hi:X.N.findIdx? (fun y=>y==x)=some i:=by rfl) (hx:Loc X.env.scope x:=by first | exact Or.inl rfl | exact Or.inr rfl) (hs:swapsWith e (some (.Name x pos')) pos.line X.env=pure false:=by rfl)
  (hf:X.fn x=true∨X.env.scope.names.lookup x=some .local:=by first | exact .inl rfl | exact .inr rfl):DS X xq (.Assign [.Name x pos'] e pos) (fun ρ=>(fn ρ).go ρ fun o=>.nx (ρ.set i (some (.own o)))) :=
 DS.of (ps_n hN he.out hi hx hs hf) fun B F ρ σ H T R q=>⟨B,F,ρ,R,Res.all_mono (u1m q.out) (fun o q a h F' H' s n1 n2 e1 r1=>q _ F' H' ((R.step s).setOwn n1 (R.st.hh.free n2) e1 r1 fun j u w z=>by
   obtain ⟨b,hh,p1,p2,p3,p4,p5⟩:=R.own j u w
   rw [p1] at z;cases z;rw [p4] at n2;cases n2)) fun x q=>errOf q⟩
theorem dg_n {i:Nat} (hN:X.N.Nodup) (hi:X.N.findIdx? (fun y=>y==x)=some i:=by rfl) (hx:Loc X.env.scope x:=by first | exact Or.inl rfl | exact Or.inr rfl) (hf:X.fn x=true∨X.env.scope.names.lookup x=some .local:=by first | exact .inl rfl | exact .inr rfl) :
  DG X (.Name x pos) [i] (fun d ρ=>.ok (ρ.set i (some (.val d)))) :=
 ⟨fun pins s σ H v u Q I rv ⟨B,F,ρ,d,R,p,q⟩=>pg_n hN hi hx hf pins s σ H v u Q I rv (q (σ.set i (some v)) (R.set p) (by simp) fun j hj=>by
  rw [u1y (fun z=>hj (by simp [z]))])⟩
theorem u3W:DGs X [] [] (fun ds ρ=>match ds with | []=>.ok ρ | _=>.bad) :=
 ⟨fun pins s σ H vs us Q I rv ⟨B,F,ρ,ds,R,p,q⟩=>pgs_nil pins s σ H vs us Q I rv (by
  cases p with
  | nil=>exact ⟨rfl,q σ R rfl fun _ _=>rfl⟩
  | cons _ _=>exact q.elim)⟩
theorem u1t {ix jx:List Nat}{tgs:List Expr}{g:D→Rho→Res Rho}{gs:List D→Rho→Res Rho} (h1:DG X e ix g) (h2:DGs X tgs jx gs) (hs:(assignEach (e::tgs) X.env).map (·.2)=assign e X.env::(assignEach tgs X.env).map (·.2):=by rfl) :
  DGs X (e::tgs) (ix++jx) (fun ds ρ=>match ds with | d::r=>(g d ρ).bind (gs r) | _=>.bad) :=
 ⟨fun pins s σ H vs us Q I rv ⟨B,F,ρ,ds,R,p,q⟩=>v2w h1.out h2.out hs pins s σ H vs us Q I rv (by
  cases p with
  | nil=>exact q.elim
  | cons p1 p2 =>
   refine ⟨_,_,rfl,B,F,ρ,_,R,p1,Res.all_mono (Res.all_bind.mp q) (fun ρ1 q1 σ1 R1 l1 k1=>⟨B,F,ρ1,_,R1,p2,Res.all_mono q1 (fun ρ2 q2 σ2 R2 l2 k2=>q2 σ2 R2 (l2.trans l1) fun j hj=>?_) fun _ e=>e⟩) fun _ e=>e⟩
   rw [k2 j fun z=>hj (List.mem_append_right _ z),k1 j fun z=>hj (List.mem_append_left _ z)])⟩
noncomputable def asT (n:Nat):D→Res (List D)
 | .tup ds=>if ds.length=n then .ok ds else .bad
 | _=>.bad
theorem u9h {k n:Nat}{ix:List Nat}{tgs:List Expr}{gs:List D→Rho→Res Rho} (hc:X.calm=true) (h:DGs X tgs ix gs) (hn:(assignEach tgs X.env).length=n:=by rfl) (hst:(assignEach tgs X.env).findIdx? (·.1)=none:=by rfl) :
  DG X (.Tuple tgs k pos) ix (fun d ρ=>(asT n d).bind fun ds=>gs ds ρ) :=
 ⟨fun pins s σ H v u Q I rv ⟨B,F,ρ,d,R,p,q⟩=>pg_tup hc h.out hn hst pins s σ H v u Q I rv (by
  have q1:=Res.all_bind.mp q
  cases p with
  | @tup a xs ds hq hs =>
   unfold asT at q1
   dsimp only at q1
   by_cases z:ds.length=n
   ·rw [if_pos z] at q1
    exact ⟨a,xs,rfl,R.fh.seqT hq,hs.length.trans z,B,F,ρ,ds,R,hs,q1⟩
   ·rw [if_neg z] at q1;exact q1.elim
  | _=>exact q1.elim)⟩
theorem v3t {k:Nat}{tgs:List Expr}{ix:List Nat}{g:D→Rho→Res Rho} (he:DE X xq e fe) (hg:DG X (.Tuple tgs k pos') ix g) (hs:swapsWithSole [Expr.Tuple tgs k pos'] e pos.line X.env=pure false:=by rfl) (hw:swappedStores [Expr.Tuple tgs k pos'] e X.env=pure none:=by rfl) :
  DS X xq (.Assign [.Tuple tgs k pos'] e pos) (fun ρ=>(fe ρ).go ρ fun d=>(noE (g d ρ)).go ρ fun ρ'=>.nx ρ') :=
 DS.of (ps_asg he.out hg.out hs hw) fun B F ρ σ H T R q=>⟨B,F,ρ,R,Res.all_mono (u1m q.out) (fun d q v F' H' s p=>⟨B,F',ρ,d,R.step s,p,by
  have q1:=u1m q
  generalize g d ρ=r at q1
  cases r with
  | ok ρ'=>exact fun σ' R' l k=>q1 σ' F' H' R'
  | err x=>exact q1
  | bad=>exact q1⟩) fun x q=>errOf q⟩
theorem Stp.rebase {B:Hp×Hp}{F H F' H':Hp} (st:Stp B.1 B.2 F H) (s:Stp F B.2 F' H'):Stp B.1 B.2 F' H' :=
 ⟨st.ff.trans s.ff,s.fh,s.hh,fun a n z=>s.no a (st.no a n z) z⟩
theorem Rel.rebase {K:PySem.W.Frag}{B:Hp×Hp}{ρ:Rho}{σ:St}{F H:Hp} (R:Rel K B ρ σ F H):Rel K (F,B.2) ρ σ F H :=
 ⟨⟨Same.refl F,R.st.fh,R.st.hh,fun _ n _=>n⟩,R.len,R.val,R.own,R.dis⟩
theorem Rel.unbase {K:PySem.W.Frag}{B:Hp×Hp}{ρ:Rho}{σ:St}{F H F' H':Hp} (st:Stp B.1 B.2 F H) (R:Rel K (F,B.2) ρ σ F' H'):Rel K B ρ σ F' H' :=
 ⟨st.rebase R.st,R.len,R.val,R.own,R.dis⟩
theorem OkS.rebase {K:PySem.W.Frag}{B:Hp×Hp}{F H:Hp}{T:Ends}{o:Out} (st:Stp B.1 B.2 F H) (q:OkS K xq B T o):OkS K xq (F,B.2) T o:=⟨by
 have q:=q.out
 cases o with
 | nx ρ=>exact fun σ F' H' R=>q σ F' H' (R.unbase st)
 | rt d=>exact fun v F' H' s p=>q v F' H' (st.rebase s) p
 | bk ρ=>exact fun σ F' H' R=>q σ F' H' (R.unbase st)
 | ct ρ=>exact fun σ F' H' R=>q σ F' H' (R.unbase st)
 | er x ρ=>exact fun v σ F' H' R p=>q v σ F' H' (R.unbase st) p
 | bad=>exact q⟩
noncomputable def forD (g:D→Rho→Res Rho) (tb:Rho→Out):List D→Rho→Out
 | [],ρ=>.nx ρ
 | d::ds,ρ=>(noE (g d ρ)).go ρ fun ρ1=>match tb ρ1 with
  | .nx ρ2=>forD g tb ds ρ2
  | .ct ρ2=>forD g tb ds ρ2
  | .bk ρ2=>.nx ρ2
  | o=>o
theorem u1L {iter:Expr}{body:List Stmt}{fi:Rho→Res (List D)}{ix:List Nat}{g:D→Rho→Res Rho}{tb:Rho→Out} (hc:X.calm=true) (hi:DI X xq tg iter fi) (hg:DG X tg ix g) (hb:DB X xq body tb)
  (hp:PassesOwn (model X.prog X.w) X.A X.env X.xe:=by exact PassesOwn.never) (hs:∀ x,foldedSetIterable iter X.env x=pure x:=by intro _;rfl) :
  DS X xq (.For tg iter body [] pos) (fun ρ=>(fi ρ).go ρ fun ds=>forD g tb ds ρ) :=
 DS.of (ps_for hp hc hi.out hg.out hb.out hs) fun B F ρ σ H T R q=>⟨B,F,ρ,R,Res.all_mono (u1m q.out) (fun ds q J F0 H0 s0 fd=>by
  have R0:=R.step s0
  obtain ⟨C,hC⟩:∃ C:Hp×Hp,C=(F0,B.2):=⟨_,rfl⟩
  refine ⟨fun i m σ' H'=>m=ds.length - i∧i≤ds.length∧∃ ρ' F',Rel X.K C ρ' σ' F' H'∧OkS X.K xq C T (forD g tb (ds.drop i) ρ'),
   ⟨ds.length,rfl,Nat.zero_le _,ρ,F0,hC ▸ R0.rebase,hC ▸ OkS.rebase R0.st ⟨q⟩⟩,?_⟩
  rintro i m σ' H' ⟨rfl,hi,ρ',F',R',q'⟩
  have e0:Same F0 F':=by have:=R'.st.ff;rw [hC] at this;exact this
  by_cases hlt:i<ds.length
  ·right
   refine ⟨fd.go i H' (e0.trans R'.fh) hlt,fun σ2 H2=>i+1≤ds.length∧∃ ρ2 F2,Rel X.K C ρ2 σ2 F2 H2∧OkS X.K xq C T (forD g tb (ds.drop (i+1)) ρ2),
    fun σ2 H2 p=>⟨ds.length - (i+1),by omega,rfl,p.1,p.2⟩,fun x H2 y=>?_⟩
   have hd:ds[i]?=some ds[i]:=by simp [hlt]
   obtain ⟨F2,s2,p2⟩:=fd.yld i F' H' x H2 _ e0 R'.fh hd y
   have eqn:ds.drop i=ds[i]::ds.drop (i+1):=by rw [List.drop_eq_getElem_cons hlt]
   rw [eqn] at q'
   have q2:=u1m q'.out
   refine ⟨C,F2,ρ',_,R'.step s2,p2,?_⟩
   generalize g ds[i] ρ'=r at q2
   cases r with
   | err x=>exact q2
   | bad=>exact q2
   | ok ρ1 =>
    intro σ3 R3 l3 k3
    refine ⟨C,F2,ρ1,R3,⟨?_⟩⟩
    have q3:(match tb ρ1 with | .nx ρ2=>forD g tb (ds.drop (i+1)) ρ2 | .ct ρ2=>forD g tb (ds.drop (i+1)) ρ2 | .bk ρ2=>.nx ρ2 | o=>o).all _ _ _ _ _:=q2
    generalize tb ρ1=o at q3
    cases o with
    | nx ρ2=>exact fun σ4 F4 H4 R4=>⟨hlt,ρ2,F4,R4,⟨q3⟩⟩
    | ct ρ2=>exact fun σ4 F4 H4 R4=>⟨hlt,ρ2,F4,R4,⟨q3⟩⟩
    | bk ρ2=>exact q3
    | rt d=>exact q3
    | er x r=>exact q3
    | bad=>exact q3
  ·left
   have e:i=ds.length:=by omega
   subst e
   rw [List.drop_length] at q'
   exact ⟨fd.stop _ H' (e0.trans R'.fh) (Nat.le_refl _),q'.out σ' F' H' R'⟩) fun x q=>errOf q⟩
end
section
variable {X:Cx}
theorem Inv.lstR {pins:List (Addr×Obj)}{σ:St}{H:Hp}{s:Shared}{l:Addr}{xs:List V} (I:Inv X pins σ H s) (h:Rd H l (.lst xs)) :
  xs.length≤sizeLine∧∃ (its:List Value) (n:Nat),Vals xs its∧xs.length=its.length∧s.heap.get? l=some { cls:=.type "list",data:=.seq its.toArray n }:=by
 obtain ⟨z,its,n,r,e⟩:=h.ok I.hok
 exact ⟨z,its,n,r,r.length,e⟩
noncomputable def rCatR:R2:=fun x y H Q=>∃ l b xs zs,x=.ref l∧y=.ref b∧Rd H l (.lst xs)∧Rd H b (.lst zs)∧xs.length+zs.length≤sizeLine∧∀ p,H p=none→Q (.ref p) (upd H p (.lst (xs++zs)))
theorem op_catR:OpR X (binaryOp .Add) rCatR:=by
 intro pins s σ H x y v u Q I rx ry h
 obtain ⟨l,b,xs,zs,rfl,rfl,hH,hB,hz,q⟩:=h
 cases rx
 cases ry
 obtain ⟨z,its,n,r,hl,e⟩:=I.lstR hH
 obtain ⟨z2,its2,n2,r2,hl2,e2⟩:=I.lstR hB
 refine PySem.P.add_list e e2 ?_ (by rw [List.size_toArray,List.size_toArray,← hl,← hl2];exact hz)
 rw [show its.toArray++its2.toArray=(its++its2).toArray by simp]
 exact ⟨.ref _,_,I.lnew (t':=s.toks) (r.append r2) (by rw [List.length_append];exact hz),rfl,q _ I.fresh⟩
noncomputable def gd {α:Type} (c:Prop) [Decidable c] (r:Res α):Res α:=if c then r else .bad
theorem u3G {α:Type}{c:Prop} [Decidable c] {r:Res α}{P:α→Prop}{E:D→Prop} (h:(gd c r).all P E):c∧r.all P E:=by
 unfold gd at h
 by_cases q:c
 ·rw [if_pos q] at h;exact ⟨q,h⟩
 ·rw [if_neg q] at h;exact h.elim
@[simp] theorem u0K {α:Type}{c:Prop} [Decidable c] {r:Res α} (h:c):gd c r=r:=if_pos h
noncomputable def dAdd:D→D→Res D
 | .int i,.int j=>.ok (.int (i+j))
 | .str x,.str y=>gd (x.length+y.length≤sizeLine) (.ok (.str (x++y)))
 | .lst xs,.lst ys=>gd (xs.length+ys.length≤sizeLine) (.ok (.lst (xs++ys)))
 | _,_=>.bad
theorem u1h (x y:Str):(x++y).length=x.length+y.length:=by
 show (x.cps++y.cps).size=_
 rw [Array.size_append];rfl
theorem u0P:OpR X (binaryOp .Add) (rD X.K dAdd):=by
 intro pins s σ H x y v u Q I rx ry ⟨F,dx,dy,fh,px,py,q⟩
 cases px with
 | int i =>
  cases py with
  | int j=>exact op_add pins s σ H _ _ v u Q I rx ry ⟨i,j,rfl,rfl,q _ F H (Stp.refl fh) (.int _)⟩
  | _=>exact q.elim
 | str hx =>
  cases py with
  | str hy =>
   obtain ⟨hz,q⟩:=u3G q
   exact v0b pins s σ H _ _ v u Q I rx ry ⟨_,_,rfl,rfl,hz,q _ F H (Stp.refl fh) (.str (by rw [u1h];exact hz))⟩
  | _=>exact q.elim
 | lst hx rx' =>
  cases py with
  | lst hy ry' =>
   obtain ⟨hz,q⟩:=u3G q
   exact op_catR pins s σ H _ _ v u Q I rx ry ⟨_,_,_,_,rfl,rfl,hx.same fh,hy.same fh,by rw [rx'.length,ry'.length];exact hz,fun p n =>
    q _ _ _ (Stp.new fh n) (.lst (.inl u0k) ((rx'.append ry').same (Stp.new fh n).ff))⟩
  | _=>exact q.elim
 | _=>exact q.elim
noncomputable def dI (C:Int→Int→Prop) [∀ i j,Decidable (C i j)] (g:Int→Int→D):D→D→Res D
 | .int i,.int j=>gd (C i j) (.ok (g i j))
 | _,_=>.bad
theorem v0Y {f:Value→Value→Sem Value}{C:Int→Int→Prop} [∀ i j,Decidable (C i j)] {g:Int→Int→V}{g':Int→Int→D} (h:OpR X f (rI C g)) (hg:∀ F i j,Rp X.K F (g i j) (g' i j)):OpR X f (rD X.K (dI C g')):=by
 intro pins s σ H x y v u Q I rx ry ⟨F,dx,dy,fh,px,py,q⟩
 cases px with
 | int i =>
  cases py with
  | int j =>
   obtain ⟨hz,q⟩:=u3G q
   exact h pins s σ H _ _ v u Q I rx ry ⟨i,j,rfl,rfl,hz,q _ F H (Stp.refl fh) (hg F i j)⟩
  | _=>exact q.elim
 | _=>exact q.elim
noncomputable def dI0 (g:Int→Int→D):D→D→Res D
 | .int i,.int j=>.ok (g i j)
 | _,_=>.bad
theorem u5E {f:Value→Value→Sem Value}{g:Int→Int→V}{g':Int→Int→D} (h:OpR X f (rI0 g)) (hg:∀ F i j,Rp X.K F (g i j) (g' i j)):OpR X f (rD X.K (dI0 g')):=by
 intro pins s σ H x y v u Q I rx ry ⟨F,dx,dy,fh,px,py,q⟩
 cases px with
 | int i =>
  cases py with
  | int j=>exact h pins s σ H _ _ v u Q I rx ry ⟨i,j,rfl,rfl,q _ F H (Stp.refl fh) (hg F i j)⟩
  | _=>exact q.elim
 | _=>exact q.elim
noncomputable instance (i j:Int):Decidable (CMul i j):=by unfold CMul;infer_instance
noncomputable instance (i j:Int):Decidable (CDivB i j):=by unfold CDivB;infer_instance
noncomputable instance (i j:Int):Decidable (CPow i j):=by unfold CPow;infer_instance
noncomputable abbrev dSub:=dI0 fun i j=>.int (i - j)
noncomputable abbrev dMul:=dI CMul fun i j=>.int (i*j)
noncomputable abbrev dDiv:=dI CDivB fun i j=>.int (i / j)
noncomputable abbrev dMod:=dI (fun _ j=>0<j) fun i j=>.int (i%j)
noncomputable abbrev dPow:=dI CPow fun i j=>.int (i^j.toNat)
noncomputable abbrev dLt:=dI0 fun i j=>.bl (decide (i<j))
noncomputable abbrev dLe:=dI0 fun i j=>.bl (decide (i≤j))
noncomputable abbrev dGt:=dI0 fun i j=>.bl (decide (j<i))
noncomputable abbrev dGe:=dI0 fun i j=>.bl (decide (j≤i))
theorem v0W:OpR X (binaryOp .Sub) (rD X.K dSub):=u5E op_sub fun _ _ _=>.int _
theorem o_mul:OpR X (binaryOp .Mult) (rD X.K dMul):=v0Y op_mul fun _ _ _=>.int _
theorem u6X:OpR X (binaryOp .FloorDiv) (rD X.K dDiv):=v0Y v2D fun _ _ _=>.int _
theorem u1k:OpR X (binaryOp .Mod) (rD X.K dMod):=v0Y op_mod fun _ _ _=>.int _
theorem o_pow:OpR X (binaryOp .Pow) (rD X.K dPow):=v0Y op_pow fun _ _ _=>.int _
theorem o_lt:OpR X (compareOp .Lt) (rD X.K dLt):=u5E op_lt fun _ _ _=>.bl _
theorem o_le:OpR X (compareOp .LtE) (rD X.K dLe):=u5E op_le fun _ _ _=>.bl _
theorem o_gt:OpR X (compareOp .Gt) (rD X.K dGt):=u5E op_gt fun _ _ _=>.bl _
theorem o_ge:OpR X (compareOp .GtE) (rD X.K dGe):=u5E op_ge fun _ _ _=>.bl _
noncomputable def isN:D→Bool
 | .non=>true
 | _=>false
noncomputable def dIs:D→D→Res D
 | d,.non=>.ok (.bl (isN d))
 | _,_=>.bad
noncomputable def dIsNot:D→D→Res D
 | d,.non=>.ok (.bl (!isN d))
 | _,_=>.bad
theorem Rp.isN {K:PySem.W.Frag}{F:Hp}{v:V}{d:D} (h:Rp K F v d):decide (v=.non)=L2.isN d:=by
 cases h <;> first | rfl | exact decide_eq_false fun e=>nomatch e
theorem o_is:OpR X (compareOp .Is) (rD X.K dIs):=by
 intro pins s σ H x y v u Q I rx ry ⟨F,dx,dy,fh,px,py,q⟩
 cases py with
 | non =>
  have q':∀ v F' H',Stp F H F' H'→Rp X.K F' v (.bl (isN dx))→Q v H':=by cases dx <;> exact q
  exact op_isN pins s σ H _ _ v u Q I rx ry ⟨rfl,q' _ F H (Stp.refl fh) (by rw [px.isN];exact .bl _)⟩
 | _=>cases dx <;> exact q.elim
theorem v0X:OpR X (compareOp .IsNot) (rD X.K dIsNot):=by
 intro pins s σ H x y v u Q I rx ry ⟨F,dx,dy,fh,px,py,q⟩
 cases py with
 | non =>
  have q':∀ v F' H',Stp F H F' H'→Rp X.K F' v (.bl (!isN dx))→Q v H':=by cases dx <;> exact q
  exact op_notN pins s σ H _ _ v u Q I rx ry ⟨rfl,q' _ F H (Stp.refl fh) (by rw [px.isN];exact .bl _)⟩
 | _=>cases dx <;> exact q.elim
mutual
noncomputable def D.py:D→Option PyData
 | .non=>some .none
 | .bl b=>some (.bool b)
 | .int i=>some (.int i)
 | .str z=>some (.str z)
 | .lst ds=>(D.pys ds).map .list
 | .tup ds=>(D.pys ds).map .tuple
 | _=>none
noncomputable def D.pys:List D→Option (List PyData)
 | []=>some []
 | d::ds=>match D.py d,D.pys ds with
  | some a,some as=>some (a::as)
  | _,_=>none
end
mutual
theorem Rp.rd {K:PySem.W.Frag}{H:Hp}:∀ {v:V}{d:D}{a:PyData},Rp K H v d→d.py=some a→RdV K H v a
 | _,_,_,.non,e=>by simp only [D.py] at e;cases e;exact .non
 | _,_,_,.bl b,e=>by simp only [D.py] at e;cases e;exact .bl b
 | _,_,_,.int i,e=>by simp only [D.py] at e;cases e;exact .int i
 | _,_,_,.str _,e=>by simp only [D.py] at e;cases e;exact .str _
 | _,_,_,.ty _,e=>by simp only [D.py] at e;cases e
 | _,_,_,.lst (ds:=ds) hq hs,e=>by
  simp only [D.py] at e
  cases q:D.pys ds with
  | none=>rw [q] at e;cases e
  | some as=>rw [q] at e;cases e;exact .lst (.inl hq) (Rps.rd hs q)
 | _,_,_,.tup (ds:=ds) hq hs,e=>by
  simp only [D.py] at e
  cases q:D.pys ds with
  | none=>rw [q] at e;cases e
  | some as=>rw [q] at e;cases e;exact .tup hq (Rps.rd hs q)
 | _,_,_,.dK _ _,e=>by simp only [D.py] at e;cases e
 | _,_,_,.ins _ _,e=>by simp only [D.py] at e;cases e
 | _,_,_,.exc _ _ _,e=>by simp only [D.py] at e;cases e
 | _,_,_,.dn _ _,e=>by simp only [D.py] at e;cases e
theorem Rps.rd {K:PySem.W.Frag}{H:Hp}:∀ {vs:List V}{ds:List D}{as:List PyData},Rps K H vs ds→D.pys ds=some as→RdVs K H vs as
 | _,_,_,.nil,e=>by simp only [D.pys] at e;cases e;exact .nil
 | _,_,_,.cons (d:=d) (ds:=ds) h hs,e=>by
  simp only [D.pys] at e
  cases q:d.py with
  | none=>rw [q] at e;cases e
  | some a =>
   cases q2:D.pys ds with
   | none=>rw [q,q2] at e;cases e
   | some as=>rw [q,q2] at e;cases e;exact .cons (Rp.rd h q) (Rps.rd hs q2)
end
noncomputable def cmpD (d:D):Res PyData:=match d.py with
 | some a=>gd (SeqAt.shaped a=true) (.ok a)
 | none=>.bad
theorem u3Z {d:D}{P:PyData→Prop}{E:D→Prop} (h:(cmpD d).all P E):∃ a,d.py=some a∧SeqAt.shaped a=true∧P a:=by
 unfold cmpD at h
 split at h
 ·rename_i a q;obtain ⟨hz,h⟩:=u3G h;exact ⟨a,q,hz,h⟩
 ·exact h.elim
noncomputable def dEq (x y:D):Res D:=(cmpD x).bind fun a=>(cmpD y).bind fun b=>.ok (.bl (PyData.eqv a b))
noncomputable def dNe (x y:D):Res D:=(cmpD x).bind fun a=>(cmpD y).bind fun b=>.ok (.bl (!PyData.eqv a b))
theorem o_eq (hu:X.A.units+64<cLine):OpR X (compareOp .Eq) (rD X.K dEq):=by
 intro pins s σ H x y v u Q I rx ry ⟨F,dx,dy,fh,px,py,q⟩
 obtain ⟨a,ea,sa,q⟩:=u3Z (Res.all_bind.mp q)
 obtain ⟨b,eb,sb,q⟩:=u3Z (Res.all_bind.mp q)
 exact op_eqD hu pins s σ H _ _ v u Q I rx ry ⟨a,b,(px.rd ea).same fh,(py.rd eb).same fh,sa,sb,q _ F H (Stp.refl fh) (.bl _)⟩
theorem o_ne (hu:X.A.units+64<cLine):OpR X (compareOp .NotEq) (rD X.K dNe):=by
 intro pins s σ H x y v u Q I rx ry ⟨F,dx,dy,fh,px,py,q⟩
 obtain ⟨a,ea,sa,q⟩:=u3Z (Res.all_bind.mp q)
 obtain ⟨b,eb,sb,q⟩:=u3Z (Res.all_bind.mp q)
 exact op_neD hu pins s σ H _ _ v u Q I rx ry ⟨a,b,(px.rd ea).same fh,(py.rd eb).same fh,sa,sb,q _ F H (Stp.refl fh) (.bl _)⟩
noncomputable def dIx:D→D→Res D
 | .lst ds,.int i=>match atI ds i with
  | some d=>.ok d
  | none=>.bad
 | .tup ds,.int i=>match atI ds i with
  | some d=>.ok d
  | none=>.bad
 | .str z,.int i=>match atI z.cps.toList i with
  | some c=>.ok (.str ⟨#[c]⟩)
  | none=>.bad
 | _,_=>.bad
theorem v3z {K:PySem.W.Frag}{F:Hp}{xs:List V}{ds:List D}{i:Int}{d:D} (r:Rps K F xs ds) (h:atI ds i=some d):∃ v,atI xs i=some v∧Rp K F v d:=by
 unfold atI at h ⊢
 rw [r.length]
 cases q:ixN ds.length i with
 | none=>rw [q] at h;cases h
 | some j=>rw [q] at h;exact r.get h
theorem x_ix:IxR X (rD X.K dIx):=by
 intro value slice pins s σ H x y v u Q I rx ry ⟨F,dx,dy,fh,px,py,q⟩ hsub
 cases py with
 | int i =>
  cases px with
  | lst hx rs =>
   rename_i ds
   cases e:atI ds i with
   | none=>simp only [dIx,e] at q;exact q.elim
   | some d =>
    simp only [dIx,e] at q
    obtain ⟨w,h1,h2⟩:=v3z rs e
    exact ix_list value slice pins s σ H _ _ v u Q I rx ry ⟨_,_,i,w,rfl,rfl,.inl (hx.same fh),h1,q _ F H (Stp.refl fh) h2⟩ hsub
  | tup hx rs =>
   rename_i ds
   cases e:atI ds i with
   | none=>simp only [dIx,e] at q;exact q.elim
   | some d =>
    simp only [dIx,e] at q
    obtain ⟨w,h1,h2⟩:=v3z rs e
    exact ix_tup value slice pins s σ H _ _ v u Q I rx ry ⟨_,_,i,w,rfl,rfl,fh.seqT hx,h1,q _ F H (Stp.refl fh) h2⟩ hsub
  | str hz =>
   rename_i z
   cases e:atI z.cps.toList i with
   | none=>simp only [dIx,e] at q;exact q.elim
   | some c =>
    simp only [dIx,e] at q
    exact ix_str value slice pins s σ H _ _ v u Q I rx ry ⟨_,i,c,rfl,rfl,hz,e,q _ F H (Stp.refl fh) (.str u4M)⟩ hsub
  | _=>exact q.elim
 | _=>cases px <;> exact q.elim
end
noncomputable def items:D→Res (List D)
 | .lst ds=>.ok ds
 | .tup ds=>.ok ds
 | .str z=>.ok (chars z)
 | _=>.bad
section
variable {X:Cx}{xq:XQ}{tg l:Expr}{fl:Rho→Res D}{fa:Rho→Res (List D)}{pos p:Pos}
theorem u1n (hl:DE X xq l fl):DI X xq tg l (fun ρ=>(fl ρ).bind items):=⟨fun pins s σ H R I ⟨B,F,ρ,R',q⟩=>by
 have q0:=Res.all_bind.mp q
 cases e:fl ρ with
 | bad=>rw [e] at q0;exact q0.elim
 | err x =>
  rw [e] at q0
  exact v0S hl.out pins s σ H R I ⟨B,F,ρ,R',by rw [e];exact q0⟩
 | ok d =>
  rw [e] at q0
  have go:∀ {T:VK},(∀ v F' H',Stp F H F' H'→Rp X.K F' v d→T v H')→liftE X.K xq fl σ H T:=fun k=>⟨B,F,ρ,R',by rw [e];exact k⟩
  cases d with
  | lst ds =>
   refine v0S hl.out pins s σ H R I (go fun v F' H' st p=>?_)
   cases p with
   | lst hq hs=>exact ⟨_,rfl,⟨_,.inl (hq.same st.fh)⟩,q0 _ F' H' st (Feed.list (.inl hq) hs)⟩
  | tup ds =>
   refine pi_tup hl.out pins s σ H R I (go fun v F' H' st p=>?_)
   cases p with
   | tup hq hs=>exact ⟨_,rfl,⟨_,st.fh.seqT hq⟩,q0 _ F' H' st (Feed.tup hq hs)⟩
  | str z =>
   refine pi_str hl.out pins s σ H R I (go fun v F' H' st p=>?_)
   cases p with
   | str hz=>exact ⟨z,rfl,q0 _ F' H' st (Feed.str z)⟩
  | _=>exact q0.elim⟩
noncomputable def rng1:List D→Res (List D)
 | [.int j]=>gd (-(2^62)≤j∧j<2^62) (.ok (intL 0 j.toNat))
 | _=>.bad
theorem rps1 {K:PySem.W.Frag}{F:Hp}{vs:List V}{d:D} (h:Rps K F vs [d]):∃ v,vs=[v]∧Rp K F v d:=by
 cases h with
 | cons h hs=>cases hs;exact ⟨_,rfl,h⟩
theorem rps2 {K:PySem.W.Frag}{F:Hp}{vs:List V}{d e:D} (h:Rps K F vs [d,e]):∃ v w,vs=[v,w]∧Rp K F v d∧Rp K F w e:=by
 cases h with
 | cons h hs=>obtain ⟨w,rfl,q⟩:=rps1 hs;exact ⟨_,w,rfl,h,q⟩
theorem u0Q {a:Expr} (hm:X.mg "range"=none) (ha:DA X xq [a] fa) (hg:Gl X "range":=by rfl):DI X xq tg (.Call (.Name "range" p) [a] [] pos) (fun ρ=>(fa ρ).bind rng1) :=
 ⟨fun pins s σ H R I ⟨B,F,ρ,R',q⟩=>v0R hg hm ha.out (u1f (u0S ha.ns).1) pins s σ H R I (seqA R' q fun ds vs F1 H1 s1 R1 p1 q1=>by
  unfold rng1 at q1
  split at q1
  ·rename_i j
   obtain ⟨⟨h1,h2⟩,q2⟩:=u3G q1
   obtain ⟨v,rfl,pv⟩:=rps1 p1
   cases pv
   exact ⟨j,rfl,h1,h2,q2 _ F1 H1 s1 (Feed.rng 0 _)⟩
  ·exact q1.elim)⟩
noncomputable def enumL (ds:List D):List D:=ds.zipIdx.map fun p=>.tup [.int (p.2:Nat),p.1]
theorem Feed.enum {K:PySem.W.Frag}{F:Hp}{a:Addr}{xs:List V}{ds:List D} (h:SqL K F a xs) (r:Rps K F xs ds):Feed K F (Ite K a) (enumL ds) where
 go i H e hi:=by
  have hi':i<xs.length:=by rw [r.length];simpa [enumL] using hi
  exact ⟨xs,xs[i],e.seq h,by simp [hi']⟩
 yld i F1 H x H' d e1 e2 hd y:=by
  obtain ⟨p,v,hp,rfl,rfl,y⟩:=y
  have hv:xs[i]?=some v:=y xs ((e1.trans e2).seq h)
  have hd2:∃ d0,ds[i]?=some d0∧d=.tup [.int (i:Nat),d0]:=by
   unfold enumL at hd
   rw [List.getElem?_map,List.getElem?_zipIdx] at hd
   cases q:ds[i]? with
   | none=>rw [q] at hd;cases hd
   | some d0=>rw [q] at hd;simp at hd;exact ⟨d0,rfl,hd.symm⟩
  obtain ⟨d0,q0,rfl⟩:=hd2
  obtain ⟨w,hw,pw⟩:=r.get q0
  rw [hv] at hw;cases hw
  have s:=Stp.new (o:=.tup [.int (i:Nat),v]) e2 hp
  exact ⟨_,s,.tup (.inl (.inl u0k)) (.cons (.int _) (.cons (pw.same (e1.trans s.ff)) .nil))⟩
 stop i H e hi:=⟨xs,e.seq h,by rw [r.length];simpa [enumL] using hi⟩
noncomputable def enum1:List D→Res (List D)
 | [.lst ds]=>.ok (enumL ds)
 | _=>.bad
theorem v1K {es:List Expr}{k:Nat}{tp:Pos}{a:Expr} (hm:X.mg "enumerate"=none) (ha:DA X xq [a] fa) (hg:Gl X "enumerate":=by rfl):DI X xq (.Tuple es k tp) (.Call (.Name "enumerate" p) [a] [] pos) (fun ρ=>(fa ρ).bind enum1) :=
 ⟨fun pins s σ H R I ⟨B,F,ρ,R',q⟩=>pi_enum hg hm ha.out (u1f (u0S ha.ns).1) pins s σ H R I (seqA R' q fun ds vs F1 H1 s1 R1 p1 q1=>by
  unfold enum1 at q1
  split at q1
  ·obtain ⟨v,rfl,pv⟩:=rps1 p1
   cases pv with
   | lst hq hs=>exact ⟨_,_,rfl,.inl (hq.same R1.fh),q1 _ F1 H1 s1 (Feed.enum (.inl hq) hs)⟩
  ·exact q1.elim)⟩
end
noncomputable def rhoC (k:Nat) (outs:List Nat) (ρ:Rho):Rho:=List.replicate k none++outs.map fun j=>(ρ[j]?).join
theorem getC {α:Type}{k:Nat}{outs:List Nat}{l:List (Option α)}{i:Nat}{x:α} (h:(List.replicate k none++outs.map fun j=>(l[j]?).join)[i]?=some (some x)):k≤i∧∃ j,outs[i - k]?=some j∧l[j]?=some (some x):=by
 rw [List.getElem?_append] at h
 split at h
 ·rename_i q
  rw [List.getElem?_replicate] at h
  split at h <;> simp at h
 ·rename_i q
  simp only [List.length_replicate] at h q
  refine ⟨by omega,?_⟩
  rw [List.getElem?_map] at h
  cases e:outs[i - k]? with
  | none=>rw [e] at h;cases h
  | some j =>
   rw [e] at h
   refine ⟨j,rfl,?_⟩
   simp only [Option.map_some,Option.some.injEq] at h
   cases e2:l[j]? with
   | none=>rw [e2] at h;cases h
   | some y=>rw [e2] at h;simpa using h
theorem atC {α:Type}{k:Nat}{outs:List Nat}{l:List (Option α)}{i j:Nat} (hi:k≤i) (h:outs[i - k]?=some j):(List.replicate k none++outs.map fun j=>(l[j]?).join)[i]?=some ((l[j]?).join):=by
 rw [List.getElem?_append_right (by simpa using hi),List.length_replicate,List.getElem?_map,h];rfl
theorem Rel.comp {K:PySem.W.Frag}{B:Hp×Hp}{ρ:Rho}{σ:St}{F H:Hp}{k:Nat}{outs:List Nat} (R:Rel K B ρ σ F H) (nd:outs.Nodup):Rel K B (rhoC k outs ρ) (stC k outs σ) F H where
 st:=R.st
 len:=by unfold stC rhoC;simp
 val i d e:=by
  obtain ⟨hi,j,h1,h2⟩:=getC e
  obtain ⟨v,q1,q2⟩:=R.val j d h2
  exact ⟨v,by unfold stC;rw [atC hi h1,q1];rfl,q2⟩
 own i o e:=by
  obtain ⟨hi,j,h1,h2⟩:=getC e
  obtain ⟨a,h,q1,q2⟩:=R.own j o h2
  exact ⟨a,h,by unfold stC;rw [atC hi h1,q1];rfl,q2⟩
 dis i i' o u a e e' x y:=by
  obtain ⟨hi,j,h1,h2⟩:=getC e
  obtain ⟨hi',j',h1',h2'⟩:=getC e'
  obtain ⟨_,jx,g1,g2⟩:=getC (l:=σ) x
  obtain ⟨_,jy,g1',g2'⟩:=getC (l:=σ) y
  rw [h1] at g1;cases g1
  rw [h1'] at g1';cases g1'
  have ej:=R.dis j j' o u a h2 h2' g2 g2'
  subst ej
  have:=(List.getElem?_inj (List.getElem?_eq_some_iff.mp h1).1 nd).mp (h1.trans h1'.symm)
  omega
noncomputable def compD (g:D→Rho→Res Rho) (fT:Rho→Res Bool) (fe:Rho→Res D) (ρ:Rho):List D→Res (List D)
 | []=>.ok []
 | d::ds=>(noE (g d ρ)).bind fun ρ1=>(noE (fT (frz ρ1))).bind fun b=>if b=true then (noE (fe ρ1)).bind fun y=>(compD g fT fe ρ ds).bind fun ys=>.ok (y::ys) else compD g fT fe ρ ds
noncomputable def xqF:XQ:=fun _ _ _=>False
structure DF (X:Cx) (xq:XQ) (es:List Expr) (f:Rho→Res Bool):Prop where
 out:PIf X es (liftT X.K xq f)
theorem u4N {α:Type}{r:Res α}{P:α→Prop}{E E':D→Prop} (h:(noE r).all P E):r.all P E':=by
 cases r with
 | ok a=>exact h
 | err x=>exact h.elim
 | bad=>exact h.elim
section
variable {X:Cx}{xq:XQ}{tg iter elt c:Expr}{fA:Rho→Res Bool}{fe:Rho→Res D}{fi:Rho→Res (List D)}{g:D→Rho→Res Rho}{ifs:List Expr}{scope:Scope}{pos:Pos}{ix:List Nat}
theorem u2a:DF X xq [] (fun _=>.ok true):=⟨fun pins s σ H Q I ⟨B,F,ρ,R,q⟩=>pif_nil pins s σ H Q I (q H (Stp.refl R.fh))⟩
theorem u7r (h:DT X xq c fA):DF X xq [c] fA:=⟨pif_one h.out⟩
theorem u5i {K:PySem.W.Frag}{k:Nat}{outs:List Nat} (nd:outs.Nodup) (hix:∀ j∈ix,j<k) {σ:St}{H:Hp}{Q:VK} (h:liftN K xq (fun ρ=>(fi ρ).bind fun ds=>gd (ds.length≤sizeLine) ((compD g fA fe (rhoC k outs ρ) ds).bind fun ys=>.ok (.l ys))) σ H Q) :
  tComp k outs (liftI K xq fi) (liftG K ix g) (liftT K xqF fA) (liftE K xqF fe) σ H Q:=by
 obtain ⟨B,F,ρ,R,q⟩:=h
 exact
  ⟨B,F,ρ,R,Res.all_mono (Res.all_bind.mp q) (fun ds q1 J F0 H0 s0 fd=>by
   obtain ⟨hz,q1⟩:=u3G q1
   let T:List D→Prop:=fun ys=>∀ a h F' H',Stp F H F' H'→F' a=none→H a=none→H' a=some h→Ro K F' a h (.l ys)→Q (.ref a) H'
   have q2:(compD g fA fe (rhoC k outs ρ) ds).all T (ErrK K xq B ρ σ):=Res.all_mono (Res.all_bind.mp q1) (fun _ z=>z) fun _ z=>z
   clear q1
   refine ⟨fun i m ys H'=>m=ds.length - i∧i≤ds.length∧∃ F' es,Stp F H F' H'∧Same F0 F'∧Rps K F' ys es∧es.length≤i∧(compD g fA fe (rhoC k outs ρ) (ds.drop i)).all (fun r=>T (es++r)) (ErrK K xq B ρ σ),
    ⟨ds.length,rfl,Nat.zero_le _,F0,[],s0,Same.refl _,.nil,Nat.le_refl _,q2⟩,?_⟩
   rintro i m ys H' ⟨rfl,hi',F',es,st,e0,rs,hl,q3⟩
   refine ⟨by rw [rs.length];omega,?_⟩
   by_cases hlt:i<ds.length
   ·right
    refine ⟨fd.go i H' (e0.trans st.fh) hlt,fun ys' H2=>i+1≤ds.length∧∃ F2 es',Stp F H F2 H2∧Same F0 F2∧Rps K F2 ys' es'∧es'.length≤i+1∧(compD g fA fe (rhoC k outs ρ) (ds.drop (i+1))).all (fun r=>T (es'++r)) (ErrK K xq B ρ σ),
     fun ys' H2 p=>⟨ds.length - (i+1),by omega,rfl,p.1,p.2⟩,fun x H2 y=>?_⟩
    have hd:ds[i]?=some ds[i]:=by simp [hlt]
    obtain ⟨F2,s2,p2⟩:=fd.yld i F' H' x H2 _ e0 st.fh hd y
    rw [List.drop_eq_getElem_cons hlt] at q3
    have R2:Rel K B (rhoC k outs ρ) (stC k outs σ) F2 H2:=((R.step st).step s2).comp nd
    have q4:=Res.all_bind.mp (show ((noE (g ds[i] (rhoC k outs ρ))).bind _).all _ _ from q3)
    refine ⟨B,F2,_,_,R2,p2,u4N (Res.all_mono q4 (fun ρ1 q5 σ3 R3 l3 k3=>⟨?_,?_⟩) fun _ z=>z)⟩
    ·apply List.ext_getElem?
     intro j
     rw [List.getElem?_drop,k3 (k+j) fun z=>by have:=hix _ z;omega]
     unfold stC
     rw [List.getElem?_append_right (by simp),List.length_replicate,Nat.add_sub_cancel_left]
    ·refine ⟨B,F2,ρ1,R3,u4N (Res.all_mono (Res.all_bind.mp q5) (fun b q6 H3 s3=>?_) fun _ z=>z)⟩
     have R4:=R3.step s3
     cases b with
     | false=>exact ⟨hlt,F2,es,(st.trans s2).trans s3,e0.trans s2.ff,rs.same s2.ff,by omega,q6⟩
     | true =>
      refine ⟨B,F2,ρ1,R4,u4N (Res.all_mono (Res.all_bind.mp (show ((noE (fe ρ1)).bind _).all _ _ from q6)) (fun d q7 v F4 H4 s4 p4=>?_) fun _ z=>z)⟩
      refine ⟨hlt,F4,es++[d],((st.trans s2).trans s3).trans s4,(e0.trans s2.ff).trans s4.ff,((rs.same s2.ff).same s4.ff).append (.cons p4 .nil),by simp;omega,?_⟩
      exact Res.all_mono (Res.all_bind.mp q7) (fun r z=>by
       have z':T (es++d::r):=z
       simpa using z') fun _ z=>z
   ·left
    have e:i=ds.length:=by omega
    subst e
    rw [List.drop_length] at q3
    have q4:T es:=by simpa using (show T (es++[]) from q3)
    exact ⟨fd.stop _ H' (e0.trans st.fh) (Nat.le_refl _),fun p n=>q4 p _ F' _ (st.trans (Stp.only st.fh (u0q n))) (st.fh.free n) (st.hh.free n) u0k (.l rs)⟩) fun _ e=>e⟩
theorem u1r (own:List Str) (outs:List Nat) (hc:X.calm=true) (ok:CompOk X.env.scope X.N own outs scope) (hi:DI X xq tg iter fi) (hg:∀ {cl C s H fp},DG (cxC X own outs scope cl C s H fp) tg ix g) (hf:∀ {cl C s H fp},DF (cxC X own outs scope cl C s H fp) xqF ifs fA) (he:∀ {cl C s H fp},DE (cxC X own outs scope cl C s H fp) xqF elt fe)
  (nd:outs.Nodup:=by decide) (hix:∀ j∈ix,j<own.length:=by decide) (hs:∀ x,foldedSetIterable iter X.env x=pure x:=by intro _;rfl) :
  DN X xq (.ListComp elt [⟨tg,iter,ifs,0⟩] scope pos) (fun ρ=>(fi ρ).bind fun ds=>gd (ds.length≤sizeLine) ((compD g fA fe (rhoC own.length outs ρ) ds).bind fun ys=>.ok (.l ys))) :=
 ⟨fun pins s σ H Q I h=>pe_comp own outs hc ok hi.out (g:=liftG X.K ix g) (ti:=liftT X.K xqF fA) (te:=liftE X.K xqF fe) (fun {cl C s H fp}=>hg.out) (fun {cl C s H fp}=>hf.out) (fun {cl C s H fp}=>he.out) hs pins s σ H Q I (u5i nd hix h)⟩
end
section
variable {X:Cx}{xq:XQ}{a b e o:Expr}{es:List Expr}{fe:Rho→Res D}{fs:Rho→Res (List D)}{x:Str}{p pos pos' apos cpos:Pos}
theorem d_B {id:String}{g:List D→Res D} (hc:CallR X (.builtin id) (rDs X.K g)) (hm:X.mg x=none) (hv:bootBuiltins x=some (.builtin id)) (ha:DA X xq (e::es) fs) (hg:Gl X x:=by rfl) (hn:x≠"__name__":=by decide) (hdb:(x==("__debug__":Str))=false:=by decide) :
  DE X xq (.Call (.Name x p) (e::es) [] pos) (fun ρ=>(fs ρ).bind fun ds=>noE (g ds)) :=
 DE.of (pcB hc hg hm hv ha.out hn hdb ha.ns) fun B F ρ σ H Q R q=>seqA R q fun ds vs F1 H1 s1 R1 p1 q1=>⟨F1,ds,R1.fh,p1,doneN s1 q1⟩
theorem d_T {T:String}{g:List D→Res D} (hc:CallR X (.type T) (rDs X.K g)) (hm:X.mg x=none) (hv:bootBuiltins x=some (.type T)) (ha:DA X xq (e::es) fs) (hg:Gl X x:=by rfl) (hn:x≠"__name__":=by decide) (hdb:(x==("__debug__":Str))=false:=by decide) :
  DE X xq (.Call (.Name x p) (e::es) [] pos) (fun ρ=>(fs ρ).bind fun ds=>noE (g ds)) :=
 DE.of (pcT hc hg hm hv ha.out hn hdb ha.ns) fun B F ρ σ H Q R q=>seqA R q fun ds vs F1 H1 s1 R1 p1 q1=>⟨F1,ds,R1.fh,p1,doneN s1 q1⟩
noncomputable def gLen:List D→Res D
 | [.str z]=>.ok (.int z.length)
 | [.lst ds]=>.ok (.int ds.length)
 | [.tup ds]=>.ok (.int ds.length)
 | _=>.bad
theorem u1o:CallR X (.builtin "len") (rDs X.K gLen):=by
 intro pins s σ H xs us Q I r ⟨F,ds,fh,ps,q⟩
 unfold gLen at q
 split at q
 ·obtain ⟨v,rfl,pv⟩:=rps1 ps
  cases pv with
  | str hz=>exact u6s pins s σ H _ us Q I r ⟨_,_,rfl,⟨hz,rfl⟩,q _ F H (Stp.refl fh) (.int _)⟩
 ·obtain ⟨v,rfl,pv⟩:=rps1 ps
  cases pv with
  | lst hq hs=>exact u6s pins s σ H _ us Q I r ⟨_,_,rfl,.inl ⟨_,.inl (hq.same fh),rfl⟩,q _ F H (Stp.refl fh) (by rw [hs.length];exact .int _)⟩
 ·obtain ⟨v,rfl,pv⟩:=rps1 ps
  cases pv with
  | tup hq hs=>exact u6s pins s σ H _ us Q I r ⟨_,_,rfl,.inr ⟨_,fh.seqT hq,rfl⟩,q _ F H (Stp.refl fh) (by rw [hs.length];exact .int _)⟩
 ·exact q.elim
noncomputable def tyN:D→Option String
 | .non=>some "NoneType"
 | .bl _=>some "bool"
 | .int _=>some "int"
 | .str _=>some "str"
 | .lst _=>some "list"
 | .tup _=>some "tuple"
 | .dct _=>some "dict"
 | _=>none
noncomputable def isT (t T:String):Option Bool:=if T∈["bool","int","str","list","tuple","dict"] then some (t==T||(t=="bool"&&T=="int")) else none
theorem v1l (K:PySem.W.Frag) {d:D}{t T:String}{b:Bool} (ht:tyN d=some t) (h:isT t T=some b):PySem.W.kitOne K (.type t) (.type T)=some b:=by
 unfold isT at h
 split at h
 ·rename_i hT
  simp only [List.mem_cons,List.not_mem_nil,or_false] at hT
  cases h
  cases d <;> simp only [tyN,Option.some.injEq,reduceCtorEq] at ht <;> subst ht <;> rcases hT with rfl | rfl | rfl | rfl | rfl | rfl <;> rfl
 ·cases h
theorem v2S {pins:List (Addr×Obj)}{σ:St}{H:Hp}{s:Shared}{A:Around}{E:Value→Shared→Prop}{Q:Value→Shared→Prop}{c:Value}{bb:Bool}{F:Hp}{v:V}{u:Value}{d:D}{t:String} (I:Inv X pins σ H s) (rx:RelV v u) (fh:Same F H) (pv:Rp X.K F v d) (ht:tyN d=some t)
  (e:PySem.W.kitOne X.K (.type t) c=some bb) (h:∀ tk,Q (.bool bb) { s with toks:=tk }):wpAny (model X.prog X.w) A (call (.builtin "isinstance") [u,c]) Q E s:=by
 cases pv with
 | non=>cases ht;exact u2p I rx .non e h
 | bl y=>cases ht;exact u2p I rx (.bl y) e h
 | int i=>cases ht;exact u2p I rx (.int i) e h
 | str hz=>cases ht;exact u2p I rx (.str _) e h
 | ty T=>cases ht
 | lst hq hs =>
  cases ht
  rcases hq with hq | ⟨ob,hq⟩
  ·exact u2p I rx (.lst (fh _ _ hq)) e h
  ·exact u2p I rx (.frz (fh _ _ hq)) e h
 | tup hq hs =>
  cases ht
  obtain ⟨its,r,p,hz⟩:=I.tuple (fh.seqT hq)
  obtain ⟨ob,h1,h2,_⟩:=p
  cases (show u=Value.ref _ from rx)
  exact PySem.W.kia_one PySem.W.kitx_tuple I.kIn ⟨ob,h1,h2⟩ e (fun z=>nomatch z) h
 | dK hq hs=>cases ht;exact u2p I rx (.dK (fh _ _ hq)) e h
 | ins hq hs=>cases ht
 | exc hq hr hs=>cases ht
 | dn hq hs=>cases ht
noncomputable def gIs:List D→Res D
 | [d,.ty T]=>match tyN d with
  | some t=>match isT t T with
   | some b=>.ok (.bl b)
   | none=>.bad
  | none=>.bad
 | _=>.bad
theorem v3h:CallR X (.builtin "isinstance") (rDs X.K gIs):=by
 intro pins s σ H xs us Q I r ⟨F,ds,fh,ps,q⟩
 unfold gIs at q
 split at q
 ·rename_i d T
  obtain ⟨v,w,rfl,pv,pw⟩:=rps2 ps
  cases pw
  cases ht:tyN d with
  | none=>rw [ht] at q;exact q.elim
  | some t =>
   rw [ht] at q
   cases hb:isT t T with
   | none=>simp only [hb] at q;exact q.elim
   | some bb =>
    simp only [hb] at q
    cases r with
    | cons r1 r2 =>
     cases r2 with
     | cons r2 r3 =>
      cases r3
      cases r2
      exact v2S I r1 fh pv ht (v1l X.K ht hb) fun tk=>⟨.bl bb,H,I.tok _,rfl,q _ F H (Stp.refl fh) (.bl bb)⟩
 ·exact q.elim
noncomputable def blsOf:List D→Option (List Bool)
 | []=>some []
 | .bl b::r=>(blsOf r).map (b::·)
 | _=>none
theorem u9n {K:PySem.W.Frag}{F:Hp}:∀ {xs:List V}{ds:List D}{bs:List Bool},Rps K F xs ds→blsOf ds=some bs→xs=bs.map V.bl
 | _,_,_,.nil,e=>by cases e;rfl
 | _,_,_,.cons (d:=d) (ds:=ds) h hs,e=>by
  cases d <;> simp only [blsOf,reduceCtorEq] at e
  cases h
  cases q:blsOf ds with
  | none=>rw [q] at e;cases e
  | some bs=>rw [q] at e;cases e;rw [u9n hs q];rfl
noncomputable def gAll:List D→Res D
 | [.lst ds]=>match blsOf ds with
  | some bs=>.ok (.bl (bs.all id))
  | none=>.bad
 | _=>.bad
theorem c_all (hc:X.calm=true):CallR X (.builtin "all") (rDs X.K gAll):=by
 intro pins s σ H xs us Q I r ⟨F,ds,fh,ps,q⟩
 unfold gAll at q
 split at q
 ·rename_i ds
  obtain ⟨v,rfl,pv⟩:=rps1 ps
  cases pv with
  | lst hq hs =>
   cases hb:blsOf ds with
   | none=>rw [hb] at q;exact q.elim
   | some bs =>
    rw [hb] at q
    exact v3g hc pins s σ H _ us Q I r ⟨_,bs,rfl,.inl (u9n hs hb ▸ hq.same fh),q _ F H (Stp.refl fh) (.bl _)⟩
 ·exact q.elim
noncomputable def gTuple:List D→Res D
 | [.lst ds]=>.ok (.tup ds)
 | [.tup ds]=>.ok (.tup ds)
 | _=>.bad
theorem u1T:CallR X (.type "tuple") (rDs X.K gTuple):=by
 intro pins s σ H xs us Q I r ⟨F,ds,fh,ps,q⟩
 unfold gTuple at q
 split at q
 ·obtain ⟨v,rfl,pv⟩:=rps1 ps
  cases pv with
  | lst hq hs=>exact u3J pins s σ H _ us Q I r ⟨_,_,rfl,.inl ⟨.inl (hq.same fh),fun l n=>q _ _ _ (Stp.new fh n) (.tup (.inl (.inl u0k)) (hs.same (Stp.new fh n).ff))⟩⟩
 ·obtain ⟨v,rfl,pv⟩:=rps1 ps
  cases pv with
  | tup hq hs=>exact u3J pins s σ H _ us Q I r ⟨_,_,rfl,.inr ⟨fh.seqT hq,q _ F H (Stp.refl fh) (.tup hq hs)⟩⟩
 ·exact q.elim
noncomputable def seqOf:List D→Res OD
 | [.lst ds]=>.ok (.l ds)
 | [.tup ds]=>.ok (.l ds)
 | _=>.bad
theorem u8s (hm:X.mg "list"=none) (ha:DA X xq [e] fs) (hg:Gl X "list":=by rfl):DN X xq (.Call (.Name "list" p) [e] [] pos) (fun ρ=>(fs ρ).bind seqOf) :=
 ⟨fun pins s σ H Q I ⟨B,F,ρ,R,q⟩=>pcT (u7B) hg hm rfl ha.out (by decide) (by decide) ha.ns pins s σ H Q I (seqA R q fun ds vs F1 H1 s1 R1 p1 q1=>by
  unfold seqOf at q1
  split at q1
  ·obtain ⟨v,rfl,pv⟩:=rps1 p1
   cases pv with
   | lst hq hs=>exact ⟨_,_,rfl,.inl (.inl (hq.same R1.fh)),fun l n=>q1 l _ F1 _ (s1.trans (Stp.only R1.fh (u0q n))) (R1.fh.free n) (s1.hh.free n) u0k (.l hs)⟩
  ·obtain ⟨v,rfl,pv⟩:=rps1 p1
   cases pv with
   | tup hq hs=>exact ⟨_,_,rfl,.inr (R1.fh.seqT hq),fun l n=>q1 l _ F1 _ (s1.trans (Stp.only R1.fh (u0q n))) (R1.fh.free n) (s1.hh.free n) u0k (.l hs)⟩
  ·exact q1.elim)⟩
noncomputable def getL (ρ:Rho) (i:Nat):Res (List D):=match ρ[i]? with
 | some (some (.own (.l ds)))=>.ok ds
 | _=>.bad
theorem v1v {ρ:Rho}{i:Nat}{P:List D→Prop}{E:D→Prop} (h:(getL ρ i).all P E):∃ ds,ρ[i]?=some (some (.own (.l ds)))∧P ds:=by
 unfold getL at h
 split at h
 ·rename_i d e;exact ⟨d,e,h⟩
 ·exact h.elim
theorem u1W (i:Nat) (he:DE X xq e fe) (hN:X.N[i]?=some x:=by rfl) (hv:Vis X.env.scope x:=by first | exact Or.inl rfl | exact Or.inr (Or.inl rfl) | exact Or.inr (Or.inr rfl)) (hd:(x==("__debug__":Str))=false:=by decide) (hcd:(x==("__classdict__":Str))=false:=by decide)
  (hs:notStar e=true:=by rfl) (hbase:attributeBase (.Name x p) "append" X.env (eval (.Name x p) X.env)=eval (.Name x p) X.env:=by rfl) (hline:(apos.endLine==cpos.line)=true:=by rfl)
  (hsw:swapsWith (.Call (.Attribute (.Name x p) "append" apos) [e] [] cpos) none pos.line X.env=pure false:=by rfl) :
  DS X xq (.Expr (.Call (.Attribute (.Name x p) "append" apos) [e] [] cpos) pos) (fun ρ=>(getL ρ i).go ρ fun ds=>(fe ρ).go ρ fun d=>if ds.length<sizeLine then .nx (ρ.set i (some (.own (.l (ds++[d]))))) else .bad) :=
 DS.of (u8d (pbm PySem.F.plainAttrs_list PySem.F.slot_list_append PySem.F.type_list_append v1a (u4h hN hv hd hcd) (pac he.out u8E hs) (by rw [List.all_cons,hs];rfl) rfl hbase hline) hsw) fun B F ρ σ H T R q=>by
  obtain ⟨ds,e1,q1⟩:=v1v (u1m q.out)
  obtain ⟨l,h,h1,h2,h3,h4,h5⟩:=R.own i _ e1
  cases h5 with
  | l hs =>
   refine ⟨.ref l,h1,.inl ⟨rfl,_,.inl (.inl h4)⟩,B,F,ρ,R,Res.all_mono (u1m q1) (fun d q2 v F' H' st pv=>?_) fun _ z=>errOf z⟩
   by_cases hz:ds.length<sizeLine
   ·rw [if_pos hz] at q2
    have R':=R.step st
    refine ⟨l,_,v,rfl,rfl,st.hh _ _ h4,by rw [hs.length];exact hz,q2 σ F' _ (R'.write (e:=e1) h1 (.l ((hs.same st.ff).append (.cons pv .nil))))⟩
   ·rw [if_neg hz] at q2;exact q2.elim
noncomputable def spF (K:PySem.W.Frag) (f:List D→Res D):Sp:=fun vs H Q _=>∃ F ds,Same F H∧Rps K F vs ds∧(noE (f ds)).all (fun d=>∀ v F' H',Stp F H F' H'→Rp K F' v d→Q v H') (fun _=>False)
theorem d_fn {P:Program}{w:World}{K:PySem.W.Frag}{mg:Str→Option Value}{base:Heap}{k k':Nat}{ps:List Str}{f:List D→Res D} (h:Callee P w K mg base k x ps (spF K f)) (hr:Room k' X.A) (ha:DA X xq (e::es) fs) (hk:k≤k':=by decide) (hg:Gl X x:=by rfl)
  (eP:X.prog=P:=by rfl) (ew:X.w=w:=by rfl) (eK:X.K=K:=by rfl) (em:X.mg=mg:=by rfl) (eb:X.base=base:=by rfl) (hdb:(x==("__debug__":Str))=false:=by decide):DE X xq (.Call (.Name x p) (e::es) [] pos) (fun ρ=>(fs ρ).bind fun ds=>noE (f ds)) :=
 DE.of (pe_fn h hr hk ha.out hg eP ew eK em eb hdb ha.ns) fun B F ρ σ H Q R q=>seqA R q fun ds vs F1 H1 s1 R1 p1 q1=>by
  subst eK
  refine ⟨F1,ds,R1.fh,by rw [List.append_nil];exact p1,?_⟩
  cases e:f ds with
  | ok d=>rw [e] at q1;exact fun v F' H' st pv=>q1 v F' H' (s1.trans st) pv
  | err x=>rw [e] at q1;exact q1.elim
  | bad=>rw [e] at q1;exact q1.elim
noncomputable def outR:Out→Res D
 | .nx _=>.ok .non
 | .rt d=>.ok d
 | .er x _=>.err x
 | _=>.bad
noncomputable def startD (n:Nat) (ds:List D):Rho:=ds.map (fun d=>some (.val d))++List.replicate (n - ds.length) none
theorem Rps.begin {K:PySem.W.Frag}{F H:Hp}{N:List Str}{vs:List V}{ds:List D} (fh:Same F H) (r:Rps K F vs ds):Rel K (F,H) (startD N.length ds) (start N vs) F H where
 st:=Stp.refl fh
 len:=by unfold startD L2.start;simp [r.length]
 val i d e:=by
  unfold startD at e
  unfold L2.start
  rw [List.getElem?_append] at e
  split at e
  ·rename_i hi
   rw [List.getElem?_map] at e
   cases q:ds[i]? with
   | none=>rw [q] at e;cases e
   | some d' =>
    rw [q] at e
    cases e
    obtain ⟨v,hv,p⟩:=r.get q
    exact ⟨v,by rw [List.getElem?_append_left (by have:=(List.getElem?_eq_some_iff.mp hv).1;simpa using this),List.getElem?_map,hv];rfl,p⟩
  ·rw [List.getElem?_replicate] at e
   split at e <;> simp at e
 own i o e:=by
  unfold startD at e
  rw [List.getElem?_append] at e
  split at e
  ·rw [List.getElem?_map] at e
   cases q:ds[i]? with
   | none=>rw [q] at e;cases e
   | some d'=>rw [q] at e;cases e
  ·rw [List.getElem?_replicate] at e
   split at e <;> simp at e
 dis i j o u a e:=by
  exfalso
  unfold startD at e
  rw [List.getElem?_append] at e
  split at e
  ·rw [List.getElem?_map] at e
   cases q:ds[i]? with
   | none=>rw [q] at e;cases e
   | some d'=>rw [q] at e;cases e
  ·rw [List.getElem?_replicate] at e
   split at e <;> simp at e
end
section
variable {P:Program}{w:World}{K:PySem.W.Frag}{mg:Str→Option Value}{base:Heap}
theorem Fun.okD {x qual:Str}{st:Stmt}{f:Addr}{fd:FuncData}{N ps:List Str}{k:Nat}{g:List D→Res D} (F:Fun K x qual st f fd) (S:FnScope N ps (defScope st)) (len:∀ ds d,g ds=.ok d→ds.length=ps.length)
  (hbody:∀ (cdv:Value) (A:Around) (outer:List Env) (s:Shared) (H:Hp) (E:XK),Room k (A.deeper (envOfC qual (defScope st) s.heap.objs.size f cdv)) →
   ∃ t,DB (cxOf CX0 P w K mg base N qual (defScope st) f cdv A outer s H E).nox xqF (defBody st) t∧∀ ds d,g ds=.ok d→outR (t (startD N.length ds))=.ok d):FnOk P w K mg base CX0 (k+1) f fd ps (spF K g) :=
 F.ok S (fun vs H Q E ⟨G,ds,fh,r,q⟩=>by
  rw [r.length]
  cases e:g ds with
  | ok d=>exact len ds d e
  | err x=>rw [e] at q;exact q.elim
  | bad=>rw [e] at q;exact q.elim) fun cdv A outer s H vs Q E hr ⟨G,ds,fh,r,q⟩=>by
  obtain ⟨t,h1,h2⟩:=hbody cdv A outer s H E hr
  refine ⟨_,h1.out,(G,H),G,_,r.begin fh,⟨?_⟩⟩
  cases e:g ds with
  | err x=>rw [e] at q;exact q.elim
  | bad=>rw [e] at q;exact q.elim
  | ok d =>
   rw [e] at q
   have z:=h2 ds d e
   generalize t (startD N.length ds)=o at z
   cases o with
   | nx ρ=>cases z;exact fun σ F' H' R=>q .non F' H' R.st .non
   | rt d'=>cases z;exact fun v F' H' st pv=>q v F' H' st pv
   | bk ρ=>cases z
   | ct ρ=>cases z
   | er x ρ=>cases z
   | bad=>cases z
end
section
variable {M:Model}{A:Around}{E:Value→Shared→Prop}{s:Shared}
theorem v1D {base:Heap}{env:Env}{outer:List Env}{L e:Addr}{oe:Obj}{vs:Array Value}{head:Value}{nx:Bool}{Q:Unit→Shared→Prop} (c1:A.frames=some (env::outer)) (c2:s.heap.FunFrames base (env::outer)) (c3:env.frame=some L)
  (c4:s.heap.get? e=some oe) (c5:oe.data=.fields vs) (c6:1<vs.size) (c7:e∉frs (env::outer))
  (k:∀ h' oT ts,(∀ b o,b∉frs (env::outer)→b≠e→s.heap.get? b=some o→h'.get? b=some o)→(∀ b o,b≠e→s.heap.get? b=some o→∃ sl,h'.get? b=some { o with slots:=sl }) →
   h'.get? e=some (oe.mapFields (·.setIfInBounds 1 (.ref s.heap.objs.size)))→h'.get? s.heap.objs.size=some oT→oT.data=.fields ts→ts[3]?=some (rawInt L)→Q () { s with heap:=h' }) :
  wpAny M A (do setField (.ref e) 1 (← EntryCells.newEntry head (← frameOf env) .none (rawInt L) .none (← entryPlaceOf L nx))) Q E s:=by
 refine wpAny_bind (wpAny_frameOf_fun c1 c2 c3 fun g hg=>?_)
 refine wpAny_bind (wpAny_entryPlaceOf fun pl hp=>?_)
 unfold EntryCells.newEntry newFields
 refine wpAny_bind (wpAny_newObj_type ?_ (hp.sizeOk5 _ _ _ _ _))
 obtain ⟨g1,g2,g3⟩:=hg
 have ge:g.get? e=some oe:=(g2 e c7).trans c4
 have lt:e<g.objs.size:=Heap.lt_size ge
 generalize hnt:({ cls:=.type "traceback",dict:=none,data:=.fields ([head,.ref L,.none,rawInt L,.none]++(if pl.isEmpty then List.replicate 6 Value.none else pl)).toArray }:Obj)=nt
 have ge2:(g.push nt).get? e=some oe:=Heap.get?_push_of_some nt ge
 refine wpAny_setField ge2 c5 c6 ?_
 have nf:nt.isFreed=false:=by subst hnt;rfl
 have at_T:(g.push nt).get? g.objs.size=some nt:=Heap.get?_push_size g nf
 have ne:e≠g.objs.size:=Nat.ne_of_lt lt
 rw [g1]
 refine k _ nt ([head,.ref L,.none,rawInt L,.none]++(if pl.isEmpty then List.replicate 6 Value.none else pl)).toArray (fun b o b1 b2 b3=>?_) (fun b o b2 b4=>?_) ?_ ?_ (by subst hnt;rfl) (by first | (simp;done) | (rcases hp with rfl | ⟨_,_,_,_,_,_,_,rfl⟩ <;> simp))
 ·rw [Heap.get?_update_other _ _ (Ne.symm b2)];exact Heap.get?_push_of_some nt ((g2 b b1).trans b3)
 ·obtain ⟨sl,q⟩:=g3 b o b4
  exact ⟨sl,by rw [Heap.get?_update_other _ _ (Ne.symm b2)];exact Heap.get?_push_of_some nt q⟩
 ·exact Heap.get?_update_self _ ge2 (Obj.isFreed_of_fields (Obj.data_mapFields c5 _))
 ·rw [← g1,Heap.get?_update_other _ _ ne];exact at_T
end
noncomputable def Tb (n:Nat) (h:Heap) (H:Hp) (e:Addr) (fl:Value):Prop:=n≤e∧∃ oe vs,h.get? e=some oe∧oe.data=.fields vs∧1<vs.size ∧
 ((vs[1]?=some .none∧fl=.none)∨∃ T oT ts,vs[1]?=some (.ref T)∧T≠e∧n≤T∧H T=none∧h.get? T=some oT∧oT.data=.fields ts∧ts[3]?=some fl)
noncomputable def Tr (n:Nat) (h:Heap) (H:Hp) (e:Addr) (fl:Value):Prop:=n≤e∧∃ oe vs,h.get? e=some oe∧oe.data=.fields vs∧1<vs.size ∧
 ∃ T oT ts,vs[1]?=some (.ref T)∧T≠e∧n≤T∧H T=none∧h.get? T=some oT∧oT.data=.fields ts∧ts[3]?=some fl
theorem Tr.tb {n:Nat}{h:Heap}{H:Hp}{e:Addr}{fl:Value} (x:Tr n h H e fl):Tb n h H e fl:=let ⟨a,oe,vs,b,c,d,f⟩:=x;⟨a,oe,vs,b,c,d,.inr f⟩
theorem Tb.mono {m n:Nat}{h:Heap}{H:Hp}{e:Addr}{fl:Value} (x:Tb n h H e fl) (q:m≤n):Tb m h H e fl:=by
 obtain ⟨a,oe,vs,b,c,d,f⟩:=x
 refine ⟨Nat.le_trans q a,oe,vs,b,c,d,?_⟩
 rcases f with f | ⟨T,oT,ts,f1,f2,f3,f4⟩
 ·exact .inl f
 ·exact .inr ⟨T,oT,ts,f1,f2,Nat.le_trans q f3,f4⟩
structure Old (X:Cx) (pins:List (Addr×Obj)) (n:Nat):Prop where
 s0:X.s₀.heap.objs.size≤n
 loc:X.env.locals<n
 cel:∀ x c,X.env.cells.lookup x=some c→c<n
 pin:∀ p∈X.pn++pins,p.1<n
theorem Inv.old {X:Cx}{pins:List (Addr×Obj)}{σ:St}{H:Hp}{s:Shared} (I:Inv X pins σ H s):Old X pins s.heap.objs.size :=
 ⟨I.sz,I.lt,fun x c e=>let ⟨_,q⟩:=I.cell x c e;q.lt,fun p hp=>Heap.lt_size (I.pin p hp).1⟩
section
variable {X:Cx}{pins:List (Addr×Obj)}{σ:St}{H:Hp}{s:Shared}{n:Nat}{e C:Addr}{d:Option Addr}{h':Heap}
theorem Inv.flown {ch:List Addr}{t':Nat} (I:Inv X pins σ H s) (hst:X.stack=X.env::X.outer∧X.env.frame=some X.env.locals) (o:Old X pins n) (hch:∀ b∈ch,n≤b) (hx:H e=some (XO C d e)) (hxe:ExAt h' e C d)
  (k1:∀ b u,b∉frs X.stack→b≠e→b∉ch→s.heap.get? b=some u→h'.get? b=some u) (k2:∀ b u,b≠e→b∉ch→s.heap.get? b=some u→∃ sl,h'.get? b=some { u with slots:=sl })
  (k3:∀ b∈ch,H b=none) (k4:∃ u,h'.get? e=some u):Inv X pins σ H { s with heap:=h',toks:=t' }:=by
 have hfr:frs X.stack=X.env.locals::X.fs:=by
  rw [hst.1];unfold frs;rw [List.filterMap_cons,hst.2];rfl
 have ne:∀ b,H b=none→b≠e:=fun b hb z=>by subst z;rw [hx] at hb;cases hb
 refine I.step (ch:=ch) (h':=h') (H':=H) (g':=s.gens) (d':=s.drawn) (t':=t') (fun b hb=>⟨.inr (Nat.le_trans o.s0 (hch b hb)),fun z=>?_,fun x c q z=>?_,fun p hp z=>?_⟩)
  (fun b u b1 b2 b3 b4 b5=>k1 b u (by rw [hfr];simp [b1,b2]) (ne b b5) b3 b4) (fun b u b1 b2 b3 b4 b5=>k2 b u (ne b b5) b3 b4) (fun _ _ _ _ z=>z) (fun b u b3 b4=>?_) (fun _ _ z=>z) (fun _ _ _ z=>z) (fun b ps z=>⟨#[],by simpa using z⟩) (fun m hm=>?_) ?_ I.bare
 ·have w1:=o.loc;have w2:=hch b hb;subst z;exact absurd (Nat.lt_of_lt_of_le w1 w2) (Nat.lt_irrefl _)
 ·have w1:=o.cel x c q;have w2:=hch b hb;subst z;exact absurd (Nat.lt_of_lt_of_le w1 w2) (Nat.lt_irrefl _)
 ·have w1:=o.pin p hp;have w2:=hch b hb;rw [z] at w1;exact absurd (Nat.lt_of_lt_of_le w1 w2) (Nat.lt_irrefl _)
 ·by_cases z:b=e
  ·subst z;exact k4
  ·obtain ⟨sl,q⟩:=k2 b u z b3 b4;exact ⟨_,q⟩
 ·obtain ⟨u,es,ep,hu,hd,rr⟩:=hm
  have l1:X.env.locals≠e:=ne _ I.free
  have l2:X.env.locals∉ch:=fun z=>absurd (Nat.lt_of_lt_of_le o.loc (hch _ z)) (Nat.lt_irrefl _)
  obtain ⟨sl,q⟩:=k2 _ u l1 l2 hu
  exact ⟨_,es,ep,q,hd,rr⟩
 ·intro a u q
  by_cases z:a=e
  ·subst z
   rw [hx] at q;cases q
   exact xo_ok hxe
  ·refine ObjOk.stay (I.hok a u q) (fun b v hb hv=>k1 b v (fun y=>?_) (fun y=>?_) (fun y=>?_) hv) (fun _ y=>y) (fun _ _ y=>y)
   ·rcases hb with rfl | hb
    ·rw [I.stkFree _ y] at q;cases q
    ·rw [I.stkFree _ y] at hb;cases hb
   ·rcases hb with rfl | hb
    ·exact z y
    ·subst y;rw [hx] at hb;unfold XO at hb;cases hb
   ·rcases hb with rfl | hb
    ·rw [k3 _ y] at q;cases q
    ·rw [k3 _ y] at hb;cases hb
end
theorem v3c {h h':Heap}{e C:Addr}{d:Option Addr}{oe:Obj}{v:Value} (x:ExAt h e C d) (q:h.get? e=some oe) (q':h'.get? e=some (oe.mapFields (·.setIfInBounds 1 v))):ExAt h' e C d:=by
 obtain ⟨t,f1,f2,f3,f4,f5,sl,z⟩:=x
 rw [q] at z
 cases z
 exact ⟨t,v,f2,f3,f4,f5,sl,q'⟩
theorem v1B {h h':Heap}{e C:Addr}{d:Option Addr}{oe:Obj} (x:ExAt h e C d) (q:h.get? e=some oe) (q':h'.get? e=some oe):ExAt h' e C d:=by
 obtain ⟨t,f1,f2,f3,f4,f5,sl,z⟩:=x
 rw [q] at z
 cases z
 exact ⟨t,f1,f2,f3,f4,f5,sl,q'⟩
theorem u5M {o:Obj}{vs:Array Value}{i:Nat}{v:Value} (h:o.data=.fields vs) (hi:i<vs.size):∃ ws:Array Value,(o.mapFields (·.setIfInBounds i v)).data=.fields ws∧ws.size=vs.size∧ws[i]?=some v∧∀ j,j≠i→ws[j]?=vs[j]?:=by
 refine ⟨vs.setIfInBounds i v,Obj.data_mapFields h _,by simp,by simp [hi],fun j hj=>?_⟩
 rw [Array.getElem?_setIfInBounds_ne (Ne.symm hj)]
section
variable {X:Cx}{pins:List (Addr×Obj)}{σ:St}{H:Hp}{s:Shared}{n:Nat}{e C:Addr}{d:Option Addr}{E:Value→Shared→Prop}{M:Model}
theorem rawne (L:Addr):((Value.none==rawInt L)=true)=False:=by simp [rawInt]
theorem u5L {fl w:Value}{T:Addr}{Q:Unit→Shared→Prop}{oe oT:Obj}{vs ts:Array Value} (I:Inv X pins σ H s) (hst:X.stack=X.env::X.outer∧X.env.frame=some X.env.locals) (o:Old X pins n) (hx:H e=some (XO C d e))
  (a0:n≤e) (a1:s.heap.get? e=some oe) (a2:oe.data=.fields vs) (a3:1<vs.size) (a4:vs[1]?=some (.ref T)) (a5:T≠e) (a6:n≤T) (a7:H T=none) (a8:s.heap.get? T=some oT) (a9:oT.data=.fields ts) (a10:ts[3]?=some fl)
  (k:∀ s',Inv X pins σ H s'→Tr n s'.heap H e w→s'.heap.get? e=some oe→Q () s'):wpAny M X.A (setField (.ref T) 3 w) Q E s:=by
 have hz:3<ts.size:=(Array.getElem?_eq_some_iff.mp a10).1
 refine wpAny_setField a8 a9 hz ?_
 obtain ⟨ws,w1,w2,w3,w4⟩:=u5M (v:=w) a9 hz
 have kT:=Heap.get?_update_self (Obj.mapFields (·.setIfInBounds 3 w)) a8 (Obj.isFreed_of_fields w1)
 have ko:∀ b u,b≠T→s.heap.get? b=some u→(s.heap.update T (Obj.mapFields (·.setIfInBounds 3 w))).get? b=some u:=fun b u hb q=>by
  rw [Heap.get?_update_other _ _ (Ne.symm hb)];exact q
 have ke:=ko e oe (Ne.symm a5) a1
 refine k _ (I.flown (ch:=[T]) (t':=s.toks) hst o (fun b hb=>by rw [List.mem_singleton.mp hb];exact a6) hx (v1B (v0q I.hok hx) a1 ke) (fun b u _ _ hb q=>ko b u (fun z=>hb (by simp [z])) q)
  (fun b u _ hb q=>⟨u.slots,ko b u (fun z=>hb (by simp [z])) q⟩) (fun b hb=>by rw [List.mem_singleton.mp hb];exact a7) ⟨_,ke⟩) ⟨a0,oe,vs,ke,a2,a3,T,_,ws,a4,a5,a6,a7,kT,w1,w3⟩ ke
theorem u8I {head:Value}{nx:Bool}{Q:Unit→Shared→Prop}{oe:Obj}{vs:Array Value} (I:Inv X pins σ H s) (hst:X.stack=X.env::X.outer∧X.env.frame=some X.env.locals) (o:Old X pins n) (hx:H e=some (XO C d e))
  (a0:n≤e) (a1:s.heap.get? e=some oe) (a2:oe.data=.fields vs) (a3:1<vs.size) (k:∀ s',Inv X pins σ H s'→Tr n s'.heap H e (rawInt X.env.locals)→Q () s') :
  wpAny M X.A (do setField (.ref e) 1 (← EntryCells.newEntry head (← frameOf X.env) .none (rawInt X.env.locals) .none (← entryPlaceOf X.env.locals nx))) Q E s:=by
 have fr:X.A.frames=some (X.env::X.outer):=by rw [I.ok.frames,hst.1]
 have ff:s.heap.FunFrames X.base (X.env::X.outer):=hst.1 ▸ I.stack
 have nm:e∉frs (X.env::X.outer):=fun z=>by
  have:=I.stkFree e (by rw [hst.1];exact z)
  rw [hx] at this;cases this
 refine v1D fr ff hst.2 a1 a2 a3 nm fun h' oT ts k1 k2 k3 k4 k5 k6=>?_
 have lt:e<s.heap.objs.size:=Heap.lt_size a1
 have fz:=I.hok.fresh (Nat.le_refl s.heap.objs.size)
 obtain ⟨ws,w1,w2,w3,w4⟩:=u5M (v:=.ref s.heap.objs.size) a2 a3
 refine k _ (I.flown (ch:=[]) (t':=s.toks) hst o (fun b hb=>by cases hb) hx (v3c (v0q I.hok hx) a1 k3) (fun b u hb he _ q=>k1 b u (by rw [← hst.1];exact hb) he q) (fun b u he _ q=>k2 b u he q) (fun b hb=>by cases hb) ⟨_,k3⟩)
  ⟨a0,_,ws,k3,w1,by omega,s.heap.objs.size,oT,ts,w3,Nat.ne_of_gt lt,Nat.le_trans a0 (Nat.le_of_lt lt),fz,k4,k5,k6⟩
theorem u8o {fl:Value}{Q:Unit→Shared→Prop} (I:Inv X pins σ H s) (hst:X.stack=X.env::X.outer∧X.env.frame=some X.env.locals) (o:Old X pins n) (hx:H e=some (XO C d e)) (tb:Tb n s.heap H e fl) (hfl:fl=.none∨fl=rawInt X.env.locals)
  (k:∀ s',Inv X pins σ H s'→Tr n s'.heap H e (rawInt X.env.locals)→Q () s'):wpAny M X.A (noteFrame (.ref e) X.env) Q E s:=by
 obtain ⟨a0,oe,vs,a1,a2,a3,tb⟩:=tb
 unfold noteFrame
 simp only [hst.2]
 rcases tb with ⟨t1,t2⟩ | ⟨T,oT,ts,a4,a5,a6,a7,a8,a9,a10⟩
 ·refine wpAny_bind (wpAny_field a1 a2 t1 ?_)
  rw [if_neg (by decide)]
  exact u8I I hst o hx a0 a1 a2 a3 k
 ·refine wpAny_bind (wpAny_field a1 a2 a4 ?_)
  rw [if_pos (show (Value.ref T != Value.none)=true by simp)]
  refine wpAny_bind (wpAny_field a8 a9 a10 ?_)
  rcases hfl with rfl | rfl
  ·rw [if_neg (by rw [rawne];exact id)]
   refine wpAny_bind (u5L I hst o hx a0 a1 a2 a3 a4 a5 a6 a7 a8 a9 a10 fun s' I' _ ke=>?_)
   exact u8I I' hst o hx a0 ke a2 a3 k
  ·rw [if_pos (by simp)]
   exact wpAny_pure (k s I ⟨a0,oe,vs,a1,a2,a3,T,oT,ts,a4,a5,a6,a7,a8,a9,a10⟩)
theorem u2M {fl:Value}{f:Option Addr}{Q:Unit→Shared→Prop} (I:Inv X pins σ H s) (hst:X.stack=X.env::X.outer∧X.env.frame=some X.env.locals) (o:Old X pins n) (hx:H e=some (XO C d e)) (tr:Tr n s.heap H e fl)
  (k:∀ s',Inv X pins σ H s'→Tr n s'.heap H e (f.elim .none fun f=>rawInt f)→Q () s'):wpAny M X.A (setFlight (.ref e) f) Q E s:=by
 obtain ⟨a0,oe,vs,a1,a2,a3,T,oT,ts,a4,a5,a6,a7,a8,a9,a10⟩:=tr
 unfold setFlight
 refine wpAny_bind (wpAny_field a1 a2 a4 ?_)
 rw [if_pos (show (Value.ref T != Value.none)=true by simp)]
 exact u5L I hst o hx a0 a1 a2 a3 a4 a5 a6 a7 a8 a9 a10 fun s' I' t _=>k s' I' t
theorem u8K {fl:Value}{Q:Unit→Shared→Prop} (I:Inv X pins σ H s) (hst:X.stack=X.env::X.outer∧X.env.frame=some X.env.locals) (o:Old X pins n) (hx:H e=some (XO C d e)) (tb:Tb n s.heap H e fl) (hfl:fl=.none∨fl=rawInt X.env.locals)
  (k:∀ s',Inv X pins σ H s'→Tr n s'.heap H e .none→Q () s'):wpAny M X.A (leaving X.env (.ref e)) Q E s:=by
 unfold leaving
 exact wpAny_bind (u8o I hst o hx tb hfl fun s' I' tr=>u2M (f:=none) I' hst o hx tr k)
end
noncomputable def CXe (P:Program) (w:World):CXT:=fun outer H s E u s'=>∃ (e C:Addr) (d:Option Addr) (H':Hp),u=.ref e∧s'.os=s.os∧AllBare s'.gens∧Un (frs outer) [] H H' s.heap s'.heap∧HOk P w H' s'.heap∧H' e=some (XO C d e) ∧
 Tb s.heap.objs.size s'.heap H' e .none∧E (.ref e) none H'
noncomputable def Fly (X:Cx) (xq:XQ) (u:Value) (s':Shared):Prop:=∃ (n:Nat) (e C:Addr) (d:Option Addr) (σ:St) (H:Hp) (fl:Value),Old X [] n∧u=.ref e∧Inv X [] σ H s'∧H e=some (XO C d e)∧Tb n s'.heap H e fl∧(fl=.none∨fl=rawInt X.env.locals)∧xq (.ref e) σ H
structure XqOk (X:Cx) (xq:XQ):Prop where
 st:X.stack=X.env::X.outer∧X.env.frame=some X.env.locals
 xe:∀ u s',Fly X xq u s'→X.xe u s'
 ps:PassesOwn (model X.prog X.w) X.A X.env X.xe
section
variable {X:Cx}{xq:XQ}{M:Model}
theorem v0i (hst:X.stack=X.env::X.outer∧X.env.frame=some X.env.locals):PassesOwn M X.A X.env (Fly X xq):=by
 rintro u s' ⟨n,e,C,d,σ,H,fl,o,rfl,I,hx,tb,hfl,q⟩
 refine u8o I hst o hx tb hfl fun s2 I2 tr=>?_
 have tr':=tr
 obtain ⟨a0,oe,vs,a1,a2,a3,T,oT,ts,a4,a5,a6,a7,a8,a9,a10⟩:=tr'
 unfold cameBackBy
 refine wpAny_bind (wpAny_field a1 a2 a4 ?_)
 rw [if_neg (show ¬ ((Value.ref T==Value.none)=true) by simp),hst.2]
 exact u2M (f:=some X.env.locals) I2 hst o hx tr fun s3 I3 tr3=>⟨n,e,C,d,σ,H,_,o,rfl,I3,hx,tr3.tb,.inr rfl,q⟩
theorem Old.unwish {E:Value→Shared→Prop}{pins:List (Addr×Obj)}{n:Nat} (o:Old (X.wish E) pins n):Old X pins n:=⟨o.s0,o.loc,o.cel,o.pin⟩
theorem Fly.unwish {E:Value→Shared→Prop}{u:Value}{s':Shared} (h:Fly (X.wish E) xq u s'):Fly X xq u s':=by
 obtain ⟨n,e,C,d,σ,H,fl,o,rfl,I,hx,tb,hfl,q⟩:=h
 exact ⟨n,e,C,d,σ,H,fl,o.unwish,rfl,I.unwish,hx,tb,hfl,q⟩
theorem u4D (hst:X.stack=X.env::X.outer∧X.env.frame=some X.env.locals):XqOk (X.wish (Fly X xq)) xq:=⟨hst,fun _ _ h=>h.unwish,v0i (X:=X) hst⟩
theorem Inv.bare0 {pins:List (Addr×Obj)}{σ:St}{H:Hp}{s:Shared} (I:Inv X pins σ H s):Inv X [] σ H s:=I.pins_of fun p hp=>absurd hp (by simp)
theorem Old.bare0 {pins:List (Addr×Obj)}{n:Nat} (o:Old X pins n):Old X [] n:=⟨o.s0,o.loc,o.cel,fun p hp=>o.pin p (by simp at hp;exact List.mem_append_left _ hp)⟩
theorem u8Z {pins:List (Addr×Obj)}{σ:St}{H:Hp}{s s':Shared}{u:Value} (I:Inv X pins σ H s) (h:CXe X.prog X.w X.stack H s (fun u _ H'=>∃ a,u=.ref a∧xq (.ref a) σ H') u s'):Fly X xq u s':=by
 obtain ⟨e,C,d,H',rfl,os,bare,un,hok,hx,tb,a,ha,q⟩:=h
 cases ha
 have I':Inv X pins σ H' s':=I.call' (ch:=[]) os un hok bare fun b z=>absurd z (by simp)
 exact ⟨_,e,C,d,σ,H',.none,I.old.bare0,rfl,I'.bare0,hx,tb,.inl rfl,q⟩
end
noncomputable def spX (K:PySem.W.Frag) (f:List D→Res D):Sp:=fun vs H Q E=>∃ F ds,Same F H∧Rps K F vs ds∧(f ds).all (fun d=>∀ v F' H',Stp F H F' H'→Rp K F' v d→Q v H') (fun x=>∀ a F' H',Stp F H F' H'→Rp K F' (.ref a) x→E (.ref a) none H')
noncomputable def CalleeX (P:Program) (w:World) (K:PySem.W.Frag) (mg:Str→Option Value) (base:Heap) (k:Nat) (x:Str) (ps:List Str) (f:List D→Res D):Prop :=
 ∃ a fd,FnOk P w K mg base (CXe P w) k a fd ps (spX K f)∧Binds K fd ps []∧PySem.W.keepIn K (.ref a)=true∧mg x=some (.ref a)
section
variable {X:Cx}{xq:XQ}{e:Expr}{es:List Expr}{fs:Rho→Res (List D)}{x:Str}{p pos:Pos}
theorem run_fnX {k:Nat}{f:Addr}{fd:FuncData}{ps:List Str}{sp:Sp}{ds:List Value}{dvs:List V}{pins:List (Addr×Obj)}{σ:St}{H:Hp}{s:Shared}{Q:VK}{us:List Value}{vs:List V} (hq:XqOk X xq) (F:FnOk X.prog X.w X.K X.mg X.base (CXe X.prog X.w) k f fd ps sp) (hr:Room k X.A)
  (hb:Binds X.K fd ps ds) (hd:Vals dvs ds) (I:Inv X pins σ H s) (r:Vals vs us) (h:sp (vs++dvs) H Q (fun u _ H'=>∃ a,u=.ref a∧xq (.ref a) σ H')):wpAny (model X.prog X.w) X.A (call (.ref f) us) (EP X pins σ Q) X.xe s:=by
 have r2:Vals (vs++dvs) (us++ds):=r.append hd
 have hl:(us++ds).length=ps.length:=by rw [← r2.length];exact F.len _ _ _ _ h
 refine wpAny_call (codeAny_mono (F.run X.A X.stack s H ⟨us,[]⟩ (us++ds) (vs++dvs) Q _ hr I.env0 (hb s us I.kIn hl) r2 h) fun r s' hc=>?_)
 cases r with
 | error e=>exact hq.xe _ _ (u8Z I hc)
 | ok fl =>
  cases fl with
  | ret u=>exact I.after hc
  | next=>exact False.elim hc
  | brk=>exact False.elim hc
  | cont=>exact False.elim hc
theorem errR {K:PySem.W.Frag}{B:Hp×Hp}{ρ:Rho}{σ:St}{F H F' H':Hp}{d:D}{v:V} (R:Rel K B ρ σ F H) (s:Stp F H F' H') (p:Rp K F' v d) (q:ErrK K xq B ρ σ d):xq v σ H':=by
 obtain ⟨F1,e1,R1⟩:=(R.step s).frz
 exact q v F1 H' R1 (p.same e1)
theorem spX_of {K:PySem.W.Frag}{B:Hp×Hp}{ρ:Rho}{σ:St}{F H F0 H0:Hp}{f:List D→Res D}{ds:List D}{vs:List V}{Q:VK} (R:Rel K B ρ σ F H) (pv:Rps K F vs ds) (s0:Stp F0 H0 F H) (q:(f ds).all (fun d=>∀ v F' H',Stp F0 H0 F' H'→Rp K F' v d→Q v H') (ErrK K xq B ρ σ)) :
  spX K f vs H Q (fun u _ H'=>∃ a,u=.ref a∧xq (.ref a) σ H') :=
 ⟨F,ds,R.fh,pv,Res.all_mono q (fun d k v F' H' st p=>k v F' H' (s0.trans st) p) fun x k a F' H' st p=>⟨a,rfl,errR R st p k⟩⟩
theorem v0k {P:Program}{w:World}{K:PySem.W.Frag}{mg:Str→Option Value}{base:Heap}{k k':Nat}{ps:List Str}{f:List D→Res D} (hq:XqOk X xq) (h:CalleeX P w K mg base k x ps f) (hr:Room k' X.A) (ha:DA X xq (e::es) fs) (hk:k≤k':=by decide) (hg:Gl X x:=by rfl)
  (eP:X.prog=P:=by rfl) (ew:X.w=w:=by rfl) (eK:X.K=K:=by rfl) (em:X.mg=mg:=by rfl) (eb:X.base=base:=by rfl) (hdb:(x==("__debug__":Str))=false:=by decide):DE X xq (.Call (.Name x p) (e::es) [] pos) (fun ρ=>(fs ρ).bind f) :=
 ⟨fun pins s σ H Q I ⟨B,F,ρ,R,q⟩=>by
  subst eP ew eK em eb
  obtain ⟨a,fd,G,hb,hkp,hm⟩:=h
  refine wpAny_Call_Name_kw (u3A I hg hm ?_ hdb)
  refine PySem.W.callWith_K (h₀:=X.base) I.ok.mod.kin hkp (thn (ha.out pos pins s σ H _ I (seqA R q fun ds vs F1 H1 s1 R1 p1 q1=>show spX X.K f (vs++[]) H1 Q (fun u _ H'=>∃ a,u=.ref a∧xq (.ref a) σ H') from by rw [List.append_nil];exact spX_of R1 p1 s1 q1)) fun us s1 ⟨vs,H1,I1,r,q⟩=>⟨I1.kIn,?_⟩) (u1f (u0S ha.ns).1) (u2x (u0S ha.ns).2)
  exact run_fnX hq G (hr.mono hk) hb .nil I1 r q⟩
end
section
variable {P:Program}{w:World}{K:PySem.W.Frag}{mg:Str→Option Value}{base:Heap}
noncomputable abbrev xq0 (E:XK):XQ:=fun v _ H'=>∀ a,v=.ref a→E (.ref a) none H'
noncomputable abbrev cxR (P:Program) (w:World) (K:PySem.W.Frag) (mg:Str→Option Value) (base:Heap) (N:List Str) (qual:Str) (scope:Scope) (f:Addr) (cdv:Value) (A:Around) (outer:List Env) (s:Shared) (H:Hp) (E:XK):Cx :=
 (cxOf (CXe P w) P w K mg base N qual scope f cdv A outer s H E).wish (Fly (cxOf (CXe P w) P w K mg base N qual scope f cdv A outer s H E) (xq0 E))
theorem PSs.wishTo {X:Cx}{E:Value→Shared→Prop}{sts:List Stmt}{t:TS} (h:PSs (X.wish E) sts t) (k:∀ u s',E u s'→X.xe u s'):PSs X sts t:=fun pins s σ H T I hw =>
 wpAny_mono (h pins s σ H T (I.wish _) hw) (fun _ _ q=>q.unwish) k
theorem Fun.okX {x qual:Str}{st:Stmt}{f:Addr}{fd:FuncData}{N ps:List Str}{k:Nat}{g:List D→Res D} (F:Fun K x qual st f fd) (S:FnScope N ps (defScope st)) (len:∀ ds,g ds≠.bad→ds.length=ps.length)
  (hbody:∀ (cdv:Value) (A:Around) (outer:List Env) (s:Shared) (H:Hp) (E:XK),Room k (A.deeper (envOfC qual (defScope st) s.heap.objs.size f cdv))→XqOk (cxR P w K mg base N qual (defScope st) f cdv A outer s H E) (xq0 E) →
   ∃ t,DB (cxR P w K mg base N qual (defScope st) f cdv A outer s H E) (xq0 E) (defBody st) t∧∀ ds,g ds≠.bad→outR (t (startD N.length ds))=g ds):FnOk P w K mg base (CXe P w) (k+1) f fd ps (spX K g):=by
 obtain ⟨oc,od,kV,doc,pm,an,cdv,ct,osl,rfl,lk,hcd⟩:=F.ex
 have nb:∀ vs H Q E,spX K g vs H Q E→∃ G ds,Same G H∧Rps K G vs ds∧g ds≠.bad∧(g ds).all (fun d=>∀ v F' H',Stp G H F' H'→Rp K F' v d→Q v H') (fun x=>∀ a F' H',Stp G H F' H'→Rp K F' (.ref a) x→E (.ref a) none H'):=fun vs H Q E ⟨G,ds,fh,r,q⟩ =>
  ⟨G,ds,fh,r,fun z=>by rw [z] at q;exact q,q⟩
 refine fn_of lk hcd S (fun vs H Q E h=>?_) fun A outer s H vs Q E hr hsp=>?_
 ·obtain ⟨G,ds,fh,r,z,q⟩:=nb vs H Q E h
  rw [r.length];exact len ds z
 ·obtain ⟨G,ds,fh,r,z,q⟩:=nb vs H Q E hsp
  have hst:(cxOf (CXe P w) P w K mg base N qual (defScope st) f cdv A outer s H E).stack=(cxOf (CXe P w) P w K mg base N qual (defScope st) f cdv A outer s H E).env::(cxOf (CXe P w) P w K mg base N qual (defScope st) f cdv A outer s H E).outer∧(cxOf (CXe P w) P w K mg base N qual (defScope st) f cdv A outer s H E).env.frame=some (cxOf (CXe P w) P w K mg base N qual (defScope st) f cdv A outer s H E).env.locals:=⟨rfl,rfl⟩
  obtain ⟨t,h1,h2⟩:=hbody cdv A outer s H E hr (u4D hst)
  refine ⟨_,PSs.wishTo h1.out ?_,(G,H),G,_,r.begin fh,⟨?_⟩⟩
  ·rintro u s' ⟨n,e,C,d,σ,H',fl,o,rfl,I,hx,tb,hfl,q⟩
   refine u8K I hst o hx tb hfl fun s2 I2 tr=>?_
   exact ⟨e,C,d,H',rfl,I2.os,I2.bare,I2.base,I2.hok,hx,tr.tb.mono o.s0,q e rfl⟩
  ·have y:=h2 ds z
   rw [← y] at q
   generalize t (startD N.length ds)=o at q
   cases o with
   | nx ρ=>exact fun σ F' H' R=>q .non F' H' R.st .non
   | rt d'=>exact fun v F' H' st pv=>q v F' H' st pv
   | bk ρ=>exact q.elim
   | ct ρ=>exact q.elim
   | er x ρ=>exact fun v σ F' H' R pv a ea=>by subst ea;exact q a F' H' R.st pv
   | bad=>exact q.elim
end
noncomputable def ExFr (h:Heap) (e C:Addr) (dx:Option Addr):Prop:=∃ t sl,h.get? e=some { cls:=.ref C,dict:=dx,data:=.fields #[.ref t,.none,.none,.none,.bool false,.none],slots:=sl }
theorem ExFr.at {h:Heap}{e C:Addr}{dx:Option Addr} (x:ExFr h e C dx):ExAt h e C dx:=let ⟨t,sl,q⟩:=x;⟨t,_,_,_,_,_,sl,q⟩
noncomputable def XF (C:Addr) (dx:Option Addr) (e:Addr) (n:Nat):HO:=.ext fun h=>ExFr h e C dx∧n≤e
section
variable {P:Program}{w:World}{H:Hp}{h:Heap}{e C dx:Addr}{d:Option Addr}{n:Nat}
theorem xf_ok (x:ExFr h e C d) (hn:n≤e):ObjOk P w H h e (XF C d e n) :=
 ⟨⟨x,hn⟩,let ⟨_,_,q⟩:=x;⟨_,q⟩,fun h1 h2 ⟨⟨t,sl,q⟩,z⟩ k=>⟨⟨t,sl,k _ q⟩,z⟩⟩
theorem xf_at (x:HOk P w H h) (q:H e=some (XF C d e n)):ExFr h e C d∧n≤e:=(show ObjOk P w H h e (XF C d e n) from x e _ q).1
theorem HOk.xo (x:HOk P w H h) (q:H e=some (XF C d e n)):HOk P w (upd H e (XO C d e)) h:=fun b u z=>by
 by_cases y:b=e
 ·subst y
  rw [u0k] at z;cases z
  exact xo_ok (xf_at x q).1.at
 ·rw [u0r y] at z
  exact ObjOk.stay (x b u z) (fun _ _ _ v=>v) (fun c v=>by
   rw [u0r (fun t=>by subst t;rw [q] at v;unfold XF at v;cases v)];exact v) (fun c xs v=>by
   rw [u0r (fun t=>by subst t;rw [q] at v;unfold XF at v;cases v)];exact v)
end
section
variable {X:Cx}{pins:List (Addr×Obj)}{σ:St}{H:Hp}{s:Shared}{a C dx fI:Addr}{fs:List (Str×V)}{f:Str}{v:V}{A:Around}{E:Value→Shared→Prop}{n:Nat}{d:Option Addr}
theorem Inv.xo (I:Inv X pins σ H s) (q:H a=some (XF C d a n)):Inv X pins σ (upd H a (XO C d a)) s:=by
 have hok:=I.hok.xo q
 have nn:∀ b,H b=none→upd H a (XO C d a) b=none:=fun b z=>by
  rw [u0r (fun t=>by subst t;rw [q] at z;cases z)];exact z
 have st:∀ b u,H b=some u→(∀ φ,u≠.ext φ)→upd H a (XO C d a) b=some u:=fun b u z y=>by
  rw [u0r (fun t=>by subst t;rw [q] at z;cases z;exact y _ rfl)];exact z
 exact I.un (h':=s.heap) (t':=s.toks) ⟨fun _ _ x _ _ _=>x,fun _ o x _ _ _=>⟨o.slots,x⟩,fun b _ _ z _=>nn b z,fun _ o x _=>⟨o,x⟩,fun b xs z=>st b _ z (fun _ y=>nomatch y),fun b o u z=>st b _ z (fun _ y=>nomatch y),fun b ps z=>⟨#[],by rw [Array.append_empty];exact st b _ z (fun _ y=>nomatch y)⟩⟩ hok
theorem v1A {prog:Program}{w:World}{K:PySem.W.Frag}{e:Addr}{name:Str}{v:Value}{Q:Unit→Shared→Prop} (X:K.In s.heap) (c:XCls K C fI) (he:ExFr s.heap e C none) (hn:PySem.W.findIn K (.ref C) name=some none)
  (h:∀ h1 h',ExFr h1 e C (some s.heap.objs.size)→(∀ b o,b≠e→(s.heap.push PySem.W.emptyDict).get? b=some o→h1.get? b=some o)→h'.Ns1 s.heap.objs.size (fun y=>if y=name then some v else none)→Heap.SameBut s.heap.objs.size h1 h'→Q () { s with heap:=h',toks:=s.toks+2 }) :
  wpAny (model prog w) A (setAttr (.ref e) name v) Q E s:=by
 obtain ⟨t,sl,he⟩:=he
 have I:PySem.W.InstAt s.heap e _ C none:=⟨he,rfl,rfl,True.intro⟩
 refine PySem.W.set_plain X I c.sa (exc_osa (s:={ s with toks:=s.toks+1 }) X c I hn fun b=>?_)
 obtain ⟨cd,hc,_,hd⟩:=c.ov
 have hlt:e<s.heap.objs.size:=Heap.lt_size he
 refine wpAny_bind (wpAny_pure (wpAny_bind (wpAny_bind (wpAny_loadPart he (wpAny_bind (PySem.W.Looks.here (s:={ s with toks:=s.toks+1 }) (PySem.W.looks_clsIn X hc) ?_))))))
 rw [hd]
 refine wpAny_bind (wpAny_alloc (wpAny_bind (wpAny_update (s:={ s with heap:=s.heap.push PySem.W.emptyDict,toks:=s.toks+1 }) (Heap.get?_push_of_some _ he) ?_)))
 have hne:e≠s.heap.objs.size:=Nat.ne_of_lt hlt
 have hd0:((s.heap.push PySem.W.emptyDict).update e fun o=>{ o with dict:=some s.heap.objs.size }).get? s.heap.objs.size=some PySem.W.emptyDict:=by
  rw [Heap.get?_update_other _ _ hne]
  exact Heap.get?_push_size _ rfl
 have he1:((s.heap.push PySem.W.emptyDict).update e fun o=>{ o with dict:=some s.heap.objs.size }).get? e=some { cls:=.ref C,dict:=some s.heap.objs.size,data:=.fields #[.ref t,.none,.none,.none,.bool false,.none],slots:=sl } :=
  Heap.get?_update_self _ (Heap.get?_push_of_some _ he) rfl
 have hk1:∀ b o,b≠e→(s.heap.push PySem.W.emptyDict).get? b=some o→((s.heap.push PySem.W.emptyDict).update e fun o=>{ o with dict:=some s.heap.objs.size }).get? b=some o:=fun b o hb q=>by
  rw [Heap.get?_update_other _ _ (Ne.symm hb)]
  exact q
 have hns:((s.heap.push PySem.W.emptyDict).update e fun o=>{ o with dict:=some s.heap.objs.size }).Ns1 s.heap.objs.size (fun _=>none) :=
  Heap.Ns1.of_empty ⟨_,#[],_,hd0,rfl,fun x hx=>absurd hx (by simp),fun _=>rfl⟩
 generalize (s.heap.push PySem.W.emptyDict).update e (fun o=>{ o with dict:=some s.heap.objs.size })=h1 at hd0 he1 hk1 hns ⊢
 refine wpAny_pure (a:=some s.heap.objs.size) (wpAny_bind (wpAny_pure (wpAny_bind ?_)))
 refine wpAny_nsSet1 (s:={ s with heap:=h1,toks:=s.toks+1 }) hns fun h' hn2 hs2=>?_
 obtain ⟨oD,esD,epD,hoD,hdD,hcD⟩:=hn2.count (PySem.Within.cons name v (ns:=[]) (fun y u=>absurd rfl u))
 refine wpAny_bind (wpAny_lookBehind hoD (by rw [hdD];exact pastItsLine_dict (Nat.le_trans hcD (by rw [List.length_singleton,sizeLine_eq];decide))) ?_)
 exact wpAny_pure (h h1 _ ⟨t,sl,he1⟩ hk1 hn2 hs2)
theorem v0r {y:V}{u:Value}{Q:Unit→Shared→Prop} (I:Inv X pins σ H s) (e:H a=some (XF C none a n)) (c:XCls X.K C fI) (na:NoAttr X.K C f) (ry:RelV y u)
  (h:∀ dx s',H dx=none→dx≠a→Inv X pins σ (upd (upd H dx (DXO dx [(f,y)])) a (XF C (some dx) a n)) s'→Q () s'):wpAny (model X.prog X.w) A (setAttr (.ref a) f u) Q E s:=by
 obtain ⟨hx,hn⟩:=xf_at I.hok e
 have hfr:H s.heap.objs.size=none:=I.hok.fresh (Nat.le_refl _)
 have hne:s.heap.objs.size≠a:=(u0x e hfr).symm
 refine v1A I.kIn c hx na fun h1 h' x1 k1 n2 sb=>h s.heap.objs.size _ hfr hne ?_
 have e0:(s.heap.push PySem.W.emptyDict).get? s.heap.objs.size=some PySem.W.emptyDict:=Heap.get?_push_size s.heap rfl
 have n0:(s.heap.push PySem.W.emptyDict).Ns1 s.heap.objs.size (fun _=>none):=Heap.Ns1.of_empty ⟨_,#[],_,e0,rfl,fun x hx=>absurd hx (by simp),fun _=>rfl⟩
 have I1:=I.laid (a:=s.heap.objs.size) (o:=DXO s.heap.objs.size []) (h':=s.heap.push PySem.W.emptyDict) (t':=s.toks) (fun b u q=>Heap.get?_push_of_some _ q) (Nat.le_refl _) (v3s n0 (fun _=>True.intro) (fun y hy=>absurd rfl hy))
 have ea:upd H s.heap.objs.size (DXO s.heap.objs.size []) a=some (XF C none a n):=by rw [u0r hne.symm];exact e
 have I2:=I1.write (x:=a) (e:=a) (o:=XF C (some s.heap.objs.size) a n) (h':=h1) (t':=s.toks) (by rw [ea];exact True.intro) (.inl rfl) (fun b q hb z=>k1 b q hb z) (let ⟨_,_,q⟩:=x1;⟨_,q⟩) (xf_ok x1 hn)
 have ed:upd (upd H s.heap.objs.size (DXO s.heap.objs.size [])) a (XF C (some s.heap.objs.size) a n) s.heap.objs.size=some (DXO s.heap.objs.size []):=by rw [u0r hne,u0k]
 have I3:=I2.write (x:=s.heap.objs.size) (e:=s.heap.objs.size) (o:=DXO s.heap.objs.size [(f,y)]) (h':=h') (t':=s.toks+2) (by rw [ed];exact True.intro) (.inl rfl) (fun b q hb z=>(sb.2 b hb).trans z) (let ⟨o,_,_,q,_⟩:=n2;⟨o,q⟩) (v3s n2 (fun g=>by
  show RelO (List.lookup g [(f,y)]) (if g=f then some u else none)
  by_cases q:g=f
  ·subst q;rw [if_pos rfl];simp only [List.lookup,beq_self_eq_true];exact ry
  ·rw [if_neg q];simp only [List.lookup,beq_eq_false_iff_ne.mpr q];exact True.intro) (fun g hg=>by
  by_cases q:g=f
  ·rw [q];exact List.mem_cons_self
  ·exact absurd (if_neg q) hg))
 have eq:upd (upd (upd H s.heap.objs.size (DXO s.heap.objs.size [])) a (XF C (some s.heap.objs.size) a n)) s.heap.objs.size (DXO s.heap.objs.size [(f,y)])=upd (upd H s.heap.objs.size (DXO s.heap.objs.size [(f,y)])) a (XF C (some s.heap.objs.size) a n):=by
  funext b
  unfold upd
  by_cases q1:b=s.heap.objs.size
  ·rw [if_pos q1,if_neg (by rw [q1];exact hne),if_pos q1]
  ·rw [if_neg q1]
   by_cases q2:b=a
   ·rw [if_pos q2,if_pos q2]
   ·rw [if_neg q2,if_neg q2,if_neg q1,if_neg q1]
 rw [eq] at I3
 exact I3
theorem Inv.xfmade (I:Inv X pins σ H s) (us:List Value):Inv X pins σ (upd H (s.heap.objs.size+1) (XF C none (s.heap.objs.size+1) s.heap.objs.size)) { s with heap:=(s.heap.push (tupO us)).push (excO C s.heap.objs.size none) }:=by
 have I1:=I.kept (t':=s.toks) (h':=s.heap.push (tupO us)) (fun b u q=>Heap.get?_push_of_some _ q)
 refine I1.laid (a:=s.heap.objs.size+1) (o:=XF C none (s.heap.objs.size+1) s.heap.objs.size) (t':=s.toks) (fun b u q=>Heap.get?_push_of_some _ q) (Nat.le_of_eq (Heap.size_push _ _)) ?_
 have:=Heap.get?_push_size (s.heap.push (tupO us)) (o:=excO C s.heap.objs.size none) rfl
 rw [Heap.size_push] at this
 exact xf_ok ⟨_,_,this⟩ (Nat.le_succ _)
end
section
variable {M:Model}{A:Around}{E:Value→Shared→Prop}{env:Env}{K:PySem.W.Frag}{C f:Addr}
theorem XCls.base (c:XCls K C f):∃ bm N nm q bs sn sub ab col dd k0 k1 k2 k3 k5,K.lookup C=some (excClassObj nm q C N bs bm true sn sub ab col dd k0 k1 k2 k3 k5 "ValueError.__new__")∧(Value.ref C::bm).contains (.type "BaseException")=true:=by
 obtain ⟨bm,N,nm,q,bs,sn,sub,ab,col,dd,k0,k1,k2,k3,k5,hK,ht⟩:=c.obj
 obtain ⟨cd,hc,ho,_⟩:=c.ov
 refine ⟨bm,N,nm,q,bs,sn,sub,ab,col,dd,k0,k1,k2,k3,k5,hK,?_⟩
 unfold PySem.W.clsIn at hc
 rw [hK] at hc
 cases hc
 exact u3l ho
theorem u9O {s:Shared}{x:Sem Value}{Q:Flow→Shared→Prop} (hh:A.handled=none)
  (h:wpAny M A x (fun v s₁=>∃ (e t C f:Addr) (dx:Option Addr) (sl:Array (Option Value)) (K:PySem.W.Frag),v=.ref e∧K.In s₁.heap∧XCls K C f ∧
   s₁.heap.get? e=some { cls:=.ref C,dict:=dx,data:=.fields #[.ref t,.none,.none,.none,.bool false,.none],slots:=sl }∧E (.ref e) s₁) E s):wpAny M A (raiseStmt env (some x) none) Q E s:=by
 unfold raiseStmt
 refine wpAny_bind (wpAny_mono h (fun v s₁ h₁=>?_) fun _ _ x=>x)
 obtain ⟨e,t,C,f,dx,sl,K,rfl,KI,c,he,hE⟩:=h₁
 obtain ⟨bm,N,nm,q,bs,sn,sub,ab,col,dd,k0,k1,k2,k3,k5,hK,hb⟩:=c.base
 have hC:=KI _ _ hK
 obtain ⟨hp,g,d,tk,os⟩:=s₁
 repeat (first | (with_reducible refine wpAny_loadPart_at he ?_) | (with_reducible refine wpAny_loadPart_at hC ?_) | ((with_reducible refine wpAny_isSubtype_exc hC ?_);rw [hb]) | wp_step)
 exact wpAny_raiseNew_none hh hE
end
noncomputable def spXI (C:Addr) (fls:List Str):Sp:=fun vs H Q _=>∃ a args n,vs=.ref a::args∧args.length=fls.length∧H a=some (XF C none a n)∧∀ dx,H dx=none→dx≠a→Q .non (upd (upd H dx (DXO dx (fls.zip args))) a (XF C (some dx) a n))
section
variable {X:Cx}{e o value:Expr}{es:List Expr}{ta tv:TE}{f x:Str}{p pos pos' cpos:Pos}{C fI:Addr}{fd:FuncData}{ps fls:List Str}{k:Nat}
noncomputable def sXF (K:PySem.W.Frag) (ta tv:TE) (f:Str):TS:=fun T σ H=>tv σ H fun y H1=>ta σ H1 fun x H2=>∃ a C fI n,x=.ref a∧XCls K C fI∧NoAttr K C f∧H2 a=some (XF C none a n)∧∀ dx,H2 dx=none→dx≠a→T.nx σ (upd (upd H2 dx (DXO dx [(f,y)])) a (XF C (some dx) a n))
theorem ps_xf (ha:PE X o ta) (hv:PE X value tv) (hs:swapsWith value (some (.Attribute o f pos')) pos.line X.env=pure false:=by rfl):PS X (.Assign [.Attribute o f pos'] value pos) (sXF X.K ta tv f):=by
 intro pins s σ H T I h
 refine plainObj_wpAny_Assign_Attribute (thn (hv pins s σ H _ I h) fun u s1 ⟨y,H1,I1,ry,q⟩=>thn (ha pins s1 σ H1 _ I1 q) fun ov s2 ⟨x,H2,I2,rx,a,C,fI,n,ex,c,na,ea,q2⟩=>?_) hs
 subst ex
 obtain rfl:ov=Value.ref a:=rx
 exact v0r I2 ea c na ry fun dx s3 h1 h2 I3=>⟨σ,_,I3,q2 dx h1 h2⟩
theorem run_xf {pins:List (Addr×Obj)}{σ:St}{H:Hp}{s:Shared}{Q:Value→Shared→Prop}{us:List Value}{vs:List V} (c:XCls X.K C fI) (F:FnOk X.prog X.w X.K X.mg X.base CX0 k fI fd ps (spXI C fls)) (hr:Room (k+1) X.A) (hb:Binds X.K fd ps [])
  (I:Inv X pins σ H s) (r:Vals vs us) (hz:vs.length≤1000) (hn:vs.length=fls.length)
  (h:∀ a dx s',H a=none→H dx=none→dx≠a→Inv X pins σ (upd (upd H dx (DXO dx (fls.zip vs))) a (XF C (some dx) a s.heap.objs.size)) s'→Q (.ref a) s'):wpAny (model X.prog X.w) X.A (call (.ref C) us) Q X.xe s:=by
 have h1:H (s.heap.objs.size+1)=none:=I.hok.fresh (Nat.le_succ _)
 have I2:=Inv.xfmade (C:=C) I us
 have r2:Vals (V.ref (s.heap.objs.size+1)::vs) (Value.ref (s.heap.objs.size+1)::us):=.cons rfl r
 have hq:spXI C fls (.ref (s.heap.objs.size+1)::vs) (upd H (s.heap.objs.size+1) (XF C none (s.heap.objs.size+1) s.heap.objs.size)) (fun v H2=>v=.non∧∃ dx,H dx=none∧dx≠s.heap.objs.size+1∧H2=upd (upd H dx (DXO dx (fls.zip vs))) (s.heap.objs.size+1) (XF C (some dx) (s.heap.objs.size+1) s.heap.objs.size)) E0:=by
  refine ⟨_,_,_,rfl,hn,u0k,fun dx d1 d2=>⟨rfl,dx,?_,d2,?_⟩⟩
  ·rw [u0r d2] at d1;exact d1
  ·funext b
   unfold upd
   by_cases q1:b=s.heap.objs.size+1
   ·rw [if_pos q1,if_pos q1]
   ·rw [if_neg q1,if_neg q1,if_neg q1]
 have hl:(Value.ref (s.heap.objs.size+1)::us++[]).length=ps.length:=by
  have e:=r2.length
  rw [F.len _ _ _ _ hq] at e
  rw [List.append_nil]
  exact e.symm
 refine wpAny_call ?_
 obtain ⟨hh,g,d,tt,os⟩:=s
 refine v3b (f:=fI) I.kIn c (by rw [← r.length,sizeLine_eq];omega) ?_
 refine codeAny_mono (F.run _ X.stack _ _ ⟨Value.ref (hh.objs.size+1)::us,[]⟩ (Value.ref (hh.objs.size+1)::us) _ _ E0 (hr.make C us []) (I2.env0.make C us []) (by have:=hb _ (Value.ref (hh.objs.size+1)::us) I2.kIn hl;rwa [List.append_nil] at this) r2 hq) fun r s' hq'=>?_
 cases r with
 | error e=>exact False.elim hq'
 | ok fl =>
  cases fl with
  | ret u =>
   obtain ⟨v,H',I3,rv,ev,dx,q1,q2,q3⟩:=I2.after hq'
   subst ev q3
   exact ⟨rv,h _ dx s' h1 q1 q2 I3⟩
  | next=>exact False.elim hq'
  | brk=>exact False.elim hq'
  | cont=>exact False.elim hq'
noncomputable def XCalleeF (P:Program) (w:World) (K:PySem.W.Frag) (mg:Str→Option Value) (base:Heap) (k:Nat) (x:Str) (C:Addr) (ps fls:List Str):Prop :=
 ∃ f fd,XCls K C f∧FnOk P w K mg base CX0 k f fd ps (spXI C fls)∧Binds K fd ps []∧mg x=some (.ref C)
theorem Rps.zip {K:PySem.W.Frag}{F:Hp}:∀ {vs:List V}{ds:List D} (fls:List Str),Rps K F vs ds→Rpf K F (fls.zip vs) (fls.zip ds)
 | _,_,[],_=>by simpa using Rpf.nil
 | _,_,_::_,.nil=>by simpa using Rpf.nil
 | _,_,f::fls,.cons h hs=>.cons h (hs.zip fls)
theorem u1K {xq:XQ}{fs:Rho→Res (List D)}{P:Program}{w:World}{K:PySem.W.Frag}{mg:Str→Option Value}{base:Heap}{k':Nat} (hq:XqOk X xq) (hc:X.calm=true) (h:XCalleeF P w K mg base k x C ps fls) (hr:Room k' X.A) (ha:DA X xq (e::es) fs) (hk:k+1≤k':=by decide) (hg:Gl X x:=by rfl)
  (eP:X.prog=P:=by rfl) (ew:X.w=w:=by rfl) (eK:X.K=K:=by rfl) (em:X.mg=mg:=by rfl) (eb:X.base=base:=by rfl) (hdb:(x==("__debug__":Str))=false:=by decide) :
  DS X xq (.Raise (some (.Call (.Name x p) (e::es) [] cpos)) none pos) (fun ρ=>(fs ρ).go ρ fun ds=>if ds.length=fls.length∧ds.length≤1000 then .er (.exc C (fls.zip ds)) (frz ρ) else .bad):=by
 subst eP ew eK em eb
 obtain ⟨f,fd,c,F,hb,hm⟩:=h
 refine ⟨fun pins s σ H T I ⟨B,G,ρ,R,q⟩=>?_⟩
 rw [arm_exec_Raise]
 refine wpAny_bind (wpAny_standAt ?_)
 refine u9O (I.ok.hd hc) ?_
 refine wpAny_bind (m:=eval (.Call (.Name x p) (e::es) [] cpos) X.env) (wpAny_Call_Name_kw (u3A I hg hm ?_ hdb))
 refine PySem.W.callWith_K (h₀:=X.base) I.ok.mod.kin c.kp (thn (ha.out cpos pins s σ H (fun vs H1=>∃ G1 ds,Rel X.K B ρ σ G1 H1∧Rps X.K G1 vs ds∧ds.length=fls.length∧ds.length≤1000∧∀ v σ F H,Rel X.K B (frz ρ) σ F H→Rp X.K F v (.exc C (fls.zip ds))→xq v σ H) I ?_) fun us s1 ⟨vs,H1,I1,r,G1,ds,R1,p1,l1,l2,q1⟩=>⟨I1.kIn,?_⟩) (u1f (u0S ha.ns).1) (u2x (u0S ha.ns).2)
 ·refine ⟨B,G,ρ,R,Res.all_mono (u1m q.out) (fun ds z vs G1 H1 st p1=>?_) fun _ z=>errOf z⟩
  by_cases hz:ds.length=fls.length∧ds.length≤1000
  ·rw [if_pos hz] at z
   exact ⟨G1,ds,R.step st,p1,hz.1,hz.2,z⟩
  ·rw [if_neg hz] at z;exact z.elim
 ·refine run_xf c F (hr.mono hk) hb I1 r (by rw [p1.length];exact l2) (p1.length.trans l1) fun a dx s2 n1 n2 n3 I2=>wpAny_bind (wpAny_standAt (wpAny_pure ?_))
  have xa:=xf_at I2.hok u0k
  obtain ⟨⟨t,sl,z⟩,hn⟩:=xa
  refine ⟨a,t,C,f,some dx,sl,X.K,rfl,I2.kIn,c,z,hq.xe _ _ ?_⟩
  have I3:=I2.xo u0k
  rw [upd_upd] at I3
  refine ⟨_,a,C,some dx,σ,_,.none,I1.old.bare0,rfl,I3.bare0,u0k,⟨hn,_,_,z,rfl,by show 1<6;decide,.inl ⟨rfl,rfl⟩⟩,.inl rfl,?_⟩
  have s1:=Stp.new (o:=DXO dx (fls.zip vs)) R1.fh n2
  have n1':upd H1 dx (DXO dx (fls.zip vs)) a=none:=by rw [u0r (Ne.symm n3)];exact n1
  have s2:=s1.trans (Stp.new (o:=XO C (some dx) a) s1.fh n1')
  obtain ⟨G3,e3,R3⟩:=(R1.step s2).frz
  refine q1 _ σ G3 _ R3 (Rp.same e3 (.exc u0k (by rw [u0r n3];exact u0k) ((p1.zip fls).same s2.ff)))
end
noncomputable def XBase (K:PySem.W.Frag) (C:Addr):Prop:=∃ bm N nm q bs sn sub ab col dd k0 k1 k2 k3 k5,K.lookup C=some (excClassObj nm q C N bs bm true sn sub ab col dd k0 k1 k2 k3 k5 "ValueError.__new__")∧(Value.ref C::bm).contains (.type "BaseException")=true
noncomputable def xbB (K:PySem.W.Frag) (C:Addr):Bool:=match K.lookup C with
 | some ⟨.type "type",_,.cls cd,sl⟩=>(match cd.mro,sl.toList with
  | .ref C'::bm,[_,_,_,_,some (.builtin n),_]=>C'==C&&n=="ValueError.__new__"&&!cd.hasDel&&cd.hasDict&&(Value.ref C::bm).contains (.type "BaseException")
  | _,_=>false)
 | _=>false
theorem u2u {K:PySem.W.Frag}{C:Addr} (e:xbB K C=true):XBase K C:=by
 unfold xbB at e
 split at e
 ·rename_i dd cd sl ho
  split at e
  ·rename_i C' bm k0 k1 k2 k3 n k5 hm hs
   simp only [Bool.and_eq_true,beq_iff_eq,Bool.not_eq_true'] at e
   obtain ⟨⟨⟨⟨rfl,rfl⟩,hdel⟩,hdi⟩,hb⟩:=e
   obtain ⟨nm,bs,mro,ns,qn,hd,sn,sub,ab,col,del⟩:=cd
   dsimp only at hm hdel hdi
   subst hm hdel hdi
   have hsl:sl=#[k0,k1,k2,k3,some (.builtin "ValueError.__new__"),k5]:=by
    obtain ⟨l⟩:=sl
    simp only at hs
    rw [hs]
   subst hsl
   exact ⟨bm,ns,nm,qn,bs,sn,sub,ab,col,dd,k0,k1,k2,k3,k5,ho,hb⟩
  ·cases e
 ·cases e
noncomputable def subK (K:PySem.W.Frag) (C C':Addr):Bool:=match PySem.W.clsIn K C with
 | some cd=>cd.mro.contains (.ref C')
 | none=>false
section
variable {M:Model}{A:Around}{E:Value→Shared→Prop}{s:Shared}{K:PySem.W.Frag}{C C' e:Addr}
theorem u7o {Q:Bool→Shared→Prop}{oe:Obj} (KI:K.In s.heap) (c:XBase K C) (c':XBase K C') (he:s.heap.get? e=some oe) (hcls:oe.cls=.ref C) (hq:Q (subK K C C') s):wpAny M A (excMatches (.ref e) (.ref C')) Q E s:=by
 obtain ⟨bm,N,nm,q,bs,sn,sub,ab,col,dd,k0,k1,k2,k3,k5,hK,hb⟩:=c
 obtain ⟨bm',N',nm',q',bs',sn',sub',ab',col',dd',j0,j1,j2,j3,j5,hK',hb'⟩:=c'
 have hC:=KI _ _ hK
 have hC':=KI _ _ hK'
 have hs:subK K C C'=(Value.ref C::bm).contains (.ref C'):=by
  unfold subK PySem.W.clsIn
  rw [hK]
 rw [hs] at hq
 have f:=tc_notTuple
 obtain ⟨hp,g,d,tk,os⟩:=s
 unfold excMatches
 repeat (first | ((with_reducible refine wpAny_loadPart_at he ?_);rw [hcls]) | (with_reducible refine wpAny_loadPart_at hC' ?_) | ((with_reducible refine wpAny_isSubtype_exc hC' ?_);rw [hb']) | ((with_reducible refine wpAny_isSubtype_exc hC ?_);generalize hz:(Value.ref C::bm).contains (.ref C')=z at hq ⊢;cases z) | wp_step)
 all_goals (wp_walk;exact hq)
end
section
variable {X:Cx}{pins:List (Addr×Obj)}{σ:St}{H:Hp}{s:Shared}{M:Model}{A:Around}{E:Value→Shared→Prop}
theorem Inv.gone {i:Nat}{n:Str}{m:Str→Option Value}{w:Option Value}{h':Heap}{t':Nat} (I:Inv X pins σ H s) (hN:X.N.Nodup) (hi:X.N[i]?=some n) (hl:∀ (j:Nat) (x:Str) (v:V),X.N[j]?=some x→σ[j]?=some (some v)→Vis X.env.scope x→∃ u,RelV v u∧Look X.env s.heap m x u)
  (hn':h'.Ns X.env.locals (fun x=>if x=n then w else m x)) (hs:Heap.SameBut X.env.locals s.heap h'):Inv X pins (σ.set i none) H { s with heap:=h',toks:=t' }:=by
 have ne:∀ b,b≠X.env.locals→h'.get? b=s.heap.get? b:=hs.2
 have old:∀ b o,X.s₀.heap.get? b=some o→b≠X.env.locals:=fun b o e=>Nat.ne_of_lt (Nat.lt_of_lt_of_le (Heap.lt_size e) I.ok.above)
 refine ⟨I.ok,I.os,I.bare,⟨fun b o e z hb hx=>(ne b (old b o e)).trans (I.base.keep b o e z hb hx),fun b o e z hb hx=>?_,I.base.free,fun b o e hx=>?_,I.base.tups,I.base.frzs,I.base.tbls⟩,⟨_,hn',fun j x v e1 e2 e3=>?_⟩,fun x c e=>?_,I.free,I.freeC,fun p hp=>?_,fun a o e=>?_,by simp [I.len]⟩
 ·obtain ⟨sl,q⟩:=I.base.slot b o e z hb hx
  exact ⟨sl,(ne b (old b o e)).trans q⟩
 ·obtain ⟨o',q⟩:=I.base.there b o e hx
  exact ⟨o',(ne b (old b o e)).trans q⟩
 ·by_cases hj:j=i
  ·subst hj
   rw [List.getElem?_set_self (by rw [I.len];exact (List.getElem?_eq_some_iff.mp hi).1)] at e2
   cases e2
  ·rw [List.getElem?_set_ne (Ne.symm hj)] at e2
   obtain ⟨u,r,q⟩:=hl j x v e1 e2 e3
   refine ⟨u,r,?_⟩
   rcases q with ⟨k,q⟩ | ⟨k,c,q,z⟩
   ·have nx:x≠n:=fun y=>hj (u6k hN e1 (y ▸ hi))
    exact .inl ⟨k,by show (if x=n then w else m x)=some u;rw [if_neg nx];exact q⟩
   ·exact .inr ⟨k,c,q,z.sameBut hs (I.cne x c q)⟩
 ·obtain ⟨v,z⟩:=I.cell x c e
  exact ⟨v,z.sameBut hs (I.cne x c e)⟩
 ·obtain ⟨q,z,nl,nf,d⟩:=I.pin p hp
  exact ⟨(ne p.1 nl).trans q,z,nl,nf,d⟩
 ·refine (I.hok a o e).stay (fun c u hc q=>(ne c ?_).trans q) (fun _ q=>q) fun _ _ q=>q
  rintro rfl
  rcases hc with rfl | hc
  ·rw [I.free] at e;cases e
  ·rw [I.free] at hc;cases hc
theorem u6n {i:Nat}{n:Str}{pos:Pos}{Q:Unit→Shared→Prop} (I:Inv X pins σ H s) (hN:X.N.Nodup) (hi:X.N[i]?=some n) (hl:X.env.scope.names.lookup n=some .local) (hk:X.env.kindOf n=some .local)
  (h:∀ s',Inv X pins (σ.set i none) H s'→Q () s'):wpAny M A (do bindName X.env n .none;unbindBehindTheSuite X.env n pos) Q E s:=by
 have hp:(X.env.scope.kind==.class||(X.env.scope.kind==.module&&X.env.locals != X.env.globals))=false:=by rw [I.ok.kind];rfl
 refine wpAny_bind (wpAny_bindName (u4y (v:=.non) I hN hi (.inl hl) rfl (fun s1 I1=>?_) (.inr hl)))
 obtain ⟨m,hn,hlo⟩:=id I1.loc
 have hiσ:i<σ.length:=by rw [I.len];exact (List.getElem?_eq_some_iff.mp hi).1
 obtain ⟨u,ru,lk⟩:=hlo i n .non hi (by rw [List.getElem?_set_self hiσ]) (.inl hl)
 have hm:m n=some .none:=by
  cases ru
  rcases lk with ⟨_,q⟩ | ⟨k,_⟩
  ·exact q
  ·rw [hk] at k;rcases k with k | k <;> cases k
 unfold unbindBehindTheSuite
 refine wpAny_onRaise ?_
 unfold unbindName
 refine wpAny_bind (wpAny_point (wpAny_bind ?_))
 unfold deleteName
 simp only [hk,hp]
 rw [if_neg (by decide)]
 refine wpAny_bind (wpAny_nsDel_keeps hn fun h2 w hn2 hs2=>?_)
 rw [hm]
 simp only [if_true,Option.isSome_some,Bool.not_true,Bool.false_eq_true,if_false]
 refine wpAny_pure (wpAny_point ?_)
 have I2:=I1.gone (t':=s1.toks) hN hi hlo hn2 hs2
 rw [List.set_set] at I2
 exact h _ I2
end
noncomputable abbrev cxH (X:Cx) (e:Addr):Cx:={ X with A:=X.A.mark (some (.ref e)),calm:=false,xe:=fun _ _=>False }
section
variable {X:Cx}{xq:XQ}{pins:List (Addr×Obj)}{σ:St}{H:Hp}{s:Shared}{e:Addr}
theorem Inv.toH (I:Inv X pins σ H s) (e:Addr):Inv (cxH X e) pins σ H s :=
 ⟨⟨I.ok.mod,I.ok.kind,I.ok.glob,I.ok.blt,I.ok.above,I.ok.inj,I.ok.has,I.ok.cab,(fun z=>nomatch z),I.ok.frames,I.ok.stk,I.ok.exf,I.ok.bs,I.ok.bsz,I.ok.noex,I.ok.exfs,I.ok.funs,I.ok.frf⟩,I.os,I.bare,I.base,I.loc,I.cell,I.free,I.freeC,I.pin,I.hok,I.len⟩
theorem Inv.ofH (J:X.Ok) (I:Inv (cxH X e) pins σ H s):Inv X pins σ H s:=⟨J,I.os,I.bare,I.base,I.loc,I.cell,I.free,I.freeC,I.pin,I.hok,I.len⟩
theorem Rel.unset {K:PySem.W.Frag}{B:Hp×Hp}{ρ:Rho}{F:Hp}{i:Nat} (r:Rel K B ρ σ F H):Rel K B (ρ.set i none) (σ.set i none) F H where
 st:=r.st
 len:=by simp [r.len]
 val j d e:=by
  rcases u1v e with ⟨rfl,q,z⟩ | ⟨q,z⟩
  ·cases z
  ·rw [u1y q];exact r.val j d z
 own j o e:=by
  rcases u1v e with ⟨rfl,q,z⟩ | ⟨q,z⟩
  ·cases z
  ·rw [u1y q];exact r.own j o z
 dis j k o u a x y:=by
  rcases u1v x with ⟨rfl,q,z⟩ | ⟨q,z⟩
  ·cases z
  ·rcases u1v y with ⟨rfl,q',z'⟩ | ⟨q',z'⟩
   ·cases z'
   ·rw [u1y q,u1y q'];exact r.dis j k o u a z z'
noncomputable def PH (X:Cx) (xq:XQ) (hs:List ExceptHandler) (hd:D→Rho→Out):Prop:=∀ (pins:List (Addr×Obj)) (s:Shared) (σ:St) (H:Hp) (B:Hp×Hp) (F:Hp) (ρ:Rho) (x:D) (e:Addr) (n:Nat) (T:Ends),Inv X pins σ H s→Old X pins n→Tr n s.heap H e .none →
 Rel X.K B ρ σ F H→Rp X.K F (.ref e) x→OkS X.K xq B T (hd x ρ)→wpAny (model X.prog X.w) X.A (handleBy (.ref e) X.env hs) (SP X pins T) X.xe s
structure DH (X:Cx) (xq:XQ) (hs:List ExceptHandler) (hd:D→Rho→Out):Prop where
 out:PH X xq hs hd
noncomputable def isE:D→Bool
 | .exc _ _=>true
 | _=>false
theorem dh_nil (hq:XqOk X xq):DH X xq [] (fun x ρ=>if isE x=true then .er x (frz ρ) else .bad):=⟨fun pins s σ H B F ρ x e n T I o tr R p q=>by
 cases p with
 | exc h1 h2 h3 =>
  rename_i C dx fs gs
  have q':∀ v σ F H,Rel X.K B (frz ρ) σ F H→Rp X.K F v (.exc C gs)→xq v σ H:=q.out
  have hx:=R.fh _ _ h1
  refine wpAny_handleBy_nil ?_
  unfold PySem.passOn
  have tr':=tr
  obtain ⟨a0,oe,vs,a1,a2,a3,t,oT,ts,a4,a5,a6,a7,a8,a9,a10⟩:=tr'
  refine wpAny_bind (wpAny_field a1 a2 a4 ?_)
  rw [if_neg (show ¬ ((Value.ref t==Value.none)=true) by simp),hq.st.2]
  refine wpAny_bind (u2M (f:=some X.env.locals) I hq.st o hx tr fun s3 I3 tr3=>wpAny_throw (hq.xe _ _ ?_))
  obtain ⟨F1,e1,R1⟩:=R.frz
  exact ⟨n,e,C,some dx,σ,H,_,o.bare0,rfl,I3.bare0,hx,tr3.tb,.inr rfl,q' _ σ F1 H R1 (Rp.same e1 (.exc h1 h2 h3))⟩
 | _=>exact q.out.elim⟩
noncomputable def unset (i:Nat):Out→Out
 | .nx ρ=>.nx (ρ.set i none)
 | .rt d=>.rt d
 | .bk ρ=>.bk (ρ.set i none)
 | .ct ρ=>.ct (ρ.set i none)
 | _=>.bad
noncomputable def hdAs (K:PySem.W.Frag) (C':Addr) (i:Nat) (fb:Rho→Out) (rest:D→Rho→Out) (x:D) (ρ:Rho):Out:=match x with
 | .exc C gs=>if xbB K C=true then (if subK K C C'=true then unset i (fb (ρ.set i (some (.val (.exc C gs))))) else rest (.exc C gs) ρ) else .bad
 | _=>.bad
theorem dh_as {cn nm:Str}{C':Addr}{i:Nat}{p pos:Pos}{b0:Stmt}{bs:List Stmt}{rest:List ExceptHandler}{fb:Rho→Out}{hr:D→Rho→Out} (hst:X.stack=X.env::X.outer∧X.env.frame=some X.env.locals) (hN:X.N.Nodup) (hm:X.mg cn=some (.ref C')) (hb:XBase X.K C')
  (hsu:∀ e,DB (cxH X e) xqF (b0::bs) fb) (hrs:DH X xq rest hr) (hi:X.N[i]?=some nm:=by rfl) (hl:X.env.scope.names.lookup nm=some .local:=by rfl) (hk:X.env.kindOf nm=some .local:=by rfl) (hg:Gl X cn:=by rfl) (hdb:(cn==("__debug__":Str))=false:=by decide) :
  DH X xq (.ExceptHandler (some (.Name cn p)) (some nm) (b0::bs) pos::rest) (hdAs X.K C' i fb hr):=⟨fun pins s σ H B F ρ x e n T I o tr R pe q=>by
 cases pe with
 | exc h1 h2 h3 =>
  rename_i C dx fs gs
  have hx:=R.fh _ _ h1
  have q:=q.out
  unfold hdAs at q
  dsimp only at q
  by_cases hc:xbB X.K C=true
  ·rw [if_pos hc] at q
   obtain ⟨oe,he,hcls⟩:∃ oe,s.heap.get? e=some oe∧oe.cls=.ref C:=by
    obtain ⟨t,f1,f2,f3,f4,f5,sl,z⟩:=v0q I.hok hx
    exact ⟨_,z,rfl⟩
   have IH:=I.toH e
   refine wpAny_handleBy_cons (codeAny_handlers_test (u3A IH hg hm (u7o I.kIn (u2u hc) hb he hcls ?_) hdb)) (by intro z;cases z)
   cases hsb:subK X.K C C' with
   | false =>
    rw [hsb] at q
    exact hrs.out pins s σ H B F ρ _ e n T I o tr R (.exc h1 h2 h3) ⟨q⟩
   | true =>
    rw [hsb] at q
    refine codeAny_handlers_suite_as (u2M (X:=cxH X e) (f:=none) IH hst ⟨o.s0,o.loc,o.cel,o.pin⟩ hx tr fun s2 I2 tr2=>?_)
    refine u4y (X:=cxH X e) (v:=.ref e) I2 hN hi (.inl hl) rfl (fun s3 I3=>?_) (.inr hl)
    have R3:Rel X.K B (ρ.set i (some (.val (.exc C gs)))) (σ.set i (some (.ref e))) F H:=R.set (.exc h1 h2 h3)
    refine wpAny_mono ((hsu e).out pins s3 _ H { nx:=fun σ' H'=>T.nx (σ'.set i none) H',rt:=T.rt,bk:=fun σ' H'=>T.bk (σ'.set i none) H',ct:=fun σ' H'=>T.ct (σ'.set i none) H' } I3 ⟨B,F,_,R3,⟨?_⟩⟩) (fun f s4 z=>?_) fun _ _ z=>False.elim z
    ·generalize fb (ρ.set i (some (Sl.val (D.exc C gs))))=out at q
     cases out with
     | nx r=>exact fun σ' F' H' R'=>q _ F' H' R'.unset
     | rt d=>exact q
     | bk r=>exact fun σ' F' H' R'=>q _ F' H' R'.unset
     | ct r=>exact fun σ' F' H' R'=>q _ F' H' R'.unset
     | er y r=>exact q.elim
     | bad=>exact q.elim
    ·cases f with
     | next=>obtain ⟨σ',H',I4,z⟩:=z;exact u6n (Inv.ofH I.ok I4) hN hi hl hk fun s5 I5=>⟨_,H',I5,z⟩
     | brk=>obtain ⟨σ',H',I4,z⟩:=z;exact u6n (Inv.ofH I.ok I4) hN hi hl hk fun s5 I5=>⟨_,H',I5,z⟩
     | cont=>obtain ⟨σ',H',I4,z⟩:=z;exact u6n (Inv.ofH I.ok I4) hN hi hl hk fun s5 I5=>⟨_,H',I5,z⟩
     | ret u=>obtain ⟨v,σ',H',I4,r,z⟩:=z;exact u6n (Inv.ofH I.ok I4) hN hi hl hk fun s5 I5=>⟨v,_,H',I5,r,z⟩
  ·rw [if_neg hc] at q;exact q.elim
 | _=>exact q.out.elim⟩
end
section
variable {X:Cx}{xq:XQ}{pins:List (Addr×Obj)}{σ:St}{H:Hp}{s:Shared}{e:Addr}
noncomputable def hdNo (K:PySem.W.Frag) (C':Addr) (fb:Rho→Out) (rest:D→Rho→Out) (x:D) (ρ:Rho):Out:=match x with
 | .exc C gs=>if xbB K C=true then (if subK K C C'=true then (match fb ρ with | .er _ _=>.bad | o=>o) else rest (.exc C gs) ρ) else .bad
 | _=>.bad
theorem dh_no {cn:Str}{C':Addr}{p pos:Pos}{b0:Stmt}{bs:List Stmt}{rest:List ExceptHandler}{fb:Rho→Out}{hr:D→Rho→Out} (hst:X.stack=X.env::X.outer∧X.env.frame=some X.env.locals) (hm:X.mg cn=some (.ref C')) (hb:XBase X.K C')
  (hsu:∀ e,DB (cxH X e) xqF (b0::bs) fb) (hrs:DH X xq rest hr) (hg:Gl X cn:=by rfl) (hdb:(cn==("__debug__":Str))=false:=by decide) :
  DH X xq (.ExceptHandler (some (.Name cn p)) none (b0::bs) pos::rest) (hdNo X.K C' fb hr):=⟨fun pins s σ H B F ρ x e n T I o tr R pe q=>by
 cases pe with
 | exc h1 h2 h3 =>
  rename_i C dx fs gs
  have hx:=R.fh _ _ h1
  have q:=q.out
  unfold hdNo at q
  dsimp only at q
  by_cases hc:xbB X.K C=true
  ·rw [if_pos hc] at q
   obtain ⟨oe,he,hcls⟩:∃ oe,s.heap.get? e=some oe∧oe.cls=.ref C:=by
    obtain ⟨t,f1,f2,f3,f4,f5,sl,z⟩:=v0q I.hok hx
    exact ⟨_,z,rfl⟩
   have IH:=I.toH e
   refine wpAny_handleBy_cons (codeAny_handlers_test (u3A IH hg hm (u7o I.kIn (u2u hc) hb he hcls ?_) hdb)) (by intro z;cases z)
   cases hsb:subK X.K C C' with
   | false =>
    rw [hsb] at q
    exact hrs.out pins s σ H B F ρ _ e n T I o tr R (.exc h1 h2 h3) ⟨q⟩
   | true =>
    rw [hsb] at q
    refine codeAny_handlers_suite (u2M (X:=cxH X e) (f:=none) IH hst ⟨o.s0,o.loc,o.cel,o.pin⟩ hx tr fun s2 I2 tr2=>?_)
    refine wpAny_mono ((hsu e).out pins s2 _ H T I2 ⟨B,F,_,R,⟨?_⟩⟩) (fun f s4 z=>?_) fun _ _ z=>False.elim z
    ·have q:(match fb ρ with | .er _ _=>Out.bad | o=>o).all _ _ _ _ _:=q
     generalize fb ρ=out at q
     cases out with
     | nx r=>exact q
     | rt d=>exact q
     | bk r=>exact q
     | ct r=>exact q
     | er y r=>exact q.elim
     | bad=>exact q.elim
    ·cases f with
     | next=>obtain ⟨σ',H',I4,z⟩:=z;exact ⟨σ',H',Inv.ofH I.ok I4,z⟩
     | brk=>obtain ⟨σ',H',I4,z⟩:=z;exact ⟨σ',H',Inv.ofH I.ok I4,z⟩
     | cont=>obtain ⟨σ',H',I4,z⟩:=z;exact ⟨σ',H',Inv.ofH I.ok I4,z⟩
     | ret u=>obtain ⟨v,σ',H',I4,r,z⟩:=z;exact ⟨v,σ',H',Inv.ofH I.ok I4,r,z⟩
  ·rw [if_neg hc] at q;exact q.elim
 | _=>exact q.out.elim⟩
noncomputable abbrev cxP (X:Cx) (pn:List (Addr×Obj)):Cx:={ X with pn:=X.pn++pn }
noncomputable abbrev cxT (X:Cx) (pn:List (Addr×Obj)) (xq:XQ):Cx:=(cxP X pn).wish (Fly (cxP X pn) xq)
theorem Inv.toP (I:Inv X pins σ H s):Inv (cxP X pins) [] σ H s :=
 ⟨⟨I.ok.mod,I.ok.kind,I.ok.glob,I.ok.blt,I.ok.above,I.ok.inj,I.ok.has,I.ok.cab,I.ok.hd,I.ok.frames,I.ok.stk,I.ok.exf,I.ok.bs,I.ok.bsz,I.ok.noex,I.ok.exfs,I.ok.funs,I.ok.frf⟩,I.os,I.bare,I.base,I.loc,I.cell,I.free,I.freeC,fun p hp=>I.pin p (by simpa using hp),I.hok,I.len⟩
theorem Inv.ofP (I:Inv (cxP X pins) [] σ H s):Inv X pins σ H s :=
 ⟨⟨I.ok.mod,I.ok.kind,I.ok.glob,I.ok.blt,I.ok.above,I.ok.inj,I.ok.has,I.ok.cab,I.ok.hd,I.ok.frames,I.ok.stk,I.ok.exf,I.ok.bs,I.ok.bsz,I.ok.noex,I.ok.exfs,I.ok.funs,I.ok.frf⟩,I.os,I.bare,I.base,I.loc,I.cell,I.free,I.freeC,fun p hp=>I.pin p (by simpa using hp),I.hok,I.len⟩
theorem Old.ofP {n:Nat} (o:Old (cxP X pins) [] n):Old X pins n:=⟨o.s0,o.loc,o.cel,fun p hp=>o.pin p (by simpa using hp)⟩
noncomputable def catchD (hd:D→Rho→Out):Out→Out
 | .er x ρ=>hd x ρ
 | o=>o
theorem ds_try {body:List Stmt}{h0:ExceptHandler}{hs:List ExceptHandler}{pos:Pos}{fb:Rho→Out}{hd:D→Rho→Out} (hst:X.stack=X.env::X.outer∧X.env.frame=some X.env.locals)
  (hb:∀ pn xq',XqOk (cxT X pn xq') xq'→DB (cxT X pn xq') xq' body fb) (hh:DH X xq (h0::hs) hd) :
  DS X xq (.Try body (h0::hs) [] [] pos) (fun ρ=>catchD hd (fb ρ)):=⟨fun pins s σ H T I ⟨B,F,ρ,R,q⟩=>by
 rw [arm_exec_Try]
 refine wpAny_bind (wpAny_standAt (wpAny_tryStmt_except ?_))
 let xq':XQ:=fun v σ' H'=>∃ ρ' F' x,Rel X.K B ρ' σ' F' H'∧Rp X.K F' v x∧OkS X.K xq B T (hd x ρ')
 have hq':XqOk (cxT X pins xq') xq':=u4D (X:=cxP X pins) hst
 refine wpAny_mono ((hb pins xq' hq').out [] s σ H T (I.toP.wish _) ⟨B,F,ρ,R,⟨?_⟩⟩) (fun f s1 z=>?_) fun u s1 z=>?_
 ·have q:=q.out
  dsimp only at q
  generalize fb ρ=out at q
  cases out with
  | nx r=>exact q
  | rt d=>exact q
  | bk r=>exact q
  | ct r=>exact q
  | er x r=>exact fun v σ' F' H' R' p'=>⟨r,F',x,R',p',⟨q⟩⟩
  | bad=>exact q.elim
 ·cases f with
  | next=>obtain ⟨σ',H',I4,z⟩:=z;exact wpAny_execs_nil ⟨σ',H',I4.unwish.ofP,z⟩
  | brk=>obtain ⟨σ',H',I4,z⟩:=z;exact ⟨σ',H',I4.unwish.ofP,z⟩
  | cont=>obtain ⟨σ',H',I4,z⟩:=z;exact ⟨σ',H',I4.unwish.ofP,z⟩
  | ret u=>obtain ⟨v,σ',H',I4,r,z⟩:=z;exact ⟨v,σ',H',I4.unwish.ofP,r,z⟩
 ·obtain ⟨n,e,C,d,σ',H',fl,o,rfl,I1,hx,tb,hfl,ρ',F',x,R',p',q'⟩:=z
  refine u8o (X:=cxP X pins) I1 hst o hx tb hfl fun s2 I2 tr2=>?_
  refine u2M (X:=cxP X pins) (f:=none) I2 hst o hx tr2 fun s3 I3 tr3=>?_
  exact hh.out pins s3 σ' H' B F' ρ' x e n T I3.ofP o.ofP tr3 R' p' q'⟩
noncomputable def dXf (K:PySem.W.Frag) (f:Str):D→Res D
 | .exc _ gs=>match gs.lookup f with
  | some d=>.ok d
  | none=>.bad
 | _=>.bad
noncomputable def XRead (K:PySem.W.Frag) (f:Str) (Cs:List Addr):Prop:=∀ C∈Cs,(∃ fI,XCls K C fI)∧NoAttr K C f
theorem u7u {o:Expr}{f:Str}{fo:Rho→Res D}{pos:Pos}{Cs:List Addr}{K:PySem.W.Frag} (hr:XRead K f Cs) (ho:DE X xq o fo) (eK:X.K=K:=by rfl) (hb:attributeBase o f X.env (eval o X.env)=eval o X.env:=by rfl) :
  DE X xq (.Attribute o f pos) (fun ρ=>(fo ρ).bind fun x=>match x with | .exc C gs=>if C∈Cs then (match gs.lookup f with | some d=>.ok d | none=>.bad) else .bad | _=>.bad):=by
 subst eK
 refine DE.of (pe_xfld ho.out hb) fun B F ρ σ H Q R q=>seqE R q fun d v F1 H1 s1 R1 p1 q1=>?_
 cases p1 with
 | exc h1 h2 h3 =>
  rename_i C dx fs gs
  have q1:(if C∈Cs then (match gs.lookup f with | some d=>Res.ok d | none=>.bad) else .bad).all _ _:=q1
  by_cases hc:C∈Cs
  ·rw [if_pos hc] at q1
   cases hl:gs.lookup f with
   | none=>rw [hl] at q1;exact q1.elim
   | some d =>
    rw [hl] at q1
    obtain ⟨v,hv,pv⟩:=h3.lookup hl
    obtain ⟨⟨fI,c⟩,na⟩:=hr C hc
    exact ⟨_,C,fI,dx,fs,v,rfl,R1.fh _ _ h1,R1.fh _ _ h2,c,na,hv,q1 v F1 H1 s1 pv⟩
  ·rw [if_neg hc] at q1;exact q1.elim
 | _=>exact q1.elim
end
mutual
noncomputable def DK.hash (w:World):DK→Int
 | .i n=>keyH w (.inl n)
 | .s z=>keyH w (.inr z)
 | .t ks=>reduceHash (Builtin.Tuple.tupleHashOf (DK.hashes w ks))
noncomputable def DK.hashes (w:World):List DK→List Int
 | []=>[]
 | k::ks=>k.hash w::DK.hashes w ks
end
mutual
noncomputable def DK.drw:DK→Nat
 | .i _=>1
 | .s _=>1
 | .t ks=>DK.drws ks+1
noncomputable def DK.drws:List DK→Nat
 | []=>0
 | k::ks=>k.drw+DK.drws ks
end
mutual
inductive KAt (h:Heap):DK→Value→Prop
 | i (n:Int) (t:Tok):KAt h (.i n) (.int n t)
 | s (z:Str) (t:Tok):KAt h (.s z) (.str z t)
 | t {a:Addr}{o:Obj}{its:Array Value}{n:Nat}{ks:List DK}:h.get? a=some o→o.cls=.type "tuple"→o.data=.seq its n→KAts h ks its.toList→KAt h (.t ks) (.ref a)
inductive KAts (h:Heap):List DK→List Value→Prop
 | nil:KAts h [] []
 | cons {k:DK}{v:Value}{ks:List DK}{vs:List Value}:KAt h k v→KAts h ks vs→KAts h (k::ks) (v::vs)
end
mutual
theorem KAt.inj {h:Heap}:∀ {x y:DK}{v:Value},KAt h x v→KAt h y v→x=y
 | _,_,_,.i _ _,.i _ _=>rfl
 | _,_,_,.s _ _,.s _ _=>rfl
 | _,_,_,.t p1 _ p2 p3,.t q1 _ q2 q3=>by
  rw [p1] at q1;cases q1
  rw [p2] at q2;cases q2
  rw [KAts.inj p3 q3]
theorem KAts.inj {h:Heap}:∀ {x y:List DK}{v:List Value},KAts h x v→KAts h y v→x=y
 | _,_,_,.nil,.nil=>rfl
 | _,_,_,.cons p ps,.cons q qs=>by rw [KAt.inj p q,KAts.inj ps qs]
end
mutual
theorem KAt.moved {h h':Heap} (k:∀ b o its n,h.get? b=some o→o.data=.seq its n→h'.get? b=some o):∀ {x:DK}{v:Value},KAt h x v→KAt h' x v
 | _,_,.i n t=>.i n t
 | _,_,.s n t=>.s n t
 | _,_,.t p1 pc p2 p3=>.t (k _ _ _ _ p1 p2) pc p2 (KAts.moved k p3)
theorem KAts.moved {h h':Heap} (k:∀ b o its n,h.get? b=some o→o.data=.seq its n→h'.get? b=some o):∀ {x:List DK}{v:List Value},KAts h x v→KAts h' x v
 | _,_,.nil=>.nil
 | _,_,.cons p ps=>.cons (KAt.moved k p) (KAts.moved k ps)
end
mutual
theorem KAt.reads {h:Heap}:∀ {x:DK}{v:Value},KAt h x v→∃ as,Reads h v x.py as
 | _,_,.i n t=>⟨_,.int n t⟩
 | _,_,.s z t=>⟨_,.str z t⟩
 | _,_,.t p1 pc p2 p3=>let ⟨_,q⟩:=KAts.reads p3;⟨_,by rw [DK.py];exact .tuple p1 pc p2 q⟩
theorem KAts.reads {h:Heap}:∀ {x:List DK}{v:List Value},KAts h x v→∃ as,ReadsAll h v (DK.pys x) as
 | _,_,.nil=>⟨_,.nil⟩
 | _,_,.cons p ps=>let ⟨_,q⟩:=KAt.reads p;let ⟨_,qs⟩:=KAts.reads ps;⟨_,.cons q qs⟩
end
mutual
theorem DK.eqv_iff:∀ x y:DK,PyData.eqv x.py y.py=true↔x=y
 | .i n,.i m=>by simp [DK.py,PyData.eqv]
 | .s n,.s m=>by simp [DK.py,PyData.eqv]
 | .t n,.t m=>by simp only [DK.py,PyData.eqv,DK.t.injEq];exact DK.eqvs_iff n m
 | .i _,.s _=>by simp [DK.py,PyData.eqv]
 | .i _,.t _=>by simp [DK.py,PyData.eqv]
 | .s _,.i _=>by simp [DK.py,PyData.eqv]
 | .s _,.t _=>by simp [DK.py,PyData.eqv]
 | .t _,.i _=>by simp [DK.py,PyData.eqv]
 | .t _,.s _=>by simp [DK.py,PyData.eqv]
theorem DK.eqvs_iff:∀ x y:List DK,PyData.eqvAll (DK.pys x) (DK.pys y)=true↔x=y
 | [],[]=>by simp [DK.pys,PyData.eqvAll]
 | a::x,b::y=>by simp only [DK.pys,PyData.eqvAll,Bool.and_eq_true,List.cons.injEq];rw [DK.eqv_iff a b,DK.eqvs_iff x y]
 | [],_::_=>by simp [DK.pys,PyData.eqvAll]
 | _::_,[]=>by simp [DK.pys,PyData.eqvAll]
end
theorem DK.eqv_dec (x y:DK):PyData.eqv x.py y.py=decide (x=y):=by
 rw [Bool.eq_iff_iff,DK.eqv_iff];simp
section
variable {prog:Program}{w:World}
set_option maxHeartbeats 1000000 in
theorem v2Q (d:Nat):∀ {k:DK}{v:Value}{A:Around}{E:Value→Shared→Prop}{s:Shared}{Q:Int→Shared→Prop},k.dep≤d→A.units+d<cLine→KAt s.heap k v→Q (k.hash w) { s with toks:=s.toks+k.drw }→wpAny (model prog w) A (PySem.pyHash v) Q E s:=by
 induction d with
 | zero =>
  intro k v A E s Q hd hu p q
  cases p with
  | i n t=>exact (mixKind prog w).pyHash (k:=.inl n) (u3y prog w n t) q
  | s z t=>exact (mixKind prog w).pyHash (k:=.inr z) (u3x prog w z t) q
  | t p1 pc p2 p3=>simp [DK.dep] at hd
 | succ d ih =>
  intro k v A E s Q hd hu p q
  cases p with
  | i n t=>exact (mixKind prog w).pyHash (k:=.inl n) (u3y prog w n t) q
  | s z t=>exact (mixKind prog w).pyHash (k:=.inr z) (u3x prog w z t) q
  | @t a o its n ks p1 pc p2 p3 =>
   have ty:s.TypeIs (.ref a) "tuple":=⟨o,p1,pc⟩
   have hds:DK.deps ks≤d:=by simpa [DK.dep] using hd
   unfold PySem.pyHash
   first | unfold pyHashByItsType | skip
   first | refine wpAny_bind (wpAny_cRoomFor_or (.inr (by omega)) ?_) | skip
   refine wpAny_bind (wpAny_specialOf ty F.slot_tuple_hash.lookup ?_)
   show wpAny _ _ (if (some (Value.builtin "tuple.__hash__")==some Value.none)=true then _ else _) _ _ _
   rw [if_neg (by rw [beq_builtin_none];simp)]
   refine wpAny_bind (wpAny_specialOf ty F.slot_tuple_hash.lookup ?_)
   show wpAny _ _ (callSpecialIfBoundUnlessNone? (.ref a) "__hash__" _ >>= _) _ _ _
   refine wpAny_bind (wpAny_callSpecialIfBoundUnlessNone?_slot ty F.slot_tuple_hash (wpAny_call_entry F.slot_tuple_hash ty F.entry_tuple_hash ?_ (F.args_tuple_hash_1 _)))
   show wpAny _ _ (Builtin.Tuple.tupleItemsOf (.ref a) >>= _) _ _ _
   refine wpAny_bind (wpAny_tupleItemsOf p1 p2 ?_)
   refine wpAny_bind ?_
   rw [← Array.forIn_toList]
   refine wpAny_forIn_list _ (fun rest (b:Array Int) s'=>∃ l r,DK.hashes w ks=l++DK.hashes w r∧KAts s.heap r rest∧DK.deps r≤d∧b.toList=l∧∃ c,c+DK.drws r=DK.drws ks∧s'={ s with toks:=s.toks+c }) _ ?_ ?_ _ _ ⟨[],ks,rfl,p3,hds,rfl,0,Nat.zero_add _,rfl⟩
   ·rintro x rest b s' ⟨l,r,e1,e2,e3,e4,c,e5,rfl⟩
    cases e2 with
    | @cons k _ r' _ f1 f2 =>
     simp only [DK.deps] at e3
     refine wpAny_bind (ih (k:=k) (by omega) (by show A.units+1+d<cLine;omega) f1 ?_)
     first
      | exact wpAny_pure ⟨l++[k.hash w],r',by rw [e1];simp [DK.hashes],f2,by omega,by simp [e4],c+k.drw,by rw [← e5];simp [DK.drws,Nat.add_assoc],by simp [Nat.add_assoc]⟩
      | exact wpAny_bind (wpAny_pure (wpAny_pure ⟨l++[k.hash w],r',by rw [e1];simp [DK.hashes],f2,by omega,by simp [e4],c+k.drw,by rw [← e5];simp [DK.drws,Nat.add_assoc],by simp [Nat.add_assoc]⟩))
   ·rintro b s' ⟨l,r,e1,e2,e3,e4,c,e5,rfl⟩
    cases e2
    have e6:DK.hashes w ks=b.toList:=by rw [e1,e4];simp [DK.hashes]
    have e7:c=DK.drws ks:=by rw [← e5];simp [DK.drws]
    subst e7
    simp only [DK.hash,DK.drw] at q
    rw [e6] at q
    show wpAny _ _ (retInt (Builtin.Tuple.tupleHashOf b.toList)) _ _ _
    refine wpAny_ret_mkInt ?_
    show wpAny _ _ (if (decide (-(2:Int)^63≤Builtin.Tuple.tupleHashOf b.toList)&&decide (Builtin.Tuple.tupleHashOf b.toList<2^63))=true then _ else _) _ _ _
    unfold reduceHash at q
    by_cases hr:(decide (-(2:Int)^63≤Builtin.Tuple.tupleHashOf b.toList)&&decide (Builtin.Tuple.tupleHashOf b.toList<2^63))=true
    ·rw [if_pos hr] at q ⊢
     exact wpAny_pure (by simpa [Nat.add_assoc] using q)
    ·rw [if_neg hr] at q ⊢
     exact wpAny_bind (wpAny_rule (wpAny_pure (by simpa [Nat.add_assoc] using q)))
theorem v1i (d:Nat):∀ {k:DK}{v:Value}{A:Around}{E:Value→Shared→Prop}{s:Shared}{Q:Bool→Shared→Prop},k.dep≤d→KAt s.heap k v→Q true s→wpAny (model prog w) A (eqIsQuiet d v) Q E s:=by
 induction d with
 | zero =>
  intro k v A E s Q hd p q
  cases p with
  | i n t=>rw [eqIsQuiet_byValue _ rfl];exact wpAny_pure q
  | s z t=>rw [eqIsQuiet_byValue _ rfl];exact wpAny_pure q
  | t p1 pc p2 p3=>simp [DK.dep] at hd
 | succ d ih =>
  intro k v A E s Q hd p q
  cases p with
  | i n t=>rw [eqIsQuiet_byValue _ rfl];exact wpAny_pure q
  | s z t=>rw [eqIsQuiet_byValue _ rfl];exact wpAny_pure q
  | @t a o its n ks p1 pc p2 p3 =>
   have ty:s.TypeIs (.ref a) "tuple":=⟨o,p1,pc⟩
   have hds:DK.deps ks≤d:=by simpa [DK.dep] using hd
   unfold eqIsQuiet
   refine wpAny_bind (wpAny_specialOf ty F.slot_tuple_eq.lookup ?_)
   show wpAny _ _ (isInstance (.ref a) (.type "tuple") >>= _) _ _ _
   refine wpAny_bind (wpAny_isInstance ty isSubtype_tuple_tuple ?_)
   simp only [Bool.not_true,Bool.false_eq_true,if_false]
   refine wpAny_bind (wpAny_seqItems p1 p2 ?_)
   refine wpAny_bind ?_
   show wpAny _ _ (forIn its _ _) _ _ _
   rw [← Array.forIn_toList]
   refine wpAny_forIn_list _ (fun rest r s'=>r.1=none∧s'=s∧∃ l,KAts s.heap l rest∧DK.deps l≤d) _ ?_ ?_ _ _ ⟨rfl,rfl,ks,p3,hds⟩
   ·rintro v rest r s' ⟨hr,rfl,l,e1,e2⟩
    cases e1 with
    | cons f1 f2 =>
     simp only [DK.deps] at e2
     refine wpAny_bind (ih (by omega) f1 ?_)
     simp only [Bool.not_true,Bool.false_eq_true,if_false]
     exact wpAny_pure ⟨rfl,rfl,_,f2,by omega⟩
   ·rintro ⟨r1,r2⟩ s' ⟨hr,rfl,_⟩
    simp only at hr
    subst hr
    exact wpAny_pure q
noncomputable def nestKind (prog:Program) (w:World):HeapKind prog w (List DK) where
 is h ks a:=KAt h (.t ks) (.ref a)∧(DK.t ks).dep≤8∧SeqAt.shaped (DK.t ks).py=true
 hash ks:=(DK.t ks).hash w
 draws ks:=(DK.t ks).drw
 room A:=A.units+80<cLine
 inj p q:=by have:=p.1.inj q.1;cases this;rfl
 keeps p hd he sb:=⟨p.1.moved (fun b o its n q1 q2=>(sb.2 b (fun z=>by
  subst z
  rw [q1] at hd
  cases hd
  rw [q2] at he
  cases he)).trans q1),p.2⟩
 pyHash hu p q:=v2Q 8 p.2.1 (by omega) p.1 q
 eqBool:=fun {A E s x y a b Q} hu p r q=>by
  obtain ⟨as,ra⟩:=p.1.reads
  obtain ⟨bs,rb⟩:=r.1.reads
  refine SeqAt.eqBoolOverData _ _ _ _ _ _ _ _ _ _ _ _ ra rb (SeqAt.canLay_of_shaped p.2.2) (SeqAt.canLay_of_shaped r.2.2) ?_ ?_
  ·have:=SeqAt.depth_of_shaped p.2.2
   have h2:min (DK.t x).py.depth (DK.t y).py.depth≤(DK.t x).py.depth:=Nat.min_le_left _ _
   omega
  ·rw [DK.eqv_dec];simpa using q
 quiet p q:=v1i 8 p.2.1 p.1 q
end
noncomputable def cmpDs:List D→Res (List PyData)
 | []=>.ok []
 | d::ds=>(cmpD d).bind fun a=>(cmpDs ds).bind fun as=>.ok (a::as)
noncomputable def inS (i j:Str):Bool:=!(Builtin.Str.occurrences j i 0 j.length 1).isEmpty
noncomputable def inD (x:D) (ds:List D) (neg:Bool):Res D:=(cmpD x).bind fun a=>(cmpDs ds).bind fun as=>.ok (.bl (if neg=true then !(as.any fun b=>PyData.eqv b a) else as.any fun b=>PyData.eqv b a))
noncomputable def dInG (neg:Bool):D→D→Res D
 | x,.lst ds=>inD x ds neg
 | x,.tup ds=>inD x ds neg
 | .str i,.str j=>.ok (.bl (if neg=true then !inS i j else inS i j))
 | _,_=>.bad
theorem u3i (neg:Bool) (x:D) (ds:List D):dInG neg x (.lst ds)=inD x ds neg:=by cases x <;> rfl
theorem v1P (neg:Bool) (x:D) (ds:List D):dInG neg x (.tup ds)=inD x ds neg:=by cases x <;> rfl
noncomputable abbrev dIn:=dInG false
noncomputable abbrev dNotIn:=dInG true
section
variable {X:Cx}{pins:List (Addr×Obj)}{σ:St}{H:Hp}{s:Shared}
noncomputable def eqR (h:Heap) (a:PyData) (u:Value):Bool:=@decide (∃ d as,Reads h u d as∧PyData.eqv d a=true) (_root_.Classical.propDecidable _)
theorem v3r {h:Heap}{a d:PyData}{u:Value}{as:List Addr} (r:Reads h u d as):eqR h a u=PyData.eqv d a:=by
 unfold eqR
 rw [Bool.eq_iff_iff,@decide_eq_true_iff _ (_root_.Classical.propDecidable _)]
 constructor
 ·rintro ⟨d',as',r',q⟩
  rw [(r.unique d' as' r').1];exact q
 ·exact fun q=>⟨d,as,r,q⟩
theorem v0m {d:D}{ds:List D}{bs:List PyData} (h:cmpDs (d::ds)=.ok bs):∃ b r,d.py=some b∧SeqAt.shaped b=true∧cmpDs ds=.ok r∧bs=b::r:=by
 unfold cmpDs at h
 cases e:cmpD d with
 | err x=>rw [e] at h;cases h
 | bad=>rw [e] at h;cases h
 | ok b =>
  rw [e] at h
  obtain ⟨b',q1,q2,q3⟩:=u3Z (P:=fun z=>z=b) (E:=fun _=>False) (by rw [e];exact rfl)
  subst q3
  cases e2:cmpDs ds with
  | err x=>rw [e2] at h;cases h
  | bad=>rw [e2] at h;cases h
  | ok r=>rw [e2] at h;cases h;exact ⟨_,r,q1,q2,rfl,rfl⟩
theorem u7L {F:Hp}{a:PyData}{v:Value}{vs:List Addr}{A:Around} (I:Inv X pins σ H s) (fh:Same F H) (rv:Reads s.heap v a vs) (sa:SeqAt.shaped a=true) (hu:A.units+64<cLine):∀ {xs:List V}{ds:List D}{its:List Value}{bs:List PyData},Rps X.K F xs ds→Vals xs its→cmpDs ds=.ok bs →
  (∀ u∈its,SeqAt.EqAt A s u v (eqR s.heap a u))∧its.any (eqR s.heap a)=bs.any fun b=>PyData.eqv b a
 | _,_,_,_,.nil,.nil,e=>by cases e;exact ⟨(fun u hu=>by cases hu),rfl⟩
 | _,_,_,_,.cons h hs,.cons r rs,e=>by
  obtain ⟨b,r',q1,q2,q3,rfl⟩:=v0m e
  obtain ⟨i1,i2⟩:=u7L I fh rv sa hu hs rs q3
  obtain ⟨as,ru⟩:=((h.rd q1).same fh).reads I r
  refine ⟨fun u hu'=>?_,by rw [List.any_cons,List.any_cons,i2,v3r ru]⟩
  rcases List.mem_cons.mp hu' with rfl | hu'
  ·rw [v3r ru]
   refine SeqAt.eqAt_reads _ _ _ _ _ _ _ _ ru rv (SeqAt.canLay_of_shaped q2) (SeqAt.canLay_of_shaped sa) ?_
   have:=SeqAt.depth_of_shaped q2
   have h2:min b.depth a.depth≤b.depth:=Nat.min_le_left _ _
   omega
  ·exact i1 u hu'
theorem u8R {x:D}{ds:List D}{neg:Bool}{P:D→Prop}{E:D→Prop} (h:(inD x ds neg).all P E):∃ a bs,x.py=some a∧SeqAt.shaped a=true∧cmpDs ds=.ok bs∧P (.bl (if neg=true then !(bs.any fun b=>PyData.eqv b a) else bs.any fun b=>PyData.eqv b a))∨∃ y,cmpDs ds=.err y:=by
 unfold inD at h
 obtain ⟨a,q1,q2,q⟩:=u3Z (Res.all_bind.mp h)
 cases e:cmpDs ds with
 | ok bs=>rw [e] at q;exact ⟨a,bs,.inl ⟨q1,q2,rfl,q⟩⟩
 | err y=>exact ⟨a,[],.inr ⟨y,rfl⟩⟩
 | bad=>rw [e] at q;exact q.elim
theorem u2q:∀ (ds:List D) (y:D),cmpDs ds≠.err y
 | [],_,h=>by cases h
 | d::ds,y,h=>by
  unfold cmpDs at h
  cases e:cmpD d with
  | err x =>
   unfold cmpD at e
   split at e
   ·unfold gd at e;split at e <;> cases e
   ·cases e
  | bad=>rw [e] at h;cases h
  | ok b =>
   rw [e] at h
   cases e2:cmpDs ds with
   | err x=>exact u2q ds x e2
   | bad=>rw [e2] at h;cases h
   | ok r=>rw [e2] at h;cases h
theorem o_in (hu:X.A.units+100<cLine):OpR X (compareOp .In) (rD X.K dIn):=by
 intro pins s σ H x y v u Q I rx ry ⟨F,dx,dy,fh,px,py,q⟩
 have hu':X.A.in1.units+64<cLine:=by show X.A.units+1+64<cLine;omega
 cases py with
 | lst hq hs =>
  unfold dIn at q
  rw [u3i] at q
  obtain ⟨a,bs,⟨q1,q2,q3,q4⟩ | ⟨y,q3⟩⟩:=u8R q
  ·obtain ⟨its,r,pl,hz⟩:=I.list (.inl (hq.same fh))
   obtain ⟨as,rv⟩:=((px.rd q1).same fh).reads I rx
   obtain ⟨h1,h2⟩:=u7L I fh rv q2 hu' hs r q3
   cases ry
   refine SeqAt.in_listAt (eqR s.heap a) pl.isList (fun w hw=>h1 w (by simpa using hw)) ⟨.bl _,H,I,rfl,?_⟩
   rw [show its.toArray.any (eqR s.heap a)=its.any (eqR s.heap a) by simp,h2]
   exact q4 _ F H (Stp.refl fh) (.bl _)
  ·exact absurd q3 (u2q _ _)
 | tup hq hs =>
  unfold dIn at q
  rw [v1P] at q
  obtain ⟨a,bs,⟨q1,q2,q3,q4⟩ | ⟨y,q3⟩⟩:=u8R q
  ·obtain ⟨its,r,pl,hz⟩:=I.tuple (fh.seqT hq)
   obtain ⟨as,rv⟩:=((px.rd q1).same fh).reads I rx
   obtain ⟨h1,h2⟩:=u7L I fh rv q2 hu' hs r q3
   cases ry
   refine SeqAt.in_tupleAt (eqR s.heap a) pl (fun w hw=>h1 w (by simpa using hw)) ⟨.bl _,H,I,rfl,?_⟩
   rw [show its.toArray.any (eqR s.heap a)=its.any (eqR s.heap a) by simp,h2]
   exact q4 _ F H (Stp.refl fh) (.bl _)
  ·exact absurd q3 (u2q _ _)
 | str hz =>
  cases px with
  | str hz'=>exact v0U pins s σ H _ _ v u Q I rx ry ⟨_,_,rfl,rfl,q _ F H (Stp.refl fh) (.bl _)⟩
  | _=>exact q.elim
 | _=>cases dx <;> exact q.elim
theorem u2R (hu:X.A.units+100<cLine):OpR X (compareOp .NotIn) (rD X.K dNotIn):=by
 intro pins s σ H x y v u Q I rx ry ⟨F,dx,dy,fh,px,py,q⟩
 have hu':X.A.in1.units+64<cLine:=by show X.A.units+1+64<cLine;omega
 cases py with
 | lst hq hs =>
  unfold dNotIn at q
  rw [u3i] at q
  obtain ⟨a,bs,⟨q1,q2,q3,q4⟩ | ⟨y,q3⟩⟩:=u8R q
  ·obtain ⟨its,r,pl,hz⟩:=I.list (.inl (hq.same fh))
   obtain ⟨as,rv⟩:=((px.rd q1).same fh).reads I rx
   obtain ⟨h1,h2⟩:=u7L I fh rv q2 hu' hs r q3
   cases ry
   refine SeqAt.notIn_listAt (eqR s.heap a) pl.isList (fun w hw=>h1 w (by simpa using hw)) ⟨.bl _,H,I,rfl,?_⟩
   rw [show its.toArray.any (eqR s.heap a)=its.any (eqR s.heap a) by simp,h2]
   exact q4 _ F H (Stp.refl fh) (.bl _)
  ·exact absurd q3 (u2q _ _)
 | tup hq hs =>
  unfold dNotIn at q
  rw [v1P] at q
  obtain ⟨a,bs,⟨q1,q2,q3,q4⟩ | ⟨y,q3⟩⟩:=u8R q
  ·obtain ⟨its,r,pl,hz⟩:=I.tuple (fh.seqT hq)
   obtain ⟨as,rv⟩:=((px.rd q1).same fh).reads I rx
   obtain ⟨h1,h2⟩:=u7L I fh rv q2 hu' hs r q3
   cases ry
   refine SeqAt.notIn_tupleAt (eqR s.heap a) pl (fun w hw=>h1 w (by simpa using hw)) ⟨.bl _,H,I,rfl,?_⟩
   rw [show its.toArray.any (eqR s.heap a)=its.any (eqR s.heap a) by simp,h2]
   exact q4 _ F H (Stp.refl fh) (.bl _)
  ·exact absurd q3 (u2q _ _)
 | str hz =>
  cases px with
  | str hz'=>exact u6T pins s σ H _ _ v u Q I rx ry ⟨_,_,rfl,rfl,q _ F H (Stp.refl fh) (.bl _)⟩
  | _=>exact q.elim
 | _=>cases dx <;> exact q.elim
end
noncomputable def liftO (K:PySem.W.Frag) (xq:XQ) (f:Rho→Res (Option Int)):TO:=fun σ H Q=>∃ B F ρ,Rel K B ρ σ F H ∧
 (f ρ).all (fun o=>∀ F' H',Stp F H F' H'→Q o H') (ErrK K xq B ρ σ)
structure DO (X:Cx) (xq:XQ) (e:Option Expr) (f:Rho→Res (Option Int)):Prop where
 out:PO X e (liftO X.K xq f)
noncomputable def asI:D→Res (Option Int)
 | .int i=>.ok (some i)
 | _=>.bad
noncomputable def dSl (d:D) (lo hi:Option Int):Res D:=match d with
 | .lst ds=>.ok (.lst (cutC ds lo hi))
 | .tup ds=>if HT.sIx ds.length 0 lo=0∧HT.sIx ds.length ds.length hi=ds.length then .bad else .ok (.tup (cutC ds lo hi))
 | .str z=>.ok (.str (Txt.slice z lo hi))
 | _=>.bad
section
variable {X:Cx}{xq:XQ}{e:Expr}{lo hi:Option Expr}{fe:Rho→Res D}{fl fh:Rho→Res (Option Int)}{p2 pos:Pos}
theorem u1Z:DO X xq none (fun _=>.ok none):=⟨fun pins s σ H Q I ⟨B,F,ρ,R,q⟩=>po_none pins s σ H Q I (q F H (Stp.refl R.fh))⟩
theorem u1w (h:DE X xq e fe):DO X xq (some e) (fun ρ=>(fe ρ).bind asI):=⟨fun pins s σ H Q I ⟨B,F,ρ,R,q⟩=>po_some h.out pins s σ H Q I (seqE R q fun d v F1 H1 s1 R1 p1 q1=>by
 cases p1 with
 | int i=>exact ⟨i,rfl,q1 F1 H1 s1⟩
 | _=>exact q1.elim)⟩
noncomputable def rSlD (K:PySem.W.Frag):V→Option Int→Option Int→Hp→VK→Prop:=fun x lo hi H Q=>∃ F d,Same F H∧Rp K F x d∧(dSl d lo hi).all (fun d'=>∀ v F' H',Stp F H F' H'→Rp K F' v d'→Q v H') (fun _=>False)
theorem Rps.cut {K:PySem.W.Frag}{F:Hp}{xs:List V}{ds:List D} (r:Rps K F xs ds) (lo hi:Option Int):Rps K F (cutV xs lo hi) (cutC ds lo hi):=by
 unfold cutV cutC
 rw [r.length]
 exact (r.drop _).take _
theorem sl_D:SlR X (rSlD X.K):=by
 intro pins s σ H x v vl vu lo hi sl Q I rx hs pl pu ⟨F,d,fh,px,q⟩
 cases px with
 | lst hq rs=>exact sl_list pins s σ H _ v vl vu lo hi sl Q I rx hs pl pu ⟨_,_,rfl,.inl (hq.same fh),fun p n=>q _ _ _ (Stp.new fh n) (.lst (.inl u0k) ((rs.cut lo hi).same (Stp.new fh n).ff))⟩
 | tup hq rs =>
  unfold dSl at q
  dsimp only at q
  split at q
  ·exact q.elim
  ·rename_i nw
   exact sl_tup pins s σ H _ v vl vu lo hi sl Q I rx hs pl pu ⟨_,_,rfl,fh.seqT hq,by rw [rs.length];exact nw,fun p n=>q _ _ _ (Stp.new fh n) (.tup (.inl (.inl u0k)) ((rs.cut lo hi).same (Stp.new fh n).ff))⟩
 | str hz=>exact sl_str pins s σ H _ v vl vu lo hi sl Q I rx hs pl pu ⟨_,rfl,hz,q _ F H (Stp.refl fh) (.str (Nat.le_trans (Txt.slice_le _ _ _) hz))⟩
 | _=>exact q.elim
theorem d_sl (he:DE X xq e fe) (hl:DO X xq lo fl) (hu:DO X xq hi fh):DE X xq (.Subscript e (.Slice lo hi none p2) pos) (fun ρ=>(fe ρ).bind fun d=>(fl ρ).bind fun l=>(fh ρ).bind fun u=>dSl d l u) :=
 DE.of (v2x sl_D he.out hl.out hu.out) fun B F ρ σ H Q R q=>seqE R q fun d v F1 H1 s1 R1 p1 q1 =>
  ⟨B,F1,ρ,R1,Res.all_mono (Res.all_bind.mp q1) (fun l q2 F2 H2 s2=>⟨B,F2,ρ,R1.step s2,Res.all_mono (Res.all_bind.mp q2) (fun u q3 F3 H3 s3=>by
   refine ⟨F3,d,((R1.step s2).step s3).fh,(p1.same s2.ff).same s3.ff,?_⟩
   cases hd:dSl d l u with
   | ok d'=>rw [hd] at q3;exact fun v' F' H' st pv=>q3 v' F' H' (((s1.trans s2).trans s3).trans st) pv
   | err x=>unfold dSl at hd;split at hd <;> first | cases hd | (split at hd <;> cases hd)
   | bad=>rw [hd] at q3;exact q3) fun _ z=>z⟩) fun _ z=>z⟩
theorem u6q {tg iter elt:Expr}{ifs:List Expr}{scope:Scope}{fi:Rho→Res (List D)}{g:D→Rho→Res Rho}{fA:Rho→Res Bool}{ix:List Nat}{x:Str}{i:Nat}{py spos:Pos} (own:List Str) (outs:List Nat) (hc:X.calm=true) (ok:CompOk X.env.scope X.N own outs scope) (hN:X.N.Nodup) (hi:DI X xq tg iter fi) (hg:∀ {cl C s H fp},DG (cxC X own outs scope cl C s H fp) tg ix g) (hf:∀ {cl C s H fp},DF (cxC X own outs scope cl C s H fp) xqF ifs fA) (he:∀ {cl C s H fp},DE (cxC X own outs scope cl C s H fp) xqF elt fe)
  (nd:outs.Nodup:=by decide) (hix:∀ j∈ix,j<own.length:=by decide) (hy:X.N.findIdx? (fun y=>y==x)=some i:=by rfl) (hx:X.env.scope.names.lookup x=some .local:=by rfl)
  (hsw:swapsWith (.ListComp elt [⟨tg,iter,ifs,0⟩] scope pos) (some (.Name x py)) spos.line X.env=pure true:=by rfl) (hs:∀ x,foldedSetIterable iter X.env x=pure x:=by intro _;rfl) :
  DS X xq (.Assign [.Name x py] (.ListComp elt [⟨tg,iter,ifs,0⟩] scope pos) spos) (fun ρ=>((fi ρ).bind fun ds=>gd (ds.length≤sizeLine) ((compD g fA fe (rhoC own.length outs ρ) ds).bind fun ys=>.ok (OD.l ys))).go ρ fun o=>.nx (ρ.set i (some (.val o.toD)))) :=
 DS.of (u9P own outs hc ok hN (u7Q hy) hx hi.out (g:=liftG X.K ix g) (ti:=liftT X.K xqF fA) (te:=liftE X.K xqF fe) (fun {cl C s H fp}=>hg.out) (fun {cl C s H fp}=>hf.out) (fun {cl C s H fp}=>he.out) hsw hs) fun B F ρ σ H T R q =>
  u5i nd hix ⟨B,F,ρ,R,Res.all_mono (u1m q.out) (fun o q a hh F' H' s1 n1 n2 e1 r1=>by
   have s2:Stp F H (upd F' a hh) H':=⟨s1.ff.trans (u0q n1),fun b u x=>by
    unfold upd at x
    by_cases z:b=a
    ·rw [if_pos z] at x;cases x;subst z;exact e1
    ·rw [if_neg z] at x;exact s1.fh b u x,s1.hh,fun b x y=>by
    unfold upd
    by_cases z:b=a
    ·subst z;exact absurd n2 y
    ·rw [if_neg z];exact s1.no b x y⟩
   exact q _ _ _ ((R.step s2).set ((Ro.same (u0q n1) r1).rp u0k))) fun x q=>errOf q⟩
end
@[simp] theorem u6Y {α:Type} (a:α):noE (Res.ok a)=.ok a:=rfl
@[simp] theorem noE_bad {α:Type}:noE (Res.bad:Res α)=.bad:=rfl
@[simp] theorem asB_bl (b:Bool):asB (.bl b)=.ok b:=rfl
@[simp] theorem v3x (g:Int→Int→D) (i j:Int):dI0 g (.int i) (.int j)=.ok (g i j):=rfl
@[simp] theorem u0p (C:Int→Int→Prop) [∀ i j,Decidable (C i j)] (g:Int→Int→D) (i j:Int):dI C g (.int i) (.int j)=gd (C i j) (.ok (g i j)):=rfl
@[simp] theorem outR_nx (ρ:Rho):outR (.nx ρ)=.ok .non:=rfl
@[simp] theorem outR_rt (d:D):outR (.rt d)=.ok d:=rfl
@[simp] theorem outR_er (x:D) (ρ:Rho):outR (.er x ρ)=.err x:=rfl
@[simp] theorem frz_nil:frz []=[]:=rfl
@[simp] theorem frz_val (d:D) (ρ:Rho):frz (some (.val d)::ρ)=some (.val d)::frz ρ:=rfl
@[simp] theorem frz_own (o:OD) (ρ:Rho):frz (some (.own o)::ρ)=some (.val o.toD)::frz ρ:=rfl
@[simp] theorem frz_none (ρ:Rho):frz (none::ρ)=none::frz ρ:=rfl
@[simp] theorem frz_rep (n:Nat):frz (List.replicate n none)=List.replicate n none:=by unfold frz;simp
@[simp] theorem getV_zero (d:D) (ρ:Rho):getV (some (.val d)::ρ) 0=.ok d:=rfl
@[simp] theorem getV_succ (x:Option Sl) (ρ:Rho) (i:Nat):getV (x::ρ) (i+1)=getV ρ i:=rfl
@[simp] theorem getL_zero (ds:List D) (ρ:Rho):getL (some (.own (.l ds))::ρ) 0=.ok ds:=rfl
@[simp] theorem getL_succ (x:Option Sl) (ρ:Rho) (i:Nat):getL (x::ρ) (i+1)=getL ρ i:=rfl
@[simp] theorem toD_l (ds:List D):(OD.l ds).toD=.lst ds:=rfl
@[simp] theorem szD_pos {α:Type}{ds:List D}{k:Res α} (h:ds.length≤sizeLine):szD ds k=k:=if_pos h
@[simp] theorem unset_nx (i:Nat) (ρ:Rho):unset i (.nx ρ)=.nx (ρ.set i none):=rfl
@[simp] theorem catch_nx (hd:D→Rho→Out) (ρ:Rho):catchD hd (.nx ρ)=.nx ρ:=rfl
@[simp] theorem catch_rt (hd:D→Rho→Out) (d:D):catchD hd (.rt d)=.rt d:=rfl
@[simp] theorem catch_er (hd:D→Rho→Out) (x:D) (ρ:Rho):catchD hd (.er x ρ)=hd x ρ:=rfl
@[simp] theorem chain_eq (g g':D→D→Res D) (x y:D) (z:Res D):fChain g g' x y z=(noE (g x y)).bind fun w=>(asB w).bind fun c=>if c=true then z.bind fun z=>noE (g' y z) else .ok (.bl false):=rfl
theorem u2P {g:D→Rho→Res Rho}{fT:Rho→Res Bool}{fe:Rho→Res D}{ρ:Rho} (h:D→D):∀ {ds:List D},(∀ d∈ds,∃ ρ1,g d ρ=.ok ρ1∧fT (frz ρ1)=.ok true∧fe ρ1=.ok (h d))→compD g fT fe ρ ds=.ok (ds.map h)
 | [],_=>rfl
 | d::ds,k=>by
  obtain ⟨ρ1,k1,k2,k3⟩:=k d List.mem_cons_self
  simp [compD,k1,k2,k3,u2P h fun x hx=>k x (List.mem_cons_of_mem _ hx)]
theorem u1I {g:D→Rho→Res Rho}{fT:Rho→Res Bool}{fe:Rho→Res D}{ρ:Rho} (p:D→Bool) (h:D→D):∀ {ds:List D},(∀ d∈ds,∃ ρ1,g d ρ=.ok ρ1∧fT (frz ρ1)=.ok (p d)∧(p d=true→fe ρ1=.ok (h d)))→compD g fT fe ρ ds=.ok ((ds.filter p).map h)
 | [],_=>rfl
 | d::ds,k=>by
  obtain ⟨ρ1,k1,k2,k3⟩:=k d List.mem_cons_self
  have ih:=u1I p h (ds:=ds) fun x hx=>k x (List.mem_cons_of_mem _ hx)
  cases e:p d with
  | true=>simp [compD,k1,k2,e,k3 e,ih]
  | false=>simp [compD,k1,k2,e,ih]
noncomputable def hashW (w:World) (k:List DK):Int:=(DK.t k).hash w
mutual
noncomputable def dkOf:D→Option DK
 | .int n=>some (.i n)
 | .str z=>some (.s z)
 | .tup ds=>(dksOf ds).map .t
 | _=>none
noncomputable def dksOf:List D→Option (List DK)
 | []=>some []
 | d::ds=>match dkOf d,dksOf ds with
  | some k,some ks=>some (k::ks)
  | _,_=>none
end
mutual
theorem v3e:∀ (d:D) (k:DK),dkOf d=some k→k.toD=d
 | .int n,k,e=>by simp only [dkOf] at e;cases e;rfl
 | .str n,k,e=>by simp only [dkOf] at e;cases e;rfl
 | .tup ds,k,e=>by
  simp only [dkOf] at e
  cases q:dksOf ds with
  | none=>rw [q] at e;cases e
  | some ks=>rw [q] at e;cases e;simp only [DK.toD];rw [u5d ds ks q]
 | .non,_,e | .bl _,_,e | .ty _,_,e | .lst _,_,e | .dct _,_,e | .ins _ _,_,e | .exc _ _,_,e | .dn _ _,_,e=>by simp only [dkOf] at e;cases e
theorem u5d:∀ (ds:List D) (ks:List DK),dksOf ds=some ks→DK.toDs ks=ds
 | [],_,e=>by simp only [dksOf] at e;cases e;rfl
 | d::ds,_,e=>by
  simp only [dksOf] at e
  cases q:dkOf d with
  | none=>rw [q] at e;cases e
  | some k =>
   cases q2:dksOf ds with
   | none=>rw [q,q2] at e;cases e
   | some ks=>rw [q,q2] at e;cases e;simp only [DK.toDs];rw [v3e d k q,u5d ds ks q2]
end
noncomputable def keyOf:D→Res (List DK)
 | .tup ds=>match dksOf ds with
  | some ks=>gd (okK ks=true) (.ok ks)
  | none=>.bad
 | _=>.bad
theorem u8N {d:D}{P:List DK→Prop}{E:D→Prop} (h:(keyOf d).all P E):∃ ks,(DK.t ks).toD=d∧okK ks=true∧P ks:=by
 cases d with
 | tup ds =>
  simp only [keyOf] at h
  cases q:dksOf ds with
  | none=>rw [q] at h;exact h.elim
  | some ks =>
   rw [q] at h
   obtain ⟨h1,h2⟩:=u3G h
   exact ⟨ks,by simp only [DK.toD];rw [u5d ds ks q],h1,h2⟩
 | _=>exact h.elim
section
variable {X:Cx}{pins:List (Addr×Obj)}{σ:St}{H:Hp}{s:Shared}{F:Hp}
mutual
theorem v3p (I:Inv X pins σ H s) (fh:Same F H):∀ (k:DK) {v:V}{u:Value},Rp X.K F v k.toD→RelV v u→KAt s.heap k u
 | .i n,_,_,p,r=>by simp only [DK.toD] at p;cases p;obtain ⟨t,rfl⟩:=r;exact .i n t
 | .s n,_,_,p,r=>by simp only [DK.toD] at p;cases p;obtain ⟨t,rfl⟩:=r;exact .s n t
 | .t ks,_,_,p,r=>by
  simp only [DK.toD] at p
  cases p with
  | tup hq hs =>
   cases r
   obtain ⟨its,rv,pl,_⟩:=I.tuple (fh.seqT hq)
   obtain ⟨o,ho,hc,n,hd⟩:=pl
   exact .t ho hc hd (by simpa using v1h I fh ks hs rv)
theorem v1h (I:Inv X pins σ H s) (fh:Same F H):∀ (ks:List DK) {vs:List V}{us:List Value},Rps X.K F vs (DK.toDs ks)→Vals vs us→KAts s.heap ks us
 | [],_,_,p,r=>by simp only [DK.toDs] at p;cases p;cases r;exact .nil
 | k::ks,_,_,p,r=>by
  simp only [DK.toDs] at p
  cases p with
  | cons p1 p2 =>
   cases r with
   | cons r1 r2=>exact .cons (v3p I fh k p1 r1) (v1h I fh ks p2 r2)
end
theorem nk_is (I:Inv X pins σ H s) (fh:Same F H) {k:List DK}{q:Addr} (o:okK k=true) (p:Rp X.K F (.ref q) (DK.t k).toD):(nestKind X.prog X.w).is s.heap k q:=by
 unfold okK at o
 rw [Bool.and_eq_true] at o
 exact ⟨v3p I fh _ p rfl,of_decide_eq_true o.1,o.2⟩
theorem Rpn.each (I:Inv X pins σ H s) (fh:Same F H):∀ {xs:List (List DK×Addr×Value)}{kvs:List (List DK×D)},Rpn X.K F xs kvs→∀ x∈xs,(nestKind X.prog X.w).is s.heap x.1 x.2.1
 | _,_,.nil,x,hx=>by cases hx
 | _,_,.cons o h r h2 hs,x,hx=>by
  rcases List.mem_cons.mp hx with rfl | hx
  ·exact nk_is I fh o h
  ·exact hs.each I fh x hx
theorem nd_of {a:Addr}{xs:List (List DK×Addr×Value)}{kvs:List (List DK×D)} (I:Inv X pins σ H s) (fh:Same F H) (e:H a=some (NDO a (hashW X.w) xs)) (r:Rpn X.K F xs kvs):s.heap.DictOfH (nestKind X.prog X.w) a xs∧xs.length≤sizeLine∧(a==sysModules)=false:=by
 obtain ⟨o,es,ep,h1,h2,h3,h4,h5,h6,h7⟩:=(show ObjOk X.prog X.w H s.heap a (NDO a (hashW X.w) xs) from I.hok a _ e).1
 exact ⟨⟨o,es,ep,h1,h2,h3,h4,r.each I fh,h5⟩,h6,h7⟩
theorem Rpn.at {k:List DK}:∀ {xs:List (List DK×Addr×Value)}{kvs:List (List DK×D)},Rpn X.K F xs kvs→((atKey xs k).isSome=true↔k∈kvs.map (·.1))
 | _,_,.nil=>by simp [atKey]
 | _,_,.cons (k:=k') o h r h2 hs=>by
  have ih:=hs.at (k:=k)
  by_cases e:k'=k
  ·subst e;simp [atKey]
  ·have e':¬ k=k':=fun z=>e z.symm
   simp only [atKey,List.find?_cons,e,decide_false,List.map_cons,List.mem_cons,e',false_or] at ih ⊢
   exact ih
theorem Rpn.atB {k:List DK}{xs:List (List DK×Addr×Value)}{kvs:List (List DK×D)} (r:Rpn X.K F xs kvs):(atKey xs k).isSome=decide (k∈kvs.map (·.1)):=by
 rw [Bool.eq_iff_iff,decide_eq_true_iff];exact r.at
noncomputable def inN (w:World) (neg:Bool) (x:D) (hs:List DK→Int) (kvs:List (List DK×D)):Res D:=(keyOf x).bind fun k=>@ite _ (hs=hashW w) (_root_.Classical.propDecidable _) (.ok (.bl (if neg=true then !decide (k∈kvs.map (·.1)) else decide (k∈kvs.map (·.1))))) .bad
noncomputable def dInN (w:World) (neg:Bool):D→D→Res D
 | x,.dn hs kvs=>inN w neg x hs kvs
 | x,y=>dInG neg x y
theorem v1Q (w:World) (neg:Bool) (x:D) (hs:List DK→Int) (kvs:List (List DK×D)):dInN w neg x (.dn hs kvs)=inN w neg x hs kvs:=by unfold dInN;rfl
theorem v2H (hu:X.A.units+200<cLine):OpR X (compareOp .In) (rD X.K (dInN X.w false)):=by
 intro pins s σ H x y v u Q I rx ry ⟨F,dx,dy,fh,px,py,q⟩
 cases py with
 | dn hq hr =>
  rw [v1Q] at q
  unfold inN at q
  obtain ⟨k,e,ok,q2⟩:=u8N (Res.all_bind.mp q)
  clear q
  split at q2
  ·rename_i hh
   subst hh
   subst e
   have px':=px
   simp only [DK.toD] at px'
   cases px' with
   | tup _ _ =>
    cases rx
    cases ry
    obtain ⟨dd,hz,hd⟩:=nd_of I fh (fh _ _ hq) hr
    refine wpAny_in_heap (knd:=nestKind X.prog X.w) (by show X.A.units+1+80<cLine;omega) (nk_is I fh ok px) hd dd ?_
    rw [hr.atB]
    exact ⟨.bl _,H,I.tok _,rfl,q2 _ F H (Stp.refl fh) (.bl _)⟩
  ·exact q2.elim
 | lst hq hs=>exact o_in (by omega) pins s σ H x _ v u Q I rx ry ⟨F,dx,_,fh,px,.lst hq hs,q⟩
 | tup hq hs=>exact o_in (by omega) pins s σ H x _ v u Q I rx ry ⟨F,dx,_,fh,px,.tup hq hs,q⟩
 | str hz=>exact o_in (by omega) pins s σ H x _ v u Q I rx ry ⟨F,dx,_,fh,px,.str hz,q⟩
 | _=>cases dx <;> exact q.elim
noncomputable def putN (kvs:List (List DK×D)) (k:List DK) (d:D):List (List DK×D):=if k∈kvs.map (·.1) then kvs.map (fun p=>if p.1=k then (p.1,d) else p) else kvs++[(k,d)]
theorem Rpn.length:∀ {xs:List (List DK×Addr×Value)}{kvs:List (List DK×D)},Rpn X.K F xs kvs→xs.length=kvs.length
 | _,_,.nil=>rfl
 | _,_,.cons _ _ _ _ hs=>congrArg (·+1) hs.length
theorem Rpn.mapped {k:List DK}{d:D}{v:V}{u:Value} (ru:RelV v u) (pd:Rp X.K F v d):∀ {xs:List (List DK×Addr×Value)}{kvs:List (List DK×D)},Rpn X.K F xs kvs→Rpn X.K F (xs.map (putAt k u)) (kvs.map (fun p=>if p.1=k then (p.1,d) else p))
 | _,_,.nil=>.nil
 | _,_,.cons (k:=k') o h r h2 hs=>by
  by_cases e:k'=k
  ·subst e
   simp only [List.map_cons,putAt,if_true]
   exact .cons o h ru pd (hs.mapped ru pd)
  ·simp only [List.map_cons,putAt,if_neg e]
   exact .cons o h r h2 (hs.mapped ru pd)
theorem Rpn.snoc {k:List DK}{q:Addr}{d:D}{v:V}{u:Value} (o:okK k=true) (pk:Rp X.K F (.ref q) (DK.t k).toD) (ru:RelV v u) (pd:Rp X.K F v d):∀ {xs:List (List DK×Addr×Value)}{kvs:List (List DK×D)},Rpn X.K F xs kvs→Rpn X.K F (xs++[(k,q,u)]) (kvs++[(k,d)])
 | _,_,.nil=>.cons o pk ru pd .nil
 | _,_,.cons o' h r h2 hs=>.cons o' h r h2 (hs.snoc o pk ru pd)
theorem Rpn.put {k:List DK}{q:Addr}{d:D}{v:V}{u:Value}{xs:List (List DK×Addr×Value)}{kvs:List (List DK×D)} (o:okK k=true) (pk:Rp X.K F (.ref q) (DK.t k).toD) (ru:RelV v u) (pd:Rp X.K F v d) (r:Rpn X.K F xs kvs):Rpn X.K F (storedH xs k q u) (putN kvs k d):=by
 unfold storedH putN
 by_cases e:k∈kvs.map (·.1)
 ·rw [if_pos e,if_pos (r.at.mpr e)];exact r.mapped ru pd
 ·rw [if_neg e,if_neg (fun z=>e (r.at.mp z))];exact r.snoc o pk ru pd
theorem dn_new {xq:XQ}{pos:Pos}:DN X xq (.Dict [] [] pos) (fun _=>.ok (.n (hashW X.w) [])):=⟨fun pins s σ H Q I ⟨B,F,ρ,R,q⟩=>by
 refine wpAny_Dict_empty ⟨.ref s.heap.objs.size,_,I.laid (a:=s.heap.objs.size) (o:=NDO s.heap.objs.size (hashW X.w) []) (t':=s.toks) (fun _ _ z=>Heap.get?_push_of_some _ z) (Nat.le_refl _) ?_,rfl,?_⟩
 ·refine ⟨⟨_,#[],_,Heap.get?_push_size _ rfl,⟨rfl,rfl,rfl⟩,rfl,rfl,List.nodup_nil,Nat.zero_le _,?_⟩,⟨_,Heap.get?_push_size _ rfl⟩,fun h1 h2 ⟨o,es,ep,e1,e2⟩ k=>⟨o,es,ep,k _ e1,e2⟩⟩
  exact (u9g (P:=X.prog) (w:=X.w) (H:=H) s.heap I.big).2.1
 ·have n:=I.hok.fresh (Nat.le_refl s.heap.objs.size)
  exact q _ _ F _ (Stp.only R.fh (u0q n)) (R.fh.free n) n u0k (.n .nil)⟩
theorem u5e {xq:XQ}{pos:Pos}:DN X xq (.Dict [] [] pos) (fun _=>.ok (.d [])):=⟨fun pins s σ H Q I ⟨B,F,ρ,R,q⟩=>v2z pins s σ H Q I fun d n=>q d _ F _ (Stp.only R.fh (u0q n)) (R.fh.free n) n u0k (.d .nil)⟩
end
noncomputable def getN (ρ:Rho) (i:Nat):Res ((List DK→Int)×List (List DK×D)):=match ρ[i]? with
 | some (some (.own (.n hs kvs)))=>.ok (hs,kvs)
 | _=>.bad
theorem getN_ok {ρ:Rho}{i:Nat}{P:(List DK→Int)×List (List DK×D)→Prop}{E:D→Prop} (h:(getN ρ i).all P E):∃ hs kvs,ρ[i]?=some (some (.own (.n hs kvs)))∧P (hs,kvs):=by
 unfold getN at h
 split at h
 ·rename_i hs kvs e;exact ⟨hs,kvs,e,h⟩
 ·exact h.elim
theorem u9x {xs:List (List DK×Addr×Value)}{k:List DK}{a:Addr}{u:Value}:(storedH xs k a u).length≤xs.length+1:=by
 unfold storedH
 split
 ·simp
 ·simp
section
variable {X:Cx}{xq:XQ}{i value:Expr}{fi fv:Rho→Res D}{x:Str}{p pos pos':Pos}
noncomputable def fPutN (w:World) (j:Nat) (fi fv:Rho→Res D) (ρ:Rho):Out:=(fv ρ).go ρ fun d=>(getN ρ j).go ρ fun o=>(fi ρ).go ρ fun kd=>(keyOf kd).go ρ fun k =>
 @ite _ (o.1=hashW w∧o.2.length<sizeLine) (_root_.Classical.propDecidable _) (.nx (ρ.set j (some (.own (.n o.1 (putN o.2 k d)))))) .bad
theorem ds_putN (j:Nat) (hu:X.A.units+200<cLine) (hi:DE X xq i fi) (hv:DE X xq value fv) (hN:X.N[j]?=some x:=by rfl) (hvs:Vis X.env.scope x:=by first | exact Or.inl rfl | exact Or.inr (Or.inl rfl) | exact Or.inr (Or.inr rfl)) (hd:(x==("__debug__":Str))=false:=by decide) (hcd:(x==("__classdict__":Str))=false:=by decide)
  (hs:swapsWith value (some (.Subscript (.Name x p) i pos')) pos.line X.env=pure false:=by rfl):DS X xq (.Assign [.Subscript (.Name x p) i pos'] value pos) (fPutN X.w j fi fv):=⟨fun pins s σ H T I ⟨B,F,ρ,R,q⟩=>by
 have q:=q.out
 unfold fPutN at q
 refine wpAny_Assign_Subscript (thn (hv.out pins s σ H (fun v H1=>∃ d F1 a,σ[j]?=some (some (.ref a))∧Stp F H F1 H1∧Rp X.K F1 v d∧∃ hs kvs,ρ[j]?=some (some (.own (.n hs kvs)))∧((fi ρ).go ρ fun kd=>(keyOf kd).go ρ fun k=>@ite _ (hs=hashW X.w∧kvs.length<sizeLine) (_root_.Classical.propDecidable _) (.nx (ρ.set j (some (.own (.n hs (putN kvs k d)))))) .bad).all
  (fun ρ=>∀ σ F H,Rel X.K B ρ σ F H→T.nx σ H) (fun d=>∀ v F H,Stp B.1 B.2 F H→Rp X.K F v d→T.rt v H) (fun ρ=>∀ σ F H,Rel X.K B ρ σ F H→T.bk σ H) (fun ρ=>∀ σ F H,Rel X.K B ρ σ F H→T.ct σ H) (fun ρ x=>∀ v σ F H,Rel X.K B ρ σ F H→Rp X.K F v x→xq v σ H)) I ?_) fun r s1 ⟨v,H1,I1,rv,d,F1,a,ha,st1,pv,hh,kvs,eo,q1⟩ =>
  thn (u4h hN hvs hd hcd pins s1 σ H1 (fun x H2=>x=.ref a∧H2=H1) I1 ⟨.ref a,ha,rfl,rfl⟩) fun u s2 ⟨y,H2,I2,ry,ey,eH⟩=>?_) hs
 ·refine ⟨B,F,ρ,R,Res.all_mono (u1m q) (fun d q1 v F1 H1 st pv=>?_) fun _ z=>errOf z⟩
  obtain ⟨hh,kvs,eo,q2⟩:=getN_ok (u1m q1)
  obtain ⟨a,h,h1,_⟩:=R.own j _ eo
  exact ⟨d,F1,a,h1,st,pv,hh,kvs,eo,q2⟩
 ·subst ey eH
  cases ry
  have R1:=R.step st1
  refine thn (hi.out pins s2 σ H2 (fun y H3=>∃ F3 k,Stp F1 H2 F3 H3∧Rp X.K F3 y (DK.t k).toD∧okK k=true∧hh=hashW X.w∧kvs.length<sizeLine∧∀ σ F H,Rel X.K B (ρ.set j (some (.own (.n hh (putN kvs k d))))) σ F H→T.nx σ H) I2 ?_) fun iv s3 ⟨y,H3,I3,ry,F3,k,st3,pk,ok,eh,hl,q3⟩=>?_
  ·refine ⟨B,F1,ρ,R1,Res.all_mono (u1m q1) (fun kd q2 y F3 H3 st3 py=>?_) fun _ z=>errOf z⟩
   obtain ⟨k,ek,ok,q3⟩:=u8N (u1m q2)
   subst ek
   split at q3
   ·rename_i c;exact ⟨F3,k,st3,py,ok,c.1,c.2,q3⟩
   ·exact q3.elim
  ·subst eh
   have R3:=R1.step st3
   obtain ⟨a',h,h1,h2,h3,h4,h5⟩:=R3.own j _ eo
   rw [ha] at h1;cases h1
   cases h5 with
   | n hr =>
    have pk':=pk
    simp only [DK.toD] at pk'
    cases pk' with
    | @tup b _ _ _ _ =>
     cases ry
     obtain ⟨dd,hz,hsy⟩:=nd_of I3 R3.fh h4 hr
     refine wpAny_setItem_heap (knd:=nestKind X.prog X.w) (hsz:=hz) (by show X.A.units+1+80<cLine;omega) (nk_is I3 R3.fh ok pk) dd fun h' dd' sb=>?_
     obtain ⟨o,es,ep,e1,e2,e3,e4,_,e5⟩:=dd'
     have pv3:=pv.same st3.ff
     refine ⟨σ,_,u8u (ob:=NDO a (hashW X.w) (storedH _ k b r)) I3 (by rw [h4];exact True.intro) sb ⟨o,e1⟩ ⟨⟨o,es,ep,e1,e2,e3,e4,e5,?_,hsy⟩,⟨o,e1⟩,fun g1 g2 ⟨o,es,ep,f1,f2⟩ kk=>⟨o,es,ep,kk _ f1,f2⟩⟩,q3 σ F3 _ (R3.write (e:=eo) ha (.n (hr.put ok pk rv pv3)))⟩
     exact Nat.le_trans u9x (by rw [hr.length];omega)⟩
end
noncomputable def keyK:D→Res Key
 | .int i=>.ok (.inl i)
 | .str z=>.ok (.inr z)
 | _=>.bad
theorem v1e {K:PySem.W.Frag}{F:Hp}{v:V}{d:D}{P:Key→Prop}{E:D→Prop} (p:Rp K F v d) (h:(keyK d).all P E):∃ k,v=kV k∧P k:=by
 cases p with
 | int i=>exact ⟨.inl i,rfl,h⟩
 | str _=>exact ⟨.inr _,rfl,h⟩
 | _=>exact h.elim
noncomputable def eqK:D→Key→Bool
 | .int i,.inl j=>decide (i=j)
 | .str a,.inr b=>decide (a=b)
 | _,_=>false
theorem u5N (k' k:Key):eqK (kD k') k=decide (k'=k):=by
 cases k' <;> cases k <;> simp [eqK,kD]
noncomputable def putD (ps:List (D×D)) (k:Key) (d:D):List (D×D):=if ps.any (fun p=>eqK p.1 k)=true then ps.map (fun p=>if eqK p.1 k=true then (p.1,d) else p) else ps++[(kD k,d)]
noncomputable def valD (ps:List (D×D)) (k:Key):Option D:=(ps.find? fun p=>eqK p.1 k).map (·.2)
section
variable {K:PySem.W.Frag}{F:Hp}
theorem Rpk.length:∀ {kvs:List (Key×V)}{ps:List (D×D)},Rpk K F kvs ps→kvs.length=ps.length
 | _,_,.nil=>rfl
 | _,_,.cons _ hs=>congrArg (·+1) hs.length
theorem Rpk.any {k:Key}:∀ {kvs:List (Key×V)}{ps:List (D×D)},Rpk K F kvs ps→(kvs.any fun kv=>decide (kv.1=k))=ps.any (fun p=>eqK p.1 k)
 | _,_,.nil=>rfl
 | _,_,.cons h hs=>by simp only [List.any_cons,u5N,hs.any]
theorem Rpk.mapped {k:Key}{d:D}{v:V} (pd:Rp K F v d):∀ {kvs:List (Key×V)}{ps:List (D×D)},Rpk K F kvs ps→Rpk K F (kvs.map (fun kv=>if kv.1=k then (kv.1,v) else kv)) (ps.map (fun p=>if eqK p.1 k=true then (p.1,d) else p))
 | _,_,.nil=>.nil
 | _,_,.cons (k:=k') h hs=>by
  by_cases e:k'=k
  ·simp only [List.map_cons,u5N,e,decide_true,if_true];exact .cons pd (hs.mapped pd)
  ·simp only [List.map_cons,u5N,e,decide_false,if_false];exact .cons h (hs.mapped pd)
theorem Rpk.snoc {k:Key}{d:D}{v:V} (pd:Rp K F v d):∀ {kvs:List (Key×V)}{ps:List (D×D)},Rpk K F kvs ps→Rpk K F (kvs++[(k,v)]) (ps++[(kD k,d)])
 | _,_,.nil=>.cons pd .nil
 | _,_,.cons h hs=>.cons h (hs.snoc pd)
theorem Rpk.put {k:Key}{d:D}{v:V}{kvs:List (Key×V)}{ps:List (D×D)} (pd:Rp K F v d) (r:Rpk K F kvs ps):Rpk K F (putK kvs k v) (putD ps k d):=by
 unfold putK putD
 rw [r.any (k:=k)]
 split
 ·exact r.mapped pd
 ·exact r.snoc pd
theorem Rpk.val {k:Key}:∀ {kvs:List (Key×V)}{ps:List (D×D)},Rpk K F kvs ps→(match valD ps k with | some d=>∃ v,valV kvs k=some v∧Rp K F v d | none=>valV kvs k=none)
 | _,_,.nil=>rfl
 | _,_,.cons (k:=k') h hs=>by
  have ih:=hs.val (k:=k)
  by_cases e:k'=k
  ·subst e;simp only [valD,valV,List.find?_cons,u5N,decide_true,Option.map_some];exact ⟨_,rfl,h⟩
  ·simp only [valD,valV,List.find?_cons,u5N,e,decide_false] at ih ⊢;exact ih
end
noncomputable def getD' (ρ:Rho) (i:Nat):Res (List (D×D)):=match ρ[i]? with
 | some (some (.own (.d kvs)))=>.ok kvs
 | _=>.bad
theorem getD'_ok {ρ:Rho}{i:Nat}{P:List (D×D)→Prop}{E:D→Prop} (h:(getD' ρ i).all P E):∃ kvs,ρ[i]?=some (some (.own (.d kvs)))∧P kvs:=by
 unfold getD' at h
 split at h
 ·rename_i kvs e;exact ⟨kvs,e,h⟩
 ·exact h.elim
section
variable {X:Cx}{xq:XQ}{i value:Expr}{fi fv:Rho→Res D}{x:Str}{p pos pos':Pos}
noncomputable def fPutD (j:Nat) (fi fv:Rho→Res D) (ρ:Rho):Out:=(fv ρ).go ρ fun d=>(getD' ρ j).go ρ fun ps=>(fi ρ).go ρ fun kd=>(keyK kd).go ρ fun k=>if ps.length<sizeLine then .nx (ρ.set j (some (.own (.d (putD ps k d))))) else .bad
theorem v1G (j:Nat) (hu:X.A.units+200<cLine) (hi:DE X xq i fi) (hv:DE X xq value fv) (hN:X.N[j]?=some x:=by rfl) (hvs:Vis X.env.scope x:=by first | exact Or.inl rfl | exact Or.inr (Or.inl rfl) | exact Or.inr (Or.inr rfl)) (hd:(x==("__debug__":Str))=false:=by decide) (hcd:(x==("__classdict__":Str))=false:=by decide)
  (hs:swapsWith value (some (.Subscript (.Name x p) i pos')) pos.line X.env=pure false:=by rfl):DS X xq (.Assign [.Subscript (.Name x p) i pos'] value pos) (fPutD j fi fv) :=
 DS.of (ps_dput (by omega) (u4h hN hvs hd hcd) hi.out hv.out hs) fun B F ρ σ H T R q=>by
  have q:=q.out
  unfold fPutD at q
  refine ⟨B,F,ρ,R,Res.all_mono (u1m q) (fun d q1 v F1 H1 st pv=>?_) fun _ z=>errOf z⟩
  obtain ⟨ps,eo,q2⟩:=getD'_ok (u1m q1)
  have R1:=R.step st
  obtain ⟨a,h,h1,h2,h3,h4,h5⟩:=R1.own j _ eo
  refine ⟨.ref a,h1,B,F1,ρ,R1,Res.all_mono (u1m q2) (fun kd q3 y F3 H3 st3 py=>?_) fun _ z=>errOf z⟩
  have R3:=R1.step st3
  obtain ⟨k,ek,q4⟩:=v1e py (u1m q3)
  subst ek
  obtain ⟨a',h',g1,g2,g3,g4,g5⟩:=R3.own j _ eo
  rw [h1] at g1;cases g1
  cases g5 with
  | d hr =>
   by_cases hz:ps.length<sizeLine
   ·rw [if_pos hz] at q4
    exact ⟨a,_,rfl,DPut.k g4 (by rw [hr.length];exact hz),q4 σ F3 _ (R3.write (e:=eo) h1 (.d (hr.put (pv.same st3.ff))))⟩
   ·rw [if_neg hz] at q4;exact q4.elim
noncomputable def dInA (w:World) (neg:Bool):D→D→Res D
 | x,.dct ps=>(keyK x).bind fun k=>.ok (.bl (if neg=true then !(valD ps k).isSome else (valD ps k).isSome))
 | x,y=>dInN w neg x y
theorem u9j (w:World) (neg:Bool) (x:D) (ps:List (D×D)):dInA w neg x (.dct ps)=(keyK x).bind fun k=>.ok (.bl (if neg=true then !(valD ps k).isSome else (valD ps k).isSome)):=by unfold dInA;rfl
theorem o_inA (hu:X.A.units+200<cLine):OpR X (compareOp .In) (rD X.K (dInA X.w false)):=by
 intro pins s σ H x y v u Q I rx ry ⟨F,dx,dy,fh,px,py,q⟩
 cases py with
 | @dK a kvs ps hq hr =>
  rw [u9j] at q
  obtain ⟨k,ek,q2⟩:=v1e px (Res.all_bind.mp q)
  subst ek
  cases ry
  refine d_in (by omega) I (DGet.k (fh _ _ hq)) rx fun s' I'=>⟨.bl _,H,I',rfl,?_⟩
  have:=hr.val (k:=k)
  cases e:valD ps k with
  | none=>rw [e] at this q2;rw [this];exact q2 _ F H (Stp.refl fh) (.bl _)
  | some d=>rw [e] at this q2;obtain ⟨z,hz,_⟩:=this;rw [hz];exact q2 _ F H (Stp.refl fh) (.bl _)
 | lst hq hs=>exact v2H hu pins s σ H x _ v u Q I rx ry ⟨F,dx,_,fh,px,.lst hq hs,q⟩
 | tup hq hs=>exact v2H hu pins s σ H x _ v u Q I rx ry ⟨F,dx,_,fh,px,.tup hq hs,q⟩
 | str hz=>exact v2H hu pins s σ H x _ v u Q I rx ry ⟨F,dx,_,fh,px,.str hz,q⟩
 | dn hq hs=>exact v2H hu pins s σ H x _ v u Q I rx ry ⟨F,dx,_,fh,px,.dn hq hs,q⟩
 | _=>cases dx <;> exact q.elim
end
noncomputable def fldD (C0:Addr) (f:Str):D→Res D
 | .ins C gs=>if C=C0 then (match gs.lookup f with | some d=>.ok d | none=>.bad) else .bad
 | _=>.bad
noncomputable def getI (ρ:Rho) (j:Nat):Res (Addr×Addr×List (Str×D)):=match ρ[j]? with
 | some (some (.own (.i a C gs)))=>.ok (a,C,gs)
 | _=>.bad
theorem v1w {ρ:Rho}{i:Nat}{P:Addr×Addr×List (Str×D)→Prop}{E:D→Prop} (h:(getI ρ i).all P E):∃ a C gs,ρ[i]?=some (some (.own (.i a C gs)))∧P (a,C,gs):=by
 unfold getI at h
 split at h
 ·rename_i a C gs e;exact ⟨a,C,gs,e,h⟩
 ·exact h.elim
section
variable {X:Cx}{xq:XQ}{o e value:Expr}{es:List Expr}{fo fv:Rho→Res D}{fs:Rho→Res (List D)}{f x m:Str}{p pos pos' apos:Pos}{C0:Addr}
theorem v1N {K:PySem.W.Frag} (c:Cls K C0) (n:NoAttr K C0 f) (ho:DE X xq o fo) (eK:X.K=K:=by rfl) (hb:attributeBase o f X.env (eval o X.env)=eval o X.env:=by rfl):DE X xq (.Attribute o f pos) (fun ρ=>(fo ρ).bind (fldD C0 f)):=by
 subst eK
 refine DE.of (v3o ho.out hb) fun B F ρ σ H Q R q=>seqE R q fun d v F1 H1 s1 R1 p1 q1=>?_
 cases p1 with
 | @ins a C dx gs0 gs h1 h2 =>
  unfold fldD at q1
  dsimp only at q1
  by_cases hc:C=C0
  ·rw [if_pos hc] at q1
   subst hc
   cases hl:gs.lookup f with
   | none=>rw [hl] at q1;exact q1.elim
   | some d =>
    rw [hl] at q1
    obtain ⟨v,hv,pv⟩:=h2.lookup hl
    exact ⟨a,C,dx,gs0,v,rfl,R1.fh _ _ h1,c,n,hv,q1 v F1 H1 s1 pv⟩
  ·rw [if_neg hc] at q1;exact q1.elim
 | _=>exact q1.elim
theorem d_fldO {K:PySem.W.Frag} (j:Nat) (c:Cls K C0) (n:NoAttr K C0 f) (eK:X.K=K:=by rfl) (hN:X.N[j]?=some x:=by rfl) (hvs:Vis X.env.scope x:=by first | exact Or.inl rfl | exact Or.inr (Or.inl rfl) | exact Or.inr (Or.inr rfl)) (hd:(x==("__debug__":Str))=false:=by decide) (hcd:(x==("__classdict__":Str))=false:=by decide)
  (hb:attributeBase (.Name x p) f X.env (eval (.Name x p) X.env)=eval (.Name x p) X.env:=by rfl):DE X xq (.Attribute (.Name x p) f pos) (fun ρ=>(getI ρ j).bind fun t=>if t.2.1=C0 then (match t.2.2.lookup f with | some d=>.ok d | none=>.bad) else .bad):=by
 subst eK
 refine DE.of (v3o (u4h hN hvs hd hcd) hb) fun B F ρ σ H Q R q=>?_
 obtain ⟨a,C,gs,e1,q1⟩:=v1w (Res.all_bind.mp q)
 obtain ⟨a',h,h1,h2,h3,h4,h5⟩:=R.own j _ e1
 cases h5 with
 | @i _ dx fs0 _ hr =>
  dsimp only at q1
  by_cases hc:C=C0
  ·rw [if_pos hc] at q1
   subst hc
   cases hl:gs.lookup f with
   | none=>rw [hl] at q1;exact q1.elim
   | some d =>
    rw [hl] at q1
    obtain ⟨v,hv,pv⟩:=hr.lookup hl
    exact ⟨.ref a,h1,a,C,dx,fs0,v,rfl,h4,c,n,hv,q1 v F H (Stp.refl R.fh) pv⟩
  ·rw [if_neg hc] at q1;exact q1.elim
theorem Rpf.length {K:PySem.W.Frag}{F:Hp}:∀ {fs:List (Str×V)}{gs:List (Str×D)},Rpf K F fs gs→fs.length=gs.length
 | _,_,.nil=>rfl
 | _,_,.cons _ hs=>congrArg (·+1) hs.length
noncomputable def putG (f:Str) (d:D):List (Str×D)→List (Str×D)
 | []=>[(f,d)]
 | (g,x)::r=>if g=f then (g,d)::r else (g,x)::putG f d r
theorem Rpf.put {K:PySem.W.Frag}{F:Hp}{f:Str}{v:V}{d:D} (pd:Rp K F v d):∀ {fs:List (Str×V)}{gs:List (Str×D)},Rpf K F fs gs→Rpf K F (putF f v fs) (putG f d gs)
 | _,_,.nil=>.cons pd .nil
 | _,_,.cons (k:=k) h hs=>by
  unfold putF putG
  by_cases e:k=f
  ·rw [if_pos e,if_pos e];exact .cons pd hs
  ·rw [if_neg e,if_neg e];exact .cons h (hs.put pd)
theorem v1H {K:PySem.W.Frag} (j:Nat) (c:Cls K C0) (n:NoAttr K C0 f) (hv:DE X xq value fv) (eK:X.K=K:=by rfl) (hN:X.N[j]?=some x:=by rfl) (hvs:Vis X.env.scope x:=by first | exact Or.inl rfl | exact Or.inr (Or.inl rfl) | exact Or.inr (Or.inr rfl)) (hd:(x==("__debug__":Str))=false:=by decide) (hcd:(x==("__classdict__":Str))=false:=by decide)
  (hs:swapsWith value (some (.Attribute (.Name x p) f pos')) pos.line X.env=pure false:=by rfl) :
  DS X xq (.Assign [.Attribute (.Name x p) f pos'] value pos) (fun ρ=>(fv ρ).go ρ fun d=>(getI ρ j).go ρ fun t=>if t.2.1=C0∧t.2.2.length<1000 then .nx (ρ.set j (some (.own (.i t.1 t.2.1 (putG f d t.2.2))))) else .bad):=by
 subst eK
 refine DS.of (ps_fld (u4h hN hvs hd hcd) hv.out hs) fun B F ρ σ H T R q=>⟨B,F,ρ,R,Res.all_mono (u1m q.out) (fun d q1 v F1 H1 st pv=>?_) fun _ z=>errOf z⟩
 obtain ⟨a,C,gs,e1,q2⟩:=v1w (u1m q1)
 have R1:=R.step st
 obtain ⟨a',h,h1,h2,h3,h4,h5⟩:=R1.own j _ e1
 cases h5 with
 | @i _ dx fs0 _ hr =>
  dsimp only at q2
  by_cases hc:C=C0∧gs.length<1000
  ·rw [if_pos hc] at q2
   obtain ⟨rfl,hl⟩:=hc
   exact ⟨.ref a,h1,a,C,dx,fs0,rfl,h4,c,n,by rw [hr.length];exact hl,q2 σ F1 _ (R1.write (e:=e1) h1 (.i (hr.put pv)))⟩
  ·rw [if_neg hc] at q2;exact q2.elim
end
noncomputable def wo (H:Hp) (a:Addr):Hp:=fun b=>if b=a then none else H b
theorem wo_at (H:Hp) (a:Addr):wo H a a=none:=if_pos rfl
theorem wo_ne {H:Hp}{a b:Addr} (h:b≠a):wo H a b=H b:=if_neg h
theorem v0t (H:Hp) (a:Addr):Same (wo H a) H:=fun b o e=>by
 by_cases z:b=a
 ·subst z;rw [wo_at] at e;cases e
 ·rw [wo_ne z] at e;exact e
noncomputable def spInit (K:PySem.W.Frag) (C:Addr) (g:List D→Res (List (Str×D))):Sp:=fun vs H Q E=>∃ F a dx rest ds,vs=.ref a::rest∧Same F H∧F a=none∧H a=some (.ins C dx [])∧Rps K F rest ds ∧
 (g ds).all (fun gs=>∀ dx' fs F' H',Stp F (wo H a) F' H'→F' a=none→H' a=some (.ins C dx' fs)→Rpf K F' fs gs→Q .non H') (fun x=>∀ e F' H',Stp F (wo H a) F' H'→Rp K F' (.ref e) x→E (.ref e) none H')
noncomputable def startI (n:Nat) (a C:Addr) (ds:List D):Rho:=some (.own (.i a C []))::startD (n - 1) ds
noncomputable def outI (a C:Addr):Out→Res (List (Str×D))
 | .nx ρ=>match ρ[(0:Nat)]? with
  | some (some (.own (.i a' C' gs)))=>if a'=a∧C'=C then .ok gs else .bad
  | _=>.bad
 | .er x _=>.err x
 | _=>.bad
theorem u3M {n:Nat}{ds:List D}{i:Nat}{o:OD}:(startD n ds)[i]?≠some (some (.own o)):=fun e=>by
 unfold startD at e
 rw [List.getElem?_append] at e
 split at e
 ·rw [List.getElem?_map] at e
  cases q:ds[i]? with
  | none=>rw [q] at e;cases e
  | some d'=>rw [q] at e;cases e
 ·rw [List.getElem?_replicate] at e
  split at e <;> simp at e
theorem v1W {K:PySem.W.Frag}{F H:Hp}{N:List Str}{a C dx:Addr}{rest:List V}{ds:List D} (fh:Same F H) (fa:F a=none) (ha:H a=some (.ins C dx [])) (r:Rps K F rest ds) :
  Rel K (F,wo H a) (startI N.length a C ds) (start N (.ref a::rest)) F H:=by
 have e:start N (.ref a::rest)=some (.ref a)::start N.tail rest:=by
  unfold start
  rw [List.map_cons,List.cons_append,List.length_cons,List.length_tail,Nat.sub_sub,Nat.add_comm 1]
 have R0:Rel K (F,H) (startD (N.length - 1) ds) (start N.tail rest) F H:=by
  have:=r.begin (N:=N.tail) fh
  rwa [List.length_tail] at this
 rw [e]
 unfold startI
 refine ⟨⟨Same.refl F,fh,v0t H a,fun _ n _=>n⟩,by simp [R0.len],fun i d q=>?_,fun i o q=>?_,fun i j o u b q1 q2 x y=>?_⟩
 ·cases i with
  | zero=>cases q
  | succ i=>exact R0.val i d q
 ·cases i with
  | zero=>cases q;exact ⟨a,_,rfl,fa,wo_at H a,ha,.i .nil⟩
  | succ i=>exact absurd q u3M
 ·cases i with
  | zero =>
   cases j with
   | zero=>rfl
   | succ j=>exact absurd q2 u3M
  | succ i=>exact absurd q1 u3M
section
variable {P:Program}{w:World}{K:PySem.W.Frag}{mg:Str→Option Value}{base:Heap}
end
noncomputable def KCallee (P:Program) (w:World) (K:PySem.W.Frag) (mg:Str→Option Value) (base:Heap) (k:Nat) (x:Str) (C:Addr) (ps:List Str) (dds:List D) (g:List D→Res (List (Str×D))):Prop :=
 ∃ f fd dvs ds0,Mk K C f∧FnOk P w K mg base (CXe P w) k f fd ps (spInit K C g)∧Binds K fd ps ds0∧Vals dvs ds0∧(∀ F,Rps K F dvs dds)∧mg x=some (.ref C)
section
variable {X:Cx}{xq:XQ}{e:Expr}{es:List Expr}{fs:Rho→Res (List D)}{x:Str}{p pos:Pos}{C f:Addr}
theorem v0J {k:Nat}{fd:FuncData}{ps:List Str}{sp:Sp}{ds:List Value}{dvs:List V}{pins:List (Addr×Obj)}{σ:St}{H:Hp}{s:Shared}{Q:VK}{us:List Value}{vs:List V} (hq:XqOk X xq) (M:Mk X.K C f) (F:FnOk X.prog X.w X.K X.mg X.base (CXe X.prog X.w) k f fd ps sp) (hr:Room (k+1) X.A) (hb:Binds X.K fd ps ds) (hd:Vals dvs ds)
  (I:Inv X pins σ H s) (r:Vals vs us)
  (h:∀ x dx,H x=none→H dx=none→dx≠x→sp (.ref x::(vs++dvs)) (upd (upd H dx (.own x)) x (.ins C dx [])) (fun v H2=>v=.non∧Q (.ref x) H2) (fun u _ H'=>∃ a,u=.ref a∧xq (.ref a) σ H')) :
  wpAny (model X.prog X.w) X.A (call (.ref C) us) (EP X pins σ Q) X.xe s:=by
 have hc:=h (s.heap.objs.size+1) s.heap.objs.size (I.hok.fresh (Nat.le_succ _)) (I.hok.fresh (Nat.le_refl _)) (Nat.ne_of_lt (Nat.lt_succ_self _))
 have I2:=Inv.made (C:=C) I
 have r2:Vals (V.ref (s.heap.objs.size+1)::(vs++dvs)) (Value.ref (s.heap.objs.size+1)::(us++ds)):=.cons rfl (r.append hd)
 have hl:(Value.ref (s.heap.objs.size+1)::us++ds).length=ps.length:=by
  have e:=r2.length
  rw [F.len _ _ _ _ hc] at e
  exact e.symm
 refine wpAny_call (v2K (f:=f) I.kIn M.makes M.init (beq_iff_eq.mp M.fn) (codeAny_mono (F.run _ X.stack _ _ ⟨Value.ref (s.heap.objs.size+1)::us,[]⟩ (Value.ref (s.heap.objs.size+1)::(us++ds)) _ _ _ (hr.make C us [])
  (I2.env0.make C us []) (hb _ (Value.ref (s.heap.objs.size+1)::us) I2.kIn hl) r2 hc) fun r s' hq'=>?_))
 cases r with
 | error e=>exact hq.xe _ _ (u8Z I2 hq')
 | ok fl =>
  cases fl with
  | ret u =>
   obtain ⟨v,H',I3,rv,ev,q3⟩:=I2.after hq'
   subst ev
   exact ⟨rv,⟨V.ref (s.heap.objs.size+1),H',I3,rfl,q3⟩⟩
  | next=>exact False.elim hq'
  | brk=>exact False.elim hq'
  | cont=>exact False.elim hq'
theorem u9i {P:Program}{w:World}{K:PySem.W.Frag}{mg:Str→Option Value}{base:Heap}{k k':Nat}{ps:List Str}{dds:List D}{g:List D→Res (List (Str×D))} (hq:XqOk X xq) (h:KCallee P w K mg base k x C ps dds g) (hr:Room k' X.A) (ha:DA X xq (e::es) fs) (hk:k+1≤k':=by decide) (hg:Gl X x:=by rfl)
  (eP:X.prog=P:=by rfl) (ew:X.w=w:=by rfl) (eK:X.K=K:=by rfl) (em:X.mg=mg:=by rfl) (eb:X.base=base:=by rfl) (hdb:(x==("__debug__":Str))=false:=by decide) :
  DE X xq (.Call (.Name x p) (e::es) [] pos) (fun ρ=>(fs ρ).bind fun ds=>(g (ds++dds)).bind fun gs=>.ok (.ins C gs)):=⟨fun pins s σ H Q I ⟨B,F,ρ,R,q⟩=>by
 subst eP ew eK em eb
 obtain ⟨fi,fd,dvs,ds0,M,G,hb,hd,hdd,hm⟩:=h
 refine wpAny_Call_Name_kw (u3A I hg hm ?_ hdb)
 refine PySem.W.callWith_K (h₀:=X.base) I.ok.mod.kin M.kp (thn (ha.out pos pins s σ H (fun vs H1=>∀ x dx,H1 x=none→H1 dx=none→dx≠x→spInit X.K C g (.ref x::(vs++dvs)) (upd (upd H1 dx (.own x)) x (.ins C dx [])) (fun v H2=>v=.non∧Q (.ref x) H2) (fun u _ H'=>∃ a,u=.ref a∧xq (.ref a) σ H')) I (seqA R q fun ds vs F1 H1 s1 R1 p1 q1=>?_)) fun us s1 ⟨vs,H1,I1,r,q⟩=>⟨I1.kIn,?_⟩) (u1f (u0S ha.ns).1) (u2x (u0S ha.ns).2)
 ·intro y dx n1 n2 n3
  have sH:Same H1 (wo (upd (upd H1 dx (.own y)) y (.ins C dx [])) y):=fun b o e=>by
   have b1:b≠y:=fun z=>by subst z;rw [n1] at e;cases e
   have b2:b≠dx:=fun z=>by subst z;rw [n2] at e;cases e
   rw [wo_ne b1,u0r b1,u0r b2];exact e
  refine ⟨F1,y,dx,_,ds++dds,rfl,R1.fh.trans (sH.trans (v0t _ _)),R1.fh.free n1,u0k,p1.append (hdd F1),Res.all_mono (Res.all_bind.mp q1) (fun gs q2 dx' fs0 F' H' st fa ha' pf=>⟨rfl,?_⟩) fun z q2 b F' H' st pz=>⟨b,rfl,?_⟩⟩
  ·have st2:Stp F1 H1 (upd F' y (.ins C dx' fs0)) H':=⟨st.ff.trans (u0q fa),fun b u z=>by
    unfold upd at z
    by_cases zz:b=y
    ·rw [if_pos zz] at z;cases z;subst zz;exact ha'
    ·rw [if_neg zz] at z;exact st.fh b u z,sH.trans st.hh,fun b z1 z2=>by
    unfold upd
    by_cases zz:b=y
    ·subst zz;exact absurd n1 z2
    ·rw [if_neg zz];exact st.no b z1 (u3g sH z2)⟩
   exact q2 _ _ _ (s1.trans st2) (.ins u0k (pf.same (u0q fa)))
  ·have st2:Stp F1 H1 F' H':=⟨st.ff,st.fh,sH.trans st.hh,fun b z1 z2=>st.no b z1 (u3g sH z2)⟩
   exact errR R1 st2 pz q2
 ·exact v0J hq M G (hr.mono hk) hb hd I1 r q⟩
end
section
variable {X:Cx}{pins:List (Addr×Obj)}{σ:St}{H:Hp}{s:Shared}{F:Hp}
theorem kitx_D {v:V}{u:Value}{d:D}{t:String} (I:Inv X pins σ H s) (rx:RelV v u) (fh:Same F H) (pv:Rp X.K F v d) (ht:tyN d=some t):∃ Hh:Heap→Prop,PySem.W.KitX X.K u (.type t) Hh∧Hh s.heap∧u≠.builtin "__main__.__loader__#opaque":=by
 cases pv with
 | non=>cases ht;cases (show u=Value.none from rx);exact ⟨_,PySem.W.kitx_none,True.intro,fun z=>nomatch z⟩
 | bl y=>cases ht;cases (show u=Value.bool y from rx);exact ⟨_,PySem.W.kitx_bool,True.intro,fun z=>nomatch z⟩
 | int i=>cases ht;obtain ⟨t,q⟩:=(show ∃ t,u=Value.int i t from rx);cases q;exact ⟨_,PySem.W.kitx_int,True.intro,fun z=>nomatch z⟩
 | @str z hz=>cases ht;obtain ⟨t,q⟩:=(show ∃ t,u=Value.str z t from rx);cases q;exact ⟨_,PySem.W.kitx_str,True.intro,fun z=>nomatch z⟩
 | ty T=>cases ht
 | @lst a xs ds hq hs =>
  cases ht
  cases (show u=Value.ref a from rx)
  obtain ⟨z,its,n,r,hl,e⟩:=I.lstR (hq.same fh)
  exact ⟨_,PySem.W.kitx_list,⟨_,e,rfl⟩,fun z=>nomatch z⟩
 | @tup a xs ds hq hs =>
  cases ht
  cases (show u=Value.ref a from rx)
  obtain ⟨its,r,p,hz⟩:=I.tuple (fh.seqT hq)
  obtain ⟨ob,h1,h2,_⟩:=p
  exact ⟨_,PySem.W.kitx_tuple,⟨ob,h1,h2⟩,fun z=>nomatch z⟩
 | @dK a kvs ps hq hs =>
  cases ht
  cases (show u=Value.ref a from rx)
  obtain ⟨_,_,vs,_,p⟩:=(show ObjOk X.prog X.w H s.heap a (.dK kvs) from I.hok a _ (fh _ _ hq))
  obtain ⟨ob,es,ep,h1,h2,_⟩:=p
  exact ⟨_,PySem.W.kitx_dict,⟨ob,h1,h2.1⟩,fun z=>nomatch z⟩
 | ins hq hs=>cases ht
 | exc hq hr hs=>cases ht
 | dn hq hs=>cases ht
noncomputable def isTs (t:String):List String→Option Bool
 | []=>some false
 | T::r=>match isT t T with
  | some true=>some true
  | some false=>isTs t r
  | none=>none
theorem u8O (K:PySem.W.Frag) {d:D}{t:String} (ht:tyN d=some t):∀ {Ts:List String}{b:Bool},isTs t Ts=some b→PySem.W.kitAny K (.type t) (Ts.map Value.type)=some b
 | [],_,e=>by cases e;rfl
 | T::r,b,e=>by
  simp only [isTs] at e
  cases q:isT t T with
  | none=>rw [q] at e;cases e
  | some c =>
   rw [q] at e
   simp only [List.map_cons,PySem.W.kitAny,v1l K ht q]
   cases c with
   | true=>exact e
   | false=>exact u8O K ht e
noncomputable def tysOf:List D→Option (List String)
 | []=>some []
 | .ty T::r=>(tysOf r).map (T::·)
 | _=>none
theorem u5z {K:PySem.W.Frag}:∀ {ts:List D}{Ts:List String}{xs:List V}{us:List Value},tysOf ts=some Ts→Rps K F xs ts→Vals xs us→us=Ts.map Value.type
 | [],_,_,_,e,p,r=>by cases e;cases p;cases r;rfl
 | d::ts,Ts,_,_,e,p,r=>by
  cases d <;> simp only [tysOf,reduceCtorEq] at e
  cases q:tysOf ts with
  | none=>rw [q] at e;cases e
  | some Ts' =>
   rw [q] at e
   cases e
   cases p with
   | cons p1 p2 =>
    cases p1
    cases r with
    | cons r1 r2=>cases r1;rw [u5z q p2 r2];rfl
noncomputable def isAny (d:D) (ts:List D):Res D:=match tyN d with
 | some t=>match tysOf ts with
  | some Ts=>match isTs t Ts with
   | some b=>.ok (.bl b)
   | none=>.bad
  | none=>.bad
 | none=>.bad
noncomputable def gIsA:List D→Res D
 | [d,.tup ts]=>isAny d ts
 | ds=>gIs ds
theorem u2r:CallR X (.builtin "isinstance") (rDs X.K gIsA):=by
 intro pins s σ H xs us Q I r ⟨F,ds,fh,ps,q⟩
 unfold gIsA at q
 split at q
 ·rename_i d ts
  obtain ⟨v,w,rfl,pv,pw⟩:=rps2 ps
  unfold isAny at q
  cases ht:tyN d with
  | none=>rw [ht] at q;exact q.elim
  | some t =>
   rw [ht] at q
   cases hT:tysOf ts with
   | none=>simp only [hT] at q;exact q.elim
   | some Ts =>
    simp only [hT] at q
    cases hb:isTs t Ts with
    | none=>simp only [hb] at q;exact q.elim
    | some bb =>
     simp only [hb] at q
     cases pw with
     | @tup a zs _ hq hs =>
      obtain ⟨u,u',rfl,ru,ru'⟩:=vals2 r
      cases ru'
      obtain ⟨its,rv,p,hz⟩:=I.tuple (fh.seqT hq)
      obtain ⟨⟨cls,dd,data,sl⟩,ho,hc,n,hd⟩:=p
      dsimp only at hc hd
      subst hc hd
      obtain ⟨Hh,Z,hh,ne⟩:=kitx_D I ru fh pv ht
      have ei:=u5z hT hs rv
      exact PySem.W.kia_tup Z I.kIn hh ho (by rw [ei];exact u8O X.K ht hb) ne fun tk=>⟨.bl bb,H,I.tok _,rfl,q _ F H (Stp.refl fh) (.bl bb)⟩
 ·exact v3h pins s σ H xs us Q I r ⟨F,ds,fh,ps,q⟩
noncomputable def gInt:List D→Res D
 | [.int i]=>.ok (.int i)
 | [.bl b]=>.ok (.int (if b then 1 else 0))
 | _=>.bad
theorem c_int:CallR X (.type "int") (rDs X.K gInt):=by
 intro pins s σ H xs us Q I r ⟨F,ds,fh,ps,q⟩
 unfold gInt at q
 split at q
 ·obtain ⟨v,rfl,pv⟩:=rps1 ps
  cases pv
  exact u7C pins s σ H _ us Q I r (.inl ⟨_,rfl,q _ F H (Stp.refl fh) (.int _)⟩)
 ·obtain ⟨v,rfl,pv⟩:=rps1 ps
  cases pv
  exact u7C pins s σ H _ us Q I r (.inr ⟨_,rfl,q _ F H (Stp.refl fh) (.int _)⟩)
 ·exact q.elim
end
section
variable {X:Cx}{xq:XQ}{a b c:Expr}{fa fb fc:Rho→Res D}{pos:Pos}
theorem v0n {K:PySem.W.Frag}{g g':D→D→Res D}{σ:St}{H:Hp}{Q:VK} (h:liftE K xq (fun ρ=>(fa ρ).bind fun x=>(fb ρ).bind fun y=>fChain g g' x y (fc ρ)) σ H Q):tChain (rD K g) (rD K g') (liftE K xq fa) (liftE K xq fb) (liftE K xq fc) σ H Q:=by
 obtain ⟨B,F,ρ,R,q⟩:=h
 exact seqE R q fun d v F1 H1 s1 R1 p1 q1=>seqE R1 q1 fun d2 v2 F2 H2 s2 R2 p2 q2=>by
  refine ⟨F2,d,d2,R2.fh,p1.same s2.ff,p2,?_⟩
  unfold fChain at q2
  have q3:=Res.all_bind.mp q2
  generalize g d d2=r at q3
  cases r with
  | err x=>exact q3
  | bad=>exact q3
  | ok w =>
   obtain ⟨k,rfl,q4⟩:=u5Q (Res.all_bind.mp (show ((asB w).bind _).all _ _ from q3))
   intro v3 F3 H3 s3 p3
   refine ⟨k,p3.blI,?_⟩
   have s03:=(s1.trans s2).trans s3
   cases k with
   | false=>exact q4 (.bl false) F3 H3 s03 (.bl false)
   | true=>exact seqE (R2.step s3) q4 fun d4 v4 F4 H4 s4 R4 p4 q5=>⟨F4,d2,d4,R4.fh,(p2.same s3.ff).same s4.ff,p4,doneN (s03.trans s4) q5⟩
theorem u3I {op op':CmpOp}{g g':D→D→Res D} (ho:OpR X (compareOp op) (rD X.K g)) (ho':OpR X (compareOp op') (rD X.K g')) (ha:DE X xq a fa) (hb:DE X xq b fb) (hc:DE X xq c fc) (hm:lastMarks [op,op'] [b,c]=false:=by with_unfolding_all rfl) :
  DT X xq (.Compare a [op,op'] [b,c] pos) (fun ρ=>((fa ρ).bind fun x=>(fb ρ).bind fun y=>fChain g g' x y (fc ρ)).bind asB) :=
 DT.of (v2t ho ho' ha.out hb.out hc.out hm) fun B F ρ σ H Q R q=>v0n (tfrz (P:=fun _=>True) R q)
end
theorem u6i (t:SetTable) (n:Nat):(t.orStandIn n).led=t.led:=by
 unfold SetTable.orStandIn
 split <;> rfl
theorem v0f (t:SetTable) (es:Array (Int×Value)) (h:Int) (x:Value):(layNew t es h x).2.1.led=t.led:=by
 unfold layNew
 split
 ·exact u6i _ _
 ·rfl
theorem u4g {t t':SetTable}{hs:Array Int}{n:Nat}{o:Array Nat} (e:t.relaid hs n=some (t',o)):t'.led=t.led∧t'.plain=t.plain:=by
 unfold SetTable.relaid SetTable.laid at e
 cases q:SetTable.layClean (SetTable.sizeAbove n - 1) hs with
 | none=>rw [q] at e;cases e
 | some ow=>rw [q] at e;cases e;exact ⟨rfl,rfl⟩
theorem u6J (t:SetTable) (es:Array (Int×Value)) (n:Nat):(relayAll t es n).2.1.led=t.led:=by
 unfold relayAll
 split
 ·rename_i t' order e
  dsimp only
  split
  ·exact (u4g e).1
  ·rfl
 ·rfl
theorem u5q (t:SetTable) (es:Array (Int×Value)) (n:Nat) (q:t.plain=false):(relayAll t es n).2.1.plain=false:=by
 unfold relayAll
 split
 ·rename_i t' order e
  dsimp only
  split
  ·exact (u4g e).2.trans q
  ·rfl
 ·rfl
noncomputable def addT (ss:List Str) (x:Str):List Str:=if x∈ss then ss else ss++[x]
noncomputable def SetT (P:Program) (w:World) (h:Heap) (a:Addr) (ss:List Str):Prop :=
 ∃ o es ep t,h.get? a=some o∧o.ExactSet∧o.data=.set es ep t∧ElemsOf (PySem.strKind P w) es.toList∧(es.toList.map fun e=>strOf e.2).Perm ss∧ss.Nodup∧es.size<scanBound∧t.fits es.size=true ∧
  t.led=(!w.params.followText "set-order")∧(0<es.size→t.plain=false)
section
variable {P:Program}{w:World}{A:Around}{E:Value→Shared→Prop}{s:Shared}
theorem u9c {es:List (Int×Value)} (h:ElemsOf (PySem.strKind P w) es) {e:Int×Value} (he:e∈es):∃ x t,e.2=.str x t:=by
 obtain ⟨⟨k,hk,_⟩,_⟩:=h e he
 obtain ⟨t,q⟩:=Value.isStrOf_shape hk
 exact ⟨k,t,q⟩
theorem v1F {es:List (Int×Value)} (h:ElemsOf (PySem.strKind P w) es) {e:Int×Value} (he:e∈es) (x:Str):(PySem.strKind P w).is x e.2=decide (strOf e.2=x):=by
 obtain ⟨y,t,q⟩:=u9c h he
 rw [q]
 show Value.isStrOf x (.str y t)=_
 show (y==x)=decide (y=x)
 by_cases q:y=x
 ·subst q;simp
 ·rw [decide_eq_false q];exact beq_eq_false_iff_ne.mpr q
theorem v1y {es:List (Int×Value)}{x:Str}{ss:List Str} (h:ElemsOf (PySem.strKind P w) es) (p:(es.map fun e=>strOf e.2).Perm ss) (q:es.findIdx? (fun e=>(PySem.strKind P w).is x e.2)=none):x∉ss:=fun m=>by
 obtain ⟨e,he,ee⟩:=List.mem_map.mp (p.mem_iff.mpr m)
 have:=List.findIdx?_eq_none_iff.mp q e he
 rw [v1F h he,decide_eq_false_iff_not] at this
 exact this ee
theorem v1x {es:List (Int×Value)}{x:Str}{ss:List Str}{j:Nat} (h:ElemsOf (PySem.strKind P w) es) (p:(es.map fun e=>strOf e.2).Perm ss) (q:es.findIdx? (fun e=>(PySem.strKind P w).is x e.2)=some j):x∈ss:=by
 obtain ⟨hj,hp,_⟩:=List.findIdx?_eq_some_iff_getElem.mp q
 have he:es[j]∈es:=List.getElem_mem hj
 rw [v1F h he,decide_eq_true_eq] at hp
 exact p.mem_iff.mp (List.mem_map.mpr ⟨_,he,hp⟩)
theorem storeT {a:Addr}{o:Obj}{es es':Array (Int×Value)}{ep:Nat}{t t':SetTable}{ss:List Str} (ho:s.heap.get? a=some o) (hex:o.ExactSet) (hd:o.data=.set es ep t) (el:ElemsOf (PySem.strKind P w) es'.toList)
  (p:(es'.toList.map fun e=>strOf e.2).Perm ss) (nd:ss.Nodup) (hb:es'.size<scanBound) (hf:t'.fits es'.size=true) (hl:t'.led=(!w.params.followText "set-order")) (hp:t'.plain=false) :
  (s.heap.update a (Obj.putSet es' t')).get? a=some { o with data:=.set es' (ep+1) t' }∧SetT P w (s.heap.update a (Obj.putSet es' t')) a ss:=by
 obtain ⟨g,_⟩:=SetOf_store (knd:=PySem.strKind P w) (S':=fun k=>es'.toList.any fun e=>(PySem.strKind P w).is k e.2) ho hex hd el (fun k=>List.any_eq_true) hb hf
 exact ⟨g,_,es',ep+1,t',g,hex,rfl,el,p,nd,hb,hf,hl,fun _=>hp⟩
theorem u7M {g:Bool→Sem Unit} (hg:∀ (b:Bool) (s₁:Shared) (Q':Unit→Shared→Prop),Q' () s₁→wpAny (model P w) A (g b) Q' E s₁) {a:Addr}{o:Obj}{es es1:Array (Int×Value)}{ep:Nat}{t t2:SetTable}{ss:List Str}
  (ho:s.heap.get? a=some o) (hex:o.ExactSet) (hd:o.data=.set es ep t) (el:ElemsOf (PySem.strKind P w) es1.toList) (p:(es1.toList.map fun e=>strOf e.2).Perm ss) (nd:ss.Nodup) (hb:es1.size<scanBound)
  (hf:t2.fits es1.size=true) (hl:t2.led=(!w.params.followText "set-order")) (hp:t2.plain=false) {wd:Bool}{R:Option Bool→Shared→Prop} (h:∀ h',Heap.SameBut a s.heap h'→SetT P w h' a ss→R (some true) { s with heap:=h' }) :
  wpAny (model P w) A (do
    storeSet a es1 t2
    if (!wd&&t2.tooFull)=true then do
        g (relayAll t2 es1 (SetTable.grown es1.size)).2.2
        storeSet a (relayAll t2 es1 (SetTable.grown es1.size)).1 (relayAll t2 es1 (SetTable.grown es1.size)).2.1
        pure (some true)
     else pure (some true)) R E s:=by
 refine wpAny_bind (wpAny_storeSet_of ho hd ?_ (fits_of_scanBound hb))
 obtain ⟨o1,S1⟩:=storeT ho hex hd el p nd hb hf hl hp
 have sb:=Heap.SameBut.update s.heap a (Obj.putSet es1 t2)
 split
 ·have q1:=relayAll_perm t2 es1 (SetTable.grown es1.size)
  have q2:=relayAll_fits t2 es1 (SetTable.grown es1.size)
  have q3:=u6J t2 es1 (SetTable.grown es1.size)
  have q4:=u5q t2 es1 (SetTable.grown es1.size) hp
  generalize relayAll t2 es1 (SetTable.grown es1.size)=Z at q1 q2 q3 q4 ⊢
  obtain ⟨es2,t3,gv⟩:=Z
  dsimp only at q1 q2 q3 q4 ⊢
  have z:es2.size=es1.size:=by have:=q1.length_eq;simpa using this
  refine wpAny_bind (hg _ _ _ ?_)
  refine wpAny_bind (wpAny_storeSet_of o1 rfl ?_ (fits_of_scanBound (z ▸ hb)))
  obtain ⟨_,S2⟩:=storeT (s:={ s with heap:=s.heap.update a (Obj.putSet es1 t2) }) o1 hex rfl (el.perm q1) ((q1.map _).trans p) nd (z ▸ hb) q2 (q3.trans hl) q4
  exact wpAny_pure (h _ (sb.trans (Heap.SameBut.update _ a _)) S2)
 ·exact wpAny_pure (h _ sb S1)
theorem setAddT {a:Addr}{ss:List Str}{x:Str}{tk:Tok}{Q:Bool→Shared→Prop} (hS:SetT P w s.heap a ss) (hr:ss.length+1<scanBound)
  (h:∀ r h',Heap.SameBut a s.heap h'→SetT P w h' a (addT ss x)→Q r { s with heap:=h' }):wpAny (model P w) A (setAddHashed a (.str x tk) ((PySem.strKind P w).hash x)) Q E s:=by
 obtain ⟨o,es,ep,t,ho,hex,hd,el,p,nd,hb,hf,hl,hp⟩:=id hS
 have hn:es.size=ss.length:=by have:=p.length_eq;simpa using this
 have hk:(PySem.strKind P w).is x (.str x tk)=true:=strKind_is P w x tk
 unfold setAddHashed setAddHashedIn
 refine wpAny_holding (wpAny_bind (wpAny_setState_of ho hd hf ?_))
 dsimp only
 rw [byScan_of (knd:=PySem.strKind P w) (x:=.str x tk) rfl hb el]
 simp only [↓reduceIte]
 unfold setAddByScan
 refine wpAny_bind ?_
 refine wpAny_bind (wpAny_rule ?_)
 refine wpAny_bind (wpAny_setScan_of hk ho hd hf el ?_)
 cases hr':List.findIdx? (fun e=>(PySem.strKind P w).is x e.2) es.toList with
 | some j =>
  dsimp only
  refine wpAny_pure (wpAny_pure ?_)
  have m:=v1x el p hr'
  have:=h false s.heap (Heap.SameBut.refl a s.heap) (by unfold addT;rw [if_pos m];exact hS)
  exact this
 | none =>
  dsimp only
  have m:=v1y el p hr'
  have q1:=layNew_perm t es ((PySem.strKind P w).hash x) (.str x tk)
  have q2:=layNew_fits t es ((PySem.strKind P w).hash x) (.str x tk)
  have q3:=v0f t es ((PySem.strKind P w).hash x) (.str x tk)
  generalize layNew t es ((PySem.strKind P w).hash x) (.str x tk)=Z at q1 q2 q3 ⊢
  obtain ⟨es1,t1,wd,gv⟩:=Z
  dsimp only at q1 q2 q3 ⊢
  rw [Array.toList_push] at q1
  have el1:ElemsOf (PySem.strKind P w) es1.toList:=(el.push hk rfl).perm q1
  have p1:(es1.toList.map fun e=>strOf e.2).Perm (addT ss x):=by
   unfold addT
   rw [if_neg m]
   refine (q1.map _).trans ?_
   rw [List.map_append]
   exact p.append (List.Perm.refl _)
  have nd1:(addT ss x).Nodup:=by
   unfold addT
   rw [if_neg m,List.nodup_append]
   exact ⟨nd,by simp,fun y hy z hz e=>by rw [List.mem_singleton] at hz;subst hz;subst e;exact m hy⟩
  have hb1:es1.size<scanBound:=by
   have:=q1.length_eq
   simp at this
   omega
  have hg:∀ (b:Bool) (s₁:Shared) (Q':Unit→Shared→Prop),Q' () s₁→wpAny (model P w) A (match b with | true=>rule "set.scan.the-table-gave-way" | false=>pure ()) Q' E s₁:=fun b s₁ Q' hq=>by
   cases b <;> first | exact wpAny_pure hq | exact wpAny_rule hq
  refine wpAny_bind (hg _ _ _ ?_)
  split
  ·refine wpAny_bind ?_
   rw [hashByValue_scannable 8 (x:=.str x tk) rfl]
   refine wpAny_pure ?_
   refine u7M hg ho hex hd el1 p1 nd1 hb1 ?_ ?_ ?_ fun h' sb S'=>wpAny_pure (h true h' sb S')
   ·exact SetTable.fits_plain_off q2
   ·exact q3.trans hl
   ·rfl
  ·rename_i hpl
   refine wpAny_bind (wpAny_pure ?_)
   simp only [↓reduceIte]
   exact u7M hg ho hex hd el1 p1 nd1 hb1 q2 (q3.trans hl) (by simpa using hpl) fun h' sb S'=>wpAny_pure (h true h' sb S')
end
noncomputable def setOfT (ss:List Str):List Str:=ss.foldl addT []
theorem u9q (ss:List Str) (x:Str):(addT ss x).length≤ss.length+1:=by unfold addT;split <;> simp
theorem u4Z:∀ (xs ss:List Str),(xs.foldl addT ss).length≤ss.length+xs.length
 | [],ss=>by simp
 | x::xs,ss=>by
  have:=u4Z xs (addT ss x)
  have:=u9q ss x
  simp only [List.foldl_cons,List.length_cons]
  omega
theorem u7n:∀ (xs ss:List Str) (y:Str),y∈xs.foldl addT ss↔y∈ss∨y∈xs
 | [],ss,y=>by simp
 | x::xs,ss,y=>by
  rw [List.foldl_cons,u7n xs,List.mem_cons]
  unfold addT
  by_cases q:x∈ss
  ·rw [if_pos q]
   constructor
   ·rintro (h | h)
    ·exact .inl h
    ·exact .inr (.inr h)
   ·rintro (h | rfl | h)
    ·exact .inl h
    ·exact .inl q
    ·exact .inr h
  ·rw [if_neg q,List.mem_append,List.mem_singleton,or_assoc]
theorem u3N {ss:List Str}{y:Str}:y∈setOfT ss↔y∈ss:=by unfold setOfT;rw [u7n];simp
theorem u5R {ss:List Str}{x:Str} (h:ss.Nodup):(addT ss x).Nodup:=by
 unfold addT
 split
 ·exact h
 ·rename_i m
  rw [List.nodup_append]
  exact ⟨h,by simp,fun y hy z hz e=>by rw [List.mem_singleton] at hz;subst hz;subst e;exact m hy⟩
theorem u4Y:∀ (xs ss:List Str),ss.Nodup→(xs.foldl addT ss).Nodup
 | [],_,h=>h
 | _::xs,_,h=>u4Y xs _ (u5R h)
theorem u6E (ss:List Str):(setOfT ss).Nodup:=u4Y ss [] List.nodup_nil
theorem u5A:∀ {vs:List Value}{ss:List Str},StrsAre vs ss→∀ (i:Nat) (v:Value),vs[i]?=some v→∃ x t,ss[i]?=some x∧v=.str x t
 | _,_,.cons x t h,0,v,e=>by cases e;exact ⟨x,t,rfl,rfl⟩
 | _,_,.cons x t h,i+1,v,e=>u5A h i v (by simpa using e)
section
variable {P:Program}{w:World}{A:Around}{E:Value→Shared→Prop}{s:Shared}
theorem SetT.keep {h h':Heap}{a:Addr}{ss:List Str} (x:SetT P w h a ss) (k:∀ o,h.get? a=some o→h'.get? a=some o):SetT P w h' a ss:=by
 obtain ⟨o,es,ep,t,ho,r⟩:=x
 exact ⟨o,es,ep,t,k _ ho,r⟩
theorem SetT.fresh {h:Heap}{a:Addr} (e:h.get? a=some { cls:=.type "set",dict:=none,data:=.set #[] 0 (.fresh 0 0 (!w.params.followText "set-order")) }):SetT P w h a [] :=
 ⟨_,#[],0,_,e,⟨rfl,rfl,rfl⟩,rfl,fun e he=>by simp at he,List.Perm.refl _,List.nodup_nil,by decide,by rfl,rfl,fun q=>absurd q (by decide)⟩
theorem v2n {I:Addr}{fp wr:List Addr}{G:Array GenState→Array GenState→Prop}{n:Nat}{Pp:Nat→Value→Prop}{St:Nat→Shared→Prop}{R:Result→Shared→Prop}{ss:List Str}
  (W:WalksS P w A.in1 I fp wr G n Pp St) (S:Addr) (hSf:S∉fp) (hn:ss.length=n) (hv:∀ i v,Pp i v→∃ x t,ss[i]?=some x∧v=.str x t) (hb:n+1<scanBound) :
  ∀ (k i:Nat) (s:Shared),n - i=k→i≤n→St i s→SetT P w s.heap S (setOfT (ss.take i))→(∀ s',Moved (S::wr) G s s'→SetT P w s'.heap S (setOfT ss)→R (.ok (.ret .none)) s') →
   codeAny (model P w) A (.builtin "set.update.loop" ⟨[.ref S,.ref I],[]⟩) R s:=by
 have hSw:S∉wr:=fun h=>hSf (W.sub _ h)
 have up:∀ b∈wr,b∈S::wr:=fun b hb=>List.mem_cons_of_mem _ hb
 intro k
 induction k with
 | zero =>
  intro i s hk hi st hS hR
  have e:i=n:=by omega
  subst e
  refine codeAny_builtin F.entry_set_update_loop ?_
  rw [Around.under_plainId F.plain_set_update_loop _]
  refine wpAny_bind (m:=pyNext (.ref I)) (W.done s _ _ st fun s' hm=>?_)
  refine wpAny_pure (hR s' (hm.mono up) ?_)
  have q:=hS.keep (h':=s'.heap) fun o=>hm.heap S o hSw
  rwa [List.take_of_length_le (by omega)] at q
 | succ k ih =>
  intro i s hk hi st hS hR
  have lt:i<n:=by omega
  refine codeAny_builtin F.entry_set_update_loop ?_
  rw [Around.under_plainId F.plain_set_update_loop _]
  refine wpAny_bind (m:=pyNext (.ref I)) (W.item i s _ _ lt st fun v s' pv st' hm=>?_)
  obtain ⟨x,t,hx,rfl⟩:=hv i v pv
  have S1:=hS.keep (h':=s'.heap) fun o=>hm.heap S o hSw
  show wpAny _ A.in1 (holding [Value.str x t] (setAdd S (.str x t)) >>= _) _ _ s'
  refine wpAny_bind (wpAny_holding ?_)
  unfold setAdd
  refine wpAny_holding (wpAny_bind ((PySem.strKind P w).pyHash (k:=x) (strKind_is P w x t) ?_))
  have room:(setOfT (ss.take i)).length+1<scanBound:=by
   have:=u4Z (ss.take i) []
   have:(ss.take i).length≤i:=by simp;omega
   unfold setOfT
   simp only [List.length_nil,Nat.zero_add] at *
   omega
  refine setAddT (s:={ s' with toks:=s'.toks+1 }) S1 room fun r h' sb S2=>?_
  have e2:addT (setOfT (ss.take i)) x=setOfT (ss.take (i+1)):=by
   unfold setOfT
   rw [List.take_add_one,hx]
   simp
  rw [e2] at S2
  refine wpAny_pure ⟨plainId_quiet F.plain_set_update_loop _,ih (i+1) _ (by omega) lt (W.frame _ s' _ _ st' (Nat.le_succ _) fun b hb o e=>?_) S2 fun s'' hm2 S3=>?_⟩
  ·rw [sb.2 b (fun h:b=S=>hSf (h ▸ hb))];exact e
  ·exact hR s'' (Moved.trans W.gtrans ((hm.mono up).then_heap (Nat.le_succ _) fun b o hb e=>by rw [sb.2 b (fun h:b=S=>hb (h ▸ List.mem_cons_self))];exact e) hm2) S3
theorem set_new {a:Value}{Q₁:Value→Shared→Prop}
  (h:Q₁ (.ref s.heap.objs.size) { s with heap:=s.heap.push { cls:=.type "set",dict:=none,data:=.set #[] 0 (.fresh 0 0 (!w.params.followText "set-order")) } }) :
  codeAny (model P w) A (.call (.builtin "set.__new__") ⟨[.type "set",a],[]⟩) (wants Q₁ E) s:=by
 refine codeAny_of_tree (wpAny_bind (m:=checkBuiltinCall "set.__new__" ⟨[.type "set",a],[]⟩) (wpAny_of_eq (F.newCall_set_1 a) (wpAny_pure ⟨plainId_quiet F.plain_set_new _,codeAny_builtin F.entry_set_new ?_⟩)))
 rw [Around.under_plainId F.plain_set_new _]
 unfold Builtin.«set.__new__» Builtin.Frozenset.newClass
 have hsub:=sub_set_self
 obtain ⟨hp,g,d,tk,os⟩:=s
 dsimp only
 wp_walk
 refine wpAny_askSetting (wpAny_pure ?_)
 simp only [newObj]
 exact wpAny_bind (wpAny_alloc (wpAny_pure (wpAny_pure h)))
end
section
variable {P:Program}{w:World}{A:Around}{E:Value→Shared→Prop}{s:Shared}
noncomputable abbrev eSet (w:World):Obj:={ cls:=.type "set",dict:=none,data:=.set #[] 0 (.fresh 0 0 (!w.params.followText "set-order")) }
noncomputable def SetMade (P:Program) (w:World) (s:Shared) (ss:List Str) (s₂:Shared):Prop:=∃ h' tk,s₂={ s with heap:=h',toks:=tk }∧SetT P w h' s.heap.objs.size (setOfT ss)∧∀ b o,b<s.heap.objs.size→s.heap.get? b=some o→h'.get? b=some o
set_option maxHeartbeats 3200000 in
theorem v2l {l:Addr}{items:Array Value}{ss:List Str} (hh:A.handled=none) (hl:s.heap.IsList l items) (hi:StrsAre items.toList ss) (hb:items.size+1<scanBound) :
  wpAny (model P w) A.in1 (Builtin.«set.__init__» ⟨[.ref s.heap.objs.size,.ref l],[]⟩)
   (fun fin s'=>match fin with | .done f=>wants (fun r s₂=>r=.none∧SetMade P w s ss s₂) E (.ok f) s' | .again c'=>c'.quiet=true∧codeAny (model P w) A c' (wants (fun r s₂=>r=.none∧SetMade P w s ss s₂) E) s')
   (fun e s'=>wants (fun r s₂=>r=.none∧SetMade P w s ss s₂) E (.error e) s') { s with heap:=s.heap.push (eSet w) }:=by
 have hS:(s.heap.push (eSet w)).get? s.heap.objs.size=some (eSet w):=Heap.get?_push_size _ rfl
 have hT:Shared.TypeIs { s with heap:=s.heap.push (eSet w) } (.ref s.heap.objs.size) "set":=⟨_,hS,rfl⟩
 obtain ⟨⟨oc,od,odt,osl⟩,hol,hcl,nl,hdl⟩:=hl
 simp only at hcl hdl
 subst hcl
 subst hdl
 have hol':(s.heap.push (eSet w)).get? l=some { cls:=.type "list",dict:=od,data:=.seq items nl,slots:=osl }:=Heap.get?_push_of_some _ hol
 have k1:=F.sub_list_set
 have k2:=F.sub_list_frozenset
 have k3:(Value.type "list"==Value.type "dict")=false:=by decide
 have hl1:(s.heap.push (eSet w)).IsList l items:=⟨_,hol',rfl,nl,rfl⟩
 unfold Builtin.«set.__init__» noKeywords Builtin.Frozenset.updateFrom
 generalize hPI:pyIter=PI
 wp_walk
 subst hPI
 refine wpAny_pyIter_list hl1 (wpAny_bind (wpAny_runValue ?_))
 have lS:l<s.heap.objs.size:=Heap.lt_size hol
 have h3:A.in1.in1.handled=none:=by simp [hh]
 have z:(s.heap.push (eSet w)).objs.size=s.heap.objs.size+1:=Heap.size_push ..
 have nI:l≠(s.heap.push (eSet w)).objs.size:=by rw [z];exact Nat.ne_of_lt (Nat.lt_succ_of_lt lS)
 have nS:s.heap.objs.size∉[(s.heap.push (eSet w)).objs.size,l]:=by
  rw [z]
  simp only [List.mem_cons,List.not_mem_nil,or_false,not_or]
  exact ⟨Nat.ne_of_lt (Nat.lt_succ_self _),Nat.ne_of_gt lS⟩
 have hlen:ss.length=items.size:=by
  have e:=hi.strs
  have:(items.toList.map strOf).length=ss.length:=by rw [e]
  simpa using this.symm
 refine v2n (ss:=ss) ((Walks.list h3 _ l nI items).toS) s.heap.objs.size nS hlen (fun i v hv=>u5A hi i v (by rw [Array.getElem?_toList];exact hv)) hb (items.size - 0) 0 _ (by omega) (Nat.zero_le _)
  ⟨⟨_,Heap.get?_push_size _ rfl,rfl,rfl⟩,hl1.push _⟩ (SetT.fresh (Heap.get?_push_of_some _ hS)) ?_
 intro s' hm hS'
 obtain ⟨h',g',d',tk',os'⟩:=s'
 have eg:g'=s.gens:=hm.gens
 have ed:d'=s.drawn:=hm.drawn
 have eo:os'=s.os:=hm.os
 subst eg
 subst ed
 subst eo
 refine wpAny_pure ?_
 show wpAny _ _ (ret Value.none) _ _ _
 refine wpAny_pure ⟨rfl,h',tk',rfl,hS',fun b o hb e=>hm.heap b o ?_ (Heap.get?_push_of_some _ (Heap.get?_push_of_some _ e))⟩
 simp only [List.mem_cons,List.not_mem_nil,or_false,not_or,z]
 exact ⟨Nat.ne_of_lt hb,Nat.ne_of_lt (Nat.lt_succ_of_lt hb)⟩
set_option maxHeartbeats 3200000 in
theorem v2o {l:Addr}{items:Array Value}{ss:List Str}{Q:Value→Shared→Prop} (hh:A.handled=none) (hl:s.heap.IsList l items) (hi:StrsAre items.toList ss) (hb:items.size+1<scanBound)
  (h:∀ s₂,SetMade P w s ss s₂→Q (.ref s.heap.objs.size) s₂):wpAny (model P w) A (call (.type "set") [.ref l]) Q E s:=by
 obtain ⟨c,tl,hmro⟩:=F.called_set.mro
 have hmade:=F.called_set.made
 have hsub:=F.called_set.sub
 refine wpAny_call (codeAny_of_tree (show wpAny _ _ (callAny (.type "set") _) _ _ _ from wpAny_pure ⟨Code.quiet_builtin _ (by decide +kernel),codeAny_builtin F.entry_type_call ?_⟩))
 rw [Around.under_plain (weight_type_call_type "set" [.ref l] []) rfl]
 have h1:=F.called_set.notType
 have h2:=F.called_set.canCreate
 have hct:=F.typeCall_set_1 (.ref l)
 repeat (any_goals (first | assumption | wp_step))
 refine codeAny_mono (set_new (a:=.ref l) (E:=E) (Q₁:=fun obj s₁=>obj=.ref s.heap.objs.size∧s₁={ s with heap:=s.heap.push (eSet w) }) ⟨rfl,rfl⟩) fun r s₁ hr=>?_
 cases r with
 | error e=>exact hr
 | ok fl =>
  cases fl with
  | ret obj =>
   obtain ⟨rfl,rfl⟩:=hr
   have hT:Shared.TypeIs { s with heap:=s.heap.push (eSet w) } (.ref s.heap.objs.size) "set":=⟨_,Heap.get?_push_size _ rfl,rfl⟩
   have hli:=F.called_set.init.lookup
   have hbi:=F.called_set.init.bind (.ref s.heap.objs.size)
   repeat (any_goals (first | assumption | wp_step))
   refine codeAny_mono (codeAny_call_builtin (R:=wants (fun r s₂=>r=.none∧SetMade P w s ss s₂) E) F.called_set.init.plain F.entry_set_init (check_set_init_1 hT (v2l (by simp [hh]) hl hi hb))) fun r₂ s₂ hr₂=>?_
   cases r₂ with
   | error e=>exact hr₂
   | ok fl₂ =>
    cases fl₂ with
    | ret r =>
     obtain ⟨rfl,m⟩:=hr₂
     repeat (any_goals (first | assumption | wp_step))
     exact h _ m
    | _=>exact hr₂.elim
  | _=>exact hr.elim
end
theorem u7p:entryFor table "set.__iter__"=some Builtin.«frozenset.__iter__»:=entryFor_alias (id':="frozenset.__iter__") (by kernel_rfl) rfl (by decide +kernel) (by kernel_rfl)
theorem u0z:Slot "set_iterator" "__next__" "set_iterator.__next__":=.of (owner:="set_iterator") (n:="__next__") (by rw [typeLookup_type,builtinLookup_eq_fast];kernel_rfl) (by decide +kernel) (by decide +kernel)
 (by decide +kernel) (by first | exact .inl (by decide +kernel) | exact .inr (by decide +kernel)) (by rw [isSubtype_type];kernel_rfl)
theorem u4b:Slot "set_iterator" "__iter__" "set_iterator.__iter__":=.of (owner:="set_iterator") (n:="__iter__") (by rw [typeLookup_type,builtinLookup_eq_fast];kernel_rfl) (by decide +kernel) (by decide +kernel)
 (by decide +kernel) (by first | exact .inl (by decide +kernel) | exact .inr (by decide +kernel)) (by rw [isSubtype_type];kernel_rfl)
theorem u2d:entryFor table "set_iterator.__next__"=some Builtin.«set_iterator.__next__»:=entryFor_of_tree (by kernel_rfl)
theorem u6p:entryFor table "set_iterator.__iter__"=some Builtin.«dict_keyiterator.__iter__»:=entryFor_alias (id':="dict_keyiterator.__iter__") (by kernel_rfl) rfl (by decide +kernel) (by kernel_rfl)
theorem u8F:Manifest.owners.lookup (String.ofList ['r','o','t','a','r','e','t','i','_','t','e','s'].reverse)=some Manifest.sig_set_iterator:=by kernel_rfl
theorem u2y (a:Value):argsOk "set_iterator.__next__" ⟨[a],[]⟩:=by
 unfold argsOk
 rw [signature?_of (id:="set_iterator.__next__") (n:=['_','_','t','x','e','n','_','_']) (o:=['r','o','t','a','r','e','t','i','_','t','e','s']) (by kernel_rfl) u8F]
 kernel_rfl
theorem u7J (a:Value):argsOk "set_iterator.__iter__" ⟨[a],[]⟩:=by
 unfold argsOk
 rw [signature?_of (id:="set_iterator.__iter__") (n:=['_','_','r','e','t','i','_','_']) (o:=['r','o','t','a','r','e','t','i','_','t','e','s']) (by kernel_rfl) u8F]
 kernel_rfl
noncomputable def SIt (h:Heap) (I:Addr) (first:Value) (i:Nat) (a:Addr) (n ep:Nat):Prop:=∃ o,h.get? I=some o∧o.cls=.type "set_iterator"∧o.data=.fields #[first,.int i 0,.ref a,.int n 0,.int ep 0]
noncomputable def SAt (h:Heap) (a:Addr) (es:Array (Int×Value)) (ep:Nat) (t:SetTable):Prop:=∃ o,h.get? a=some o∧o.data=.set es ep t∧t.fits es.size=true
theorem SIt.at {h h':Heap}{I:Addr}{first:Value}{i:Nat}{a:Addr}{n ep:Nat} (x:SIt h I first i a n ep) (k:∀ o,h.get? I=some o→h'.get? I=some o):SIt h' I first i a n ep:=let ⟨o,ho,r⟩:=x;⟨o,k _ ho,r⟩
theorem SAt.at {h h':Heap}{a:Addr}{es:Array (Int×Value)}{ep:Nat}{t:SetTable} (x:SAt h a es ep t) (k:∀ o,h.get? a=some o→h'.get? a=some o):SAt h' a es ep t:=let ⟨o,ho,r⟩:=x;⟨o,k _ ho,r⟩
section
variable {P:Program}{w:World}{A:Around}{E:Value→Shared→Prop}{s:Shared}{I a:Addr}{first:Value}{i ep:Nat}{es:Array (Int×Value)}{t:SetTable}
theorem SIt.ty (x:SIt s.heap I first i a n ep):s.TypeIs (.ref I) "set_iterator":=let ⟨o,ho,hc,_⟩:=x;⟨o,ho,hc⟩
theorem u7S {Q:Value→Shared→Prop} (x:SIt s.heap I first i a n ep) (h:Q (.ref I) s):wpAny (model P w) A (pyIter (.ref I)) Q E s:=by
 refine wpAny_pyIter_slot x.ty u4b (wpAny_call_entry u4b x.ty u6p ?_ (u7J _))
 exact (show wpAny _ _ (ret (.ref I)) _ _ s from wpAny_pure ⟨_,rfl,"set_iterator",_,x.ty,u0z.lookup,h⟩)
theorem u5B {k:Nat}{v:Value}{vs:Array Value}{Q:Unit→Shared→Prop}{o:Obj} (ho:s.heap.get? I=some o) (hc:o.cls=.type "set_iterator") (hd:o.data=.fields vs) (hk:k<vs.size)
  (h:∀ h' o',h'.get? I=some o'→o'.cls=.type "set_iterator"→o'.data=.fields (vs.setIfInBounds k v)→Heap.SameBut I s.heap h'→Q () { s with heap:=h' }):wpAny (model P w) A (setField (.ref I) k v) Q E s :=
 wpAny_setField ho hd hk (h _ _ (Heap.get?_update_self _ ho (Obj.isFreed_of_fields (Obj.data_mapFields hd _))) ((Obj.cls_mapFields ..).trans hc) (Obj.data_mapFields hd _) (Heap.SameBut.update ..))
noncomputable def Kept (I:Addr) (h h':Heap):Prop:=∀ b o,b≠I→h.get? b=some o→h'.get? b=some o
theorem v0E {slot nx:Nat}{x:Value}{Q:Option Value→Shared→Prop} (X:SIt s.heap I (.int slot 0) i a es.size ep) (S:SAt s.heap a es ep t)
  (hn:∀ (B:Around) (R:Option (Value×Nat)→Shared→Prop) (E':Value→Shared→Prop),R (some (x,nx)) s→wpAny (model P w) B (setNext a slot i ep) R E' s)
  (hQ:∀ h',SIt h' I (.int nx 0) (i+1) a es.size ep→Kept I s.heap h'→Q (some x) { s with heap:=h' }):wpAny (model P w) A (pyNext (.ref I)) Q E s:=by
 obtain ⟨o,ho,hc,hd⟩:=id X
 obtain ⟨os,hos,hds,hf⟩:=id S
 unfold pyNext
 refine wpAny_bind (wpAny_attempt (wpAny_callSpecial?_slot (name:=Str.ofString "__next__") X.ty u0z (wpAny_call_entry u0z X.ty u2d ?_ (u2y _))))
 unfold Builtin.«set_iterator.__next__»
 refine wpAny_bind (wpAny_pure ?_)
 refine wpAny_bind (wpAny_fieldsOf ho hd ?_)
 refine wpAny_bind (m:=setEntries a) (wpAny_setEntries_of hos hds hf ?_)
 rw [if_neg (by simp)]
 refine wpAny_bind (m:=setNext a slot i ep) (hn _ _ _ ?_)
 refine wpAny_bind (u5B ho hc hd (by simp) fun h1 o1 g1 c1 d1 b1=>?_)
 refine wpAny_bind (u5B (s:={ s with heap:=h1 }) g1 c1 d1 (by simp) fun h2 o2 g2 c2 d2 b2=>?_)
 exact wpAny_pure ⟨x,rfl,wpAny_pure (hQ h2 ⟨o2,g2,c2,by rw [d2];simp [rawInt]⟩ fun b ob nb e=>(b2.extBut b ob nb (b1.extBut b ob nb e)))⟩
theorem v0F {slot:Nat}{Q:Option Value→Shared→Prop} (hh:A.handled=none) (X:SIt s.heap I (.int slot 0) i a es.size ep) (S:SAt s.heap a es ep t)
  (hn:∀ (B:Around) (R:Option (Value×Nat)→Shared→Prop) (E':Value→Shared→Prop),R none s→wpAny (model P w) B (setNext a slot i ep) R E' s)
  (hQ:∀ h',Kept I s.heap h'→Q none { s with heap:=h' }):wpAny (model P w) A (pyNext (.ref I)) Q E s:=by
 obtain ⟨o,ho,hc,hd⟩:=id X
 obtain ⟨os,hos,hds,hf⟩:=id S
 unfold pyNext
 refine wpAny_bind (wpAny_attempt (wpAny_callSpecial?_slot (name:=Str.ofString "__next__") X.ty u0z (wpAny_call_entry u0z X.ty u2d ?_ (u2y _))))
 unfold Builtin.«set_iterator.__next__»
 refine wpAny_bind (wpAny_pure ?_)
 refine wpAny_bind (wpAny_fieldsOf ho hd ?_)
 refine wpAny_bind (m:=setEntries a) (wpAny_setEntries_of hos hds hf ?_)
 rw [if_neg (by simp)]
 refine wpAny_bind (m:=setNext a slot i ep) (hn _ _ _ ?_)
 refine wpAny_bind (u5B ho hc hd (by simp) fun h1 o1 g1 c1 d1 b1=>?_)
 refine wpAny_bind (m:=newExc (.type "StopIteration") []) ?_
 simp only [newExc,newTuple]
 refine wpAny_bind (wpAny_newObj_type (Q:=_) ?_ (by size_fits));refine wpAny_bind (m:=firstArgMember _ _) (wpAny_of_eq (a:=Value.none) (by first | rfl | (simp only [firstArgMember];rfl)) (wpAny_newObj_type ?_ (by size_fits)))
 simp only [raiseNew]
 refine wpAny_bind (wpAny_handled ?_)
 rw [show A.in1.handled=none from hh]
 refine wpAny_bind (wpAny_pure (wpAny_throw ?_));refine wpAny_bind (wpAny_isInstance (T:="StopIteration") (b:=true) ⟨_,Heap.get?_push_size _ rfl,rfl⟩ isSubtype_stop ?_)
 exact wpAny_pure (hQ _ fun b ob nb e=>Heap.get?_push_of_some _ (Heap.get?_push_of_some _ (b1.extBut b ob nb e)))
theorem v2i {tp:Addr}{pl:Array Value}{place m:Nat}{tk:Tok}{e:Int×Value}{ot:Obj}{Q:Option Value→Shared→Prop} (X:SIt s.heap I (.ref tp) i a es.size ep) (S:SAt s.heap a es ep t) (hot:s.heap.get? tp=some ot) (hpt:ot.data=.seq pl m)
  (hp:pl[i]?=some (.int place tk)) (he:es[place]?=some e) (hQ:∀ h',SIt h' I (.ref tp) (i+1) a es.size ep→Kept I s.heap h'→Q (some e.2) { s with heap:=h' }):wpAny (model P w) A (pyNext (.ref I)) Q E s:=by
 obtain ⟨o,ho,hc,hd⟩:=id X
 obtain ⟨os,hos,hds,hf⟩:=id S
 unfold pyNext
 refine wpAny_bind (wpAny_attempt (wpAny_callSpecial?_slot (name:=Str.ofString "__next__") X.ty u0z (wpAny_call_entry u0z X.ty u2d ?_ (u2y _))))
 unfold Builtin.«set_iterator.__next__»
 refine wpAny_bind (wpAny_pure ?_)
 refine wpAny_bind (wpAny_fieldsOf ho hd ?_)
 refine wpAny_bind (m:=setEntries a) (wpAny_setEntries_of hos hds hf ?_)
 rw [if_neg (by simp)]
 refine wpAny_bind (m:=seqItems? (.ref tp)) (wpAny_seqItems hot hpt ?_)
 simp only [Int.toNat_natCast,hp]
 refine wpAny_bind ?_
 unfold setNextDrawn
 refine wpAny_bind (wpAny_setState_of hos hds hf ?_)
 simp only [bne_self_eq_false,Bool.false_eq_true,if_false,he]
 refine wpAny_pure (wpAny_bind (u5B ho hc hd (by simp) fun h1 o1 g1 c1 d1 b1=>?_))
 exact wpAny_pure ⟨e.2,rfl,wpAny_pure (hQ h1 ⟨o1,g1,c1,by rw [d1];simp [rawInt]⟩ fun b ob nb e=>b1.extBut b ob nb e)⟩
theorem v2j {tp:Addr}{pl:Array Value}{m:Nat}{ot:Obj}{Q:Option Value→Shared→Prop} (hh:A.handled=none) (X:SIt s.heap I (.ref tp) i a es.size ep) (S:SAt s.heap a es ep t) (hot:s.heap.get? tp=some ot) (hpt:ot.data=.seq pl m)
  (hp:pl[i]?=none) (hQ:∀ h',Kept I s.heap h'→Q none { s with heap:=h' }):wpAny (model P w) A (pyNext (.ref I)) Q E s:=by
 obtain ⟨o,ho,hc,hd⟩:=id X
 obtain ⟨os,hos,hds,hf⟩:=id S
 unfold pyNext
 refine wpAny_bind (wpAny_attempt (wpAny_callSpecial?_slot (name:=Str.ofString "__next__") X.ty u0z (wpAny_call_entry u0z X.ty u2d ?_ (u2y _))))
 unfold Builtin.«set_iterator.__next__»
 refine wpAny_bind (wpAny_pure ?_)
 refine wpAny_bind (wpAny_fieldsOf ho hd ?_)
 refine wpAny_bind (m:=setEntries a) (wpAny_setEntries_of hos hds hf ?_)
 rw [if_neg (by simp)]
 refine wpAny_bind (m:=seqItems? (.ref tp)) (wpAny_seqItems hot hpt ?_)
 simp only [Int.toNat_natCast,hp]
 refine wpAny_bind (u5B ho hc hd (by simp) fun h1 o1 g1 c1 d1 b1=>?_)
 refine wpAny_bind (u5B (s:={ s with heap:=h1 }) g1 c1 d1 (by simp) fun h2 o2 g2 c2 d2 b2=>?_)
 refine wpAny_bind (m:=newExc (.type "StopIteration") []) ?_
 simp only [newExc,newTuple]
 refine wpAny_bind (wpAny_newObj_type (Q:=_) ?_ (by size_fits));refine wpAny_bind (m:=firstArgMember _ _) (wpAny_of_eq (a:=Value.none) (by first | rfl | (simp only [firstArgMember];rfl)) (wpAny_newObj_type ?_ (by size_fits)))
 simp only [raiseNew]
 refine wpAny_bind (wpAny_handled ?_)
 rw [show A.in1.handled=none from hh]
 refine wpAny_bind (wpAny_pure (wpAny_throw ?_));refine wpAny_bind (wpAny_isInstance (T:="StopIteration") (b:=true) ⟨_,Heap.get?_push_size _ rfl,rfl⟩ isSubtype_stop ?_)
 exact wpAny_pure (hQ _ fun b ob nb e=>Heap.get?_push_of_some _ (Heap.get?_push_of_some _ (b2.extBut b ob nb (b1.extBut b ob nb e))))
end
theorem u5U {α:Type}:∀ (l:List α) (i:Nat) (h:i<l.length),(l[i]::l.eraseIdx i).Perm l
 | x::l,0,_=>List.Perm.refl _
 | x::l,i+1,h=>(List.Perm.swap x _ _).trans ((u5U l i (by simpa using h)).cons x)
theorem u6S {α:Type} (f:Nat→Nat):∀ (n k:Nat) (l:List α) (out:Array α),l.length=n→(pickOrder.go f n k l out).toList.Perm (out.toList++l)
 | 0,k,l,out,h=>by
  have:l=[]:=List.eq_nil_of_length_eq_zero h
  subst this
  simp [pickOrder.go]
 | n+1,k,l,out,h=>by
  have lt:f k%l.length<l.length:=Nat.mod_lt _ (by omega)
  unfold pickOrder.go
  rw [List.getElem?_eq_getElem lt]
  refine (u6S f n (k+1) _ _ (by rw [List.length_eraseIdx,if_pos lt];omega)).trans ?_
  rw [Array.toList_push,List.append_assoc]
  exact List.Perm.append_left _ (u5U l _ lt)
theorem u5w {α:Type} (f:Nat→Nat) (xs:Array α):(pickOrder f xs).toList.Perm xs.toList:=by
 have:=u6S f xs.size 0 xs.toList #[] (by simp)
 simpa [pickOrder] using this
section
variable {P:Program}{w:World}{A:Around}{E:Value→Shared→Prop}{s:Shared}
theorem v0s {src:Source}{n:Nat}{Q:Nat→Shared→Prop} (hn:n≠0) (h:∀ i d,i<n→Q i { s with drawn:=d }):wpAny (model P w) A (choose src n) Q E s :=
 fun _ _ _=>⟨hn,h _ _ (Nat.mod_lt _ (Nat.pos_of_ne_zero hn))⟩
theorem u4k {α:Type}:∀ (n:Nat) (xs:List α) (s:Shared) (Q:List α→Shared→Prop),xs.length=n→(∀ ys d,ys.Perm xs→Q ys { s with drawn:=d })→wpAny (model P w) A (drawOrder n xs) Q E s
 | 0,xs,s,Q,e,h=>by
  have:xs=[]:=List.eq_nil_of_length_eq_zero e
  subst this
  exact wpAny_pure (h [] s.drawn (List.Perm.refl _))
 | n+1,[],s,Q,e,h=>by cases e
 | n+1,x::xs,s,Q,e,h=>by
  show wpAny _ _ (choose .order (x::xs).length >>= _) _ _ s
  refine wpAny_bind (v0s (by simp) fun i d hi=>?_)
  rw [List.getElem?_eq_getElem hi]
  refine wpAny_bind (u4k n _ _ _ (by rw [List.length_eraseIdx,if_pos hi];omega) fun ys d' p=>?_)
  exact wpAny_pure (h _ d' ((p.cons _).trans (u5U _ _ hi)))
variable {a I:Addr}{ep:Nat}{es:Array (Int×Value)}{t:SetTable}
theorem v0u (hh:A.handled=none) (ne:a≠I) (ht:w.params.followText "set-order"=true):Walks P w A I [I,a] [I] (pickOrder (w.params.setOrder a ep) es).toList.length
  (fun i v=>(((pickOrder (w.params.setOrder a ep) es).toList.map (·.2)))[i]?=some v) (fun i h=>SIt h I (.int 0 0) i a es.size ep∧SAt h a es ep t) where
 sub:=fun b hb=>by simp at hb;simp [hb]
 frame:=fun i h h' st k=>⟨st.1.at fun o=>k I (by simp) o,st.2.at fun o=>k a (by simp) o⟩
 item:=fun i s Q E hi st hQ=>by
  obtain ⟨os,hos,hds,hf⟩:=id st.2
  refine v0E (slot:=0) (nx:=0) (x:=(pickOrder (w.params.setOrder a ep) es).toList[i].2) st.1 st.2 (fun B R E' r=>?_) fun h' X' k=>?_
  ·unfold setNext
   refine wpAny_bind (wpAny_setState_of hos hds hf ?_)
   unfold setsByText
   refine wpAny_bind (wpAny_bind (wpAny_askSetting (wpAny_pure ?_)))
   dsimp only
   simp only [show ((model P w).w.params.followText "set-order")=true from ht,if_true,bne_self_eq_false,Bool.false_eq_true,if_false]
   refine wpAny_bind ?_
   unfold setWalk setsByText
   refine wpAny_bind (wpAny_setState_of hos hds hf ?_)
   refine wpAny_bind (wpAny_bind (wpAny_askSetting (wpAny_pure ?_)))
   simp only [show ((model P w).w.params.followText "set-order")=true from ht,if_true]
   refine wpAny_bind (wpAny_askSetting (wpAny_pure (wpAny_pure ?_)))
   have q:(pickOrder ((model P w).w.params.setOrder a ep) es)[i]?=some ((pickOrder (w.params.setOrder a ep) es).toList[i]):=by
    rw [← Array.getElem?_toList]
    exact List.getElem?_eq_getElem hi
   rw [q]
   exact r
  ·exact hQ _ h' s.toks (by rw [List.getElem?_map,List.getElem?_eq_getElem hi];rfl) ⟨X',st.2.at fun o e=>k a o ne e⟩ fun b o hb e=>k b o (fun q=>hb (by simp [q])) e
 done:=fun s Q E st hQ=>by
  obtain ⟨os,hos,hds,hf⟩:=id st.2
  refine v0F (slot:=0) hh st.1 st.2 (fun B R E' r=>?_) fun h' k=>hQ h' s.toks fun b o hb e=>k b o (fun q=>hb (by simp [q])) e
  unfold setNext
  refine wpAny_bind (wpAny_setState_of hos hds hf ?_)
  unfold setsByText
  refine wpAny_bind (wpAny_bind (wpAny_askSetting (wpAny_pure ?_)))
  dsimp only
  simp only [show ((model P w).w.params.followText "set-order")=true from ht,if_true,bne_self_eq_false,Bool.false_eq_true,if_false]
  refine wpAny_bind ?_
  unfold setWalk setsByText
  refine wpAny_bind (wpAny_setState_of hos hds hf ?_)
  refine wpAny_bind (wpAny_bind (wpAny_askSetting (wpAny_pure ?_)))
  simp only [show ((model P w).w.params.followText "set-order")=true from ht,if_true]
  refine wpAny_bind (wpAny_askSetting (wpAny_pure (wpAny_pure ?_)))
  have q:(pickOrder ((model P w).w.params.setOrder a ep) es)[(pickOrder (w.params.setOrder a ep) es).toList.length]?=none:=by
   rw [Array.getElem?_eq_none (by rw [Array.length_toList];exact Nat.le_refl _)]
  rw [q]
  exact r
 self:=fun _ _ _ _ st h=>u7S st.1 h
theorem u6j {α:Type}{xs:Array α} (h:xs.size=1):∃ x,xs=#[x]:=by
 obtain ⟨l⟩:=xs
 match l,h with
 | [x],_=>exact ⟨x,rfl⟩
theorem u7I (p j:Nat):SetTable.below #[p] j=if p<j then 1 else 0:=by
 unfold SetTable.below
 simp [SetTable.below.go]
theorem u8J (hds:SAt s.heap a es ep t) (h1:es.size≤1) (ht:w.params.followText "set-order"=false) (hl:t.led=true) {slot i:Nat}{R:Option (Value×Nat)→Shared→Prop}
  (r:R (match es[SetTable.below t.place slot]?,t.place[SetTable.below t.place slot]? with | some (_,x),some j=>some (x,j+1) | _,_=>none) s):wpAny (model P w) A (setNext a slot i ep) R E s:=by
 obtain ⟨os,hos,hd,hf⟩:=hds
 unfold setNext
 refine wpAny_bind (wpAny_setState_of hos hd hf ?_)
 unfold setsByText
 refine wpAny_bind (wpAny_bind (wpAny_askSetting (wpAny_pure ?_)))
 dsimp only
 simp only [show ((model P w).w.params.followText "set-order")=false from ht,Bool.false_eq_true,if_false]
 have z:(!t.plain&&decide (es.size > 1))=false:=by rw [decide_eq_false (by omega),Bool.and_false]
 show wpAny _ _ (if (!t.plain&&decide (es.size > 1))=true then _ else _) _ _ s
 rw [z]
 simp only [Bool.false_eq_true,if_false]
 have z2:(!t.led&&!es.isEmpty)=false:=by rw [hl];rfl
 show wpAny _ _ ((if (!t.led&&!es.isEmpty)=true then _ else _) >>= _) _ _ s
 rw [z2]
 exact wpAny_bind (wpAny_pure (wpAny_pure r))
theorem v2f (hh:A.handled=none) (ne:a≠I) (ht:w.params.followText "set-order"=false) (h1:es.size≤1) (hl:t.led=true) (hf:t.fits es.size=true):Walks P w A I [I,a] [I] es.toList.length (fun i v=>(es.toList.map (·.2))[i]?=some v)
  (fun i h=>SIt h I (.int ((if i=0 then 0 else t.place.getD 0 0+1:Nat):Nat) 0) i a es.size ep∧SAt h a es ep t) where
 sub:=fun b hb=>by simp at hb;simp [hb]
 frame:=fun i h h' st k=>⟨st.1.at fun o=>k I (by simp) o,st.2.at fun o=>k a (by simp) o⟩
 item:=fun i s Q E hi st hQ=>by
  have hz:es.size=1:=by have:es.toList.length=es.size:=Array.length_toList;omega
  have i0:i=0:=by have:es.toList.length=es.size:=Array.length_toList;omega
  subst i0
  obtain ⟨p,hp⟩:∃ p,t.place=#[p]:=by
   have:t.place.size=1:=by have:=(Bool.and_eq_true_iff.mp hf).1;rw [hz] at this;simpa using this
   exact u6j this
  obtain ⟨e,he⟩:∃ e,es=#[e]:=u6j hz
  subst he
  refine v0E (slot:=0) (nx:=p+1) (x:=e.2) st.1 st.2 (fun B R E' r=>u8J st.2 h1 ht hl ?_) fun h' X' k=>?_
  ·rw [hp,u7I];simpa using r
  ·refine hQ _ h' s.toks (by simp) ⟨?_,st.2.at fun o e=>k a o ne e⟩ fun b o hb e=>k b o (fun q=>hb (by simp [q])) e
   rw [hp]
   simpa using X'
 done:=fun s Q E st hQ=>by
  refine v0F hh st.1 st.2 (fun B R E' r=>u8J st.2 h1 ht hl ?_) fun h' k=>hQ h' s.toks fun b o hb e=>k b o (fun q=>hb (by simp [q])) e
  by_cases hz:es.size=0
  ·have:es=#[]:=Array.eq_empty_of_size_eq_zero hz
   subst this
   simpa using r
  ·have hz:es.size=1:=by omega
   obtain ⟨p,hp⟩:∃ p,t.place=#[p]:=by
    have:t.place.size=1:=by have:=(Bool.and_eq_true_iff.mp hf).1;rw [hz] at this;simpa using this
    exact u6j this
   obtain ⟨e,he⟩:∃ e,es=#[e]:=u6j hz
   subst he
   rw [hp]
   simpa [u7I] using r
 self:=fun _ _ _ _ st h=>u7S st.1 h
theorem u9r {tp:Addr}{ys:List Nat} (hh:A.handled=none) (ne:a≠I) (nt:tp≠I) (hy:∀ j∈ys,j<es.size):Walks P w A I [I,a,tp] [I] ys.length (fun i v=>(ys.map fun j=>(es.getD j default).2)[i]?=some v)
  (fun i h=>SIt h I (.ref tp) i a es.size ep∧SAt h a es ep t∧∃ o m,h.get? tp=some o∧o.data=.seq (ys.map fun (j:Nat)=>rawInt j).toArray m) where
 sub:=fun b hb=>by simp at hb;simp [hb]
 frame:=fun i h h' st k=>⟨st.1.at fun o=>k I (by simp) o,st.2.1.at fun o=>k a (by simp) o,let ⟨o,m,x,y⟩:=st.2.2;⟨o,m,k tp (by simp) o x,y⟩⟩
 item:=fun i s Q E hi st hQ=>by
  obtain ⟨o,m,ho,hd⟩:=st.2.2
  have lt:=hy ys[i] (List.getElem_mem hi)
  refine v2i (place:=ys[i]) (tk:=0) (e:=es[ys[i]]) st.1 st.2.1 ho hd (by simp [hi,rawInt]) (Array.getElem?_eq_getElem lt) fun h' X' k=>?_
  refine hQ _ h' s.toks ?_ ⟨X',st.2.1.at fun o e=>k a o ne e,o,m,k tp o nt ho,hd⟩ fun b o hb e=>k b o (fun q=>hb (by simp [q])) e
  rw [List.getElem?_map,List.getElem?_eq_getElem hi]
  simp [Array.getD,lt]
 done:=fun s Q E st hQ=>by
  obtain ⟨o,m,ho,hd⟩:=st.2.2
  exact v2j hh st.1 st.2.1 ho hd (by simp) fun h' k=>hQ h' s.toks fun b o hb e=>k b o (fun q=>hb (by simp [q])) e
 self:=fun _ _ _ _ st h=>u7S st.1 h
end
noncomputable def Fwd (s s':Shared):Prop:=(∀ b o,s.heap.get? b=some o→s'.heap.get? b=some o)∧s'.os=s.os∧s'.gens=s.gens
section
variable {P:Program}{w:World}{A:Around}{E:Value→Shared→Prop}{s:Shared}
theorem u7P {es l:List (Int×Value)}{ss:List Str} (el:ElemsOf (PySem.strKind P w) es) (p:(es.map fun e=>strOf e.2).Perm ss) (q:l.Perm es):∃ ss',StrsAre (l.map (·.2)) ss'∧ss'.Perm ss :=
 ⟨_,strsAre_map _ fun v hv=>by
  obtain ⟨e,he,rfl⟩:=List.mem_map.mp hv
  exact u9c el (q.mem_iff.mp he),by
  rw [List.map_map]
  exact (q.map _).trans p⟩
theorem u9N {es:Array (Int×Value)}{ys:List Nat} (p:ys.Perm (List.range es.size)):(ys.map fun j=>es.getD j default).Perm es.toList:=by
 refine (p.map _).trans (List.Perm.of_eq ?_)
 apply List.ext_getElem
 ·simp
 ·intro i h1 h2
  simp at h1
  simp [Array.getD,h1]
theorem v2k {a:Addr}{ss:List Str}{Q:Value→Shared→Prop} (S:SetT P w s.heap a ss) (hh:A.handled=none)
  (h:∀ s₁ I fp vs St,Fwd s s₁→(∀ b∈fp,b=a∨s.heap.objs.size≤b)→s.heap.objs.size≤I→Walks P w A I fp [I] vs.length (fun i v=>vs[i]?=some v) St→St 0 s₁.heap→(∃ ss',StrsAre vs ss'∧ss'.Perm ss)→Q (.ref I) s₁) :
  wpAny (model P w) A (pyIter (.ref a)) Q E s:=by
 obtain ⟨o,es,ep,t,ho,hex,hd,el,p,nd,hb,hf,hl,hp⟩:=id S
 have hT:s.TypeIs (.ref a) "set":=⟨o,ho,hex.1⟩
 have la:a<s.heap.objs.size:=Heap.lt_size ho
 refine wpAny_pyIter_slot hT F.slot_set_iter (wpAny_call_entry F.slot_set_iter hT u7p ?_ (F.args_set_iter_1 _))
 unfold Builtin.«frozenset.__iter__»
 refine wpAny_bind (m:=Builtin.Frozenset.slot0 "__iter__" _) (wpAny_pure ?_)
 refine wpAny_bind ?_
 unfold Builtin.Frozenset.sizeOf
 refine wpAny_bind (wpAny_setEntries_of ho hd hf (wpAny_pure ?_))
 refine wpAny_bind ?_
 unfold setDrawn setsByText
 refine wpAny_bind (wpAny_setState_of ho hd hf (wpAny_bind (wpAny_bind (wpAny_askSetting (wpAny_pure (wpAny_pure ?_))))))
 dsimp only
 by_cases ht:w.params.followText "set-order"=true
 ·simp only [show ((model P w).w.params.followText "set-order")=true from ht,Bool.not_true,Bool.false_and,Bool.false_eq_true,if_false]
  refine wpAny_bind (wpAny_pure (wpAny_bind ?_))
  unfold setEpoch
  refine wpAny_bind (wpAny_setState_of ho hd hf (wpAny_pure (wpAny_bind (wpAny_newObj_type (wpAny_pure ⟨_,rfl,"set_iterator",_,⟨_,Heap.get?_push_size _ rfl,rfl⟩,u0z.lookup,?_⟩)))))
  refine h _ s.heap.objs.size _ _ _ ⟨fun b o e=>Heap.get?_push_of_some _ e,rfl,rfl⟩ ?_ (Nat.le_refl _) ((List.length_map (f:=fun e:Int×Value=>e.2) (as:=(pickOrder (w.params.setOrder a ep) es).toList)).symm ▸ v0u (t:=t) hh (Nat.ne_of_lt la) ht)
   ⟨⟨_,Heap.get?_push_size _ rfl,rfl,rfl⟩,⟨o,Heap.get?_push_of_some _ ho,hd,hf⟩⟩ (u7P el p (u5w _ _))
  intro b hb
  simp at hb
  rcases hb with rfl | rfl
  ·exact .inr (Nat.le_refl _)
  ·exact .inl rfl
 ·have ht:w.params.followText "set-order"=false:=by simpa using ht
  have hl:t.led=true:=by rw [hl,ht];rfl
  by_cases h1:es.size≤1
  ·have z:(!false&&(!t.plain&&decide (es.size > 1)))=false:=by rw [decide_eq_false (by omega),Bool.and_false];rfl
   simp only [show ((model P w).w.params.followText "set-order")=false from ht]
   show wpAny _ _ (if (!false&&(!t.plain&&decide (es.size > 1)))=true then _ else _) _ _ _
   rw [z]
   simp only [Bool.false_eq_true,if_false]
   refine wpAny_bind (wpAny_pure (wpAny_bind ?_))
   unfold setEpoch
   refine wpAny_bind (wpAny_setState_of ho hd hf (wpAny_pure (wpAny_bind (wpAny_newObj_type (wpAny_pure ⟨_,rfl,"set_iterator",_,⟨_,Heap.get?_push_size _ rfl,rfl⟩,u0z.lookup,?_⟩)))))
   refine h _ s.heap.objs.size _ _ _ ⟨fun b o e=>Heap.get?_push_of_some _ e,rfl,rfl⟩ ?_ (Nat.le_refl _) ((List.length_map (f:=fun e:Int×Value=>e.2) (as:=es.toList)).symm ▸ v2f (t:=t) (ep:=ep) hh (Nat.ne_of_lt la) ht h1 hl hf)
    ⟨⟨_,Heap.get?_push_size _ rfl,rfl,rfl⟩,⟨o,Heap.get?_push_of_some _ ho,hd,hf⟩⟩ (u7P el p (List.Perm.refl _))
   intro b hb
   simp at hb
   rcases hb with rfl | rfl
   ·exact .inr (Nat.le_refl _)
   ·exact .inl rfl
  ·have z:(!false&&(!t.plain&&decide (es.size > 1)))=true:=by rw [hp (by omega),decide_eq_true (by omega)];rfl
   simp only [show ((model P w).w.params.followText "set-order")=false from ht]
   show wpAny _ _ (if (!false&&(!t.plain&&decide (es.size > 1)))=true then _ else _) _ _ _
   rw [z]
   simp only [if_true]
   refine wpAny_bind (u4k _ _ _ _ (by simp) fun ys d py=>?_)
   have hy:ys.length=es.size:=by rw [py.length_eq];simp
   have hs:es.size≤sizeLine:=fits_of_scanBound hb
   unfold newTuple
   refine wpAny_bind (wpAny_newObj_type (wpAny_bind ?_) (show (ys.map fun (j:Nat)=>rawInt j).toArray.size≤sizeLine by simpa [hy] using hs))
   unfold setEpoch
   refine wpAny_bind (wpAny_setState_of (o:=o) (Heap.get?_push_of_some _ ho) hd hf (wpAny_pure (wpAny_bind (wpAny_newObj_type (wpAny_pure ⟨_,rfl,"set_iterator",_,⟨_,Heap.get?_push_size _ rfl,rfl⟩,u0z.lookup,?_⟩)))))
   have zz:(s.heap.push { cls:=.type "tuple",data:=.seq (ys.map fun (j:Nat)=>rawInt j).toArray }).objs.size=s.heap.objs.size+1:=Heap.size_push ..
   have em:(ys.map fun j=>(es.getD j default).2)=(ys.map fun j=>es.getD j default).map (·.2):=by rw [List.map_map];rfl
   refine h _ _ _ (ys.map fun j=>(es.getD j default).2) _ ⟨fun b o e=>Heap.get?_push_of_some _ (Heap.get?_push_of_some _ e),rfl,rfl⟩ ?_ (by rw [zz];exact Nat.le_succ _)
    ((List.length_map (f:=fun j=>(es.getD j default).2) (as:=ys)).symm ▸ u9r (t:=t) (ep:=ep) (tp:=s.heap.objs.size) hh (by rw [zz];exact Nat.ne_of_lt (Nat.lt_succ_of_lt la)) (by rw [zz];exact Nat.ne_of_lt (Nat.lt_succ_self _)) fun j hj=>by simpa using py.mem_iff.mp hj)
    ⟨⟨_,Heap.get?_push_size _ rfl,rfl,rfl⟩,⟨o,Heap.get?_push_of_some _ (Heap.get?_push_of_some _ ho),hd,hf⟩,_,_,Heap.get?_push_of_some _ (Heap.get?_push_size _ rfl),rfl⟩ (em ▸ u7P el p (u9N py))
   intro b hb
   simp [zz] at hb
   rcases hb with rfl | rfl | rfl
   ·exact .inr (Nat.le_succ _)
   ·exact .inl rfl
   ·exact .inr (Nat.le_refl _)
end
end L2
namespace L2
open PySem PySem.Spec PyProof.Rows PySem.W PySem.Calls
section
variable {P:Program}{w:World}{A:Around}{E:Value→Shared→Prop}{s:Shared}
theorem v2m {r:Addr}{Q:Bool→Shared→Prop} (hT:s.TypeIs (.ref r) "set") (h:Q false s):wpAny (model P w) A (Builtin.List.listLengthHint (.ref r)) Q E s:=by
 unfold Builtin.List.listLengthHint
 refine wpAny_bind (wpAny_specialOf hT PySem.F.slot_set_len.lookup ?_)
 generalize hid:("set.__len__":String)=id0
 wp_delta
 rw [show splitId id0=some ("set","__len__") from by subst hid;decide +kernel]
 subst hid
 refine wpAny_bind (wpAny_isInstance (T:="set") (b:=true) hT (by rw [isSubtype_type];kernel_rfl) ?_)
 refine wpAny_ite_split (fun q=>absurd q (by decide)) (fun _=>wpAny_ite_split (fun _=>?_) (fun q=>absurd (by decide +kernel) q))
 exact wpAny_bind (wpAny_typeOf hT (wpAny_pure h))
theorem u9A {a S:Addr}{ss:List Str}{res:Value}{c₀:Nat}{R:Result→Shared→Prop} (T:SetT P w s.heap a ss) (hh:A.handled=none) (ne:S≠a) (hS:s.heap.get? S=some { cls:=.type "list",data:=.seq #[] c₀ }) (hz:ss.length≤sizeLine)
  (hR:∀ s' acc c',(∀ b o,b≠S→s.heap.get? b=some o→s'.heap.get? b=some o)→s'.os=s.os→s'.gens=s.gens→s'.heap.get? S=some { cls:=.type "list",dict:=none,data:=.seq acc c',slots:=#[] }→(∃ ss',StrsAre acc.toList ss'∧ss'.Perm ss)→R (.ok (.ret res)) s') :
  wpAny (model P w) A.in1 (Builtin.List.listExtendWith (.ref S) (.ref a) res)
   (fun fin s'=>match fin with | .done f=>R (.ok f) s' | .again c'=>c'.quiet=true∧codeAny (model P w) A c' R s') (fun e s'=>R (.error e) s') s:=by
 obtain ⟨o,es,ep,t,ho,hex,_⟩:=id T
 have hT:s.TypeIs (.ref a) "set":=⟨o,ho,hex.1⟩
 unfold Builtin.List.listExtendWith
 refine wpAny_bind (wpAny_typeOf (T:="set") hT ?_)
 have k1:Builtin.List.listSameRef (.ref S) (.ref a)=false:=by simp [Builtin.List.listSameRef,ne]
 simp only [k1,show (Value.type "set"==Value.type "list")=false by decide,show (Value.type "set"==Value.type "tuple")=false by decide,Bool.or_false,Bool.false_eq_true,if_false]
 refine wpAny_bind (v2k T hh fun s₁ I fp vs St fw hfp hI W st sv=>?_)
 have hS₁:=fw.1 _ _ hS
 have lS:S<s.heap.objs.size:=Heap.lt_size hS
 have nf:S∉fp:=fun m=>by
  rcases hfp S m with e | e
  ·exact ne e
  ·exact Nat.lt_irrefl _ (Nat.lt_of_lt_of_le lS e)
 obtain ⟨ss',hv,hp⟩:=sv
 have hn:vs.length≤sizeLine:=by
  have e1:(vs.map strOf).length=ss'.length:=by rw [hv.strs]
  have e2:=hp.length_eq
  simp at e1
  omega
 have key:∀ (h:Heap) (c₁:Nat),St 0 h→(∀ b o,b≠S→s.heap.get? b=some o→h.get? b=some o)→h.get? S=some { cls:=.type "list",data:=.seq #[] c₁ } →
   codeAny (model P w) A (.builtin "list.extend.loop" ⟨[.ref S,.ref I,res],[]⟩) R { s₁ with heap:=h }:=fun h c₁ st hk hS=>by
  refine codeAny_extend_loopS W.toS hn S nf res vs.length 0 _ #[] c₁ rfl (Nat.zero_le _) st hS (ItemsOf.nil _) fun s' acc c' hm hS' hacc=>?_
  refine hR s' acc c' (fun b o hb e=>hm.heap b o (fun m=>?_) (hk b o hb e)) (hm.os.trans fw.2.1) (hm.gens.trans fw.2.2) hS' ⟨ss',?_,hp⟩
  ·rcases List.mem_cons.mp m with e' | m
   ·exact hb e'
   ·rw [List.mem_singleton] at m
    subst m
    exact Nat.lt_irrefl _ (Nat.lt_of_lt_of_le (Heap.lt_size e) hI)
  ·have:acc.toList=vs:=List.ext_getElem? fun j=>by
    by_cases lt:j<acc.toList.length
    ·rw [List.getElem?_eq_getElem lt]
     have:=hacc.2 j acc.toList[j] (by rw [← Array.getElem?_toList];exact List.getElem?_eq_getElem lt)
     exact this.symm
    ·rw [List.getElem?_eq_none (by omega),List.getElem?_eq_none (by have:=hacc.1;simp at lt;omega)]
   rw [this]
   exact hv
 refine wpAny_bind (wpAny_holding (v2m ⟨o,fw.1 _ _ ho,hex.1⟩ ?_))
 refine wpAny_ite_split (fun _=>?_) (fun _=>wpAny_pure ⟨plainId_quiet PySem.F.plain_extend_loop _,key _ c₀ st (fun b o _ e=>fw.1 b o e) hS₁⟩)
 refine wpAny_bind (wpAny_rule (wpAny_bind (m:=updateSeq S (·.push .none) >>= fun _=>updateSeq S (·.pop)) ?_))
 refine wpAny_bind (wpAny_updateSeq hS₁ rfl ?_)
 have hS₂:=Heap.get?_update_self (Obj.mapSeq (·.push Value.none)) hS₁ rfl
 refine wpAny_updateSeq (hz:=by seq_fits) hS₂ rfl ?_
 have hS₃:=Heap.get?_update_self (Obj.mapSeq (·.pop)) hS₂ rfl
 have oth:∀ b o,b≠S→s₁.heap.get? b=some o→((s₁.heap.update S (Obj.mapSeq (·.push Value.none))).update S (Obj.mapSeq (·.pop))).get? b=some o:=fun b o hb e=>(Heap.get?_update_other _ _ (Ne.symm hb)).trans ((Heap.get?_update_other _ _ (Ne.symm hb)).trans e)
 exact wpAny_pure ⟨plainId_quiet PySem.F.plain_extend_loop _,key _ _ (W.frame 0 _ _ st fun b hb o e=>oth b o (fun q=>nf (q ▸ hb)) e) (fun b o hb e=>oth b o hb (fw.1 b o e)) hS₃⟩
theorem u7U {a:Addr}{ss:List Str}{R:List Value→Shared→Prop} (T:SetT P w s.heap a ss) (hh:A.handled=none) (hz:ss.length≤sizeLine) (h:∀ s' vs ss',Fwd s s'→StrsAre vs ss'→ss'.Perm ss→R vs s'):wpAny (model P w) A (collect (.ref a)) R E s:=by
 obtain ⟨o,es,ep,t,ho,_⟩:=id T
 have la:a<s.heap.objs.size:=Heap.lt_size ho
 unfold collect
 refine wpAny_bind (wpAny_runValue (codeAny_builtin entry_proto_collect' ?_))
 rw [Around.under_plainId PySem.F.plain_proto_collect _]
 refine wpAny_bind (m:=newList []) (wpAny_newObj_type (wpAny_pure ⟨plainId_quiet PySem.F.plain_list_iadd _,codeAny_builtin entry_list_iadd' ?_⟩))
 rw [Around.under_plainId PySem.F.plain_list_iadd _]
 have hS₁:(s.heap.push { cls:=.type "list",data:=.seq ([]:List Value).toArray }).get? s.heap.objs.size=some { cls:=.type "list",data:=.seq #[] }:=Heap.get?_push_size _ rfl
 have key:=u9A (A:=A) (s:={ s with heap:=s.heap.push { cls:=.type "list",data:=.seq ([]:List Value).toArray } }) (res:=.ref s.heap.objs.size)
  (R:=fun (q:Result) (s':Shared)=>∃ acc c' ss',q=.ok (.ret (.ref s.heap.objs.size))∧Fwd s s'∧s'.heap.get? s.heap.objs.size=some { cls:=.type "list",dict:=none,data:=.seq acc c',slots:=#[] }∧StrsAre acc.toList ss'∧ss'.Perm ss)
  (T.keep fun o e=>Heap.get?_push_of_some _ e) hh (Nat.ne_of_gt la) hS₁ hz
  (fun s' acc c' hk h1 h2 hS' hv=>⟨acc,c',hv.choose,rfl,⟨fun b o e=>hk b o (Nat.ne_of_lt (Heap.lt_size e)) (Heap.get?_push_of_some _ e),h1,h2⟩,hS',hv.choose_spec.1,hv.choose_spec.2⟩)
 refine wpAny_mono key (fun fin s' x=>?_) fun e s' x=>?_
 ·cases fin with
  | done f =>
   obtain ⟨acc,c',ss',e,fw,hS',hv,hp⟩:=x
   cases e
   exact wpAny_bind (m:=load s.heap.objs.size) (wpAny_load hS' (wpAny_pure (h s' _ ss' fw hv hp)))
  | again c₁ =>
   refine ⟨x.1,codeAny_mono x.2 fun q s₂ y=>?_⟩
   obtain ⟨acc,c',ss',rfl,fw,hS',hv,hp⟩:=y
   exact wpAny_bind (m:=load s.heap.objs.size) (wpAny_load hS' (wpAny_pure (h s₂ _ ss' fw hv hp)))
 ·obtain ⟨_,_,_,e',_⟩:=x
  cases e'
end
end L2
namespace L2
open PySem PySem.Spec PyProof.Rows PySem.W PySem.Calls
noncomputable def leS (a b:Str):Prop:=ltCps b.cps.toList a.cps.toList=false
theorem u3z {a b:Str}:leS a b↔a.cps.toList≤b.cps.toList:=by
 unfold leS
 rw [ltCps_eq,decide_eq_false_iff_not]
 exact List.not_lt
theorem u7d {a b c:Str} (h:leS a b) (k:leS b c):leS a c:=u3z.mpr (List.le_trans (u3z.mp h) (u3z.mp k))
theorem v2N {a b:Str} (h:leS a b) (k:leS b a):a=b:=by
 have e:=List.le_antisymm (u3z.mp h) (u3z.mp k)
 obtain ⟨⟨l⟩⟩:=a
 obtain ⟨⟨m⟩⟩:=b
 simp only at e
 rw [e]
theorem v1c (a b:Str):leS a b∨leS b a:=by
 rw [u3z,u3z]
 exact List.le_total _ _
theorem u5D:∀ (l:List Str) (p:Str),risingS p l=true→(∀ x∈l,leS p x)∧l.Pairwise leS
 | [],_,_=>⟨fun x h=>(List.not_mem_nil h).elim,.nil⟩
 | y::l,p,h=>by
  unfold risingS at h
  rw [Bool.and_eq_true,Bool.not_eq_true'] at h
  obtain ⟨h1,h2⟩:=u5D l y h.2
  exact ⟨fun x hx=>by
   rcases List.mem_cons.mp hx with rfl | hx
   ·exact h.1
   ·exact u7d h.1 (h1 x hx),.cons h1 h2⟩
theorem v0B {l:List Str} (h:sortedS l=true):l.Pairwise leS:=by
 cases l with
 | nil=>exact .nil
 | cons x l=>obtain ⟨h1,h2⟩:=u5D l x h;exact .cons h1 h2
theorem u4G:∀ {l m:List Str},l.Perm m→l.Pairwise leS→m.Pairwise leS→l=m
 | [],m,p,_,_=>(List.Perm.nil_eq p)
 | x::l,m,p,hl,hm=>by
  cases m with
  | nil=>exact absurd p.length_eq (by simp)
  | cons y m =>
   have e:x=y:=by
    have hx:x∈y::m:=p.mem_iff.mp List.mem_cons_self
    have hy:y∈x::l:=p.mem_iff.mpr List.mem_cons_self
    rcases List.mem_cons.mp hx with e | hx
    ·exact e
    ·rcases List.mem_cons.mp hy with e | hy
     ·exact e.symm
     ·exact v2N ((List.pairwise_cons.mp hl).1 y hy) ((List.pairwise_cons.mp hm).1 x hx)
   subst e
   rw [u4G p.cons_inv (List.pairwise_cons.mp hl).2 (List.pairwise_cons.mp hm).2]
noncomputable def insT (x:Str):List Str→List Str
 | []=>[x]
 | y::l=>if ltCps y.cps.toList x.cps.toList=true then y::insT x l else x::y::l
noncomputable def sortT:List Str→List Str
 | []=>[]
 | x::l=>insT x (sortT l)
theorem u4U (x:Str):∀ l:List Str,(insT x l).Perm (x::l)
 | []=>List.Perm.refl _
 | y::l=>by
  unfold insT
  split
  ·exact ((u4U x l).cons y).trans (List.Perm.swap x y l)
  ·exact List.Perm.refl _
theorem u3j:∀ l:List Str,(sortT l).Perm l
 | []=>List.Perm.refl _
 | x::l=>(u4U x _).trans ((u3j l).cons x)
theorem v1p (x:Str):∀ {l:List Str},l.Pairwise leS→(insT x l).Pairwise leS
 | [],_=>List.pairwise_singleton ..
 | y::l,h=>by
  unfold insT
  obtain ⟨h1,h2⟩:=List.pairwise_cons.mp h
  split
  ·rename_i q
   refine .cons (fun z hz=>?_) (v1p x h2)
   rcases List.mem_cons.mp ((u4U x l).mem_iff.mp hz) with rfl | hz
   ·rcases v1c y z with t | t
    ·exact t
    ·unfold leS at t;rw [q] at t;cases t
   ·exact h1 z hz
  ·rename_i q
   have q':leS x y:=by unfold leS;simpa using q
   exact .cons (fun z hz=>by
    rcases List.mem_cons.mp hz with rfl | hz
    ·exact q'
    ·exact u7d q' (h1 z hz)) h
theorem u8A:∀ l:List Str,(sortT l).Pairwise leS
 | []=>.nil
 | x::l=>v1p x (u8A l)
theorem v2h {l ss:List Str} (p:l.Perm ss) (h:sortedS l=true):l=sortT ss:=u4G (p.trans (u3j ss).symm) (v0B h) (u8A ss)
theorem u4H {ss:List Str}{x:Str}:x∈sortT ss↔x∈ss:=(u3j ss).mem_iff
theorem u2n (ss:List Str):(sortT ss).length=ss.length:=(u3j ss).length_eq
section
variable {P:Program}{w:World}{A:Around}{E:Value→Shared→Prop}{s:Shared}
theorem u6A {a:Addr}{ss:List Str}{Q:Value→Shared→Prop} (h64:ss.length<64)
  (hc:∀ (B:Around) (E':Value→Shared→Prop) (R:List Value→Shared→Prop),B.handled=A.handled→(∀ s' vs ss',Fwd s s'→StrsAre vs ss'→ss'.Perm ss→R vs s')→wpAny (model P w) B (collect (.ref a)) R E' s)
  (h:∀ s' s'' D out n,Fwd s s'→Fwd s' s''→s'.heap.objs.size≤D→s''.heap.get? D=some (seqObj "list" out n)→StrsAre out.toList (sortT ss)→Q (.ref D) s''):wpAny (model P w) A (call (.builtin "sorted") [.ref a]) Q E s:=by
 refine Calls.call_function_entry kind_sorted plain_sorted entry_sorted (args_sorted1 _) ?_
 unfold Builtin.«sorted»
 refine wpAny_bind (m:=checkCount "sorted" 1 1 _) (wpAny_pure (wpAny_bind (hc _ _ _ rfl fun s' vs ss' fw hv hp=>?_)))
 have hn:vs.length=ss.length:=by
  have:(vs.map strOf).length=ss'.length:=by rw [hv.strs]
  rw [← hp.length_eq,← this,List.length_map]
 refine wpAny_bind (wpAny_newList ?_ (by rw [hn,sizeLine_eq];omega))
 have ho:(s'.heap.push (seqObj "list" vs.toArray 0)).get? s'.heap.objs.size=some (seqObj "list" vs.toArray 0):=Heap.get?_push_size _ rfl
 have z:(s'.heap.push (seqObj "list" vs.toArray 0)).objs.size=s'.heap.objs.size+1:=Heap.size_push ..
 refine wpAny_bind (wpAny_holding (wpAny_call_entry slot_list_sort ⟨_,ho,rfl⟩ entry_list_sort (list_sort_treeK strKind_oneLt ho hv.keysOf (fun v₁ v₂ rest e=>keyKind_strs (by rw [← e];exact hv)) (by omega) fun st' a1 a2=>⟨_,rfl,?_⟩) (args_list_sort _)))
 refine wpAny_pure ⟨_,rfl,?_⟩
 obtain ⟨ss2,h1,h2,h3⟩:=sorted_out_str hv a1 a2
 obtain ⟨n,hD⟩:=sortedHeap_at (out:=(arrOf st').map (·.2)) ho
 refine h s' _ s'.heap.objs.size _ n fw ⟨fun b o e=>?_,rfl,rfl⟩ (Nat.le_refl _) hD ?_
 ·have lt:=Heap.lt_size e
  have k:=sortedHeap_old (h:=s'.heap.push (seqObj "list" vs.toArray 0)) (a:=s'.heap.objs.size) (b:=b) (vs:=vs) (out:=(arrOf st').map (·.2)) (Nat.ne_of_lt lt) (by rw [z];exact Nat.lt_succ_of_lt lt)
  rw [Heap.get?_push_of_some _ e] at k
  exact k
 ·rw [← v2h (h2.trans hp) h3]
  exact h1
end
end L2
namespace L2
open PySem PySem.Spec PyProof.Rows PySem.W PySem.Calls
noncomputable def STO (P:Program) (w:World) (a:Addr) (ss:List Str):HO:=.ext fun h=>SetT P w h a ss
theorem u6y:∀ {vs:List Value}{ss:List Str},StrsAre vs ss→Vals (ss.map V.str) vs
 | _,_,.nil=>.nil
 | _,_,.cons x t h=>.cons ⟨t,rfl⟩ (u6y h)
theorem u6v:∀ {vs:List Value}{ss:List Str},Vals (ss.map V.str) vs→StrsAre vs ss
 | _,[],.nil=>.nil
 | _,_::_,.cons ⟨t,e⟩ h=>by subst e;exact .cons _ t (u6v h)
section
variable {X:Cx}{pins:List (Addr×Obj)}{σ:St}{H:Hp}{s:Shared}
theorem Inv.alike {s':Shared} (I:Inv X pins σ H s) (e1:s'.heap=s.heap) (e2:s'.os=s.os) (e3:s'.gens=s.gens):Inv X pins σ H s' :=
 ⟨I.ok,e2.trans I.os,e3 ▸ I.bare,e1 ▸ I.base,e1 ▸ I.loc,e1 ▸ I.cell,I.free,I.freeC,e1 ▸ I.pin,e1 ▸ I.hok,I.len⟩
theorem Inv.fwd {s':Shared} (I:Inv X pins σ H s) (f:Fwd s s'):Inv X pins σ H s':=(I.kept (h':=s'.heap) (t':=s'.toks) f.1).alike rfl f.2.1 f.2.2
theorem Inv.laidF {s':Shared}{a:Addr}{o:HO} (I:Inv X pins σ H s) (f:Fwd s s') (hp:s.heap.objs.size≤a) (new:ObjOk X.prog X.w (upd H a o) s'.heap a o):Inv X pins σ (upd H a o) s' :=
 (I.laid (h':=s'.heap) (t':=s'.toks) f.1 hp new).alike rfl f.2.1 f.2.2
theorem u7A (hc:X.calm=true):CallR X (.type "set") (fun xs H Q=>∃ l ss,xs=[.ref l]∧SqL X.K H l (ss.map V.str)∧ss.length+1<scanBound∧∀ p,H p=none→Q (.ref p) (upd H p (STO X.prog X.w p (setOfT ss)))):=by
 intro pins s σ H xs us Q I r ⟨l,ss,e,hq,hb,q⟩
 subst e
 obtain ⟨u,rfl,ru⟩:=vals1 r
 cases ru
 obtain ⟨its,rv,hl,hz⟩:=I.list hq
 have hv:=u6v rv
 have hn:its.length=ss.length:=by have:=rv.length;simpa using this.symm
 refine v2o (ss:=ss) (items:=its.toArray) (I.ok.hd hc) hl.isList (by simpa using hv) (by simpa [hn] using hb) fun s₂ ⟨h',tk,e,S,k⟩=>?_
 subst e
 have kk:∀ b u,s.heap.get? b=some u→h'.get? b=some u:=fun b u e=>k b u (Heap.lt_size e) e
 obtain ⟨o,es,ep,t,ho,rest⟩:=id S
 exact ⟨.ref s.heap.objs.size,_,I.laid (a:=s.heap.objs.size) (o:=STO X.prog X.w s.heap.objs.size (setOfT ss)) kk (Nat.le_refl _) ⟨S,⟨o,ho⟩,fun h1 h2 x y=>x.keep y⟩,rfl,q _ (I.hok.fresh (Nat.le_refl _))⟩
theorem u6Z {s' s'':Shared}{D:Addr}{out:Array Value}{n:Nat}{ss:List Str}{Q:VK} (I:Inv X pins σ H s) (f1:Fwd s s') (f2:Fwd s' s'') (hD:s'.heap.objs.size≤D) (g:s''.heap.get? D=some (seqObj "list" out n)) (hv:StrsAre out.toList ss) (hz:ss.length≤sizeLine)
  (q:∀ p,H p=none→Q (.ref p) (upd H p (.lst (ss.map V.str)))):EP X pins σ Q (.ref D) s'' :=
 ⟨.ref D,_,(I.fwd f1).laidF (o:=.lst (ss.map V.str)) f2 hD ⟨by simpa using hz,out.toList,n,u6y hv,by simpa using g⟩,rfl,q D ((I.fwd f1).hok.fresh hD)⟩
theorem u7z (hc:X.calm=true):CallR X (.builtin "sorted") (fun xs H Q=>∃ a ss,xs=[.ref a]∧H a=some (STO X.prog X.w a ss)∧ss.length<64∧∀ p,H p=none→Q (.ref p) (upd H p (.lst ((sortT ss).map V.str)))):=by
 intro pins s σ H xs us Q I r ⟨a,ss,e,ha,h64,q⟩
 subst e
 obtain ⟨u,rfl,ru⟩:=vals1 r
 cases ru
 have S:SetT X.prog X.w s.heap a ss:=(show ObjOk X.prog X.w H s.heap a (STO X.prog X.w a ss) from I.hok a _ ha).1
 have hz:ss.length≤sizeLine:=by rw [sizeLine_eq];omega
 refine u6A h64 (fun B E' R hB k=>u7U S (hB.trans (I.ok.hd hc)) hz k) fun s' s'' D out n f1 f2 hD g hv=>u6Z I f1 f2 hD g hv (by rw [u2n];exact hz) q
theorem v1V:CallR X (.builtin "len") (fun xs H Q=>∃ a ss,xs=[.ref a]∧H a=some (STO X.prog X.w a ss)∧Q (.int ss.length) H):=by
 intro pins s σ H xs us Q I r ⟨a,ss,e,ha,q⟩
 subst e
 obtain ⟨u,rfl,ru⟩:=vals1 r
 cases ru
 obtain ⟨o,es,ep,t,ho,hex,hd,el,p,nd,hb,hf,_⟩:SetT X.prog X.w s.heap a ss:=(show ObjOk X.prog X.w H s.heap a (STO X.prog X.w a ss) from I.hok a _ ha).1
 have hn:es.size=ss.length:=by have:=p.length_eq;simpa using this
 have hb':es.size<4096:=hb
 refine call_len_set ho hex hd hf (Int.lt_trans (Int.ofNat_lt.mpr hb') (by decide)) ⟨.int ss.length,H,I.kept fun _ _ e=>e,⟨_,by rw [hn]⟩,q⟩
theorem v0o (hc:X.calm=true):CallR X (.builtin "sorted") (fun xs H Q=>∃ a kvs ss,xs=[.ref a]∧H a=some (.dK kvs)∧kvs.map (·.1)=ss.map Sum.inr∧ss.length<64∧∀ p,H p=none→Q (.ref p) (upd H p (.lst ((sortT ss).map V.str)))):=by
 intro pins s σ H xs us Q I r ⟨a,kvs,ss,e,ha,hk,h64,q⟩
 subst e
 obtain ⟨u,rfl,ru⟩:=vals1 r
 cases ru
 obtain ⟨_,hS,vs,rk,m⟩:kvs.length≤sizeLine∧(a==sysModules)=false∧∃ vs,KV kvs vs∧s.heap.DictOf (mixKind X.prog X.w) a vs:=I.hok a _ ha
 obtain ⟨ep,m⟩:=m.dictAt
 have hz:ss.length≤sizeLine:=by rw [sizeLine_eq];omega
 have ek:vs.map (·.1)=ss.map Sum.inr:=rk.keys.symm.trans hk
 have hn:vs.length=ss.length:=by have:=congrArg List.length ek;simpa using this
 refine u6A h64 (fun B E' R hB k=>kdu_collect (kdl_dict (kvs:=vs) hS) (hB.trans (I.ok.hd hc)) m (hn ▸ hz) fun h' tk acc hkeep hacc=>k _ _ ss ⟨hkeep,rfl,rfl⟩ ?_ (List.Perm.refl _)) fun s' s'' D out n f1 f2 hD g hv=>u6Z I f1 f2 hD g hv (by rw [u2n];exact hz) q
 have hl:acc.toList.length=ss.length:=by rw [Array.length_toList,hacc.1,hn]
 have key:∀ (j:Nat) (v:Value),acc.toList[j]?=some v→∃ x t,ss[j]?=some x∧v=.str x t:=fun j v e=>by
  obtain ⟨k,y,e1,e2⟩:=hacc.2 j v (by rw [← Array.getElem?_toList];exact e)
  have e3:(vs.map (·.1))[j]?=some k:=by rw [List.getElem?_map,e1];rfl
  rw [ek,List.getElem?_map] at e3
  cases e4:ss[j]? with
  | none=>rw [e4] at e3;cases e3
  | some x =>
   rw [e4] at e3
   cases e3
   rcases u0R ((v0c X.prog X.w _ _).symm.trans e2) with ⟨_,_,e5,_⟩ | ⟨z,t,e5,e6⟩
   ·cases e5
   ·cases e5;exact ⟨_,t,rfl,e6⟩
 have go:∀ (vs:List Value) (ss:List Str),vs.length=ss.length→(∀ (j:Nat) (v:Value),vs[j]?=some v→∃ x t,ss[j]?=some x∧v=.str x t)→StrsAre vs ss:=by
  intro vs
  induction vs with
  | nil=>intro ss e _;cases ss with | nil=>exact .nil | cons _ _=>cases e
  | cons v vs ih =>
   intro ss e h
   cases ss with
   | nil=>cases e
   | cons x ss =>
    obtain ⟨z,t,e1,e2⟩:=h 0 v rfl
    cases e1
    subst e2
    exact .cons _ t (ih ss (by simpa using e) fun j v q=>h (j+1) v (by simpa using q))
 exact go _ _ hl key
end
noncomputable def strsOf:List D→Option (List Str)
 | []=>some []
 | .str z::ds=>(strsOf ds).map (z::·)
 | _=>none
theorem u4F {K:PySem.W.Frag}{F:Hp}:∀ {xs:List V}{ds:List D}{ss:List Str},Rps K F xs ds→strsOf ds=some ss→xs=ss.map V.str∧∀ z∈ss,z.length≤sizeLine
 | _,_,_,.nil,e=>by cases e;exact ⟨rfl,fun _ h=>(List.not_mem_nil h).elim⟩
 | _,d::ds,ss,.cons h hs,e=>by
  cases h with
  | str hz =>
   unfold strsOf at e
   cases q:strsOf ds with
   | none=>rw [q] at e;cases e
   | some ts =>
    rw [q] at e
    cases e
    obtain ⟨e1,e2⟩:=u4F hs q
    rw [e1]
    exact ⟨rfl,fun z hz'=>by
     rcases List.mem_cons.mp hz' with rfl | h
     ·exact hz
     ·exact e2 z h⟩
  | _=>cases e
theorem u6b {K:PySem.W.Frag}{F:Hp}:∀ {ss:List Str},(∀ z∈ss,z.length≤sizeLine)→Rps K F (ss.map V.str) (ss.map D.str)
 | [],_=>.nil
 | z::ss,h=>.cons (.str (h z List.mem_cons_self)) (u6b fun y hy=>h y (List.mem_cons_of_mem _ hy))
noncomputable def gSS:D→Res D
 | .lst ds=>match strsOf ds with
  | some ss=>gd (ss.length<64) (.ok (.lst ((sortT (setOfT ss)).map D.str)))
  | none=>.bad
 | _=>.bad
noncomputable def gLS:D→Res D
 | .lst ds=>match strsOf ds with
  | some ss=>gd (ss.length<64) (.ok (.int ((setOfT ss).length:Nat)))
  | none=>.bad
 | _=>.bad
noncomputable def keyStrs:List (D×D)→Option (List Str)
 | []=>some []
 | (.str z,_)::ps=>(keyStrs ps).map (z::·)
 | _=>none
noncomputable def gSD:List D→Res D
 | [.dct ps]=>match keyStrs ps with
  | some ss=>gd (ss.length<64∧∀ z∈ss,z.length≤sizeLine) (.ok (.lst ((sortT ss).map D.str)))
  | none=>.bad
 | _=>.bad
theorem u5G {K:PySem.W.Frag}{F:Hp}:∀ {kvs:List (Key×V)}{ps:List (D×D)}{ss:List Str},Rpk K F kvs ps→keyStrs ps=some ss→kvs.map (·.1)=ss.map Sum.inr
 | _,_,_,.nil,e=>by cases e;rfl
 | _,_,ss,.cons (k:=k) (ds:=ds) h hs,e=>by
  cases k with
  | inl i=>cases e
  | inr z =>
   unfold keyStrs kD at e
   cases q:keyStrs ds with
   | none=>simp only [q] at e;cases e
   | some ts =>
    simp only [q] at e
    cases e
    rw [List.map_cons,u5G hs q]
    rfl
section
variable {X:Cx}{xq:XQ}{e:Expr}{fs:Rho→Res (List D)}{p p2 pos pos2:Pos}
noncomputable def one1 {α:Type} (g:D→Res α):List D→Res α
 | [d]=>g d
 | _=>.bad
theorem v3w (hc:X.calm=true) (hm:X.mg "sorted"=none) (hm2:X.mg "set"=none) (ha:DA X xq [e] fs) (hg:Gl X "sorted":=by rfl) (hg2:Gl X "set":=by rfl) :
  DE X xq (.Call (.Name "sorted" p) [.Call (.Name "set" p2) [e] [] pos2] [] pos) (fun ρ=>(fs ρ).bind fun ds=>noE (one1 gSS ds)) :=
 DE.of (pcB (u7z hc) hg hm (by decide +kernel) (pac (pcT (u7A hc) hg2 hm2 (by decide +kernel) ha.out (by decide) (by decide) ha.ns) u8E) (by decide) (by decide) rfl) fun B F ρ σ H Q R q=>seqA R q fun ds vs F1 H1 s1 R1 p1 q1=>by
  unfold one1 at q1
  split at q1
  ·rename_i d
   obtain ⟨v,rfl,pv⟩:=rps1 p1
   unfold gSS at q1
   split at q1
   ·rename_i dl
    split at q1
    ·rename_i ss hs
     have q2:(gd (ss.length<64) (Res.ok (D.lst ((sortT (setOfT ss)).map D.str)))).all _ (fun _=>True):=u4N q1
     obtain ⟨h64,q3⟩:=u3G q2
     cases pv with
     | lst hq hr =>
      obtain ⟨e1,e2⟩:=u4F hr hs
      subst e1
      have hl:(setOfT ss).length≤ss.length:=by have:=u4Z ss [];simpa [setOfT] using this
      have em:∀ z∈sortT (setOfT ss),z.length≤sizeLine:=fun z hz=>e2 z (u3N.mp (u4H.mp hz))
      refine ⟨_,ss,rfl,.inl (hq.same R1.fh),by unfold scanBound;omega,fun a na=>?_⟩
      refine ⟨a,setOfT ss,rfl,u0k,by omega,fun b nb=>?_⟩
      have f1:=Stp.new (o:=STO X.prog X.w a (setOfT ss)) R1.fh na
      have f2:=Stp.new (o:=.lst ((sortT (setOfT ss)).map V.str)) f1.fh nb
      exact q3 _ _ _ ((s1.trans f1).trans f2) (.lst (.inl u0k) (u6b em))
    ·exact q1.elim
   ·exact q1.elim
  ·exact q1.elim
theorem d_lset (hc:X.calm=true) (hm:X.mg "len"=none) (hm2:X.mg "set"=none) (ha:DA X xq [e] fs) (hg:Gl X "len":=by rfl) (hg2:Gl X "set":=by rfl) :
  DE X xq (.Call (.Name "len" p) [.Call (.Name "set" p2) [e] [] pos2] [] pos) (fun ρ=>(fs ρ).bind fun ds=>noE (one1 gLS ds)) :=
 DE.of (pcB v1V hg hm (by decide +kernel) (pac (pcT (u7A hc) hg2 hm2 (by decide +kernel) ha.out (by decide) (by decide) ha.ns) u8E) (by decide) (by decide) rfl) fun B F ρ σ H Q R q=>seqA R q fun ds vs F1 H1 s1 R1 p1 q1=>by
  unfold one1 at q1
  split at q1
  ·rename_i d
   obtain ⟨v,rfl,pv⟩:=rps1 p1
   unfold gLS at q1
   split at q1
   ·rename_i dl
    split at q1
    ·rename_i ss hs
     have q2:(gd (ss.length<64) (Res.ok (D.int ((setOfT ss).length:Nat)))).all _ (fun _=>True):=u4N q1
     obtain ⟨h64,q3⟩:=u3G q2
     cases pv with
     | lst hq hr =>
      obtain ⟨e1,e2⟩:=u4F hr hs
      subst e1
      refine ⟨_,ss,rfl,.inl (hq.same R1.fh),by unfold scanBound;omega,fun a na=>?_⟩
      have f1:=Stp.new (o:=STO X.prog X.w a (setOfT ss)) R1.fh na
      exact ⟨a,setOfT ss,rfl,u0k,q3 _ _ _ (s1.trans f1) (.int _)⟩
    ·exact q1.elim
   ·exact q1.elim
  ·exact q1.elim
theorem c_sortD (hc:X.calm=true):CallR X (.builtin "sorted") (rDs X.K gSD):=by
 intro pins s σ H xs us Q I r ⟨F,ds,fh,ps,q⟩
 unfold gSD at q
 split at q
 ·rename_i kd
  obtain ⟨v,rfl,pv⟩:=rps1 ps
  cases hk:keyStrs kd with
  | none=>simp only [hk] at q;exact q.elim
  | some ss =>
   simp only [hk] at q
   obtain ⟨⟨h64,hz⟩,q⟩:=u3G q
   cases pv with
   | dK ha hr=>exact v0o hc pins s σ H _ us Q I r ⟨_,_,ss,rfl,fh _ _ ha,u5G hr hk,h64,fun b nb=>q _ _ _ (Stp.new fh nb) (.lst (.inl u0k) (u6b fun z h=>hz z (u4H.mp h)))⟩
 ·exact q.elim
end
mutual
noncomputable def selfD:D→Bool
 | .non | .bl _ | .int _ | .str _=>true
 | .lst ds | .tup ds=>selfDs ds
 | .dct ps=>ps.isEmpty
 | _=>false
noncomputable def selfDs:List D→Bool
 | []=>true
 | d::ds=>selfD d&&selfDs ds
end
mutual
noncomputable def depD:D→Nat
 | .lst ds | .tup ds=>depDs ds+1
 | .dct _=>1
 | _=>0
noncomputable def depDs:List D→Nat
 | []=>0
 | d::ds=>max (depD d) (depDs ds)
end
section
variable {X:Cx}{pins:List (Addr×Obj)}{σ:St}{H F:Hp}{s:Shared}
theorem u9b {A:Around}{us vs:List Value}{l b:Addr} (n:us.length=vs.length) (he:∀ j (h1:j<us.length) (h2:j<vs.length),SeqAt.EqAt A s us[j] vs[j] true) :
  ∀ j (h1:j<us.toArray.size) (h2:j<vs.toArray.size),SeqAt.EqAt A s us.toArray[j] vs.toArray[j] ((fun _=>true) j):=fun j h1 h2=>by
 have:=he j (by simpa using h1) (by simpa using h2)
 simpa using this
theorem u9p (n:Nat):(List.range n).all (fun _=>true)=true:=by simp
theorem v0N {A:Around}{a b:Addr} (h:SeqAt.RcAt A s (.ref a) (.ref b) true):SeqAt.EqAt A s (.ref a) (.ref b) true:=by
 by_cases q:a=b
 ·subst q;exact SeqAt.EqAt.same _
 ·exact SeqAt.EqAt.of_refs q h
theorem u5O {P P':Program}{w w':World}{h:Heap}{a:Addr} (m:h.DictOf (mixKind P w) a []):h.DictOf (mixKind P' w') a []:=by
 obtain ⟨o,es,ep,ho,hex,hd,hk,hp,hn⟩:=m
 have e:es=#[]:=by
  obtain ⟨l⟩:=es
  cases l with
  | nil=>rfl
  | cons x l=>cases hp
 subst e
 exact ⟨o,#[],ep,ho,hex,hd,fun e he=>by simp at he,.nil,hn⟩
mutual
theorem Rp.eqS (I:Inv X pins σ H s) (fh:Same F H):∀ {x:V}{d:D},Rp X.K F x d→∀ {A:Around}{y:V}{u v:Value},Rp X.K F y d→RelV x u→RelV y v→selfD d=true→A.units+depD d<cLine→SeqAt.RcAt A s u v true∧SeqAt.EqAt A s u v true
 | _,_,.non,A,y,u,v,py,ru,rv,_,_=>by
  cases py;cases ru;cases rv
  exact ⟨SeqAt.RcAt.none_none,SeqAt.EqAt.same _⟩
 | _,_,.bl b,A,y,u,v,py,ru,rv,_,_=>by
  cases py;cases ru;cases rv
  have:=SeqAt.RcAt.bool_bool (A:=A) (s:=s) b b
  rw [beq_self_eq_true] at this
  exact ⟨this,SeqAt.EqAt.same _⟩
 | _,_,.int i,A,y,u,v,py,ru,rv,_,_=>by
  cases py
  obtain ⟨t,rfl⟩:=ru
  obtain ⟨t',rfl⟩:=rv
  have h1:=SeqAt.RcAt.int_int (A:=A) (s:=s) i t i t'
  have h2:=SeqAt.EqAt.int_int (A:=A) (s:=s) i t i t'
  rw [beq_self_eq_true] at h1 h2
  exact ⟨h1,h2⟩
 | _,_,.str (z:=z) _,A,y,u,v,py,ru,rv,_,_=>by
  cases py
  obtain ⟨t,rfl⟩:=ru
  obtain ⟨t',rfl⟩:=rv
  have h1:=SeqAt.RcAt.str_str (A:=A) (s:=s) z t z t'
  have h2:=SeqAt.EqAt.str_str (A:=A) (s:=s) z t z t'
  rw [beq_self_eq_true] at h1 h2
  exact ⟨h1,h2⟩
 | _,_,.ty _,A,y,u,v,py,ru,rv,h,_=>by simp [selfD] at h
 | _,_,.lst (ds:=ds) hq hs,A,y,u,v,py,ru,rv,h,hu=>by
  cases py with
  | lst hq' hs' =>
   cases ru
   cases rv
   obtain ⟨its,r1,l1,_⟩:=I.list (.inl (hq.same fh))
   obtain ⟨its',r2,l2,_⟩:=I.list (.inl (hq'.same fh))
   have n:its.length=its'.length:=by rw [← r1.length,← r2.length,hs.length,hs'.length]
   have hu1:A.units+(depDs ds+1)<cLine:=hu
   have q:=SeqAt.RcAt.lists l1.isList l2.isList (by simpa using n) (by omega) (u9b (l:=0) (b:=0) n (Rps.eqS I fh hs (A:=A.in1) hs' r1 r2 (by simpa [selfD] using h) (by show A.units+1+depDs ds<cLine;omega)))
   rw [u9p] at q
   exact ⟨q,v0N q⟩
 | _,_,.tup (ds:=ds) hq hs,A,y,u,v,py,ru,rv,h,hu=>by
  cases py with
  | tup hq' hs' =>
   cases ru
   cases rv
   obtain ⟨its,r1,l1,_⟩:=I.tuple (fh.seqT hq)
   obtain ⟨its',r2,l2,_⟩:=I.tuple (fh.seqT hq')
   obtain ⟨o1,g1,c1,m1,d1⟩:=l1
   obtain ⟨o2,g2,c2,m2,d2⟩:=l2
   have n:its.length=its'.length:=by rw [← r1.length,← r2.length,hs.length,hs'.length]
   have hu1:A.units+(depDs ds+1)<cLine:=hu
   have q:=SeqAt.RcAt.tuples (A:=A) (s:=s) (l:=_) (b:=_) ⟨o1,g1,c1,m1,d1⟩ ⟨o2,g2,c2,m2,d2⟩ (by omega) (u9b (l:=0) (b:=0) n (Rps.eqS I fh hs (A:=A.in1) hs' r1 r2 (by simpa [selfD] using h) (by show A.units+1+depDs ds<cLine;omega)))
   rw [u9p,show (its.toArray.size==its'.toArray.size)=true by simp [n]] at q
   exact ⟨q,v0N q⟩
 | _,_,  .dK (a:=a) (ps:=ps) ha hr,A,y,u,v,py,ru,rv,h,hu=>by
  cases py with
  | @dK b _ _ hb hr' =>
   cases ru
   cases rv
   have e:ps=[]:=by simpa [selfD] using h
   subst e
   cases hr
   cases hr'
   have hu1:A.units+1<cLine:=hu
   obtain ⟨_,k1,vs,r1,m1⟩:_∧_∧∃ vs,KV ([]:List (Key×V)) vs∧_:=I.hok _ _ (fh _ _ ha)
   obtain ⟨_,k2,vs',r2,m2⟩:_∧_∧∃ vs,KV ([]:List (Key×V)) vs∧_:=I.hok _ _ (fh _ _ hb)
   cases r1
   cases r2
   have q:SeqAt.RcAt A s (.ref a) (.ref b) true:=fun prog w E Q hQ=>PySem.W.keq_eq (knd:=mixKind prog w) k1 k2 (u5O m1) (u5O m2) (by omega) (fun _=>.nil) hQ
   exact ⟨q,v0N q⟩
 | _,_,.ins _ _,A,y,u,v,py,ru,rv,h,_=>by simp [selfD] at h
 | _,_,.exc _ _ _,A,y,u,v,py,ru,rv,h,_=>by simp [selfD] at h
 | _,_,.dn _ _,A,y,u,v,py,ru,rv,h,_=>by simp [selfD] at h
theorem Rps.eqS (I:Inv X pins σ H s) (fh:Same F H):∀ {xs:List V}{ds:List D},Rps X.K F xs ds→∀ {A:Around}{ys:List V}{us vs:List Value},Rps X.K F ys ds→Vals xs us→Vals ys vs→selfDs ds=true→A.units+depDs ds<cLine →
  ∀ j (h1:j<us.length) (h2:j<vs.length),SeqAt.EqAt A s us[j] vs[j] true
 | _,_,.nil,A,ys,us,vs,py,ru,rv,_,_,j,h1,h2=>by cases ru;cases h1
 | _,_,.cons (d:=d) (ds:=ds) p ps,A,ys,us,vs,py,ru,rv,h,hu,j,h1,h2=>by
  cases py with
  | cons p' ps' =>
   cases ru with
   | cons ru rus =>
    cases rv with
    | cons rv rvs =>
     have h':selfD d=true∧selfDs ds=true:=by simpa [selfDs] using h
     have hu':A.units+max (depD d) (depDs ds)<cLine:=hu
     cases j with
     | zero=>exact (Rp.eqS I fh p p' ru rv h'.1 (by omega)).2
     | succ j=>exact Rps.eqS I fh ps ps' rus rvs h'.2 (by omega) j (by simpa using h1) (by simpa using h2)
end
noncomputable def lenNe:D→D→Bool
 | .lst (_::_),.lst []=>true
 | .lst [],.lst (_::_)=>true
 | _,_=>false
theorem u7b {x y:D} (h:lenNe x y=true):∃ ds es,x=.lst ds∧y=.lst es∧ds.length≠es.length:=by
 unfold lenNe at h
 split at h
 ·exact ⟨_,_,rfl,rfl,by simp⟩
 ·exact ⟨_,_,rfl,rfl,by simp⟩
 ·cases h
open Classical in
noncomputable def dEqX (x y:D):Res D:=if lenNe x y=true then .ok (.bl false) else if x=y∧selfD x=true∧depD x≤60 then .ok (.bl true) else dEq x y
noncomputable def dNeX (x y:D):Res D:=if lenNe x y=true then .ok (.bl true) else dNe x y
theorem u3b (hu:X.A.units+64<cLine):OpR X (compareOp .Eq) (rD X.K dEqX):=by
 intro pins s σ H x y v u Q I rx ry ⟨F,dx,dy,fh,px,py,q⟩
 unfold dEqX at q
 split at q
 ·rename_i hl
  obtain ⟨ds,es,rfl,rfl,ne⟩:=u7b hl
  cases px with
  | lst hq hs =>
   cases py with
   | lst hq' hs' =>
    cases rx
    cases ry
    obtain ⟨its,r1,l1,_⟩:=I.list (.inl (hq.same fh))
    obtain ⟨its',r2,l2,_⟩:=I.list (.inl (hq'.same fh))
    have n:its.length≠its'.length:=by rw [← r1.length,← r2.length,hs.length,hs'.length];exact ne
    exact SeqAt.RcAt.lists_lengths l1.isList l2.isList (by simpa using n) (by omega) _ _ _ _ ⟨.bl false,H,I,rfl,q _ F H (Stp.refl fh) (.bl _)⟩
 ·split at q
  ·rename_i h
   obtain ⟨rfl,h1,h2⟩:=h
   exact (Rp.eqS I fh px (A:=X.A) py rx ry h1 (by omega)).1 _ _ _ _ ⟨.bl true,H,I,rfl,q _ F H (Stp.refl fh) (.bl _)⟩
  ·exact o_eq hu pins s σ H x y v u Q I rx ry ⟨F,dx,dy,fh,px,py,q⟩
theorem v2G (hu:X.A.units+64<cLine):OpR X (compareOp .NotEq) (rD X.K dNeX):=by
 intro pins s σ H x y v u Q I rx ry ⟨F,dx,dy,fh,px,py,q⟩
 unfold dNeX at q
 split at q
 ·rename_i hl
  obtain ⟨ds,es,rfl,rfl,ne⟩:=u7b hl
  cases px with
  | lst hq hs =>
   cases py with
   | lst hq' hs' =>
    cases rx
    cases ry
    obtain ⟨its,r1,l1,_⟩:=I.list (.inl (hq.same fh))
    obtain ⟨its',r2,l2,_⟩:=I.list (.inl (hq'.same fh))
    have n:its.length≠its'.length:=by rw [← r1.length,← r2.length,hs.length,hs'.length];exact ne
    exact SeqAt.RcNeAt.lists_lengths l1.isList l2.isList (by simpa using n) (by omega) _ _ _ _ ⟨.bl true,H,I,rfl,q _ F H (Stp.refl fh) (.bl _)⟩
 ·exact o_ne hu pins s σ H x y v u Q I rx ry ⟨F,dx,dy,fh,px,py,q⟩
end
theorem u4w:fillsNumberSlot (.type "tuple") "mul"=pure false:=PySem.fillsNumberSlot_seq (id:="tuple.__mul__") (r:=some (.builtin "tuple.__rmul__")) F.slot_tuple_mul.lookup (by decide +kernel) F.slot_tuple_rmul.lookup (by decide +kernel)
theorem u6I:seqRepeat? (.type "tuple")=pure (some (.builtin "tuple.__mul__")):=by
 unfold seqRepeat?
 rw [PySem.seqSlot_of (T:="tuple") (name:="__mul__") (id:="tuple.__mul__") F.slot_tuple_mul.lookup (by decide +kernel),PySem.seqSlot_of (T:="tuple") (name:="__rmul__") (id:="tuple.__rmul__") F.slot_tuple_rmul.lookup (by decide +kernel)]
 rfl
section
variable {P:Program}{w:World}{A:Around}{E:Value→Shared→Prop}{s:Shared}{X:Cx}
theorem u9L {k:Int}{t:Tok}{l:Addr}{o:Obj}{items:Array Value}{n:Nat}{Q:Value→Shared→Prop} (ho:s.heap.get? l=some o) (hc:o.cls=.type "tuple") (hd:o.data=.seq items n) (h:Q .notImplemented s) :
  wpAny (model P w) A (call (.builtin "int.__rmul__") [.int k t,.ref l]) Q E s:=by
 refine wpAny_call_entry F.slot_int_rmul (typeIs_int s k t) F.entry_int_rmul ?_ (F.args_int_rmul_2 _ _)
 obtain ⟨hp,g,d,tk,os⟩:=s
 obtain ⟨oc,od,odt,osl⟩:=o
 simp only at hc hd
 subst hc
 subst hd
 wp_walk
 exact ⟨_,rfl,h⟩
theorem v0Z {k:Int}{t:Tok}{l:Addr}{o:Obj}{items:Array Value}{n:Nat}{Q:Value→Shared→Prop} (ho:s.heap.get? l=some o) (hc:o.cls=.type "tuple") (hd:o.data=.seq items n) (hk:2≤k) (hk2:k≤1000) (hi:items.isEmpty=false) (hz:items.size*k.toNat≤sizeLine)
  (h:Q (.ref s.heap.objs.size) { s with heap:=s.heap.push { cls:=.type "tuple",data:=.seq ((List.replicate k.toNat items).foldl (fun x1 x2=>x1++x2) #[]) } }):wpAny (model P w) A (call (.builtin "tuple.__mul__") [.ref l,.int k t]) Q E s:=by
 refine wpAny_call_entry F.slot_tuple_mul ⟨o,ho,hc⟩ F.entry_tuple_mul ?_ (F.args_tuple_mul_2 _ _)
 obtain ⟨hp,g,d,tk,os⟩:=s
 obtain ⟨oc,od,odt,osl⟩:=o
 simp only at hc hd
 subst hc
 subst hd
 unfold Builtin.«tuple.__mul__»
 wp_walk
 have z1:(k.toNat:Int)=k:=Int.toNat_of_nonneg (by omega)
 have z2:((items.size:Nat):Int)*k≤sizeLine:=by
  rw [← z1]
  exact_mod_cast hz
 have z3:(sizeLine:Int)=16777216:=by rw [sizeLine_eq];rfl
 rw [if_neg (by rw [decide_eq_false (by omega),decide_eq_false (by omega)];decide)]
 dsimp only
 refine wpAny_bind ?_
 unfold Builtin.Tuple.tupleItemsOf
 refine wpAny_bind (wpAny_seqItems ho rfl (wpAny_pure ?_))
 rw [if_neg (by rw [hi,show (k==1)=false from beq_eq_false_iff_ne.mpr (by omega)];decide),if_neg (by rw [hi,decide_eq_false (by omega)];decide),if_neg (by rw [z3] at z2;omega),if_neg (by unfold Builtin.Tuple.tupleTooMany;rw [decide_eq_true_eq];omega)]
 have sz:((List.replicate k.toNat items).foldl (fun x1 x2=>x1++x2) #[]).size≤sizeLine:=by
  have g:∀ (n:Nat) (a:Array Value),((List.replicate n items).foldl (fun x1 x2=>x1++x2) a).size=a.size+n*items.size:=by
   intro n
   induction n with
   | zero=>simp
   | succ n ih =>
    intro a
    rw [List.replicate_succ,List.foldl_cons,ih,Array.size_append,Nat.succ_mul]
    omega
  rw [g,Nat.mul_comm]
  simpa using hz
 unfold Builtin.Tuple.tupleExact
 exact wpAny_bind (wpAny_newObj_type (wpAny_pure ⟨_,rfl,h⟩) sz)
noncomputable def rRepT (K:PySem.W.Frag):R2:=fun x y H Q=>∃ l k xs,x=.ref l∧y=.int k∧SqT K H l xs∧2≤k∧k≤1000∧xs≠[]∧xs.length*k.toNat≤sizeLine∧∀ p,H p=none→Q (.ref p) (upd H p (.tup (List.replicate k.toNat xs).flatten))
theorem op_repT:OpR X (binaryOp .Mult) (rRepT X.K):=by
 intro pins s σ H x y v u Q I rx ry h
 obtain ⟨l,k,xs,rfl,rfl,hq,h1,h2,hn,hz,q⟩:=h
 cases rx
 obtain ⟨t,rfl⟩:=ry
 obtain ⟨its,r,hT,_⟩:=I.tuple hq
 obtain ⟨o,ho,hc,n,hd⟩:=hT
 have hl:=r.length
 have hlen:its.toArray.size*k.toNat≤sizeLine:=by rw [List.size_toArray,← hl];exact hz
 have hne:its.toArray.isEmpty=false:=by
  cases its with
  | nil=>cases xs with | nil=>exact absurd rfl hn | cons _ _=>cases hl
  | cons a b=>rfl
 have hnew:List.foldl (fun x1 x2=>x1++x2) #[] (List.replicate k.toNat its.toArray)=(List.replicate k.toNat its).flatten.toArray:=by
  have:=u4X its k.toNat []
  rwa [List.nil_append] at this
 refine wpAny_binaryOp_repeat_ref (T:="tuple") (U:="int") (by decide) ⟨o,ho,hc⟩ (fun s'=>typeIs_int s' k t) u4w F.fills_int_mul F.slot_int_rmul u6I F.slot_int_index.lookup
  (u9L ho hc hd ⟨rfl,⟨o,ho,hc⟩,v0Z ho hc hd h1 h2 hne hlen ?_⟩)
 rw [hnew]
 exact ⟨.ref _,_,I.laid (a:=s.heap.objs.size) (o:=.tup (List.replicate k.toNat xs).flatten) (t':=s.toks) (fun _ _ e=>Heap.get?_push_of_some _ e) (Nat.le_refl _) ⟨by rw [v1b,Nat.mul_comm];exact hz,_,r.rep k.toNat,_,Heap.get?_push_size _ rfl,rfl,_,rfl⟩,rfl,q _ (I.hok.fresh (Nat.le_refl _))⟩
noncomputable def rRepR:R2:=fun x y H Q=>∃ l k xs,x=.ref l∧y=.int k∧Rd H l (.lst xs)∧-(2^63)≤k∧k<2^63∧xs.length*k.toNat≤sizeLine ∧
 ∀ p,H p=none→Q (.ref p) (upd H p (.lst (List.replicate k.toNat xs).flatten))
theorem op_repR:OpR X (binaryOp .Mult) rRepR:=by
 intro pins s σ H x y v u Q I rx ry h
 obtain ⟨l,k,xs,rfl,rfl,hH,h1,h2,hz,q⟩:=h
 cases rx
 obtain ⟨t,rfl⟩:=ry
 obtain ⟨z,its,n,r,hl,e⟩:=I.lstR hH
 have hlen:its.toArray.size*k.toNat≤sizeLine:=by rw [List.size_toArray,← hl];exact hz
 have hcap:¬ its.toArray.size*k.toNat > (2^63 - 1) / 8:=by
  have:(sizeLine:Nat)≤(2^63 - 1) / 8:=by decide
  omega
 have hfit:¬ (!Builtin.List.listFitsIndex k)=true:=by
  rw [fitsIndex_both h1 h2]
  exact Bool.false_ne_true
 have hlong:¬ Builtin.List.listTooLong (its.toArray.size*k.toNat)=true:=by
  rw [notLongL hlen]
  exact Bool.false_ne_true
 have hnew:List.foldl (fun x1 x2=>x1++x2) #[] (List.replicate (if its.toArray.isEmpty=true then 0 else k.toNat) its.toArray)=(List.replicate k.toNat its).flatten.toArray:=by
  have f0:∀ m:Nat,List.foldl (fun x1 x2=>x1++x2) #[] (List.replicate m its.toArray)=(List.replicate m its).flatten.toArray:=fun m=>by
   have:=u4X its m []
   rw [List.nil_append] at this
   exact this
  rw [f0]
  cases its with
  | nil=>simp
  | cons a r'=>rw [if_neg (by simp)]
 refine wpAny_binaryOp_repeat_ref (T:="list") (U:="int") (by decide) ⟨_,e,rfl⟩ (fun s'=>typeIs_int s' k t) noFill_list_mul F.fills_int_mul F.slot_int_rmul repeat_list F.slot_int_index.lookup
  (call_meets F.slot_int_rmul (typeIs_int s k t) F.entry_int_rmul (F.args_int_rmul_2 _ _) (int___rmul___int_list k t l its.toArray n)
   ⟨e,rfl,⟨_,e,rfl⟩,call_meets F.slot_list_mul ⟨_,e,rfl⟩ F.entry_list_mul (F.args_list_mul_2 _ _) (AutoListH.list___mul___list_int_3 l its.toArray n k t hfit hcap hlong) ⟨e,?_⟩⟩)
 rw [hnew]
 exact ⟨.ref _,_,I.lnew (t':=s.toks) (r.rep k.toNat) (by rw [v1b,Nat.mul_comm];exact hz),rfl,q _ I.fresh⟩
noncomputable def dMulX:D→D→Res D
 | .int i,.int j=>dMul (.int i) (.int j)
 | .lst ds,.int k=>gd (-(2^63)≤k∧k<2^63∧ds.length*k.toNat≤sizeLine) (.ok (.lst (List.replicate k.toNat ds).flatten))
 | .tup ds,.int k=>gd (2≤k∧k≤1000∧ds.isEmpty=false∧ds.length*k.toNat≤sizeLine) (.ok (.tup (List.replicate k.toNat ds).flatten))
 | _,_=>.bad
theorem u1H:OpR X (binaryOp .Mult) (rD X.K dMulX):=by
 intro pins s σ H x y v u Q I rx ry ⟨F,dx,dy,fh,px,py,q⟩
 unfold dMulX at q
 split at q
 ·exact o_mul pins s σ H x y v u Q I rx ry ⟨F,_,_,fh,px,py,q⟩
 ·obtain ⟨⟨h1,h2,h3⟩,q⟩:=u3G q
  cases py
  cases px with
  | lst hq hs=>exact op_repR pins s σ H _ _ v u Q I rx ry ⟨_,_,_,rfl,rfl,hq.same fh,h1,h2,by rw [hs.length];exact h3,fun p n=>q _ _ _ (Stp.new fh n) (.lst (.inl u0k) ((hs.rep _).same (Stp.new fh n).ff))⟩
 ·obtain ⟨⟨h1,h2,h3,h4⟩,q⟩:=u3G q
  cases py
  cases px with
  | tup hq hs=>exact op_repT pins s σ H _ _ v u Q I rx ry ⟨_,_,_,rfl,rfl,fh.seqT hq,h1,h2,(fun e=>by subst e;cases hs;cases h3),by rw [hs.length];exact h4,fun p n=>q _ _ _ (Stp.new fh n) (.tup (.inl (.inl u0k)) ((hs.rep _).same (Stp.new fh n).ff))⟩
 ·exact q.elim
noncomputable abbrev dShr:=dI (fun _ j=>0≤j) fun i j=>.int (i / 2^j.toNat)
noncomputable abbrev dBand:=dI0 fun i j=>.int (Builtin.bitAnd i j)
theorem o_shr:OpR X (binaryOp .RShift) (rD X.K dShr):=v0Y op_shr fun _ _ _=>.int _
theorem o_band:OpR X (binaryOp .BitAnd) (rD X.K dBand):=u5E op_and fun _ _ _=>.int _
end
section
variable {P:Program}{w:World}{A:Around}{E:Value→Shared→Prop}
theorem u9e {it l:Addr}{items:Array Value} (ne:l≠it):∀ (n i:Nat) (s:Shared) (Q:List Value→Shared→Prop),s.heap.IsListIter it l i→s.heap.IsList l items→i+n≤items.size →
  (∀ h',h'.IsListIter it l (i+n)→Heap.SameBut it s.heap h'→Q ((items.toList.drop i).take n) { s with heap:=h' })→wpAny (model P w) A (draw (.ref it) n) Q E s
 | 0,i,s,Q,hit,_,_,hQ=>wpAny_pure (by simpa using hQ s.heap hit (Heap.SameBut.refl ..))
 | n+1,i,s,Q,hit,ht,hle,hQ=>by
  have lt:i<items.size:=by omega
  refine wpAny_bind (m:=pyNext (.ref it)) (wpAny_pyNext_list_item hit ht (x:=items[i]) (by simp [lt]) fun h₁ hit₁ hs₁=>wpAny_bind (wpAny_holding (u9e ne n (i+1) _ _ hit₁ (ht.extBut hs₁.extBut ne) (by omega) fun h₂ hit₂ hs₂=>wpAny_pure ?_)))
  have q:=hQ h₂ (by rw [show i+(n+1)=i+1+n by omega];exact hit₂) (hs₁.trans hs₂)
  rw [show items.toList.drop i=items[i]::items.toList.drop (i+1) by simp [List.drop_eq_getElem_cons,lt],List.take_succ_cons] at q
  exact q
theorem u9s {s:Shared}{l:Addr}{items:Array Value}{targets:List (Bool×(Value→Sem Unit))}{Q:Unit→Shared→Prop} (hh:A.handled=none) (ht:s.heap.IsList l items) (hn:targets.length=items.size) (hst:targets.findIdx? (·.1)=none)
  (h:∀ h',Heap.ExtBut s.heap.objs.size s.heap h'→wpAny (model P w) A (assignInOrder (targets.map (·.2)) items.toList) Q E { s with heap:=h' }):wpAny (model P w) A (unpack (.ref l) targets) Q E s:=by
 have ne:l≠s.heap.objs.size:=by obtain ⟨o,ho,_⟩:=id ht;exact Nat.ne_of_lt (Heap.lt_size ho)
 unfold unpack
 rw [hn,hst]
 refine wpAny_bind (wpAny_holding ?_)
 unfold unpackItems
 refine wpAny_bind ?_
 unfold notIterableAtAll
 refine wpAny_bind (wpAny_specialOf ht.typeIs slot_list_iter.lookup (wpAny_pure ?_))
 simp only [Bool.false_eq_true,if_false]
 refine wpAny_bind (wpAny_holding (wpAny_pyIter_list ht (wpAny_bind (wpAny_holding (u9e ne items.size 0 _ _ ⟨_,Heap.get?_push_size _ rfl,rfl,rfl⟩ (ht.push _) (by omega) fun h₁ hit₁ hs₁=>?_)))))
 rw [List.drop_zero,List.take_of_length_le (by simp),if_neg (by simp)]
 refine wpAny_bind (wpAny_holding (wpAny_pyNext_list_end hh hit₁ ((ht.push _).extBut hs₁.extBut ne) (by simp) fun h₂ he₂=>?_))
 simp only [Option.isSome_none,Bool.false_eq_true,if_false]
 exact wpAny_pure (h h₂ fun b o hb e=>he₂ b o hb (hs₁.extBut b o hb (Heap.get?_push_of_some _ e)))
end
section
variable {X:Cx}{xq:XQ}{e:Expr}{es:List Expr}{fe:Rho→Res D}{pos:Pos}
noncomputable def gLst (K:PySem.W.Frag) (n:Nat) (t:TGs):TG:=fun v σ H Q=>∃ a xs,v=.ref a∧SqL K H a xs∧xs.length=n∧t xs σ H Q
theorem pg_lst {k:Nat}{t:TGs}{n:Nat} (hc:X.calm=true) (h:PGs X es t) (hn:(assignEach es X.env).length=n:=by rfl) (hst:(assignEach es X.env).findIdx? (·.1)=none:=by rfl):PG X (.Tuple es k pos) (gLst X.K n t):=by
 intro pins s σ H v u Q I r ⟨a,xs,e1,hq,hl,hw⟩
 subst e1
 cases r
 obtain ⟨its,rv,ht,hz⟩:=I.list hq
 rw [assign_Tuple]
 refine wpAny_bind (wpAny_standAt (u9s (I.ok.hd hc) ht.isList (by simp [hn,← hl,rv.length]) hst fun h' hx=>?_))
 have I1:Inv X pins σ H { s with heap:=h' }:=I.kept (t':=s.toks) fun b o e=>hx b o (Nat.ne_of_lt (Heap.lt_size e)) e
 exact h pins _ σ H xs _ Q I1 (by simpa using rv) hw
noncomputable def asL (n:Nat):D→Res (List D)
 | .lst ds=>if ds.length=n then .ok ds else .bad
 | _=>.bad
theorem v3v {k n:Nat}{ix:List Nat}{tgs:List Expr}{gs:List D→Rho→Res Rho} (hc:X.calm=true) (h:DGs X tgs ix gs) (hn:(assignEach tgs X.env).length=n:=by rfl) (hst:(assignEach tgs X.env).findIdx? (·.1)=none:=by rfl) :
  DG X (.Tuple tgs k pos) ix (fun d ρ=>(asL n d).bind fun ds=>gs ds ρ) :=
 ⟨fun pins s σ H v u Q I rv ⟨B,F,ρ,d,R,p,q⟩=>pg_lst hc h.out hn hst pins s σ H v u Q I rv (by
  have q1:=Res.all_bind.mp q
  cases p with
  | @lst a xs ds hq hs =>
   unfold asL at q1
   dsimp only at q1
   by_cases z:ds.length=n
   ·rw [if_pos z] at q1
    exact ⟨a,xs,rfl,.inl (hq.same R.fh),hs.length.trans z,B,F,ρ,ds,R,hs,q1⟩
   ·rw [if_neg z] at q1;exact q1.elim
  | _=>exact q1.elim)⟩
theorem u9d {x:Str}{p apos cpos:Pos} (i:Nat) (hN:X.N[i]?=some x:=by rfl) (hv:Vis X.env.scope x:=by first | exact Or.inl rfl | exact Or.inr (Or.inl rfl) | exact Or.inr (Or.inr rfl)) (hd:(x==("__debug__":Str))=false:=by decide) (hcd:(x==("__classdict__":Str))=false:=by decide)
  (hbase:attributeBase (.Name x p) "clear" X.env (eval (.Name x p) X.env)=eval (.Name x p) X.env:=by rfl) (hline:(apos.endLine==cpos.line)=true:=by rfl)
  (hsw:swapsWith (.Call (.Attribute (.Name x p) "clear" apos) [] [] cpos) none pos.line X.env=pure false:=by rfl) :
  DS X xq (.Expr (.Call (.Attribute (.Name x p) "clear" apos) [] [] cpos) pos) (fun ρ=>(getL ρ i).go ρ fun ds=>.nx (ρ.set i (some (.own (.l []))))) :=
 DS.of (u8d (pe_bm0 PySem.F.plainAttrs_list PySem.F.slot_list_clear PySem.F.type_list_clear v2J (u4h hN hv hd hcd) hbase hline) hsw) fun B F ρ σ H T R q=>by
  obtain ⟨ds,e1,q1⟩:=v1v (u1m q.out)
  obtain ⟨l,h,h1,h2,h3,h4,h5⟩:=R.own i _ e1
  cases h5 with
  | l hs=>exact ⟨.ref l,h1,.inl ⟨rfl,_,.inl (.inl h4)⟩,l,_,rfl,rfl,h4,q1 σ F _ (R.write (e:=e1) h1 (.l .nil))⟩
noncomputable def strI:D→Res Str
 | .int i=>gd (i.natAbs.log2<1920∧((toString i:Str)).length≤600) (.ok (toString i:Str))
 | _=>.bad
noncomputable def gStrI:List D→Res D
 | [d]=>(strI d).bind fun z=>.ok (.str z)
 | _=>.bad
theorem c_str:CallR X (.type "str") (rDs X.K gStrI):=by
 intro pins s σ H xs us Q I r ⟨F,ds,fh,ps,q⟩
 unfold gStrI at q
 split at q
 ·obtain ⟨v,rfl,pv⟩:=rps1 ps
  have q:=Res.all_bind.mp q
  cases pv with
  | int i =>
   obtain ⟨⟨h1,h2⟩,q⟩:=u3G (show (gd _ _).all _ _ from q)
   exact u7y pins s σ H _ us Q I r ⟨i,rfl,h1,q _ F H (Stp.refl fh) (.str (Nat.le_trans h2 (by decide)))⟩
  | _=>exact q.elim
 ·exact q.elim
structure DJ (X:Cx) (xq:XQ) (es:List Expr) (n:Nat) (f:Rho→Res Str):Prop where
 out:∀ (pins:List (Addr×Obj)) (s:Shared) (σ:St) (H:Hp) (Q:VK) (acc:Str),Inv X pins σ H s→acc.length+n≤sizeLine →
  (∃ B F ρ,Rel X.K B ρ σ F H∧(f ρ).all (fun z=>z.length≤n→∀ F' H',Stp F H F' H'→Q (.str (acc++z)) H') (ErrK X.K xq B ρ σ)) →
  wpAny (model X.prog X.w) X.A (joinParts acc (evalEach es X.env)) (EP X pins σ Q) X.xe s
theorem v2c (z:Str):z++Str.empty=z:=by
 show (⟨z.cps++#[]⟩:Str)=z
 rw [Array.append_empty]
theorem v1E (z:Str):Str.empty++z=z:=by
 show (⟨#[]++z.cps⟩:Str)=z
 rw [Array.empty_append]
theorem u7K (a b c:Str):a++b++c=a++(b++c):=by
 show (⟨a.cps++b.cps++c.cps⟩:Str)=⟨a.cps++(b.cps++c.cps)⟩
 rw [Array.append_assoc]
theorem v1J:DJ X xq [] 0 (fun _=>.ok Str.empty):=⟨fun pins s σ H Q acc I hz ⟨B,F,ρ,R,q⟩=>by
 have h2:=q (Nat.le_refl 0) F H (Stp.refl R.fh)
 rw [v2c] at h2
 exact joinParts_nil ⟨.str acc,H,I.tok _,⟨_,rfl⟩,h2⟩ hz⟩
theorem dj_c {z:Str}{j:Nat}{n:Nat}{f:Rho→Res Str} (h:DJ X xq es n f):DJ X xq (.Constant (.str z) j pos::es) (z.length+n) (fun ρ=>(f ρ).bind fun y=>.ok (z++y)):=⟨fun pins s σ H Q acc I hz ⟨B,F,ρ,R,q⟩=>by
 show wpAny _ _ (joinParts acc (eval (.Constant (.str z) j pos) X.env::evalEach es X.env)) _ _ _
 refine joinParts_cons (thn (v3m (x:=z) (j:=j) (pos:=pos) pins s σ H (fun v H'=>v=.str z∧H'=H) I ⟨rfl,rfl⟩) fun v s1 ⟨x,H1,I1,r1,e1,e2⟩=>?_)
 subst e1
 subst e2
 obtain ⟨t,rfl⟩:=r1
 have hl:(acc++z).length=acc.length+z.length:=u1h acc z
 refine ⟨by omega,h.out pins s1 σ H1 Q (acc++z) I1 (by omega) ⟨B,F,ρ,R,Res.all_mono (Res.all_bind.mp q) (fun y k hy F' H' st=>?_) fun _ e=>e⟩⟩
 rw [u7K]
 exact k (by rw [u1h];omega) F' H' st⟩
theorem dj_i {n:Nat}{f:Rho→Res Str} (he:DE X xq e fe) (h:DJ X xq es n f):DJ X xq (.FormattedValue e (-1) none pos::es) (600+n) (fun ρ=>(fe ρ).bind fun d=>(strI d).bind fun z=>(f ρ).bind fun y=>.ok (z++y)):=⟨fun pins s σ H Q acc I hz ⟨B,F,ρ,R,q⟩=>by
 show wpAny _ _ (joinParts acc (eval (.FormattedValue e (-1) none pos) X.env::evalEach es X.env)) _ _ _
 refine joinParts_cons (FormattedValue_plain (thn (he.out pins s σ H (fun v H1=>∃ d F1,Stp F H F1 H1∧Rp X.K F1 v d∧(((strI d).bind fun z=>(f ρ).bind fun y=>Res.ok (z++y))).all (fun z=>z.length≤600+n→∀ F' H',Stp F H F' H'→Q (.str (acc++z)) H') (ErrK X.K xq B ρ σ)) I
  ⟨B,F,ρ,R,Res.all_mono (Res.all_bind.mp q) (fun d k v F' H' st p=>⟨d,F',st,p,k⟩) fun _ e=>e⟩) fun v s1 ⟨x,H1,I1,r1,d,F1,st,p,k⟩=>?_))
 have k:=Res.all_bind.mp k
 cases p with
 | int i =>
  obtain ⟨⟨h1,h2⟩,k⟩:=u3G (show (gd _ _).all _ _ from k)
  obtain ⟨t,rfl⟩:=r1
  refine formatField_int_small h1 ?_
  have hl:(acc++(toString i:Str)).length=acc.length+(toString i:Str).length:=u1h acc _
  refine ⟨by omega,h.out pins _ σ H1 Q _ ((I1.tok _).tok _) (by omega) ⟨B,F1,ρ,R.step st,Res.all_mono (Res.all_bind.mp k) (fun y k2 hy F' H' st2=>?_) fun _ e=>e⟩⟩
  rw [u7K]
  exact k2 (by rw [u1h];omega) F' H' (st.trans st2)
 | _=>exact k.elim⟩
theorem v1M {e2:Expr}{n:Nat}{f:Rho→Res Str} (h:DJ X xq (e::e2::es) n f) (hn:n≤sizeLine:=by decide):DE X xq (.JoinedStr (e::e2::es) pos) (fun ρ=>(f ρ).bind fun z=>gd (z.length≤n) (.ok (.str z))) :=
 ⟨fun pins s σ H Q I ⟨B,F,ρ,R,q⟩=>JoinedStr_many (h.out pins s σ H Q Str.empty I (by rw [show Str.empty.length=0 from rfl];omega) ⟨B,F,ρ,R,Res.all_mono (Res.all_bind.mp q) (fun z k hz F' H' st=>by
  rw [v1E]
  rw [u0K hz] at k
  exact k _ F' H' st (.str (Nat.le_trans hz hn))) fun _ e=>e⟩)⟩
end
mutual
noncomputable def hardD:D→Bool
 | .non | .bl _ | .int _ | .str _ | .ty _=>true
 | .tup ds=>hardDs ds
 | .ins _ gs=>hardFs gs
 | _=>false
noncomputable def hardDs:List D→Bool
 | []=>true
 | d::ds=>hardD d&&hardDs ds
noncomputable def hardFs:List (Str×D)→Bool
 | []=>true
 | (_,d)::ds=>hardD d&&hardFs ds
end
section
variable {K:PySem.W.Frag}{F:Hp}{T:Addr→Prop}
open Classical in
noncomputable def woT (F:Hp) (T:Addr→Prop):Hp:=fun a=>if T a then none else F a
theorem u5y {a:Addr} (h:¬ T a):woT F T a=F a:=if_neg h
mutual
theorem Rp.hard (hT:∀ a,T a→∃ xs,Rd F a (.lst xs)):∀ {v:V}{d:D},Rp K F v d→hardD d=true→Rp K (woT F T) v d
 | _,_,.non,_=>.non
 | _,_,.bl b,_=>.bl b
 | _,_,.int i,_=>.int i
 | _,_,.str h,_=>.str h
 | _,_,.ty T,_=>.ty T
 | _,_,.lst _ _,h=>by simp [hardD] at h
 | _,_,.tup (a:=a) hq hs,h=>by
  refine .tup ?_ (Rps.hard hT hs (by simpa [hardD] using h))
  rcases hq with (q | ⟨o,q⟩) | q
  ·refine .inl (.inl ((u5y fun t=>?_).trans q))
   obtain ⟨xs,z | ⟨o,z⟩⟩:=hT a t
   ·rw [q] at z;cases z
   ·rw [q] at z;cases z
  ·refine .inl (.inr ⟨o,(u5y fun t=>?_).trans q⟩)
   obtain ⟨xs,z | ⟨o,z⟩⟩:=hT a t
   ·rw [q] at z;cases z
   ·rw [q] at z;cases z
  ·exact .inr q
 | _,_,.dK _ _,h=>by simp [hardD] at h
 | _,_,.ins (a:=a) q hs,h=>by
  refine .ins ((u5y fun t=>?_).trans q) (Rpf.hard hT hs (by simpa [hardD] using h))
  obtain ⟨xs,z | ⟨o,z⟩⟩:=hT a t
  ·rw [q] at z;cases z
  ·rw [q] at z;cases z
 | _,_,.exc _ _ _,h=>by simp [hardD] at h
 | _,_,.dn _ _,h=>by simp [hardD] at h
theorem Rps.hard (hT:∀ a,T a→∃ xs,Rd F a (.lst xs)):∀ {v:List V}{d:List D},Rps K F v d→hardDs d=true→Rps K (woT F T) v d
 | _,_,.nil,_=>.nil
 | _,_,.cons h hs,z=>by
  have z:=Bool.and_eq_true_iff.mp z
  exact .cons (Rp.hard hT h z.1) (Rps.hard hT hs z.2)
theorem Rpf.hard (hT:∀ a,T a→∃ xs,Rd F a (.lst xs)):∀ {v:List (Str×V)}{d:List (Str×D)},Rpf K F v d→hardFs d=true→Rpf K (woT F T) v d
 | _,_,.nil,_=>.nil
 | _,_,.cons h hs,z=>by
  have z:=Bool.and_eq_true_iff.mp z
  exact .cons (Rp.hard hT h z.1) (Rpf.hard hT hs z.2)
end
end
noncomputable def ownL (ρ:Rho):Bool:=ρ.all fun
 | some (.own (.l _))=>true
 | some (.own _)=>false
 | _=>true
noncomputable def isOwn (ρ:Rho) (σ:St) (a:Addr):Prop:=∃ (i:Nat) (o:OD),ρ[i]?=some (some (.own o))∧σ[i]?=some (some (.ref a))
open Classical in
theorem Rel.frz2 {K:PySem.W.Frag}{B:Hp×Hp}{ρ:Rho}{σ:St}{F H:Hp} (r:Rel K B ρ σ F H):∃ F',Same F F'∧Rel K B (L2.frz ρ) σ F' H∧∀ a,F a=none→F' a≠none→isOwn ρ σ a:=by
 let F':Hp:=fun a=>if isOwn ρ σ a then H a else F a
 have hT:∀ a,isOwn ρ σ a→F a=none∧B.2 a=none:=fun a ⟨i,o,e,q⟩=>by
  obtain ⟨b,h,h1,h2,h3,_⟩:=r.own i o e
  rw [q] at h1;cases h1;exact ⟨h2,h3⟩
 have e1:Same F F':=fun a o e=>by
  show (if isOwn ρ σ a then H a else F a)=some o
  by_cases q:isOwn ρ σ a
  ·rw [(hT a q).1] at e;cases e
  ·rw [if_neg q];exact e
 have e2:Same F' H:=fun a o e=>by
  have e':(if isOwn ρ σ a then H a else F a)=some o:=e
  by_cases q:isOwn ρ σ a
  ·rw [if_pos q] at e';exact e'
  ·rw [if_neg q] at e';exact r.fh a o e'
 refine ⟨F',e1,⟨⟨r.st.ff.trans e1,e2,r.st.hh,fun a q z=>?_⟩,?_,?_,?_,?_⟩,fun a n q=>?_⟩
 ·show (if isOwn ρ σ a then H a else F a)=none
  by_cases t:isOwn ρ σ a
  ·exact absurd (hT a t).2 z
  ·rw [if_neg t];exact r.st.no a q z
 ·rw [r.len];unfold L2.frz;simp
 ·intro i d e
  obtain ⟨y,h1,h2⟩:=u3R e
  cases y with
  | val d'=>cases h2;obtain ⟨v,q1,q2⟩:=r.val i d h1;exact ⟨v,q1,q2.same e1⟩
  | own o =>
   cases h2
   obtain ⟨a,h,q1,q2,q3,q4,q5⟩:=r.own i o h1
   have t:isOwn ρ σ a:=⟨i,o,h1,q1⟩
   exact ⟨.ref a,q1,Ro.rp (Ro.same e1 q5) (show (if isOwn ρ σ a then H a else F a)=some h by rw [if_pos t];exact q4)⟩
 ·intro i o e
  obtain ⟨y,h1,h2⟩:=u3R e
  cases y <;> cases h2
 ·intro i j o u a e
  obtain ⟨y,h1,h2⟩:=u3R e
  cases y <;> cases h2
 ·by_cases t:isOwn ρ σ a
  ·exact t
  ·exact absurd (show (if isOwn ρ σ a then H a else F a)=none by rw [if_neg t];exact n) q
section
variable {X:Cx}{xq:XQ}{e:Expr}{fe:Rho→Res D}
noncomputable def hardC (ρ:Rho) (d:D):Res D:=if ownL ρ=true∧hardD d=true then .ok d else .bad
theorem DE.hard (h:DE X xq e fe):DE X xq e (fun ρ=>(fe (frz ρ)).bind (hardC ρ)) :=
 DE.of h.out fun B F ρ σ H Q R q=>by
  obtain ⟨F1,e1,R1,ow⟩:=R.frz2
  refine ⟨B,F1,frz ρ,R1,Res.all_mono (Res.all_bind.mp q) (fun d q v F' H' s p=>?_) fun _ e=>e.frz⟩
  unfold hardC at q
  by_cases z:ownL ρ=true∧hardD d=true
  ·rw [if_pos z] at q
   have hT:∀ a,isOwn ρ σ a→F a=none∧∃ xs,Rd F' a (.lst xs):=fun a ⟨i,o,e,qa⟩=>by
    obtain ⟨b,hh,h1,h2,h3,h4,h5⟩:=R.own i o e
    rw [qa] at h1
    cases h1
    refine ⟨h2,?_⟩
    have ho:=List.all_eq_true.mp z.1 _ (List.mem_of_getElem? e)
    cases o with
    | l ds =>
     obtain ⟨v,k1,k2⟩:=R1.val i (.lst ds) (by unfold frz;rw [List.getElem?_map,e];rfl)
     rw [qa] at k1
     cases k1
     cases k2 with
     | lst hq hs=>exact ⟨_,hq.same s.ff⟩
    | _=>cases ho
   refine q v (woT F' (isOwn ρ σ)) H' ⟨fun a o ea=>?_,fun a o ea=>?_,s.hh,fun a n m=>?_⟩ (p.hard (fun a t=>(hT a t).2) z.2)
   ·by_cases t:isOwn ρ σ a
    ·rw [(hT a t).1] at ea;cases ea
    ·rw [u5y t];exact s.ff a o (e1 a o ea)
   ·by_cases t:isOwn ρ σ a
    ·unfold woT at ea;rw [if_pos t] at ea;cases ea
    ·rw [u5y t] at ea;exact s.fh a o ea
   ·by_cases t:isOwn ρ σ a
    ·unfold woT;rw [if_pos t]
    ·rw [u5y t]
     exact s.no a (Classical.byContradiction fun k=>t (ow a n k)) m
  ·rw [if_neg z] at q;exact q.elim
end
structure CompK (scope:Scope) (k0:Str):Prop where
 kind:scope.kind=.function
 cells:∀ n,cellsFrom n scope.names []=[(k0,n)]
 push:∀ h,pushCells h scope.names=h.push { cls:=.type "cell",data:=.cell none }
 loc:∀ y∈scope.names,y.2=.local→scope.names.lookup y.1=some .local
 nofree:∀ y∈scope.names,y.2≠.free
 only:∀ y∈scope.names,y.2=.cell→y.1=k0
noncomputable abbrev cxK (X:Cx) (k0:Str) (scope:Scope) (C c0:Addr) (s:Shared) (H:Hp) (fp:List Addr):Cx where
 prog:=X.prog
 w:=X.w
 K:=X.K
 mg:=X.mg
 base:=X.base
 A:=X.A
 N:=[k0]
 s₀:=s
 H₀:=H
 env:=compEnvC scope [(k0,c0)] C X.env
 outer:=X.stack
 stack:=X.stack
 ex:=fp
 fn:=fun _=>true
 calm:=X.calm
 pn:=[]
 xe:=fun _ _=>False
theorem lookK {k0 x:Str}{c0 c:Addr} (h:[(k0,c0)].lookup x=some c):c=c0:=by
 rw [List.lookup_cons] at h
 cases q:x==k0 with
 | true=>rw [q] at h;cases h;rfl
 | false=>rw [q] at h;cases h
theorem lookX {k0 x:Str}{c0 c:Addr} (h:[(k0,c0)].lookup x=some c):x=k0:=by
 rw [List.lookup_cons] at h
 cases q:x==k0 with
 | true=>exact eq_of_beq q
 | false=>rw [q] at h;cases h
section
variable {M:Model}{A:Around}{E:Value→Shared→Prop}{s:Shared}
theorem newEnvK {scope:Scope}{k0:Str}{globals:Addr}{qual:Str}{outer:Env}{Q:Env→Shared→Prop} (ok:CompK scope k0)
  (h:Q (newEnv scope s.heap.objs.size globals [(k0,s.heap.objs.size+1)] qual none .none (some outer) builtinsNs) { s with heap:=(s.heap.push { cls:=.type "dict",data:=.dict #[] }).push { cls:=.type "cell",data:=.cell none } }) :
  wpAny M A (newFunctionEnv scope globals [] [] qual none .none (some outer)) Q E s:=by
 simp only [newFunctionEnv,Option.isSome_some,if_true]
 refine wpAny_bind (wpAny_alloc (wpAny_bind (wpAny_layCells _ (fun name kind cells=>by cases hkc:kind==NameKind.cell <;> simp [hkc]) _ _ _ _ ?_)))
 rw [ok.cells,ok.push,show ({ s with heap:=s.heap.push { cls:=.type "dict",data:=.dict #[] } }:Shared).heap.objs.size=s.heap.objs.size+1 from Heap.size_push ..]
 exact wpAny_bind (wpAny_pure (wpAny_pure h))
end
section
variable {X:Cx}{pins:List (Addr×Obj)}{σ:St}{H:Hp}{s:Shared}{k0:Str}{scope:Scope}{C c0:Addr}{fp:List Addr}
theorem cxK_ok (I:Inv X pins σ H s) (ok:CompK scope k0) (hC:s.heap.objs.size≤C) (hc0:s.heap.objs.size≤c0) (hfp:∀ b∈fp,FpOk X pins H b) (hfs:∀ b∈fp,b<s.heap.objs.size):(cxK X k0 scope C c0 s H fp).Ok where
 mod:=I.ok.mod
 kind:=ok.kind
 glob:=I.ok.glob
 blt:=I.ok.blt
 above:=hC
 inj:=fun x y c h1 h2=>(lookX h1).trans (lookX h2).symm
 has:=fun x h=>by
  have e:(compEnvC scope [(k0,c0)] C X.env).kindOf x=(scope.names.lookup x).map fun k=>if (k==NameKind.free&&X.env.scope.kind==.function&&X.env.kindOf x==some .cell) then NameKind.cell else k:=u1V X.env scope.names x
  have h':(compEnvC scope [(k0,c0)] C X.env).kindOf x=some .cell∨(compEnvC scope [(k0,c0)] C X.env).kindOf x=some .free:=h
  rw [e] at h'
  cases q:scope.names.lookup x with
  | none=>rw [q] at h';simp at h'
  | some k =>
   have hm:=PySem.mem_of_lookup q
   have hk:(k==NameKind.free)=false:=by simpa using ok.nofree _ hm
   rw [q] at h'
   simp only [Option.map_some,hk,Bool.false_and,Bool.false_eq_true,if_false,Option.some.injEq] at h'
   have kc:k=.cell:=h'.elim id fun z=>absurd z (ok.nofree _ hm)
   have:=ok.only _ hm kc
   refine ⟨c0,?_⟩
   show [(k0,c0)].lookup x=some c0
   rw [show x=k0 from this,List.lookup_cons,beq_self_eq_true]
 cab:=fun x c _ h=>by rw [lookK h];exact hc0
 hd:=I.ok.hd
 frames:=I.ok.frames
 stk:=.inl rfl
 exf:=fun b hb=>⟨Nat.ne_of_lt (Nat.lt_of_lt_of_le (hfs b hb) hC),fun x c e=>by rw [lookK e];exact fun z=>Nat.lt_irrefl _ (Nat.lt_of_lt_of_le (z ▸ hfs b hb) hc0)⟩
 bs:=I.bs
 bsz:=Nat.le_trans I.ok.bsz I.sz
 noex:=fun b o e hb=>by
  rcases (hfp b hb).2.2.2.1 with z | z
  ·exact I.ok.noex b o e z
  ·have h1:b<X.base.objs.size:=Heap.lt_size e
   exact absurd (Nat.lt_of_lt_of_le h1 (Nat.le_trans I.ok.bsz z)) (Nat.lt_irrefl _)
 exfs:=fun b hb z=>by
  rcases List.mem_cons.mp (I.stkSub b z) with q | q
  ·exact (hfp b hb).2.1 q
  ·exact (hfp b hb).2.2.1 q
 funs:=I.stack
 frf:=I.stkFree
theorem v1n (I:Inv X pins σ H s) (ok:CompK scope k0) (hC:s.heap.objs.size≤C) (hc0:s.heap.objs.size≤c0) (hne:C≠c0) (hfp:∀ b∈fp,FpOk X pins H b) (hfs:∀ b∈fp,b<s.heap.objs.size) {h':Heap}{t':Nat}{m:Str→Option Value}
  (hk:∀ b o,s.heap.get? b=some o→h'.get? b=some o) (hn:h'.Ns C m) (hcl:h'.IsCell c0 none):Inv (cxK X k0 scope C c0 s H fp) [] (stC 1 [] σ) H { s with heap:=h',toks:=t' }:=by
 refine ⟨cxK_ok I ok hC hc0 hfp hfs,rfl,I.bare,Un.kept hk,⟨m,hn,fun i x v e1 e2 e3=>?_⟩,fun x c e=>⟨none,by rw [lookK e];exact hcl⟩,I.hok.fresh hC,fun x c e=>by rw [lookK e];exact I.hok.fresh hc0,fun p hp=>(nomatch hp),I.hok.kept hk,rfl⟩
 cases i with
 | zero=>cases e2
 | succ i=>cases e1
end
section
variable {X:Cx}{tg iter elt:Expr}{ifs:List Expr}{k0:Str}{scope:Scope}{wi:TI}{g:TG}{ti:TT}{te:TE}{pos:Pos}
theorem v0l {pins:List (Addr×Obj)}{σ:St}{H:Hp}{s:Shared}{it:Addr}{fp:List Addr}{tn:Nat→Heap→Prop}{J:It}{E:Value→Shared→Prop}{Q:VK} (hc:X.calm=true) (ok:CompK scope k0)
  (hg:∀ {C c0 fp},PG (cxK X k0 scope C c0 s H fp) tg g) (hf:∀ {C c0 fp},PIf (cxK X k0 scope C c0 s H fp) ifs ti) (he:∀ {C c0 fp},PE (cxK X k0 scope C c0 s H fp) elt te)
  (I:Inv X pins σ H s) (T:Turn X.prog X.w X.K tg J fp it tn) (st:tn 0 s.heap) (f2:∀ b∈fp,FpOk X pins H b)
  (hW:CompRd 1 [] σ g ti te J H Q)
  {RR:Value→Addr→Result→Shared→Prop}
  (hRR:∀ D C Hf s' m,s'.heap.Ns C m→Inv X pins σ Hf s'→Hf C=none→C≠X.env.locals→X.s₀.heap.objs.size≤C→(∀ x c,X.env.cells.lookup x=some c→c≠C)→(∀ p∈X.pn++pins,p.1≠C)→Q (.ref D) Hf→RR (.ref D) C (.ok .next) s') :
  wpAny (model X.prog X.w) X.A (newList []) (fun acc s₃=>wpAny (model X.prog X.w) X.A (newFunctionEnv scope X.env.globals [] [] X.env.qual none .none (some X.env)) (fun cenv s₄ =>
   codeAny (model X.prog X.w) X.A (.compStart (.ListComp elt [⟨tg,iter,ifs,0⟩] scope pos) 0 (.ref it) acc { cenv with scope:=relabel scope X.env }) (RR acc cenv.locals) s₄) E s₃) E s:=by
 obtain ⟨W,⟨m0,w0⟩,turn⟩:=hW
 have hfs:∀ b∈fp,@LT.lt Nat _ b s.heap.objs.size:=fun b hb=>let ⟨o,e,_⟩:=T.obj _ _ st b hb;Heap.lt_size e
 refine wpAny_newObj_type (newEnvK ok ?_)
 dsimp only
 generalize hH2:s.heap.push { cls:=.type "list",dict:=none,data:=.seq ([]:List Value).toArray }=H2
 have hC:H2.objs.size=s.heap.objs.size+1:=by rw [← hH2,Heap.size_push]
 have hns₁:((H2.push { cls:=.type "dict",data:=.dict #[] }).push { cls:=.type "cell",data:=.cell none }).Ns H2.objs.size (fun _=>none):=(Heap.Ns.new H2 (.type "dict")).keeps fun b o e=>Heap.get?_push_of_some _ e
 have hcel:((H2.push { cls:=.type "dict",data:=.dict #[] }).push { cls:=.type "cell",data:=.cell none }).IsCell (H2.objs.size+1) none:=⟨_,by rw [← Heap.size_push H2];exact Heap.get?_push_size _ rfl,rfl⟩
 have old0:∀ b o,H2.get? b=some o→((H2.push { cls:=.type "dict",data:=.dict #[] }).push { cls:=.type "cell",data:=.cell none }).get? b=some o:=fun b o e=>Heap.get?_push_of_some _ (Heap.get?_push_of_some _ e)
 generalize (H2.push { cls:=.type "dict",data:=.dict #[] }).push { cls:=.type "cell",data:=.cell none }=h₁ at hns₁ hcel old0 ⊢
 generalize eC:H2.objs.size=C at hns₁ hcel hC ⊢
 obtain ⟨c0,hc0⟩:∃ c0:Nat,C+1=c0:=⟨_,rfl⟩
 rw [hc0] at hcel ⊢
 have hDC:s.heap.objs.size≠C:=by omega
 have below:∀ b,b<s.heap.objs.size→b≠C∧b≠s.heap.objs.size:=fun b hb=>⟨by omega,by omega⟩
 have old:∀ b o,s.heap.get? b=some o→h₁.get? b=some o:=fun b o e=>old0 b o (hH2 ▸ Heap.get?_push_of_some _ e)
 have hacc:h₁.PlainList s.heap.objs.size #[]:=⟨_,old0 _ _ (hH2 ▸ Heap.get?_push_size _ rfl)⟩
 have hst₁:tn 0 h₁:=T.keep _ _ _ st fun b _ o e=>old b o e
 have fresh:∀ a,s.heap.objs.size≤a→s.heap.get? a=none:=fun a ha=>by
  cases e:s.heap.get? a with
  | none=>rfl
  | some o'=>exact absurd (Heap.lt_size e) (Nat.not_lt.mpr ha)
 obtain ⟨D,hD⟩:∃ D:Nat,s.heap.objs.size=D:=⟨_,rfl⟩
 rw [hD] at hDC hacc ⊢
 have hDs:s.heap.get? D=none:=fresh D (Nat.le_of_eq hD)
 have hCs:s.heap.get? C=none:=fresh C (by omega)
 have hDfp:D∉fp:=fun z=>by have:=hfs D z;omega
 have hI0:∀ t',Inv (cxK X k0 scope C c0 s H fp) [] (stC 1 [] σ) H { s with heap:=h₁,toks:=t' }:=fun t'=>v1n I ok (by omega) (by omega) (fun z=>by have z':@Eq Nat C c0:=z;omega) f2 hfs old hns₁ hcel
 have cellNe:∀ x c,[(k0,c0)].lookup x=some c→@Eq Nat c c0:=fun x c e=>lookK e
 have stkLt:∀ b∈frs X.stack,@LT.lt Nat _ b s.heap.objs.size:=fun b hb=>by
  obtain ⟨_,o,ho,_⟩:=I.stack.mem hb
  exact Heap.lt_size ho
 have stat:∀ {H':Hp}{oD:Obj},(∀ b∈fp,H' b=none)→∀ b∈fp,FpOk (cxK X k0 scope C c0 s H fp) [(D,oD)] H' b:=fun {H' oD} hn b hb=>by
  refine ⟨hn b hb,(below b (hfs b hb)).1,fun z=>?_,.inl hb,fun x c e z=>by
   have h1:=cellNe x c e
   have h2:=hfs b hb
   have z':@Eq Nat c b:=z
   omega,fun p hp z=>?_⟩
  ·rcases List.mem_cons.mp (I.stkSub b z) with q | q
   ·exact (f2 b hb).2.1 q
   ·exact (f2 b hb).2.2.1 q
  ·have:p=(D,oD):=by simpa using hp
   subst this
   exact hDfp (show D∈fp from (show D=b from z) ▸ hb)
 have loop:∀ s₃:Shared,s₃={ s with heap:=h₁,toks:=s.toks } →
   codeAny (model X.prog X.w) X.A (.compLoop (.ListComp elt [⟨tg,iter,ifs,0⟩] scope pos) 0 (.ref it) (.ref D) (compEnvC scope [(k0,c0)] C X.env)) (RR (.ref D) C) s₃:=by
  rintro s₃ rfl
  refine u3q (fun n s'=>∃ i ys us nn H',Inv (cxK X k0 scope C c0 s H fp) [(D,{ cls:=.type "list",data:=.seq us.toArray nn })] (stC 1 [] σ) H' s'∧tn i s'.heap∧(∀ b∈fp,H' b=none)∧Vals ys us∧W i n ys H') ?_ m0 ?_
  ·rintro n s3 ⟨i,ys,us,nn,H3,I3,st3,fr3,hv,w3⟩
   have hD3:=I3.pin (D,_) (List.mem_append_right _ List.mem_cons_self)
   obtain ⟨hz,ht⟩:=turn i n ys H3 w3
   rcases ht with ⟨stop,qn⟩ | ⟨go,NN,hNN,step⟩
   ·refine thn (T.done (cxK X k0 scope C c0 s H fp) rfl rfl rfl hc i _ s3 _ H3 _ I3 (stat fr3) st3 stop) fun r s4 ⟨hr,I4⟩=>?_
    subst hr
    have hD4:=I4.pin (D,_) (List.mem_append_right _ List.mem_cons_self)
    obtain ⟨m4,hn4,_⟩:=I4.loc
    have hC4:H3 C=none:=I4.free
    have hok:HOk X.prog X.w (upd H3 D (.lst ys)) s4.heap:=I4.hok.track hD4.2.1 ⟨hz,us,nn,hv,hD4.1⟩
    have hun:Un (frs X.stack) fp H (upd H3 D (.lst ys)) s.heap s4.heap:=Un.track I4.base hD4.2.1 hDs
    have I5:Inv X pins σ (upd H3 D (.lst ys)) s4:=I.call' I4.os hun hok I4.bare fun b hb=>⟨(f2 b hb).2.2.2.1,(f2 b hb).2.1,(f2 b hb).2.2.2.2.1,(f2 b hb).2.2.2.2.2⟩
    refine hRR D C _ s4 m4 hn4 I5 (by rw [u0r hDC.symm];exact hC4) ?_ ?_ ?_ ?_ (qn D hD4.2.1)
    ·intro z
     have h1:@LT.lt Nat _ X.env.locals s.heap.objs.size:=I.lt
     have z':@Eq Nat C X.env.locals:=z
     omega
    ·have h1:=I.sz
     exact Nat.le_trans h1 (by omega)
    ·intro x c e z
     obtain ⟨v,q⟩:=I.cell x c e
     have h1:@LT.lt Nat _ c s.heap.objs.size:=q.lt
     have z':@Eq Nat c C:=z
     omega
    ·intro p hp z
     have h1:@LT.lt Nat _ p.1 s.heap.objs.size:=Heap.lt_size (I.pin p hp).1
     have z':@Eq Nat p.1 C:=z
     omega
   ·refine thn (T.item (cxK X k0 scope C c0 s H fp) rfl rfl rfl hc i _ s3 _ H3 (fun _ _=>False) I3 (stat fr3) st3 go) fun r s4 ⟨u,hr,h4⟩=>?_
    subst hr
    refine thn h4 fun _ s5 ⟨x,H5,I5,r5,y5,st5,fr5⟩=>?_
    have I5':=I5.pinned (stat fr5) (T.obj _ _ st5)
    refine thn (hg _ s5 _ H5 x u _ I5' r5 (step x H5 y5)) fun _ s6 ⟨σ6,H6,I6,d6,q6⟩=>?_
    have weak:∀ {H7:Hp}{s7:Shared}{us':List Value}{nn':Nat},Inv (cxK X k0 scope C c0 s H fp) [(D,{ cls:=.type "list",data:=.seq us'.toArray nn' })] σ6 H7 s7→Inv (cxK X k0 scope C c0 s H fp) [(D,{ cls:=.type "list",data:=.seq us'.toArray nn' })] (stC 1 [] σ) H7 s7:=fun {H7 s7 us' nn'} I7=>by
     refine I7.weak (by have e:=I7.len;have e2:(cxK X k0 scope C c0 s H fp).N.length=1+0:=by simp
                        rw [e,e2];unfold stC;simp) fun j v e=>?_
     have hj:1≤j:=by
      by_cases hj:1≤j
      ·exact hj
      ·exfalso
       unfold stC at e
       rw [List.getElem?_append_left (by simp;omega),List.getElem?_replicate] at e
       split at e <;> cases e
     unfold stC at e
     rw [List.getElem?_append_right (by simp;omega),List.length_replicate,← d6,List.getElem?_drop] at e
     rw [show 1+(j - 1)=j by omega] at e
     exact e
    refine thn (hf _ s6 σ6 H6 _ I6 q6) fun b s7 ⟨H7,I7,q7⟩=>?_
    have keepT:∀ {H8:Hp}{s8:Shared},Inv (cxK X k0 scope C c0 s H fp) ([(D,{ cls:=.type "list",data:=.seq us.toArray nn })]++pinsAt fp s5.heap) σ6 H8 s8→(∀ b∈fp,∀ o,s5.heap.get? b=some o→s8.heap.get? b=some o)∧∀ b∈fp,H8 b=none:=fun {H8 s8} I8=>by
     refine ⟨fun b hb o e=>(I8.pin (b,o) (List.mem_append_right _ (List.mem_append_right _ (u2m hb e)))).1,fun b hb=>?_⟩
     obtain ⟨o,e,d⟩:=T.obj _ _ st5 b hb
     exact (I8.pin (b,o) (List.mem_append_right _ (List.mem_append_right _ (u2m hb e)))).2.1
    cases b with
    | false =>
     rw [if_neg (by simp)] at q7
     rw [if_neg (by simp)]
     obtain ⟨m',hm,w7⟩:=hNN _ _ q7
     exact ⟨m',hm,i+1,ys,us,nn,H7,weak I7.unpinned,T.keep _ _ _ st5 (keepT I7).1,(keepT I7).2,hv,w7⟩
    | true =>
     rw [if_pos rfl] at q7
     rw [if_pos rfl]
     refine thn (he _ s7 σ6 H7 _ I7 q7) fun u8 s8 ⟨y8,H8,I8,r8,q8⟩=>?_
     obtain ⟨m',hm,w8⟩:=hNN _ _ q8
     have hD8:=I8.pin (D,_) (List.mem_append_right _ (List.mem_append_left _ List.mem_cons_self))
     refine wpAny_list_append_plain (hsz:=by rw [List.size_toArray,← hv.length];exact hz) (x:=u8) ⟨nn,hD8.1⟩ fun h9 hl9 hs9=>?_
     obtain ⟨n9,e9⟩:=hl9
     have k9:∀ b o,b≠D→s8.heap.get? b=some o→h9.get? b=some o:=fun b o hb e=>(hs9.2 b hb).trans e
     have I8':Inv (cxK X k0 scope C c0 s H fp) [] σ6 H8 s8:=I8.pins_of fun p hp=>(nomatch hp)
     have I9:Inv (cxK X k0 scope C c0 s H fp) [] σ6 H8 { s8 with heap:=h9,toks:=s8.toks }:=I8'.turned k9 hD8.2.1 hDC (.inr (by show s.heap.objs.size≤D;omega)) (fun x c e z=>by have h1:=cellNe x c e;have z':@Eq Nat c D:=z;omega) (fun p hp=>(nomatch hp))
     have e9':h9.get? D=some { cls:=.type "list",data:=.seq (us++[u8]).toArray n9 }:=by
      rw [e9];simp
     have I9':Inv (cxK X k0 scope C c0 s H fp) [(D,{ cls:=.type "list",data:=.seq (us++[u8]).toArray n9 })] σ6 H8 { s8 with heap:=h9,toks:=s8.toks }:=I9.pins_of fun p hp=>by
      have:p=(D,{ cls:=.type "list",data:=.seq (us++[u8]).toArray n9 }):=by simpa using hp
      subst this
      refine ⟨e9',hD8.2.1,hDC,fun z=>?_,fun v z=>by cases z⟩
      have:=stkLt D z
      omega
     refine ⟨m',hm,i+1,ys++[y8],us++[u8],n9,H8,weak I9',?_,(keepT I8).2,hv.append (.cons r8 .nil),w8⟩
     exact T.keep _ _ _ st5 fun b hb o e=>k9 b o (fun z=>hDfp (show D∈fp from (show b=D from z) ▸ hb)) ((keepT I8).1 b hb o e)
  ·obtain ⟨n0,e0⟩:=hacc
   refine ⟨0,[],[],n0,H,(hI0 _).pins_of fun p hp=>?_,hst₁,fun b hb=>(f2 b hb).1,.nil,w0⟩
   have:p=(D,{ cls:=.type "list",data:=.seq ([]:List Value).toArray n0 }):=by simpa using hp
   subst this
   refine ⟨e0,I.hok.fresh (by omega),hDC,fun z=>?_,fun v z=>by cases z⟩
   have:=stkLt D z
   omega
 exact codeAny_compStart_list (loop _ rfl) (T.self _ 0 _ _ _ hst₁ (loop _ rfl))
theorem closK {scope:Scope}{env:Env} (h:∀ y∈scope.names,y.2≠NameKind.free):closureFor scope env=pure []:=by
 unfold closureFor
 dsimp only
 rw [forIn_yield_id (l:=scope.names) [] (fun x hx c=>by
  obtain ⟨name,kind⟩:=x
  have:(kind==NameKind.free)=false:=by simpa using h _ hx
  simp only [this,Bool.false_eq_true,if_false])]
 rfl
theorem v2A (k0:Str) (hc:X.calm=true) (ok:CompK scope k0) (hi:PI X tg iter wi)
  (hg:∀ {C c0 s H fp},PG (cxK X k0 scope C c0 s H fp) tg g) (hf:∀ {C c0 s H fp},PIf (cxK X k0 scope C c0 s H fp) ifs ti) (he:∀ {C c0 s H fp},PE (cxK X k0 scope C c0 s H fp) elt te)
  (hs:∀ x,foldedSetIterable iter X.env x=pure x:=by intro _;rfl):PE X (.ListComp elt [⟨tg,iter,ifs,0⟩] scope pos) (tComp 1 [] wi g ti te):=by
 intro pins s σ H Q I h
 rw [eval_ListComp]
 refine wpAny_comprehension_free (use:=none) rfl hs (closK ok.nofree) ok.kind ok.loc (thn (hi pins s σ H _ I h) fun xv s₁ h₁=>thn h₁ fun itv s₂ h₂=>?_)
 obtain ⟨it,fp,tn,J,H2,e,I2,T,st2,f2,hW⟩:=h₂
 subst e
 refine v0l (Q:=Q) (RR:=fun acc C=>compPost (model X.prog X.w) X.A X.xe none (EP X pins σ Q) acc C) hc ok hg hf he I2 T st2 f2 hW ?_
 intro D C Hf s' m hn I' hC hL hs0 hce hpi q
 refine ⟨m,hn,fun h' hs'=>?_⟩
 exact ⟨.ref D,Hf,I'.turned (t':=s'.toks) (fun b o hb e=>(hs'.2 b hb).trans e) hC hL (.inr hs0) hce hpi,rfl,q⟩
theorem v3d {xq:XQ}{fi:Rho→Res (List D)}{ix:List Nat}{g:D→Rho→Res Rho}{fA:Rho→Res Bool}{fe:Rho→Res D} (k0:Str) (hc:X.calm=true) (ok:CompK scope k0) (hi:DI X xq tg iter fi) (hg:∀ {C c0 s H fp},DG (cxK X k0 scope C c0 s H fp) tg ix g) (hf:∀ {C c0 s H fp},DF (cxK X k0 scope C c0 s H fp) xqF ifs fA) (he:∀ {C c0 s H fp},DE (cxK X k0 scope C c0 s H fp) xqF elt fe)
  (hix:∀ j∈ix,j<1:=by decide) (hs:∀ x,foldedSetIterable iter X.env x=pure x:=by intro _;rfl) :
  DN X xq (.ListComp elt [⟨tg,iter,ifs,0⟩] scope pos) (fun ρ=>(fi ρ).bind fun ds=>gd (ds.length≤sizeLine) ((compD g fA fe (rhoC 1 [] ρ) ds).bind fun ys=>.ok (.l ys))) :=
 ⟨fun pins s σ H Q I h=>v2A k0 hc ok hi.out (g:=liftG X.K ix g) (ti:=liftT X.K xqF fA) (te:=liftE X.K xqF fe) (fun {C c0 s H fp}=>hg.out) (fun {C c0 s H fp}=>hf.out) (fun {C c0 s H fp}=>he.out) hs pins s σ H Q I (u5i (k:=1) (outs:=[]) List.nodup_nil hix h)⟩
end
noncomputable def runT (n m:Nat) (t:Rho→Out) (ds:List D):Res D:=if ds.length=m then noE (outR (t (startD n ds))) else .bad
noncomputable def runX (n m:Nat) (t:Rho→Out) (ds:List D):Res D:=if ds.length=m then outR (t (startD n ds)) else .bad
section
variable {P:Program}{w:World}{K:PySem.W.Frag}{mg:Str→Option Value}{base:Heap}
theorem Fun.okT {x qual:Str}{st:Stmt}{f:Addr}{fd:FuncData}{N ps:List Str}{k:Nat}{t:Rho→Out} (F:Fun K x qual st f fd) (S:FnScope N ps (defScope st))
  (hbody:∀ (cdv:Value) (A:Around) (outer:List Env) (s:Shared) (H:Hp) (E:XK),Room k (A.deeper (envOfC qual (defScope st) s.heap.objs.size f cdv))→DB (cxOf CX0 P w K mg base N qual (defScope st) f cdv A outer s H E).nox xqF (defBody st) t) :
  FnOk P w K mg base CX0 (k+1) f fd ps (spF K (runT N.length ps.length t)):=by
 refine F.okD S (fun ds d h=>?_) fun cdv A outer s H E hr=>⟨t,hbody cdv A outer s H E hr,fun ds d h=>?_⟩
 ·unfold runT at h
  split at h
  ·assumption
  ·cases h
 ·unfold runT at h
  split at h
  ·cases q:outR (t (startD N.length ds)) with
   | ok d'=>rw [q] at h;exact h
   | err x=>rw [q] at h;cases h
   | bad=>rw [q] at h;cases h
  ·cases h
theorem Fun.okTX {x qual:Str}{st:Stmt}{f:Addr}{fd:FuncData}{N ps:List Str}{k:Nat}{t:Rho→Out} (F:Fun K x qual st f fd) (S:FnScope N ps (defScope st))
  (hbody:∀ (cdv:Value) (A:Around) (outer:List Env) (s:Shared) (H:Hp) (E:XK),Room k (A.deeper (envOfC qual (defScope st) s.heap.objs.size f cdv))→XqOk (cxR P w K mg base N qual (defScope st) f cdv A outer s H E) (xq0 E) →
   DB (cxR P w K mg base N qual (defScope st) f cdv A outer s H E) (xq0 E) (defBody st) t):FnOk P w K mg base (CXe P w) (k+1) f fd ps (spX K (runX N.length ps.length t)):=by
 refine F.okX S (fun ds h=>?_) fun cdv A outer s H E hr hq=>⟨t,hbody cdv A outer s H E hr hq,fun ds h=>?_⟩
 ·unfold runX at h
  split at h
  ·assumption
  ·exact absurd rfl h
 ·unfold runX at h ⊢
  split at h
  ·rename_i q;rw [if_pos q]
  ·exact absurd rfl h
end
section
variable {X:Cx}{w:World}{K:PySem.W.Frag}
theorem o_inW (hu:X.A.units+200<cLine) (ew:X.w=w:=by rfl):OpR X (compareOp .In) (rD X.K (dInA w false)):=by subst ew;exact o_inA hu
theorem dn_newW {xq:XQ}{pos:Pos} (ew:X.w=w:=by rfl):DN X xq (.Dict [] [] pos) (fun _=>.ok (.n (hashW w) [])):=by subst ew;exact dn_new
theorem u7q {xq:XQ}{cn nm:Str}{C':Addr}{i:Nat}{p pos:Pos}{b0:Stmt}{bs:List Stmt}{rest:List ExceptHandler}{fb:Rho→Out}{hr:D→Rho→Out} (hst:X.stack=X.env::X.outer∧X.env.frame=some X.env.locals) (hN:X.N.Nodup) (hm:X.mg cn=some (.ref C')) (hb:XBase K C')
  (hsu:∀ e,DB (cxH X e) xqF (b0::bs) fb) (hrs:DH X xq rest hr) (eK:X.K=K:=by rfl) (hi:X.N[i]?=some nm:=by rfl) (hl:X.env.scope.names.lookup nm=some .local:=by rfl) (hk:X.env.kindOf nm=some .local:=by rfl) (hg:Gl X cn:=by rfl) (hdb:(cn==("__debug__":Str))=false:=by decide) :
  DH X xq (.ExceptHandler (some (.Name cn p)) (some nm) (b0::bs) pos::rest) (hdAs K C' i fb hr):=by subst eK;exact dh_as hst hN hm hb hsu hrs hi hl hk hg hdb
theorem dh_noK {xq:XQ}{cn:Str}{C':Addr}{p pos:Pos}{b0:Stmt}{bs:List Stmt}{rest:List ExceptHandler}{fb:Rho→Out}{hr:D→Rho→Out} (hst:X.stack=X.env::X.outer∧X.env.frame=some X.env.locals) (hm:X.mg cn=some (.ref C')) (hb:XBase K C')
  (hsu:∀ e,DB (cxH X e) xqF (b0::bs) fb) (hrs:DH X xq rest hr) (eK:X.K=K:=by rfl) (hg:Gl X cn:=by rfl) (hdb:(cn==("__debug__":Str))=false:=by decide) :
  DH X xq (.ExceptHandler (some (.Name cn p)) none (b0::bs) pos::rest) (hdNo K C' fb hr):=by subst eK;exact dh_no hst hm hb hsu hrs hg hdb
end
section
variable {X:Cx}{xq:XQ}{i value:Expr}{fi fv:Rho→Res D}{x:Str}{p pos pos':Pos}{w:World}
theorem ds_putW (j:Nat) (hu:X.A.units+200<cLine) (hi:DE X xq i fi) (hv:DE X xq value fv) (ew:X.w=w:=by rfl) (hN:X.N[j]?=some x:=by rfl) (hvs:Vis X.env.scope x:=by first | exact Or.inl rfl | exact Or.inr (Or.inl rfl) | exact Or.inr (Or.inr rfl)) (hd:(x==("__debug__":Str))=false:=by decide) (hcd:(x==("__classdict__":Str))=false:=by decide)
  (hs:swapsWith value (some (.Subscript (.Name x p) i pos')) pos.line X.env=pure false:=by rfl):DS X xq (.Assign [.Subscript (.Name x p) i pos'] value pos) (fPutN w j fi fv):=by subst ew;exact ds_putN j hu hi hv hN hvs hd hcd hs
end
theorem u9M {sc:Scope}{env:Env} (h:∀ y∈sc.names,y.2≠NameKind.free):relabel sc env=sc:=by
 unfold relabel
 have:(sc.names.map fun (n,k)=>if (k==.free&&env.scope.kind==.function&&env.kindOf n==some .cell) then (n,NameKind.cell) else (n,k))=sc.names:=by
  conv=>rhs;rw [← List.map_id sc.names]
  refine List.map_congr_left fun y hy=>?_
  obtain ⟨n,k⟩:=y
  have:(k==NameKind.free)=false:=by simpa using h _ hy
  simp [this]
 simp only [this]
theorem v1T {sc scope:Scope}{env:Env}{N own:List Str}{outs:List Nat} (h:∀ y∈sc.names,y.2≠NameKind.free) (k:compB sc N own outs scope=true):CompOk (relabel sc env) N own outs scope:=by
 rw [u9M h];exact u0v k
end L2
namespace K05
open PySem L2 KW PySem.Spec PyProof.Rows
noncomputable def top (i:Nat):Stmt:=PySem.Challenge.pw_rulestable_k05_grammars_refused.main.body.getD i (.Pass ⟨0,0,0,0⟩)
noncomputable def meth (i j:Nat):Stmt:=match top i with
 | .ClassDef (body:=b) ..=>b.getD j (.Pass ⟨0,0,0,0⟩)
 | _=>.Pass ⟨0,0,0,0⟩
theorem hu64 {A:Around}{k:Nat} (hr:Room k A):A.units+64<cLine:=by have:=hr.un;omega
theorem hu100 {A:Around}{k:Nat} (hr:Room k A):A.units+100<cLine:=by have:=hr.un;omega
theorem hu200 {A:Around}{k:Nat} (hr:Room k A):A.units+200<cLine:=by have:=hr.un;omega
structure Adr where
 NoRule:Addr
 NoRanks:Addr
 TooMany:Addr
 NoHead:Addr
 Doubled:Addr
 TableError:Addr
 Grammar:Addr
structure Txt (K:PySem.W.Frag) (mg:Str→Option Value) (A:Adr):Prop where
 z_isinstance:mg "isinstance"=none
 z_str:mg "str"=none
 z_int:mg "int"=none
 z_bool:mg "bool"=none
 z_list:mg "list"=none
 z_tuple:mg "tuple"=none
 z_dict:mg "dict"=none
 z_len:mg "len"=none
 z_all:mg "all"=none
 z_range:mg "range"=none
 z_enumerate:mg "enumerate"=none
 z_sorted:mg "sorted"=none
 z_set:mg "set"=none
 g_SIDES:GloD K mg "SIDES" (.tup [(.str "left"),(.str "right"),(.str "none")])
 g_MOST_IN_BODY:GloD K mg "MOST_IN_BODY" (.int 4)
 g_MOST_IN_RANK:GloD K mg "MOST_IN_RANK" (.int 10)
 g_MOST_RULES:GloD K mg "MOST_RULES" (.int 20)
 g_MOST_HEADS:GloD K mg "MOST_HEADS" (.int 8)
 g_MOST_SIGNS:GloD K mg "MOST_SIGNS" (.int 10)
 g_MOST_RANKS:GloD K mg "MOST_RANKS" (.int 6)
 g_LONGEST:GloD K mg "LONGEST" (.int 6)
 g_IN_SIGNS:GloD K mg "IN_SIGNS" (.str "abcdefghijklmnopqrstuvwxyz0123456789+-*/()[]=<>,;.!?^&")
 g_GREAT:GloD K mg "GREAT" (.str "ABCDEFGHIJKLMNOPQRSTUVWXYZ")
 g_SMALL_AND_FIGURES:GloD K mg "SMALL_AND_FIGURES" (.str "abcdefghijklmnopqrstuvwxyz0123456789")
 m_NoRule:mg "NoRule"=some (.ref A.NoRule)
 b_NoRule:XBase K A.NoRule
 m_NoRanks:mg "NoRanks"=some (.ref A.NoRanks)
 b_NoRanks:XBase K A.NoRanks
 m_TooMany:mg "TooMany"=some (.ref A.TooMany)
 b_TooMany:XBase K A.TooMany
 m_NoHead:mg "NoHead"=some (.ref A.NoHead)
 b_NoHead:XBase K A.NoHead
 m_Doubled:mg "Doubled"=some (.ref A.Doubled)
 b_Doubled:XBase K A.Doubled
 m_TableError:mg "TableError"=some (.ref A.TableError)
 b_TableError:XBase K A.TableError
 cls:Cls K A.Grammar
 na_rules:NoAttr K A.Grammar "rules"
 na_ranks:NoAttr K A.Grammar "ranks"
 na_start:NoAttr K A.Grammar "start"
 x_found:XRead K "found" [A.NoRule,A.NoRanks,A.TooMany]
 x_head:XRead K "head" [A.NoHead]
 x_number:XRead K "number" [A.Doubled]
noncomputable abbrev u0X:Stmt:=top 13
theorem u4o:FnScope ["thing"] ["thing"] (defScope u0X):=⟨rfl,rfl,rfl,by decide +kernel,rfl,by decide +kernel,by decide +kernel⟩
noncomputable abbrev u1S:Stmt:=top 14
theorem u7Y:FnScope ["text","allowed"] ["text","allowed"] (defScope u1S):=⟨rfl,rfl,rfl,by decide +kernel,rfl,by decide +kernel,by decide +kernel⟩
noncomputable abbrev u2E:Stmt:=top 15
theorem u9B:FnScope ["thing"] ["thing"] (defScope u2E):=⟨rfl,rfl,rfl,by decide +kernel,rfl,by decide +kernel,by decide +kernel⟩
noncomputable abbrev u2J:Stmt:=top 16
theorem u9G:FnScope ["thing"] ["thing"] (defScope u2J):=⟨rfl,rfl,rfl,by decide +kernel,rfl,by decide +kernel,by decide +kernel⟩
noncomputable abbrev u1Q:Stmt:=top 17
theorem u6G:FnScope ["thing"] ["thing"] (defScope u1Q):=⟨rfl,rfl,rfl,by decide +kernel,rfl,by decide +kernel,by decide +kernel⟩
noncomputable abbrev u2I:Stmt:=top 26
theorem u9F:FnScope ["thing"] ["thing"] (defScope u2I):=⟨rfl,rfl,rfl,by decide +kernel,rfl,by decide +kernel,by decide +kernel⟩
noncomputable abbrev u2o:Stmt:=top 27
theorem u9H:FnScope ["thing"] ["thing"] (defScope u2o):=⟨rfl,rfl,rfl,by decide +kernel,rfl,by decide +kernel,by decide +kernel⟩
noncomputable abbrev u2G:Stmt:=top 28
theorem u9D:FnScope ["thing"] ["thing"] (defScope u2G):=⟨rfl,rfl,rfl,by decide +kernel,rfl,by decide +kernel,by decide +kernel⟩
noncomputable abbrev u2F:Stmt:=top 29
theorem u9C:FnScope ["thing"] ["thing"] (defScope u2F):=⟨rfl,rfl,rfl,by decide +kernel,rfl,by decide +kernel,by decide +kernel⟩
noncomputable abbrev u0J:Stmt:=top 30
theorem u4p:FnScope ["thing"] ["thing"] (defScope u0J):=⟨rfl,rfl,rfl,by decide +kernel,rfl,by decide +kernel,by decide +kernel⟩
noncomputable abbrev u2H:Stmt:=top 31
theorem u9E:FnScope ["thing"] ["thing"] (defScope u2H):=⟨rfl,rfl,rfl,by decide +kernel,rfl,by decide +kernel,by decide +kernel⟩
noncomputable abbrev u1R:Stmt:=top 32
theorem u7X:FnScope ["rules"] ["rules"] (defScope u1R):=⟨rfl,rfl,rfl,by decide +kernel,rfl,by decide +kernel,by decide +kernel⟩
noncomputable abbrev u2f:Stmt:=top 33
theorem u2Q:FnScope ["rules","found","rule","symbol"] ["rules"] (defScope u2f):=⟨rfl,rfl,rfl,by decide +kernel,rfl,by decide +kernel,by decide +kernel⟩
noncomputable abbrev u1E:Stmt:=top 34
theorem u2b:FnScope ["rules","ahead","number","rule"] ["rules"] (defScope u1E):=⟨rfl,rfl,rfl,by decide +kernel,rfl,by decide +kernel,by decide +kernel⟩
noncomputable abbrev u0D:Stmt:=top 35
theorem u0Z:FnScope ["rules","known","rule","symbol"] ["rules"] (defScope u0D):=⟨rfl,rfl,rfl,by decide +kernel,rfl,by decide +kernel,by decide +kernel⟩
noncomputable abbrev u0E:Stmt:=top 36
theorem u1z:FnScope ["rules","heads","signs"] ["rules"] (defScope u0E):=⟨rfl,rfl,rfl,by decide +kernel,rfl,by decide +kernel,by decide +kernel⟩
noncomputable abbrev u1F:Stmt:=top 37
theorem u2c:FnScope ["ranks","ahead","rank","sign"] ["ranks"] (defScope u1F):=⟨rfl,rfl,rfl,by decide +kernel,rfl,by decide +kernel,by decide +kernel⟩
noncomputable abbrev u2i:Stmt:=top 40
theorem u7W:FnScope ["_law_script","_law_k"] ["_law_script","_law_k"] (defScope u2i):=⟨rfl,rfl,rfl,by decide +kernel,rfl,by decide +kernel,by decide +kernel⟩
noncomputable abbrev u2g:Stmt:=top 41
theorem u3r:FnScope ["_law_cell_here","_law_k","_law_number"] ["_law_cell_here","_law_k"] (defScope u2g):=⟨rfl,rfl,rfl,by decide +kernel,rfl,by decide +kernel,by decide +kernel⟩
noncomputable abbrev u2C:Stmt:=top 42
theorem u2e:FnScope ["_law_script","_law_at","_law_base","_law_count","_law_cell_here","_law_left","_law_found","_law_k"] ["_law_script","_law_at","_law_base","_law_count"] (defScope u2C):=⟨rfl,rfl,rfl,by decide +kernel,rfl,by decide +kernel,by decide +kernel⟩
noncomputable abbrev u1C:Stmt:=top 43
theorem u3d:FnScope ["_law_cell_here","_law_many","_law_letters","_law_tail"] ["_law_cell_here","_law_many"] (defScope u1C):=⟨rfl,rfl,rfl,by decide +kernel,rfl,by decide +kernel,by decide +kernel⟩
noncomputable abbrev u1A:Stmt:=top 44
theorem u4c:FnScope ["_law_cell_here","_law_many","_law_some"] ["_law_cell_here","_law_many"] (defScope u1A):=⟨rfl,rfl,rfl,by decide +kernel,rfl,by decide +kernel,by decide +kernel⟩
noncomputable abbrev u1M:Stmt:=top 45
theorem u4d:FnScope ["_law_number","_law_some"] ["_law_number"] (defScope u1M):=⟨rfl,rfl,rfl,by decide +kernel,rfl,by decide +kernel,by decide +kernel⟩
noncomputable abbrev u1G:Stmt:=top 46
theorem u5X:FnScope ["_law_number","_law_heads_here","_law_signs_here"] ["_law_number","_law_heads_here","_law_signs_here"] (defScope u1G):=⟨rfl,rfl,rfl,by decide +kernel,rfl,by decide +kernel,by decide +kernel⟩
noncomputable abbrev u0A:Stmt:=top 47
theorem u0s:FnScope ["_law_script","_law_at","_law_heads_here","_law_signs_here","_law_more","_law_rules_here","_law_k","_law_draws","_law_head","_law_some","_law_body"] ["_law_script","_law_at","_law_heads_here","_law_signs_here","_law_more"] (defScope u0A):=⟨rfl,rfl,rfl,by decide +kernel,rfl,by decide +kernel,by decide +kernel⟩
noncomputable abbrev u1B:Stmt:=top 48
theorem u0O:FnScope ["_law_script","_law_at","_law_draws","_law_names","_law_signs_here","_law_rules_here","_law_head","_law_body","_law_symbols","_law_heads_here"] ["_law_script","_law_at"] (defScope u1B):=⟨rfl,rfl,rfl,by decide +kernel,rfl,by decide +kernel,by decide +kernel⟩
noncomputable abbrev u1O:Stmt:=top 49
theorem u1D:FnScope ["_law_script","_law_at","_law_draws","_law_pool","_law_ranks_here","_law_k","_law_side"] ["_law_script","_law_at"] (defScope u1O):=⟨rfl,rfl,rfl,by decide +kernel,rfl,by decide +kernel,by decide +kernel⟩
noncomputable abbrev u1b:Stmt:=top 50
theorem u5m:FnScope ["_law_thing"] ["_law_thing"] (defScope u1b):=⟨rfl,rfl,rfl,by decide +kernel,rfl,by decide +kernel,by decide +kernel⟩
noncomputable abbrev u1e:Stmt:=top 51
theorem u5p:FnScope ["_law_thing"] ["_law_thing"] (defScope u1e):=⟨rfl,rfl,rfl,by decide +kernel,rfl,by decide +kernel,by decide +kernel⟩
noncomputable abbrev u1c:Stmt:=top 52
theorem u5n:FnScope ["_law_thing"] ["_law_thing"] (defScope u1c):=⟨rfl,rfl,rfl,by decide +kernel,rfl,by decide +kernel,by decide +kernel⟩
noncomputable abbrev u0U:Stmt:=top 53
theorem u1X:FnScope ["_law_rules_here","_law_number","_law_rule"] ["_law_rules_here"] (defScope u0U):=⟨rfl,rfl,rfl,by decide +kernel,rfl,by decide +kernel,by decide +kernel⟩
noncomputable abbrev u0I:Stmt:=top 54
theorem u0N:FnScope ["_law_rules_here","_law_heads_here","_law_signs_here","_law_head","_law_body","_law_symbol_here"] ["_law_rules_here"] (defScope u0I):=⟨rfl,rfl,rfl,by decide +kernel,rfl,by decide +kernel,by decide +kernel⟩
noncomputable abbrev u1d:Stmt:=top 55
theorem u5o:FnScope ["_law_thing"] ["_law_thing"] (defScope u1d):=⟨rfl,rfl,rfl,by decide +kernel,rfl,by decide +kernel,by decide +kernel⟩
noncomputable abbrev u0V:Stmt:=top 56
theorem u1x:FnScope ["_law_ranks_here","_law_known","_law_rank","_law_sign"] ["_law_ranks_here"] (defScope u0V):=⟨rfl,rfl,rfl,by decide +kernel,rfl,by decide +kernel,by decide +kernel⟩
noncomputable abbrev u2D:Stmt:=top 57
theorem u3k:FnScope ["_law_rules_here","_law_ranks_here","_law_due_here"] ["_law_rules_here","_law_ranks_here"] (defScope u2D):=⟨rfl,rfl,rfl,by decide +kernel,rfl,by decide +kernel,by decide +kernel⟩
noncomputable abbrev u1P:Stmt:=top 58
theorem u4e:FnScope ["_law_thing","_law_kinds_here"] ["_law_thing"] (defScope u1P):=⟨rfl,rfl,rfl,by decide +kernel,rfl,by decide +kernel,by decide +kernel⟩
noncomputable abbrev u2h:Stmt:=top 59
theorem u7V:FnScope ["_law_told","_law_due_here"] ["_law_told","_law_due_here"] (defScope u2h):=⟨rfl,rfl,rfl,by decide +kernel,rfl,by decide +kernel,by decide +kernel⟩
noncomputable abbrev u1i:Stmt:=top 60
theorem u1J:FnScope ["_law_kind","_law_some"] ["_law_kind"] (defScope u1i):=⟨rfl,rfl,rfl,by decide +kernel,rfl,by decide +kernel,by decide +kernel⟩
noncomputable abbrev u0G:Stmt:=top 61
theorem u0T:FnScope ["_law_rules_here","_law_many","_law_found","_law_k","_law_bits","_law_rule"] ["_law_rules_here","_law_many"] (defScope u0G):=⟨rfl,rfl,rfl,by decide +kernel,rfl,by decide +kernel,by decide +kernel⟩
noncomputable abbrev u0Y:Stmt:=top 62
theorem u3D:FnScope ["_law_rules_here","_law_way","_law_at","_law_kind","_law_heads_here"] ["_law_rules_here","_law_way","_law_at","_law_kind"] (defScope u0Y):=⟨rfl,rfl,rfl,by decide +kernel,rfl,by decide +kernel,by decide +kernel⟩
noncomputable abbrev u1p:Stmt:=top 63
theorem u1a:FnScope ["_law_script","_law_rules_here","_law_k","_law_draws","_law_way","_law_kind"] ["_law_script"] (defScope u1p):=⟨rfl,rfl,rfl,by decide +kernel,rfl,by decide +kernel,by decide +kernel⟩
noncomputable abbrev u0W:Stmt:=top 64
theorem u4n:FnScope ["_law_ranks_here","_law_kind"] ["_law_ranks_here","_law_kind"] (defScope u0W):=⟨rfl,rfl,rfl,by decide +kernel,rfl,by decide +kernel,by decide +kernel⟩
noncomputable abbrev u0t:Stmt:=top 65
theorem u0j:FnScope ["_law_script","_law_ranks_here","_law_k","_law_way","_law_at","_law_kind","_law_odd"] ["_law_script"] (defScope u0t):=⟨rfl,rfl,rfl,by decide +kernel,rfl,by decide +kernel,by decide +kernel⟩
noncomputable abbrev u1s:Stmt:=top 66
theorem u0o:FnScope ["_law_rules_here","_law_ranks_here","_law_told","e"] ["_law_rules_here","_law_ranks_here"] (defScope u1s):=⟨rfl,rfl,rfl,by decide +kernel,rfl,by decide +kernel,by decide +kernel⟩
noncomputable abbrev u1N:Stmt:=top 67
theorem u6F:FnScope ["_law_grammar","_law_rules_here","_law_ranks_here"] ["_law_grammar","_law_rules_here","_law_ranks_here"] (defScope u1N):=⟨rfl,rfl,rfl,by decide +kernel,rfl,by decide +kernel,by decide +kernel⟩
noncomputable abbrev u5Y:Stmt:=top 68
theorem u4f:FnScope ["_law_script","_law_rules_here","_law_ranks_here","_law_due_here","_law_plain","_law_handed_here","_law_other","_law_grammar"] ["_law_script"] (defScope u5Y):=⟨rfl,rfl,rfl,by decide +kernel,rfl,by decide +kernel,by decide +kernel⟩
noncomputable def isStrD:D→Bool
 | .str _=>true
 | _=>false
noncomputable def isTupD:D→Bool
 | .tup _=>true
 | _=>false
noncomputable def isLstD:D→Bool
 | .lst _=>true
 | _=>false
theorem v3j {d:D} (h:selfD d=true):gIsA [d,.ty "str"]=.ok (.bl (isStrD d)):=by cases d <;> first | rfl | simp [selfD] at h
theorem u8x {d:D} (h:selfD d=true):gIsA [d,.ty "tuple"]=.ok (.bl (isTupD d)):=by cases d <;> first | rfl | simp [selfD] at h
theorem a_lst {d:D} (h:selfD d=true):gIsA [d,.ty "list"]=.ok (.bl (isLstD d)):=by cases d <;> first | rfl | simp [selfD] at h
theorem a_lt {d:D} (h:selfD d=true):gIsA [d,.tup [.ty "list",.ty "tuple"]]=.ok (.bl (isLstD d||isTupD d)):=by cases d <;> first | rfl | simp [selfD] at h
noncomputable def signT:Str:="abcdefghijklmnopqrstuvwxyz0123456789+-*/()[]=<>,;.!?^&"
noncomputable def greatT:Str:="ABCDEFGHIJKLMNOPQRSTUVWXYZ"
noncomputable def smallT:Str:="abcdefghijklmnopqrstuvwxyz0123456789"
@[simp] theorem fold_sign:Str.ofString "abcdefghijklmnopqrstuvwxyz0123456789+-*/()[]=<>,;.!?^&"=signT:=rfl
@[simp] theorem fold_great:Str.ofString "ABCDEFGHIJKLMNOPQRSTUVWXYZ"=greatT:=rfl
@[simp] theorem fold_small:Str.ofString "abcdefghijklmnopqrstuvwxyz0123456789"=smallT:=rfl
noncomputable def fstC (z:Str):Str:=⟨#[z.cps.getD 0 0]⟩
noncomputable def tailC (z:Str):Str:=Txt.slice z (some 1) none
noncomputable def onlyS (z a:Str):Bool:=z.cps.toList.all fun c=>inS ⟨#[c]⟩ a
noncomputable def shortS (z:Str):Bool:=decide (1≤z.length)&&decide (z.length≤6)
noncomputable def sgnS (z:Str):Bool:=shortS z&&onlyS z signT
noncomputable def hdS (z:Str):Bool:=shortS z&&(inS (fstC z) greatT&&onlyS (tailC z) smallT)
noncomputable def sgnD:D→Bool
 | .str z=>sgnS z
 | _=>false
noncomputable def hdD:D→Bool
 | .str z=>hdS z
 | _=>false
noncomputable def shortD:D→Bool
 | .str z=>shortS z
 | _=>false
noncomputable def symD (d:D):Bool:=sgnD d||hdD d
noncomputable def pairD:D→Bool
 | .tup [_,_]=>true
 | _=>false
noncomputable def bodyD:D→Bool
 | .tup ds=>decide (ds.length≤4)&&ds.all symD
 | _=>false
noncomputable def ruleD:D→Bool
 | .tup [h,b]=>hdD h&&bodyD b
 | _=>false
noncomputable def goodS (z:Str):Bool:=PyData.strOk z&&decide (z.length≤1000)
mutual
noncomputable def goodD:D→Bool
 | .non | .bl _ | .int _=>true
 | .str z=>goodS z
 | .lst ds | .tup ds=>goodDs ds
 | .dct ps=>ps.isEmpty
 | _=>false
noncomputable def goodDs:List D→Bool
 | []=>true
 | d::ds=>goodD d&&goodDs ds
end
mutual
theorem u0w:∀ {d:D},goodD d=true→selfD d=true
 | .non,_ | .bl _,_ | .int _,_ | .str _,_=>rfl
 | .lst ds,h=>u3Q (ds:=ds) h
 | .tup ds,h=>u3Q (ds:=ds) h
 | .dct ps,h=>h
 | .ty _,h=>by simp [goodD] at h
 | .ins _ _,h=>by simp [goodD] at h
 | .exc _ _,h=>by simp [goodD] at h
 | .dn _ _,h=>by simp [goodD] at h
theorem u3Q:∀ {ds:List D},goodDs ds=true→selfDs ds=true
 | [],_=>rfl
 | d::ds,h=>by
  have h:=Bool.and_eq_true_iff.mp h
  exact Bool.and_eq_true_iff.mpr ⟨u0w h.1,u3Q h.2⟩
end
theorem u6m:∀ {ds:List D},goodDs ds=true→∀ d∈ds,goodD d=true
 | [],_,d,h=>(List.not_mem_nil h).elim
 | x::ds,hs,d,h=>by
  have hs:=Bool.and_eq_true_iff.mp hs
  rcases List.mem_cons.mp h with rfl | h
  ·exact hs.1
  ·exact u6m hs.2 d h
theorem u2S {ds:List D} (h:goodD (.lst ds)=true):∀ d∈ds,goodD d=true:=u6m (by simpa [goodD] using h)
theorem u0F {ds:List D} (h:goodD (.tup ds)=true):∀ d∈ds,goodD d=true:=u6m (by simpa [goodD] using h)
noncomputable def P1 (p:D→Bool) (G:List D→Res D):Prop:=∀ d,goodD d=true→G [d]=.ok (.bl (p d))
theorem u7D {α:Type} (p:α→Bool):∀ l:List α,blsOf (l.map fun d=>D.bl (p d))=some (l.map p)
 | []=>rfl
 | x::l=>by simp [blsOf,u7D p l]
theorem u5j (z:Str):(chars z).length=z.length:=by unfold chars;rw [List.length_map,Array.length_toList];rfl
theorem u1Y {n:Nat} (h:n≤1000):n≤sizeLine:=Nat.le_trans h (by decide)
theorem u5W {z:Str} (h:shortS z=true):z.length≤6:=by
 unfold shortS at h
 simp at h
 exact h.2
@[simp] theorem v3a {α:Type} (p:α→Bool) (l:List α):gAll [.lst (l.map fun d=>D.bl (p d))]=.ok (.bl (l.all p)):=by
 show (match blsOf (l.map fun d=>D.bl (p d)) with | some bs=>Res.ok (D.bl (bs.all id)) | none=>.bad)=_
 rw [u7D]
 simp [List.all_map,Function.comp_def]
noncomputable def chIn (a:Str):D→Bool
 | .str c=>inS c a
 | _=>false
theorem u5l (z a:Str):((chars z).all fun d=>chIn a d)=onlyS z a:=by
 unfold chars onlyS
 rw [List.all_map]
 rfl
theorem v1S (z:Str):z.cps.toList.length=z.length:=by rw [Array.length_toList];rfl
theorem ix0 {z:Str} (c:shortS z=true):dIx (.str z) (.int 0)=.ok (.str (fstC z)):=by
 have h:0<z.length:=by unfold shortS at c;simp at c;omega
 have e:atI z.cps.toList 0=some (z.cps.getD 0 0):=by
  have:=u6t (xs:=z.cps.toList) (j:=0) (v:=z.cps.getD 0 0) (by
   have h':0<z.cps.size:=h
   rw [Array.getElem?_toList]
   simp [Array.getD,h'])
  exact this
 show (match atI z.cps.toList 0 with | some c=>Res.ok (D.str ⟨#[c]⟩) | none=>.bad)=_
 rw [e]
 rfl
theorem sl1 (z:Str):dSl (.str z) (some 1) none=.ok (.str (tailC z)):=rfl
theorem u6B (z:Str):(tailC z).length≤z.length:=by
 unfold tailC
 rw [← v1S,← v1S,u9y,List.length_drop]
 omega
noncomputable def sideD:D→Bool
 | .str z=>z=="left"||(z=="right"||z=="none")
 | _=>false
noncomputable def rsgD:D→Bool
 | .tup ds=>decide (1≤ds.length)&&(decide (ds.length≤10)&&ds.all sgnD)
 | _=>false
noncomputable def rankD:D→Bool
 | .tup [s,b]=>sideD s&&rsgD b
 | _=>false
theorem v2Y {z:Str} (h:goodD (.str z)=true):PyData.strOk z=true∧z.length≤1000:=by simpa [goodD,goodS] using h
theorem u2B {z:Str} (h:PyData.strOk z=true):cmpD (.str z)=.ok (.str z):=by
 have:SeqAt.shaped (.str z)=true:=by simp [SeqAt.shaped,PyData.canLay0,h,PyData.depth]
 simp [cmpD,D.py,this]
theorem u3T (a b:Str):PyData.eqv (.str a) (.str b)=(a==b):=rfl
theorem u8z (a b:Str):(a==b)=(b==a):=by
 rw [Bool.eq_iff_iff]
 simp only [beq_iff_eq]
 exact eq_comm
theorem v2U {z:Str} (h:PyData.strOk z=true):dIn (.str z) (.tup [.str "left",.str "right",.str "none"])=.ok (.bl (sideD (.str z))):=by
 have e1:cmpD (.str "left")=.ok (.str "left"):=u2B (by decide +kernel)
 have e2:cmpD (.str "right")=.ok (.str "right"):=u2B (by decide +kernel)
 have e3:cmpD (.str "none")=.ok (.str "none"):=u2B (by decide +kernel)
 show inD (.str z) _ false=_
 simp [inD,cmpDs,u2B h,e1,e2,e3,sideD,u3T,u8z z]
@[simp] theorem len_str (z:Str):gLen [.str z]=.ok (.int z.length):=rfl
@[simp] theorem len_tup (ds:List D):gLen [.tup ds]=.ok (.int ds.length):=rfl
@[simp] theorem len_lst (ds:List D):gLen [.lst ds]=.ok (.int ds.length):=rfl
theorem u4j (i j:Int):dEq (.int i) (.int j)=.ok (.bl (i==j)):=rfl
theorem ix_tn {ds:List D}{i:Nat}{d:D} (h:ds[i]?=some d):dIx (.tup ds) (.int i)=.ok d:=by
 show (match atI ds i with | some d=>Res.ok d | none=>.bad)=_
 rw [u6t h]
theorem v2R {ds:List D}{i:Nat}{d:D} (h:ds[i]?=some d):dIx (.lst ds) (.int i)=.ok d:=by
 show (match atI ds i with | some d=>Res.ok d | none=>.bad)=_
 rw [u6t h]
theorem ix_0 (x:D) (l:List D):dIx (.tup (x::l)) (.int 0)=.ok x:=ix_tn (i:=0) rfl
theorem ix_1 (x y:D) (l:List D):dIx (.tup (x::y::l)) (.int 1)=.ok y:=ix_tn (i:=1) rfl
theorem u5x (x:D) (l:List D):dIx (.lst (x::l)) (.int 0)=.ok x:=v2R (i:=0) rfl
theorem u3U (ds:List D):dEqX (.lst ds) (.lst [])=.ok (.bl ds.isEmpty):=by
 cases ds with
 | nil =>
  unfold dEqX
  rw [if_neg (by simp [lenNe]),if_pos ⟨rfl,by simp [selfD,selfDs],by simp [depD,depDs]⟩]
  rfl
 | cons x l =>
  unfold dEqX
  rw [if_pos (by simp [lenNe])]
  rfl
theorem neX_nil (ds:List D):dNeX (.lst ds) (.lst [])=.ok (.bl (!ds.isEmpty)):=by
 cases ds with
 | nil=>rfl
 | cons x l =>
  unfold dNeX
  rw [if_pos (by simp [lenNe])]
  rfl
theorem u3h (i j:Int):dNeX (.int i) (.int j)=.ok (.bl (!(i==j))):=rfl
theorem u2N {α:Type} (p:α→Bool) (l:List α):(l.filter fun x=>!p x).isEmpty=l.all p:=by
 induction l with
 | nil=>rfl
 | cons x l ih=>by_cases c:p x=true <;> simp [List.filter_cons,c,ih]
section
variable {P:Program}{w:World}{K:PySem.W.Frag}{mg:Str→Option Value}{base:Heap}{f:Addr}{fd:FuncData}{A:Adr}
theorem u4u (F:Fun K "is_short_text" "is_short_text" u0X f fd) (T:Txt K mg A):∃ G,FnOk P w K mg base CX0 1 f fd ["thing"] (spF K G)∧P1 shortD G:=by
 refine ⟨_,F.okT (k:=0) u4o (fun cdv Ar outer s H E hr=>u0e (u0h (u2X (d_B u2r T.z_isinstance (by decide +kernel) (u0a (dv 0) (u0a (d_ty T.z_str (T:="str") (by decide +kernel)) u0b))) (u3X (v1O o_le o_le u0c (d_B u1o T.z_len (by decide +kernel) (u0a (dv 0) u0b)) (u5f T.g_LONGEST)))))),?_⟩
 intro d h
 simp [runT,startD,v3j (u0w h)]
 cases d <;> simp [isStrD,shortD,gLen]
 rename_i z
 unfold shortS
 by_cases c:1≤z.length
 ·have c':(1:Int)≤z.length:=by omega
  simp [c,c']
  omega
 ·have c':¬ (1:Int)≤z.length:=by omega
  simp [c,c']
theorem u8j (F:Fun K "has_only" "has_only" u1S f fd) (T:Txt K mg A):∃ G,FnOk P w K mg base CX0 1 f fd ["text","allowed"] (spF K G)∧∀ z a,z.length≤1000→G [.str z,.str a]=.ok (.bl (onlyS z a)):=by
 refine ⟨_,F.okT (k:=0) u7Y (fun cdv Ar outer s H E hr=>u0e (u0h (d_B (c_all rfl) T.z_all (by decide +kernel) (u0a (DN.de (u1r ["mark"] [1] rfl (u0v (sc:=defScope u1S) (N:=["text","allowed"]) (by decide +kernel)) (u1n (dv 0)) (dg_n (show (["mark","allowed"]:List Str).Nodup by decide +kernel)) u2a (u3c (o_in (hu100 hr)) (dv 0) (dv 1)))) u0b)))),?_⟩
 intro z a hz
 simp [runT,startD]
 rw [show items (.str z)=.ok (chars z) from rfl,Res.bind_ok,u0K (by rw [u5j];exact u1Y hz),u2P (fun d=>D.bl (chIn a d)) (fun d hd=>?_)]
 ·simp only [Res.bind_ok,toD_l,v3a,u6Y,go_ok,outR_rt,u5l]
 ·obtain ⟨c,_,rfl⟩:=List.mem_map.mp hd
  refine ⟨_,rfl,rfl,?_⟩
  simp [rhoC]
  rfl
theorem u9S {G_is_short_text:List D→Res D} (c_is_short_text:Callee P w K mg base 1 "is_short_text" ["thing"] (spF K G_is_short_text)) {G_has_only:List D→Res D} (c_has_only:Callee P w K mg base 1 "has_only" ["text","allowed"] (spF K G_has_only)) (p_short:P1 shortD G_is_short_text) (p_only:∀ z a,z.length≤1000→G_has_only [.str z,.str a]=.ok (.bl (onlyS z a))) (F:Fun K "is_sign" "is_sign" u2E f fd) (T:Txt K mg A):∃ G,FnOk P w K mg base CX0 2 f fd ["thing"] (spF K G)∧P1 sgnD G:=by
 refine ⟨_,F.okT (k:=1) u9B (fun cdv Ar outer s H E hr=>u0e (u0h (u2X (d_fn c_is_short_text hr (u0a (dv 0) u0b)) (u3X (d_fn c_has_only hr (u0a (dv 0) (u0a (u5f T.g_IN_SIGNS) u0b))))))),?_⟩
 intro d h
 simp [runT,startD,p_short d h]
 cases d <;> simp [shortD,sgnD,sgnS]
 rename_i z
 by_cases c:shortS z=true
 ·simp [c,p_only z _ (by have:=u5W c;omega)]
 ·simp [c]
theorem u9X {G_is_short_text:List D→Res D} (c_is_short_text:Callee P w K mg base 1 "is_short_text" ["thing"] (spF K G_is_short_text)) {G_has_only:List D→Res D} (c_has_only:Callee P w K mg base 1 "has_only" ["text","allowed"] (spF K G_has_only)) (p_short:P1 shortD G_is_short_text) (p_only:∀ z a,z.length≤1000→G_has_only [.str z,.str a]=.ok (.bl (onlyS z a))) (F:Fun K "is_head" "is_head" u2J f fd) (T:Txt K mg A):∃ G,FnOk P w K mg base CX0 2 f fd ["thing"] (spF K G)∧P1 hdD G:=by
 refine ⟨_,F.okT (k:=1) u9G (fun cdv Ar outer s H E hr=>u0e (u0h (u2X (d_fn c_is_short_text hr (u0a (dv 0) u0b)) (u2X (u3c (o_in (hu100 hr)) (d_ix x_ix (dv 0) u0c) (u5f T.g_GREAT)) (u3X (d_fn c_has_only hr (u0a (d_sl (dv 0) (u1w u0c) u1Z) (u0a (u5f T.g_SMALL_AND_FIGURES) u0b)))))))),?_⟩
 intro d h
 simp [runT,startD,p_short d h]
 cases d <;> simp [shortD,hdD,hdS]
 rename_i z
 by_cases c:shortS z=true
 ·have e2:(tailC z).length≤1000:=by
   have:=u6B z
   have:=u5W c
   omega
  simp [c,ix0 c,asI,sl1,dIn,dInG,p_only _ smallT e2]
  by_cases k:inS (fstC z) greatT=true <;> simp [k]
 ·simp [c]
theorem u6R {G_is_sign:List D→Res D} (c_is_sign:Callee P w K mg base 2 "is_sign" ["thing"] (spF K G_is_sign)) {G_is_head:List D→Res D} (c_is_head:Callee P w K mg base 2 "is_head" ["thing"] (spF K G_is_head)) (p_is_sign:P1 sgnD G_is_sign) (p_is_head:P1 hdD G_is_head) (F:Fun K "is_symbol" "is_symbol" u1Q f fd) (T:Txt K mg A):∃ G,FnOk P w K mg base CX0 3 f fd ["thing"] (spF K G)∧P1 symD G:=by
 refine ⟨_,F.okT (k:=2) u6G (fun cdv Ar outer s H E hr=>u0e (u0h (d_or (d_fn c_is_sign hr (u0a (dv 0) u0b)) (u3X (d_fn c_is_head hr (u0a (dv 0) u0b)))))),?_⟩
 intro d h
 simp [runT,startD,p_is_sign d h,p_is_head d h,symD]
 by_cases c:sgnD d=true <;> simp [c]
theorem u9W (F:Fun K "is_pair" "is_pair" u2I f fd) (T:Txt K mg A):∃ G,FnOk P w K mg base CX0 1 f fd ["thing"] (spF K G)∧P1 pairD G:=by
 refine ⟨_,F.okT (k:=0) u9F (fun cdv Ar outer s H E hr=>u0e (u0h (u2X (d_B u2r T.z_isinstance (by decide +kernel) (u0a (dv 0) (u0a (d_ty T.z_tuple (T:="tuple") (by decide +kernel)) u0b))) (u3X (u3c (o_eq (hu64 hr)) (d_B u1o T.z_len (by decide +kernel) (u0a (dv 0) u0b)) u0c))))),?_⟩
 intro d h
 simp [runT,startD,u8x (u0w h)]
 cases d <;> simp [isTupD,pairD,gLen]
 rename_i ds
 rw [u4j]
 match ds with
 | []=>rfl
 | [_]=>rfl
 | [_,_]=>rfl
 | _::_::_::l=>simp [pairD];omega
theorem u9Y {G_is_symbol:List D→Res D} (c_is_symbol:Callee P w K mg base 3 "is_symbol" ["thing"] (spF K G_is_symbol)) (p_is_symbol:P1 symD G_is_symbol) (F:Fun K "is_body" "is_body" u2o f fd) (T:Txt K mg A):∃ G,FnOk P w K mg base CX0 4 f fd ["thing"] (spF K G)∧P1 bodyD G:=by
 refine ⟨_,F.okT (k:=3) u9H (fun cdv Ar outer s H E hr=>u0e (u0h (u2X (d_B u2r T.z_isinstance (by decide +kernel) (u0a (dv 0) (u0a (d_ty T.z_tuple (T:="tuple") (by decide +kernel)) u0b))) (u2X (u3c o_le (d_B u1o T.z_len (by decide +kernel) (u0a (dv 0) u0b)) (u5f T.g_MOST_IN_BODY)) (u3X (d_B (c_all rfl) T.z_all (by decide +kernel) (u0a (DN.de (u1r ["part"] [] rfl (u0v (sc:=defScope u2o) (N:=["thing"]) (by decide +kernel)) (u1n (dv 0)) (dg_n (show (["part"]:List Str).Nodup by decide +kernel)) u2a (d_fn c_is_symbol hr (u0a (dv 0) u0b)))) u0b))))))),?_⟩
 intro d h
 simp [runT,startD,u8x (u0w h)]
 cases d <;> simp [isTupD,bodyD,gLen]
 rename_i ds
 by_cases c:ds.length≤4
 ·have c':(ds.length:Int)≤4:=by omega
  simp [c,c']
  rw [show items (.tup ds)=.ok ds from rfl,Res.bind_ok,u0K (u1Y (by omega)),u2P (fun d=>D.bl (symD d)) (fun d hd=>?_)]
  ·simp
  ·exact ⟨_,rfl,rfl,by simp [rhoC,p_is_symbol d (u0F h d hd)]⟩
 ·have c':¬ (ds.length:Int)≤4:=by omega
  simp [c,c']
theorem u9U {G_is_pair:List D→Res D} (c_is_pair:Callee P w K mg base 1 "is_pair" ["thing"] (spF K G_is_pair)) {G_is_head:List D→Res D} (c_is_head:Callee P w K mg base 2 "is_head" ["thing"] (spF K G_is_head)) {G_is_body:List D→Res D} (c_is_body:Callee P w K mg base 4 "is_body" ["thing"] (spF K G_is_body)) (p_is_pair:P1 pairD G_is_pair) (p_is_head:P1 hdD G_is_head) (p_is_body:P1 bodyD G_is_body) (F:Fun K "is_rule" "is_rule" u2G f fd) (T:Txt K mg A):∃ G,FnOk P w K mg base CX0 5 f fd ["thing"] (spF K G)∧P1 ruleD G:=by
 refine ⟨_,F.okT (k:=4) u9D (fun cdv Ar outer s H E hr=>u0e (u0h (u2X (d_fn c_is_pair hr (u0a (dv 0) u0b)) (u2X (d_fn c_is_head hr (u0a (d_ix x_ix (dv 0) u0c) u0b)) (u3X (d_fn c_is_body hr (u0a (d_ix x_ix (dv 0) u0c) u0b))))))),?_⟩
 intro d h
 simp [runT,startD,p_is_pair d h]
 cases d <;> simp [pairD,ruleD]
 rename_i ds
 match ds,h with
 | [],_=>simp [pairD,ruleD]
 | [_],_=>simp [pairD,ruleD]
 | _::_::_::_,_=>simp [pairD,ruleD]
 | [x,y],h =>
  have h1:=p_is_head x (u0F h x (by simp))
  have h2:=p_is_body y (u0F h y (by simp))
  simp [pairD,ruleD,ix_0,ix_1,h1,h2]
  by_cases c:hdD x=true <;> simp [c]
theorem u9T (F:Fun K "is_side" "is_side" u2F f fd) (T:Txt K mg A):∃ G,FnOk P w K mg base CX0 1 f fd ["thing"] (spF K G)∧P1 sideD G:=by
 refine ⟨_,F.okT (k:=0) u9C (fun cdv Ar outer s H E hr=>u0e (u0h (u2X (d_B u2r T.z_isinstance (by decide +kernel) (u0a (dv 0) (u0a (d_ty T.z_str (T:="str") (by decide +kernel)) u0b))) (u3X (u3c (o_in (hu100 hr)) (dv 0) (u5f T.g_SIDES)))))),?_⟩
 intro d h
 simp [runT,startD,v3j (u0w h)]
 cases d <;> simp [isStrD]
 case str z=>rw [v2U (v2Y h).1];simp
 all_goals rfl
theorem u4v {G_is_sign:List D→Res D} (c_is_sign:Callee P w K mg base 2 "is_sign" ["thing"] (spF K G_is_sign)) (p_is_sign:P1 sgnD G_is_sign) (F:Fun K "is_rank_signs" "is_rank_signs" u0J f fd) (T:Txt K mg A):∃ G,FnOk P w K mg base CX0 3 f fd ["thing"] (spF K G)∧P1 rsgD G:=by
 refine ⟨_,F.okT (k:=2) u4p (fun cdv Ar outer s H E hr=>u0e (u0h (u2X (d_B u2r T.z_isinstance (by decide +kernel) (u0a (dv 0) (u0a (d_ty T.z_tuple (T:="tuple") (by decide +kernel)) u0b))) (u2X (v1O o_le o_le u0c (d_B u1o T.z_len (by decide +kernel) (u0a (dv 0) u0b)) (u5f T.g_MOST_IN_RANK)) (u3X (d_B (c_all rfl) T.z_all (by decide +kernel) (u0a (DN.de (u1r ["part"] [] rfl (u0v (sc:=defScope u0J) (N:=["thing"]) (by decide +kernel)) (u1n (dv 0)) (dg_n (show (["part"]:List Str).Nodup by decide +kernel)) u2a (d_fn c_is_sign hr (u0a (dv 0) u0b)))) u0b))))))),?_⟩
 intro d h
 simp [runT,startD,u8x (u0w h)]
 cases d <;> simp [isTupD,rsgD,gLen]
 rename_i ds
 by_cases c0:1≤ds.length
 ·have c0':(1:Int)≤ds.length:=by omega
  by_cases c:ds.length≤10
  ·have c':(ds.length:Int)≤10:=by omega
   simp [c,c',c0,c0']
   rw [show items (.tup ds)=.ok ds from rfl,Res.bind_ok,u0K (u1Y (by omega)),u2P (fun d=>D.bl (sgnD d)) (fun d hd=>?_)]
   ·simp
   ·exact ⟨_,rfl,rfl,by simp [rhoC,p_is_sign d (u0F h d hd)]⟩
  ·have c':¬ (ds.length:Int)≤10:=by omega
   simp [c,c',c0,c0']
 ·have c0':¬ (1:Int)≤ds.length:=by omega
  simp [c0,c0']
theorem u9V {G_is_pair:List D→Res D} (c_is_pair:Callee P w K mg base 1 "is_pair" ["thing"] (spF K G_is_pair)) {G_is_side:List D→Res D} (c_is_side:Callee P w K mg base 1 "is_side" ["thing"] (spF K G_is_side)) {G_is_rank_signs:List D→Res D} (c_is_rank_signs:Callee P w K mg base 3 "is_rank_signs" ["thing"] (spF K G_is_rank_signs)) (p_is_pair:P1 pairD G_is_pair) (p_is_side:P1 sideD G_is_side) (p_is_rank_signs:P1 rsgD G_is_rank_signs) (F:Fun K "is_rank" "is_rank" u2H f fd) (T:Txt K mg A):∃ G,FnOk P w K mg base CX0 4 f fd ["thing"] (spF K G)∧P1 rankD G:=by
 refine ⟨_,F.okT (k:=3) u9E (fun cdv Ar outer s H E hr=>u0e (u0h (u2X (d_fn c_is_pair hr (u0a (dv 0) u0b)) (u2X (d_fn c_is_side hr (u0a (d_ix x_ix (dv 0) u0c) u0b)) (u3X (d_fn c_is_rank_signs hr (u0a (d_ix x_ix (dv 0) u0c) u0b))))))),?_⟩
 intro d h
 simp [runT,startD,p_is_pair d h]
 cases d <;> simp [pairD,rankD]
 rename_i ds
 match ds,h with
 | [],_=>simp [pairD,rankD]
 | [_],_=>simp [pairD,rankD]
 | _::_::_::_,_=>simp [pairD,rankD]
 | [x,y],h =>
  have h1:=p_is_side x (u0F h x (by simp))
  have h2:=p_is_rank_signs y (u0F h y (by simp))
  simp [pairD,rankD,ix_0,ix_1,h1,h2]
  by_cases c:sideD x=true <;> simp [c]
end
section
variable {P:Program}{w:World}{K:PySem.W.Frag}{mg:Str→Option Value}{base:Heap}{f:Addr}{fd:FuncData}{A:Adr}
theorem u5s (F:Fun K "_law_is_sign" "_law_is_sign" u1b f fd) (T:Txt K mg A):∃ G,FnOk P w K mg base CX0 1 f fd ["_law_thing"] (spF K G)∧P1 sgnD G:=by
 refine ⟨_,F.okT (k:=0) u5m (fun cdv Ar outer s H E hr=>u0d (u0y (dt_w (u4x (u0M (u0L (d_B u2r T.z_isinstance (by decide +kernel) (u0a (dv 0) (u0a (d_ty T.z_str (T:="str") (by decide +kernel)) u0b))))) (u3H (u0M (u3I o_le o_le u0c (d_B u1o T.z_len (by decide +kernel) (u0a (dv 0) u0b)) u0c))))) (u0e (u0h d_bl)) u0l)
  (u0e (u0h (u3c (u3b (hu64 hr)) (DN.de (u1r ["_law_sign"] [] rfl (u0v (sc:=defScope u1b) (N:=["_law_thing"]) (by decide +kernel)) (u1n (dv 0)) (dg_n (show (["_law_sign"]:List Str).Nodup by decide +kernel)) (u7r (u0n (u2R (hu100 hr)) (dv 0) u0i)) (dv 0))) (u0H u0b))))),?_⟩
 intro d h
 simp [runT,startD,v3j (u0w h)]
 cases d <;> simp [isStrD,sgnD,gLen]
 rename_i z
 unfold sgnS shortS
 by_cases c0:1≤z.length
 ·have c0':(1:Int)≤z.length:=by omega
  by_cases c:z.length≤6
  ·have c':(z.length:Int)≤6:=by omega
   simp [c,c',c0,c0']
   rw [show items (.str z)=.ok (chars z) from rfl,Res.bind_ok,u0K (by rw [u5j];exact u1Y (by omega)),u1I (fun d=>!chIn signT d) (fun d=>d) (fun d hd=>?_)]
   ·simp [u3U,u2N,u5l]
   ·obtain ⟨x,_,rfl⟩:=List.mem_map.mp hd
    exact ⟨_,rfl,by simp [rhoC,dNotIn,dInG,chIn],fun _=>by simp [rhoC]⟩
  ·have c':¬ (z.length:Int)≤6:=by omega
   simp [c,c',c0,c0']
 ·have c0':¬ (1:Int)≤z.length:=by omega
  simp [c0,c0']
theorem u5v (F:Fun K "_law_is_head" "_law_is_head" u1e f fd) (T:Txt K mg A):∃ G,FnOk P w K mg base CX0 1 f fd ["_law_thing"] (spF K G)∧P1 hdD G:=by
 refine ⟨_,F.okT (k:=0) u5p (fun cdv Ar outer s H E hr=>u0d (u0y (dt_w (u4x (u0M (u0L (d_B u2r T.z_isinstance (by decide +kernel) (u0a (dv 0) (u0a (d_ty T.z_str (T:="str") (by decide +kernel)) u0b))))) (u4x (u0M (u3I o_le o_le u0c (d_B u1o T.z_len (by decide +kernel) (u0a (dv 0) u0b)) u0c)) (u3H (u0n (u2R (hu100 hr)) (d_ix x_ix (dv 0) u0c) u0i))))) (u0e (u0h d_bl)) u0l)
  (u0e (u0h (u3c (u3b (hu64 hr)) (DN.de (u1r ["_law_sign"] [] rfl (u0v (sc:=defScope u1e) (N:=["_law_thing"]) (by decide +kernel)) (u1n (d_sl (dv 0) (u1w u0c) u1Z)) (dg_n (show (["_law_sign"]:List Str).Nodup by decide +kernel)) (u7r (u0n (u2R (hu100 hr)) (dv 0) u0i)) (dv 0))) (u0H u0b))))),?_⟩
 intro d h
 simp [runT,startD,v3j (u0w h)]
 cases d <;> simp [isStrD,hdD,gLen]
 rename_i z
 unfold hdS
 by_cases cs:shortS z=true
 ·have hz:=u5W cs
  have h1:(1:Int)≤z.length:=by unfold shortS at cs;simp at cs;omega
  have h2:(z.length:Int)≤6:=by omega
  have hl:=u6B z
  simp [cs,h1,h2,ix0 cs,dNotIn,dInG]
  by_cases k:inS (fstC z) greatT=true
  ·simp [k,asI,sl1]
   rw [show items (.str (tailC z))=.ok (chars (tailC z)) from rfl,Res.bind_ok,u0K (by rw [u5j];exact u1Y (by omega)),u1I (fun d=>!chIn smallT d) (fun d=>d) (fun d hd=>?_)]
   ·simp [u3U,u2N,u5l]
   ·obtain ⟨x,_,rfl⟩:=List.mem_map.mp hd
    exact ⟨_,rfl,by simp [rhoC,dNotIn,dInG,chIn],fun _=>by simp [rhoC]⟩
  ·simp [k]
 ·simp [cs]
  unfold shortS at cs
  by_cases c0:1≤z.length
  ·have c0':(1:Int)≤z.length:=by omega
   have c':¬ (z.length:Int)≤6:=by
    simp [c0] at cs
    omega
   simp [c0',c']
  ·have c0':¬ (1:Int)≤z.length:=by omega
   simp [c0']
theorem u5t {G_law_is_head:List D→Res D} (c__law_is_head:Callee P w K mg base 1 "_law_is_head" ["_law_thing"] (spF K G_law_is_head)) {G_law_is_sign:List D→Res D} (c__law_is_sign:Callee P w K mg base 1 "_law_is_sign" ["_law_thing"] (spF K G_law_is_sign)) (p__law_is_head:P1 hdD G_law_is_head) (p__law_is_sign:P1 sgnD G_law_is_sign) (F:Fun K "_law_is_rule" "_law_is_rule" u1c f fd) (T:Txt K mg A):∃ G,FnOk P w K mg base CX0 2 f fd ["_law_thing"] (spF K G)∧P1 ruleD G:=by
 refine ⟨_,F.okT (k:=1) u5n (fun cdv Ar outer s H E hr=>u0d (u0y (dt_w (u4x (u0M (u0L (d_B u2r T.z_isinstance (by decide +kernel) (u0a (dv 0) (u0a (d_ty T.z_tuple (T:="tuple") (by decide +kernel)) u0b))))) (u4x (u0n (v2G (hu64 hr)) (d_B u1o T.z_len (by decide +kernel) (u0a (dv 0) u0b)) u0c) (u3H (u0M (u0L (d_fn c__law_is_head hr (u0a (d_ix x_ix (dv 0) u0c) u0b)))))))) (u0e (u0h d_bl)) u0l)
  (u0d (u0y (dt_w (u4x (u0M (u0L (d_B u2r T.z_isinstance (by decide +kernel) (u0a (d_ix x_ix (dv 0) u0c) (u0a (d_ty T.z_tuple (T:="tuple") (by decide +kernel)) u0b))))) (u3H (u0n o_gt (d_B u1o T.z_len (by decide +kernel) (u0a (d_ix x_ix (dv 0) u0c) u0b)) u0c)))) (u0e (u0h d_bl)) u0l)
  (u0e (u0h (u3c (u3b (hu64 hr)) (DN.de (u1r ["_law_symbol_here"] [] rfl (u0v (sc:=defScope u1c) (N:=["_law_thing"]) (by decide +kernel)) (u1n (d_ix x_ix (dv 0) u0c)) (dg_n (show (["_law_symbol_here"]:List Str).Nodup by decide +kernel)) (u7r (dt_w (u3p (u0M (u0L (d_fn c__law_is_sign hr (u0a (dv 0) u0b)))) (u2U (u0M (u0L (d_fn c__law_is_head hr (u0a (dv 0) u0b)))))))) (dv 0))) (u0H u0b)))))),?_⟩
 intro d h
 simp [runT,startD,u8x (u0w h)]
 cases d <;> simp [isTupD,ruleD]
 rename_i ds
 match ds,h with
 | [],_=>simp [ruleD,u3h]
 | [_],_=>simp [ruleD,u3h]
 | _::_::_::l,_ =>
  have:((l.length:Int)+1+1+1==2)=false:=by
   rw [beq_eq_false_iff_ne];omega
  simp [ruleD,u3h,this]
 | [x,y],h =>
  have gx:=u0F h x (by simp)
  have gy:=u0F h y (by simp)
  simp [ruleD,u3h,ix_0,ix_1,p__law_is_head x gx]
  by_cases cx:hdD x=true
  ·simp [cx,ix_1,u8x (u0w gy)]
   cases y with
   | tup bs =>
    by_cases c:bs.length≤4
    ·have c':¬ (4:Int)<bs.length:=by omega
     simp [isTupD,bodyD,ix_1,c,c']
     rw [show items (.tup bs)=.ok bs from rfl,Res.bind_ok,u0K (u1Y (by omega)),u1I (fun d=>!symD d) (fun d=>d) (fun d hd=>?_)]
     ·simp [u3U,u2N]
     ·have gd':=u0F gy d hd
      refine ⟨_,rfl,?_,fun _=>by simp [rhoC]⟩
      simp [rhoC,p__law_is_sign d gd',p__law_is_head d gd',symD]
      by_cases cs:sgnD d=true <;> simp [cs]
    ·have c':(4:Int)<bs.length:=by omega
     simp [isTupD,bodyD,ix_1,c,c']
   | _=>simp [isTupD,bodyD,ix_1]
  ·simp [cx]
end
inductive Due where
 | fine | rule (d:D) | dbl (n:Nat) | many (n:Nat) | head (z:Str) | ranks (d:D)
noncomputable def Due.toD:Due→D
 | .fine=>.non
 | .rule d=>.tup [.str "rule",d]
 | .dbl n=>.tup [.str "doubled",.int n]
 | .many n=>.tup [.str "many",.int n]
 | .head z=>.tup [.str "head",.str z]
 | .ranks d=>.tup [.str "ranks",d]
noncomputable def Due.toR (A:Adr):Due→Res D
 | .fine=>.ok .non
 | .rule d=>.err (.exc A.NoRule [("found",d)])
 | .dbl n=>.err (.exc A.Doubled [("number",.int n)])
 | .many n=>.err (.exc A.TooMany [("found",.int n)])
 | .head z=>.err (.exc A.NoHead [("head",.str z)])
 | .ranks d=>.err (.exc A.NoRanks [("found",d)])
noncomputable abbrev RR:=Str×List Str
noncomputable def rT (p:RR):D:=.tup [.str p.1,.tup (p.2.map D.str)]
theorem u3C:∀ {ds:List D}{ss:List Str},strsOf ds=some ss→ds=ss.map D.str
 | [],_,e=>by cases e;rfl
 | d::ds,ss,e=>by
  cases d with
  | str z =>
   unfold strsOf at e
   cases q:strsOf ds with
   | none=>rw [q] at e;cases e
   | some ts=>rw [q] at e;cases e;rw [u3C q];rfl
  | _=>cases e
theorem u3L:∀ ss:List Str,strsOf (ss.map D.str)=some ss
 | []=>rfl
 | z::ss=>by simp [strsOf,u3L ss]
theorem u6x:∀ {ds:List D},ds.all symD=true→∃ ss,strsOf ds=some ss
 | [],_=>⟨[],rfl⟩
 | d::ds,h=>by
  rw [List.all_cons,Bool.and_eq_true] at h
  obtain ⟨ss,e⟩:=u6x h.2
  cases d with
  | str z=>exact ⟨z::ss,by simp [strsOf,e]⟩
  | _=>simp [symD,sgnD,hdD] at h
noncomputable def asRule (d:D):Option RR:=match d with
 | .tup [.str h,.tup bs]=>if ruleD d=true then (strsOf bs).map fun ss=>(h,ss) else none
 | _=>none
theorem u3B {d:D} (h:ruleD d=false):asRule d=none:=by
 unfold asRule
 split
 ·rw [if_neg (by rw [h];exact Bool.false_ne_true)]
 ·rfl
theorem u2Y {d:D} (h:ruleD d=true):∃ p,asRule d=some p∧d=rT p:=by
 cases d with
 | tup ds =>
  match ds,h with
  | [],h=>simp [ruleD] at h
  | [_],h=>simp [ruleD] at h
  | _::_::_::_,h=>simp [ruleD] at h
  | [x,y],h =>
   have h0:=h
   simp [ruleD] at h
   obtain ⟨h1,h2⟩:=h
   cases x with
   | str z =>
    cases y with
    | tup bs =>
     simp [bodyD] at h2
     obtain ⟨ss,e⟩:=u6x (List.all_eq_true.mpr h2.2)
     refine ⟨(z,ss),?_,?_⟩
     ·show (if ruleD _=true then (strsOf bs).map fun ss=>(z,ss) else none)=_
      rw [if_pos h0,e]
      rfl
     ·rw [u3C e];rfl
    | _=>simp [bodyD] at h2
   | _=>simp [hdD] at h1
 | _=>simp [ruleD] at h
structure OkR (p:RR):Prop where
 h:hdS p.1=true
 l:p.2.length≤4
 s:∀ b∈p.2,(sgnS b||hdS b)=true
 gh:goodS p.1=true
 gs:∀ b∈p.2,goodS b=true
theorem u8H {p:RR} (h:ruleD (rT p)=true) (g:goodD (rT p)=true):OkR p:=by
 obtain ⟨z,ss⟩:=p
 have h':hdS z=true∧(ss.length≤4∧∀ b∈ss,(sgnS b||hdS b)=true):=by
  simp [rT,ruleD,hdD,bodyD,symD,sgnD] at h
  exact ⟨h.1,h.2.1,fun b hb=>by simpa using h.2.2 b hb⟩
 have g1:=u0F g (.str z) (by simp [rT])
 have g2:=u0F g (.tup (ss.map D.str)) (by simp [rT])
 exact ⟨h'.1,h'.2.1,h'.2.2,by simpa [goodD] using g1,fun b hb=>by
  have:=u0F g2 (.str b) (List.mem_map.mpr ⟨b,hb,rfl⟩)
  simpa [goodD] using this⟩
noncomputable def pyR (p:RR):PyData:=.tuple [.str p.1,.tuple (p.2.map PyData.str)]
theorem u8D:∀ ss:List Str,D.pys (ss.map D.str)=some (ss.map PyData.str)
 | []=>rfl
 | z::ss=>by simp [D.pys,D.py,u8D ss]
theorem u6l:∀ {ss:List Str},(∀ b∈ss,goodS b=true)→PyData.canLayAll0 (ss.map PyData.str)=true
 | [],_=>rfl
 | z::ss,h=>by
  have h1:=h z List.mem_cons_self
  have h2:=u6l fun b hb=>h b (List.mem_cons_of_mem _ hb)
  simp [goodS] at h1
  simp [PyData.canLayAll0,PyData.canLay0,h1.1,h2]
theorem u6r:∀ ss:List Str,PyData.depthAll (ss.map PyData.str)≤1
 | []=>by simp [PyData.depthAll]
 | z::ss=>by
  have:=u6r ss
  simp [PyData.depthAll,PyData.depth]
  omega
theorem u9k {p:RR} (o:OkR p):cmpD (rT p)=.ok (pyR p):=by
 have h1:=o.gh
 simp [goodS] at h1
 have e:(rT p).py=some (pyR p):=by
  simp [rT,D.py,D.pys,u8D,pyR]
 have s:SeqAt.shaped (pyR p)=true:=by
  have d:=u6r p.2
  simp [SeqAt.shaped,pyR,PyData.canLay0,PyData.canLayAll0,h1.1,u6l o.gs,PyData.depth,PyData.depthAll]
  omega
 unfold cmpD
 rw [e]
 simp [s]
theorem u5a:∀ as bs:List Str,PyData.eqvAll (as.map PyData.str) (bs.map PyData.str)=decide (as=bs)
 | [],[]=>rfl
 | [],_::_=>rfl
 | _::_,[]=>rfl
 | a::as,b::bs=>by
  show (PyData.eqv (.str a) (.str b)&&PyData.eqvAll (as.map PyData.str) (bs.map PyData.str))=_
  rw [u5a as bs,u3T]
  by_cases c:a=b <;> simp [c]
theorem u9a (p q:RR):PyData.eqv (pyR p) (pyR q)=decide (p=q):=by
 obtain ⟨a,as⟩:=p
 obtain ⟨b,bs⟩:=q
 show (PyData.eqv (.str a) (.str b)&&(PyData.eqvAll (as.map PyData.str) (bs.map PyData.str)&&true))=_
 rw [u5a,u3T]
 by_cases c:a=b <;> simp [c]
theorem u5P:∀ {rs:List RR},(∀ p∈rs,OkR p)→cmpDs (rs.map rT)=.ok (rs.map pyR)
 | [],_=>rfl
 | p::rs,h=>by
  simp [cmpDs,u9k (h p List.mem_cons_self),u5P fun q hq=>h q (List.mem_cons_of_mem _ hq)]
theorem u8Q {p:RR}{rs:List RR} (o:OkR p) (os:∀ q∈rs,OkR q) (neg:Bool):inD (rT p) (rs.map rT) neg=.ok (.bl (if neg=true then !decide (p∈rs) else decide (p∈rs))):=by
 have e:((rs.map pyR).any fun b=>PyData.eqv b (pyR p))=decide (p∈rs):=by
  rw [List.any_map,Bool.eq_iff_iff,List.any_eq_true,decide_eq_true_eq]
  constructor
  ·rintro ⟨q,hq,e⟩
   simp only [Function.comp,u9a,decide_eq_true_eq] at e
   rw [← e];exact hq
  ·intro h
   exact ⟨p,h,by simp only [Function.comp,u9a,decide_eq_true_eq]⟩
 simp only [inD,u9k o,u5P os,Res.bind_ok,e]
noncomputable def goRules (rs:List RR):List D→Due
 | []=>.fine
 | d::ds=>match asRule d with
  | none=>.rule d
  | some p=>if p∈rs then .dbl rs.length else goRules (rs++[p]) ds
noncomputable def dueRules:D→Due
 | .lst ds=>if 1≤ds.length∧ds.length≤20 then goRules [] ds else .many ds.length
 | d=>.rule d
@[simp] theorem u0u {α:Type}{ds:List D}{k:Res α} (h:ds.length≤1000):szD ds k=k:=szD_pos (u1Y h)
theorem v1C (k:Nat) (d:D) (ds:List D):(((d::ds).zipIdx k).map fun p=>D.tup [.int (p.2:Nat),p.1])=.tup [.int (k:Nat),d]::((ds.zipIdx (k+1)).map fun p=>D.tup [.int (p.2:Nat),p.1]):=rfl
theorem v3f {α:Type} (xs ys:List α):cutC (xs++ys) none (some (xs.length:Int))=xs:=by
 unfold cutC
 rw [HT.sIx_none,HT.sIx_nat,Nat.min_eq_left (by simp)]
 simp
noncomputable def isOkR {α:Type}:Res α→Bool
 | .ok _=>true
 | _=>false
noncomputable def rkOk:D→Bool
 | .tup [x,_]=>isOkR (cmpD x)
 | _=>true
theorem u8n {x:D} (h:isOkR (cmpD x)=true):dNotIn x (.lst [.str "left",.str "right",.str "none"])=.ok (.bl (!sideD x)):=by
 have e1:cmpD (.str "left")=.ok (.str "left"):=u2B (by decide +kernel)
 have e2:cmpD (.str "right")=.ok (.str "right"):=u2B (by decide +kernel)
 have e3:cmpD (.str "none")=.ok (.str "none"):=u2B (by decide +kernel)
 rw [show dNotIn x (.lst [.str "left",.str "right",.str "none"])=inD x [.str "left",.str "right",.str "none"] true from u3i true x _]
 cases q:cmpD x with
 | err y=>rw [q] at h;cases h
 | bad=>rw [q] at h;cases h
 | ok a =>
  have hp:x.py=some a:=by
   unfold cmpD at q
   cases e:x.py with
   | none=>rw [e] at q;cases q
   | some b =>
    rw [e] at q
    simp only [gd] at q
    split at q
    ·cases q;rfl
    ·cases q
  simp only [inD,q,cmpDs,e1,e2,e3,Res.bind_ok,if_true,List.any_cons,List.any_nil,Bool.or_false]
  cases x with
  | str z =>
   simp only [D.py,Option.some.injEq] at hp
   subst hp
   simp [sideD,u3T,u8z z]
  | non=>simp only [D.py,Option.some.injEq] at hp;subst hp;rfl
  | bl b=>simp only [D.py,Option.some.injEq] at hp;subst hp;rfl
  | int i=>simp only [D.py,Option.some.injEq] at hp;subst hp;rfl
  | lst ds =>
   simp only [D.py] at hp
   cases e:D.pys ds with
   | none=>rw [e] at hp;cases hp
   | some as=>rw [e] at hp;cases hp;rfl
  | tup ds =>
   simp only [D.py] at hp
   cases e:D.pys ds with
   | none=>rw [e] at hp;cases hp
   | some as=>rw [e] at hp;cases hp;rfl
  | _=>simp [D.py] at hp
noncomputable def isStop:Out→Bool
 | .rt _=>true
 | .er _ _=>true
 | _=>false
noncomputable def StepOk {α β γ:Type} (S:α→List γ→Rho→Prop) (go:α→List γ→β) (Q:β→Out→Prop) (a:α) (d:γ) (ds:List γ) (o:Out):Prop :=
 (∃ a' ρ2,(o=.nx ρ2∨o=.ct ρ2)∧S a' ds ρ2∧go a (d::ds)=go a' ds)∨(isStop o=true∧Q (go a (d::ds)) o)
theorem u1j {α β γ:Type}{S:α→List γ→Rho→Prop}{go:α→List γ→β}{Q:β→Out→Prop}{a:α}{d:γ}{ds:List γ}{ρ:Rho} (a':α) (h:S a' ds ρ) (e:go a (d::ds)=go a' ds):StepOk S go Q a d ds (.nx ρ):=.inl ⟨a',ρ,.inl rfl,h,e⟩
theorem u2z {α β γ:Type}{S:α→List γ→Rho→Prop}{go:α→List γ→β}{Q:β→Out→Prop}{a:α}{d:γ}{v:D}{ds:List γ} (h:Q (go a (d::ds)) (.rt v)):StepOk S go Q a d ds (.rt v):=.inr ⟨rfl,h⟩
theorem u2A {α β γ:Type}{S:α→List γ→Rho→Prop}{go:α→List γ→β}{Q:β→Out→Prop}{a:α}{d:γ}{v:D}{ds:List γ}{ρ:Rho} (h:Q (go a (d::ds)) (.er v ρ)):StepOk S go Q a d ds (.er v ρ):=.inr ⟨rfl,h⟩
theorem u0B {α β γ:Type}{g:D→Rho→Res Rho}{tb:Rho→Out} (c:γ→D) (S:α→List γ→Rho→Prop) (go:α→List γ→β) (Q:β→Out→Prop) (nil:∀ a ρ,S a [] ρ→Q (go a []) (.nx ρ))
  (cons:∀ a d ds ρ,S a (d::ds) ρ→∃ ρ1,g (c d) ρ=.ok ρ1∧StepOk S go Q a d ds (tb ρ1)) :
  ∀ ds a ρ,S a ds ρ→Q (go a ds) (forD g tb (ds.map c) ρ)
 | [],a,ρ,h=>nil a ρ h
 | d::ds,a,ρ,h=>by
  obtain ⟨ρ1,e,k⟩:=cons a d ds ρ h
  simp only [List.map_cons,forD,e,u6Y,go_ok]
  rcases k with ⟨a',ρ2,k1,k2,k3⟩ | ⟨k1,k2⟩
  ·rw [k3]
   rcases k1 with k1 | k1 <;> rw [k1] <;> exact u0B c S go Q nil cons ds a' ρ2 k2
  ·generalize tb ρ1=o at k1 k2 ⊢
   cases o <;> first | exact k2 | cases k1
theorem u3S {α β:Type}{g:D→Rho→Res Rho}{tb:Rho→Out} (S:Nat→α→List D→Rho→Prop) (go:α→List D→β) (Q:β→Out→Prop) (nil:∀ k a ρ,S k a [] ρ→Q (go a []) (.nx ρ))
  (cons:∀ k a d ds ρ,S k a (d::ds) ρ→∃ ρ1,g (.tup [.int (k:Nat),d]) ρ=.ok ρ1∧StepOk (S (k+1)) go Q a d ds (tb ρ1)) :
  ∀ ds k a ρ,S k a ds ρ→Q (go a ds) (forD g tb ((ds.zipIdx k).map fun p=>.tup [.int (p.2:Nat),p.1]) ρ)
 | [],k,a,ρ,h=>nil k a ρ h
 | d::ds,k,a,ρ,h=>by
  obtain ⟨ρ1,e,z⟩:=cons k a d ds ρ h
  rw [v1C]
  simp only [forD,e,u6Y,go_ok]
  rcases z with ⟨a',ρ2,k1,k2,k3⟩ | ⟨k1,k2⟩
  ·rw [k3]
   rcases k1 with k1 | k1 <;> rw [k1] <;> exact u3S S go Q nil cons ds (k+1) a' ρ2 k2
  ·generalize tb ρ1=o at k1 k2 ⊢
   cases o <;> first | exact k2 | cases k1
noncomputable def keyR (p:RR):List DK:=[.s p.1,.t (p.2.map DK.s)]
theorem u9f:∀ ss:List Str,dksOf (ss.map D.str)=some (ss.map DK.s)
 | []=>rfl
 | z::ss=>by simp [dksOf,dkOf,u9f ss]
theorem v3u:∀ ss:List Str,DK.pys (ss.map DK.s)=ss.map PyData.str
 | []=>rfl
 | z::ss=>by simp [DK.pys,DK.py,v3u ss]
theorem v1I:∀ ss:List Str,DK.deps (ss.map DK.s)=0
 | []=>rfl
 | z::ss=>by simp [DK.deps,DK.dep,v1I ss]
theorem v2E {p:RR} (o:OkR p):okK (keyR p)=true:=by
 have e:(DK.t (keyR p)).py=pyR p:=by simp [keyR,DK.py,DK.pys,v3u,pyR]
 have d:=u6r p.2
 have h1:=o.gh
 simp [goodS] at h1
 unfold okK
 rw [e]
 have s:SeqAt.shaped (pyR p)=true:=by
  simp [SeqAt.shaped,pyR,PyData.canLay0,PyData.canLayAll0,h1.1,u6l o.gs,PyData.depth,PyData.depthAll]
  omega
 simp [s,keyR,DK.dep,DK.deps,v1I]
theorem u8L {p:RR} (o:OkR p):keyOf (rT p)=.ok (keyR p):=by
 have e:dksOf [D.str p.1,.tup (p.2.map D.str)]=some (keyR p):=by simp [dksOf,dkOf,u9f,keyR]
 show (match dksOf [D.str p.1,.tup (p.2.map D.str)] with | some ks=>gd (okK ks=true) (.ok ks) | none=>.bad)=_
 rw [e]
 simp [v2E o]
theorem u8M {p q:RR} (h:keyR p=keyR q):p=q:=by
 obtain ⟨a,as⟩:=p
 obtain ⟨b,bs⟩:=q
 simp only [keyR,List.cons.injEq,DK.s.injEq,DK.t.injEq,and_true] at h
 obtain ⟨rfl,h⟩:=h
 have:∀ as bs:List Str,as.map DK.s=bs.map DK.s→as=bs:=by
  intro as
  induction as with
  | nil=>intro bs h;cases bs with | nil=>rfl | cons _ _=>cases h
  | cons x as ih =>
   intro bs h
   cases bs with
   | nil=>cases h
   | cons y bs =>
    simp only [List.map_cons,List.cons.injEq,DK.s.injEq] at h
    rw [h.1,ih bs h.2]
 rw [this as bs h]
theorem in_keys {w:World}{p:RR}{rs:List RR}{kvs:List (List DK×D)} (o:OkR p) (e:kvs.map (·.1)=rs.map keyR):dInA w false (rT p) (.dn (hashW w) kvs)=.ok (.bl (decide (p∈rs))):=by
 have q:dInA w false (rT p) (.dn (hashW w) kvs)=inN w false (rT p) (hashW w) kvs:=by
  unfold dInA
  exact v1Q w false _ _ _
 rw [q]
 unfold inN
 rw [u8L o,Res.bind_ok,if_pos rfl,e]
 have:(keyR p∈rs.map keyR)↔p∈rs:=by
  rw [List.mem_map]
  exact ⟨fun ⟨q,hq,e⟩=>u8M e ▸ hq,fun h=>⟨p,h,rfl⟩⟩
 simp [this]
theorem put_key {w:World}{p:RR}{kvs:List (List DK×D)}{fi:Rho→Res D}{fv:Rho→Res D}{ρ:Rho} (o:OkR p) (hl:kvs.length≤100) (hv:fv ρ=.ok (.bl true)) (hi:fi ρ=.ok (rT p)) (hg:getN ρ 1=.ok (hashW w,kvs)) :
  fPutN w 1 fi fv ρ=.nx (ρ.set 1 (some (.own (.n (hashW w) (putN kvs (keyR p) (.bl true)))))):=by
 unfold fPutN
 rw [hv,go_ok,hg,go_ok,hi,go_ok,u8L o,go_ok,if_pos ⟨rfl,Nat.lt_of_le_of_lt hl (by decide)⟩]
theorem v2P {p:RR}{rs:List RR}{kvs:List (List DK×D)}{d:D} (e:kvs.map (·.1)=rs.map keyR) (n:¬ p∈rs):(putN kvs (keyR p) d).map (·.1)=(rs++[p]).map keyR:=by
 unfold putN
 have:¬ keyR p∈kvs.map (·.1):=by
  rw [e,List.mem_map]
  exact fun ⟨q,hq,z⟩=>n (u8M z ▸ hq)
 rw [if_neg this,List.map_append,List.map_append,e]
 rfl
noncomputable def S1 (ds:List D) (k:Nat) (rs:List RR) (rest:List D) (ρ:Rho):Prop:=k=rs.length∧ds=rs.map rT++rest∧(∀ p∈rs,OkR p)∧∃ x y,ρ=[some (.val (.lst ds)),x,y]
noncomputable def Q1 (u:Due) (o:Out):Prop:=noE (outR (o.andThen fun ρ=>Out.rt .non))=.ok u.toD
noncomputable def S2 (w:World) (ds:List D) (k:Nat) (rs:List RR) (rest:List D) (ρ:Rho):Prop:=k=rs.length∧ds=rs.map rT++rest∧(∀ p∈rs,OkR p)∧∃ kvs x y,ρ=[some (.val (.lst ds)),some (.own (.n (hashW w) kvs)),x,y]∧kvs.map (·.1)=rs.map keyR
noncomputable def Q2 (A:Adr) (u:Due) (o:Out):Prop:=outR o=u.toR A
theorem u8G {rs:List RR}{p:RR} (hr:∀ p∈rs,OkR p) (o:OkR p):∀ q∈rs++[p],OkR q:=fun q hq=>by
 rcases List.mem_append.mp hq with h | h
 ·exact hr q h
 ·rw [List.mem_singleton.mp h];exact o
@[simp] theorem items_lst (ds:List D):items (.lst ds)=.ok ds:=rfl
@[simp] theorem items_tup (ds:List D):items (.tup ds)=.ok ds:=rfl
theorem u7x:∀ {hs:List Str},(∀ b∈hs,goodS b=true)→cmpDs (hs.map D.str)=.ok (hs.map PyData.str)
 | [],_=>rfl
 | z::hs,h=>by
  have h1:=h z List.mem_cons_self
  simp [goodS] at h1
  simp [cmpDs,u2B h1.1,u7x fun b hb=>h b (List.mem_cons_of_mem _ hb)]
theorem u8q {z:Str}{hs:List Str} (g:goodS z=true) (gs:∀ b∈hs,goodS b=true) (neg:Bool):inD (.str z) (hs.map D.str) neg=.ok (.bl (if neg=true then !decide (z∈hs) else decide (z∈hs))):=by
 simp [goodS] at g
 have e:((hs.map PyData.str).any fun b=>PyData.eqv b (.str z))=decide (z∈hs):=by
  rw [List.any_map,Bool.eq_iff_iff,List.any_eq_true,decide_eq_true_eq]
  constructor
  ·rintro ⟨q,hq,e⟩
   simp only [Function.comp,u3T,beq_iff_eq] at e
   rw [← e];exact hq
  ·intro h
   exact ⟨z,h,by simp only [Function.comp,u3T,beq_iff_eq]⟩
 simp only [inD,u2B g.1,u7x gs,Res.bind_ok,e]
theorem u3m {z:Str}{hs:List Str} (g:goodS z=true) (gs:∀ b∈hs,goodS b=true):dNotIn (.str z) (.lst (hs.map D.str))=.ok (.bl (!decide (z∈hs))):=by
 rw [show dNotIn (.str z) (.lst (hs.map D.str))=inD (.str z) (hs.map D.str) true from u3i true _ _,u8q g gs]
 rfl
noncomputable def hsOf (rs:List RR):List Str:=rs.map (·.1)
noncomputable def headsL (rs:List RR):List Str:=sortT (setOfT (hsOf rs))
noncomputable def addSg (ss:List Str) (b:Str):List Str:=if sgnS b=true then addT ss b else ss
noncomputable def sgL (ss:List Str) (rs:List RR):List Str:=rs.foldl (fun ss p=>p.2.foldl addSg ss) ss
noncomputable def fstUnk (hs:List Str) (bs:List Str):Option Str:=bs.find? fun b=>hdS b&&!decide (b∈hs)
noncomputable def goKn (hs:List Str):Unit→List RR→Due
 | _,[]=>.fine
 | _,p::rs=>match fstUnk hs p.2 with
  | some b=>.head b
  | none=>goKn hs () rs
noncomputable def dueFew (rs:List RR):Due:=if (setOfT (hsOf rs)).length > 8 then .many (setOfT (hsOf rs)).length else if (sgL [] rs).length > 10 then .many (sgL [] rs).length else .fine
noncomputable def Due.or:Due→Due→Due
 | .fine,u=>u
 | u,_=>u
noncomputable def dueHeads (rs:List RR):Due:=(goKn (headsL rs) () rs).or (dueFew rs)
theorem u3P {rs:List RR} (h:∀ p∈rs,OkR p):∀ b∈headsL rs,goodS b=true:=fun b hb=>by
 obtain ⟨p,hp,rfl⟩:=List.mem_map.mp (u3N.mp (u4H.mp hb))
 exact (h p hp).gh
noncomputable def hd1:D→D
 | .tup (.str h::_)=>.str h
 | _=>.non
theorem v1r (rs:List RR):((rs.map rT).map hd1)=(hsOf rs).map D.str:=by
 unfold hsOf
 rw [List.map_map,List.map_map]
 rfl
@[simp] theorem u8W {ss:List Str} (h:ss.length<64):gSS (.lst (ss.map D.str))=.ok (.lst ((sortT (setOfT ss)).map D.str)):=by
 show (match strsOf (ss.map D.str) with | some ss=>gd (ss.length<64) (Res.ok (D.lst ((sortT (setOfT ss)).map D.str))) | none=>.bad)=_
 rw [u3L]
 simp [h]
theorem eqK_str (z b:Str):eqK (.str z) (.inr b)=decide (z=b):=by
 have:=u5N (.inr z) (.inr b)
 rw [show kD (.inr z)=D.str z from rfl] at this
 rw [this]
 by_cases c:z=b <;> simp [c]
theorem u8w {b:Str}:∀ {ps:List (D×D)}{ss:List Str},ps.map (·.1)=ss.map D.str→ps.any (fun p=>eqK p.1 (.inr b))=decide (b∈ss)
 | [],[],_=>rfl
 | [],_::_,e=>by cases e
 | _::_,[],e=>by cases e
 | (k,d)::ps,z::ss,e=>by
  simp only [List.map_cons,List.cons.injEq] at e
  rw [List.any_cons,u8w e.2,e.1,eqK_str]
  by_cases c:z=b
  ·subst c;simp
  ·have c':¬ b=z:=fun h=>c h.symm
   simp [c,c']
theorem u4S {ps:List (D×D)}{ss:List Str}{b:Str}{d:D} (e:ps.map (·.1)=ss.map D.str):(putD ps (.inr b) d).map (·.1)=(addT ss b).map D.str:=by
 unfold putD addT
 rw [u8w e]
 by_cases c:b∈ss
 ·rw [if_pos (by simpa using c),if_pos c,← e,List.map_map]
  refine List.map_congr_left fun p _=>?_
  simp only [Function.comp]
  split <;> rfl
 ·rw [if_neg (by simpa using c),if_neg c,List.map_append,List.map_append,e]
  rfl
theorem u5H:∀ {ps:List (D×D)}{ss:List Str},ps.map (·.1)=ss.map D.str→keyStrs ps=some ss
 | [],[],_=>rfl
 | [],_::_,e=>by cases e
 | _::_,[],e=>by cases e
 | (k,d)::ps,z::ss,e=>by
  simp only [List.map_cons,List.cons.injEq] at e
  obtain ⟨rfl,e⟩:=e
  simp [keyStrs,u5H e]
theorem val_key {b:Str}{ps:List (D×D)}{ss:List Str} (e:ps.map (·.1)=ss.map D.str):(valD ps (.inr b)).isSome=decide (b∈ss):=by
 rw [← u8w e]
 unfold valD
 rw [Option.isSome_map]
 clear e
 induction ps with
 | nil=>rfl
 | cons p ps ih =>
  rw [List.find?_cons,List.any_cons]
  cases q:eqK p.1 (.inr b)
  ·simpa using ih
  ·rfl
theorem v3i {P:Str→Prop}{ss:List Str}{b:Str} (h:∀ z∈ss,P z) (hb:P b):∀ z∈addT ss b,P z:=fun z hz=>by
 unfold addT at hz
 split at hz
 ·exact h z hz
 ·rcases List.mem_append.mp hz with q | q
  ·exact h z q
  ·rw [List.mem_singleton.mp q];exact hb
theorem u7N {P:Str→Prop}{ss:List Str}{b:Str} (h:∀ z∈ss,P z) (hb:sgnS b=true→P b):∀ z∈addSg ss b,P z:=by
 unfold addSg
 by_cases c:sgnS b=true
 ·rw [if_pos c];exact v3i h (hb c)
 ·rw [if_neg c];exact h
theorem u8Y {P:Str→Prop}:∀ {bs ss:List Str},(∀ z∈ss,P z)→(∀ b∈bs,sgnS b=true→P b)→∀ z∈bs.foldl addSg ss,P z
 | [],_,h,_=>h
 | b::bs,ss,h,hb=>u8Y (bs:=bs) (u7N h (hb b List.mem_cons_self)) fun x hx=>hb x (List.mem_cons_of_mem _ hx)
theorem u7T {P:Str→Prop}:∀ {rs:List RR}{ss:List Str},(∀ z∈ss,P z)→(∀ p∈rs,∀ b∈p.2,sgnS b=true→P b)→∀ z∈sgL ss rs,P z
 | [],_,h,_=>h
 | p::rs,ss,h,hb=>u7T (rs:=rs) (u8Y h (hb p List.mem_cons_self)) fun q hq=>hb q (List.mem_cons_of_mem _ hq)
theorem v3l:∀ {rs:List RR}{ss:List Str},ss.Nodup→(sgL ss rs).Nodup
 | [],_,h=>h
 | p::rs,ss,h=>v3l (rs:=rs) (by
  show (p.2.foldl addSg ss).Nodup
  have:∀ (bs ss:List Str),ss.Nodup→(bs.foldl addSg ss).Nodup:=by
   intro bs
   induction bs with
   | nil=>intro ss h;exact h
   | cons b bs ih =>
    intro ss h
    refine ih _ ?_
    unfold addSg
    split
    ·exact u5R h
    ·exact h
  exact this _ _ h)
theorem v0z {ss pool:List Str} (nd:ss.Nodup) (h:∀ z∈ss,z∈pool):ss.length≤pool.length:=by
 induction ss generalizing pool with
 | nil=>simp
 | cons z ss ih =>
  obtain ⟨h1,h2⟩:=List.nodup_cons.mp nd
  have hz:=h z List.mem_cons_self
  have:=ih (pool:=pool.erase z) h2 fun y hy=>(List.mem_erase_of_ne (fun e:y=z=>h1 (e ▸ hy))).mpr (h y (List.mem_cons_of_mem _ hy))
  rw [List.length_erase_of_mem hz] at this
  have:0<pool.length:=List.length_pos_of_mem hz
  simp only [List.length_cons]
  omega
structure Few (rs:List RR):Prop where
 ok:∀ p∈rs,OkR p
 n:rs.length≤20
 s:(sgL [] rs).length<64
noncomputable def Ssg (ds:D) (ss:List Str) (rs:List RR) (ρ:Rho):Prop:=(∀ p∈rs,OkR p)∧ss.length+4*rs.length≤200∧∃ kvs x y,ρ=[some (.val ds),some (.own (.d kvs)),x,y]∧kvs.map (·.1)=ss.map D.str
noncomputable def Qsg (ds:D) (ss:List Str) (o:Out):Prop:=∃ kvs x y,o=.nx [some (.val ds),some (.own (.d kvs)),x,y]∧kvs.map (·.1)=ss.map D.str
noncomputable def Ssi (ds:D) (r:Option Sl) (ss:List Str) (bs:List Str) (ρ:Rho):Prop:=(∀ b∈bs,goodS b=true)∧ss.length+bs.length≤200∧∃ kvs y,ρ=[some (.val ds),some (.own (.d kvs)),r,y]∧kvs.map (·.1)=ss.map D.str
noncomputable def Skn (ds hs:D) (_:Unit) (rs:List RR) (ρ:Rho):Prop:=(∀ p∈rs,OkR p)∧∃ x y,ρ=[some (.val ds),some (.val hs),x,y]
noncomputable def Ski (ds hs:D) (r:Option Sl) (_:Unit) (bs:List Str) (ρ:Rho):Prop:=(∀ b∈bs,goodS b=true)∧∃ y,ρ=[some (.val ds),some (.val hs),r,y]
noncomputable def Qki (A:Adr) (ds hs:D) (u:Option Str) (o:Out):Prop:=match u with
 | none=>∃ x y,o=.nx [some (.val ds),some (.val hs),x,y]
 | some b=>∃ ρ,o=.er (.exc A.NoHead [("head",.str b)]) ρ
theorem u4C (hs:List Str) (b:Str) (bs:List Str):fstUnk hs (b::bs)=if (hdS b&&!decide (b∈hs))=true then some b else fstUnk hs bs:=by
 unfold fstUnk
 rw [List.find?_cons]
 cases (hdS b&&!decide (b∈hs)) <;> rfl
theorem u3K (ss:List Str) (b:Str):(addSg ss b).length≤ss.length+1:=by
 unfold addSg
 split
 ·exact u9q ss b
 ·omega
theorem u5K:∀ (bs ss:List Str),(bs.foldl addSg ss).length≤ss.length+bs.length
 | [],ss=>by simp
 | b::bs,ss=>by
  have:=u5K bs (addSg ss b)
  have:=u3K ss b
  simp only [List.foldl_cons,List.length_cons]
  omega
theorem v0O {b:Str}{kvs:List (D×D)}{ss:List Str}{fi fv:Rho→Res D}{ρ:Rho} (hl:kvs.length≤1000) (hv:fv ρ=.ok (.bl true)) (hi:fi ρ=.ok (.str b)) (hg:getD' ρ 1=.ok kvs) :
  fPutD 1 fi fv ρ=.nx (ρ.set 1 (some (.own (.d (putD kvs (.inr b) (.bl true)))))):=by
 unfold fPutD
 rw [hv,go_ok,hg,go_ok,hi,go_ok,show keyK (.str b)=.ok (.inr b) from rfl,go_ok,if_pos (Nat.lt_of_le_of_lt hl (by decide))]
section
variable {P:Program}{w:World}{K:PySem.W.Frag}{mg:Str→Option Value}{base:Heap}{f:Addr}{fd:FuncData}{A:Adr}
theorem u5u {G_law_is_sign:List D→Res D} (c__law_is_sign:Callee P w K mg base 1 "_law_is_sign" ["_law_thing"] (spF K G_law_is_sign)) (p__law_is_sign:P1 sgnD G_law_is_sign) (F:Fun K "_law_is_rank" "_law_is_rank" u1d f fd) (T:Txt K mg A):∃ G,FnOk P w K mg base CX0 2 f fd ["_law_thing"] (spF K G)∧∀ d,goodD d=true→rkOk d=true→G [d]=.ok (.bl (rankD d)):=by
 refine ⟨_,F.okT (k:=1) u5o (fun cdv Ar outer s H E hr=>u0d (u0y (dt_w (u4x (u0M (u0L (d_B u2r T.z_isinstance (by decide +kernel) (u0a (dv 0) (u0a (d_ty T.z_tuple (T:="tuple") (by decide +kernel)) u0b))))) (u4x (u0n (v2G (hu64 hr)) (d_B u1o T.z_len (by decide +kernel) (u0a (dv 0) u0b)) u0c) (u3H (u0n (u2R (hu100 hr)) (d_ix x_ix (dv 0) u0c) (u0H (u0a u0i (u0a u0i (u0a u0i u0b))))))))) (u0e (u0h d_bl)) u0l)
  (u0d (u0y (dt_w (u4x (u0M (u0L (d_B u2r T.z_isinstance (by decide +kernel) (u0a (d_ix x_ix (dv 0) u0c) (u0a (d_ty T.z_tuple (T:="tuple") (by decide +kernel)) u0b))))) (u3H (u0M (u3I o_le o_le u0c (d_B u1o T.z_len (by decide +kernel) (u0a (d_ix x_ix (dv 0) u0c) u0b)) u0c))))) (u0e (u0h d_bl)) u0l)
  (u0e (u0h (u3c (u3b (hu64 hr)) (DN.de (u1r ["_law_sign"] [] rfl (u0v (sc:=defScope u1d) (N:=["_law_thing"]) (by decide +kernel)) (u1n (d_ix x_ix (dv 0) u0c)) (dg_n (show (["_law_sign"]:List Str).Nodup by decide +kernel)) (u7r (u0M (u0L (d_fn c__law_is_sign hr (u0a (dv 0) u0b))))) (dv 0))) (u0H u0b)))))),?_⟩
 intro d h hk
 simp [runT,startD,u8x (u0w h)]
 cases d with
 | tup ds =>
  match ds,h,hk with
  | [],_,_=>simp [isTupD,rankD,u3h]
  | [_],_,_=>simp [isTupD,rankD,u3h]
  | _::_::_::l,_,_ =>
   have:((l.length:Int)+1+1+1==2)=false:=by
    rw [beq_eq_false_iff_ne];omega
   simp [isTupD,rankD,u3h,this]
  | [x,y],h,hk =>
   have gx:=u0F h x (by simp)
   have gy:=u0F h y (by simp)
   simp [isTupD,rankD,u3h,ix_0,ix_1,u8n (show isOkR (cmpD x)=true from hk)]
   by_cases cx:sideD x=true
   ·simp [cx,ix_1,u8x (u0w gy)]
    cases y with
    | tup bs =>
     by_cases c0:1≤bs.length
     ·have c0':(1:Int)≤bs.length:=by omega
      by_cases c:bs.length≤10
      ·have c':(bs.length:Int)≤10:=by omega
       simp [isTupD,rsgD,ix_1,c,c',c0,c0']
       rw [u0K (u1Y (by omega)),u1I (fun d=>!sgnD d) (fun d=>d) (fun d hd=>?_)]
       ·simp [u3U,u2N]
       ·exact ⟨_,rfl,by simp [rhoC,p__law_is_sign d (u0F gy d hd)],fun _=>by simp [rhoC]⟩
      ·have c':¬ (bs.length:Int)≤10:=by omega
       simp [isTupD,rsgD,ix_1,c,c',c0,c0']
     ·have c0':¬ (1:Int)≤bs.length:=by omega
      simp [isTupD,rsgD,ix_1,c0,c0']
    | _=>simp [isTupD,rsgD,ix_1]
   ·simp [cx]
 | _=>simp [isTupD,rankD]
theorem u4q {G_law_is_rule:List D→Res D} (c__law_is_rule:Callee P w K mg base 2 "_law_is_rule" ["_law_thing"] (spF K G_law_is_rule)) (p__law_is_rule:P1 ruleD G_law_is_rule) (F:Fun K "_law_rules_due" "_law_rules_due" u0U f fd) (T:Txt K mg A):∃ G,FnOk P w K mg base CX0 3 f fd ["_law_rules_here"] (spF K G)∧∀ d,goodD d=true→G [d]=.ok (dueRules d).toD:=by
 refine ⟨_,F.okT (k:=2) u1X (fun cdv Ar outer s H E hr=>u0d (u0y (u0M (u0L (d_B u2r T.z_isinstance (by decide +kernel) (u0a (dv 0) (u0a (d_ty T.z_list (T:="list") (by decide +kernel)) u0b))))) (u0e (u0h (u0f (u0a u0i (u0a (dv 0) u0b))))) u0l)
  (u0d (u0y (u0M (u3I o_le o_le u0c (d_B u1o T.z_len (by decide +kernel) (u0a (dv 0) u0b)) u0c)) (u0e (u0h (u0f (u0a u0i (u0a (d_B u1o T.z_len (by decide +kernel) (u0a (dv 0) u0b)) u0b))))) u0l)
  (u0d (u1L rfl (v1K T.z_enumerate (u0a (dv 0) u0b)) (u9h (n:=2) rfl (u1t (dg_n u1X.nd) (u1t (dg_n u1X.nd) u3W)))
  (u0d (u0y (u0M (u0L (d_fn c__law_is_rule hr (u0a (dv 2) u0b)))) (u0e (u0h (u0f (u0a u0i (u0a (dv 2) u0b))))) u0l)
   (u0e (u0y (u0n (o_in (hu100 hr)) (dv 2) (d_sl (dv 0) u1Z (u1w (dv 1)))) (u0e (u0h (u0f (u0a u0i (u0a (dv 1) u0b))))) u0l))))
  (u0e (u0h u2W))))),?_⟩
 intro d h
 simp [runT,startD,a_lst (u0w h)]
 cases d with
 | lst ds =>
  have g:=u2S h
  by_cases c0:1≤ds.length
  ·have c0':(1:Int)≤ds.length:=by omega
   by_cases c:ds.length≤20
   ·have c':(ds.length:Int)≤20:=by omega
    simp [isLstD,dueRules,c,c',c0,c0']
    rw [show enum1 [.lst ds]=.ok (enumL ds) from rfl,go_ok]
    refine u3S (S1 ds) goRules Q1 ?_ ?_ ds 0 [] _ ⟨rfl,rfl,fun p hp=>(nomatch hp),none,none,rfl⟩
    ·rintro k rs ρ ⟨_,_,_,x,y,rfl⟩
     simp [Q1,goRules,Due.toD]
    ·rintro k rs d rest ρ ⟨rfl,e,hr,x,y,rfl⟩
     have gd':=g d (by rw [e];simp)
     refine ⟨_,rfl,?_⟩
     simp [p__law_is_rule d gd']
     by_cases cr:ruleD d=true
     ·obtain ⟨p,ep,rfl⟩:=u2Y cr
      have o:=u8H cr gd'
      have ec:dSl (.lst ds) none (some (rs.length:Int))=.ok (.lst (rs.map rT)):=by
       show Res.ok (D.lst (cutC ds none (some (rs.length:Int))))=_
       rw [e]
       have:=v3f (rs.map rT) (rT p::rest)
       rw [List.length_map] at this
       rw [this]
      simp [cr,asI,ec,show dIn (rT p) (.lst (rs.map rT))=inD (rT p) (rs.map rT) false from u3i false _ _,u8Q o hr]
      by_cases cp:p∈rs
      ·simp [cp]
       exact u2z (by simp [Q1,goRules,ep,cp,Due.toD])
      ·simp [cp]
       exact u1j (rs++[p]) ⟨by simp,by rw [e];simp,u8G hr o,_,_,rfl⟩ (by simp [goRules,ep,cp])
     ·simp [cr]
      exact u2z (by simp [Q1,goRules,u3B (by simpa using cr),Due.toD])
   ·have c':¬ (ds.length:Int)≤20:=by omega
    simp [isLstD,dueRules,c,c',c0,c0',Due.toD]
  ·have c0':¬ (1:Int)≤ds.length:=by omega
   simp [isLstD,dueRules,c0,c0',Due.toD]
 | _=>simp [isLstD,dueRules,Due.toD]
theorem u6d {G_is_rule:List D→Res D} (c_is_rule:Callee P w K mg base 5 "is_rule" ["thing"] (spF K G_is_rule)) (x_NoRule:XCalleeF P w K mg base 1 "NoRule" A.NoRule ["self","found"] ["found"]) (x_TooMany:XCalleeF P w K mg base 1 "TooMany" A.TooMany ["self","found"] ["found"]) (x_Doubled:XCalleeF P w K mg base 1 "Doubled" A.Doubled ["self","number"] ["number"]) (p_is_rule:P1 ruleD G_is_rule) (F:Fun K "need_rules" "need_rules" u1E f fd) (T:Txt K mg A):∃ G,FnOk P w K mg base (CXe P w) 6 f fd ["rules"] (spX K G)∧∀ d,goodD d=true→G [d]=(dueRules d).toR A:=by
 refine ⟨_,F.okTX (k:=5) u2b (fun cdv Ar outer s H E hr hq=>u0d (u0y (u0M (u0L (d_B u2r T.z_isinstance (by decide +kernel) (u0a (dv 0) (u0a (d_ty T.z_list (T:="list") (by decide +kernel)) u0b))))) (u0e (u1K hq rfl x_NoRule hr (u0a (dv 0) u0b))) u0l)
  (u0d (u0y (u0M (u3I o_le o_le u0c (d_B u1o T.z_len (by decide +kernel) (u0a (dv 0) u0b)) (u5f T.g_MOST_RULES))) (u0e (u1K hq rfl x_TooMany hr (u0a (d_B u1o T.z_len (by decide +kernel) (u0a (dv 0) u0b)) u0b))) u0l)
  (u0d (u2O u2b.nd dn_newW)
  (u0e (u1L rfl (v1K T.z_enumerate (u0a (dv 0) u0b)) (u9h (n:=2) rfl (u1t (dg_n u2b.nd) (u1t (dg_n u2b.nd) u3W)))
  (u0d (u0y (u0M (u0L (d_fn c_is_rule hr (u0a (dv 3) u0b)))) (u0e (u1K hq rfl x_NoRule hr (u0a (dv 3) u0b))) u0l)
   (u0d (u0y (u0n (o_inW (hu200 hr)) (dv 3) (dv 1)) (u0e (u1K hq rfl x_Doubled hr (u0a (dv 2) u0b))) u0l)
   (u0e (ds_putW 1 (hu200 hr) (dv 3) d_bl)))) hq.ps))))),?_⟩
 intro d h
 simp [runX,startD,a_lst (u0w h)]
 cases d with
 | lst ds =>
  have g:=u2S h
  by_cases c0:1≤ds.length
  ·have c0':(1:Int)≤ds.length:=by omega
   by_cases c:ds.length≤20
   ·have c':(ds.length:Int)≤20:=by omega
    simp [isLstD,dueRules,c,c',c0,c0']
    rw [show enum1 [.lst ds]=.ok (enumL ds) from rfl,go_ok]
    refine u3S (S2 w ds) goRules (Q2 A) ?_ ?_ ds 0 [] _ ⟨rfl,rfl,fun p hp=>(nomatch hp),[],none,none,rfl,rfl⟩
    ·rintro k rs ρ ⟨_,_,_,kvs,x,y,rfl,_⟩
     simp [Q2,goRules,Due.toR]
    ·rintro k rs d rest ρ ⟨rfl,e,hr,kvs,x,y,rfl,ek⟩
     have gd':=g d (by rw [e];simp)
     refine ⟨_,rfl,?_⟩
     simp [p_is_rule d gd']
     by_cases cr:ruleD d=true
     ·obtain ⟨p,ep,rfl⟩:=u2Y cr
      have o:=u8H cr gd'
      have hl:kvs.length=rs.length:=by have:=congrArg List.length ek;simpa using this
      have hl2:rs.length≤20:=by have:=congrArg List.length e;simp at this;omega
      simp [cr,OD.toD,in_keys (w:=w) o ek]
      by_cases cp:p∈rs
      ·simp [cp]
       exact u2A (by simp [Q2,goRules,ep,cp,Due.toR])
      ·simp only [cp,if_false,Out.then_nx]
       rw [put_key (w:=w) (kvs:=kvs) o (by omega) rfl rfl rfl]
       exact u1j (rs++[p]) ⟨by simp,by rw [e];simp,u8G hr o,_,_,_,rfl,v2P ek cp⟩ (by simp [goRules,ep,cp])
     ·simp [cr]
      exact u2A (by simp [Q2,goRules,u3B (by simpa using cr),Due.toR])
   ·have c':¬ (ds.length:Int)≤20:=by omega
    simp [isLstD,dueRules,c,c',c0,c0',Due.toR]
  ·have c0':¬ (1:Int)≤ds.length:=by omega
   simp [isLstD,dueRules,c0,c0',Due.toR]
 | _=>simp [isLstD,dueRules,Due.toR]
end
section
variable {P:Program}{w:World}{K:PySem.W.Frag}{mg:Str→Option Value}{base:Heap}{f:Addr}{fd:FuncData}{A:Adr}
theorem u8i (F:Fun K "heads_in" "heads_in" u1R f fd) (T:Txt K mg A):∃ G,FnOk P w K mg base CX0 1 f fd ["rules"] (spF K G)∧∀ rs:List RR,rs.length<64→G [.lst (rs.map rT)]=.ok (.lst ((headsL rs).map D.str)):=by
 refine ⟨_,F.okT (k:=0) u7X (fun cdv Ar outer s H E hr=>u0e (u0h (v3w rfl T.z_sorted T.z_set (u0a (DN.de (u1r ["rule"] [] rfl (u0v (sc:=defScope u1R) (N:=["rules"]) (by decide +kernel)) (u1n (dv 0)) (dg_n (show (["rule"]:List Str).Nodup by decide +kernel)) u2a (d_ix x_ix (dv 0) u0c))) u0b)))),?_⟩
 intro rs hl
 simp [runT,startD]
 rw [u0K (u1Y (by omega)),u2P hd1 (fun d hd=>?_)]
 ·simp only [v1r,Res.bind_ok,toD_l,one1]
  rw [u8W (by simpa [hsOf] using hl)]
  simp [headsL]
 ·obtain ⟨p,_,rfl⟩:=List.mem_map.mp hd
  exact ⟨_,rfl,rfl,by simp [rhoC,rT,ix_0,hd1]⟩
theorem u8e {G_is_sign:List D→Res D} (c_is_sign:Callee P w K mg base 2 "is_sign" ["thing"] (spF K G_is_sign)) (p_is_sign:P1 sgnD G_is_sign) (F:Fun K "signs_in" "signs_in" u2f f fd) (T:Txt K mg A):∃ G,FnOk P w K mg base CX0 3 f fd ["rules"] (spF K G)∧∀ rs:List RR,Few rs→G [.lst (rs.map rT)]=.ok (.lst ((sortT (sgL [] rs)).map D.str)):=by
 refine ⟨_,F.okT (k:=2) u2Q (fun cdv Ar outer s H E hr=>u0d (u2O u2Q.nd u5e)
  (u0d (u1L rfl (u1n (dv 0)) (dg_n u2Q.nd)
  (u0e (u1L rfl (u1n (d_ix x_ix (dv 2) u0c)) (dg_n u2Q.nd)
   (u0e (u0y (u0L (d_fn c_is_sign hr (u0a (dv 3) u0b))) (u0e (v1G 1 (hu200 hr) (dv 3) d_bl)) u0l)))))
  (u0e (u0h (d_B (c_sortD rfl) T.z_sorted (by decide +kernel) (u0a (dv 1) u0b)))))),?_⟩
 intro rs fw
 simp [runT,startD]
 have key:∀ o,Qsg (.lst (rs.map rT)) (sgL [] rs) o→noE (outR (o.andThen fun ρ=>(((getV (frz ρ) 1).bind fun d=>Res.ok [d]).bind fun ds=>noE (gSD ds)).go ρ fun d=>Out.rt d))=.ok (.lst ((sortT (sgL [] rs)).map D.str)):=by
  rintro o ⟨kvs,x,y,rfl,ek⟩
  have e:gSD [.dct kvs]=.ok (.lst ((sortT (sgL [] rs)).map D.str)):=by
   show (match keyStrs kvs with | some ss=>gd (ss.length<64∧∀ z∈ss,z.length≤sizeLine) (Res.ok (D.lst ((sortT ss).map D.str))) | none=>.bad)=_
   rw [u5H ek]
   simp only
   refine u0K ⟨fw.s,fun z hz=>?_⟩
   have:=u7T (P:=fun z=>goodS z=true) (ss:=[]) (rs:=rs) (fun z h=>(nomatch h)) (fun p hp b hb _=>(fw.ok p hp).gs b hb) z hz
   simp [goodS] at this
   exact u1Y this.2
  simp [OD.toD,e]
 apply key
 refine u0B rT (Ssg (.lst (rs.map rT))) sgL (Qsg _) ?_ ?_ rs [] _ ⟨fw.ok,by have:=fw.n;simp;omega,[],none,none,rfl,rfl⟩
 ·rintro ss ρ ⟨_,_,kvs,x,y,rfl,ek⟩
  exact ⟨kvs,x,y,rfl,ek⟩
 ·rintro ss p ps ρ ⟨ok,hl,kvs,x,y,rfl,ek⟩
  have op:=ok p List.mem_cons_self
  refine ⟨_,rfl,?_⟩
  simp [rT,ix_1]
  generalize hI:forD _ _ _ _=o
  have q:Qsg (.lst (rs.map rT)) (p.2.foldl addSg ss) o:=by
   rw [← hI]
   refine u0B D.str (Ssi (.lst (rs.map rT)) (some (.val (rT p)))) (fun ss bs=>bs.foldl addSg ss) (Qsg _) ?_ ?_ p.2 ss _ ⟨op.gs,by have:=op.l;simp at hl;omega,kvs,y,rfl,ek⟩
   ·rintro ss ρ ⟨_,_,kvs,y,rfl,ek⟩
    exact ⟨kvs,_,y,rfl,ek⟩
   ·rintro ss b bs ρ ⟨gs,hl,kvs,y,rfl,ek⟩
    have hk:kvs.length=ss.length:=by have:=congrArg List.length ek;simpa using this
    refine ⟨_,rfl,?_⟩
    simp [p_is_sign (.str b) (by simpa [goodD] using gs b List.mem_cons_self),sgnD]
    by_cases c:sgnS b=true
    ·simp only [c,if_true]
     rw [v0O (ss:=ss) (kvs:=kvs) (b:=b) (by simp at hl;omega) rfl rfl rfl]
     exact u1j (addSg ss b) ⟨fun z hz=>gs z (List.mem_cons_of_mem _ hz),by have:=u3K ss b;simp at hl;omega,_,_,rfl,by unfold addSg;rw [if_pos c];exact u4S ek⟩ rfl
    ·simp only [c]
     exact u1j (addSg ss b) ⟨fun z hz=>gs z (List.mem_cons_of_mem _ hz),by have:=u3K ss b;simp at hl;omega,_,_,rfl,by unfold addSg;rw [if_neg c];exact ek⟩ rfl
  obtain ⟨kvs',x',y',rfl,ek'⟩:=q
  exact u1j (p.2.foldl addSg ss) ⟨fun z hz=>ok z (List.mem_cons_of_mem _ hz),by have:=u5K p.2 ss;have:=op.l;simp at hl;omega,_,_,_,rfl,ek'⟩ rfl
theorem u3t {G_heads_in:List D→Res D} (c_heads_in:Callee P w K mg base 1 "heads_in" ["rules"] (spF K G_heads_in)) {G_is_head:List D→Res D} (c_is_head:Callee P w K mg base 2 "is_head" ["thing"] (spF K G_is_head)) (x_NoHead:XCalleeF P w K mg base 1 "NoHead" A.NoHead ["self","head"] ["head"]) (p_is_head:P1 hdD G_is_head) (p_heads:∀ rs:List RR,rs.length<64→G_heads_in [.lst (rs.map rT)]=.ok (.lst ((headsL rs).map D.str))) (F:Fun K "need_known_heads" "need_known_heads" u0D f fd) (T:Txt K mg A):∃ G,FnOk P w K mg base (CXe P w) 3 f fd ["rules"] (spX K G)∧∀ rs:List RR,(∀ p∈rs,OkR p)→rs.length<64→G [.lst (rs.map rT)]=(goKn (headsL rs) () rs).toR A:=by
 refine ⟨_,F.okTX (k:=2) u0Z (fun cdv Ar outer s H E hr hq=>u0d (ds_n u0Z.nd (d_fn c_heads_in hr (u0a (dv 0) u0b)))
  (u0e (u1L rfl (u1n (dv 0)) (dg_n u0Z.nd)
  (u0e (u1L rfl (u1n (d_ix x_ix (dv 2) u0c)) (dg_n u0Z.nd)
   (u0e (u0y (dt_w (u3p (u0L (d_fn c_is_head hr (u0a (dv 3) u0b))) (u2U (u0n (u2R (hu100 hr)) (dv 3) (dv 1))))) (u0e (u1K hq rfl x_NoHead hr (u0a (dv 3) u0b))) u0l)) hq.ps)) hq.ps))),?_⟩
 intro rs ok hl
 simp [runX,startD,p_heads rs hl]
 refine u0B rT (Skn (.lst (rs.map rT)) (.lst ((headsL rs).map D.str))) (goKn (headsL rs)) (Q2 A) ?_ ?_ rs () _ ⟨ok,none,none,rfl⟩
 ·rintro _ ρ ⟨_,x,y,rfl⟩
  simp [Q2,goKn,Due.toR]
 ·rintro _ p ps ρ ⟨okp,x,y,rfl⟩
  have op:=okp p List.mem_cons_self
  refine ⟨_,rfl,?_⟩
  simp [rT,ix_1]
  generalize hI:forD _ _ _ _=o
  have q:Qki A (.lst (rs.map rT)) (.lst ((headsL rs).map D.str)) (fstUnk (headsL rs) p.2) o:=by
   rw [← hI]
   refine u0B D.str (Ski (.lst (rs.map rT)) (.lst ((headsL rs).map D.str)) (some (.val (rT p)))) (fun _ bs=>fstUnk (headsL rs) bs) (Qki A _ _) ?_ ?_ p.2 () _ ⟨op.gs,y,rfl⟩
   ·rintro _ ρ ⟨_,y,rfl⟩
    exact ⟨_,y,rfl⟩
   ·rintro _ b bs ρ ⟨gs,y,rfl⟩
    have gb:=gs b List.mem_cons_self
    refine ⟨_,rfl,?_⟩
    simp [p_is_head (.str b) (by simpa [goodD] using gb),hdD]
    by_cases c:hdS b=true
    ·simp [c,u3m gb (u3P ok)]
     by_cases k:b∈headsL rs
     ·simp [k]
      exact u1j () ⟨fun z hz=>gs z (List.mem_cons_of_mem _ hz),_,rfl⟩ (by simp [u4C,k])
     ·simp [k]
      exact u2A (by simp only [u4C,c,k];exact ⟨_,rfl⟩)
    ·simp [c]
     exact u1j () ⟨fun z hz=>gs z (List.mem_cons_of_mem _ hz),_,rfl⟩ (by simp [u4C,c])
  cases u:fstUnk (headsL rs) p.2 with
  | none =>
   rw [u] at q
   obtain ⟨x',y',rfl⟩:=q
   exact u1j () ⟨fun z hz=>okp z (List.mem_cons_of_mem _ hz),_,_,rfl⟩ (by simp [goKn,u])
  | some b =>
   rw [u] at q
   obtain ⟨ρ',rfl⟩:=q
   exact u2A (by simp [Q2,goKn,u,Due.toR])
theorem u3u {G_heads_in:List D→Res D} (c_heads_in:Callee P w K mg base 1 "heads_in" ["rules"] (spF K G_heads_in)) {G_signs_in:List D→Res D} (c_signs_in:Callee P w K mg base 3 "signs_in" ["rules"] (spF K G_signs_in)) (x_TooMany:XCalleeF P w K mg base 1 "TooMany" A.TooMany ["self","found"] ["found"]) (p_heads:∀ rs:List RR,rs.length<64→G_heads_in [.lst (rs.map rT)]=.ok (.lst ((headsL rs).map D.str))) (p_signs:∀ rs:List RR,Few rs→G_signs_in [.lst (rs.map rT)]=.ok (.lst ((sortT (sgL [] rs)).map D.str))) (F:Fun K "need_few_symbols" "need_few_symbols" u0E f fd) (T:Txt K mg A):∃ G,FnOk P w K mg base (CXe P w) 4 f fd ["rules"] (spX K G)∧∀ rs:List RR,Few rs→G [.lst (rs.map rT)]=(dueFew rs).toR A:=by
 refine ⟨_,F.okTX (k:=3) u1z (fun cdv Ar outer s H E hr hq=>u0d (ds_n u1z.nd (d_fn c_heads_in hr (u0a (dv 0) u0b)))
  (u0d (u0y (u0n o_gt (d_B u1o T.z_len (by decide +kernel) (u0a (dv 1) u0b)) (u5f T.g_MOST_HEADS)) (u0e (u1K hq rfl x_TooMany hr (u0a (d_B u1o T.z_len (by decide +kernel) (u0a (dv 1) u0b)) u0b))) u0l)
  (u0d (ds_n u1z.nd (d_fn c_signs_in hr (u0a (dv 0) u0b)))
  (u0e (u0y (u0n o_gt (d_B u1o T.z_len (by decide +kernel) (u0a (dv 2) u0b)) (u5f T.g_MOST_SIGNS)) (u0e (u1K hq rfl x_TooMany hr (u0a (d_B u1o T.z_len (by decide +kernel) (u0a (dv 2) u0b)) u0b))) u0l))))),?_⟩
 intro rs fw
 have n:=fw.n
 simp [runX,startD,p_heads rs (by omega),headsL,u2n]
 unfold dueFew
 by_cases c:(setOfT (hsOf rs)).length > 8
 ·have c':(8:Int)<(setOfT (hsOf rs)).length:=by omega
  simp [c,c',u2n,Due.toR]
 ·have c':¬ (8:Int)<(setOfT (hsOf rs)).length:=by omega
  simp [c,c',p_signs rs fw,u2n]
  by_cases k:(sgL [] rs).length > 10
  ·have k':(10:Int)<(sgL [] rs).length:=by omega
   simp [k,k',u2n,Due.toR]
  ·have k':¬ (10:Int)<(sgL [] rs).length:=by omega
   simp [k,k',Due.toR]
end
noncomputable def inn (hs:List Str) (ss:List Str):List Str→Option Str×List Str
 | []=>(none,ss)
 | b::bs=>if (hdS b&&!decide (b∈hs))=true then (some b,ss) else inn hs (addSg ss b) bs
noncomputable def goHd (hs:List Str) (ss:List Str):List RR→Option Str×List Str
 | []=>(none,ss)
 | p::rs=>match inn hs ss p.2 with
  | (some b,s)=>(some b,s)
  | (none,s)=>goHd hs s rs
theorem u8P (hs:List Str):∀ (bs ss:List Str),(inn hs ss bs).1=fstUnk hs bs∧(fstUnk hs bs=none→(inn hs ss bs).2=bs.foldl addSg ss)
 | [],ss=>⟨rfl,fun _=>rfl⟩
 | b::bs,ss=>by
  rw [u4C]
  unfold inn
  by_cases c:(hdS b&&!decide (b∈hs))=true
  ·rw [if_pos c,if_pos c];exact ⟨rfl,fun h=>by cases h⟩
  ·rw [if_neg c,if_neg c];exact u8P hs bs (addSg ss b)
theorem u7l (hs:List Str):∀ (rs:List RR) (ss:List Str),goKn hs () rs=(match (goHd hs ss rs).1 with | some b=>.head b | none=>.fine)∧((goHd hs ss rs).1=none→(goHd hs ss rs).2=sgL ss rs)
 | [],ss=>⟨rfl,fun _=>rfl⟩
 | p::rs,ss=>by
  obtain ⟨h1,h2⟩:=u8P hs p.2 ss
  unfold goHd goKn
  cases e:inn hs ss p.2 with
  | mk u s =>
   rw [e] at h1 h2
   cases u with
   | some b=>rw [← h1];exact ⟨rfl,fun h=>by cases h⟩
   | none =>
    rw [← h1]
    simp only at h2 ⊢
    rw [h2 h1.symm]
    exact u7l hs rs _
noncomputable def Shd (ds hs:D) (ss:List Str) (rs:List RR) (ρ:Rho):Prop:=(∀ p∈rs,OkR p)∧(∀ z∈ss,goodS z=true)∧ss.length+4*rs.length≤200∧∃ x y z,ρ=[some (.val ds),some (.val hs),some (.own (.l (ss.map D.str))),x,y,z]
noncomputable def Shi (ds hs:D) (x y:Option Sl) (n:Nat) (ss:List Str) (bs:List Str) (ρ:Rho):Prop:=(∀ b∈bs,goodS b=true)∧(∀ z∈ss,goodS z=true)∧(ss.length+bs.length≤n∧n≤500)∧∃ z,ρ=[some (.val ds),some (.val hs),some (.own (.l (ss.map D.str))),x,y,z]
noncomputable def Qhd (ds hs:D) (u:Option Str×List Str) (o:Out):Prop:=match u with
 | (none,ss)=>∃ x y z,o=.nx [some (.val ds),some (.val hs),some (.own (.l (ss.map D.str))),x,y,z]
 | (some b,_)=>o=.rt (.tup [.str "head",.str b])
noncomputable def Qhi (ds hs:D) (n:Nat) (u:Option Str×List Str) (o:Out):Prop:=match u with
 | (none,ss)=>(∀ z∈ss,goodS z=true)∧ss.length≤n∧∃ x y z,o=.nx [some (.val ds),some (.val hs),some (.own (.l (ss.map D.str))),x,y,z]
 | (some b,_)=>o=.rt (.tup [.str "head",.str b])
noncomputable def asRank (d:D):Option (List Str):=match d with
 | .tup [.str _,.tup bs]=>if rankD d=true then strsOf bs else none
 | _=>none
theorem u6D:∀ {ds:List D},ds.all sgnD=true→∃ ss,strsOf ds=some ss
 | [],_=>⟨[],rfl⟩
 | d::ds,h=>by
  rw [List.all_cons,Bool.and_eq_true] at h
  obtain ⟨ss,e⟩:=u6D h.2
  cases d with
  | str z=>exact ⟨z::ss,by simp [strsOf,e]⟩
  | _=>simp [sgnD] at h
theorem u2s {d:D} (h:rankD d=false):asRank d=none:=by
 unfold asRank
 split
 ·rw [if_neg (by rw [h];exact Bool.false_ne_true)]
 ·rfl
theorem u1U {d:D} (h:rankD d=true):∃ s ss,asRank d=some ss∧d=.tup [.str s,.tup (ss.map D.str)]∧ss.length≤10:=by
 cases d with
 | tup ds =>
  match ds,h with
  | [],h=>simp [rankD] at h
  | [_],h=>simp [rankD] at h
  | _::_::_::_,h=>simp [rankD] at h
  | [x,y],h =>
   have h0:=h
   simp [rankD] at h
   obtain ⟨h1,h2⟩:=h
   cases x with
   | str z =>
    cases y with
    | tup bs =>
     simp [rsgD] at h2
     obtain ⟨ss,e⟩:=u6D (List.all_eq_true.mpr h2.2.2)
     refine ⟨z,ss,?_,?_,?_⟩
     ·show (if rankD _=true then strsOf bs else none)=_
      rw [if_pos h0,e]
     ·rw [u3C e]
     ·have:=h2.2.1
      rw [u3C e,List.length_map] at this
      exact this
    | _=>simp [rsgD] at h2
   | _=>simp [sideD] at h1
 | _=>simp [rankD] at h
noncomputable def addAll (ks:List Str):List Str→Option (List Str)
 | []=>some ks
 | b::bs=>if b∈ks then none else addAll (ks++[b]) bs
noncomputable def goRk (ks:List Str):List D→Due
 | []=>.fine
 | d::ds=>match asRank d with
  | none=>.ranks d
  | some ss=>match addAll ks ss with
   | none=>.ranks d
   | some ks=>goRk ks ds
noncomputable def dueRanks:D→Due
 | .lst ds | .tup ds=>if ds.length > 6 then .many ds.length else goRk [] ds
 | d=>.ranks d
noncomputable def Srk (ds:D) (ks:List Str) (rest:List D) (ρ:Rho):Prop:=(∀ d∈rest,goodD d=true)∧ks.length+10*rest.length≤100∧∃ kvs x y,ρ=[some (.val ds),some (.own (.d kvs)),x,y]∧kvs.map (·.1)=ks.map D.str
noncomputable def Sri (ds:D) (r:Option Sl) (n:Nat) (ks:List Str) (bs:List Str) (ρ:Rho):Prop:=(ks.length+bs.length≤n∧n≤500)∧∃ kvs y,ρ=[some (.val ds),some (.own (.d kvs)),r,y]∧kvs.map (·.1)=ks.map D.str
noncomputable def Qri (A:Adr) (ds d:D) (n:Nat) (u:Option (List Str)) (o:Out):Prop:=match u with
 | some ks=>ks.length≤n∧∃ kvs x y,o=.nx [some (.val ds),some (.own (.d kvs)),x,y]∧kvs.map (·.1)=ks.map D.str
 | none=>∃ ρ,o=.er (.exc A.NoRanks [("found",d)]) ρ
noncomputable def Slk (ds:D) (ks:List Str) (rest:List D) (ρ:Rho):Prop:=(∀ d∈rest,goodD d=true∧rkOk d=true)∧(∀ z∈ks,goodS z=true)∧ks.length+10*rest.length≤100∧∃ x y,ρ=[some (.val ds),some (.own (.l (ks.map D.str))),x,y]
noncomputable def Sli (ds:D) (r:Option Sl) (n:Nat) (ks:List Str) (bs:List Str) (ρ:Rho):Prop:=(∀ b∈bs,goodS b=true)∧(∀ z∈ks,goodS z=true)∧(ks.length+bs.length≤n∧n≤500)∧∃ y,ρ=[some (.val ds),some (.own (.l (ks.map D.str))),r,y]
noncomputable def Qli (ds d:D) (n:Nat) (u:Option (List Str)) (o:Out):Prop:=match u with
 | some ks=>(∀ z∈ks,goodS z=true)∧ks.length≤n∧∃ x y,o=.nx [some (.val ds),some (.own (.l (ks.map D.str))),x,y]
 | none=>o=.rt (.tup [.str "ranks",d])
theorem v3q {w:World}{b:Str}{kvs:List (D×D)}{ks:List Str} (e:kvs.map (·.1)=ks.map D.str):dInA w false (.str b) (.dct kvs)=.ok (.bl (decide (b∈ks))):=by
 rw [u9j,show keyK (.str b)=.ok (.inr b) from rfl,Res.bind_ok,val_key e]
 rfl
theorem v2e {ks:List Str}{b:Str} (h:¬ b∈ks):addT ks b=ks++[b]:=by unfold addT;rw [if_neg h]
theorem u4J {s:Str}{ss:List Str} (h:goodD (.tup [.str s,.tup (ss.map D.str)])=true):∀ b∈ss,goodS b=true:=fun b hb=>by
 have h1:=u0F h (.tup (ss.map D.str)) (by simp)
 have:=u0F h1 (.str b) (List.mem_map.mpr ⟨b,hb,rfl⟩)
 simpa [goodD] using this
section
variable {P:Program}{w:World}{K:PySem.W.Frag}{mg:Str→Option Value}{base:Heap}{f:Addr}{fd:FuncData}{A:Adr}
theorem u4t {G_law_is_head:List D→Res D} (c__law_is_head:Callee P w K mg base 1 "_law_is_head" ["_law_thing"] (spF K G_law_is_head)) {G_law_is_sign:List D→Res D} (c__law_is_sign:Callee P w K mg base 1 "_law_is_sign" ["_law_thing"] (spF K G_law_is_sign)) (p__law_is_head:P1 hdD G_law_is_head) (p__law_is_sign:P1 sgnD G_law_is_sign) (F:Fun K "_law_heads_due" "_law_heads_due" u0I f fd) (T:Txt K mg A):∃ G,FnOk P w K mg base CX0 2 f fd ["_law_rules_here"] (spF K G)∧∀ rs:List RR,Few rs→G [.lst (rs.map rT)]=.ok (dueHeads rs).toD:=by
 refine ⟨_,F.okT (k:=1) u0N (fun cdv Ar outer s H E hr=>u0d (ds_n u0N.nd (v3w rfl T.z_sorted T.z_set (u0a (DN.de (u1r ["_law_rule"] [] rfl (u0v (sc:=defScope u0I) (N:=["_law_rules_here","_law_heads_here","_law_signs_here","_law_head","_law_body","_law_symbol_here"]) (by decide +kernel)) (u1n (dv 0)) (dg_n (show (["_law_rule"]:List Str).Nodup by decide +kernel)) u2a (d_ix x_ix (dv 0) u0c))) u0b)))
  (u0d (u2O u0N.nd (u5c u0b))
  (u0d (u1L rfl (u1n (dv 0)) (u9h (n:=2) rfl (u1t (dg_n u0N.nd) (u1t (dg_n u0N.nd) u3W)))
  (u0e (u1L rfl (u1n (dv 4)) (dg_n u0N.nd)
   (u0d (u0y (dt_w (u3p (u0L (d_fn c__law_is_head hr (u0a (dv 5) u0b))) (u2U (u0n (u2R (hu100 hr)) (dv 5) (dv 1))))) (u0e (u0h (u0f (u0a u0i (u0a (dv 5) u0b))))) u0l)
    (u0e (u0y (dt_w (u3p (u0L (d_fn c__law_is_sign hr (u0a (dv 5) u0b))) (u2U (u0n (u2R (hu100 hr)) (dv 5) (dv 2))))) (u0e (u1W 2 (dv 5))) u0l))))))
  (u0d (u0y (u0n o_gt (d_B u1o T.z_len (by decide +kernel) (u0a (dv 1) u0b)) u0c) (u0e (u0h (u0f (u0a u0i (u0a (d_B u1o T.z_len (by decide +kernel) (u0a (dv 1) u0b)) u0b))))) u0l)
  (u0d (u0y (u0n o_gt (d_B u1o T.z_len (by decide +kernel) (u0a (dv 2) u0b)) u0c) (u0e (u0h (u0f (u0a u0i (u0a (d_B u1o T.z_len (by decide +kernel) (u0a (dv 2) u0b)) u0b))))) u0l)
  (u0e (u0h u2W))))))),?_⟩
 intro rs fw
 have n:=fw.n
 simp [runT,startD]
 rw [u0K (u1Y (by omega)),u2P hd1 (fun d hd=>?_)]
 ·simp only [v1r,Res.bind_ok,toD_l,one1]
  rw [u8W (by simp [hsOf];omega)]
  simp
  rw [show sortT (setOfT (hsOf rs))=headsL rs from rfl]
  generalize hO:forD _ _ _ _=o
  have q:Qhd (.lst (rs.map rT)) (.lst ((headsL rs).map D.str)) (goHd (headsL rs) [] rs) o:=by
   rw [← hO]
   refine u0B rT (Shd (.lst (rs.map rT)) (.lst ((headsL rs).map D.str))) (goHd (headsL rs)) (Qhd _ _) ?_ ?_ rs [] _ ⟨fw.ok,fun z h=>(nomatch h),by simp;omega,none,none,none,rfl⟩
   ·rintro ss ρ ⟨_,_,_,x,y,z,rfl⟩
    exact ⟨x,y,z,rfl⟩
   ·rintro ss p ps ρ ⟨okp,gss,hl,x,y,z,rfl⟩
    have op:=okp p List.mem_cons_self
    have hp:=op.l
    refine ⟨_,rfl,?_⟩
    simp at hl
    simp
    generalize hI:forD _ _ _ _=o
    have q:Qhi (.lst (rs.map rT)) (.lst ((headsL rs).map D.str)) (ss.length+4) (inn (headsL rs) ss p.2) o:=by
     rw [← hI]
     refine u0B D.str (Shi (.lst (rs.map rT)) (.lst ((headsL rs).map D.str)) (some (.val (.str p.1))) (some (.val (.tup (p.2.map D.str)))) (ss.length+4)) (inn (headsL rs)) (Qhi _ _ _) ?_ ?_ p.2 ss _ ⟨op.gs,gss,⟨by omega,by omega⟩,z,rfl⟩
     ·rintro s ρ ⟨_,gs,⟨h1,_⟩,z,rfl⟩
      exact ⟨gs,by simpa using h1,_,_,z,rfl⟩
     ·rintro s b bs ρ ⟨gb,gs,⟨h1,h2⟩,z,rfl⟩
      have g:=gb b List.mem_cons_self
      simp at h1
      refine ⟨_,rfl,?_⟩
      have es:G_law_is_sign [.str b]=.ok (.bl (sgnS b)):=p__law_is_sign (.str b) (by simpa [goodD] using g)
      simp [p__law_is_head (.str b) (by simpa [goodD] using g),hdD]
      have fin:∀ s',s'=addSg s b→inn (headsL rs) s (b::bs)=inn (headsL rs) s' bs→StepOk (Shi (.lst (rs.map rT)) (.lst ((headsL rs).map D.str)) (some (.val (.str p.1))) (some (.val (.tup (p.2.map D.str)))) (ss.length+4)) (inn (headsL rs)) (Qhi (.lst (rs.map rT)) (.lst ((headsL rs).map D.str)) (ss.length+4)) s b bs (.nx [some (.val (.lst (rs.map rT))),some (.val (.lst ((headsL rs).map D.str))),some (.own (.l (s'.map D.str))),some (.val (.str p.1)),some (.val (.tup (p.2.map D.str))),some (.val (.str b))]):=by
       rintro s' rfl e
       exact u1j (addSg s b) ⟨fun y hy=>gb y (List.mem_cons_of_mem _ hy),u7N gs fun _=>g,⟨by have:=u3K s b;omega,h2⟩,_,rfl⟩ e
      by_cases cu:(hdS b&&!decide (b∈headsL rs))=true
      ·simp only [Bool.and_eq_true,Bool.not_eq_true',decide_eq_false_iff_not] at cu
       simp [cu.1,u3m g (u3P fw.ok),cu.2]
       exact u2z (by unfold inn;rw [if_pos (by simp [cu])];rfl)
      ·have e:inn (headsL rs) s (b::bs)=inn (headsL rs) (addSg s b) bs:=by
        show (if _ then _ else _)=_
        rw [if_neg cu]
       have cu':hdS b=true→b∈headsL rs:=fun h=>by
        simp [h] at cu
        exact cu
       have e1:(if hdS b=true then (noE (dNotIn (D.str b) (D.lst ((headsL rs).map D.str)))).bind asB else Res.ok false)=.ok false:=by
        by_cases c:hdS b=true
        ·simp [c,u3m g (u3P fw.ok),cu' c]
        ·simp [c]
       simp only [e1,go_ok,Bool.false_eq_true,if_false,Out.then_nx]
       by_cases c:sgnS b=true
       ·simp [es,c,OD.toD,u3m g gs]
        by_cases k:b∈s
        ·simp [k]
         exact fin s (by simp [addSg,c,addT,k]) (by rw [e];simp [addSg,c,addT,k])
        ·simp [k,Nat.lt_of_le_of_lt (show s.length≤1000 by omega) (show 1000<sizeLine by decide)]
         have:=fin (s++[b]) (by simp [addSg,c,addT,k]) (by rw [e];simp [addSg,c,addT,k])
         simpa using this
       ·simp [es,c]
        exact fin s (by simp [addSg,c]) (by rw [e];simp [addSg,c])
    cases u:inn (headsL rs) ss p.2 with
    | mk v s =>
     rw [u] at q
     cases v with
     | none =>
      obtain ⟨g',h',x',y',z',rfl⟩:=q
      exact u1j s ⟨fun z hz=>okp z (List.mem_cons_of_mem _ hz),g',by omega,_,_,_,rfl⟩ (by simp [goHd,u])
     | some b =>
      subst q
      exact u2z (by simp [goHd,u,Qhd])
  obtain ⟨g1,g2⟩:=u7l (headsL rs) rs []
  unfold dueHeads
  cases u:goHd (headsL rs) [] rs with
  | mk v s =>
   rw [u] at q g1 g2
   cases v with
   | some b =>
    subst q
    simp [g1,Due.or,Due.toD]
   | none =>
    obtain ⟨x',y',z',rfl⟩:=q
    have g2:s=sgL [] rs:=g2 rfl
    subst g2
    rw [show goKn (headsL rs) () rs=Due.fine from g1,show Due.or .fine (dueFew rs)=dueFew rs from rfl]
    have hH:(headsL rs).length=(setOfT (hsOf rs)).length:=u2n _
    simp [hH]
    unfold dueFew
    by_cases c:(setOfT (hsOf rs)).length > 8
    ·have c':(8:Int)<(setOfT (hsOf rs)).length:=by omega
     simp [c,c',hH,Due.toD]
    ·have c':¬ (8:Int)<(setOfT (hsOf rs)).length:=by omega
     simp [c,c',hH,OD.toD]
     by_cases k:(sgL [] rs).length > 10
     ·have k':(10:Int)<(sgL [] rs).length:=by omega
      simp [k,k',OD.toD,Due.toD]
     ·have k':¬ (10:Int)<(sgL [] rs).length:=by omega
      simp [k,k',Due.toD]
 ·obtain ⟨p,_,rfl⟩:=List.mem_map.mp hd
  exact ⟨_,rfl,rfl,by simp [rhoC,rT,ix_0,hd1]⟩
theorem u6e {G_is_rank:List D→Res D} (c_is_rank:Callee P w K mg base 4 "is_rank" ["thing"] (spF K G_is_rank)) (x_NoRanks:XCalleeF P w K mg base 1 "NoRanks" A.NoRanks ["self","found"] ["found"]) (x_TooMany:XCalleeF P w K mg base 1 "TooMany" A.TooMany ["self","found"] ["found"]) (p_is_rank:P1 rankD G_is_rank) (F:Fun K "need_ranks" "need_ranks" u1F f fd) (T:Txt K mg A):∃ G,FnOk P w K mg base (CXe P w) 5 f fd ["ranks"] (spX K G)∧∀ d,goodD d=true→G [d]=(dueRanks d).toR A:=by
 refine ⟨_,F.okTX (k:=4) u2c (fun cdv Ar outer s H E hr hq=>u0d (u0y (u0M (u0L (d_B u2r T.z_isinstance (by decide +kernel) (u0a (dv 0) (u0a (u0f (u0a (d_ty T.z_list (T:="list") (by decide +kernel)) (u0a (d_ty T.z_tuple (T:="tuple") (by decide +kernel)) u0b))) u0b))))) (u0e (u1K hq rfl x_NoRanks hr (u0a (dv 0) u0b))) u0l)
  (u0d (u0y (u0n o_gt (d_B u1o T.z_len (by decide +kernel) (u0a (dv 0) u0b)) (u5f T.g_MOST_RANKS)) (u0e (u1K hq rfl x_TooMany hr (u0a (d_B u1o T.z_len (by decide +kernel) (u0a (dv 0) u0b)) u0b))) u0l)
  (u0d (u2O u2c.nd u5e)
  (u0e (u1L rfl (u1n (dv 0)) (dg_n u2c.nd)
  (u0d (u0y (u0M (u0L (d_fn c_is_rank hr (u0a (dv 2) u0b)))) (u0e (u1K hq rfl x_NoRanks hr (u0a (dv 2) u0b))) u0l)
   (u0e (u1L rfl (u1n (d_ix x_ix (dv 2) u0c)) (dg_n u2c.nd)
   (u0d (u0y (u0n (o_inW (hu200 hr)) (dv 3) (dv 1)) (u0e (u1K hq rfl x_NoRanks hr (u0a (dv 2) u0b))) u0l)
    (u0e (v1G 1 (hu200 hr) (dv 3) d_bl))) hq.ps))) hq.ps))))),?_⟩
 intro d h
 simp [runX,startD,a_lt (u0w h)]
 cases d with
 | lst ds =>
  have g:=u2S h
  by_cases c:ds.length > 6
  ·have c':(6:Int)<ds.length:=by omega
   simp [isLstD,isTupD,dueRanks,c,c',Due.toR]
  ·have c':¬ (6:Int)<ds.length:=by omega
   simp [isLstD,isTupD,dueRanks,c,c']
   rw [show ds=ds.map id from (List.map_id ds).symm]
   rw [show goRk [] (ds.map id)=goRk [] ds from by rw [List.map_id]]
   refine u0B id (Srk (.lst (ds.map id))) goRk (Q2 A) ?_ ?_ ds [] _ ⟨g,by simp;omega,[],none,none,rfl,rfl⟩
   ·rintro ks ρ ⟨_,_,kvs,x,y,rfl,_⟩
    simp [Q2,goRk,Due.toR]
   ·rintro ks d rest ρ ⟨gr,hl,kvs,x,y,rfl,ek⟩
    have gd':=gr d List.mem_cons_self
    simp at hl
    refine ⟨_,rfl,?_⟩
    simp [p_is_rank d gd']
    by_cases cr:rankD d=true
    ·obtain ⟨s,ss,er,ed,hs⟩:=u1U cr
     subst ed
     simp [cr,ix_1]
     generalize hI:forD _ _ _ _=o
     have q:Qri A (.lst ds) (.tup [.str s,.tup (ss.map D.str)]) (ks.length+10) (addAll ks ss) o:=by
      rw [← hI]
      refine u0B D.str (Sri (.lst ds) (some (.val (.tup [.str s,.tup (ss.map D.str)]))) (ks.length+10)) addAll (Qri A _ _ _) ?_ ?_ ss ks _ ⟨⟨by omega,by omega⟩,kvs,y,rfl,ek⟩
      ·rintro k ρ ⟨⟨h1,_⟩,kvs,y,rfl,ek⟩
       exact ⟨by simpa using h1,kvs,_,y,rfl,ek⟩
      ·rintro k b bs ρ ⟨⟨h1,h2⟩,kvs,y,rfl,ek⟩
       have hk:kvs.length=k.length:=by have:=congrArg List.length ek;simpa using this
       simp at h1
       refine ⟨_,rfl,?_⟩
       simp [OD.toD,v3q (w:=w) ek]
       by_cases cb:b∈k
       ·simp [cb]
        exact u2A (by simp only [addAll,cb,if_true];exact ⟨_,rfl⟩)
       ·simp only [cb,if_false,Out.then_nx]
        rw [v0O (ss:=k) (kvs:=kvs) (b:=b) (by omega) rfl rfl rfl]
        exact u1j (k++[b]) ⟨⟨by simp;omega,h2⟩,_,_,rfl,by rw [← v2e cb];exact u4S ek⟩ (by simp [addAll,cb])
     cases u:addAll ks ss with
     | none =>
      rw [u] at q
      obtain ⟨ρ',rfl⟩:=q
      exact u2A (by simp [Q2,goRk,er,u,Due.toR])
     | some k =>
      rw [u] at q
      obtain ⟨hn,kvs',x',y',rfl,ek'⟩:=q
      refine u1j k ⟨fun z hz=>gr z (List.mem_cons_of_mem _ hz),by omega,kvs',x',y',by simp,ek'⟩ (by simp [goRk,er,u])
    ·simp [cr]
     exact u2A (by simp [Q2,goRk,u2s (by simpa using cr),Due.toR])
 | tup ds =>
  have g:=u0F h
  by_cases c:ds.length > 6
  ·have c':(6:Int)<ds.length:=by omega
   simp [isLstD,isTupD,dueRanks,c,c',Due.toR]
  ·have c':¬ (6:Int)<ds.length:=by omega
   simp [isLstD,isTupD,dueRanks,c,c']
   rw [show ds=ds.map id from (List.map_id ds).symm]
   rw [show goRk [] (ds.map id)=goRk [] ds from by rw [List.map_id]]
   refine u0B id (Srk (.tup (ds.map id))) goRk (Q2 A) ?_ ?_ ds [] _ ⟨g,by simp;omega,[],none,none,rfl,rfl⟩
   ·rintro ks ρ ⟨_,_,kvs,x,y,rfl,_⟩
    simp [Q2,goRk,Due.toR]
   ·rintro ks d rest ρ ⟨gr,hl,kvs,x,y,rfl,ek⟩
    have gd':=gr d List.mem_cons_self
    simp at hl
    refine ⟨_,rfl,?_⟩
    simp [p_is_rank d gd']
    by_cases cr:rankD d=true
    ·obtain ⟨s,ss,er,ed,hs⟩:=u1U cr
     subst ed
     simp [cr,ix_1]
     generalize hI:forD _ _ _ _=o
     have q:Qri A (.tup ds) (.tup [.str s,.tup (ss.map D.str)]) (ks.length+10) (addAll ks ss) o:=by
      rw [← hI]
      refine u0B D.str (Sri (.tup ds) (some (.val (.tup [.str s,.tup (ss.map D.str)]))) (ks.length+10)) addAll (Qri A _ _ _) ?_ ?_ ss ks _ ⟨⟨by omega,by omega⟩,kvs,y,rfl,ek⟩
      ·rintro k ρ ⟨⟨h1,_⟩,kvs,y,rfl,ek⟩
       exact ⟨by simpa using h1,kvs,_,y,rfl,ek⟩
      ·rintro k b bs ρ ⟨⟨h1,h2⟩,kvs,y,rfl,ek⟩
       have hk:kvs.length=k.length:=by have:=congrArg List.length ek;simpa using this
       simp at h1
       refine ⟨_,rfl,?_⟩
       simp [OD.toD,v3q (w:=w) ek]
       by_cases cb:b∈k
       ·simp [cb]
        exact u2A (by simp only [addAll,cb,if_true];exact ⟨_,rfl⟩)
       ·simp only [cb,if_false,Out.then_nx]
        rw [v0O (ss:=k) (kvs:=kvs) (b:=b) (by omega) rfl rfl rfl]
        exact u1j (k++[b]) ⟨⟨by simp;omega,h2⟩,_,_,rfl,by rw [← v2e cb];exact u4S ek⟩ (by simp [addAll,cb])
     cases u:addAll ks ss with
     | none =>
      rw [u] at q
      obtain ⟨ρ',rfl⟩:=q
      exact u2A (by simp [Q2,goRk,er,u,Due.toR])
     | some k =>
      rw [u] at q
      obtain ⟨hn,kvs',x',y',rfl,ek'⟩:=q
      refine u1j k ⟨fun z hz=>gr z (List.mem_cons_of_mem _ hz),by omega,kvs',x',y',by simp,ek'⟩ (by simp [goRk,er,u])
    ·simp [cr]
     exact u2A (by simp [Q2,goRk,u2s (by simpa using cr),Due.toR])
 | _=>simp [isLstD,isTupD,dueRanks,Due.toR]
end
noncomputable def rsOf:D→List RR
 | .lst ds=>ds.filterMap asRule
 | _=>[]
theorem u5k {d:D}{p:RR} (h:asRule d=some p):d=rT p∧ruleD d=true:=by
 cases q:ruleD d with
 | false=>rw [u3B q] at h;cases h
 | true =>
  obtain ⟨p',e,e2⟩:=u2Y q
  rw [e] at h
  cases h
  exact ⟨e2,rfl⟩
theorem u4i:∀ {ds:List D}{rs:List RR},goRules rs ds=.fine→ds=(ds.filterMap asRule).map rT∧∀ d∈ds,ruleD d=true
 | [],_,_=>⟨rfl,fun d h=>(nomatch h)⟩
 | d::ds,rs,h=>by
  unfold goRules at h
  cases e:asRule d with
  | none=>rw [e] at h;cases h
  | some p =>
   rw [e] at h
   simp only at h
   split at h
   ·cases h
   ·obtain ⟨h1,h2⟩:=u4i h
    obtain ⟨e1,e2⟩:=u5k e
    refine ⟨?_,fun x hx=>?_⟩
    ·rw [List.filterMap_cons,e]
     simp only [List.map_cons]
     rw [← h1,← e1]
    ·rcases List.mem_cons.mp hx with rfl | hx
     ·exact e2
     ·exact h2 x hx
theorem u2V {d:D} (h:dueRules d=.fine) (g:goodD d=true):d=.lst ((rsOf d).map rT)∧1≤(rsOf d).length∧(rsOf d).length≤20∧∀ p∈rsOf d,OkR p:=by
 cases d with
 | lst ds =>
  simp only [dueRules] at h
  split at h
  ·rename_i c
   obtain ⟨h1,h2⟩:=u4i h
   have hl:(ds.filterMap asRule).length=ds.length:=by
    have:=congrArg List.length h1
    rw [List.length_map] at this
    exact this.symm
   refine ⟨congrArg D.lst h1,by rw [show rsOf (.lst ds)=ds.filterMap asRule from rfl,hl];exact c.1,by rw [show rsOf (.lst ds)=ds.filterMap asRule from rfl,hl];exact c.2,fun p hp=>?_⟩
   obtain ⟨d,hd,e⟩:=List.mem_filterMap.mp hp
   obtain ⟨e1,e2⟩:=u5k e
   subst e1
   exact u8H e2 (u2S g _ hd)
  ·cases h
 | _=>cases h
structure Hand (d:D):Prop where
 g:goodD d=true
 dp:depD d≤50
 few:dueRules d=.fine→Few (rsOf d)
structure HandK (d:D):Prop where
 g:goodD d=true
 dp:depD d≤50
 rk:∀ ds,(d=.lst ds∨d=.tup ds)→∀ x∈ds,rkOk x=true
noncomputable def dueAll (r k:D):Due:=(dueRules r).or ((dueHeads (rsOf r)).or (dueRanks k))
noncomputable def kindsD (d:D):D:=.lst [.bl (match d with | .bl _=>true | _=>false),.bl (match d with | .bl _=>true | .int _=>true | _=>false),.bl (isStrD d),.bl (isLstD d),.bl (isTupD d),.bl (match d with | .dct _=>true | _=>false)]
theorem u5F (d:D):selfD (kindsD d)=true∧depD (kindsD d)≤60:=by
 unfold kindsD
 simp [selfD,selfDs,depD,depDs]
theorem u2T {d:D} (h:selfD d=true) (hd:depD d≤60):dEqX d d=.ok (.bl true):=by
 unfold dEqX
 have n:lenNe d d=false:=by
  cases d with
  | lst ds=>cases ds <;> rfl
  | _=>rfl
 rw [if_neg (by rw [n];exact Bool.false_ne_true),if_pos ⟨rfl,h,hd⟩]
noncomputable def Due.arg:Due→D
 | .fine=>.non
 | .rule d=>d
 | .dbl n=>.int n
 | .many n=>.int n
 | .head z=>.str z
 | .ranks d=>d
noncomputable def Due.word:Due→Str
 | .fine=>""
 | .rule _=>"rule"
 | .dbl _=>"doubled"
 | .many _=>"many"
 | .head _=>"head"
 | .ranks _=>"ranks"
theorem toD_arg {u:Due} (h:u≠.fine):u.toD=.tup [.str u.word,u.arg]:=by cases u <;> first | rfl | exact absurd rfl h
theorem isN_toD (u:Due):isN u.toD=true↔u=.fine:=by cases u <;> simp [Due.toD,isN]
theorem u4W:∀ {ds:List D}{rs:List RR},(goRules rs ds).arg=.non∨(∃ d∈ds,(goRules rs ds).arg=d)∨∃ n:Nat,(goRules rs ds).arg=.int n
 | [],_=>.inl rfl
 | d::ds,rs=>by
  unfold goRules
  cases e:asRule d with
  | none=>exact .inr (.inl ⟨d,List.mem_cons_self,rfl⟩)
  | some p =>
   simp only
   split
   ·exact .inr (.inr ⟨_,rfl⟩)
   ·rcases u4W (ds:=ds) (rs:=rs++[p]) with h | ⟨x,hx,h⟩ | h
    ·exact .inl h
    ·exact .inr (.inl ⟨x,List.mem_cons_of_mem _ hx,h⟩)
    ·exact .inr (.inr h)
theorem u8U:∀ {ds:List D}{ks:List Str},(goRk ks ds).arg=.non∨∃ d∈ds,(goRk ks ds).arg=d
 | [],_=>.inl rfl
 | d::ds,ks=>by
  unfold goRk
  cases e:asRank d with
  | none=>exact .inr ⟨d,List.mem_cons_self,rfl⟩
  | some ss =>
   simp only
   cases e2:addAll ks ss with
   | none=>exact .inr ⟨d,List.mem_cons_self,rfl⟩
   | some k =>
    rcases u8U (ds:=ds) (ks:=k) with h | ⟨x,hx,h⟩
    ·exact .inl h
    ·exact .inr ⟨x,List.mem_cons_of_mem _ hx,h⟩
theorem u8t:∀ {ds:List D}{d:D},d∈ds→depD d≤depDs ds
 | x::ds,d,h=>by
  simp only [depDs]
  rcases List.mem_cons.mp h with rfl | h
  ·omega
  ·have:=u8t h;omega
noncomputable def okArg (u:Due):Prop:=goodD u.arg=true∧depD u.arg≤50
theorem v1Z {d:D} (h:Hand d):okArg (dueRules d):=by
 cases d with
 | lst ds =>
  simp only [dueRules]
  split
  ·rcases u4W (ds:=ds) (rs:=[]) with e | ⟨x,hx,e⟩ | ⟨n,e⟩
   ·unfold okArg;rw [e];exact ⟨rfl,by simp [depD]⟩
   ·unfold okArg;rw [e]
    have:=u8t hx
    have hd:depDs ds+1≤50:=h.dp
    exact ⟨u2S h.g x hx,by omega⟩
   ·unfold okArg;rw [e];exact ⟨rfl,by simp [depD]⟩
  ·exact ⟨rfl,by simp [Due.arg,depD]⟩
 | _=>exact ⟨h.g,h.dp⟩
theorem v2a {d:D} (h:HandK d):okArg (dueRanks d):=by
 have main:∀ ds:List D,(∀ x∈ds,goodD x=true)→depDs ds≤49→okArg (if ds.length > 6 then .many ds.length else goRk [] ds):=fun ds hg hd=>by
  split
  ·exact ⟨rfl,by simp [Due.arg,depD]⟩
  ·rcases u8U (ds:=ds) (ks:=[]) with e | ⟨x,hx,e⟩
   ·unfold okArg;rw [e];exact ⟨rfl,by simp [depD]⟩
   ·unfold okArg;rw [e]
    have:=u8t hx
    exact ⟨hg x hx,by omega⟩
 cases d with
 | lst ds=>exact main ds (u2S h.g) (by have hd:depDs ds+1≤50:=h.dp;omega)
 | tup ds=>exact main ds (u0F h.g) (by have hd:depDs ds+1≤50:=h.dp;omega)
 | _=>exact ⟨h.g,h.dp⟩
theorem u7k {hs:List Str}:∀ {rs:List RR},(∀ p∈rs,OkR p)→okArg (goKn hs () rs)
 | [],_=>⟨rfl,by simp [goKn,Due.arg,depD]⟩
 | p::rs,h=>by
  unfold goKn
  cases e:fstUnk hs p.2 with
  | none=>exact u7k fun q hq=>h q (List.mem_cons_of_mem _ hq)
  | some b =>
   have:=(h p List.mem_cons_self).gs b (List.mem_of_find?_eq_some e)
   exact ⟨by simpa [Due.arg,goodD] using this,by simp [Due.arg,depD]⟩
theorem arg_few (rs:List RR):okArg (dueFew rs):=by
 unfold dueFew
 split
 ·exact ⟨rfl,by simp [Due.arg,depD]⟩
 ·split
  ·exact ⟨rfl,by simp [Due.arg,depD]⟩
  ·exact ⟨rfl,by simp [Due.arg,depD]⟩
theorem v3A {u v:Due} (h:okArg u) (k:okArg v):okArg (u.or v):=by cases u <;> first | exact h | exact k
theorem v2b {r k:D} (hr:Hand r) (hk:HandK k):okArg (dueAll r k):=by
 unfold dueAll
 cases e:dueRules r with
 | fine =>
  obtain ⟨_,_,_,ok⟩:=u2V e hr.g
  show okArg (((goKn (headsL (rsOf r)) () (rsOf r)).or (dueFew (rsOf r))).or (dueRanks k))
  exact v3A (v3A (u7k ok) (arg_few _)) (v2a hk)
 | _=>have:=v1Z hr;rw [e] at this;exact this
section
variable {P:Program}{w:World}{K:PySem.W.Frag}{mg:Str→Option Value}{base:Heap}{f:Addr}{fd:FuncData}{A:Adr}
theorem u4r {G_law_is_rank:List D→Res D} (c__law_is_rank:Callee P w K mg base 2 "_law_is_rank" ["_law_thing"] (spF K G_law_is_rank)) (p_rank:∀ d,goodD d=true→rkOk d=true→G_law_is_rank [d]=.ok (.bl (rankD d))) (F:Fun K "_law_ranks_due" "_law_ranks_due" u0V f fd) (T:Txt K mg A):∃ G,FnOk P w K mg base CX0 3 f fd ["_law_ranks_here"] (spF K G)∧∀ d,HandK d→G [d]=.ok (dueRanks d).toD:=by
 refine ⟨_,F.okT (k:=2) u1x (fun cdv Ar outer s H E hr=>u0d (u0y (u0M (u0L (d_B u2r T.z_isinstance (by decide +kernel) (u0a (dv 0) (u0a (u0f (u0a (d_ty T.z_list (T:="list") (by decide +kernel)) (u0a (d_ty T.z_tuple (T:="tuple") (by decide +kernel)) u0b))) u0b))))) (u0e (u0h (u0f (u0a u0i (u0a (dv 0) u0b))))) u0l)
  (u0d (u0y (u0n o_gt (d_B u1o T.z_len (by decide +kernel) (u0a (dv 0) u0b)) u0c) (u0e (u0h (u0f (u0a u0i (u0a (d_B u1o T.z_len (by decide +kernel) (u0a (dv 0) u0b)) u0b))))) u0l)
  (u0d (u2O u1x.nd (u5c u0b))
  (u0d (u1L rfl (u1n (dv 0)) (dg_n u1x.nd)
  (u0d (u0y (u0M (u0L (d_fn c__law_is_rank hr (u0a (dv 2) u0b)))) (u0e (u0h (u0f (u0a u0i (u0a (dv 2) u0b))))) u0l)
   (u0e (u1L rfl (u1n (d_ix x_ix (dv 2) u0c)) (dg_n u1x.nd)
   (u0d (u0y (u0n (o_in (hu100 hr)) (dv 3) (dv 1)) (u0e (u0h (u0f (u0a u0i (u0a (dv 2) u0b))))) u0l)
    (u0e (u1W 1 (dv 3))))))))
  (u0e (u0h u2W)))))),?_⟩
 intro d h
 simp [runT,startD,a_lt (u0w h.g)]
 cases d with
 | lst ds =>
  have g:=u2S h.g
  have rk:=h.rk ds (.inl rfl)
  by_cases c:ds.length > 6
  ·have c':(6:Int)<ds.length:=by omega
   simp [isLstD,isTupD,dueRanks,c,c',Due.toD]
  ·have c':¬ (6:Int)<ds.length:=by omega
   simp [isLstD,isTupD,dueRanks,c,c']
   rw [show ds=ds.map id from (List.map_id ds).symm]
   rw [show goRk [] (ds.map id)=goRk [] ds from by rw [List.map_id]]
   refine u0B id (Slk (.lst (ds.map id))) goRk Q1 ?_ ?_ ds [] _ ⟨fun d hd=>⟨g d hd,rk d hd⟩,fun z h=>(nomatch h),by simp;omega,none,none,rfl⟩
   ·rintro ks ρ ⟨_,_,_,x,y,rfl⟩
    simp [Q1,goRk,Due.toD]
   ·rintro ks d rest ρ ⟨gr,gk,hl,x,y,rfl⟩
    have gd':=(gr d List.mem_cons_self).1
    simp at hl
    refine ⟨_,rfl,?_⟩
    simp [p_rank d gd' (gr d List.mem_cons_self).2]
    by_cases cr:rankD d=true
    ·obtain ⟨s,ss,er,ed,hs⟩:=u1U cr
     subst ed
     simp [cr,ix_1]
     generalize hI:forD _ _ _ _=o
     have q:Qli (.lst ds) (.tup [.str s,.tup (ss.map D.str)]) (ks.length+10) (addAll ks ss) o:=by
      rw [← hI]
      refine u0B D.str (Sli (.lst ds) (some (.val (.tup [.str s,.tup (ss.map D.str)]))) (ks.length+10)) addAll (Qli _ _ _) ?_ ?_ ss ks _ ⟨u4J gd',gk,⟨by omega,by omega⟩,y,rfl⟩
      ·rintro k ρ ⟨_,gk,⟨h1,_⟩,y,rfl⟩
       exact ⟨gk,by simpa using h1,_,y,rfl⟩
      ·rintro k b bs ρ ⟨gb,gk,⟨h1,h2⟩,y,rfl⟩
       have g1:=gb b List.mem_cons_self
       simp at h1
       refine ⟨_,rfl,?_⟩
       have ei:dIn (.str b) (.lst (k.map D.str))=.ok (.bl (decide (b∈k))):=by
        rw [show dIn (.str b) (.lst (k.map D.str))=inD (.str b) (k.map D.str) false from u3i false _ _,u8q g1 gk]
        rfl
       simp [OD.toD,ei]
       by_cases cb:b∈k
       ·simp [cb]
        exact u2z (by simp only [addAll,cb,if_true];rfl)
       ·simp [cb,Nat.lt_of_le_of_lt (show k.length≤1000 by omega) (show 1000<sizeLine by decide)]
        refine u1j (k++[b]) ⟨fun z hz=>gb z (List.mem_cons_of_mem _ hz),?_,⟨by simp;omega,h2⟩,some (.val (.str b)),by simp⟩ (by simp [addAll,cb])
        intro z hz
        rcases List.mem_append.mp hz with h | h
        ·exact gk z h
        ·rw [List.mem_singleton.mp h];exact g1
     cases u:addAll ks ss with
     | none =>
      rw [u] at q
      subst q
      exact u2z (by simp [Q1,goRk,er,u,Due.toD])
     | some k =>
      rw [u] at q
      obtain ⟨gk',hn,x',y',rfl⟩:=q
      refine u1j k ⟨fun z hz=>gr z (List.mem_cons_of_mem _ hz),gk',by omega,x',y',by simp⟩ (by simp [goRk,er,u])
    ·simp [cr]
     exact u2z (by simp [Q1,goRk,u2s (by simpa using cr),Due.toD])
 | tup ds =>
  have g:=u0F h.g
  have rk:=h.rk ds (.inr rfl)
  by_cases c:ds.length > 6
  ·have c':(6:Int)<ds.length:=by omega
   simp [isLstD,isTupD,dueRanks,c,c',Due.toD]
  ·have c':¬ (6:Int)<ds.length:=by omega
   simp [isLstD,isTupD,dueRanks,c,c']
   rw [show ds=ds.map id from (List.map_id ds).symm]
   rw [show goRk [] (ds.map id)=goRk [] ds from by rw [List.map_id]]
   refine u0B id (Slk (.tup (ds.map id))) goRk Q1 ?_ ?_ ds [] _ ⟨fun d hd=>⟨g d hd,rk d hd⟩,fun z h=>(nomatch h),by simp;omega,none,none,rfl⟩
   ·rintro ks ρ ⟨_,_,_,x,y,rfl⟩
    simp [Q1,goRk,Due.toD]
   ·rintro ks d rest ρ ⟨gr,gk,hl,x,y,rfl⟩
    have gd':=(gr d List.mem_cons_self).1
    simp at hl
    refine ⟨_,rfl,?_⟩
    simp [p_rank d gd' (gr d List.mem_cons_self).2]
    by_cases cr:rankD d=true
    ·obtain ⟨s,ss,er,ed,hs⟩:=u1U cr
     subst ed
     simp [cr,ix_1]
     generalize hI:forD _ _ _ _=o
     have q:Qli (.tup ds) (.tup [.str s,.tup (ss.map D.str)]) (ks.length+10) (addAll ks ss) o:=by
      rw [← hI]
      refine u0B D.str (Sli (.tup ds) (some (.val (.tup [.str s,.tup (ss.map D.str)]))) (ks.length+10)) addAll (Qli _ _ _) ?_ ?_ ss ks _ ⟨u4J gd',gk,⟨by omega,by omega⟩,y,rfl⟩
      ·rintro k ρ ⟨_,gk,⟨h1,_⟩,y,rfl⟩
       exact ⟨gk,by simpa using h1,_,y,rfl⟩
      ·rintro k b bs ρ ⟨gb,gk,⟨h1,h2⟩,y,rfl⟩
       have g1:=gb b List.mem_cons_self
       simp at h1
       refine ⟨_,rfl,?_⟩
       have ei:dIn (.str b) (.lst (k.map D.str))=.ok (.bl (decide (b∈k))):=by
        rw [show dIn (.str b) (.lst (k.map D.str))=inD (.str b) (k.map D.str) false from u3i false _ _,u8q g1 gk]
        rfl
       simp [OD.toD,ei]
       by_cases cb:b∈k
       ·simp [cb]
        exact u2z (by simp only [addAll,cb,if_true];rfl)
       ·simp [cb,Nat.lt_of_le_of_lt (show k.length≤1000 by omega) (show 1000<sizeLine by decide)]
        refine u1j (k++[b]) ⟨fun z hz=>gb z (List.mem_cons_of_mem _ hz),?_,⟨by simp;omega,h2⟩,some (.val (.str b)),by simp⟩ (by simp [addAll,cb])
        intro z hz
        rcases List.mem_append.mp hz with h | h
        ·exact gk z h
        ·rw [List.mem_singleton.mp h];exact g1
     cases u:addAll ks ss with
     | none =>
      rw [u] at q
      subst q
      exact u2z (by simp [Q1,goRk,er,u,Due.toD])
     | some k =>
      rw [u] at q
      obtain ⟨gk',hn,x',y',rfl⟩:=q
      refine u1j k ⟨fun z hz=>gr z (List.mem_cons_of_mem _ hz),gk',by omega,x',y',by simp⟩ (by simp [goRk,er,u])
    ·simp [cr]
     exact u2z (by simp [Q1,goRk,u2s (by simpa using cr),Due.toD])
 | _=>simp [isLstD,isTupD,dueRanks,Due.toD]
theorem u9R {G_law_rules_due:List D→Res D} (c__law_rules_due:Callee P w K mg base 3 "_law_rules_due" ["_law_rules_here"] (spF K G_law_rules_due)) {G_law_heads_due:List D→Res D} (c__law_heads_due:Callee P w K mg base 2 "_law_heads_due" ["_law_rules_here"] (spF K G_law_heads_due)) {G_law_ranks_due:List D→Res D} (c__law_ranks_due:Callee P w K mg base 3 "_law_ranks_due" ["_law_ranks_here"] (spF K G_law_ranks_due)) (p_rd:∀ d,goodD d=true→G_law_rules_due [d]=.ok (dueRules d).toD) (p_hd:∀ rs:List RR,Few rs→G_law_heads_due [.lst (rs.map rT)]=.ok (dueHeads rs).toD) (p_kd:∀ d,HandK d→G_law_ranks_due [d]=.ok (dueRanks d).toD) (F:Fun K "_law_due" "_law_due" u2D f fd) (T:Txt K mg A):∃ G,FnOk P w K mg base CX0 4 f fd ["_law_rules_here","_law_ranks_here"] (spF K G)∧∀ r k,Hand r→HandK k→G [r,k]=.ok (dueAll r k).toD:=by
 refine ⟨_,F.okT (k:=3) u3k (fun cdv Ar outer s H E hr=>u0d (ds_n u3k.nd (d_fn c__law_rules_due hr (u0a (dv 0) u0b)))
  (u0d (u0y (u0n o_is (dv 2) u2W) (u0e (ds_n u3k.nd (d_fn c__law_heads_due hr (u0a (dv 0) u0b)))) u0l)
  (u0d (u0y (u0n o_is (dv 2) u2W) (u0e (ds_n u3k.nd (d_fn c__law_ranks_due hr (u0a (dv 1) u0b)))) u0l)
  (u0e (u0h (dv 2)))))),?_⟩
 intro r k hr hk
 simp [runT,startD,p_rd r hr.g]
 unfold dueAll
 cases e:dueRules r with
 | fine =>
  obtain ⟨e1,_,_,_⟩:=u2V e hr.g
  have fw:=hr.few e
  have e2:G_law_heads_due [r]=.ok (dueHeads (rsOf r)).toD:=by
   have:=p_hd (rsOf r) fw
   rw [← e1] at this
   exact this
  have e3:=p_kd k hk
  cases u:dueHeads (rsOf r) with
  | fine =>
   rw [u] at e2
   simp [Due.toD,Due.or,dIs,isN,e2,e3]
  | _ =>
   rw [u] at e2
   simp [Due.toD,Due.or,dIs,isN,e2]
 | _=>simp [Due.toD,Due.or,dIs,isN]
theorem u6P (F:Fun K "_law_kinds" "_law_kinds" u1P f fd) (T:Txt K mg A):∃ G,FnOk P w K mg base CX0 1 f fd ["_law_thing"] (spF K G)∧∀ d,goodD d=true→G [d]=.ok (kindsD d):=by
 refine ⟨_,F.okT (k:=0) u4e (fun cdv Ar outer s H E hr=>u0d (ds_n u4e.nd (u0H (u0a (d_B u2r T.z_isinstance (by decide +kernel) (u0a (dv 0) (u0a (d_ty T.z_bool (T:="bool") (by decide +kernel)) u0b))) (u0a (d_B u2r T.z_isinstance (by decide +kernel) (u0a (dv 0) (u0a (d_ty T.z_int (T:="int") (by decide +kernel)) u0b))) (u0a (d_B u2r T.z_isinstance (by decide +kernel) (u0a (dv 0) (u0a (d_ty T.z_str (T:="str") (by decide +kernel)) u0b))) (u0a (d_B u2r T.z_isinstance (by decide +kernel) (u0a (dv 0) (u0a (d_ty T.z_list (T:="list") (by decide +kernel)) u0b))) u0b))))))
  (u0e (u0h (d_op u0P (dv 1) (u0H (u0a (d_B u2r T.z_isinstance (by decide +kernel) (u0a (dv 0) (u0a (d_ty T.z_tuple (T:="tuple") (by decide +kernel)) u0b))) (u0a (d_B u2r T.z_isinstance (by decide +kernel) (u0a (dv 0) (u0a (d_ty T.z_dict (T:="dict") (by decide +kernel)) u0b))) u0b))))))),?_⟩
 intro d h
 simp [runT,startD]
 cases d <;> first | rfl | simp [goodD] at h
theorem u8g {G_law_kinds:List D→Res D} (c__law_kinds:Callee P w K mg base 1 "_law_kinds" ["_law_thing"] (spF K G_law_kinds)) (p_kinds:∀ d,goodD d=true→G_law_kinds [d]=.ok (kindsD d)) (F:Fun K "_law_same" "_law_same" u2h f fd) (T:Txt K mg A):∃ G,FnOk P w K mg base CX0 2 f fd ["_law_told","_law_due_here"] (spF K G)∧∀ u:Due,okArg u→G [u.toD,u.toD]=.ok (.bl true):=by
 refine ⟨_,F.okT (k:=1) u7V (fun cdv Ar outer s H E hr=>u0d (u0y (dt_w (u4x (u0n o_is (dv 0) u2W) (u3H (u0n o_is (dv 1) u2W)))) (u0e (u0h (u2X (u3c o_is (dv 0) u2W) (u3X (u3c o_is (dv 1) u2W))))) u0l)
  (u0e (u0h (u2X (u3c (u3b (hu64 hr)) (d_ix x_ix (dv 0) u0c) (d_ix x_ix (dv 1) u0c)) (u2X (u3c (u3b (hu64 hr)) (d_ix x_ix (dv 0) u0c) (d_ix x_ix (dv 1) u0c)) (u3X (u3c (u3b (hu64 hr)) (d_fn c__law_kinds hr (u0a (d_ix x_ix (dv 0) u0c) u0b)) (d_fn c__law_kinds hr (u0a (d_ix x_ix (dv 1) u0c) u0b))))))))),?_⟩
 intro u h
 by_cases c:u=.fine
 ·subst c
  simp [runT,startD,Due.toD,dIs,isN]
 ·have e:isN u.toD=false:=by
   cases q:isN u.toD with
   | false=>rfl
   | true=>exact absurd ((isN_toD u).mp q) c
  rw [toD_arg c] at e ⊢
  have s1:dEqX (.str u.word) (.str u.word)=.ok (.bl true):=u2T rfl (by simp [depD])
  have s2:dEqX u.arg u.arg=.ok (.bl true):=u2T (u0w h.1) (by have:=h.2;omega)
  have s3:dEqX (kindsD u.arg) (kindsD u.arg)=.ok (.bl true):=u2T (u5F _).1 (u5F _).2
  simp [runT,startD,dIs,isN,ix_0,ix_1,s1,s2,s3,p_kinds _ h.1]
end
end K05
namespace L2
open PySem PySem.Spec PyProof.Rows
structure FunD (K:PySem.W.Frag) (x qual:Str) (st:Stmt) (f:Addr) (fd:FuncData):Prop where
 ex:∃ (oc:Value) (od:Option Addr) (dV kV doc pm:Value) (an:Option Addr) (cdv ct:Value) (osl:Array (Option Value)),
  fd=PySem.W.fnOf x qual (defArgs st) (defBody st) (defScope st) dV kV doc pm an cdv ct∧K.lookup f=some ⟨oc,od,.func fd,osl⟩∧PySem.W.codeIn K cdv qual=true
section
variable {P:Program}{w:World}{K:PySem.W.Frag}{mg:Str→Option Value}{base:Heap}
theorem FunD.okI {x qual:Str}{st:Stmt}{f C:Addr}{fd:FuncData}{N ps:List Str}{k:Nat}{g:List D→Res (List (Str×D))} (F:FunD K x qual st f fd) (S:FnScope N ps (defScope st)) (len:∀ ds,g ds≠.bad→ds.length+1=ps.length)
  (hbody:∀ (cdv:Value) (A:Around) (outer:List Env) (s:Shared) (H:Hp) (E:XK),Room k (A.deeper (envOfC qual (defScope st) s.heap.objs.size f cdv))→XqOk (cxR P w K mg base N qual (defScope st) f cdv A outer s H E) (xq0 E) →
   ∃ t,DB (cxR P w K mg base N qual (defScope st) f cdv A outer s H E) (xq0 E) (defBody st) t∧∀ a ds,g ds≠.bad→outI a C (t (startI N.length a C ds))=g ds):FnOk P w K mg base (CXe P w) (k+1) f fd ps (spInit K C g):=by
 obtain ⟨oc,od,dV,kV,doc,pm,an,cdv,ct,osl,rfl,lk,hcd⟩:=F.ex
 refine fn_of lk hcd S (fun vs H Q E h=>?_) fun A outer s H vs Q E hr hsp=>?_
 ·obtain ⟨G,a,dx,rest,ds,rfl,fh,fa,ha,r,q⟩:=h
  rw [List.length_cons,r.length]
  exact len ds fun z=>by rw [z] at q;exact q
 ·obtain ⟨G,a,dx,rest,ds,rfl,fh,fa,ha,r,q⟩:=hsp
  have z:g ds≠.bad:=fun z=>by rw [z] at q;exact q
  have hst:(cxOf (CXe P w) P w K mg base N qual (defScope st) f cdv A outer s H E).stack=(cxOf (CXe P w) P w K mg base N qual (defScope st) f cdv A outer s H E).env::(cxOf (CXe P w) P w K mg base N qual (defScope st) f cdv A outer s H E).outer∧(cxOf (CXe P w) P w K mg base N qual (defScope st) f cdv A outer s H E).env.frame=some (cxOf (CXe P w) P w K mg base N qual (defScope st) f cdv A outer s H E).env.locals:=⟨rfl,rfl⟩
  obtain ⟨t,h1,h2⟩:=hbody cdv A outer s H E hr (u4D hst)
  refine ⟨_,PSs.wishTo h1.out ?_,(G,wo H a),G,_,v1W fh fa ha r,⟨?_⟩⟩
  ·rintro u s' ⟨n,e,C,d,σ,H',fl,o,rfl,I,hx,tb,hfl,q⟩
   refine u8K I hst o hx tb hfl fun s2 I2 tr=>?_
   exact ⟨e,C,d,H',rfl,I2.os,I2.bare,I2.base,I2.hok,hx,tr.tb.mono o.s0,q e rfl⟩
  ·have y:=h2 a ds z
   rw [← y] at q
   generalize t (startI N.length a C ds)=o at q
   cases o with
   | nx ρ =>
    intro σ F' H' R
    unfold outI at q
    dsimp only at q
    split at q
    ·rename_i a' C' gs e
     split at q
     ·rename_i c
      obtain ⟨rfl,rfl⟩:=c
      obtain ⟨b,h,p1,p2,p3,p4,p5⟩:=R.own 0 _ e
      cases p5 with
      | i hr=>exact q _ _ F' H' R.st p2 p4 hr
     ·exact q.elim
    ·exact q.elim
   | rt d'=>exact q.elim
   | bk ρ=>exact q.elim
   | ct ρ=>exact q.elim
   | er x ρ=>exact fun v σ F' H' R pv b eb=>by subst eb;exact q b F' H' R.st pv
   | bad=>exact q.elim
end
end L2
namespace K05
open PySem L2 KW PySem.Spec PyProof.Rows
noncomputable abbrev u1g:Stmt:=meth 38 0
theorem u5C:FnScope ["self","rules","ranks","told"] ["self","rules","ranks"] (defScope u1g):=⟨rfl,rfl,rfl,by decide +kernel,rfl,by decide +kernel,by decide +kernel⟩
theorem ne_rr:Str.ofString "rules"≠Str.ofString "ranks":=by decide +kernel
theorem ne_rs:Str.ofString "rules"≠Str.ofString "start":=by decide +kernel
theorem ne_ks:Str.ofString "ranks"≠Str.ofString "start":=by decide +kernel
noncomputable def toldD:D→D
 | .non=>.tup []
 | d=>d
noncomputable def itemsD:D→List D
 | .lst ds=>ds
 | .tup ds=>ds
 | _=>[]
noncomputable def hd0 (r:D):Str:=match rsOf r with
 | p::_=>p.1
 | []=>""
noncomputable def gFlds (r k:D):List (Str×D):=[("rules",.tup (itemsD r)),("ranks",.tup (itemsD (toldD k))),("start",.str (hd0 r))]
open Classical in
noncomputable def gInit (A:Adr):List D→Res (List (Str×D))
 | [r,k]=>if Hand r∧HandK (toldD k) then ((dueAll r (toldD k)).toR A).bind fun _=>.ok (gFlds r k) else .bad
 | _=>.bad
theorem u4I {d:D} (h:dueRanks d=.fine):gTuple [d]=.ok (.tup (itemsD d)):=by
 cases d with
 | lst ds=>rfl
 | tup ds=>rfl
 | _=>cases h
section
variable {P:Program}{w:World}{K:PySem.W.Frag}{mg:Str→Option Value}{base:Heap}{f:Addr}{fd:FuncData}{A:Adr}
theorem u9Z {G_need_rules:List D→Res D} (c_need_rules:CalleeX P w K mg base 6 "need_rules" ["rules"] G_need_rules) {G_need_known_heads:List D→Res D} (c_need_known_heads:CalleeX P w K mg base 3 "need_known_heads" ["rules"] G_need_known_heads) {G_need_few_symbols:List D→Res D} (c_need_few_symbols:CalleeX P w K mg base 4 "need_few_symbols" ["rules"] G_need_few_symbols) {G_need_ranks:List D→Res D} (c_need_ranks:CalleeX P w K mg base 5 "need_ranks" ["ranks"] G_need_ranks) (p_nr:∀ d,goodD d=true→G_need_rules [d]=(dueRules d).toR A) (p_nk:∀ rs:List RR,(∀ p∈rs,OkR p)→rs.length<64→G_need_known_heads [.lst (rs.map rT)]=(goKn (headsL rs) () rs).toR A) (p_nf:∀ rs:List RR,Few rs→G_need_few_symbols [.lst (rs.map rT)]=(dueFew rs).toR A) (p_nn:∀ d,goodD d=true→G_need_ranks [d]=(dueRanks d).toR A) (F:FunD K "__init__" "Grammar.__init__" u1g f fd) (T:Txt K mg A):FnOk P w K mg base (CXe P w) 7 f fd ["self","rules","ranks"] (spInit K A.Grammar (gInit A)):=by
 refine F.okI (k:=6) u5C (fun ds h=>?_) (fun cdv Ar outer s H E hr hq=>⟨_,u0d (u5b (v0k hq c_need_rules hr (u0a (dv 1) u0b)))
  (u0d (u5b (v0k hq c_need_known_heads hr (u0a (dv 1) u0b)))
  (u0d (u5b (v0k hq c_need_few_symbols hr (u0a (dv 1) u0b)))
  (u0d (ds_n u5C.nd (d_ife (u0n o_is (dv 2) u2W) (u0f u0b) (dv 2)))
  (u0d (u5b (v0k hq c_need_ranks hr (u0a (dv 3) u0b)))
  (u0d (v1H 0 T.cls T.na_rules (d_T u1T T.z_tuple (by decide +kernel) (u0a (dv 1) u0b)))
  (u0d (v1H 0 T.cls T.na_ranks (d_T u1T T.z_tuple (by decide +kernel) (u0a (dv 3) u0b)))
  (u0e (v1H 0 T.cls T.na_start (d_ix x_ix (d_ix x_ix (d_fldO 0 T.cls (T.na_rules)) u0c) u0c))))))))),fun a ds h=>?_⟩)
 ·match ds,h with
  | [r,k],_=>rfl
  | [],h=>exact absurd rfl h
  | [_],h=>exact absurd rfl h
  | _::_::_::_,h=>exact absurd rfl h
 match ds,h with
 | [],h=>exact absurd rfl h
 | [_],h=>exact absurd rfl h
 | _::_::_::_,h=>exact absurd rfl h
 | [r,k],h =>
  have hh:Hand r∧HandK (toldD k):=by
   refine Classical.byContradiction fun c=>h ?_
   exact if_neg c
  refine Eq.trans ?_ (if_pos hh).symm
  obtain ⟨hr,hk⟩:=hh
  have e4:=p_nn _ hk.g
  have ek:(match isN k with | true=>(D.tup []) | false=>k)=toldD k:=by cases k <;> rfl
  simp [startI,startD,p_nr r hr.g]
  unfold dueAll
  cases e:dueRules r with
  | fine =>
   obtain ⟨e1,l1,l2,ok⟩:=u2V e hr.g
   have fw:=hr.few e
   have e2:=p_nk (rsOf r) ok (by omega)
   have e3:=p_nf (rsOf r) fw
   rw [← e1] at e2 e3
   have er:gTuple [r]=.ok (.tup (itemsD r)):=by rw [e1];rfl
   skip
   cases u:goKn (headsL (rsOf r)) () (rsOf r) with
   | fine =>
    rw [u] at e2
    cases v:dueFew (rsOf r) with
    | fine =>
     rw [v] at e3
     have go:∀ ρ:Rho,ρ[3]?=some (some (.val (toldD k)))→True:=fun _ _=>trivial
     cases x:dueRanks (toldD k) with
     | fine =>
      rw [x] at e4
      have ei:=u4I x
      have e5:(if isN k=true then Res.ok (D.tup []) else Res.ok k)=Res.ok (toldD k):=by cases k <;> rfl
      obtain ⟨p,ps,ep⟩:∃ p ps,rsOf r=p::ps:=by
       cases q:rsOf r with
       | nil=>rw [q] at l1;simp at l1
       | cons p ps=>exact ⟨p,ps,rfl⟩
      have i1:itemsD r=rT p::ps.map rT:=by
       rw [e1,ep];rfl
      have i2:dIx (.tup (itemsD r)) (.int 0)=.ok (rT p):=by rw [i1];exact ix_0 _ _
      have i3:dIx (rT p) (.int 0)=.ok (.str p.1):=ix_0 _ _
      have i4:hd0 r=p.1:=by unfold hd0;rw [ep]
      simp [Due.toR,Due.or,dIs,e2,e3,dueHeads,u,v,outI,e5,e4,er,ei,getI,putG,i2,i3,gFlds,i4,ne_rr,ne_rs,ne_ks,List.lookup]
     | _ =>
      rw [x] at e4
      cases k <;> simp [Due.toR,Due.or,dIs,isN,e2,e3,dueHeads,u,v,outI,e4,toldD] <;> (try (simp only [toldD] at e4;rw [e4];simp [Due.toR])) <;> done
    | _=>rw [v] at e3;simp [Due.toR,Due.or,dIs,e2,e3,dueHeads,u,v,outI]
   | _=>rw [u] at e2;simp [Due.toR,Due.or,dIs,e2,dueHeads,u,outI]
  | _=>simp [Due.toR,Due.or,outI,Res.bind,Res.go]
end
structure Hnd (K:PySem.W.Frag) (A:Adr):Prop where
 xb_NoRule:xbB K A.NoRule=true
 sb_NoRule_NoRule:subK K A.NoRule A.NoRule=true
 xb_Doubled:xbB K A.Doubled=true
 sb_Doubled_NoRule:subK K A.Doubled A.NoRule=false
 sb_Doubled_Doubled:subK K A.Doubled A.Doubled=true
 xb_NoHead:xbB K A.NoHead=true
 sb_NoHead_NoRule:subK K A.NoHead A.NoRule=false
 sb_NoHead_Doubled:subK K A.NoHead A.Doubled=false
 sb_NoHead_NoHead:subK K A.NoHead A.NoHead=true
 xb_NoRanks:xbB K A.NoRanks=true
 sb_NoRanks_NoRule:subK K A.NoRanks A.NoRule=false
 sb_NoRanks_Doubled:subK K A.NoRanks A.Doubled=false
 sb_NoRanks_NoHead:subK K A.NoRanks A.NoHead=false
 sb_NoRanks_NoRanks:subK K A.NoRanks A.NoRanks=true
 xb_TooMany:xbB K A.TooMany=true
 sb_TooMany_NoRule:subK K A.TooMany A.NoRule=false
 sb_TooMany_Doubled:subK K A.TooMany A.Doubled=false
 sb_TooMany_NoHead:subK K A.TooMany A.NoHead=false
 sb_TooMany_NoRanks:subK K A.TooMany A.NoRanks=false
 sb_TooMany_TooMany:subK K A.TooMany A.TooMany=true
theorem u6o {A:Adr}{r k:D} (hr:Hand r) (hk:HandK (toldD k)):gInit A [r,k]=((dueAll r (toldD k)).toR A).bind fun _=>.ok (gFlds r k):=if_pos ⟨hr,hk⟩
theorem be_kr:(Str.ofString "ranks"==Str.ofString "rules")=false:=by decide +kernel
theorem be_sr:(Str.ofString "start"==Str.ofString "rules")=false:=by decide +kernel
theorem be_sk:(Str.ofString "start"==Str.ofString "ranks")=false:=by decide +kernel
theorem or_fine' {u v:Due} (h:u.or v=.fine):u=.fine∧v=.fine:=by
 cases u <;> first | exact ⟨rfl,h⟩ | cases h
theorem u6u {r k:D} (h:dueAll r k=.fine):dueRules r=.fine∧dueRanks k=.fine:=⟨(or_fine' h).1,(or_fine' (or_fine' h).2).2⟩
section
variable {P:Program}{w:World}{K:PySem.W.Frag}{mg:Str→Option Value}{base:Heap}{f:Addr}{fd:FuncData}{A:Adr}
theorem u5r (k_Grammar:KCallee P w K mg base 7 "Grammar" A.Grammar ["self","rules","ranks"] [] (gInit A)) (k1_Grammar:KCallee P w K mg base 7 "Grammar" A.Grammar ["self","rules","ranks"] [.non] (gInit A)) (Hn:Hnd K A) (F:Fun K "_law_refusal" "_law_refusal" u1s f fd) (T:Txt K mg A):∃ G,FnOk P w K mg base (CXe P w) 9 f fd ["_law_rules_here","_law_ranks_here"] (spX K G)∧∀ r k,Hand r→HandK (toldD k)→G [r,k]=.ok (dueAll r (toldD k)).toD:=by
 refine ⟨_,F.okTX (k:=8) u0o (fun cdv Ar outer s H E hr hq=>u0d (ds_n u0o.nd u2W)
  (u0d (ds_try ⟨rfl,rfl⟩ (fun pn xq1 hq=>u0e (u5b (u9i hq k_Grammar hr (u0a (dv 0) (u0a (dv 1) u0b)))))
  (u7q (i:=3) ⟨rfl,rfl⟩ u0o.nd T.m_NoRule T.b_NoRule (fun ex=>u0e (ds_n u0o.nd (u0f (u0a u0i (u0a (u7u T.x_found (dv 3)) u0b)))))
  (u7q (i:=3) ⟨rfl,rfl⟩ u0o.nd T.m_Doubled T.b_Doubled (fun ex=>u0e (ds_n u0o.nd (u0f (u0a u0i (u0a (u7u T.x_number (dv 3)) u0b)))))
  (u7q (i:=3) ⟨rfl,rfl⟩ u0o.nd T.m_NoHead T.b_NoHead (fun ex=>u0e (ds_n u0o.nd (u0f (u0a u0i (u0a (u7u T.x_head (dv 3)) u0b)))))
  (u7q (i:=3) ⟨rfl,rfl⟩ u0o.nd T.m_NoRanks T.b_NoRanks (fun ex=>u0e (ds_n u0o.nd (u0f (u0a u0i (u0a (u7u T.x_found (dv 3)) u0b)))))
  (u7q (i:=3) ⟨rfl,rfl⟩ u0o.nd T.m_TooMany T.b_TooMany (fun ex=>u0e (ds_n u0o.nd (u0f (u0a u0i (u0a (u7u T.x_found (dv 3)) u0b)))))
  (dh_noK ⟨rfl,rfl⟩ T.m_TableError T.b_TableError (fun ex=>u0e (ds_n u0o.nd (u0f (u0a u0i (u0a u0c u0b)))))
  (dh_nil hq))))))))
  (u0e (u0h (dv 2))))),?_⟩
 intro r k hr hk
 have e:=u6o (A:=A) hr hk
 cases u:dueAll r (toldD k) with
 | fine=>rw [u] at e;simp [runX,startD,e,Due.toR,Due.toD,catchD]
 | rule x =>
  rw [u] at e
  simp [runX,startD,e,Due.toR,Due.toD,catchD,hdAs,Hn.xb_NoRule,Hn.sb_NoRule_NoRule,unset,List.lookup]
 | dbl x =>
  rw [u] at e
  simp [runX,startD,e,Due.toR,Due.toD,catchD,hdAs,Hn.xb_Doubled,Hn.sb_Doubled_NoRule,Hn.sb_Doubled_Doubled,unset,List.lookup]
 | head x =>
  rw [u] at e
  simp [runX,startD,e,Due.toR,Due.toD,catchD,hdAs,Hn.xb_NoHead,Hn.sb_NoHead_NoRule,Hn.sb_NoHead_Doubled,Hn.sb_NoHead_NoHead,unset,List.lookup]
 | ranks x =>
  rw [u] at e
  simp [runX,startD,e,Due.toR,Due.toD,catchD,hdAs,Hn.xb_NoRanks,Hn.sb_NoRanks_NoRule,Hn.sb_NoRanks_Doubled,Hn.sb_NoRanks_NoHead,Hn.sb_NoRanks_NoRanks,unset,List.lookup]
 | many x =>
  rw [u] at e
  simp [runX,startD,e,Due.toR,Due.toD,catchD,hdAs,Hn.xb_TooMany,Hn.sb_TooMany_NoRule,Hn.sb_TooMany_Doubled,Hn.sb_TooMany_NoHead,Hn.sb_TooMany_NoRanks,Hn.sb_TooMany_TooMany,unset,List.lookup]
theorem u6N (F:Fun K "_law_right" "_law_right" u1N f fd) (T:Txt K mg A):∃ G,FnOk P w K mg base CX0 1 f fd ["_law_grammar","_law_rules_here","_law_ranks_here"] (spF K G)∧∀ r k,Hand r→HandK (toldD k)→dueAll r (toldD k)=.fine→G [.ins A.Grammar (gFlds r k),r,toldD k]=.ok (.bl true):=by
 refine ⟨_,F.okT (k:=0) u6F (fun cdv Ar outer s H E hr=>u0d (u0y (dt_w (u4x (u0M (u0L (d_B u2r T.z_isinstance (by decide +kernel) (u0a (v1N T.cls T.na_rules (dv 0)) (u0a (d_ty T.z_tuple (T:="tuple") (by decide +kernel)) u0b))))) (u3H (u0M (u0L (d_B u2r T.z_isinstance (by decide +kernel) (u0a (v1N T.cls T.na_ranks (dv 0)) (u0a (d_ty T.z_tuple (T:="tuple") (by decide +kernel)) u0b)))))))) (u0e (u0h d_bl)) u0l)
  (u0e (u0h (u2X (u3c (u3b (hu64 hr)) (v1N T.cls T.na_rules (dv 0)) (d_T u1T T.z_tuple (by decide +kernel) (u0a (dv 1) u0b))) (u2X (u3c (u3b (hu64 hr)) (v1N T.cls T.na_ranks (dv 0)) (d_T u1T T.z_tuple (by decide +kernel) (u0a (dv 2) u0b))) (u3X (u3c (u3b (hu64 hr)) (v1N T.cls T.na_start (dv 0)) (d_ix x_ix (d_ix x_ix (dv 1) u0c) u0c)))))))),?_⟩
 intro r k hr hk e
 obtain ⟨er,ek⟩:=u6u e
 obtain ⟨e1,l1,l2,ok⟩:=u2V er hr.g
 obtain ⟨p,ps,ep⟩:∃ p ps,rsOf r=p::ps:=by
  cases q:rsOf r with
  | nil=>rw [q] at l1;simp at l1
  | cons p ps=>exact ⟨p,ps,rfl⟩
 have i0:r=.lst (rT p::ps.map rT):=by
  rw [e1,ep];rfl
 have i1:itemsD r=rT p::ps.map rT:=by rw [i0];rfl
 have i2:dIx r (.int 0)=.ok (rT p):=by rw [i0];exact u5x _ _
 have i3:dIx (rT p) (.int 0)=.ok (.str p.1):=ix_0 _ _
 have i4:hd0 r=p.1:=by unfold hd0;rw [ep]
 have i5:gTuple [r]=.ok (.tup (itemsD r)):=by rw [i0];rfl
 have i6:=u4I ek
 have q1:selfD (.tup (itemsD r))=true∧depD (.tup (itemsD r))≤60:=by
  have g:=u0w hr.g
  have d:=hr.dp
  rw [i0] at g d ⊢
  exact ⟨g,by simp only [depD,itemsD] at d ⊢;omega⟩
 have q2:selfD (.tup (itemsD (toldD k)))=true∧depD (.tup (itemsD (toldD k)))≤60:=by
  have g:=u0w hk.g
  have d:=hk.dp
  revert ek g d
  cases toldD k with
  | lst ds=>exact fun _ g d=>⟨g,by simp only [depD,itemsD] at d ⊢;omega⟩
  | tup ds=>exact fun _ g d=>⟨g,by simp only [depD,itemsD] at d ⊢;omega⟩
  | _=>exact fun z=>nomatch z
 have s1:=u2T q1.1 q1.2
 have s2:=u2T q2.1 q2.2
 have s3:dEqX (.str p.1) (.str p.1)=.ok (.bl true):=u2T rfl (by simp [depD])
 have t1:∀ ds,gIsA [.tup ds,.ty "tuple"]=.ok (.bl true):=fun _=>rfl
 simp [runT,startD,gFlds,List.lookup,ne_rr,ne_rs,ne_ks,ne_rr.symm,ne_rs.symm,ne_ks.symm,i2,i3,i4,i5,i6,s1,s2,s3,t1,fldD,be_kr,be_sr,be_sk]
end
noncomputable abbrev dN (n:Nat):D:=.int (n:Int)
theorem u8X {g:D→Rho→Res Rho}{tb:Rho→Out} (S:List D→Rho→Prop) (Q:Out→Prop) (nil:∀ ρ,S [] ρ→Q (.nx ρ))
  (cons:∀ d ds ρ,S (d::ds) ρ→∃ ρ1,g d ρ=.ok ρ1∧((∃ ρ2,tb ρ1=.nx ρ2∧S ds ρ2)∨∃ v,tb ρ1=.rt v∧Q (.rt v))):∀ ds ρ,S ds ρ→Q (forD g tb ds ρ)
 | [],ρ,h=>nil ρ h
 | d::ds,ρ,h=>by
  obtain ⟨ρ1,e,k⟩:=cons d ds ρ h
  simp only [forD,e,u6Y,go_ok]
  rcases k with ⟨ρ2,k1,k2⟩ | ⟨v,k1,k2⟩
  ·rw [k1];exact u8X S Q nil cons ds ρ2 k2
  ·rw [k1];exact k2
theorem v1o (k m:Nat):intL (k:Int) (m+1)=dN k::intL ((k+1:Nat):Int) m:=by
 simp [intL,List.range_succ_eq_map,Function.comp_def,dN]
 intro a _
 omega
theorem u7m {g:D→Rho→Res Rho}{tb:Rho→Out} (n:Nat) (S:Nat→Rho→Prop) (Q:Out→Prop) (nil:∀ ρ,S n ρ→Q (.nx ρ))
  (cons:∀ k ρ,k<n→S k ρ→∃ ρ1,g (dN k) ρ=.ok ρ1∧((∃ ρ2,tb ρ1=.nx ρ2∧S (k+1) ρ2)∨∃ v,tb ρ1=.rt v∧Q (.rt v))):∀ m k ρ,k+m=n→S k ρ→Q (forD g tb (intL (k:Int) m) ρ)
 | 0,k,ρ,e,h=>by subst e;exact nil ρ h
 | m+1,k,ρ,e,h=>by
  rw [v1o]
  obtain ⟨ρ1,e1,z⟩:=cons k ρ (by omega) h
  simp only [forD,e1,u6Y,go_ok]
  rcases z with ⟨ρ2,k1,k2⟩ | ⟨v,k1,k2⟩
  ·rw [k1];exact u7m n S Q nil cons m (k+1) ρ2 (by omega) k2
  ·rw [k1];exact k2
theorem u3o {g:D→Rho→Res Rho}{tb:Rho→Out}{n:Nat} (S:Nat→Rho→Prop) (Q:Out→Prop) {ρ:Rho} (h0:S 0 ρ) (nil:∀ ρ,S n ρ→Q (.nx ρ))
  (cons:∀ k ρ,k<n→S k ρ→∃ ρ1,g (dN k) ρ=.ok ρ1∧((∃ ρ2,tb ρ1=.nx ρ2∧S (k+1) ρ2)∨∃ v,tb ρ1=.rt v∧Q (.rt v))):Q (forD g tb (intL 0 n) ρ) :=
 u7m n S Q nil cons n 0 ρ (by omega) h0
theorem u1u {P:D→Prop}{g:D→Rho→Res Rho}{fT:Rho→Res Bool}{fe:Rho→Res D}{ρ:Rho}:∀ {ds:List D},(∀ d∈ds,∃ ρ1 y,g d ρ=.ok ρ1∧fT (frz ρ1)=.ok true∧fe ρ1=.ok y∧P y)→∃ ys,compD g fT fe ρ ds=.ok ys∧ys.length=ds.length∧∀ y∈ys,P y
 | [],_=>⟨[],rfl,rfl,fun y h=>(nomatch h)⟩
 | d::ds,h=>by
  obtain ⟨ρ1,y,e1,e2,e3,hp⟩:=h d List.mem_cons_self
  obtain ⟨ys,e,hl,hy⟩:=u1u (ds:=ds) fun x hx=>h x (List.mem_cons_of_mem _ hx)
  refine ⟨y::ys,?_,by simp [hl],fun z hz=>?_⟩
  ·simp [compD,e1,e2,e3,e]
  ·rcases List.mem_cons.mp hz with rfl | hz
   ·exact hp
   ·exact hy z hz
theorem u2w {n:Nat}{d:D} (h:d∈intL 0 n):∃ k,k<n∧d=dN k:=by
 simp [intL] at h
 obtain ⟨k,hk,e⟩:=h
 exact ⟨k,hk,e.symm⟩
theorem u1l (n:Nat):(intL 0 n).length=n:=by simp [intL]
theorem pull {α:Type}{c:α→D}{p:α→Prop}:∀ {ys:List D},(∀ y∈ys,∃ z,y=c z∧p z)→∃ zs:List α,ys=zs.map c∧∀ z∈zs,p z
 | [],_=>⟨[],rfl,fun z h=>(nomatch h)⟩
 | y::ys,h=>by
  obtain ⟨z,e,hz⟩:=h y List.mem_cons_self
  obtain ⟨zs,e2,hzs⟩:=pull (ys:=ys) fun x hx=>h x (List.mem_cons_of_mem _ hx)
  refine ⟨z::zs,by rw [e,e2];rfl,fun x hx=>?_⟩
  rcases List.mem_cons.mp hx with rfl | hx
  ·exact hz
  ·exact hzs x hx
theorem ix_m {α:Type}{c:α→D}{rs:List α}{i:Nat} (h:i<rs.length):dIx (.lst (rs.map c)) (.int (i:Int))=.ok (c rs[i]):=v2R (by rw [List.getElem?_map,List.getElem?_eq_getElem h];rfl)
theorem u2v {α:Type}{c:α→D}{rs:List α}{i:Nat} (h:i<rs.length):∃ x,x∈rs∧dIx (.lst (rs.map c)) (.int (i:Int))=.ok (c x):=⟨rs[i],List.getElem_mem h,ix_m h⟩
theorem v1j (x y:D) (l:List D):dIx (.lst (x::y::l)) (.int 1)=.ok y:=v2R (i:=1) rfl
theorem ixl_2 (x y z:D) (l:List D):dIx (.lst (x::y::z::l)) (.int 2)=.ok z:=v2R (i:=2) rfl
theorem modI (a:Int) {b:Nat} (h:0<b):∃ m:Nat,a%(b:Int)=(m:Int)∧m<b:=by
 have h1:=Int.emod_nonneg a (show (b:Int)≠0 by omega)
 have h2:=Int.emod_lt_of_pos a (show (0:Int)<(b:Int) by omega)
 exact ⟨(a%b).toNat,by omega,by omega⟩
theorem modZ (a:Int) {b:Int} (h:0<b):∃ m:Nat,a%b=(m:Int)∧(m:Int)<b:=by
 have h1:=Int.emod_nonneg a (show b≠0 by omega)
 have h2:=Int.emod_lt_of_pos a h
 exact ⟨(a%b).toNat,by omega,by omega⟩
@[simp] theorem u0g (i j:Int):dMulX (.int i) (.int j)=gd (CMul i j) (.ok (.int (i*j))):=Eq.trans rfl rfl
@[simp] theorem add_ii (i j:Int):dAdd (.int i) (.int j)=.ok (.int (i+j)):=Eq.trans rfl rfl
theorem u0C {i j:Int} (h:0<j):dMod (.int i) (.int j)=.ok (.int (i%j)):=if_pos h
theorem u4l {i j:Int} (h:0<j) (h2:j<2^64):dDiv (.int i) (.int j)=.ok (.int (i / j)):=if_pos ⟨h,h2⟩
theorem v0K {n:Nat} (h:n≤1000):rng1 [.int (n:Int)]=.ok (intL 0 n):=by
 show gd _ _=_
 rw [u0K (by omega),Int.toNat_natCast]
theorem u3f {n:Nat} (j:Int) (e:j=n) (h:n≤1000):rng1 [.int j]=.ok (intL 0 n):=by rw [e,v0K h]
theorem bindN {α β:Type} (a:α) (f:α→Res β):(Res.ok a).bind f=f a:=Eq.trans rfl rfl
theorem goN {α:Type} (a:α) (ρ:Rho) (k:α→Out):(Res.ok a).go ρ k=k a:=Eq.trans rfl rfl
theorem thenN (ρ:Rho) (f:Rho→Out):(Out.nx ρ).andThen f=f ρ:=Eq.trans rfl rfl
theorem u3Y {α:Type}{xs:List α}{lo hi:Option Int}{x:α} (h:x∈cutC xs lo hi):x∈xs:=List.mem_of_mem_drop (List.mem_of_mem_take h)
theorem v3y {α:Type} (xs:List α) (lo hi:Option Int):(cutC xs lo hi).length≤xs.length:=by
 unfold cutC
 rw [List.length_take,List.length_drop]
 omega
theorem u5g {α:Type} (c:α→D) (xs:List α) (lo hi:Option Int):cutC (xs.map c) lo hi=(cutC xs lo hi).map c:=by
 unfold cutC
 rw [List.length_map,List.map_take,List.map_drop]
noncomputable abbrev scr (ns:List Int):D:=.lst (ns.map D.int)
noncomputable abbrev Row (G:List D→Res D):Prop:=∀ (ns:List Int) (i b n:Nat),0<b→b<1000000→n≤20→∃ rs:List Nat,G [scr ns,dN i,dN b,dN n]=.ok (.lst (rs.map dN))∧rs.length=n∧∀ x∈rs,x<b
noncomputable def Srow (ns:List Int) (i b n:Nat) (c:Int) (k:Nat) (ρ:Rho):Prop:=∃ (l:Int) (rs:List Nat) (y:Option Sl),ρ=[some (.val (scr ns)),some (.val (dN i)),some (.val (dN b)),some (.val (dN n)),some (.val (.int c)),some (.val (.int l)),some (.own (.l (rs.map dN))),y]∧rs.length=k∧∀ x∈rs,x<b
noncomputable def Qrow (b n:Nat) (o:Out):Prop:=∃ (ρ:Rho) (rs:List Nat),o=.nx ρ∧getV (frz ρ) 6=.ok (.lst (rs.map dN))∧rs.length=n∧∀ x∈rs,x<b
section
variable {P:Program}{w:World}{K:PySem.W.Frag}{mg:Str→Option Value}{base:Heap}{f:Addr}{fd:FuncData}{A:Adr}
theorem u8h (F:Fun K "_law_cell" "_law_cell" u2i f fd) (T:Txt K mg A):∃ G,FnOk P w K mg base CX0 1 f fd ["_law_script","_law_k"] (spF K G)∧∀ (ns:List Int) (k:Nat),∃ c:Int,G [scr ns,dN k]=.ok (.int c):=by
 refine ⟨_,F.okT (k:=0) u7W (fun cdv Ar outer s H E hr=>u0d (u0y (u0n o_lt (dv 1) (d_B u1o T.z_len (by decide +kernel) (u0a (dv 0) u0b))) (u0e (u0h (d_ix x_ix (dv 0) (dv 1)))) u0l)
  (u0e (u0h u0c))),?_⟩
 intro ns k
 by_cases h:k<ns.length
 ·have h':(k:Int)<ns.length:=by omega
  exact ⟨ns[k],by simp [runT,startD,h,h',ix_m h]⟩
 ·have h':¬ (k:Int)<ns.length:=by omega
  exact ⟨0,by simp [runT,startD,h,h']⟩
theorem u8f (F:Fun K "_law_stir" "_law_stir" u2g f fd) (T:Txt K mg A):∃ G,FnOk P w K mg base CX0 1 f fd ["_law_cell_here","_law_k"] (spF K G)∧∀ (c:Int) (k:Nat),k≤100→∃ n:Int,G [.int c,dN k]=.ok (.int n):=by
 refine ⟨_,F.okT (k:=0) u3r (fun cdv Ar outer s H E hr=>u0d (ds_n u3r.nd (d_op u1k (d_op u0P (d_op u0P (d_op u1H (d_op u1k (dv 0) u0c) u0c) (d_op u1H u0c (dv 1))) u0c) u0c))
  (u0d (ds_n u3r.nd (d_op u1k (d_op u1H (dv 2) (dv 2)) u0c))
  (u0e (u0h (d_op u1k (d_op u0P (d_op u0P (d_op u1H (dv 2) (dv 2)) (d_op u1H u0c (dv 2))) u0c) u0c))))),?_⟩
 intro c k hk
 obtain ⟨m,e,hm⟩:=modZ c (b:=2147483647) (by omega)
 obtain ⟨m2,e2,hm2⟩:=modZ ((m:Int)*48271+69621*(k:Int)+7) (b:=2147483647) (by omega)
 obtain ⟨m3,e3,hm3⟩:=modZ ((m2:Int)*m2) (b:=2147483629) (by omega)
 have c1:CMul (m:Int) 48271:=.inr ⟨by omega,by omega⟩
 have c2:CMul 69621 (k:Int):=.inl ⟨by omega,by omega⟩
 have c3:CMul (m2:Int) m2:=.inr ⟨by omega,by omega⟩
 have c4:CMul (m3:Int) m3:=.inr ⟨by omega,by omega⟩
 have c5:CMul 16807 (m3:Int):=.inl ⟨by omega,by omega⟩
 refine ⟨((m3:Int)*m3+16807*m3+11)%2147483587,?_⟩
 have r1:dMod (.int c) (.int 2147483647)=.ok (.int m):=by rw [u0C (by omega),e]
 have r2:dMod (.int ((m:Int)*48271+69621*(k:Int)+7)) (.int 2147483647)=.ok (.int m2):=by rw [u0C (by omega),e2]
 have r3:dMod (.int ((m2:Int)*m2)) (.int 2147483629)=.ok (.int m3):=by rw [u0C (by omega),e3]
 have r4:dMod (.int ((m3:Int)*m3+16807*m3+11)) (.int 2147483587)=.ok (.int (((m3:Int)*m3+16807*m3+11)%2147483587)):=u0C (by omega)
 have s1:dMulX (.int m) (.int 48271)=.ok (.int (m*48271)):=by rw [u0g,u0K c1]
 have s2:dMulX (.int 69621) (.int k)=.ok (.int (69621*k)):=by rw [u0g,u0K c2]
 have s3:dMulX (.int m2) (.int m2)=.ok (.int (m2*m2)):=by rw [u0g,u0K c3]
 have s4:dMulX (.int m3) (.int m3)=.ok (.int (m3*m3)):=by rw [u0g,u0K c4]
 have s5:dMulX (.int 16807) (.int m3)=.ok (.int (16807*m3)):=by rw [u0g,u0K c5]
 simp [runT,startD,r1,r2,r3,r4,s1,s2,s3,s4,s5,-u0p,-u0g,-Res.bind_ok,-L2.go_ok,-Out.then_nx,bindN,goN,thenN]
theorem u9Q {G_law_cell:List D→Res D} (c__law_cell:Callee P w K mg base 1 "_law_cell" ["_law_script","_law_k"] (spF K G_law_cell)) {G_law_stir:List D→Res D} (c__law_stir:Callee P w K mg base 1 "_law_stir" ["_law_cell_here","_law_k"] (spF K G_law_stir)) (p_cell:∀ (ns:List Int) (k:Nat),∃ c:Int,G_law_cell [scr ns,dN k]=.ok (.int c)) (p_stir:∀ (c:Int) (k:Nat),k≤100→∃ n:Int,G_law_stir [.int c,dN k]=.ok (.int n)) (F:Fun K "_law_row" "_law_row" u2C f fd) (T:Txt K mg A):∃ G,FnOk P w K mg base CX0 2 f fd ["_law_script","_law_at","_law_base","_law_count"] (spF K G)∧Row G:=by
 refine ⟨_,F.okT (k:=1) u2e (fun cdv Ar outer s H E hr=>u0d (ds_n u2e.nd (d_fn c__law_cell hr (u0a (dv 0) (u0a (dv 1) u0b))))
  (u0d (ds_n u2e.nd (d_op v0W (dv 4) (d_op o_pow u0c u0c)))
  (u0d (u2O u2e.nd (u5c u0b))
  (u0d (u1L rfl (u0Q T.z_range (u0a (dv 3) u0b)) (dg_n u2e.nd)
  (u0e (u0y (u0n o_ge (dv 4) (d_op o_pow u0c u0c)) (u0d (u1W 6 (d_op u1k (dv 5) (dv 2)))
    (u0e (ds_n u2e.nd (d_op u6X (dv 5) (dv 2))))) (u0e (u1W 6 (d_op u1k (d_op u6X (d_fn c__law_stir hr (u0a (dv 4) (u0a (dv 7) u0b))) u0c) (dv 2)))))))
  (u0e (u0h (dv 6))))))),?_⟩
 intro ns i b n hb hb2 hn
 obtain ⟨c,ec⟩:=p_cell ns i
 have cp:CPow 10 18:=by decide
 have hn':(-(2^62:Int))≤(n:Int)∧(n:Int)<2^62:=by omega
 have r0:dPow (.int 10) (.int 18)=.ok (.int 1000000000000000000):=by
  show gd _ _=_
  rw [u0K cp]
  rfl
 simp [runT,startD,ec,r0,v0K (show n≤1000 by omega),-u0p,-Res.bind_ok,-L2.go_ok,-Out.then_nx,bindN,goN,thenN]
 generalize hI:forD _ _ _ _=o
 have q:Qrow b n o:=by
  rw [← hI]
  refine u3o (Srow ns i b n c) (Qrow b n) ⟨_,[],none,rfl,rfl,fun x h=>(nomatch h)⟩ ?_ ?_
  ·rintro ρ ⟨l,rs,y,rfl,h1,h2⟩
   exact ⟨_,rs,rfl,rfl,h1,h2⟩
  ·rintro k ρ hk ⟨l,rs,y,rfl,h1,h2⟩
   refine ⟨_,rfl,.inl ?_⟩
   have hb':(0:Int)<b:=by omega
   have hs:rs.length<sizeLine:=Nat.lt_of_lt_of_le (show rs.length<1000 by omega) (by decide)
   have cd:CDivB l b:=by unfold CDivB;omega
   by_cases hc':(1000000000000000000:Int)≤c
   ·obtain ⟨m,e,hm⟩:=modI l (b:=b) hb
    skip
    have r1:dMod (.int l) (.int b)=.ok (.int m):=by rw [u0C hb',e]
    have r2:dDiv (.int l) (.int b)=.ok (.int (l / b)):=by rw [u4l hb' (by omega)]
    refine ⟨_,by simp [hc',r0,r1,r2,hs,-u0p,-Res.bind_ok,-L2.go_ok,-Out.then_nx,bindN,goN,thenN];rfl,l / b,rs++[m],some (.val (dN k)),by simp,by simp [h1],fun x hx=>?_⟩
    rcases List.mem_append.mp hx with h | h
    ·exact h2 x h
    ·rw [List.mem_singleton.mp h];exact hm
   ·obtain ⟨t,et⟩:=p_stir c k (by omega)
    obtain ⟨m,e,hm⟩:=modI (t / 8) (b:=b) hb
    have cd8:CDivB t 8:=by unfold CDivB;omega
    skip
    have r1:dMod (.int (t / 8)) (.int b)=.ok (.int m):=by rw [u0C hb',e]
    have r2:dDiv (.int t) (.int 8)=.ok (.int (t / 8)):=by rw [u4l (by omega) (by omega)]
    refine ⟨_,by simp [hc',r0,r1,r2,hs,et,-u0p,-Res.bind_ok,-L2.go_ok,-Out.then_nx,bindN,goN,thenN];rfl,l,rs++[m],some (.val (dN k)),by simp,by simp [h1],fun x hx=>?_⟩
    rcases List.mem_append.mp hx with h | h
    ·exact h2 x h
    ·rw [List.mem_singleton.mp h];exact hm
 obtain ⟨ρ,rs,rfl,g,h1,h2⟩:=q
 exact ⟨rs,by simp [g],h1,h2⟩
end
noncomputable def SIG:List Str:=["a","b","+","*","(",")","c","id","=","<=","if","0","[]","else",",","abc123","z","!"]
noncomputable def POOL:List Str:=SIG++(["s0s0","s0s1","s0s2","s0s3","s1s0","s1s1","s1s2","s1s3","s2s0","s2s1","s2s2","s2s3"]:List Str)
noncomputable def TAIL:List Str:=["","a","x1","list0","9","abcd0"]
noncomputable def letC (i:Nat):Str:=⟨#[greatT.cps.getD i 0]⟩
noncomputable def tailJ (j:Nat):Str:=TAIL.getD j ""
noncomputable def okH (z:Str):Bool:=hdS z&&(goodS z&&!sgnS z)
noncomputable def okG (z:Str):Bool:=sgnS z&&(goodS z&&POOL.contains z)
theorem sig_ok:∀ z∈SIG,okG z=true:=by decide +kernel
theorem v2W:∀ i,i<26→∀ j,j<6→okH (letC i++tailJ j)=true:=by decide +kernel
theorem u2Z {i j:Int} (h:-(2^64)<i∧i<2^64):dMulX (.int i) (.int j)=.ok (.int (i*j)):=by rw [u0g,u0K (show CMul i j from .inl h)]
theorem v1k {i:Nat} (h:i<26):dIx (.str greatT) (.int (i:Int))=.ok (.str (letC i)):=by
 have e:atI greatT.cps.toList (i:Int)=some (greatT.cps.getD i 0):=u6t (by
  have h':i<greatT.cps.size:=h
  rw [Array.getElem?_toList,Array.getElem?_eq_getElem h',Array.getD_eq_getD_getElem?,Array.getElem?_eq_getElem h']
  rfl)
 show (match atI greatT.cps.toList (i:Int) with | some c=>Res.ok (D.str ⟨#[c]⟩) | none=>.bad)=_
 rw [e]
 rfl
theorem v2L (i:Nat):(letC i).length=1:=rfl
theorem gdL {α:Type}{ds:List D}{r:Res α} (h:ds.length≤1000):gd (ds.length≤sizeLine) r=r:=u0K (u1Y h)
theorem gdI {α:Type}{n:Nat}{r:Res α} (h:n≤1000):gd ((intL 0 n).length≤sizeLine) r=r:=gdL (by rw [u1l];exact h)
theorem v2d {x y:Str} (h:x.length+y.length≤1000):dAdd (.str x) (.str y)=.ok (.str (x++y)):=u0K (Nat.le_trans h (by decide))
theorem u2t {x y:List D} (h:x.length+y.length≤1000):dAdd (.lst x) (.lst y)=.ok (.lst (x++y)):=u0K (Nat.le_trans h (by decide))
noncomputable abbrev dS (zs:List Str):D:=.lst (zs.map D.str)
noncomputable abbrev Heads (G:List D→Res D):Prop:=∀ c n:Nat,n≤100→∃ hs:List Str,G [dN c,dN n]=.ok (dS hs)∧hs.length=n∧∀ z∈hs,okH z=true
noncomputable abbrev Signs (G:List D→Res D):Prop:=∀ c n:Nat,n≤100→∃ hs:List Str,G [dN c,dN n]=.ok (dS hs)∧hs.length=n∧∀ z∈hs,okG z=true
noncomputable abbrev SH:=Nat×List Nat
noncomputable def shD (p:SH):D:=.tup [dN p.1,.tup (p.2.map dN)]
noncomputable def okSh (p:SH):Prop:=p.1<3∧p.2.length≤3∧∀ x∈p.2,x<3∨(10≤x∧x<15)
noncomputable def SHAPES:List (List SH):=[[(0,[0,13,1]),(0,[1]),(1,[1,14,2]),(1,[2]),(2,[11,0,12]),(2,[10])],[(0,[0,11,10]),(0,[10])],[(0,[10,0,11]),(0,[])],[(0,[0,1]),(0,[]),(1,[10,11]),(1,[12,0,13])],
 [(0,[10,1,13]),(0,[11,2,13]),(0,[10,2,14]),(0,[11,1,14]),(1,[12]),(2,[12])],[(0,[1,2]),(1,[10]),(1,[]),(2,[11]),(2,[])],[(0,[10,0]),(0,[10]),(0,[11])],[(0,[1,10,1]),(1,[11,1]),(1,[12])],[(0,[10,1]),(1,[0,11]),(1,[])],[(0,[1,10]),(0,[2,11]),(1,[12]),(2,[12])]]
theorem v0G:∀ sh∈SHAPES,1≤sh.length∧sh.length≤6∧∀ p∈sh,p.1<3∧p.2.length≤3∧∀ x∈p.2,x<3∨(10≤x∧x<15):=by decide
noncomputable abbrev Shape (G:List D→Res D):Prop:=∀ c:Nat,∃ sh:List SH,G [dN c]=.ok (.lst (sh.map shD))∧1≤sh.length∧sh.length≤6∧∀ p∈sh,okSh p
noncomputable abbrev Symb (G:List D→Res D):Prop:=∀ (x:Nat) (hs ss:List Str),hs.length=3→ss.length=5→(x<3∨(10≤x∧x<15))→∃ z,G [dN x,dS hs,dS ss]=.ok (.str z)∧(z∈hs∨z∈ss)
section
variable {P:Program}{w:World}{K:PySem.W.Frag}{mg:Str→Option Value}{base:Heap}{f:Addr}{fd:FuncData}{A:Adr}
theorem u6Q (F:Fun K "_law_heads" "_law_heads" u1C f fd) (T:Txt K mg A):∃ G,FnOk P w K mg base CX0 1 f fd ["_law_cell_here","_law_many"] (spF K G)∧Heads G:=by
 refine ⟨_,F.okT (k:=0) u3d (fun cdv Ar outer s H E hr=>u0d (ds_n u3d.nd u0i)
  (u0d (ds_n u3d.nd (d_ix x_ix (u0H (u0a u0i (u0a u0i (u0a u0i (u0a u0i (u0a u0i (u0a u0i u0b))))))) (d_op u1k (d_op u6X (dv 0) u0c) u0c)))
  (u0e (u0h (DN.de (u1r ["_law_k"] [0,2,3] rfl (u0v (sc:=defScope u1C) (N:=["_law_cell_here","_law_many","_law_letters","_law_tail"]) (by decide +kernel)) (u0Q T.z_range (u0a (dv 1) u0b)) (dg_n (show (["_law_k","_law_cell_here","_law_letters","_law_tail"]:List Str).Nodup by decide +kernel)) u2a (d_op u0P (d_ix x_ix (dv 2) (d_op u1k (d_op u0P (dv 1) (d_op u1H u0c (dv 0))) u0c)) (dv 3)))))))),?_⟩
 intro c n hn
 obtain ⟨j,e,hj⟩:=modZ ((c:Int) / 26) (b:=6) (by omega)
 have r1:dDiv (.int (c:Int)) (.int 26)=.ok (.int ((c:Int) / 26)):=u4l (by omega) (by omega)
 have r2:dMod (.int ((c:Int) / 26)) (.int 6)=.ok (dN j):=by rw [u0C (by omega),e]
 have r3:dIx (.lst [.str "",.str "a",.str "x1",.str "list0",.str "9",.str "abcd0"]) (dN j)=.ok (.str (tailJ j)):=by
  have:=ix_m (c:=D.str) (rs:=TAIL) (i:=j) (by show j<6;omega)
  rw [show tailJ j=TAIL[j]'(by show j<6;omega) from by unfold tailJ;rw [List.getD_eq_getElem?_getD,List.getElem?_eq_getElem];rfl]
  exact this
 have r4:(tailJ j).length≤6:=by
  have:∀ j,j<6→(tailJ j).length≤6:=by decide +kernel
  exact this j (by omega)
 simp [runT,startD,r1,r2,r3,v0K (show n≤1000 by omega),-u0p,-u0g,-Res.bind_ok,-L2.go_ok,-Out.then_nx,bindN,goN,thenN]
 generalize hI:compD _ _ _ _ _=o
 have q:∃ ys,o=.ok ys∧ys.length=(intL 0 n).length∧∀ y∈ys,∃ z,y=D.str z∧okH z=true:=by
  rw [← hI]
  refine u1u fun d hd=>?_
  obtain ⟨k,hk,rfl⟩:=u2w hd
  obtain ⟨i,ei,hi⟩:=modZ ((c:Int)+7*(k:Int)) (b:=26) (by omega)
  have s1:dMulX (.int 7) (.int (k:Int))=.ok (.int (7*(k:Int))):=u2Z (by omega)
  have s2:dMod (.int ((c:Int)+7*(k:Int))) (.int 26)=.ok (dN i):=by rw [u0C (by omega),ei]
  have s3:=v1k (i:=i) (by omega)
  have s4:dAdd (.str (letC i)) (.str (tailJ j))=.ok (.str (letC i++tailJ j)):=v2d (by rw [v2L];omega)
  exact ⟨_,.str (letC i++tailJ j),rfl,by simp,by simp [rhoC,s1,s2,s3,s4,-u0p,-u0g,-Res.bind_ok,-L2.go_ok,-Out.then_nx,bindN,goN,thenN],_,rfl,v2W i (by omega) j (by omega)⟩
 obtain ⟨ys,rfl,hl,hy⟩:=q
 obtain ⟨zs,rfl,hz⟩:=pull hy
 rw [u1l,List.length_map] at hl
 exact ⟨zs,by simp [gdI (show n≤1000 by omega)],hl,hz⟩
theorem u6K (F:Fun K "_law_signs" "_law_signs" u1A f fd) (T:Txt K mg A):∃ G,FnOk P w K mg base CX0 1 f fd ["_law_cell_here","_law_many"] (spF K G)∧Signs G:=by
 refine ⟨_,F.okT (k:=0) u4c (fun cdv Ar outer s H E hr=>u0d (ds_n u4c.nd (u0H (u0a u0i (u0a u0i (u0a u0i (u0a u0i (u0a u0i (u0a u0i (u0a u0i (u0a u0i (u0a u0i (u0a u0i (u0a u0i (u0a u0i (u0a u0i (u0a u0i (u0a u0i (u0a u0i (u0a u0i (u0a u0i u0b))))))))))))))))))))
  (u0e (u0h (DN.de (u1r ["_law_k"] [0,2] rfl (u0v (sc:=defScope u1A) (N:=["_law_cell_here","_law_many","_law_some"]) (by decide +kernel)) (u0Q T.z_range (u0a (dv 1) u0b)) (dg_n (show (["_law_k","_law_cell_here","_law_some"]:List Str).Nodup by decide +kernel)) u2a (d_ix x_ix (dv 2) (d_op u1k (d_op u0P (dv 1) (dv 0)) u0c))))))),?_⟩
 intro c n hn
 simp [runT,startD,v0K (show n≤1000 by omega),-u0p,-u0g,-Res.bind_ok,-L2.go_ok,-Out.then_nx,bindN,goN,thenN]
 generalize hI:compD _ _ _ _ _=o
 have q:∃ ys,o=.ok ys∧ys.length=(intL 0 n).length∧∀ y∈ys,∃ z,y=D.str z∧okG z=true:=by
  rw [← hI]
  refine u1u fun d hd=>?_
  obtain ⟨k,hk,rfl⟩:=u2w hd
  obtain ⟨i,ei,hi⟩:=modZ ((c:Int)+(k:Int)) (b:=18) (by omega)
  have s2:dMod (.int ((c:Int)+(k:Int))) (.int 18)=.ok (dN i):=by rw [u0C (by omega),ei]
  obtain ⟨z,hz,s3⟩:=u2v (c:=D.str) (rs:=SIG) (i:=i) (by show i<18;omega)
  have s3':dIx (.lst [.str "a",.str "b",.str "+",.str "*",.str "(",.str ")",.str "c",.str "id",.str "=",.str "<=",.str "if",.str "0",.str "[]",.str "else",.str ",",.str "abc123",.str "z",.str "!"]) (dN i)=.ok (.str z):=s3
  exact ⟨_,.str z,rfl,by simp,by simp [rhoC,s2,s3',-u0p,-u0g,-Res.bind_ok,-L2.go_ok,-Out.then_nx,bindN,goN,thenN],_,rfl,sig_ok z hz⟩
 obtain ⟨ys,rfl,hl,hy⟩:=q
 obtain ⟨zs,rfl,hz⟩:=pull hy
 rw [u1l,List.length_map] at hl
 exact ⟨zs,by simp [gdI (show n≤1000 by omega)],hl,hz⟩
theorem u6L (F:Fun K "_law_shape" "_law_shape" u1M f fd) (T:Txt K mg A):∃ G,FnOk P w K mg base CX0 1 f fd ["_law_number"] (spF K G)∧Shape G:=by
 refine ⟨_,F.okT (k:=0) u4d (fun cdv Ar outer s H E hr=>u0d (u2O u4d.nd (u5c (u0a (u0H (u0a (u0f (u0a u0c (u0a (u0f (u0a u0c (u0a u0c (u0a u0c u0b)))) u0b))) (u0a (u0f (u0a u0c (u0a (u0f (u0a u0c u0b)) u0b))) (u0a (u0f (u0a u0c (u0a (u0f (u0a u0c (u0a u0c (u0a u0c u0b)))) u0b))) (u0a (u0f (u0a u0c (u0a (u0f (u0a u0c u0b)) u0b))) (u0a (u0f (u0a u0c (u0a (u0f (u0a u0c (u0a u0c (u0a u0c u0b)))) u0b))) (u0a (u0f (u0a u0c (u0a (u0f (u0a u0c u0b)) u0b))) u0b))))))) u0b)))
  (u0d (u1W 1 (u0H (u0a (u0f (u0a u0c (u0a (u0f (u0a u0c (u0a u0c (u0a u0c u0b)))) u0b))) (u0a (u0f (u0a u0c (u0a (u0f (u0a u0c u0b)) u0b))) u0b))))
  (u0d (u1W 1 (u0H (u0a (u0f (u0a u0c (u0a (u0f (u0a u0c (u0a u0c (u0a u0c u0b)))) u0b))) (u0a (u0f (u0a u0c (u0a (u0f u0b) u0b))) u0b))))
  (u0d (u1W 1 (u0H (u0a (u0f (u0a u0c (u0a (u0f (u0a u0c (u0a u0c u0b))) u0b))) (u0a (u0f (u0a u0c (u0a (u0f u0b) u0b))) (u0a (u0f (u0a u0c (u0a (u0f (u0a u0c (u0a u0c u0b))) u0b))) (u0a (u0f (u0a u0c (u0a (u0f (u0a u0c (u0a u0c (u0a u0c u0b)))) u0b))) u0b))))))
  (u0d (u1W 1 (u0H (u0a (u0f (u0a u0c (u0a (u0f (u0a u0c (u0a u0c (u0a u0c u0b)))) u0b))) (u0a (u0f (u0a u0c (u0a (u0f (u0a u0c (u0a u0c (u0a u0c u0b)))) u0b))) (u0a (u0f (u0a u0c (u0a (u0f (u0a u0c (u0a u0c (u0a u0c u0b)))) u0b))) (u0a (u0f (u0a u0c (u0a (u0f (u0a u0c (u0a u0c (u0a u0c u0b)))) u0b))) (u0a (u0f (u0a u0c (u0a (u0f (u0a u0c u0b)) u0b))) (u0a (u0f (u0a u0c (u0a (u0f (u0a u0c u0b)) u0b))) u0b))))))))
  (u0d (u1W 1 (u0H (u0a (u0f (u0a u0c (u0a (u0f (u0a u0c (u0a u0c u0b))) u0b))) (u0a (u0f (u0a u0c (u0a (u0f (u0a u0c u0b)) u0b))) (u0a (u0f (u0a u0c (u0a (u0f u0b) u0b))) (u0a (u0f (u0a u0c (u0a (u0f (u0a u0c u0b)) u0b))) (u0a (u0f (u0a u0c (u0a (u0f u0b) u0b))) u0b)))))))
  (u0d (u1W 1 (u0H (u0a (u0f (u0a u0c (u0a (u0f (u0a u0c (u0a u0c u0b))) u0b))) (u0a (u0f (u0a u0c (u0a (u0f (u0a u0c u0b)) u0b))) (u0a (u0f (u0a u0c (u0a (u0f (u0a u0c u0b)) u0b))) u0b)))))
  (u0d (u1W 1 (u0H (u0a (u0f (u0a u0c (u0a (u0f (u0a u0c (u0a u0c (u0a u0c u0b)))) u0b))) (u0a (u0f (u0a u0c (u0a (u0f (u0a u0c (u0a u0c u0b))) u0b))) (u0a (u0f (u0a u0c (u0a (u0f (u0a u0c u0b)) u0b))) u0b)))))
  (u0d (u1W 1 (u0H (u0a (u0f (u0a u0c (u0a (u0f (u0a u0c (u0a u0c u0b))) u0b))) (u0a (u0f (u0a u0c (u0a (u0f (u0a u0c (u0a u0c u0b))) u0b))) (u0a (u0f (u0a u0c (u0a (u0f u0b) u0b))) u0b)))))
  (u0d (u1W 1 (u0H (u0a (u0f (u0a u0c (u0a (u0f (u0a u0c (u0a u0c u0b))) u0b))) (u0a (u0f (u0a u0c (u0a (u0f (u0a u0c (u0a u0c u0b))) u0b))) (u0a (u0f (u0a u0c (u0a (u0f (u0a u0c u0b)) u0b))) (u0a (u0f (u0a u0c (u0a (u0f (u0a u0c u0b)) u0b))) u0b))))))
  (u0e (u0h (d_ix x_ix (dv 1) (d_op u1k (dv 0) u0c)))))))))))))),?_⟩
 intro c
 obtain ⟨i,ei,hi⟩:=modZ (c:Int) (b:=10) (by omega)
 have s2:dMod (.int (c:Int)) (.int 10)=.ok (dN i):=by rw [u0C (by omega),ei]
 obtain ⟨sh,hm,s3⟩:=u2v (c:=fun sh:List SH=>D.lst (sh.map shD)) (rs:=SHAPES) (i:=i) (by show i<10;omega)
 obtain ⟨h1,h2,h3⟩:=v0G sh hm
 refine ⟨sh,?_,h1,h2,h3⟩
 have sl:∀ k:Nat,k≤1000→k<sizeLine:=fun k h=>Nat.lt_of_le_of_lt h (by decide)
 simp [runT,startD,s2,sl,-u0p,-u0g,-Res.bind_ok,-L2.go_ok,-Out.then_nx,bindN,goN,thenN]
 refine Eq.trans (congrArg (fun r=>noE (outR ((noE r).go _ fun d=>Out.rt d))) s3) ?_
 rfl
theorem u6f (F:Fun K "_law_symbol" "_law_symbol" u1G f fd) (T:Txt K mg A):∃ G,FnOk P w K mg base CX0 1 f fd ["_law_number","_law_heads_here","_law_signs_here"] (spF K G)∧Symb G:=by
 refine ⟨_,F.okT (k:=0) u5X (fun cdv Ar outer s H E hr=>u0d (u0y (u0n o_ge (dv 0) u0c) (u0e (u0h (d_ix x_ix (dv 2) (d_op v0W (dv 0) u0c)))) u0l)
  (u0e (u0h (d_ix x_ix (dv 1) (dv 0))))),?_⟩
 intro x hs ss hl sl hx
 by_cases c:10≤x
 ·have c':(10:Int)≤x:=by omega
  have e:(x:Int) - 10=((x - 10:Nat):Int):=by omega
  obtain ⟨z,hz,s3⟩:=u2v (c:=D.str) (rs:=ss) (i:=x - 10) (by omega)
  exact ⟨z,by simp [runT,startD,c',e,s3,-u0g,-Res.bind_ok,-L2.go_ok,-Out.then_nx,bindN,goN,thenN],.inr hz⟩
 ·have c':¬ (10:Int)≤x:=by omega
  obtain ⟨z,hz,s3⟩:=u2v (c:=D.str) (rs:=hs) (i:=x) (by omega)
  exact ⟨z,by simp [runT,startD,c',s3,-u0g,-Res.bind_ok,-L2.go_ok,-Out.then_nx,bindN,goN,thenN],.inl hz⟩
end
noncomputable def VR (p:RR):Prop:=OkR p∧∀ b∈p.2,sgnS b=true→b∈POOL
theorem v2F {z:Str} (h:okH z=true):hdS z=true∧goodS z=true∧sgnS z=false:=by
 unfold okH at h
 simpa [Bool.and_eq_true] using h
theorem u8m {z:Str} (h:okG z=true):sgnS z=true∧goodS z=true∧z∈POOL:=by
 unfold okG at h
 simpa [Bool.and_eq_true] using h
theorem u7O {h:Str}{bs:List Str} (hh:okH h=true) (hl:bs.length≤4) (hb:∀ b∈bs,okH b=true∨okG b=true):VR (h,bs):=by
 obtain ⟨a1,a2,a3⟩:=v2F hh
 refine ⟨⟨a1,hl,fun b m=>?_,a2,fun b m=>?_⟩,fun b m s=>?_⟩
 ·rcases hb b m with q | q
  ·rw [(v2F q).1,Bool.or_true]
  ·rw [(u8m q).1];rfl
 ·rcases hb b m with q | q
  ·exact (v2F q).2.1
  ·exact (u8m q).2.1
 ·rcases hb b m with q | q
  ·rw [(v2F q).2.2] at s;cases s
  ·exact (u8m q).2.2
theorem u3w {h:Str}{bs:List Str}{rs:List RR} (o:VR (h,bs)) (os:∀ q∈rs,VR q):dNotIn (.tup [.str h,.tup (bs.map D.str)]) (.lst (rs.map rT))=.ok (.bl (!decide ((h,bs)∈rs))):=by
 rw [show dNotIn (.tup [.str h,.tup (bs.map D.str)]) (.lst (rs.map rT))=inD (rT (h,bs)) (rs.map rT) true from u3i true _ _,u8Q o.1 (fun q hq=>(os q hq).1)]
 rfl
theorem cut_two {α:Type} (xs:List α) (hi:Option Int) (h:2≤xs.length):(cutC xs (some 2) hi).length≤xs.length - 2:=by
 unfold cutC
 rw [show (some (2:Int))=some ((2:Nat):Int) from rfl,HT.sIx_nat,List.length_take,List.length_drop]
 omega
theorem five {rs:List Nat} (h:rs.length=5):∃ a b c d e,rs=[a,b,c,d,e]:=by
 match rs,h with
 | [a,b,c,d,e],_=>exact ⟨a,b,c,d,e,rfl⟩
theorem three {α:Type}{rs:List α} (h:rs.length=3):∃ a b c,rs=[a,b,c]:=by
 match rs,h with
 | [a,b,c],_=>exact ⟨a,b,c,rfl⟩
noncomputable def VRs (rs:List RR):Prop:=∀ p∈rs,VR p
noncomputable abbrev dR (rs:List RR):D:=.lst (rs.map rT)
noncomputable abbrev Drawn (G:List D→Res D):Prop:=∀ (ns:List Int) (i:Nat) (hs ss:List Str) (m:Nat),1≤hs.length→hs.length≤3→ss.length≤5→m≤3→(∀ z∈hs,okH z=true)→(∀ z∈ss,okG z=true) →
 ∃ rs:List RR,G [scr ns,dN i,dS hs,dS ss,dN m]=.ok (dR rs)∧1≤rs.length∧rs.length≤6∧VRs rs
noncomputable def Sdr (ns:List Int) (i:Nat) (hs ss:List Str) (m:Nat) (k:Nat) (ρ:Rho):Prop:=∃ (rs:List RR) (a b c d e:Option Sl),ρ=[some (.val (scr ns)),some (.val (dN i)),some (.val (dS hs)),some (.val (dS ss)),some (.val (dN m)),some (.own (.l (rs.map rT))),a,b,c,d,e]∧rs.length≤k∧(0<k→1≤rs.length)∧VRs rs
noncomputable def Qdr (n:Nat) (o:Out):Prop:=∃ (ρ:Rho) (rs:List RR),o=.nx ρ∧getV (frz ρ) 5=.ok (dR rs)∧1≤rs.length∧rs.length≤n∧VRs rs
section
variable {P:Program}{w:World}{K:PySem.W.Frag}{mg:Str→Option Value}{base:Heap}{f:Addr}{fd:FuncData}{A:Adr}
theorem u3E {G_law_row:List D→Res D} (c__law_row:Callee P w K mg base 2 "_law_row" ["_law_script","_law_at","_law_base","_law_count"] (spF K G_law_row)) (p_row:Row G_law_row) (F:Fun K "_law_drawn_rules" "_law_drawn_rules" u0A f fd) (T:Txt K mg A):∃ G,FnOk P w K mg base CX0 3 f fd ["_law_script","_law_at","_law_heads_here","_law_signs_here","_law_more"] (spF K G)∧Drawn G:=by
 refine ⟨_,F.okT (k:=2) u0s (fun cdv Ar outer s H E hr=>u0d (u2O u0s.nd (u5c u0b))
  (u0d (u1L rfl (u0Q T.z_range (u0a (d_op u0P (d_B u1o T.z_len (by decide +kernel) (u0a (dv 2) u0b)) (dv 4)) u0b)) (dg_n u0s.nd)
  (u0d (ds_n u0s.nd (d_fn c__law_row hr (u0a (dv 0) (u0a (d_op u0P (dv 1) (dv 6)) (u0a u0c (u0a u0c u0b))))))
   (u0d (ds_n u0s.nd (d_ix x_ix (dv 2) (d_op u1k (dv 6) (d_B u1o T.z_len (by decide +kernel) (u0a (dv 2) u0b)))))
   (u0d (u0y (u0n o_ge (dv 6) (d_B u1o T.z_len (by decide +kernel) (u0a (dv 2) u0b))) (u0e (ds_n u0s.nd (d_ix x_ix (dv 2) (d_op u1k (d_ix x_ix (dv 7) u0c) (d_B u1o T.z_len (by decide +kernel) (u0a (dv 2) u0b)))))) u0l)
   (u0d (ds_n u0s.nd (d_op u0P (dv 2) (dv 3)))
   (u0d (u6q ["_law_draw"] [9] rfl (u0v (sc:=defScope u0A) (N:=["_law_script","_law_at","_law_heads_here","_law_signs_here","_law_more","_law_rules_here","_law_k","_law_draws","_law_head","_law_some","_law_body"]) (by decide +kernel)) u0s.nd (u1n (d_sl (dv 7) (u1w u0c) (u1w (d_op u0P u0c (d_op u1k (d_ix x_ix (dv 7) u0c) u0c))))) (dg_n (show (["_law_draw","_law_some"]:List Str).Nodup by decide +kernel)) u2a (d_ix x_ix (dv 1) (d_op u1k (dv 0) (d_B u1o T.z_len (by decide +kernel) (u0a (dv 1) u0b)))))
   (u0e (u0y (u0n (u2R (hu100 hr)) (u0f (u0a (dv 8) (u0a (d_T u1T T.z_tuple (by decide +kernel) (u0a (dv 10) u0b)) u0b))) (dv 5)) (u0e (u1W 5 (u0f (u0a (dv 8) (u0a (d_T u1T T.z_tuple (by decide +kernel) (u0a (dv 10) u0b)) u0b))))) u0l))))))))
  (u0e (u0h (dv 5))))),?_⟩
 intro ns i hs ss m h1 h3 h5 hm hh hg
 have r1:rng1 [.int ((hs.length:Int)+(m:Int))]=.ok (intL 0 (hs.length+m)):=u3f _ (by omega) (by omega)
 simp [runT,startD,r1,-u0p,-u0g,-Res.bind_ok,-L2.go_ok,-Out.then_nx,bindN,goN,thenN]
 generalize hI:forD _ _ _ _=o
 have q:Qdr 6 o:=by
  rw [← hI]
  refine u3o (Sdr ns i hs ss m) (Qdr 6) ⟨[],none,none,none,none,none,rfl,by simp,fun h=>absurd h (by omega),fun p h=>(nomatch h)⟩ ?_ ?_
  ·rintro ρ ⟨rs,a,b,c,d,e,rfl,h1,h2,h4⟩
   exact ⟨_,rs,rfl,rfl,h2 (by omega),by omega,h4⟩
  ·rintro k ρ hk ⟨rs,x1,x2,x3,x4,x5,rfl,l1,l2,l3⟩
   refine ⟨_,rfl,.inl ?_⟩
   obtain ⟨ds,er,hl,hd⟩:=p_row ns (i+k) 24 5 (by omega) (by omega) (by omega)
   obtain ⟨d0,d1,d2,d3,d4,rfl⟩:=five hl
   have er':G_law_row [scr ns,.int ((i:Int)+(k:Int)),.int 24,.int 5]=.ok (.lst ([d0,d1,d2,d3,d4].map dN)):=er
   obtain ⟨j,ej,hj⟩:=modZ (k:Int) (b:=(hs.length:Int)) (by omega)
   have s1:dMod (.int (k:Int)) (.int (hs.length:Int))=.ok (dN j):=by rw [u0C (by omega),ej]
   obtain ⟨z,hz,s2⟩:=u2v (c:=D.str) (rs:=hs) (i:=j) (by omega)
   obtain ⟨j',ej',hj'⟩:=modZ (d0:Int) (b:=(hs.length:Int)) (by omega)
   have s1':dMod (.int (d0:Int)) (.int (hs.length:Int))=.ok (dN j'):=by rw [u0C (by omega),ej']
   obtain ⟨z',hz',s2'⟩:=u2v (c:=D.str) (rs:=hs) (i:=j') (by omega)
   have s3:dAdd (dS hs) (dS ss)=.ok (dS (hs++ss)):=by rw [u2t (by simp;omega),← List.map_append]
   have s4:dMod (.int (d1:Int)) (.int 4)=.ok (.int ((d1:Int)%4)):=u0C (by omega)
   simp [er',s1,s2,-u0p,-u0g,-Res.bind_ok,-L2.go_ok,-Out.then_nx,bindN,goN,thenN]
   obtain ⟨cs,hcs,s5⟩:∃ cs:List Nat,cs.length≤3∧dSl (.lst [dN d0,dN d1,dN d2,dN d3,dN d4]) (some 2) (some (2+(d1:Int)%4))=.ok (.lst (cs.map dN)):=⟨cutC [d0,d1,d2,d3,d4] (some 2) (some (2+(d1:Int)%4)),cut_two _ _ (by simp),by rw [← u5g];rfl⟩
   have hcl:cs.length≤sizeLine:=Nat.le_trans hcs (by decide)
   have hsz:rs.length<sizeLine:=Nat.lt_of_le_of_lt (show rs.length≤1000 by omega) (by decide)
   by_cases c:hs.length≤k
   ·simp [c,u5x,v1j,s1',s2',s3,s4,s5,asI,hcl,-u0p,-u0g,-Res.bind_ok,-L2.go_ok,-Out.then_nx,bindN,goN,thenN]
    generalize hC:compD _ _ _ _ _=oc
    have qc:∃ ys,oc=.ok ys∧ys.length=(cs.map dN).length∧∀ y∈ys,∃ b,y=D.str b∧(okH b=true∨okG b=true):=by
     rw [← hC]
     refine u1u fun d hd=>?_
     obtain ⟨x,hx,rfl⟩:=List.mem_map.mp hd
     obtain ⟨t,et,ht⟩:=modZ (x:Int) (b:=((hs++ss).length:Int)) (by simp;omega)
     have t1:dMod (.int (x:Int)) (.int ((hs++ss).length:Int))=.ok (dN t):=by rw [u0C (by simp;omega),et]
     obtain ⟨b,hb,t2⟩:=u2v (c:=D.str) (rs:=hs++ss) (i:=t) (by omega)
     refine ⟨_,.str b,rfl,by simp,?_,b,rfl,?_⟩
     ·generalize hs++ss=us at t1 t2
      simp [rhoC,t1,t2,-u0p,-u0g,-Res.bind_ok,-L2.go_ok,-Out.then_nx,bindN,goN,thenN]
     ·rcases List.mem_append.mp hb with h | h
      ·exact .inl (hh b h)
      ·exact .inr (hg b h)
    obtain ⟨ys,rfl,hy1,hy2⟩:=qc
    obtain ⟨bs,rfl,hb2⟩:=pull hy2
    have hbl:bs.length≤4:=by simpa using (show (bs.map D.str).length≤4 by rw [hy1];simp;omega)
    have v:VR (z',bs):=u7O (hh _ hz') hbl hb2
    have nn:=u3w v l3
    have g1:gTuple [dS bs]=.ok (.tup (bs.map D.str)):=rfl
    by_cases cm:(z',bs)∈rs
    ·refine ⟨_,by simp [g1,nn,cm,u0u,-u0p,-u0g,-Res.bind_ok,-L2.go_ok,-Out.then_nx,bindN,goN,thenN];exact ⟨rfl,rfl,rfl,rfl,rfl⟩,rs,_,_,_,_,_,rfl,by omega,fun _=>List.length_pos_of_mem cm,l3⟩
    ·refine ⟨_,by simp [g1,nn,cm,u0u,hsz,-u0p,-u0g,-Res.bind_ok,-L2.go_ok,-Out.then_nx,bindN,goN,thenN];rfl,rs++[(z',bs)],_,_,_,_,_,by simp [rT];exact ⟨rfl,rfl,rfl,rfl,rfl⟩,by simp;omega,fun _=>by simp,fun p hp=>?_⟩
     rcases List.mem_append.mp hp with h | h
     ·exact l3 p h
     ·rw [List.mem_singleton.mp h];exact v
   ·simp [c,u5x,v1j,s3,s4,s5,asI,hcl,-u0p,-u0g,-Res.bind_ok,-L2.go_ok,-Out.then_nx,bindN,goN,thenN]
    generalize hC:compD _ _ _ _ _=oc
    have qc:∃ ys,oc=.ok ys∧ys.length=(cs.map dN).length∧∀ y∈ys,∃ b,y=D.str b∧(okH b=true∨okG b=true):=by
     rw [← hC]
     refine u1u fun d hd=>?_
     obtain ⟨x,hx,rfl⟩:=List.mem_map.mp hd
     obtain ⟨t,et,ht⟩:=modZ (x:Int) (b:=((hs++ss).length:Int)) (by simp;omega)
     have t1:dMod (.int (x:Int)) (.int ((hs++ss).length:Int))=.ok (dN t):=by rw [u0C (by simp;omega),et]
     obtain ⟨b,hb,t2⟩:=u2v (c:=D.str) (rs:=hs++ss) (i:=t) (by omega)
     refine ⟨_,.str b,rfl,by simp,?_,b,rfl,?_⟩
     ·generalize hs++ss=us at t1 t2
      simp [rhoC,t1,t2,-u0p,-u0g,-Res.bind_ok,-L2.go_ok,-Out.then_nx,bindN,goN,thenN]
     ·rcases List.mem_append.mp hb with h | h
      ·exact .inl (hh b h)
      ·exact .inr (hg b h)
    obtain ⟨ys,rfl,hy1,hy2⟩:=qc
    obtain ⟨bs,rfl,hb2⟩:=pull hy2
    have hbl:bs.length≤4:=by simpa using (show (bs.map D.str).length≤4 by rw [hy1];simp;omega)
    have v:VR (z,bs):=u7O (hh _ hz) hbl hb2
    have nn:=u3w v l3
    have g1:gTuple [dS bs]=.ok (.tup (bs.map D.str)):=rfl
    by_cases cm:(z,bs)∈rs
    ·refine ⟨_,by simp [g1,nn,cm,u0u,-u0p,-u0g,-Res.bind_ok,-L2.go_ok,-Out.then_nx,bindN,goN,thenN];exact ⟨rfl,rfl,rfl,rfl,rfl⟩,rs,_,_,_,_,_,rfl,by omega,fun _=>List.length_pos_of_mem cm,l3⟩
    ·refine ⟨_,by simp [g1,nn,cm,u0u,hsz,-u0p,-u0g,-Res.bind_ok,-L2.go_ok,-Out.then_nx,bindN,goN,thenN];rfl,rs++[(z,bs)],_,_,_,_,_,by simp [rT];exact ⟨rfl,rfl,rfl,rfl,rfl⟩,by simp;omega,fun _=>by simp,fun p hp=>?_⟩
     rcases List.mem_append.mp hp with h | h
     ·exact l3 p h
     ·rw [List.mem_singleton.mp h];exact v
 obtain ⟨ρ,rs,rfl,g,h1,h2,h3⟩:=q
 exact ⟨rs,by simp [g],h1,h2,h3⟩
end
noncomputable abbrev Rules (G:List D→Res D):Prop:=∀ (ns:List Int) (i:Nat),∃ rs:List RR,G [scr ns,dN i]=.ok (dR rs)∧1≤rs.length∧rs.length≤6∧VRs rs
noncomputable def Sru (a0 a1 a2:Option Sl) (hs ss:List Str) (ds:List D) (ρ:Rho):Prop:=∃ (sh:List SH) (rs:List RR) (a b c:Option Sl),ρ=[a0,a1,a2,some (.val (dS hs)),some (.val (dS ss)),some (.own (.l (rs.map rT))),a,b,c,none]∧ds=sh.map shD∧rs.length+sh.length≤6∧1≤rs.length+sh.length∧(∀ p∈sh,okSh p)∧VRs rs
noncomputable def Qru (o:Out):Prop:=∃ (ρ:Rho) (rs:List RR),o=.nx ρ∧getV (frz ρ) 5=.ok (dR rs)∧1≤rs.length∧rs.length≤6∧VRs rs
theorem take3 {α:Type} (xs:List α) {n:Nat} (h1:1≤n) (h:n≤xs.length):(cutC xs none (some (n:Int))).length=n:=by
 unfold cutC
 rw [HT.sIx_none,HT.sIx_nat,List.length_take,List.length_drop]
 omega
section
variable {P:Program}{w:World}{K:PySem.W.Frag}{mg:Str→Option Value}{base:Heap}{f:Addr}{fd:FuncData}{A:Adr}
theorem u6M {G_law_row:List D→Res D} (c__law_row:Callee P w K mg base 2 "_law_row" ["_law_script","_law_at","_law_base","_law_count"] (spF K G_law_row)) {G_law_heads:List D→Res D} (c__law_heads:Callee P w K mg base 1 "_law_heads" ["_law_cell_here","_law_many"] (spF K G_law_heads)) {G_law_signs:List D→Res D} (c__law_signs:Callee P w K mg base 1 "_law_signs" ["_law_cell_here","_law_many"] (spF K G_law_signs)) {G_law_drawn_rules:List D→Res D} (c__law_drawn_rules:Callee P w K mg base 3 "_law_drawn_rules" ["_law_script","_law_at","_law_heads_here","_law_signs_here","_law_more"] (spF K G_law_drawn_rules)) {G_law_shape:List D→Res D} (c__law_shape:Callee P w K mg base 1 "_law_shape" ["_law_number"] (spF K G_law_shape)) {G_law_symbol:List D→Res D} (c__law_symbol:Callee P w K mg base 1 "_law_symbol" ["_law_number","_law_heads_here","_law_signs_here"] (spF K G_law_symbol)) (p_row:Row G_law_row) (p_heads:Heads G_law_heads) (p_signs:Signs G_law_signs) (p_shape:Shape G_law_shape) (p_symb:Symb G_law_symbol) (p_drawn:Drawn G_law_drawn_rules) (F:Fun K "_law_rules" "_law_rules" u1B f fd) (T:Txt K mg A):∃ G,FnOk P w K mg base CX0 4 f fd ["_law_script","_law_at"] (spF K G)∧Rules G:=by
 refine ⟨_,F.okT (k:=3) u0O (fun cdv Ar outer s H E hr=>u0d (ds_n u0O.nd (d_fn c__law_row hr (u0a (dv 0) (u0a (dv 1) (u0a (d_op u1H (d_op u1H (d_op u1H u0c u0c) u0c) u0c) (u0a u0c u0b))))))
  (u0d (ds_n u0O.nd (d_fn c__law_heads hr (u0a (d_ix x_ix (dv 2) u0c) (u0a u0c u0b))))
  (u0d (ds_n u0O.nd (d_fn c__law_signs hr (u0a (d_ix x_ix (dv 2) u0c) (u0a u0c u0b))))
  (u0d (u0y (u0n o_lt (d_op u6X (d_ix x_ix (dv 2) u0c) u0c) u0c) (u0d (u2O u0O.nd (u5c u0b))
   (u0d (u1L rfl (u1n (d_fn c__law_shape hr (u0a (d_ix x_ix (dv 2) u0c) u0b))) (u9h (n:=2) rfl (u1t (dg_n u0O.nd) (u1t (dg_n u0O.nd) u3W)))
   (u0d (u6q ["_law_number"] [3,4] rfl (u0v (sc:=defScope u1B) (N:=["_law_script","_law_at","_law_draws","_law_names","_law_signs_here","_law_rules_here","_law_head","_law_body","_law_symbols","_law_heads_here"]) (by decide +kernel)) u0O.nd (u1n (dv 7)) (dg_n (show (["_law_number","_law_names","_law_signs_here"]:List Str).Nodup by decide +kernel)) u2a (d_fn c__law_symbol hr (u0a (dv 0) (u0a (dv 1) (u0a (dv 2) u0b)))))
    (u0e (u1W 5 (u0f (u0a (d_ix x_ix (dv 3) (dv 6)) (u0a (d_T u1T T.z_tuple (by decide +kernel) (u0a (dv 8) u0b)) u0b)))))))
   (u0e (u0h (dv 5))))) u0l)
  (u0d (ds_n u0O.nd (d_sl (dv 3) u1Z (u1w (d_op u0P u0c (d_op u1k (d_ix x_ix (dv 2) u0c) u0c)))))
  (u0e (u0h (d_fn c__law_drawn_rules hr (u0a (dv 0) (u0a (d_op u0P (dv 1) u0c) (u0a (dv 9) (u0a (d_sl (dv 4) u1Z (u1w (d_op u0P u0c (d_op u1k (d_op u6X (d_ix x_ix (dv 2) u0c) u0c) u0c)))) (u0a (d_op u1k (d_op u6X (d_ix x_ix (dv 2) u0c) u0c) u0c) u0b))))))))))))),?_⟩
 intro ns i
 obtain ⟨ds,er,hl,hd⟩:=p_row ns i 360 3 (by omega) (by omega) (by omega)
 obtain ⟨d0,d1,d2,rfl⟩:=three hl
 have er':G_law_row [scr ns,dN i,.int 360,.int 3]=.ok (.lst [dN d0,dN d1,dN d2]):=er
 obtain ⟨hs,eh,lh,hh⟩:=p_heads d1 3 (by omega)
 obtain ⟨ss,es,ls,hg⟩:=p_signs d2 5 (by omega)
 have eh':G_law_heads [dN d1,.int 3]=.ok (dS hs):=eh
 have es':G_law_signs [dN d2,.int 5]=.ok (dS ss):=es
 obtain ⟨sh,e1,l1,l2,l3⟩:=p_shape d0
 have m1:dMulX (.int 3) (.int 3)=.ok (.int 9):=u2Z (by omega)
 have m2:dMulX (.int 9) (.int 5)=.ok (.int 45):=u2Z (by omega)
 have m3:dMulX (.int 45) (.int 8)=.ok (.int 360):=u2Z (by omega)
 have v1:dDiv (dN d0) (.int 45)=.ok (.int ((d0:Int) / 45)):=u4l (by omega) (by omega)
 simp [runT,startD,m1,m2,m3,er',u5x,v1j,ixl_2,eh',es',v1,-u0p,-u0g,-Res.bind_ok,-L2.go_ok,-Out.then_nx,bindN,goN,thenN]
 by_cases c:(d0:Int) / 45<3
 ·simp [c,e1,u5x,-u0p,-u0g,-Res.bind_ok,-L2.go_ok,-Out.then_nx,bindN,goN,thenN]
  generalize hI:forD _ _ _ _=o
  have q:Qru o:=by
   rw [← hI]
   refine u8X (Sru _ _ _ hs ss) Qru ?_ ?_ (sh.map shD) _ ⟨sh,[],none,none,none,rfl,rfl,by simp;omega,by simp;omega,l3,fun p h=>(nomatch h)⟩
   ·rintro ρ ⟨sh,rs,a,b,c,rfl,e,h1,h2,h3,h4⟩
    cases sh with
    | cons p sh=>cases e
    | nil=>exact ⟨_,rs,rfl,rfl,by simpa using h2,by simpa using h1,h4⟩
   ·rintro d ds ρ ⟨sh,rs,a,b,c,rfl,e,h1,h2,h3,h4⟩
    cases sh with
    | nil=>cases e
    | cons p sh =>
     cases e
     obtain ⟨x,xs⟩:=p
     obtain ⟨k1,k2,k3⟩:=h3 _ List.mem_cons_self
     have k2:xs.length≤3:=k2
     have k1:x<3:=k1
     refine ⟨_,rfl,.inl ?_⟩
     obtain ⟨z,hz,s2⟩:=u2v (c:=D.str) (rs:=hs) (i:=x) (by omega)
     have hxl:xs.length≤sizeLine:=Nat.le_trans k2 (by decide)
     have hsz:rs.length<sizeLine:=Nat.lt_of_le_of_lt (show rs.length≤1000 by omega) (by decide)
     simp [hxl,-u0p,-u0g,-Res.bind_ok,-L2.go_ok,-Out.then_nx,bindN,goN,thenN]
     generalize hC:compD _ _ _ _ _=oc
     have qc:∃ ys,oc=.ok ys∧ys.length=(xs.map dN).length∧∀ y∈ys,∃ b,y=D.str b∧(okH b=true∨okG b=true):=by
      rw [← hC]
      refine u1u fun d hd=>?_
      obtain ⟨t,ht,rfl⟩:=List.mem_map.mp hd
      obtain ⟨b,t2,hb⟩:=p_symb t hs ss lh ls (k3 t ht)
      refine ⟨_,.str b,rfl,by simp,?_,b,rfl,?_⟩
      ·simp [rhoC,t2,-u0p,-u0g,-Res.bind_ok,-L2.go_ok,-Out.then_nx,bindN,goN,thenN]
      ·rcases hb with h | h
       ·exact .inl (hh b h)
       ·exact .inr (hg b h)
     obtain ⟨ys,rfl,hy1,hy2⟩:=qc
     obtain ⟨bs,rfl,hb2⟩:=pull hy2
     have hbl:bs.length≤4:=by simpa using (show (bs.map D.str).length≤4 by rw [hy1];simp;omega)
     have v:VR (z,bs):=u7O (hh _ hz) hbl hb2
     have g1:gTuple [dS bs]=.ok (.tup (bs.map D.str)):=rfl
     refine ⟨_,by simp [g1,s2,u0u,hsz,-u0p,-u0g,-Res.bind_ok,-L2.go_ok,-Out.then_nx,bindN,goN,thenN];rfl,sh,rs++[(z,bs)],_,_,_,by simp [rT];exact ⟨rfl,rfl,rfl⟩,rfl,by simp at h1 ⊢;omega,by simp;omega,fun p hp=>h3 p (List.mem_cons_of_mem _ hp),fun p hp=>?_⟩
     rcases List.mem_append.mp hp with h | h
     ·exact h4 p h
     ·rw [List.mem_singleton.mp h];exact v
  obtain ⟨ρ,rs,rfl,g,h1,h2,h3⟩:=q
  exact ⟨rs,by simp [g],h1,h2,h3⟩
 ·obtain ⟨j,ej,hj⟩:=modZ (d0:Int) (b:=3) (by omega)
  have s1:dMod (dN d0) (.int 3)=.ok (dN j):=by rw [u0C (by omega),ej]
  have s3:dDiv (dN d0) (.int 3)=.ok (.int ((d0:Int) / 3)):=u4l (by omega) (by omega)
  obtain ⟨j2,ej2,hj2⟩:=modZ ((d0:Int) / 3) (b:=3) (by omega)
  have s4:dMod (.int ((d0:Int) / 3)) (.int 3)=.ok (dN j2):=by rw [u0C (by omega),ej2]
  have s5:dDiv (dN d0) (.int 9)=.ok (.int ((d0:Int) / 9)):=u4l (by omega) (by omega)
  obtain ⟨j3,ej3,hj3⟩:=modZ ((d0:Int) / 9) (b:=4) (by omega)
  have s6:dMod (.int ((d0:Int) / 9)) (.int 4)=.ok (dN j3):=by rw [u0C (by omega),ej3]
  obtain ⟨hs2,lh2,mh2,eh2⟩:∃ hs2:List Str,hs2.length=1+j∧(∀ z∈hs2,z∈hs)∧dSl (dS hs) none (some (1+(j:Int)))=.ok (dS hs2):=⟨cutC hs none (some ((1+j:Nat):Int)),take3 hs (by omega) (by omega),fun z hz=>u3Y hz,by show Res.ok (D.lst (cutC (hs.map D.str) none (some ((1+j:Nat):Int))))=_;rw [u5g]⟩
  obtain ⟨ss2,ls2,ms2,es2⟩:∃ ss2:List Str,ss2.length=1+j2∧(∀ z∈ss2,z∈ss)∧dSl (dS ss) none (some (1+(j2:Int)))=.ok (dS ss2):=⟨cutC ss none (some ((1+j2:Nat):Int)),take3 ss (by omega) (by omega),fun z hz=>u3Y hz,by show Res.ok (D.lst (cutC (ss.map D.str) none (some ((1+j2:Nat):Int))))=_;rw [u5g]⟩
  obtain ⟨rs,e,h1,h2,h3⟩:=p_drawn ns (i+1) hs2 ss2 j3 (by omega) (by omega) (by omega) (by omega) (fun z hz=>hh z (mh2 z hz)) (fun z hz=>hg z (ms2 z hz))
  have e':G_law_drawn_rules [scr ns,.int ((i:Int)+1),dS hs2,dS ss2,dN j3]=.ok (dR rs):=e
  refine ⟨rs,?_,h1,h2,h3⟩
  simp [c,u5x,s1,s3,s4,s5,s6,asI,eh2,es2,e',-u0p,-u0g,-Res.bind_ok,-L2.go_ok,-Out.then_nx,bindN,goN,thenN]
end
structure RuD (d:D):Prop where
 g:goodD d=true
 dp:depD d≤20
 pl:∀ p,asRule d=some p→∀ b∈p.2,sgnS b=true→b∈POOL
structure RkD (d:D):Prop where
 g:goodD d=true
 dp:depD d≤20
 rk:rkOk d=true
theorem u3n:∀ {ds:List D},(∀ d∈ds,goodD d=true)→goodDs ds=true
 | [],_=>rfl
 | d::ds,h=>by
  rw [goodDs,h d List.mem_cons_self,u3n fun x hx=>h x (List.mem_cons_of_mem _ hx)]
  rfl
theorem u7s {n:Nat}:∀ {ds:List D},(∀ d∈ds,depD d≤n)→depDs ds≤n
 | [],_=>Nat.zero_le _
 | d::ds,h=>by
  rw [depDs]
  exact Nat.max_le.mpr ⟨h d List.mem_cons_self,u7s fun x hx=>h x (List.mem_cons_of_mem _ hx)⟩
theorem u5J {bs:List Str} (h:∀ b∈bs,goodS b=true):goodDs (bs.map D.str)=true:=u3n fun d hd=>by
 obtain ⟨b,hb,rfl⟩:=List.mem_map.mp hd
 exact h b hb
theorem u7t (bs:List Str):depDs (bs.map D.str)≤0:=u7s fun d hd=>by
 obtain ⟨b,hb,rfl⟩:=List.mem_map.mp hd
 exact Nat.le_refl 0
theorem rT_inj {p q:RR} (h:rT p=rT q):p=q:=by
 obtain ⟨a,as⟩:=p
 obtain ⟨b,bs⟩:=q
 simp only [rT,D.tup.injEq,List.cons.injEq,D.str.injEq,and_true] at h
 rw [h.1,(List.map_inj_right (fun x y e=>D.str.inj e)).mp h.2]
theorem u8T {a b:D} (h:goodD a=true) (k:goodD b=true):goodD (.tup [a,b])=true:=by
 show goodDs [a,b]=true
 simp [goodDs,h,k]
theorem u9K {p:RR} (h:VR p):RuD (rT p) where
 g:=u8T h.1.gh (u5J h.1.gs)
 dp:=by
  have:=u7t p.2
  simp [rT,depD,depDs]
  omega
 pl q e:=by
  rw [rT_inj (u5k e).1] at h
  exact h.2
theorem v2q {z:Str}{bs:List Str} (h:goodS z=true) (hb:∀ b∈bs,goodS b=true):RkD (.tup [.str z,.tup (bs.map D.str)]) where
 g:=u8T h (u5J hb)
 dp:=by
  have:=u7t bs
  simp [depD,depDs]
  omega
 rk:=by
  have:PyData.strOk z=true:=by
   unfold goodS at h
   exact (Bool.and_eq_true_iff.mp h).1
  show isOkR (cmpD (.str z))=true
  rw [u2B this]
  rfl
noncomputable def RkDs (ks:List D):Prop:=∀ d∈ks,RkD d
noncomputable def RuDs (ks:List D):Prop:=∀ d∈ks,RuD d
theorem v0I {rs:List RR} (h:VRs rs):RuDs (rs.map rT):=fun d hd=>by
 obtain ⟨p,hp,rfl⟩:=List.mem_map.mp hd
 exact u9K (h p hp)
theorem u3e {a b:List D} (h:RuDs a) (k:RuDs b):RuDs (a++b):=fun d hd=>by
 rcases List.mem_append.mp hd with q | q
 ·exact h d q
 ·exact k d q
theorem u3s {a b:List D} (h:RkDs a) (k:RkDs b):RkDs (a++b):=fun d hd=>by
 rcases List.mem_append.mp hd with q | q
 ·exact h d q
 ·exact k d q
theorem u6a {a:List D} (h:RuDs a) (lo hi:Option Int):RuDs (cutC a lo hi):=fun d hd=>h d (u3Y hd)
theorem v0M {a:List D} (h:RkDs a) (lo hi:Option Int):RkDs (cutC a lo hi):=fun d hd=>h d (u3Y hd)
theorem u5Z {d:D} (h:RuD d):RuDs [d]:=fun x hx=>by rw [List.mem_singleton.mp hx];exact h
theorem u8c {d:D} (h:RkD d):RkDs [d]:=fun x hx=>by rw [List.mem_singleton.mp hx];exact h
theorem u7v {α:Type} (xs:List α) {n:Nat} (h:n≤xs.length):(cutC xs none (some (n:Int))).length=n:=by
 unfold cutC
 rw [HT.sIx_none,HT.sIx_nat,List.length_take,List.length_drop]
 omega
theorem v1R {α:Type} (xs:List α) {n:Nat} (h:n≤xs.length):(cutC xs (some (n:Int)) none).length=xs.length - n:=by
 unfold cutC
 rw [HT.sIx_none,HT.sIx_nat,List.length_take,List.length_drop]
 omega
theorem sgs_few {rs:List RR} (h:VRs rs):(sgL [] rs).length<64:=by
 have:=v0z (pool:=POOL) (v3l (rs:=rs) (ss:=[]) (by simp)) (u7T (P:=fun z=>z∈POOL) (fun z hz=>(nomatch hz)) fun p hp b hb s=>(h p hp).2 b hb s)
 exact Nat.lt_of_le_of_lt this (by decide)
theorem vrs_of {ds:List D} (h:RuDs ds) (hr:∀ d∈ds,ruleD d=true):∃ rs:List RR,ds=rs.map rT∧VRs rs:=by
 refine pull (c:=rT) (p:=VR) fun d hd=>?_
 obtain ⟨p,e,rfl⟩:=u2Y (hr d hd)
 exact ⟨p,rfl,u8H (hr _ hd) (h _ hd).g,(h _ hd).pl p e⟩
theorem u4A {ds:List D} (h:RuDs ds):Hand (.lst ds) where
 g:=u3n fun d hd=>(h d hd).g
 dp:=by
  have:=u7s fun d hd=>(h d hd).dp
  show depDs ds+1≤50
  omega
 few e:=by
  have g:goodD (.lst ds)=true:=u3n fun d hd=>(h d hd).g
  obtain ⟨e1,l1,l2,ok⟩:=u2V e g
  refine ⟨ok,l2,sgs_few fun p hp=>⟨ok p hp,?_⟩⟩
  obtain ⟨d,hd,ed⟩:=List.mem_filterMap.mp hp
  exact (h d hd).pl p ed
theorem u4V {d:D} (g:goodD d=true) (dp:depD d≤50) (h:∀ ds,d≠.lst ds):Hand d where
 g:=g
 dp:=dp
 few e:=by
  cases d with
  | lst ds=>exact absurd rfl (h ds)
  | _=>cases e
theorem v1t {ds:List D} (h:RkDs ds):HandK (.lst ds) where
 g:=u3n fun d hd=>(h d hd).g
 dp:=by
  have:=u7s fun d hd=>(h d hd).dp
  show depDs ds+1≤50
  omega
 rk:=by
  rintro xs (e | e) x hx
  ·cases e;exact (h x hx).rk
  ·cases e
theorem u3F {ds:List D} (h:RkDs ds):HandK (.tup ds) where
 g:=u3n fun d hd=>(h d hd).g
 dp:=by
  have:=u7s fun d hd=>(h d hd).dp
  show depDs ds+1≤50
  omega
 rk:=by
  rintro xs (e | e) x hx
  ·cases e
  ·cases e;exact (h x hx).rk
noncomputable def ODD:List D:=[.non,.tup [.str "A"],.lst [.str "A",.tup [.str "a"]],.tup [.str "A",.lst [.str "a"]],.tup [.str "a",.tup [.str "b"]],.tup [.str "A",.tup [.str "a",.str "a",.str "a",.str "a",.str "a"]],.tup [.str "A",.tup [.str "$"]],
 .tup [.str "Abcdefg",.tup []],.tup [.str "A",.tup [.str ""]],.tup [.str "A",.tup [.int 7]],.tup [.str "A",.str "ab"],.tup [.bl true,.tup []],.dct [],.tup [.str "A",.tup [.str "A "]],
 .tup [.str "A",.tup [],.int 1],.int 0,.tup [],.tup [.str "Aa",.tup [.non]],.tup [.str "A",.tup [.lst [.str "a"]]],.tup [.lst [],.tup [.str "a"]],.tup [.str "A",.tup [.dct []]],.lst [.lst []]]
theorem odd_dec:∀ d∈ODD,goodD d=true∧depD d≤20∧(asRule d).isNone=true:=by decide +kernel
theorem odd_ok {d:D} (h:d∈ODD):RuD d:=by
 obtain ⟨a,b,c⟩:=odd_dec d h
 refine ⟨a,b,fun p e=>?_⟩
 rw [e] at c
 cases c
noncomputable abbrev Odd (G:List D→Res D):Prop:=∀ n:Nat,∃ d,G [dN n]=.ok d∧RuD d
noncomputable abbrev Ranks (G:List D→Res D):Prop:=∀ (ns:List Int) (i:Nat),∃ ks:List D,G [scr ns,dN i]=.ok (.lst ks)∧ks.length≤6∧RkDs ks
noncomputable def SrkL (a0 a1:Option Sl) (ds:List Nat) (pool:List Str) (k:Nat) (ρ:Rho):Prop:=∃ (ks:List D) (a b:Option Sl),ρ=[a0,a1,some (.val (.lst (ds.map dN))),some (.val (dS pool)),some (.own (.l ks)),a,b]∧ks.length=k∧RkDs ks
noncomputable def QrkL (o:Out):Prop:=∃ (ρ:Rho) (ks:List D),o=.nx ρ∧getV (frz ρ) 4=.ok (.lst ks)∧ks.length≤6∧RkDs ks
noncomputable def SIDE:List Str:=["left","right","none"]
theorem v0D:∀ z∈SIDE,goodS z=true:=by decide +kernel
section
variable {P:Program}{w:World}{K:PySem.W.Frag}{mg:Str→Option Value}{base:Heap}{f:Addr}{fd:FuncData}{A:Adr}
theorem u4K (F:Fun K "_law_odd_rule" "_law_odd_rule" u1i f fd) (T:Txt K mg A):∃ G,FnOk P w K mg base CX0 1 f fd ["_law_kind"] (spF K G)∧Odd G:=by
 refine ⟨_,F.okT (k:=0) u1J (fun cdv Ar outer s H E hr=>u0d (ds_n u1J.nd (u0H (u0a u2W (u0a (u0f (u0a u0i u0b)) (u0a (u0H (u0a u0i (u0a (u0f (u0a u0i u0b)) u0b))) (u0a (u0f (u0a u0i (u0a (u0H (u0a u0i u0b)) u0b))) (u0a (u0f (u0a u0i (u0a (u0f (u0a u0i u0b)) u0b))) (u0a (u0f (u0a u0i (u0a (d_op u1H (u0f (u0a u0i u0b)) u0c) u0b))) (u0a (u0f (u0a u0i (u0a (u0f (u0a u0i u0b)) u0b))) u0b)))))))))
  (u0d (ds_n u1J.nd (d_op u0P (dv 1) (u0H (u0a (u0f (u0a u0i (u0a (u0f u0b) u0b))) (u0a (u0f (u0a u0i (u0a (u0f (u0a u0i u0b)) u0b))) (u0a (u0f (u0a u0i (u0a (u0f (u0a u0c u0b)) u0b))) (u0a (u0f (u0a u0i (u0a u0i u0b))) (u0a (u0f (u0a d_bl (u0a (u0f u0b) u0b))) (u0a (DN.de u5e) (u0a (u0f (u0a u0i (u0a (u0f (u0a u0i u0b)) u0b))) u0b))))))))))
  (u0d (ds_n u1J.nd (d_op u0P (dv 1) (u0H (u0a (u0f (u0a u0i (u0a (u0f u0b) (u0a u0c u0b)))) (u0a u0c (u0a (u0f u0b) (u0a (u0f (u0a u0i (u0a (u0f (u0a u2W u0b)) u0b))) (u0a (u0f (u0a u0i (u0a (u0f (u0a (u0H (u0a u0i u0b)) u0b)) u0b))) (u0a (u0f (u0a (u0H u0b) (u0a (u0f (u0a u0i u0b)) u0b))) (u0a (u0f (u0a u0i (u0a (u0f (u0a (DN.de u5e) u0b)) u0b))) (u0a (u0H (u0a (u0H u0b) u0b)) u0b)))))))))))
  (u0e (u0h (d_ix x_ix (dv 1) (d_op u1k (dv 0) u0c))))))),?_⟩
 intro n
 obtain ⟨j,ej,hj⟩:=modZ (n:Int) (b:=22) (by omega)
 have s1:dMod (dN n) (.int 22)=.ok (dN j):=by rw [u0C (by omega),ej]
 obtain ⟨d,hd,s2⟩:=u2v (c:=id) (rs:=ODD) (i:=j) (by show j<22;omega)
 rw [List.map_id] at s2
 refine ⟨d,?_,odd_ok hd⟩
 have m1:dMulX (.tup [.str "a"]) (.int 5)=.ok (.tup [.str "a",.str "a",.str "a",.str "a",.str "a"]):=by
  show gd _ _=_
  rw [u0K (by decide)]
  rfl
 have a1:∀ x y:List D,x.length+y.length≤1000→dAdd (.lst x) (.lst y)=.ok (.lst (x++y)):=fun _ _ h=>u2t h
 simp [runT,startD,s1,m1,a1,-u0p,-u0g,-Res.bind_ok,-L2.go_ok,-Out.then_nx,bindN,goN,thenN]
 refine Eq.trans (congrArg (fun r=>noE (outR ((noE r).go _ fun d=>Out.rt d))) s2) ?_
 rfl
theorem u6O {G_law_row:List D→Res D} (c__law_row:Callee P w K mg base 2 "_law_row" ["_law_script","_law_at","_law_base","_law_count"] (spF K G_law_row)) {G_law_signs:List D→Res D} (c__law_signs:Callee P w K mg base 1 "_law_signs" ["_law_cell_here","_law_many"] (spF K G_law_signs)) (p_row:Row G_law_row) (p_signs:Signs G_law_signs) (F:Fun K "_law_ranks" "_law_ranks" u1O f fd) (T:Txt K mg A):∃ G,FnOk P w K mg base CX0 3 f fd ["_law_script","_law_at"] (spF K G)∧Ranks G:=by
 refine ⟨_,F.okT (k:=2) u1D (fun cdv Ar outer s H E hr=>u0d (ds_n u1D.nd (d_fn c__law_row hr (u0a (dv 0) (u0a (dv 1) (u0a (d_op u1H (d_op u1H u0c u0c) u0c) (u0a u0c u0b))))))
  (u0d (ds_n u1D.nd (d_fn c__law_signs hr (u0a (d_ix x_ix (dv 2) u0c) (u0a u0c u0b))))
  (u0d (u2O u1D.nd (u5c u0b))
  (u0d (u1L rfl (u0Q T.z_range (u0a (d_op u1k (d_ix x_ix (dv 2) u0c) u0c) u0b)) (dg_n u1D.nd)
  (u0d (ds_n u1D.nd (d_ix x_ix (u0H (u0a u0i (u0a u0i (u0a u0i u0b)))) (d_op u1k (d_ix x_ix (dv 2) (d_op u0P u0c (dv 5))) u0c)))
   (u0e (u1W 4 (u0f (u0a (dv 6) (u0a (d_T u1T T.z_tuple (by decide +kernel) (u0a (d_sl (dv 3) (u1w (d_op u1H u0c (dv 5))) (u1w (d_op u0P (d_op u0P (d_op u1H u0c (dv 5)) u0c) (d_op u1k (d_op u6X (d_ix x_ix (dv 2) (d_op u0P u0c (dv 5))) u0c) u0c)))) u0b)) u0b)))))))
  (u0e (u0h (dv 4))))))),?_⟩
 intro ns i
 obtain ⟨ds,er,hl,hd⟩:=p_row ns i 756 8 (by omega) (by omega) (by omega)
 have er':G_law_row [scr ns,dN i,.int 756,.int 8]=.ok (.lst (ds.map dN)):=er
 have m1:dMulX (.int 18) (.int 7)=.ok (.int 126):=u2Z (by omega)
 have m2:dMulX (.int 126) (.int 6)=.ok (.int 756):=u2Z (by omega)
 have x0:dIx (.lst (ds.map dN)) (.int 0)=.ok (dN (ds[0]'(by omega))):=ix_m (i:=0) (by omega)
 have x1:dIx (.lst (ds.map dN)) (.int 1)=.ok (dN (ds[1]'(by omega))):=ix_m (i:=1) (by omega)
 obtain ⟨pool,es,ls,hg⟩:=p_signs (ds[0]'(by omega)) 18 (by omega)
 have es':G_law_signs [dN (ds[0]'(by omega)),.int 18]=.ok (dS pool):=es
 obtain ⟨m,em,hm⟩:=modZ (ds[1]'(by omega):Int) (b:=7) (by omega)
 have s1:dMod (dN (ds[1]'(by omega))) (.int 7)=.ok (dN m):=by rw [u0C (by omega),em]
 simp [runT,startD,m1,m2,er',x0,x1,es',s1,v0K (show m≤1000 by omega),-u0p,-u0g,-Res.bind_ok,-L2.go_ok,-Out.then_nx,bindN,goN,thenN]
 generalize hI:forD _ _ _ _=o
 have q:QrkL o:=by
  rw [← hI]
  refine u3o (SrkL _ _ ds pool) QrkL ⟨[],none,none,rfl,rfl,fun p h=>(nomatch h)⟩ ?_ ?_
  ·rintro ρ ⟨ks,a,b,rfl,h1,h2⟩
   exact ⟨_,ks,rfl,rfl,by omega,h2⟩
  ·rintro k ρ hk ⟨ks,a,b,rfl,h1,h2⟩
   refine ⟨_,rfl,.inl ?_⟩
   have hx:2+k<ds.length:=by omega
   have x2:dIx (.lst (ds.map dN)) (.int (2+(k:Int)))=.ok (dN (ds[2+k]'hx)):=ix_m (i:=2+k) hx
   generalize ds[2+k]'hx=y at x2
   obtain ⟨t,et,ht⟩:=modZ (y:Int) (b:=3) (by omega)
   have t1:dMod (dN y) (.int 3)=.ok (dN t):=by rw [u0C (by omega),et]
   obtain ⟨z,hz,t2⟩:=u2v (c:=D.str) (rs:=SIDE) (i:=t) (by show t<3;omega)
   have t2':dIx (.lst [.str "left",.str "right",.str "none"]) (dN t)=.ok (.str z):=t2
   have t3:dDiv (dN y) (.int 3)=.ok (.int ((y:Int) / 3)):=u4l (by omega) (by omega)
   have t4:dMod (.int ((y:Int) / 3)) (.int 3)=.ok (.int ((y:Int) / 3%3)):=u0C (by omega)
   have t5:dMulX (.int 3) (.int (k:Int))=.ok (.int (3*(k:Int))):=u2Z (by omega)
   obtain ⟨bs,hb,t6⟩:∃ bs:List Str,(∀ b∈bs,b∈pool)∧dSl (dS pool) (some (3*(k:Int))) (some (3*(k:Int)+1+(y:Int) / 3%3))=.ok (dS bs):=⟨cutC pool (some (3*(k:Int))) (some (3*(k:Int)+1+(y:Int) / 3%3)),fun b hb=>u3Y hb,by show Res.ok (D.lst (cutC (pool.map D.str) (some (3*(k:Int))) (some (3*(k:Int)+1+(y:Int) / 3%3))))=_;rw [u5g]⟩
   have g1:gTuple [dS bs]=.ok (.tup (bs.map D.str)):=rfl
   have hsz:ks.length<sizeLine:=Nat.lt_of_le_of_lt (show ks.length≤1000 by omega) (by decide)
   refine ⟨_,by simp [x2,t1,t2',t3,t4,t5,t6,asI,g1,u0u,hsz,-u0p,-u0g,-Res.bind_ok,-L2.go_ok,-Out.then_nx,bindN,goN,thenN];exact ⟨rfl,rfl⟩,ks++[.tup [.str z,.tup (bs.map D.str)]],_,_,rfl,by simp [h1],u3s h2 (u8c (v2q (v0D z hz) fun b h=>(u8m (hg b (hb b h))).2.1))⟩
 obtain ⟨ρ,ks,rfl,g,h1,h2⟩:=q
 exact ⟨ks,by simp [g],h1,h2⟩
end
noncomputable abbrev More (G:List D→Res D):Prop:=∀ (rs:List RR) (m:Nat),VRs rs→1≤rs.length→rs.length≤100→m≤22→∃ rs':List RR,G [dR rs,dN m]=.ok (dR rs')∧VRs rs'∧1≤rs'.length∧rs'.length≤max rs.length 22
noncomputable def Smo (rs:List RR) (m:Nat) (k:Nat) (ρ:Rho):Prop:=∃ (us:List RR) (a b c:Option Sl),ρ=[some (.val (dR rs)),some (.val (dN m)),some (.own (.l (us.map rT))),a,b,c]∧VRs us∧1≤us.length∧us.length≤max rs.length 22
noncomputable def Qmo (rs:List RR) (o:Out):Prop:=∃ (ρ:Rho) (us:List RR),o=.nx ρ∧getV (frz ρ) 2=.ok (dR us)∧VRs us∧1≤us.length∧us.length≤max rs.length 22
theorem bits_ok:∀ k:Nat,k<24→∀ j:Nat,j<4→Builtin.bitAnd ((k:Int) / 2^j) 1=0∨Builtin.bitAnd ((k:Int) / 2^j) 1=1:=by decide +kernel
theorem ab_ok:okG "a"=true∧okG "b"=true:=by decide +kernel
theorem shr_ii {i j:Int} (h:0≤j):dShr (.int i) (.int j)=.ok (.int (i / 2^j.toNat)):=if_pos h
theorem vr_head {h:Str}{bs cs:List Str} (o:VR (h,bs)) (hl:cs.length≤4) (hb:∀ b∈cs,okG b=true):VR (h,cs):=by
 refine ⟨⟨o.1.h,hl,fun b m=>?_,o.1.gh,fun b m=>?_⟩,fun b m s=>?_⟩
 ·rw [(u8m (hb b m)).1];rfl
 ·exact (u8m (hb b m)).2.1
 ·exact (u8m (hb b m)).2.2
section
variable {P:Program}{w:World}{K:PySem.W.Frag}{mg:Str→Option Value}{base:Heap}{f:Addr}{fd:FuncData}{A:Adr}
theorem u3O (F:Fun K "_law_more_rules" "_law_more_rules" u0G f fd) (T:Txt K mg A):∃ G,FnOk P w K mg base CX0 1 f fd ["_law_rules_here","_law_many"] (spF K G)∧More G:=by
 refine ⟨_,F.okT (k:=0) u0T (fun cdv Ar outer s H E hr=>u0d (u2O u0T.nd (u8s T.z_list (u0a (dv 0) u0b)))
  (u0d (u1L rfl (u0Q T.z_range (u0a u0c u0b)) (dg_n u0T.nd)
  (u0d (u6q ["_law_j"] [3] rfl (u0v (sc:=defScope u0G) (N:=["_law_rules_here","_law_many","_law_found","_law_k","_law_bits","_law_rule"]) (by decide +kernel)) u0T.nd (u0Q T.z_range (u0a u0c u0b)) (dg_n (show (["_law_j","_law_k"]:List Str).Nodup by decide +kernel)) u2a (d_ix x_ix (u0H (u0a u0i (u0a u0i u0b))) (d_op o_band (d_op o_shr (dv 1) (dv 0)) u0c)))
   (u0d (ds_n u0T.nd (u0f (u0a (d_ix x_ix (d_ix x_ix (dv 0) u0c) u0c) (u0a (d_T u1T T.z_tuple (by decide +kernel) (u0a (d_sl (dv 4) u1Z (u1w (d_op v0W u0c (d_T c_int T.z_int (by decide +kernel) (u0a (u3c o_gt (dv 3) u0c) u0b))))) u0b)) u0b))))
   (u0e (u0y (dt_w (u3p (u0n (u2R (hu100 hr)) (dv 5) (dv 2)) (u2U (u0n o_lt (d_B u1o T.z_len (by decide +kernel) (u0a (dv 2) u0b)) (dv 1))))) (u0e (u1W 2 (dv 5))) u0l)))))
  (u0e (u0h (dv 2))))),?_⟩
 intro rs m hv h1 hl hm
 have r1:rng1 [.int 24]=.ok (intL 0 24):=u3f (n:=24) _ rfl (by omega)
 have r2:rng1 [.int 4]=.ok (intL 0 4):=u3f (n:=4) _ rfl (by omega)
 have sq:seqOf [dR rs]=.ok (.l (rs.map rT)):=by
  rfl
 simp [runT,startD,r1,sq,-u0p,-u0g,-Res.bind_ok,-L2.go_ok,-Out.then_nx,bindN,goN,thenN]
 generalize hI:forD _ _ _ _=o
 have q:Qmo rs o:=by
  rw [← hI]
  refine u3o (Smo rs m) (Qmo rs) ⟨rs,none,none,none,rfl,hv,h1,by omega⟩ ?_ ?_
  ·rintro ρ ⟨us,a,b,c,rfl,k1,k2,k3⟩
   exact ⟨_,us,rfl,rfl,k1,k2,k3⟩
  ·rintro k ρ hk ⟨us,a,b,c,rfl,k1,k2,k3⟩
   refine ⟨_,rfl,.inl ?_⟩
   have hd4:(intL 0 4).length≤sizeLine:=by rw [u1l];decide
   simp [r2,hd4,-u0p,-u0g,-Res.bind_ok,-L2.go_ok,-Out.then_nx,bindN,goN,thenN]
   generalize hC:compD _ _ _ _ _=oc
   have qc:∃ ys,oc=.ok ys∧ys.length=(intL 0 4).length∧∀ y∈ys,∃ b,y=D.str b∧okG b=true:=by
    rw [← hC]
    refine u1u fun d hd=>?_
    obtain ⟨j,hj,rfl⟩:=u2w hd
    have t1:dShr (.int (k:Int)) (.int (j:Int))=.ok (.int ((k:Int) / 2^j)):=by rw [shr_ii (by omega),Int.toNat_natCast]
    have t2:dBand (.int ((k:Int) / 2^j)) (.int 1)=.ok (.int (Builtin.bitAnd ((k:Int) / 2^j) 1)):=rfl
    rcases bits_ok k hk j hj with e | e
    ·rw [e] at t2
     exact ⟨_,.str "a",rfl,by simp,by simp [rhoC,t1,t2,u5x,-v3x,-u0p,-u0g,-Res.bind_ok,-L2.go_ok,-Out.then_nx,bindN,goN,thenN],"a",rfl,ab_ok.1⟩
    ·rw [e] at t2
     exact ⟨_,.str "b",rfl,by simp,by simp [rhoC,t1,t2,v1j,-v3x,-u0p,-u0g,-Res.bind_ok,-L2.go_ok,-Out.then_nx,bindN,goN,thenN],"b",rfl,ab_ok.2⟩
   obtain ⟨ys,rfl,hy1,hy2⟩:=qc
   obtain ⟨bs,rfl,hb2⟩:=pull hy2
   rw [u1l,List.length_map] at hy1
   obtain ⟨p,ps,rfl⟩:∃ p ps,rs=p::ps:=by
    cases rs with
    | nil=>simp at h1
    | cons p ps=>exact ⟨p,ps,rfl⟩
   have i2:dIx (dR (p::ps)) (.int 0)=.ok (rT p):=u5x _ _
   have i3:dIx (rT p) (.int 0)=.ok (.str p.1):=ix_0 _ _
   obtain ⟨x,hx⟩:∃ x:Int,(if (15:Int)<(k:Int) then (1:Int) else 0)=x:=⟨_,rfl⟩
   have g0:gInt [.bl (decide ((15:Int)<(k:Int)))]=.ok (.int x):=by
    rw [← hx]
    by_cases c:(15:Int)<(k:Int)
    ·simp [gInt,c]
    ·simp [gInt,c]
   obtain ⟨cs,hc1,hc2,t6⟩:∃ cs:List Str,cs.length≤4∧(∀ b∈cs,b∈bs)∧dSl (dS bs) none (some (4 - x))=.ok (dS cs):=⟨cutC bs none (some (4 - x)),by have:=v3y bs none (some (4 - x));omega,fun b hb=>u3Y hb,by show Res.ok (D.lst (cutC (bs.map D.str) none (some (4 - x))))=_;rw [u5g]⟩
   have g1:gTuple [dS cs]=.ok (.tup (cs.map D.str)):=rfl
   have v:VR (p.1,cs):=vr_head (h:=p.1) (bs:=p.2) (hv p List.mem_cons_self) hc1 fun b hb=>hb2 b (hc2 b hb)
   have nn:=u3w v k1
   have hsz:us.length<sizeLine:=Nat.lt_of_le_of_lt (show us.length≤1000 by omega) (by decide)
   by_cases cm:(p.1,cs)∈us
   ·refine ⟨_,by simp [i2,i3,g0,asI,t6,g1,nn,cm,u0u,-u0p,-u0g,-Res.bind_ok,-L2.go_ok,-Out.then_nx,bindN,goN,thenN];exact ⟨rfl,rfl,rfl⟩,us,_,_,_,rfl,k1,k2,k3⟩
   ·by_cases cl:us.length<m
    ·refine ⟨_,by simp [i2,i3,g0,asI,t6,g1,nn,cm,cl,u0u,hsz,-u0p,-u0g,-Res.bind_ok,-L2.go_ok,-Out.then_nx,bindN,goN,thenN];rfl,us++[(p.1,cs)],_,_,_,by simp [rT];exact ⟨rfl,rfl,rfl⟩,?_,by simp,by simp;omega⟩
     intro q hq
     rcases List.mem_append.mp hq with h | h
     ·exact k1 q h
     ·rw [List.mem_singleton.mp h];exact v
    ·refine ⟨_,by simp [i2,i3,g0,asI,t6,g1,nn,cm,cl,u0u,-u0p,-u0g,-Res.bind_ok,-L2.go_ok,-Out.then_nx,bindN,goN,thenN];exact ⟨rfl,rfl,rfl⟩,us,_,_,_,rfl,k1,k2,k3⟩
 obtain ⟨ρ,us,rfl,g,h1,h2,h3⟩:=q
 exact ⟨us,by simp [g],h1,h2,h3⟩
end
noncomputable abbrev Faulty (G:List D→Res D):Prop:=∀ (rs:List RR) (way i kind:Nat),VRs rs→i<rs.length→rs.length<64→∃ ds:List D,G [dR rs,dN way,dN i,dN kind]=.ok (.lst ds)∧RuDs ds∧1≤ds.length∧ds.length≤max rs.length 22+9
theorem v0L {j:Int} (h1:-1000≤j) (h2:j≤1000):rng1 [.int j]=.ok (intL 0 j.toNat):=by
 show gd _ _=_
 rw [u0K (by omega)]
noncomputable def numS (k:Nat):Str:=(toString (k:Int):Str)
theorem num_ok:∀ k:Nat,k<30→((k:Int).natAbs.log2<1920∧(numS k).length≤600):=by decide +kernel
theorem v0A {k:Nat} (h:k<30):strI (dN k)=.ok (numS k):=u0K (num_ok k h)
theorem gstr_k {k:Nat} (h:k<30):gStrI [dN k]=.ok (.str (numS k)):=by
 show (strI (dN k)).bind _=_
 rw [v0A h]
 rfl
theorem n_ok:∀ k,k<10→okH ("N"++numS k++"n")=true:=by decide +kernel
theorem s_ok:∀ k,k<3→∀ j,j<4→okG ("s"++(numS k++("s"++(numS j++Str.empty))))=true:=by decide +kernel
theorem s_len:∀ k,k<3→∀ j,j<4→("s"++(numS k++("s"++(numS j++Str.empty)))).length≤10:=by decide +kernel
theorem n_len:∀ k,k<10→(numS k).length≤10:=by decide +kernel
theorem z_ok:okH "Zz9"=true∧okH "Q0q"=true∧okH "Zz8"=true∧okH "Zz7"=true∧okH "Ss1"=true:=by decide +kernel
theorem vz9:VR ("Zz9",["Q0q"]):=u7O z_ok.1 (by decide) fun b hb=>.inl (by rw [List.mem_singleton.mp hb];exact z_ok.2.1)
theorem vz8:VR ("Zz8",["a","Zz7"]):=u7O z_ok.2.2.1 (by decide) fun b hb=>by
 rcases List.mem_cons.mp hb with rfl | hb
 ·exact .inr ab_ok.1
 ·rw [List.mem_singleton.mp hb];exact .inl z_ok.2.2.2.1
theorem sl_lst (ds:List D) (lo hi:Option Int):dSl (.lst ds) lo hi=.ok (.lst (cutC ds lo hi)):=rfl
theorem v2Z {ss:List Str} (h:ss.length<64):gLS (.lst (ss.map D.str))=.ok (dN (setOfT ss).length):=by
 show (match strsOf (ss.map D.str) with | some ss=>gd (ss.length<64) (Res.ok (D.int ((setOfT ss).length:Nat))) | none=>.bad)=_
 rw [u3L]
 exact u0K h
theorem mul_l {ds:List D}{m:Nat} (h:m<2) (hl:ds.length≤10):dMulX (.lst ds) (.int (m:Int))=.ok (.lst (List.replicate m ds).flatten):=by
 show gd _ _=_
 rw [u0K ⟨by omega,by omega,by
  have h1:ds.length*(m:Int).toNat≤10*1:=Nat.mul_le_mul hl (by omega)
  exact Nat.le_trans h1 (by decide)⟩,Int.toNat_natCast]
theorem rus_rep {ds:List D}{m:Nat} (h:RuDs ds):RuDs (List.replicate m ds).flatten:=fun d hd=>by
 obtain ⟨l,hl,hd⟩:=List.mem_flatten.mp hd
 rw [List.eq_of_mem_replicate hl] at hd
 exact h d hd
theorem v2M {ds:List D}{m:Nat} (h:m<2):(List.replicate m ds).flatten.length≤ds.length:=by
 match m,h with
 | 0,_=>simp
 | 1,_=>simp
section
variable {P:Program}{w:World}{K:PySem.W.Frag}{mg:Str→Option Value}{base:Heap}{f:Addr}{fd:FuncData}{A:Adr}
theorem u6h {G_law_more_rules:List D→Res D} (c__law_more_rules:Callee P w K mg base 1 "_law_more_rules" ["_law_rules_here","_law_many"] (spF K G_law_more_rules)) {G_law_odd_rule:List D→Res D} (c__law_odd_rule:Callee P w K mg base 1 "_law_odd_rule" ["_law_kind"] (spF K G_law_odd_rule)) (p_more:More G_law_more_rules) (p_odd:Odd G_law_odd_rule) (F:Fun K "_law_faulty" "_law_faulty" u0Y f fd) (T:Txt K mg A):∃ G,FnOk P w K mg base CX0 2 f fd ["_law_rules_here","_law_way","_law_at","_law_kind"] (spF K G)∧Faulty G:=by
 refine ⟨_,F.okT (k:=1) u3D (fun cdv Ar outer s H E hr=>u0d (u0y (u0n (o_eq (hu64 hr)) (dv 1) u0c) (u0e (u0h (d_op u0P (d_op u0P (d_sl (dv 0) u1Z (u1w (dv 2))) (u0H (u0a (d_fn c__law_odd_rule hr (u0a (dv 3) u0b)) u0b))) (d_sl (dv 0) (u1w (d_op u0P (dv 2) u0c)) u1Z)))) u0l)
  (u0d (u0y (u0n (o_eq (hu64 hr)) (dv 1) u0c) (u0e (u0h (d_op u0P (dv 0) (u0H (u0a (d_ix x_ix (dv 0) (dv 2)) u0b))))) u0l)
  (u0d (u0y (u0n (o_eq (hu64 hr)) (dv 1) u0c) (u0e (u0h (d_op u0P (d_op u0P (d_op u0P (d_sl (dv 0) u1Z (u1w (dv 2))) (d_op u1H (u0H (u0a (u0f (u0a u0i (u0a (u0f (u0a u0i u0b)) u0b))) u0b)) (d_op u1k (dv 3) u0c))) (u0H (u0a (u0f (u0a u0i (u0a (u0f (u0a u0i (u0a u0i u0b))) u0b))) u0b))) (d_sl (dv 0) (u1w (dv 2)) u1Z)))) u0l)
  (u0d (u0y (u0n (o_eq (hu64 hr)) (dv 1) u0c) (u0e (u0h (d_fn c__law_more_rules hr (u0a (dv 0) (u0a (d_op u0P u0c (d_op u1k (dv 3) u0c)) u0b))))) u0l)
  (u0d (u0y (u0n (o_eq (hu64 hr)) (dv 1) u0c) (u0d (ds_n u3D.nd (d_lset rfl T.z_len T.z_set (u0a (DN.de (u1r ["_law_rule"] [] rfl (u0v (sc:=defScope u0Y) (N:=["_law_rules_here","_law_way","_law_at","_law_kind","_law_heads_here"]) (by decide +kernel)) (u1n (dv 0)) (dg_n (show (["_law_rule"]:List Str).Nodup by decide +kernel)) u2a (d_ix x_ix (dv 0) u0c))) u0b)))
   (u0e (u0h (d_op u0P (dv 0) (DN.de (u1r ["_law_k"] [] rfl (u0v (sc:=defScope u0Y) (N:=["_law_rules_here","_law_way","_law_at","_law_kind","_law_heads_here"]) (by decide +kernel)) (u0Q T.z_range (u0a (d_op v0W (d_op u0P u0c (d_op u1k (dv 3) u0c)) (dv 4)) u0b)) (dg_n (show (["_law_k"]:List Str).Nodup by decide +kernel)) u2a (u0f (u0a (d_op u0P (d_op u0P u0i (d_T c_str T.z_str (by decide +kernel) (u0a (dv 0) u0b))) u0i) (u0a (u0f u0b) u0b))))))))) u0l)
  (u0d (u0y (u0n (o_eq (hu64 hr)) (dv 1) u0c) (u0e (u0h (d_op u0P (dv 0) (DN.de (v3d "_law_k" rfl ⟨rfl,fun _=>rfl,fun _=>rfl,by decide +kernel,by decide +kernel,by decide +kernel⟩ (u0Q T.z_range (u0a (d_op u0P u0c (d_op u1k (dv 3) u0c)) u0b)) (dg_n (show (["_law_k"]:List Str).Nodup by decide +kernel)) u2a (u0f (u0a u0i (u0a (d_T u1T T.z_tuple (by decide +kernel) (u0a (DN.de (u1r ["_law_j"] [0] rfl (v1T (N:=["_law_k"]) (by decide +kernel) (by decide +kernel)) (u0Q T.z_range (u0a u0c u0b)) (dg_n (show (["_law_j","_law_k"]:List Str).Nodup by decide +kernel)) u2a (v1M (dj_c (dj_i (dv 1) (dj_c (dj_i (dv 0) (v1J)))))))) u0b)) u0b)))))))) u0l)
  (u0e (u0h (dv 0))))))))),?_⟩
 intro rs way i kind hv hi hl
 have hru:=v0I hv
 have hlen:(rs.map rT).length=rs.length:=List.length_map ..
 by_cases c0:way=0
 ·subst c0
  obtain ⟨d,ed,hd⟩:=p_odd kind
  refine ⟨cutC (rs.map rT) none (some (i:Int))++[d]++cutC (rs.map rT) (some ((i+1:Nat):Int)) none,?_,u3e (u3e (u6a hru _ _) (u5Z hd)) (u6a hru _ _),by simp;omega,?_⟩
  ·have a1:dAdd (.lst (cutC (rs.map rT) none (some (i:Int)))) (.lst [d])=.ok (.lst (cutC (rs.map rT) none (some (i:Int))++[d])):=u2t (by rw [u7v _ (by omega)];simp;omega)
   have a2:dAdd (.lst (cutC (rs.map rT) none (some (i:Int))++[d])) (.lst (cutC (rs.map rT) (some ((i:Int)+1)) none))=.ok (.lst (cutC (rs.map rT) none (some (i:Int))++[d]++cutC (rs.map rT) (some ((i:Int)+1)) none)):=u2t (by rw [List.length_append,u7v _ (by omega)];have:=v3y (rs.map rT) (some ((i:Int)+1)) none;simp at this ⊢;omega)
   simp [runT,startD,u4j,ed,sl_lst,asI,a1,u0u,-List.append_assoc,-u0p,-u0g,-Res.bind_ok,-L2.go_ok,-Out.then_nx,bindN,goN,thenN]
   rw [a2]
   simp
  ·rw [List.length_append,List.length_append,u7v _ (by omega),v1R _ (by omega)]
   simp
   omega
 have w0:((way:Int)==0)=false:=by simp;omega
 by_cases c1:way=1
 ·subst c1
  have x1:dIx (dR rs) (dN i)=.ok (rT rs[i]):=ix_m hi
  have a1:dAdd (dR rs) (.lst [rT rs[i]])=.ok (.lst (rs.map rT++[rT rs[i]])):=u2t (by simp;omega)
  refine ⟨rs.map rT++[rT rs[i]],?_,u3e hru (u5Z (u9K (hv _ (List.getElem_mem hi)))),by simp,by simp;omega⟩
  simp [runT,startD,u4j,x1,a1,u0u,-u0p,-u0g,-Res.bind_ok,-L2.go_ok,-Out.then_nx,bindN,goN,thenN]
 have w1:((way:Int)==1)=false:=by simp;omega
 by_cases c2:way=2
 ·subst c2
  obtain ⟨m,em,hm⟩:=modZ (kind:Int) (b:=2) (by omega)
  have s1:dMod (dN kind) (.int 2)=.ok (dN m):=by rw [u0C (by omega),em]
  have s2:=mul_l (ds:=[rT ("Zz9",["Q0q"])]) (m:=m) (by omega) (by simp)
  have hr:=v2M (ds:=[rT ("Zz9",["Q0q"])]) (m:=m) (by omega)
  have hrr:RuDs (List.replicate m [rT ("Zz9",["Q0q"])]).flatten:=rus_rep (u5Z (u9K vz9))
  have s2':dMulX (.lst [.tup [.str "Zz9",.tup [.str "Q0q"]]]) (dN m)=.ok (.lst (List.replicate m [rT ("Zz9",["Q0q"])]).flatten):=s2
  generalize (List.replicate m [rT ("Zz9",["Q0q"])]).flatten=us at hr hrr s2'
  simp at hr
  have k1:(cutC (rs.map rT) none (some (i:Int))).length=i:=u7v _ (by omega)
  have k2:(cutC (rs.map rT) (some (i:Int)) none).length=rs.length - i:=by rw [v1R _ (by omega),hlen]
  have q1:=u6a hru none (some (i:Int))
  have q2:=u6a hru (some (i:Int)) none
  have z1:dSl (dR rs) none (some (i:Int))=.ok (.lst (cutC (rs.map rT) none (some (i:Int)))):=rfl
  have z2:dSl (dR rs) (some (i:Int)) none=.ok (.lst (cutC (rs.map rT) (some (i:Int)) none)):=rfl
  generalize cutC (rs.map rT) none (some (i:Int))=u1 at k1 q1 z1
  generalize cutC (rs.map rT) (some (i:Int)) none=u2 at k2 q2 z2
  have a1:dAdd (.lst u1) (.lst us)=.ok (.lst (u1++us)):=u2t (by omega)
  have a2:dAdd (.lst (u1++us)) (.lst [.tup [.str "Zz8",.tup [.str "a",.str "Zz7"]]])=.ok (.lst (u1++us++[rT ("Zz8",["a","Zz7"])])):=u2t (by simp;omega)
  have a3:dAdd (.lst (u1++us++[rT ("Zz8",["a","Zz7"])])) (.lst u2)=.ok (.lst (u1++us++[rT ("Zz8",["a","Zz7"])]++u2)):=u2t (by simp;omega)
  refine ⟨u1++us++[rT ("Zz8",["a","Zz7"])]++u2,?_,u3e (u3e (u3e q1 hrr) (u5Z (u9K vz8))) q2,by simp;omega,by simp;omega⟩
  simp [runT,startD,u4j,s1,s2',asI,z1,z2,a1,a2,a3,u0u,-List.append_assoc,-u0p,-u0g,-Res.bind_ok,-L2.go_ok,-Out.then_nx,bindN,goN,thenN]
 have w2:((way:Int)==2)=false:=by simp;omega
 by_cases c3:way=3
 ·subst c3
  obtain ⟨m,em,hm⟩:=modZ (kind:Int) (b:=3) (by omega)
  have s1:dMod (dN kind) (.int 3)=.ok (dN m):=by rw [u0C (by omega),em]
  obtain ⟨rs',e,h1,h2,h3⟩:=p_more rs (20+m) hv (by omega) (by omega) (by omega)
  have e':G_law_more_rules [dR rs,.int (20+(m:Int))]=.ok (dR rs'):=e
  refine ⟨rs'.map rT,?_,v0I h1,by simpa using h2,by simp;omega⟩
  simp [runT,startD,u4j,s1,e',-u0p,-u0g,-Res.bind_ok,-L2.go_ok,-Out.then_nx,bindN,goN,thenN]
 have w3:((way:Int)==3)=false:=by simp;omega
 by_cases c4:way=4
 ·subst c4
  obtain ⟨m,em,hm⟩:=modZ (kind:Int) (b:=2) (by omega)
  have s1:dMod (dN kind) (.int 2)=.ok (dN m):=by rw [u0C (by omega),em]
  have hz:rs.length≤sizeLine:=Nat.le_trans (show rs.length≤1000 by omega) (by decide)
  simp [runT,startD,u4j,hz,-u0p,-u0g,-Res.bind_ok,-L2.go_ok,-Out.then_nx,bindN,goN,thenN]
  generalize hC:compD _ _ _ (rhoC 1 [] [some (Sl.val (dR rs)),some (Sl.val (dN 4)),some (Sl.val (dN i)),some (Sl.val (dN kind)),none]) _=oc
  have qc:∃ ys,oc=.ok ys∧ys.length=(rs.map rT).length∧∀ y∈ys,∃ b,y=D.str b∧True:=by
   rw [← hC]
   refine u1u fun d hd=>?_
   obtain ⟨p,hp,rfl⟩:=List.mem_map.mp hd
   have i3:dIx (rT p) (.int 0)=.ok (.str p.1):=ix_0 _ _
   exact ⟨_,.str p.1,rfl,by simp,by simp [rhoC,i3,-u0p,-u0g,-Res.bind_ok,-L2.go_ok,-Out.then_nx,bindN,goN,thenN],p.1,rfl,trivial⟩
  obtain ⟨ys,rfl,hy1,hy2⟩:=qc
  obtain ⟨zs,rfl,_⟩:=pull hy2
  simp at hy1
  have e1:one1 gLS [dS zs]=.ok (dN (setOfT zs).length):=v2Z (by omega)
  have hn:(setOfT zs).length≤zs.length:=v0z (u6E zs) fun z h=>u3N.mp h
  generalize (setOfT zs).length=n at e1 hn
  have r1:rng1 [.int (8+(m:Int) - (n:Int))]=.ok (intL 0 (8+(m:Int) - (n:Int)).toNat):=v0L (by omega) (by omega)
  have hj:(8+(m:Int) - (n:Int)).toNat≤9:=by omega
  generalize (8+(m:Int) - (n:Int)).toNat=j at r1 hj
  have hjz:(intL 0 j).length≤sizeLine:=by rw [u1l];exact Nat.le_trans hj (by decide)
  simp [e1,s1,r1,hjz,-u0p,-u0g,-Res.bind_ok,-L2.go_ok,-Out.then_nx,bindN,goN,thenN]
  generalize hC2:compD _ _ _ _ _=oc
  have qc:∃ ys,oc=.ok ys∧ys.length=(intL 0 j).length∧∀ y∈ys,RuD y:=by
   rw [← hC2]
   refine u1u fun d hd=>?_
   obtain ⟨k,hk,rfl⟩:=u2w hd
   have t1:=gstr_k (k:=k) (by omega)
   have hnl:=n_len k (by omega)
   have t2:dAdd (.str "N") (.str (numS k))=.ok (.str ("N"++numS k)):=v2d (by show 1+_≤_;omega)
   have t3:dAdd (.str ("N"++numS k)) (.str "n")=.ok (.str ("N"++numS k++"n")):=v2d (by rw [u1h];show 1+_+1≤_;omega)
   exact ⟨_,rT ("N"++numS k++"n",[]),rfl,by simp,by simp [rhoC,t1,t2,t3,u0u,rT,-u0p,-u0g,-Res.bind_ok,-L2.go_ok,-Out.then_nx,bindN,goN,thenN],u9K (u7O (n_ok k (by omega)) (by simp) fun b hb=>(nomatch hb))⟩
  obtain ⟨ys,rfl,hy1,hy2⟩:=qc
  rw [u1l] at hy1
  have a1:dAdd (dR rs) (.lst ys)=.ok (.lst (rs.map rT++ys)):=u2t (by simp;omega)
  exact ⟨rs.map rT++ys,by simp [a1],u3e hru hy2,by simp;omega,by simp;omega⟩
 have w4:((way:Int)==4)=false:=by simp;omega
 by_cases c5:way=5
 ·subst c5
  obtain ⟨m,em,hm⟩:=modZ (kind:Int) (b:=2) (by omega)
  have s1:dMod (dN kind) (.int 2)=.ok (dN m):=by rw [u0C (by omega),em]
  have r1:rng1 [.int (2+(m:Int))]=.ok (intL 0 (2+m)):=u3f _ (by omega) (by omega)
  have r2:rng1 [.int 4]=.ok (intL 0 4):=u3f (n:=4) _ rfl (by omega)
  have hjz:(intL 0 (2+m)).length≤sizeLine:=by rw [u1l];exact Nat.le_trans (show 2+m≤1000 by omega) (by decide)
  have hd4:(intL 0 4).length≤sizeLine:=by rw [u1l];decide
  simp [runT,startD,u4j,s1,r1,hjz,-u0p,-u0g,-Res.bind_ok,-L2.go_ok,-Out.then_nx,bindN,goN,thenN]
  generalize hC2:compD _ _ _ _ _=oc
  have qc:∃ ys,oc=.ok ys∧ys.length=(intL 0 (2+m)).length∧∀ y∈ys,RuD y:=by
   rw [← hC2]
   refine u1u fun d hd=>?_
   obtain ⟨k,hk,rfl⟩:=u2w hd
   suffices h:∃ y,_∧RuD y from let ⟨y,h1,h2⟩:=h;⟨_,y,rfl,by simp,h1,h2⟩
   simp [r2,hd4,-u0p,-u0g,-Res.bind_ok,-L2.go_ok,-Out.then_nx,bindN,goN,thenN]
   generalize hC3:compD _ _ _ _ _=oc3
   have qc:∃ ys,oc3=.ok ys∧ys.length=(intL 0 4).length∧∀ y∈ys,∃ b,y=D.str b∧okG b=true:=by
    rw [← hC3]
    refine u1u fun d hd=>?_
    obtain ⟨j,hj,rfl⟩:=u2w hd
    have t1:=v0A (k:=k) (by omega)
    have t2:=v0A (k:=j) (by omega)
    have hz:=s_len k (by omega) j (by omega)
    have ho:=s_ok k (by omega) j (by omega)
    generalize numS k=a at t1 hz ho
    generalize numS j=b at t2 hz ho
    have t3:gd ((("s":Str)++(a++("s"++(b++Str.empty)))).length≤("s":Str).length+(600+(("s":Str).length+600))) (Res.ok (D.str ("s"++(a++("s"++(b++Str.empty))))))=Res.ok (D.str ("s"++(a++("s"++(b++Str.empty))))):=u0K (Nat.le_trans hz (by decide +kernel))
    exact ⟨_,.str ("s"++(a++("s"++(b++Str.empty)))),rfl,by simp,by simp [rhoC,t1,t2,-u0p,-u0g,-Res.bind_ok,-L2.go_ok,-Out.then_nx,bindN,goN,thenN];exact t3,_,rfl,ho⟩
   obtain ⟨ys,rfl,hy1,hy2⟩:=qc
   obtain ⟨bs,rfl,hb2⟩:=pull hy2
   rw [u1l,List.length_map] at hy1
   have g1:gTuple [dS bs]=.ok (.tup (bs.map D.str)):=rfl
   exact ⟨rT ("Ss1",bs),by simp [g1,u0u,rT,-u0p,-u0g,-Res.bind_ok,-L2.go_ok,-Out.then_nx,bindN,goN,thenN],u9K (u7O z_ok.2.2.2.2 (by omega) fun b hb=>.inr (hb2 b hb))⟩
  obtain ⟨ys,rfl,hy1,hy2⟩:=qc
  rw [u1l] at hy1
  have a1:dAdd (dR rs) (.lst ys)=.ok (.lst (rs.map rT++ys)):=u2t (by simp;omega)
  exact ⟨rs.map rT++ys,by simp [a1],u3e hru hy2,by simp;omega,by simp;omega⟩
 have w5:((way:Int)==5)=false:=by simp;omega
 refine ⟨rs.map rT,?_,hru,by simp;omega,by simp;omega⟩
 simp [runT,startD,u4j,w0,w1,w2,w3,w4,w5,-u0p,-u0g,-Res.bind_ok,-L2.go_ok,-Out.then_nx,bindN,goN,thenN]
end
theorem u1q (i j:Int):dEqX (.int i) (.int j)=.ok (.bl (i==j)):=by
 by_cases h:i=j
 ·subst h
  rw [u2T rfl (by simp [depD])]
  simp
 ·unfold dEqX
  rw [if_neg (by simp [lenNe]),if_neg (fun z=>h (D.int.inj z.1))]
  rfl
theorem u8V (a:Option Sl) (ρ:Rho) (i:Nat):getV (frz (a::ρ)) (i+1)=getV (frz ρ) i:=by
 cases a <;> exact Eq.trans rfl rfl
noncomputable abbrev Handed (G:List D→Res D):Prop:=∀ ns:List Int,∃ d,G [scr ns]=.ok d∧Hand d
noncomputable def Sha (ns:List Int) (k:Nat) (ρ:Rho):Prop:=∃ (ds:List D) (a b:Option Sl),ρ=[some (.val (scr ns)),some (.val (.lst ds)),a,b,none,none]∧RuDs ds∧1≤ds.length∧ds.length≤22+9*k
noncomputable def Qha (ns:List Int) (o:Out):Prop:=∃ (ds:List D) (a b:Option Sl),o=.nx [some (.val (scr ns)),some (.val (.lst ds)),a,b,none,none]∧RuDs ds∧ds.length≤100
theorem two {rs:List Nat} (h:rs.length=2):∃ a b,rs=[a,b]:=by
 match rs,h with
 | [a,b],_=>exact ⟨a,b,rfl⟩
theorem v2X {ds:List D} (h:RuDs ds):∀ d∈[D.non,.tup ds,.str "ab",.dct [],.int 7,.lst [],.lst []],Hand d:=by
 have hl:=u4A h
 have gab:goodD (.str "ab")=true:=by decide +kernel
 intro d hd
 simp only [List.mem_cons,List.not_mem_nil,or_false] at hd
 rcases hd with rfl | rfl | rfl | rfl | rfl | rfl | rfl
 ·exact u4V rfl (by simp [depD]) (fun _ e=>by cases e)
 ·exact u4V hl.g hl.dp (fun _ e=>by cases e)
 ·exact u4V gab (by simp [depD]) (fun _ e=>by cases e)
 ·exact u4V rfl (by simp [depD]) (fun _ e=>by cases e)
 ·exact u4V rfl (by simp [depD]) (fun _ e=>by cases e)
 ·exact u4A fun d h=>(nomatch h)
 ·exact u4A fun d h=>(nomatch h)
section
variable {P:Program}{w:World}{K:PySem.W.Frag}{mg:Str→Option Value}{base:Heap}{f:Addr}{fd:FuncData}{A:Adr}
theorem u6g {G_law_rules:List D→Res D} (c__law_rules:Callee P w K mg base 4 "_law_rules" ["_law_script","_law_at"] (spF K G_law_rules)) {G_law_row:List D→Res D} (c__law_row:Callee P w K mg base 2 "_law_row" ["_law_script","_law_at","_law_base","_law_count"] (spF K G_law_row)) {G_law_faulty:List D→Res D} (c__law_faulty:Callee P w K mg base 2 "_law_faulty" ["_law_rules_here","_law_way","_law_at","_law_kind"] (spF K G_law_faulty)) {G_law_is_rule:List D→Res D} (c__law_is_rule:Callee P w K mg base 2 "_law_is_rule" ["_law_thing"] (spF K G_law_is_rule)) (p_rules:Rules G_law_rules) (p_row:Row G_law_row) (p_faulty:Faulty G_law_faulty) (p_rule:P1 ruleD G_law_is_rule) (F:Fun K "_law_handed" "_law_handed" u1p f fd) (T:Txt K mg A):∃ G,FnOk P w K mg base CX0 5 f fd ["_law_script"] (spF K G)∧Handed G:=by
 refine ⟨_,F.okT (k:=4) u1a (fun cdv Ar outer s H E hr=>u0d (ds_n u1a.nd (d_fn c__law_rules hr (u0a (dv 0) (u0a u0c u0b))))
  (u0d (u1L rfl (u0Q T.z_range (u0a u0c u0b)) (dg_n u1a.nd)
  (u0d (ds_n u1a.nd (d_fn c__law_row hr (u0a (dv 0) (u0a (d_op u0P u0c (dv 2)) (u0a (d_op u1H (d_op u1H u0c u0c) u0c) (u0a u0c u0b))))))
   (u0e (u0y (dt_w (u3p (u0n (u3b (hu64 hr)) (DN.de (u1r ["_law_rule"] [] rfl (u0v (sc:=defScope u1p) (N:=["_law_script","_law_rules_here","_law_k","_law_draws","_law_way","_law_kind"]) (by decide +kernel)) (u1n (dv 1)) (dg_n (show (["_law_rule"]:List Str).Nodup by decide +kernel)) (u7r (u0M (u0L (d_fn c__law_is_rule hr (u0a (dv 0) u0b))))) (dv 0))) (u0H u0b)) (u2U (u0n (u3b (hu64 hr)) (d_op u1k (d_op u6X (d_ix x_ix (dv 3) u0c) u0c) u0c) u0c)))) (u0e (ds_n u1a.nd (d_fn c__law_faulty hr (u0a (dv 1) (u0a (d_op u1k (d_ix x_ix (dv 3) u0c) u0c) (u0a (d_op u1k (d_ix x_ix (dv 3) u0c) (d_B u1o T.z_len (by decide +kernel) (u0a (dv 1) u0b))) (u0a (d_ix x_ix (dv 3) u0c) u0b))))))) u0l))))
  (u0d (v3t (d_fn c__law_row hr (u0a (dv 0) (u0a u0c (u0a (d_op u1H u0c u0c) (u0a u0c u0b))))) (v3v (n:=2) rfl (u1t (dg_n u1a.nd) (u1t (dg_n u1a.nd) u3W))))
  (u0d (u0y (u0n (u3b (hu64 hr)) (d_op u1k (dv 4) u0c) u0c) (u0e (u0h (d_ix x_ix (u0H (u0a u2W (u0a (d_T u1T T.z_tuple (by decide +kernel) (u0a (dv 1) u0b)) (u0a u0i (u0a (DN.de u5e) (u0a u0c (u0a (u0H u0b) (u0a (u0H u0b) u0b)))))))) (d_op u1k (dv 5) u0c)))) u0l)
  (u0e (u0h (dv 1))))))),?_⟩
 intro ns
 obtain ⟨rs0,e0,l0,l1,v0⟩:=p_rules ns 1
 have e0':G_law_rules [scr ns,.int 1]=.ok (dR rs0):=e0
 have r1:rng1 [.int 3]=.ok (intL 0 3):=u3f (n:=3) _ rfl (by omega)
 have m1:dMulX (.int 9) (.int 18)=.ok (.int 162):=u2Z (by omega)
 have m2:dMulX (.int 162) (.int 22)=.ok (.int 3564):=u2Z (by omega)
 have m3:dMulX (.int 12) (.int 18)=.ok (.int 216):=u2Z (by omega)
 simp [runT,startD,e0',r1,-u0p,-u0g,-Res.bind_ok,-L2.go_ok,-Out.then_nx,bindN,goN,thenN]
 generalize hI:forD _ _ _ _=o
 have q:Qha ns o:=by
  rw [← hI]
  refine u3o (Sha ns) (Qha ns) ⟨rs0.map rT,none,none,rfl,v0I v0,by simpa using l0,by simp;omega⟩ ?_ ?_
  ·rintro ρ ⟨ds,a,b,rfl,k1,k2,k3⟩
   exact ⟨ds,a,b,rfl,k1,by omega⟩
  ·rintro k ρ hk ⟨ds,a,b,rfl,k1,k2,k3⟩
   refine ⟨_,rfl,.inl ?_⟩
   obtain ⟨rw0,er,hl,hd⟩:=p_row ns (9+k) 3564 3 (by omega) (by omega) (by omega)
   obtain ⟨d0,d1,d2,rfl⟩:=three hl
   have er':G_law_row [scr ns,.int (9+(k:Int)),.int 3564,.int 3]=.ok (.lst [dN d0,dN d1,dN d2]):=er
   have hz:ds.length≤sizeLine:=Nat.le_trans (show ds.length≤1000 by omega) (by decide)
   have t1:dDiv (dN d0) (.int 9)=.ok (.int ((d0:Int) / 9)):=u4l (by omega) (by omega)
   have t2:dMod (.int ((d0:Int) / 9)) (.int 2)=.ok (.int ((d0:Int) / 9%2)):=u0C (by omega)
   obtain ⟨wy,ew,hw⟩:=modZ (d0:Int) (b:=9) (by omega)
   have t3:dMod (dN d0) (.int 9)=.ok (dN wy):=by rw [u0C (by omega),ew]
   obtain ⟨at',ea,ha⟩:=modZ (d1:Int) (b:=(ds.length:Int)) (by omega)
   have t4:dMod (dN d1) (.int (ds.length:Int))=.ok (dN at'):=by rw [u0C (by omega),ea]
   simp [m1,m2,er',hz,u5x,v1j,ixl_2,t1,t2,t3,-u0p,-u0g,-Res.bind_ok,-L2.go_ok,-Out.then_nx,bindN,goN,thenN]
   generalize hC:compD _ _ _ _ _=oc
   have qc:oc=.ok (ds.filter fun d=>!ruleD d):=by
    rw [← hC,u1I (fun d=>!ruleD d) id]
    ·rw [List.map_id]
    ·intro d hd
     refine ⟨_,rfl,by simp [rhoC,p_rule d (k1 d hd).g],fun _=>by simp [rhoC]⟩
   subst qc
   have fe:=u2N ruleD ds
   cases hB:ds.all ruleD with
   | true =>
    have ee:dEqX (.lst (ds.filter fun d=>!ruleD d)) (.lst [])=.ok (.bl true):=by rw [u3U,fe,hB]
    by_cases cb:(d0:Int) / 9%2=0
    ·obtain ⟨rs,rfl,hv⟩:=vrs_of k1 (List.all_eq_true.mp hB)
     rw [List.length_map] at ha k2 k3 t4
     obtain ⟨ds',e,h1,h2,h3⟩:=p_faulty rs wy at' d2 hv (by omega) (by omega)
     refine ⟨_,by simp [ee,u1q,cb,t4,e,-u0p,-u0g,-Res.bind_ok,-L2.go_ok,-Out.then_nx,bindN,goN,thenN];exact ⟨rfl,rfl⟩,ds',_,_,rfl,h1,h2,by omega⟩
    ·refine ⟨_,by simp [ee,u1q,cb,-u0p,-u0g,-Res.bind_ok,-L2.go_ok,-Out.then_nx,bindN,goN,thenN];exact ⟨rfl,rfl⟩,ds,_,_,rfl,k1,k2,by omega⟩
   | false =>
    have ee:dEqX (.lst (ds.filter fun d=>!ruleD d)) (.lst [])=.ok (.bl false):=by rw [u3U,fe,hB]
    refine ⟨_,by simp [ee,-u0p,-u0g,-Res.bind_ok,-L2.go_ok,-Out.then_nx,bindN,goN,thenN];exact ⟨rfl,rfl⟩,ds,_,_,rfl,k1,k2,by omega⟩
 obtain ⟨ds,a,b,rfl,k1,k2⟩:=q
 obtain ⟨rw0,er,hl,hd⟩:=p_row ns 12 216 2 (by omega) (by omega) (by omega)
 obtain ⟨wy,kd,rfl⟩:=two hl
 have er':G_law_row [scr ns,.int 12,.int 216,.int 2]=.ok (.lst [dN wy,dN kd]):=er
 have t1:dMod (dN wy) (.int 12)=.ok (.int ((wy:Int)%12)):=u0C (by omega)
 obtain ⟨j,ej,hj⟩:=modZ (kd:Int) (b:=7) (by omega)
 have t2:dMod (dN kd) (.int 7)=.ok (dN j):=by rw [u0C (by omega),ej]
 obtain ⟨d,hd,t3⟩:=u2v (c:=id) (rs:=[D.non,.tup ds,.str "ab",.dct [],.int 7,.lst [],.lst []]) (i:=j) (by show j<7;omega)
 rw [List.map_id] at t3
 by_cases cw:(wy:Int)%12=11
 ·refine ⟨d,?_,v2X k1 d hd⟩
  have t3':dIx (.lst [D.non,.tup ds,.str "ab",(OD.d []).toD,.int 7,.lst [],.lst []]) (dN j)=.ok d:=t3
  have g1:gTuple [.lst ds]=.ok (.tup ds):=rfl
  simp [m3,er',t1,t2,u1q,cw,g1,u0u,asL,u8V,t3',-u0p,-u0g,-Res.bind_ok,-L2.go_ok,-Out.then_nx,bindN,goN,thenN]
 ·refine ⟨.lst ds,?_,u4A k1⟩
  simp [m3,er',t1,u1q,cw,asL,u8V,-u0p,-u0g,-Res.bind_ok,-L2.go_ok,-Out.then_nx,bindN,goN,thenN]
end
noncomputable def chkK (d:D):Bool:=goodD d&&(decide (depD d≤20)&&rkOk d)
theorem u6H {d:D} (h:chkK d=true):RkD d:=by
 unfold chkK at h
 simp only [Bool.and_eq_true,decide_eq_true_eq] at h
 exact ⟨h.1,h.2.1,h.2.2⟩
noncomputable def ODK1:List D:=[.tup [.str "left",.tup []],.tup [.str "Left",.tup [.str "a"]],.tup [.str "left",.lst [.str "a"]],.tup [.str "right",.tup [.str "a",.str "a"]],.lst [.str "left",.tup [.str "a"]],.non,.int 7,.tup []]
noncomputable def ODK2:List D:=[.tup [.str "left",.tup [.str "$"]],.tup [.str "left",.str "a"],.str "left",.tup [.str "left",.tup [(OD.d []).toD]],.tup [.lst [],.tup [.str "a"]],.tup [.str "none",.tup [.lst [.str "a"]]]]
theorem odk1_ok:∀ d∈ODK1,chkK d=true:=by decide +kernel
theorem odk2_ok:∀ d∈ODK2,chkK d=true:=by decide +kernel
theorem odk_ok {qs:List Str} (h:∀ b∈qs,goodS b=true):RkDs [.tup [.str "left",.tup []],.tup [.str "Left",.tup [.str "a"]],.tup [.str "left",.lst [.str "a"]],.tup [.str "right",.tup [.str "a",.str "a"]],.lst [.str "left",.tup [.str "a"]],.non,.int 7,.tup [],.tup [.str "left",.tup [.str "A"]],.tup [.str "none",.tup (qs.map D.str)],.tup [.str "left",.tup [.str "$"]],.tup [.str "left",.str "a"],.str "left",.tup [.str "left",.tup [(OD.d []).toD]],.tup [.lst [],.tup [.str "a"]],.tup [.str "none",.tup [.lst [.str "a"]]]] :=
 u3s (a:=ODK1) (fun d hd=>u6H (odk1_ok d hd)) (u3s (a:=[.tup [.str "left",.tup [.str "A"]],.tup [.str "none",.tup (qs.map D.str)]]) (fun d hd=>by
  rcases List.mem_cons.mp hd with rfl | hd
  ·exact u6H (by decide +kernel)
  ·rw [List.mem_singleton.mp hd];exact v2q (by decide +kernel) h) (b:=ODK2) (fun d hd=>u6H (odk2_ok d hd)))
theorem u4B {d:D} (g:goodD d=true) (dp:depD d≤50) (h:∀ ds,d≠.lst ds∧d≠.tup ds):HandK d where
 g:=g
 dp:=dp
 rk:=by
  rintro ds (e | e)
  ·exact absurd e (h ds).1
  ·exact absurd e (h ds).2
theorem q_ok:∀ k,k<11→goodS ("q"++(numS k++Str.empty))=true∧("q"++(numS k++Str.empty)).length≤10:=by decide +kernel
theorem r_ok:∀ k,k<11→goodS ("r"++(numS k++Str.empty))=true∧("r"++(numS k++Str.empty)).length≤10:=by decide +kernel
theorem u7c:goodS "left"=true∧goodS "none"=true:=by decide +kernel
noncomputable def KD (d:D):Prop:=HandK d∧d≠.non
noncomputable abbrev OddK (G:List D→Res D):Prop:=∀ (ks:List D) (n:Nat),RkDs ks→∃ d,G [.lst ks,dN n]=.ok d∧KD d
theorem kd_any {ks:List D} (h:RkDs ks):∀ d∈[D.int 7,.str "left",(OD.d []).toD,.tup [],.tup ks,.bl true,.tup [.str "left",.tup [.str "a"]]],KD d:=by
 have gl:goodD (.str "left")=true:=by decide +kernel
 intro d hd
 simp only [List.mem_cons,List.not_mem_nil,or_false] at hd
 rcases hd with rfl | rfl | rfl | rfl | rfl | rfl | rfl
 ·exact ⟨u4B rfl (by simp [depD]) (fun _=>⟨fun e=>(nomatch e),fun e=>(nomatch e)⟩),fun e=>(nomatch e)⟩
 ·exact ⟨u4B gl (by simp [depD]) (fun _=>⟨fun e=>(nomatch e),fun e=>(nomatch e)⟩),fun e=>(nomatch e)⟩
 ·exact ⟨u4B rfl (by simp [depD,OD.toD]) (fun _=>⟨fun e=>(nomatch e),fun e=>(nomatch e)⟩),fun e=>(nomatch e)⟩
 ·exact ⟨u3F fun d h=>(nomatch h),fun e=>(nomatch e)⟩
 ·exact ⟨u3F h,fun e=>(nomatch e)⟩
 ·exact ⟨u4B rfl (by simp [depD]) (fun _=>⟨fun e=>(nomatch e),fun e=>(nomatch e)⟩),fun e=>(nomatch e)⟩
 ·exact ⟨u3F (fun d h=>by
   rcases List.mem_cons.mp h with rfl | h
   ·exact u6H (by decide +kernel)
   ·rw [List.mem_singleton.mp h];exact u6H (by decide +kernel)),fun e=>by cases e⟩
noncomputable abbrev HandedK2 (G:List D→Res D):Prop:=∀ ns:List Int,∃ d,G [scr ns]=.ok d∧KD d
noncomputable def Shk (ns:List Int) (k:Nat) (ρ:Rho):Prop:=∃ (ks:List D) (a b c d e:Option Sl),ρ=[some (.val (scr ns)),some (.val (.lst ks)),a,b,c,d,e]∧RkDs ks∧ks.length≤10+k
noncomputable def Qhk (o:Out):Prop:=(∃ (ρ:Rho) (ks:List D),o=.nx ρ∧getV (frz ρ) 1=.ok (.lst ks)∧RkDs ks)∨∃ d,o=.rt d∧KD d
section
variable {P:Program}{w:World}{K:PySem.W.Frag}{mg:Str→Option Value}{base:Heap}{f:Addr}{fd:FuncData}{A:Adr}
theorem u4s (F:Fun K "_law_odd_ranks" "_law_odd_ranks" u0W f fd) (T:Txt K mg A):∃ G,FnOk P w K mg base CX0 1 f fd ["_law_ranks_here","_law_kind"] (spF K G)∧OddK G:=by
 refine ⟨_,F.okT (k:=0) u4n (fun cdv Ar outer s H E hr=>u0e (u0h (d_ix x_ix (u0H (u0a u0c (u0a u0i (u0a (DN.de u5e) (u0a (u0f u0b) (u0a (d_T u1T T.z_tuple (by decide +kernel) (u0a (dv 0) u0b)) (u0a d_bl (u0a (u0f (u0a u0i (u0a (u0f (u0a u0i u0b)) u0b))) u0b)))))))) (d_op u1k (dv 1) u0c)))),?_⟩
 intro ks n h
 obtain ⟨j,ej,hj⟩:=modZ (n:Int) (b:=7) (by omega)
 have t2:dMod (dN n) (.int 7)=.ok (dN j):=by rw [u0C (by omega),ej]
 obtain ⟨d,hd,t3⟩:=u2v (c:=id) (rs:=[D.int 7,.str "left",(OD.d []).toD,.tup [],.tup ks,.bl true,.tup [.str "left",.tup [.str "a"]]]) (i:=j) (by show j<7;omega)
 rw [List.map_id] at t3
 have g1:gTuple [.lst ks]=.ok (.tup ks):=rfl
 exact ⟨d,by simp [runT,startD,t2,t3,g1,u0u,-u0p,-u0g,-Res.bind_ok,-L2.go_ok,-Out.then_nx,bindN,goN,thenN],kd_any h d hd⟩
theorem u3v {G_law_ranks:List D→Res D} (c__law_ranks:Callee P w K mg base 3 "_law_ranks" ["_law_script","_law_at"] (spF K G_law_ranks)) {G_law_row:List D→Res D} (c__law_row:Callee P w K mg base 2 "_law_row" ["_law_script","_law_at","_law_base","_law_count"] (spF K G_law_row)) {G_law_is_rank:List D→Res D} (c__law_is_rank:Callee P w K mg base 2 "_law_is_rank" ["_law_thing"] (spF K G_law_is_rank)) {G_law_odd_ranks:List D→Res D} (c__law_odd_ranks:Callee P w K mg base 1 "_law_odd_ranks" ["_law_ranks_here","_law_kind"] (spF K G_law_odd_ranks)) (p_ranks:Ranks G_law_ranks) (p_row:Row G_law_row) (p_rank:∀ d,goodD d=true→rkOk d=true→G_law_is_rank [d]=.ok (.bl (rankD d))) (p_odd:OddK G_law_odd_ranks) (F:Fun K "_law_handed_ranks" "_law_handed_ranks" u0t f fd) (T:Txt K mg A):∃ G,FnOk P w K mg base CX0 4 f fd ["_law_script"] (spF K G)∧HandedK2 G:=by
 refine ⟨_,F.okT (k:=3) u0j (fun cdv Ar outer s H E hr=>u0d (ds_n u0j.nd (d_fn c__law_ranks hr (u0a (dv 0) (u0a u0c u0b))))
  (u0d (u1L rfl (u0Q T.z_range (u0a u0c u0b)) (dg_n u0j.nd)
  (u0d (v3t (d_fn c__law_row hr (u0a (dv 0) (u0a (d_op u0P u0c (dv 2)) (u0a (d_op u1H (d_op u1H u0c u0c) u0c) (u0a u0c u0b))))) (v3v (n:=3) rfl (u1t (dg_n u0j.nd) (u1t (dg_n u0j.nd) (u1t (dg_n u0j.nd) u3W)))))
   (u0d (ds_n u0j.nd (u0H (u0a (u0f (u0a u0i (u0a (u0f u0b) u0b))) (u0a (u0f (u0a u0i (u0a (u0f (u0a u0i u0b)) u0b))) (u0a (u0f (u0a u0i (u0a (u0H (u0a u0i u0b)) u0b))) (u0a (u0f (u0a u0i (u0a (u0f (u0a u0i (u0a u0i u0b))) u0b))) (u0a (u0H (u0a u0i (u0a (u0f (u0a u0i u0b)) u0b))) (u0a u2W (u0a u0c (u0a (u0f u0b) u0b))))))))))
   (u0d (ds_n u0j.nd (d_op u0P (dv 6) (u0H (u0a (u0f (u0a u0i (u0a (u0f (u0a u0i u0b)) u0b))) (u0a (u0f (u0a u0i (u0a (d_T u1T T.z_tuple (by decide +kernel) (u0a (DN.de (u1r ["_law_j"] [] rfl (u0v (sc:=defScope u0t) (N:=["_law_script","_law_ranks_here","_law_k","_law_way","_law_at","_law_kind","_law_odd"]) (by decide +kernel)) (u0Q T.z_range (u0a u0c u0b)) (dg_n (show (["_law_j"]:List Str).Nodup by decide +kernel)) u2a (v1M (dj_c (dj_i (dv 0) (v1J)))))) u0b)) u0b))) u0b)))))
   (u0d (ds_n u0j.nd (d_op u0P (dv 6) (u0H (u0a (u0f (u0a u0i (u0a (u0f (u0a u0i u0b)) u0b))) (u0a (u0f (u0a u0i (u0a u0i u0b))) (u0a u0i (u0a (u0f (u0a u0i (u0a (u0f (u0a (DN.de u5e) u0b)) u0b))) (u0a (u0f (u0a (u0H u0b) (u0a (u0f (u0a u0i u0b)) u0b))) (u0a (u0f (u0a u0i (u0a (u0f (u0a (u0H (u0a u0i u0b)) u0b)) u0b))) u0b)))))))))
   (u0d (u0y (dt_w (u3p (u0n (u3b (hu64 hr)) (d_op u1k (dv 3) u0c) u0c) (u2U (u0n (v2G (hu64 hr)) (dv 1) (u0H u0b))))) (u0d (ds_n u0j.nd (d_op u1k (dv 4) (d_B u1o T.z_len (by decide +kernel) (u0a (dv 1) u0b))))
    (u0e (ds_n u0j.nd (d_op u0P (d_op u0P (d_sl (dv 1) u1Z (u1w (dv 4))) (u0H (u0a (d_ix x_ix (dv 6) (d_op u1k (dv 5) u0c)) u0b))) (d_sl (dv 1) (u1w (d_op u0P (dv 4) u0c)) u1Z))))) u0l)
   (u0d (u0y (dt_w (u3p (u0n (u3b (hu64 hr)) (d_op u1k (dv 3) u0c) u0c) (u3p (u0n (v2G (hu64 hr)) (dv 1) (u0H u0b)) (u2U (u0L (d_fn c__law_is_rank hr (u0a (d_ix x_ix (dv 1) u0c) u0b))))))) (u0e (ds_n u0j.nd (d_op u0P (dv 1) (u0H (u0a (u0f (u0a u0i (u0a (d_ix x_ix (d_ix x_ix (dv 1) u0c) u0c) u0b))) u0b))))) u0l)
   (u0d (u0y (u0n (u3b (hu64 hr)) (d_op u1k (dv 3) u0c) u0c) (u0e (ds_n u0j.nd (d_op u0P (dv 1) (DN.de (u1r ["_law_j"] [] rfl (u0v (sc:=defScope u0t) (N:=["_law_script","_law_ranks_here","_law_k","_law_way","_law_at","_law_kind","_law_odd"]) (by decide +kernel)) (u0Q T.z_range (u0a (d_op v0W u0c (d_B u1o T.z_len (by decide +kernel) (u0a (dv 1) u0b))) u0b)) (dg_n (show (["_law_j"]:List Str).Nodup by decide +kernel)) u2a (u0f (u0a u0i (u0a (u0f (u0a (v1M (dj_c (dj_i (dv 0) (v1J)))) u0b)) u0b)))))))) u0l)
   (u0e (u0y (dt_w (u3p (u0n (u3b (hu64 hr)) (d_op u1k (dv 3) u0c) u0c) (u2U (u0n (u3b (hu64 hr)) (dv 2) u0c)))) (u0e (u0h (d_fn c__law_odd_ranks hr (u0a (dv 1) (u0a (dv 5) u0b))))) u0l))))))))))
  (u0e (u0h (dv 1))))),?_⟩
 intro ns
 obtain ⟨ks0,e0,l0,v0⟩:=p_ranks ns 13
 have e0':G_law_ranks [scr ns,.int 13]=.ok (.lst ks0):=e0
 have r1:rng1 [.int 2]=.ok (intL 0 2):=u3f (n:=2) _ rfl (by omega)
 have r11:rng1 [.int 11]=.ok (intL 0 11):=u3f (n:=11) _ rfl (by omega)
 have m1:dMulX (.int 8) (.int 18)=.ok (.int 144):=u2Z (by omega)
 have m2:dMulX (.int 144) (.int 22)=.ok (.int 3168):=u2Z (by omega)
 have a1:∀ x y:List D,x.length+y.length≤1000→dAdd (.lst x) (.lst y)=.ok (.lst (x++y)):=fun _ _ h=>u2t h
 simp [runT,startD,e0',r1,-u0p,-u0g,-Res.bind_ok,-L2.go_ok,-Out.then_nx,bindN,goN,thenN]
 generalize hI:forD _ _ _ _=o
 have q:Qhk o:=by
  rw [← hI]
  refine u3o (Shk ns) Qhk ⟨ks0,none,none,none,none,none,rfl,v0,by omega⟩ ?_ ?_
  ·rintro ρ ⟨ks,a,b,c,d,e,rfl,k1,k2⟩
   exact .inl ⟨_,ks,rfl,by simp,k1⟩
  ·rintro k ρ hk ⟨ks,x1,x2,x3,x4,x5,rfl,k1,k2⟩
   refine ⟨_,rfl,?_⟩
   obtain ⟨rw0,er,hl,hd⟩:=p_row ns (14+k) 3168 3 (by omega) (by omega) (by omega)
   obtain ⟨wy,at',kd,rfl⟩:=three hl
   have er':G_law_row [scr ns,.int (14+(k:Int)),.int 3168,.int 3]=.ok (.lst [dN wy,dN at',dN kd]):=er
   obtain ⟨w8,ew,hw⟩:=modZ (wy:Int) (b:=8) (by omega)
   have t1:dMod (dN wy) (.int 8)=.ok (dN w8):=by rw [u0C (by omega),ew]
   have h11:(intL 0 11).length≤sizeLine:=by rw [u1l];decide
   simp [m1,m2,er',asL,r11,h11,u0u,a1,-u0p,-u0g,-Res.bind_ok,-L2.go_ok,-Out.then_nx,bindN,goN,thenN]
   generalize hC:compD _ _ _ _ (intL 0 11)=oc
   have qc:∃ ys,oc=.ok ys∧ys.length=(intL 0 11).length∧∀ y∈ys,∃ b,y=D.str b∧goodS b=true:=by
    rw [← hC]
    refine u1u fun d hd=>?_
    obtain ⟨j,hj,rfl⟩:=u2w hd
    have t1:=v0A (k:=j) (by omega)
    obtain ⟨ho,hz⟩:=q_ok j hj
    generalize numS j=b at t1 hz ho
    have t3:gd ((("q":Str)++(b++Str.empty)).length≤("q":Str).length+600) (Res.ok (D.str ("q"++(b++Str.empty))))=Res.ok (D.str ("q"++(b++Str.empty))):=u0K (Nat.le_trans hz (by decide +kernel))
    exact ⟨_,.str ("q"++(b++Str.empty)),rfl,by simp,by simp [rhoC,t1,-u0p,-u0g,-Res.bind_ok,-L2.go_ok,-Out.then_nx,bindN,goN,thenN];exact t3,_,rfl,ho⟩
   obtain ⟨ys,rfl,hy1,hy2⟩:=qc
   obtain ⟨qs,rfl,hb2⟩:=pull hy2
   have g1:gTuple [dS qs]=.ok (.tup (qs.map D.str)):=rfl
   simp [g1,u0u,a1,t1,u1q,-u0p,-u0g,-Res.bind_ok,-L2.go_ok,-Out.then_nx,bindN,goN,thenN]
   have okL:=odk_ok hb2
   have hL:([.tup [.str "left",.tup []],.tup [.str "Left",.tup [.str "a"]],.tup [.str "left",.lst [.str "a"]],.tup [.str "right",.tup [.str "a",.str "a"]],.lst [.str "left",.tup [.str "a"]],.non,.int 7,.tup [],.tup [.str "left",.tup [.str "A"]],.tup [.str "none",.tup (qs.map D.str)],.tup [.str "left",.tup [.str "$"]],.tup [.str "left",.str "a"],.str "left",.tup [.str "left",.tup [(OD.d []).toD]],.tup [.lst [],.tup [.str "a"]],.tup [.str "none",.tup [.lst [.str "a"]]]]:List D).length=16:=rfl
   generalize ([.tup [.str "left",.tup []],.tup [.str "Left",.tup [.str "a"]],.tup [.str "left",.lst [.str "a"]],.tup [.str "right",.tup [.str "a",.str "a"]],.lst [.str "left",.tup [.str "a"]],.non,.int 7,.tup [],.tup [.str "left",.tup [.str "A"]],.tup [.str "none",.tup (qs.map D.str)],.tup [.str "left",.tup [.str "$"]],.tup [.str "left",.str "a"],.str "left",.tup [.str "left",.tup [(OD.d []).toD]],.tup [.lst [],.tup [.str "a"]],.tup [.str "none",.tup [.lst [.str "a"]]]]:List D)=L at okL hL ⊢
   have ne:=neX_nil ks
   by_cases c0:w8=0
   ·subst c0
    cases hks:ks with
    | nil =>
     subst hks
     refine .inl ⟨_,?_,[],some (.val (dN k)),some (.val (dN wy)),some (.val (dN at')),some (.val (dN kd)),some (.val (.lst L)),rfl,k1,by simp⟩
     simp [ne,t1,u1q,-u0p,-u0g,-Res.bind_ok,-L2.go_ok,-Out.then_nx,bindN,goN,thenN]
    | cons y r =>
     rw [← hks]
     have hp:0<ks.length:=by rw [hks];simp
     rw [show ks.isEmpty=false from by rw [hks];rfl] at ne
     obtain ⟨i,ei,hi⟩:=modZ (at':Int) (b:=(ks.length:Int)) (by omega)
     have t4:dMod (dN at') (.int (ks.length:Int))=.ok (dN i):=by rw [u0C (by omega),ei]
     obtain ⟨j,ej,hj⟩:=modZ (kd:Int) (b:=16) (by omega)
     have t5:dMod (dN kd) (.int 16)=.ok (dN j):=by rw [u0C (by omega),ej]
     obtain ⟨d,hd,t6⟩:=u2v (c:=id) (rs:=L) (i:=j) (by omega)
     rw [List.map_id] at t6
     have z1:dSl (.lst ks) none (some (i:Int))=.ok (.lst (cutC ks none (some (i:Int)))):=rfl
     have z2:dSl (.lst ks) (some ((i:Int)+1)) none=.ok (.lst (cutC ks (some ((i+1:Nat):Int)) none)):=rfl
     have q1:=v0M k1 none (some (i:Int))
     have q2:=v0M k1 (some ((i+1:Nat):Int)) none
     have l1:(cutC ks none (some (i:Int))).length=i:=u7v _ (by omega)
     have l2:(cutC ks (some ((i+1:Nat):Int)) none).length=ks.length - (i+1):=v1R _ (by omega)
     generalize cutC ks none (some (i:Int))=u1 at z1 q1 l1
     generalize cutC ks (some ((i+1:Nat):Int)) none=u2 at z2 q2 l2
     have b1:dAdd (.lst u1) (.lst [d])=.ok (.lst (u1++[d])):=u2t (by simp;omega)
     have b2:dAdd (.lst (u1++[d])) (.lst u2)=.ok (.lst (u1++[d]++u2)):=u2t (by simp;omega)
     refine .inl ⟨_,?_,u1++[d]++u2,some (.val (dN k)),some (.val (dN wy)),some (.val (dN i)),some (.val (dN kd)),some (.val (.lst L)),rfl,u3s (u3s q1 (u8c (okL d hd))) q2,by simp;omega⟩
     simp [ne,t1,u1q,t4,t5,t6,z1,z2,b1,b2,asI,u0u,-List.append_assoc,-u0p,-u0g,-Res.bind_ok,-L2.go_ok,-Out.then_nx,bindN,goN,thenN]
   by_cases c1:w8=1
   ·subst c1
    cases hks:ks with
    | nil =>
     subst hks
     refine .inl ⟨_,?_,[],some (.val (dN k)),some (.val (dN wy)),some (.val (dN at')),some (.val (dN kd)),some (.val (.lst L)),rfl,k1,by simp⟩
     simp [ne,t1,u1q,-u0p,-u0g,-Res.bind_ok,-L2.go_ok,-Out.then_nx,bindN,goN,thenN]
    | cons y r =>
     rw [← hks]
     have hp:0<ks.length:=by rw [hks];simp
     rw [show ks.isEmpty=false from by rw [hks];rfl] at ne
     have x0:dIx (.lst ks) (.int 0)=.ok y:=by rw [hks];exact u5x _ _
     have ky:RkD y:=k1 y (by rw [hks];simp)
     have pr:=p_rank y ky.g ky.rk
     by_cases cr:rankD y=true
     ·obtain ⟨s,ss,er,ed,hs⟩:=u1U cr
      have gs:=u4J (by have:=ky.g;rw [ed] at this;exact this)
      have x1:dIx y (.int 1)=.ok (.tup (ss.map D.str)):=by rw [ed];exact ix_1 _ _ _
      have b1:dAdd (.lst ks) (.lst [.tup [.str "none",.tup (ss.map D.str)]])=.ok (.lst (ks++[.tup [.str "none",.tup (ss.map D.str)]])):=u2t (by simp;omega)
      refine .inl ⟨_,?_,ks++[.tup [.str "none",.tup (ss.map D.str)]],some (.val (dN k)),some (.val (dN wy)),some (.val (dN at')),some (.val (dN kd)),some (.val (.lst L)),rfl,u3s k1 (u8c (v2q u7c.2 gs)),by simp;omega⟩
      simp [ne,t1,u1q,x0,x1,pr,cr,b1,u0u,-u0p,-u0g,-Res.bind_ok,-L2.go_ok,-Out.then_nx,bindN,goN,thenN]
     ·refine .inl ⟨_,?_,ks,some (.val (dN k)),some (.val (dN wy)),some (.val (dN at')),some (.val (dN kd)),some (.val (.lst L)),rfl,k1,by omega⟩
      simp [ne,t1,u1q,x0,pr,cr,-u0p,-u0g,-Res.bind_ok,-L2.go_ok,-Out.then_nx,bindN,goN,thenN]
   by_cases c2:w8=2
   ·subst c2
    have r7:rng1 [.int (7 - (ks.length:Int))]=.ok (intL 0 (7 - (ks.length:Int)).toNat):=v0L (by omega) (by omega)
    have hj:(7 - (ks.length:Int)).toNat+ks.length≤11+k∧(7 - (ks.length:Int)).toNat≤7:=by omega
    generalize (7 - (ks.length:Int)).toNat=j at r7 hj
    have hjz:(intL 0 j).length≤sizeLine:=by rw [u1l];exact Nat.le_trans hj.2 (by decide)
    simp [t1,u1q,r7,hjz,-u0p,-u0g,-Res.bind_ok,-L2.go_ok,-Out.then_nx,bindN,goN,thenN]
    generalize hC2:compD _ _ _ _ _=oc
    have qc:∃ ys,oc=.ok ys∧ys.length=(intL 0 j).length∧∀ y∈ys,RkD y:=by
     rw [← hC2]
     refine u1u fun d hd=>?_
     obtain ⟨t,ht,rfl⟩:=u2w hd
     have t1:=v0A (k:=t) (by omega)
     obtain ⟨ho,hz⟩:=r_ok t (by omega)
     generalize numS t=b at t1 hz ho
     have t3:gd ((("r":Str)++(b++Str.empty)).length≤("r":Str).length+600) (Res.ok (D.str ("r"++(b++Str.empty))))=Res.ok (D.str ("r"++(b++Str.empty))):=u0K (Nat.le_trans hz (by decide +kernel))
     exact ⟨_,.tup [.str "left",.tup ([("r"++(b++Str.empty):Str)].map D.str)],rfl,by simp,by simp [rhoC,t1,-u0p,-u0g,-Res.bind_ok,-L2.go_ok,-Out.then_nx,bindN,goN,thenN];rw [t3];simp [u0u],v2q u7c.1 (fun x hx=>by rw [List.mem_singleton.mp hx];exact ho)⟩
    obtain ⟨ys,rfl,hy1,hy2⟩:=qc
    rw [u1l] at hy1
    have b1:dAdd (.lst ks) (.lst ys)=.ok (.lst (ks++ys)):=u2t (by omega)
    refine .inl ⟨_,?_,ks++ys,some (.val (dN k)),some (.val (dN wy)),some (.val (dN at')),some (.val (dN kd)),some (.val (.lst L)),rfl,u3s k1 hy2,by simp;omega⟩
    simp [t1,u1q,b1,-u0p,-u0g,-Res.bind_ok,-L2.go_ok,-Out.then_nx,bindN,goN,thenN]
   by_cases c3:w8=3
   ·subst c3
    by_cases ck:k=1
    ·obtain ⟨d,e,hd⟩:=p_odd ks kd k1
     subst ck
     refine .inr ⟨d,?_,.inr ⟨d,rfl,hd⟩⟩
     have eo:dEqX (dN 1) (.int 1)=.ok (.bl true):=u1q 1 1
     simp [e,eo,t1,u1q,-u0p,-u0g,-Res.bind_ok,-L2.go_ok,-Out.then_nx,bindN,goN,thenN]
    ·refine .inl ⟨_,?_,ks,some (.val (dN k)),some (.val (dN wy)),some (.val (dN at')),some (.val (dN kd)),some (.val (.lst L)),rfl,k1,by omega⟩
     have eo:dEqX (dN k) (.int 1)=.ok (.bl false):=by rw [u1q];simp;omega
     simp [eo,t1,u1q,-u0p,-u0g,-Res.bind_ok,-L2.go_ok,-Out.then_nx,bindN,goN,thenN]
   refine .inl ⟨_,?_,ks,some (.val (dN k)),some (.val (dN wy)),some (.val (dN at')),some (.val (dN kd)),some (.val (.lst L)),rfl,k1,by omega⟩
   have d0:¬ (w8:Int)=0:=by omega
   have d1:¬ (w8:Int)=1:=by omega
   have d2:¬ (w8:Int)=2:=by omega
   have d3:¬ (w8:Int)=3:=by omega
   simp [c0,d0,d1,d2,d3,t1,u1q,-u0p,-u0g,-Res.bind_ok,-L2.go_ok,-Out.then_nx,bindN,goN,thenN]
 rcases q with ⟨ρ,ks,rfl,g,h⟩ | ⟨d,rfl,h⟩
 ·exact ⟨.lst ks,by simp [g],v1t h,fun e=>by cases e⟩
 ·exact ⟨d,by simp,h⟩
end
theorem u4z:∀ {ds:List D},(∀ d∈ds,hardD d=true)→hardDs ds=true
 | [],_=>rfl
 | d::ds,h=>by
  rw [hardDs,h d List.mem_cons_self,u4z fun x hx=>h x (List.mem_cons_of_mem _ hx)]
  rfl
theorem u8S (z:Str) (bs:List Str):hardD (.tup [.str z,.tup (bs.map D.str)])=true:=by
 have:hardDs (bs.map D.str)=true:=u4z fun d hd=>by
  obtain ⟨b,_,rfl⟩:=List.mem_map.mp hd
  rfl
 simp [hardD,hardDs,this]
theorem u7j:∀ {ds:List D}{ks:List Str},goRk ks ds=.fine→∀ d∈ds,hardD d=true
 | [],_,_,d,h=>(nomatch h)
 | x::ds,ks,e,d,h=>by
  unfold goRk at e
  cases ea:asRank x with
  | none=>rw [ea] at e;cases e
  | some ss =>
   rw [ea] at e
   simp only at e
   cases eb:addAll ks ss with
   | none=>rw [eb] at e;cases e
   | some k =>
    rw [eb] at e
    rcases List.mem_cons.mp h with rfl | h
    ·cases q:rankD d with
     | false=>rw [u2s q] at ea;cases ea
     | true =>
      obtain ⟨s,ss',_,ed,_⟩:=u1U q
      rw [ed];exact u8S s ss'
    ·exact u7j e d h
theorem u3V {k:D} (h:dueRanks k=.fine):(k=.lst (itemsD k)∨k=.tup (itemsD k))∧goRk [] (itemsD k)=.fine∧dueRanks (.lst (itemsD k))=.fine:=by
 cases k with
 | lst ds =>
  refine ⟨.inl rfl,?_,h⟩
  simp only [dueRanks] at h
  split at h
  ·cases h
  ·exact h
 | tup ds =>
  refine ⟨.inr rfl,?_,h⟩
  simp only [dueRanks] at h
  split at h
  ·cases h
  ·exact h
 | _=>cases h
theorem u8r {k:D} (h:HandK k) (e:dueRanks k=.fine):HandK (.lst (itemsD k)):=by
 obtain ⟨hc,_,_⟩:=u3V e
 generalize itemsD k=ds at hc
 rcases hc with rfl | rfl
 ·exact h
 ·exact ⟨h.g,h.dp,fun xs hx=>by
   rcases hx with z | z
   ·cases z;exact h.rk ds (.inr rfl)
   ·cases z⟩
theorem v1s {r k:D} (hr:Hand r) (h:dueAll r (toldD k)=.fine):hardFs (gFlds r k)=true:=by
 obtain ⟨e1,e2⟩:=u6u h
 obtain ⟨er,_,_,_⟩:=u2V e1 hr.g
 have h1:hardDs (itemsD r)=true:=by
  rw [er]
  refine u4z fun d hd=>?_
  obtain ⟨p,_,rfl⟩:=List.mem_map.mp hd
  exact u8S _ _
 have h2:hardDs (itemsD (toldD k))=true:=u4z (u7j (u3V e2).2.1)
 simp [gFlds,hardFs,hardD,h1,h2]
theorem told_id {k:D} (h:k≠.non):toldD k=k:=by cases k <;> first | rfl | exact absurd rfl h
section
variable {P:Program}{w:World}{K:PySem.W.Frag}{mg:Str→Option Value}{base:Heap}{f:Addr}{fd:FuncData}{A:Adr}
theorem pr_law {G_law_handed:List D→Res D} (c__law_handed:Callee P w K mg base 5 "_law_handed" ["_law_script"] (spF K G_law_handed)) {G_law_handed_ranks:List D→Res D} (c__law_handed_ranks:Callee P w K mg base 4 "_law_handed_ranks" ["_law_script"] (spF K G_law_handed_ranks)) {G_law_due:List D→Res D} (c__law_due:Callee P w K mg base 4 "_law_due" ["_law_rules_here","_law_ranks_here"] (spF K G_law_due)) {G_law_right:List D→Res D} (c__law_right:Callee P w K mg base 1 "_law_right" ["_law_grammar","_law_rules_here","_law_ranks_here"] (spF K G_law_right)) {G_law_same:List D→Res D} (c__law_same:Callee P w K mg base 2 "_law_same" ["_law_told","_law_due_here"] (spF K G_law_same)) {G_law_refusal:List D→Res D} (c__law_refusal:CalleeX P w K mg base 9 "_law_refusal" ["_law_rules_here","_law_ranks_here"] G_law_refusal) (k_Grammar:KCallee P w K mg base 7 "Grammar" A.Grammar ["self","rules","ranks"] [] (gInit A)) (k1_Grammar:KCallee P w K mg base 7 "Grammar" A.Grammar ["self","rules","ranks"] [.non] (gInit A)) (p_handed:Handed G_law_handed) (p_handedK:HandedK2 G_law_handed_ranks) (p_due:∀ r k,Hand r→HandK k→G_law_due [r,k]=.ok (dueAll r k).toD) (p_same:∀ u:Due,okArg u→G_law_same [u.toD,u.toD]=.ok (.bl true)) (p_refusal:∀ r k,Hand r→HandK (toldD k)→G_law_refusal [r,k]=.ok (dueAll r (toldD k)).toD) (p_right:∀ r k,Hand r→HandK (toldD k)→dueAll r (toldD k)=.fine→G_law_right [.ins A.Grammar (gFlds r k),r,toldD k]=.ok (.bl true)) (F:Fun K "law" "law" u5Y f fd) (T:Txt K mg A):∃ G,FnOk P w K mg base (CXe P w) 10 f fd ["_law_script"] (spX K G)∧∀ ns:List Int,G [scr ns]=.ok (.bl true):=by
 refine ⟨_,F.okTX (k:=9) u4f (fun cdv Ar outer s H E hr hq=>u0d (ds_n u4f.nd (d_fn c__law_handed hr (u0a (dv 0) u0b)))
  (u0d (ds_n u4f.nd (d_fn c__law_handed_ranks hr (u0a (dv 0) u0b)))
  (u0d (ds_n u4f.nd (d_fn c__law_due hr (u0a (dv 1) (u0a (dv 2) u0b))))
  (u0d (u0y (u0M (u0L (d_fn c__law_same hr (u0a (v0k hq c__law_refusal hr (u0a (dv 1) (u0a (dv 2) u0b))) (u0a (dv 3) u0b))))) (u0e (u0h d_bl)) u0l)
  (u0d (ds_n u4f.nd (d_fn c__law_due hr (u0a (dv 1) (u0a (u0f u0b) u0b))))
  (u0d (u0y (u0M (u0L (d_fn c__law_same hr (u0a (v0k hq c__law_refusal hr (u0a (dv 1) (u0a u2W u0b))) (u0a (dv 4) u0b))))) (u0e (u0h d_bl)) u0l)
  (u0d (u0y (u0n v0X (dv 4) u2W) (u0e (u0h d_bl)) u0l)
  (u0d (u0y (dt_w (u4x (u0M (u0L (d_fn c__law_right hr (u0a (u9i hq k1_Grammar hr (u0a (dv 1) u0b)) (u0a (dv 1) (u0a (u0f u0b) u0b)))))) (u3H (u0M (u0L (d_fn c__law_right hr (u0a (u9i hq k_Grammar hr (u0a (dv 1) (u0a u2W u0b))) (u0a (dv 1) (u0a (u0f u0b) u0b))))))))) (u0e (u0h d_bl)) u0l)
  (u0d (u0y (u0n v0X (dv 3) u2W) (u0e (u0h d_bl)) u0l)
  (u0d (u2O u4f.nd (u8s T.z_list (u0a (dv 1) u0b)))
  (u0d (u2O u4f.nd (u8s T.z_list (u0a (dv 2) u0b)))
  (u0d (ds_n u4f.nd (DE.hard (u9i hq k_Grammar hr (u0a (dv 5) (u0a (dv 6) u0b)))))
  (u0d (u9d 5)
  (u0d (u9d 6)
  (u0e (u0h (d_fn c__law_right hr (u0a (dv 7) (u0a (dv 1) (u0a (dv 2) u0b)))))))))))))))))))),?_⟩
 intro ns
 obtain ⟨r,er,hr⟩:=p_handed ns
 obtain ⟨k,ek,hk,nk⟩:=p_handedK ns
 have tk:=told_id nk
 have hk':HandK (toldD k):=by rw [tk];exact hk
 have hn:HandK (.tup []):=u3F fun d h=>(nomatch h)
 have d1:=p_due r k hr hk
 have f1:=p_refusal r k hr hk'
 have d2:=p_due r (.tup []) hr hn
 have f2:=p_refusal r .non hr hn
 rw [tk] at f1
 have f2':G_law_refusal [r,.non]=.ok (dueAll r (.tup [])).toD:=f2
 have s1:=p_same _ (v2b hr hk)
 have s2:=p_same _ (v2b hr hn)
 simp [runX,startD,er,ek,d1,f1,d2,f2',s1,s2,-u0p,-u0g,-Res.bind_ok,-L2.go_ok,-Out.then_nx,bindN,goN,thenN]
 cases u:dueAll r (.tup []) with
 | fine =>
  have g1:gInit A [r,.non]=.ok (gFlds r .non):=by rw [u6o (k:=.non) hr hn,show toldD .non=.tup [] from rfl,u];rfl
  have q1:=p_right r .non hr hn u
  have q1':G_law_right [.ins A.Grammar (gFlds r .non),r,.tup []]=.ok (.bl true):=q1
  cases v:dueAll r k with
  | fine =>
   obtain ⟨v1,v2⟩:=u6u v
   obtain ⟨er2,_,_,_⟩:=u2V v1 hr.g
   obtain ⟨hc,_,w2⟩:=u3V v2
   have hki:=u8r hk v2
   have w3:dueAll r (.lst (itemsD k))=.fine:=by
    unfold dueAll at v ⊢
    rw [w2]
    rw [v2] at v
    exact v
   have ir:r=.lst (itemsD r):=by
    have:=er2
    generalize rsOf r=rs at this
    rw [this];rfl
   have sq1:seqOf [r]=.ok (.l (itemsD r)):=by
    rw [ir];rfl
   have sq2:seqOf [k]=.ok (.l (itemsD k)):=by
    generalize itemsD k=ds at hc
    rcases hc with rfl | rfl <;> rfl
   have gf:gFlds r (.lst (itemsD k))=gFlds r k:=by
    unfold gFlds
    rw [tk]
    rfl
   have g2:gInit A [.lst (itemsD r),.lst (itemsD k)]=.ok (gFlds r k):=by
    rw [← ir,u6o (k:=.lst (itemsD k)) hr hki,show toldD (.lst (itemsD k))=.lst (itemsD k) from rfl,w3,gf];rfl
   have q2:=p_right r k hr hk' (by rw [tk];exact v)
   rw [tk] at q2
   have hh:hardD (.ins A.Grammar (gFlds r k))=true:=v1s hr (by rw [tk];exact v)
   simp [Due.toD,dIsNot,isN,g1,q1',sq1,sq2,g2,q2,hardC,ownL,hh,-u0p,-u0g,-Res.bind_ok,-L2.go_ok,-Out.then_nx,bindN,goN,thenN]
  | _=>simp [Due.toD,dIsNot,isN,g1,q1',-u0p,-u0g,-Res.bind_ok,-L2.go_ok,-Out.then_nx,bindN,goN,thenN]
 | _=>simp [Due.toD,dIsNot,isN,-u0p,-u0g,-Res.bind_ok,-L2.go_ok,-Out.then_nx,bindN,goN,thenN]
end
noncomputable def noLst (K:PySem.W.Frag):Bool:=K.all fun p=>match p.2.cls with
 | .type T=>!(T=="list")
 | _=>true
theorem v2I {K:PySem.W.Frag} (h:noLst K=true) {a:Addr}{o:Obj} (e:K.lookup a=some o):o.cls≠.type "list":=fun z=>by
 have hm:(a,o)∈K:=by
  unfold noLst at h
  clear h
  induction K with
  | nil=>cases e
  | cons p K ih =>
   obtain ⟨b,u⟩:=p
   rw [List.lookup_cons] at e
   split at e
   ·rename_i q
    cases e
    rw [beq_iff_eq.mp q]
    exact List.mem_cons_self
   ·exact List.mem_cons_of_mem _ (ih e)
 have:=List.all_eq_true.mp h _ hm
 simp only [z] at this
 simp at this
theorem u8C {K:PySem.W.Frag}{F:Hp}:∀ ns:List Int,Rps K F (ns.map V.int) (ns.map D.int)
 | []=>.nil
 | n::ns=>.cons (.int n) (u8C ns)
noncomputable def spLaw5 (K:PySem.W.Frag):Sp:=fun vs H Q _=>∃ (a:Addr) (ns:List Int),vs=[.ref a]∧SqL K H a (ns.map V.int)∧∀ H',Q (.bl true) H'
theorem law_imp {P:Program}{w:World}{K:PySem.W.Frag}{mg:Str→Option Value}{base:Heap}{k:Nat}{f:Addr}{fd:FuncData}{ps:List Str}{G:List D→Res D} (nl:noLst K=true) (h:FnOk P w K mg base (CXe P w) k f fd ps (spX K G)) (p:∀ ns:List Int,G [scr ns]=.ok (.bl true)) :
  FnOk P w K mg base (CXe P w) k f fd ps (spLaw5 K):=h.imp fun vs H Q E ⟨a,ns,e,hs,q⟩=>by
 subst e
 rcases hs with hs | ⟨o,its,n,e1,e2,_⟩
 ·refine ⟨H,[scr ns],Same.refl H,.cons (.lst hs (u8C ns)) .nil,?_⟩
  rw [p ns]
  intro v F' H' st pv
  cases pv
  exact q H'
 ·exact absurd e2 (v2I nl e1)
theorem s_xf {X:Cx}{o value:Expr}{ta tv:TE}{f:Str}{pos pos':Pos} (ha:JE X o ta) (hv:JE X value tv) (hs:swapsWith value (some (.Attribute o f pos')) pos.line X.env=pure false:=by rfl):JS X (.Assign [.Attribute o f pos'] value pos) (sXF X.K ta tv f):=⟨ps_xf ha.out hv.out hs⟩
section
variable {P:Program}{w:World}{K:PySem.W.Frag}{mg:Str→Option Value}{base:Heap}{f C:Addr}{fd:FuncData}
noncomputable abbrev u2K:Stmt:=meth 3 0
theorem u9I:FnScope ["self","found"] ["self","found"] (defScope u2K):=⟨rfl,rfl,rfl,by decide +kernel,rfl,by decide +kernel,by decide +kernel⟩
theorem u8k (F:Fun K "__init__" "NoRule.__init__" u2K f fd) (c:XCls K C f) (n:NoAttr K C "found"):FnOk P w K mg base CX0 1 f fd ["self","found"] (spXI C ["found"]):=by
 refine F.okJ u9I (fun vs H Q E h=>?_) (fun cdv A outer s H vs Q E hr h=>?_)
 ·obtain ⟨a,args,n',rfl,hl,_⟩:=h
  rw [List.length_cons,hl];rfl
 obtain ⟨a,args,n',rfl,hl,ha,q⟩:=h
 match args,hl,q with
 | [v],_,q =>
  refine ⟨_,v1X (s_xf (ev 0) (ev 1)),?_⟩
  exact ⟨_,rfl,_,rfl,a,C,f,n',rfl,c,n,ha,fun dx h1 h2=>q dx h1 h2⟩
noncomputable abbrev u2k:Stmt:=meth 4 0
theorem u8a:FnScope ["self","found"] ["self","found"] (defScope u2k):=⟨rfl,rfl,rfl,by decide +kernel,rfl,by decide +kernel,by decide +kernel⟩
theorem u6V (F:Fun K "__init__" "NoRanks.__init__" u2k f fd) (c:XCls K C f) (n:NoAttr K C "found"):FnOk P w K mg base CX0 1 f fd ["self","found"] (spXI C ["found"]):=by
 refine F.okJ u8a (fun vs H Q E h=>?_) (fun cdv A outer s H vs Q E hr h=>?_)
 ·obtain ⟨a,args,n',rfl,hl,_⟩:=h
  rw [List.length_cons,hl];rfl
 obtain ⟨a,args,n',rfl,hl,ha,q⟩:=h
 match args,hl,q with
 | [v],_,q =>
  refine ⟨_,v1X (s_xf (ev 0) (ev 1)),?_⟩
  exact ⟨_,rfl,_,rfl,a,C,f,n',rfl,c,n,ha,fun dx h1 h2=>q dx h1 h2⟩
noncomputable abbrev u2j:Stmt:=meth 5 0
theorem u7Z:FnScope ["self","found"] ["self","found"] (defScope u2j):=⟨rfl,rfl,rfl,by decide +kernel,rfl,by decide +kernel,by decide +kernel⟩
theorem u6U (F:Fun K "__init__" "TooMany.__init__" u2j f fd) (c:XCls K C f) (n:NoAttr K C "found"):FnOk P w K mg base CX0 1 f fd ["self","found"] (spXI C ["found"]):=by
 refine F.okJ u7Z (fun vs H Q E h=>?_) (fun cdv A outer s H vs Q E hr h=>?_)
 ·obtain ⟨a,args,n',rfl,hl,_⟩:=h
  rw [List.length_cons,hl];rfl
 obtain ⟨a,args,n',rfl,hl,ha,q⟩:=h
 match args,hl,q with
 | [v],_,q =>
  refine ⟨_,v1X (s_xf (ev 0) (ev 1)),?_⟩
  exact ⟨_,rfl,_,rfl,a,C,f,n',rfl,c,n,ha,fun dx h1 h2=>q dx h1 h2⟩
noncomputable abbrev u2L:Stmt:=meth 6 0
theorem u9J:FnScope ["self","head"] ["self","head"] (defScope u2L):=⟨rfl,rfl,rfl,by decide +kernel,rfl,by decide +kernel,by decide +kernel⟩
theorem u8l (F:Fun K "__init__" "NoHead.__init__" u2L f fd) (c:XCls K C f) (n:NoAttr K C "head"):FnOk P w K mg base CX0 1 f fd ["self","head"] (spXI C ["head"]):=by
 refine F.okJ u9J (fun vs H Q E h=>?_) (fun cdv A outer s H vs Q E hr h=>?_)
 ·obtain ⟨a,args,n',rfl,hl,_⟩:=h
  rw [List.length_cons,hl];rfl
 obtain ⟨a,args,n',rfl,hl,ha,q⟩:=h
 match args,hl,q with
 | [v],_,q =>
  refine ⟨_,v1X (s_xf (ev 0) (ev 1)),?_⟩
  exact ⟨_,rfl,_,rfl,a,C,f,n',rfl,c,n,ha,fun dx h1 h2=>q dx h1 h2⟩
noncomputable abbrev u2l:Stmt:=meth 7 0
theorem u8b:FnScope ["self","number"] ["self","number"] (defScope u2l):=⟨rfl,rfl,rfl,by decide +kernel,rfl,by decide +kernel,by decide +kernel⟩
theorem u6W (F:Fun K "__init__" "Doubled.__init__" u2l f fd) (c:XCls K C f) (n:NoAttr K C "number"):FnOk P w K mg base CX0 1 f fd ["self","number"] (spXI C ["number"]):=by
 refine F.okJ u8b (fun vs H Q E h=>?_) (fun cdv A outer s H vs Q E hr h=>?_)
 ·obtain ⟨a,args,n',rfl,hl,_⟩:=h
  rw [List.length_cons,hl];rfl
 obtain ⟨a,args,n',rfl,hl,ha,q⟩:=h
 match args,hl,q with
 | [v],_,q =>
  refine ⟨_,v1X (s_xf (ev 0) (ev 1)),?_⟩
  exact ⟨_,rfl,_,rfl,a,C,f,n',rfl,c,n,ha,fun dx h1 h2=>q dx h1 h2⟩
end
set_option maxHeartbeats 0 in
theorem all_mk {l:PySem.W.OpenLaw}{w:World}{K:PySem.W.Frag}{h:Heap}{mg:Str→Option Value}{fa tG aS f0 f1 f2 f3 f4 f5 f6 f7 f8 f9 f10 f11 f12 f13 f14 f15 f16 f17 f18 f19 f20 f21 f22 f23 f24 f25 f26 f27 f28 f29 f30 f31 f32 f33 f34 f35 f36 f37 f38 f39 f40 f41 f42 f43 f44 f45 fxNoRule fxNoRanks fxTooMany fxNoHead fxDoubled fG CNoRule CNoRanks CTooMany CNoHead CDoubled CTableError CGrammar:Addr} (X:K.In h) (G:h.Ns mainGlobals mg) (hfa:mg "law"=some (.ref fa))
  {odt odS od0 an0 od1 an1 od2 an2 od3 an3 od4 an4 od5 an5 od6 an6 od7 an7 od8 an8 od9 an9 od10 an10 od11 an11 od12 an12 od13 an13 od14 an14 od15 an15 od16 an16 od17 an17 od18 an18 od19 an19 od20 an20 od21 an21 od22 an22 od23 an23 od24 an24 od25 an25 od26 an26 od27 an27 od28 an28 od29 an29 od30 an30 od31 an31 od32 an32 od33 an33 od34 an34 od35 an35 od36 an36 od37 an37 od38 an38 od39 an39 od40 an40 od41 an41 od42 an42 od43 an43 od44 an44 od45 an45 odxNoRule anxNoRule odxNoRanks anxNoRanks odxTooMany anxTooMany odxNoHead anxNoHead odxDoubled anxDoubled odG anG:Option Addr}{slt slS sl0 sl1 sl2 sl3 sl4 sl5 sl6 sl7 sl8 sl9 sl10 sl11 sl12 sl13 sl14 sl15 sl16 sl17 sl18 sl19 sl20 sl21 sl22 sl23 sl24 sl25 sl26 sl27 sl28 sl29 sl30 sl31 sl32 sl33 sl34 sl35 sl36 sl37 sl38 sl39 sl40 sl41 sl42 sl43 sl44 sl45 slxNoRule slxNoRanks slxTooMany slxNoHead slxDoubled slG:Array (Option Value)}{oct oc0 kV0 dc0 pm0 cd0 ct0 oc1 kV1 dc1 pm1 cd1 ct1 oc2 kV2 dc2 pm2 cd2 ct2 oc3 kV3 dc3 pm3 cd3 ct3 oc4 kV4 dc4 pm4 cd4 ct4 oc5 kV5 dc5 pm5 cd5 ct5 oc6 kV6 dc6 pm6 cd6 ct6 oc7 kV7 dc7 pm7 cd7 ct7 oc8 kV8 dc8 pm8 cd8 ct8 oc9 kV9 dc9 pm9 cd9 ct9 oc10 kV10 dc10 pm10 cd10 ct10 oc11 kV11 dc11 pm11 cd11 ct11 oc12 kV12 dc12 pm12 cd12 ct12 oc13 kV13 dc13 pm13 cd13 ct13 oc14 kV14 dc14 pm14 cd14 ct14 oc15 kV15 dc15 pm15 cd15 ct15 oc16 kV16 dc16 pm16 cd16 ct16 oc17 kV17 dc17 pm17 cd17 ct17 oc18 kV18 dc18 pm18 cd18 ct18 oc19 kV19 dc19 pm19 cd19 ct19 oc20 kV20 dc20 pm20 cd20 ct20 oc21 kV21 dc21 pm21 cd21 ct21 oc22 kV22 dc22 pm22 cd22 ct22 oc23 kV23 dc23 pm23 cd23 ct23 oc24 kV24 dc24 pm24 cd24 ct24 oc25 kV25 dc25 pm25 cd25 ct25 oc26 kV26 dc26 pm26 cd26 ct26 oc27 kV27 dc27 pm27 cd27 ct27 oc28 kV28 dc28 pm28 cd28 ct28 oc29 kV29 dc29 pm29 cd29 ct29 oc30 kV30 dc30 pm30 cd30 ct30 oc31 kV31 dc31 pm31 cd31 ct31 oc32 kV32 dc32 pm32 cd32 ct32 oc33 kV33 dc33 pm33 cd33 ct33 oc34 kV34 dc34 pm34 cd34 ct34 oc35 kV35 dc35 pm35 cd35 ct35 oc36 kV36 dc36 pm36 cd36 ct36 oc37 kV37 dc37 pm37 cd37 ct37 oc38 kV38 dc38 pm38 cd38 ct38 oc39 kV39 dc39 pm39 cd39 ct39 oc40 kV40 dc40 pm40 cd40 ct40 oc41 kV41 dc41 pm41 cd41 ct41 oc42 kV42 dc42 pm42 cd42 ct42 oc43 kV43 dc43 pm43 cd43 ct43 oc44 kV44 dc44 pm44 cd44 ct44 oc45 kV45 dc45 pm45 cd45 ct45 ocxNoRule kVxNoRule dcxNoRule pmxNoRule cdxNoRule ctxNoRule ocxNoRanks kVxNoRanks dcxNoRanks pmxNoRanks cdxNoRanks ctxNoRanks ocxTooMany kVxTooMany dcxTooMany pmxTooMany cdxTooMany ctxTooMany ocxNoHead kVxNoHead dcxNoHead pmxNoHead cdxNoHead ctxNoHead ocxDoubled kVxDoubled dcxDoubled pmxDoubled cdxDoubled ctxDoubled ocG kVG dcG pmG cdG ctG:Value}{nT nS:Nat}{tMOST_IN_BODY tMOST_IN_RANK tMOST_RULES tMOST_HEADS tMOST_SIGNS tMOST_RANKS tLONGEST tIN_SIGNS tGREAT tSMALL_AND_FIGURES ts1 ts2 ts3:Tok}
  (a0:PySem.W.nsIn K mainGlobals "is_short_text"=some (some (.ref f0))) (l0:K.lookup f0=some ⟨oc0,od0,.func (PySem.W.fnOf "is_short_text" "is_short_text" (defArgs u0X) (defBody u0X) (defScope u0X) .none kV0 dc0 pm0 an0 cd0 ct0),sl0⟩) (c0:PySem.W.codeIn K cd0 "is_short_text"=true) (k0:PySem.W.keepIn K (.ref f0)=true)
  (a1:PySem.W.nsIn K mainGlobals "has_only"=some (some (.ref f1))) (l1:K.lookup f1=some ⟨oc1,od1,.func (PySem.W.fnOf "has_only" "has_only" (defArgs u1S) (defBody u1S) (defScope u1S) .none kV1 dc1 pm1 an1 cd1 ct1),sl1⟩) (c1:PySem.W.codeIn K cd1 "has_only"=true) (k1:PySem.W.keepIn K (.ref f1)=true)
  (a2:PySem.W.nsIn K mainGlobals "is_sign"=some (some (.ref f2))) (l2:K.lookup f2=some ⟨oc2,od2,.func (PySem.W.fnOf "is_sign" "is_sign" (defArgs u2E) (defBody u2E) (defScope u2E) .none kV2 dc2 pm2 an2 cd2 ct2),sl2⟩) (c2:PySem.W.codeIn K cd2 "is_sign"=true) (k2:PySem.W.keepIn K (.ref f2)=true)
  (a3:PySem.W.nsIn K mainGlobals "is_head"=some (some (.ref f3))) (l3:K.lookup f3=some ⟨oc3,od3,.func (PySem.W.fnOf "is_head" "is_head" (defArgs u2J) (defBody u2J) (defScope u2J) .none kV3 dc3 pm3 an3 cd3 ct3),sl3⟩) (c3:PySem.W.codeIn K cd3 "is_head"=true) (k3:PySem.W.keepIn K (.ref f3)=true)
  (a4:PySem.W.nsIn K mainGlobals "is_symbol"=some (some (.ref f4))) (l4:K.lookup f4=some ⟨oc4,od4,.func (PySem.W.fnOf "is_symbol" "is_symbol" (defArgs u1Q) (defBody u1Q) (defScope u1Q) .none kV4 dc4 pm4 an4 cd4 ct4),sl4⟩) (c4:PySem.W.codeIn K cd4 "is_symbol"=true) (k4:PySem.W.keepIn K (.ref f4)=true)
  (a5:PySem.W.nsIn K mainGlobals "is_pair"=some (some (.ref f5))) (l5:K.lookup f5=some ⟨oc5,od5,.func (PySem.W.fnOf "is_pair" "is_pair" (defArgs u2I) (defBody u2I) (defScope u2I) .none kV5 dc5 pm5 an5 cd5 ct5),sl5⟩) (c5:PySem.W.codeIn K cd5 "is_pair"=true) (k5:PySem.W.keepIn K (.ref f5)=true)
  (a6:PySem.W.nsIn K mainGlobals "is_body"=some (some (.ref f6))) (l6:K.lookup f6=some ⟨oc6,od6,.func (PySem.W.fnOf "is_body" "is_body" (defArgs u2o) (defBody u2o) (defScope u2o) .none kV6 dc6 pm6 an6 cd6 ct6),sl6⟩) (c6:PySem.W.codeIn K cd6 "is_body"=true) (k6:PySem.W.keepIn K (.ref f6)=true)
  (a7:PySem.W.nsIn K mainGlobals "is_rule"=some (some (.ref f7))) (l7:K.lookup f7=some ⟨oc7,od7,.func (PySem.W.fnOf "is_rule" "is_rule" (defArgs u2G) (defBody u2G) (defScope u2G) .none kV7 dc7 pm7 an7 cd7 ct7),sl7⟩) (c7:PySem.W.codeIn K cd7 "is_rule"=true) (k7:PySem.W.keepIn K (.ref f7)=true)
  (a8:PySem.W.nsIn K mainGlobals "is_side"=some (some (.ref f8))) (l8:K.lookup f8=some ⟨oc8,od8,.func (PySem.W.fnOf "is_side" "is_side" (defArgs u2F) (defBody u2F) (defScope u2F) .none kV8 dc8 pm8 an8 cd8 ct8),sl8⟩) (c8:PySem.W.codeIn K cd8 "is_side"=true) (k8:PySem.W.keepIn K (.ref f8)=true)
  (a9:PySem.W.nsIn K mainGlobals "is_rank_signs"=some (some (.ref f9))) (l9:K.lookup f9=some ⟨oc9,od9,.func (PySem.W.fnOf "is_rank_signs" "is_rank_signs" (defArgs u0J) (defBody u0J) (defScope u0J) .none kV9 dc9 pm9 an9 cd9 ct9),sl9⟩) (c9:PySem.W.codeIn K cd9 "is_rank_signs"=true) (k9:PySem.W.keepIn K (.ref f9)=true)
  (a10:PySem.W.nsIn K mainGlobals "is_rank"=some (some (.ref f10))) (l10:K.lookup f10=some ⟨oc10,od10,.func (PySem.W.fnOf "is_rank" "is_rank" (defArgs u2H) (defBody u2H) (defScope u2H) .none kV10 dc10 pm10 an10 cd10 ct10),sl10⟩) (c10:PySem.W.codeIn K cd10 "is_rank"=true) (k10:PySem.W.keepIn K (.ref f10)=true)
  (a11:PySem.W.nsIn K mainGlobals "heads_in"=some (some (.ref f11))) (l11:K.lookup f11=some ⟨oc11,od11,.func (PySem.W.fnOf "heads_in" "heads_in" (defArgs u1R) (defBody u1R) (defScope u1R) .none kV11 dc11 pm11 an11 cd11 ct11),sl11⟩) (c11:PySem.W.codeIn K cd11 "heads_in"=true) (k11:PySem.W.keepIn K (.ref f11)=true)
  (a12:PySem.W.nsIn K mainGlobals "signs_in"=some (some (.ref f12))) (l12:K.lookup f12=some ⟨oc12,od12,.func (PySem.W.fnOf "signs_in" "signs_in" (defArgs u2f) (defBody u2f) (defScope u2f) .none kV12 dc12 pm12 an12 cd12 ct12),sl12⟩) (c12:PySem.W.codeIn K cd12 "signs_in"=true) (k12:PySem.W.keepIn K (.ref f12)=true)
  (a13:PySem.W.nsIn K mainGlobals "need_rules"=some (some (.ref f13))) (l13:K.lookup f13=some ⟨oc13,od13,.func (PySem.W.fnOf "need_rules" "need_rules" (defArgs u1E) (defBody u1E) (defScope u1E) .none kV13 dc13 pm13 an13 cd13 ct13),sl13⟩) (c13:PySem.W.codeIn K cd13 "need_rules"=true) (k13:PySem.W.keepIn K (.ref f13)=true)
  (a14:PySem.W.nsIn K mainGlobals "need_known_heads"=some (some (.ref f14))) (l14:K.lookup f14=some ⟨oc14,od14,.func (PySem.W.fnOf "need_known_heads" "need_known_heads" (defArgs u0D) (defBody u0D) (defScope u0D) .none kV14 dc14 pm14 an14 cd14 ct14),sl14⟩) (c14:PySem.W.codeIn K cd14 "need_known_heads"=true) (k14:PySem.W.keepIn K (.ref f14)=true)
  (a15:PySem.W.nsIn K mainGlobals "need_few_symbols"=some (some (.ref f15))) (l15:K.lookup f15=some ⟨oc15,od15,.func (PySem.W.fnOf "need_few_symbols" "need_few_symbols" (defArgs u0E) (defBody u0E) (defScope u0E) .none kV15 dc15 pm15 an15 cd15 ct15),sl15⟩) (c15:PySem.W.codeIn K cd15 "need_few_symbols"=true) (k15:PySem.W.keepIn K (.ref f15)=true)
  (a16:PySem.W.nsIn K mainGlobals "need_ranks"=some (some (.ref f16))) (l16:K.lookup f16=some ⟨oc16,od16,.func (PySem.W.fnOf "need_ranks" "need_ranks" (defArgs u1F) (defBody u1F) (defScope u1F) .none kV16 dc16 pm16 an16 cd16 ct16),sl16⟩) (c16:PySem.W.codeIn K cd16 "need_ranks"=true) (k16:PySem.W.keepIn K (.ref f16)=true)
  (a17:PySem.W.nsIn K mainGlobals "_law_cell"=some (some (.ref f17))) (l17:K.lookup f17=some ⟨oc17,od17,.func (PySem.W.fnOf "_law_cell" "_law_cell" (defArgs u2i) (defBody u2i) (defScope u2i) .none kV17 dc17 pm17 an17 cd17 ct17),sl17⟩) (c17:PySem.W.codeIn K cd17 "_law_cell"=true) (k17:PySem.W.keepIn K (.ref f17)=true)
  (a18:PySem.W.nsIn K mainGlobals "_law_stir"=some (some (.ref f18))) (l18:K.lookup f18=some ⟨oc18,od18,.func (PySem.W.fnOf "_law_stir" "_law_stir" (defArgs u2g) (defBody u2g) (defScope u2g) .none kV18 dc18 pm18 an18 cd18 ct18),sl18⟩) (c18:PySem.W.codeIn K cd18 "_law_stir"=true) (k18:PySem.W.keepIn K (.ref f18)=true)
  (a19:PySem.W.nsIn K mainGlobals "_law_row"=some (some (.ref f19))) (l19:K.lookup f19=some ⟨oc19,od19,.func (PySem.W.fnOf "_law_row" "_law_row" (defArgs u2C) (defBody u2C) (defScope u2C) .none kV19 dc19 pm19 an19 cd19 ct19),sl19⟩) (c19:PySem.W.codeIn K cd19 "_law_row"=true) (k19:PySem.W.keepIn K (.ref f19)=true)
  (a20:PySem.W.nsIn K mainGlobals "_law_heads"=some (some (.ref f20))) (l20:K.lookup f20=some ⟨oc20,od20,.func (PySem.W.fnOf "_law_heads" "_law_heads" (defArgs u1C) (defBody u1C) (defScope u1C) .none kV20 dc20 pm20 an20 cd20 ct20),sl20⟩) (c20:PySem.W.codeIn K cd20 "_law_heads"=true) (k20:PySem.W.keepIn K (.ref f20)=true)
  (a21:PySem.W.nsIn K mainGlobals "_law_signs"=some (some (.ref f21))) (l21:K.lookup f21=some ⟨oc21,od21,.func (PySem.W.fnOf "_law_signs" "_law_signs" (defArgs u1A) (defBody u1A) (defScope u1A) .none kV21 dc21 pm21 an21 cd21 ct21),sl21⟩) (c21:PySem.W.codeIn K cd21 "_law_signs"=true) (k21:PySem.W.keepIn K (.ref f21)=true)
  (a22:PySem.W.nsIn K mainGlobals "_law_shape"=some (some (.ref f22))) (l22:K.lookup f22=some ⟨oc22,od22,.func (PySem.W.fnOf "_law_shape" "_law_shape" (defArgs u1M) (defBody u1M) (defScope u1M) .none kV22 dc22 pm22 an22 cd22 ct22),sl22⟩) (c22:PySem.W.codeIn K cd22 "_law_shape"=true) (k22:PySem.W.keepIn K (.ref f22)=true)
  (a23:PySem.W.nsIn K mainGlobals "_law_symbol"=some (some (.ref f23))) (l23:K.lookup f23=some ⟨oc23,od23,.func (PySem.W.fnOf "_law_symbol" "_law_symbol" (defArgs u1G) (defBody u1G) (defScope u1G) .none kV23 dc23 pm23 an23 cd23 ct23),sl23⟩) (c23:PySem.W.codeIn K cd23 "_law_symbol"=true) (k23:PySem.W.keepIn K (.ref f23)=true)
  (a24:PySem.W.nsIn K mainGlobals "_law_drawn_rules"=some (some (.ref f24))) (l24:K.lookup f24=some ⟨oc24,od24,.func (PySem.W.fnOf "_law_drawn_rules" "_law_drawn_rules" (defArgs u0A) (defBody u0A) (defScope u0A) .none kV24 dc24 pm24 an24 cd24 ct24),sl24⟩) (c24:PySem.W.codeIn K cd24 "_law_drawn_rules"=true) (k24:PySem.W.keepIn K (.ref f24)=true)
  (a25:PySem.W.nsIn K mainGlobals "_law_rules"=some (some (.ref f25))) (l25:K.lookup f25=some ⟨oc25,od25,.func (PySem.W.fnOf "_law_rules" "_law_rules" (defArgs u1B) (defBody u1B) (defScope u1B) .none kV25 dc25 pm25 an25 cd25 ct25),sl25⟩) (c25:PySem.W.codeIn K cd25 "_law_rules"=true) (k25:PySem.W.keepIn K (.ref f25)=true)
  (a26:PySem.W.nsIn K mainGlobals "_law_ranks"=some (some (.ref f26))) (l26:K.lookup f26=some ⟨oc26,od26,.func (PySem.W.fnOf "_law_ranks" "_law_ranks" (defArgs u1O) (defBody u1O) (defScope u1O) .none kV26 dc26 pm26 an26 cd26 ct26),sl26⟩) (c26:PySem.W.codeIn K cd26 "_law_ranks"=true) (k26:PySem.W.keepIn K (.ref f26)=true)
  (a27:PySem.W.nsIn K mainGlobals "_law_is_sign"=some (some (.ref f27))) (l27:K.lookup f27=some ⟨oc27,od27,.func (PySem.W.fnOf "_law_is_sign" "_law_is_sign" (defArgs u1b) (defBody u1b) (defScope u1b) .none kV27 dc27 pm27 an27 cd27 ct27),sl27⟩) (c27:PySem.W.codeIn K cd27 "_law_is_sign"=true) (k27:PySem.W.keepIn K (.ref f27)=true)
  (a28:PySem.W.nsIn K mainGlobals "_law_is_head"=some (some (.ref f28))) (l28:K.lookup f28=some ⟨oc28,od28,.func (PySem.W.fnOf "_law_is_head" "_law_is_head" (defArgs u1e) (defBody u1e) (defScope u1e) .none kV28 dc28 pm28 an28 cd28 ct28),sl28⟩) (c28:PySem.W.codeIn K cd28 "_law_is_head"=true) (k28:PySem.W.keepIn K (.ref f28)=true)
  (a29:PySem.W.nsIn K mainGlobals "_law_is_rule"=some (some (.ref f29))) (l29:K.lookup f29=some ⟨oc29,od29,.func (PySem.W.fnOf "_law_is_rule" "_law_is_rule" (defArgs u1c) (defBody u1c) (defScope u1c) .none kV29 dc29 pm29 an29 cd29 ct29),sl29⟩) (c29:PySem.W.codeIn K cd29 "_law_is_rule"=true) (k29:PySem.W.keepIn K (.ref f29)=true)
  (a30:PySem.W.nsIn K mainGlobals "_law_rules_due"=some (some (.ref f30))) (l30:K.lookup f30=some ⟨oc30,od30,.func (PySem.W.fnOf "_law_rules_due" "_law_rules_due" (defArgs u0U) (defBody u0U) (defScope u0U) .none kV30 dc30 pm30 an30 cd30 ct30),sl30⟩) (c30:PySem.W.codeIn K cd30 "_law_rules_due"=true) (k30:PySem.W.keepIn K (.ref f30)=true)
  (a31:PySem.W.nsIn K mainGlobals "_law_heads_due"=some (some (.ref f31))) (l31:K.lookup f31=some ⟨oc31,od31,.func (PySem.W.fnOf "_law_heads_due" "_law_heads_due" (defArgs u0I) (defBody u0I) (defScope u0I) .none kV31 dc31 pm31 an31 cd31 ct31),sl31⟩) (c31:PySem.W.codeIn K cd31 "_law_heads_due"=true) (k31:PySem.W.keepIn K (.ref f31)=true)
  (a32:PySem.W.nsIn K mainGlobals "_law_is_rank"=some (some (.ref f32))) (l32:K.lookup f32=some ⟨oc32,od32,.func (PySem.W.fnOf "_law_is_rank" "_law_is_rank" (defArgs u1d) (defBody u1d) (defScope u1d) .none kV32 dc32 pm32 an32 cd32 ct32),sl32⟩) (c32:PySem.W.codeIn K cd32 "_law_is_rank"=true) (k32:PySem.W.keepIn K (.ref f32)=true)
  (a33:PySem.W.nsIn K mainGlobals "_law_ranks_due"=some (some (.ref f33))) (l33:K.lookup f33=some ⟨oc33,od33,.func (PySem.W.fnOf "_law_ranks_due" "_law_ranks_due" (defArgs u0V) (defBody u0V) (defScope u0V) .none kV33 dc33 pm33 an33 cd33 ct33),sl33⟩) (c33:PySem.W.codeIn K cd33 "_law_ranks_due"=true) (k33:PySem.W.keepIn K (.ref f33)=true)
  (a34:PySem.W.nsIn K mainGlobals "_law_due"=some (some (.ref f34))) (l34:K.lookup f34=some ⟨oc34,od34,.func (PySem.W.fnOf "_law_due" "_law_due" (defArgs u2D) (defBody u2D) (defScope u2D) .none kV34 dc34 pm34 an34 cd34 ct34),sl34⟩) (c34:PySem.W.codeIn K cd34 "_law_due"=true) (k34:PySem.W.keepIn K (.ref f34)=true)
  (a35:PySem.W.nsIn K mainGlobals "_law_kinds"=some (some (.ref f35))) (l35:K.lookup f35=some ⟨oc35,od35,.func (PySem.W.fnOf "_law_kinds" "_law_kinds" (defArgs u1P) (defBody u1P) (defScope u1P) .none kV35 dc35 pm35 an35 cd35 ct35),sl35⟩) (c35:PySem.W.codeIn K cd35 "_law_kinds"=true) (k35:PySem.W.keepIn K (.ref f35)=true)
  (a36:PySem.W.nsIn K mainGlobals "_law_same"=some (some (.ref f36))) (l36:K.lookup f36=some ⟨oc36,od36,.func (PySem.W.fnOf "_law_same" "_law_same" (defArgs u2h) (defBody u2h) (defScope u2h) .none kV36 dc36 pm36 an36 cd36 ct36),sl36⟩) (c36:PySem.W.codeIn K cd36 "_law_same"=true) (k36:PySem.W.keepIn K (.ref f36)=true)
  (a37:PySem.W.nsIn K mainGlobals "_law_odd_rule"=some (some (.ref f37))) (l37:K.lookup f37=some ⟨oc37,od37,.func (PySem.W.fnOf "_law_odd_rule" "_law_odd_rule" (defArgs u1i) (defBody u1i) (defScope u1i) .none kV37 dc37 pm37 an37 cd37 ct37),sl37⟩) (c37:PySem.W.codeIn K cd37 "_law_odd_rule"=true) (k37:PySem.W.keepIn K (.ref f37)=true)
  (a38:PySem.W.nsIn K mainGlobals "_law_more_rules"=some (some (.ref f38))) (l38:K.lookup f38=some ⟨oc38,od38,.func (PySem.W.fnOf "_law_more_rules" "_law_more_rules" (defArgs u0G) (defBody u0G) (defScope u0G) .none kV38 dc38 pm38 an38 cd38 ct38),sl38⟩) (c38:PySem.W.codeIn K cd38 "_law_more_rules"=true) (k38:PySem.W.keepIn K (.ref f38)=true)
  (a39:PySem.W.nsIn K mainGlobals "_law_faulty"=some (some (.ref f39))) (l39:K.lookup f39=some ⟨oc39,od39,.func (PySem.W.fnOf "_law_faulty" "_law_faulty" (defArgs u0Y) (defBody u0Y) (defScope u0Y) .none kV39 dc39 pm39 an39 cd39 ct39),sl39⟩) (c39:PySem.W.codeIn K cd39 "_law_faulty"=true) (k39:PySem.W.keepIn K (.ref f39)=true)
  (a40:PySem.W.nsIn K mainGlobals "_law_handed"=some (some (.ref f40))) (l40:K.lookup f40=some ⟨oc40,od40,.func (PySem.W.fnOf "_law_handed" "_law_handed" (defArgs u1p) (defBody u1p) (defScope u1p) .none kV40 dc40 pm40 an40 cd40 ct40),sl40⟩) (c40:PySem.W.codeIn K cd40 "_law_handed"=true) (k40:PySem.W.keepIn K (.ref f40)=true)
  (a41:PySem.W.nsIn K mainGlobals "_law_odd_ranks"=some (some (.ref f41))) (l41:K.lookup f41=some ⟨oc41,od41,.func (PySem.W.fnOf "_law_odd_ranks" "_law_odd_ranks" (defArgs u0W) (defBody u0W) (defScope u0W) .none kV41 dc41 pm41 an41 cd41 ct41),sl41⟩) (c41:PySem.W.codeIn K cd41 "_law_odd_ranks"=true) (k41:PySem.W.keepIn K (.ref f41)=true)
  (a42:PySem.W.nsIn K mainGlobals "_law_handed_ranks"=some (some (.ref f42))) (l42:K.lookup f42=some ⟨oc42,od42,.func (PySem.W.fnOf "_law_handed_ranks" "_law_handed_ranks" (defArgs u0t) (defBody u0t) (defScope u0t) .none kV42 dc42 pm42 an42 cd42 ct42),sl42⟩) (c42:PySem.W.codeIn K cd42 "_law_handed_ranks"=true) (k42:PySem.W.keepIn K (.ref f42)=true)
  (a43:PySem.W.nsIn K mainGlobals "_law_refusal"=some (some (.ref f43))) (l43:K.lookup f43=some ⟨oc43,od43,.func (PySem.W.fnOf "_law_refusal" "_law_refusal" (defArgs u1s) (defBody u1s) (defScope u1s) .none kV43 dc43 pm43 an43 cd43 ct43),sl43⟩) (c43:PySem.W.codeIn K cd43 "_law_refusal"=true) (k43:PySem.W.keepIn K (.ref f43)=true)
  (a44:PySem.W.nsIn K mainGlobals "_law_right"=some (some (.ref f44))) (l44:K.lookup f44=some ⟨oc44,od44,.func (PySem.W.fnOf "_law_right" "_law_right" (defArgs u1N) (defBody u1N) (defScope u1N) .none kV44 dc44 pm44 an44 cd44 ct44),sl44⟩) (c44:PySem.W.codeIn K cd44 "_law_right"=true) (k44:PySem.W.keepIn K (.ref f44)=true)
  (a45:PySem.W.nsIn K mainGlobals "law"=some (some (.ref f45))) (l45:K.lookup f45=some ⟨oc45,od45,.func (PySem.W.fnOf "law" "law" (defArgs u5Y) (defBody u5Y) (defScope u5Y) .none kV45 dc45 pm45 an45 cd45 ct45),sl45⟩) (c45:PySem.W.codeIn K cd45 "law"=true) (k45:PySem.W.keepIn K (.ref f45)=true)
  (gxNoRule:PySem.W.nsIn K mainGlobals "NoRule"=some (some (.ref CNoRule))) (axNoRule:PySem.W.findIn K (.ref CNoRule) "__init__"=some (some (.ref fxNoRule))) (lxNoRule:K.lookup fxNoRule=some ⟨ocxNoRule,odxNoRule,.func (PySem.W.fnOf "__init__" "NoRule.__init__" (defArgs u2K) (defBody u2K) (defScope u2K) .none kVxNoRule dcxNoRule pmxNoRule anxNoRule cdxNoRule ctxNoRule),slxNoRule⟩) (cxNoRule:PySem.W.codeIn K cdxNoRule "NoRule.__init__"=true) (kxNoRule:PySem.W.keepIn K (.ref fxNoRule)=true) (xxNoRule:xcB K CNoRule fxNoRule=true) (nxNoRule:PySem.W.findIn K (.ref CNoRule) "found"=some none) (bxNoRule:xbB K CNoRule=true)
  (gxNoRanks:PySem.W.nsIn K mainGlobals "NoRanks"=some (some (.ref CNoRanks))) (axNoRanks:PySem.W.findIn K (.ref CNoRanks) "__init__"=some (some (.ref fxNoRanks))) (lxNoRanks:K.lookup fxNoRanks=some ⟨ocxNoRanks,odxNoRanks,.func (PySem.W.fnOf "__init__" "NoRanks.__init__" (defArgs u2k) (defBody u2k) (defScope u2k) .none kVxNoRanks dcxNoRanks pmxNoRanks anxNoRanks cdxNoRanks ctxNoRanks),slxNoRanks⟩) (cxNoRanks:PySem.W.codeIn K cdxNoRanks "NoRanks.__init__"=true) (kxNoRanks:PySem.W.keepIn K (.ref fxNoRanks)=true) (xxNoRanks:xcB K CNoRanks fxNoRanks=true) (nxNoRanks:PySem.W.findIn K (.ref CNoRanks) "found"=some none) (bxNoRanks:xbB K CNoRanks=true)
  (gxTooMany:PySem.W.nsIn K mainGlobals "TooMany"=some (some (.ref CTooMany))) (axTooMany:PySem.W.findIn K (.ref CTooMany) "__init__"=some (some (.ref fxTooMany))) (lxTooMany:K.lookup fxTooMany=some ⟨ocxTooMany,odxTooMany,.func (PySem.W.fnOf "__init__" "TooMany.__init__" (defArgs u2j) (defBody u2j) (defScope u2j) .none kVxTooMany dcxTooMany pmxTooMany anxTooMany cdxTooMany ctxTooMany),slxTooMany⟩) (cxTooMany:PySem.W.codeIn K cdxTooMany "TooMany.__init__"=true) (kxTooMany:PySem.W.keepIn K (.ref fxTooMany)=true) (xxTooMany:xcB K CTooMany fxTooMany=true) (nxTooMany:PySem.W.findIn K (.ref CTooMany) "found"=some none) (bxTooMany:xbB K CTooMany=true)
  (gxNoHead:PySem.W.nsIn K mainGlobals "NoHead"=some (some (.ref CNoHead))) (axNoHead:PySem.W.findIn K (.ref CNoHead) "__init__"=some (some (.ref fxNoHead))) (lxNoHead:K.lookup fxNoHead=some ⟨ocxNoHead,odxNoHead,.func (PySem.W.fnOf "__init__" "NoHead.__init__" (defArgs u2L) (defBody u2L) (defScope u2L) .none kVxNoHead dcxNoHead pmxNoHead anxNoHead cdxNoHead ctxNoHead),slxNoHead⟩) (cxNoHead:PySem.W.codeIn K cdxNoHead "NoHead.__init__"=true) (kxNoHead:PySem.W.keepIn K (.ref fxNoHead)=true) (xxNoHead:xcB K CNoHead fxNoHead=true) (nxNoHead:PySem.W.findIn K (.ref CNoHead) "head"=some none) (bxNoHead:xbB K CNoHead=true)
  (gxDoubled:PySem.W.nsIn K mainGlobals "Doubled"=some (some (.ref CDoubled))) (axDoubled:PySem.W.findIn K (.ref CDoubled) "__init__"=some (some (.ref fxDoubled))) (lxDoubled:K.lookup fxDoubled=some ⟨ocxDoubled,odxDoubled,.func (PySem.W.fnOf "__init__" "Doubled.__init__" (defArgs u2l) (defBody u2l) (defScope u2l) .none kVxDoubled dcxDoubled pmxDoubled anxDoubled cdxDoubled ctxDoubled),slxDoubled⟩) (cxDoubled:PySem.W.codeIn K cdxDoubled "Doubled.__init__"=true) (kxDoubled:PySem.W.keepIn K (.ref fxDoubled)=true) (xxDoubled:xcB K CDoubled fxDoubled=true) (nxDoubled:PySem.W.findIn K (.ref CDoubled) "number"=some none) (bxDoubled:xbB K CDoubled=true)
  (gT:PySem.W.nsIn K mainGlobals "TableError"=some (some (.ref CTableError))) (bT:xbB K CTableError=true)
  (s_NoRule_NoRule:subK K CNoRule CNoRule=true)
  (s_Doubled_NoRule:subK K CDoubled CNoRule=false)
  (s_Doubled_Doubled:subK K CDoubled CDoubled=true)
  (s_NoHead_NoRule:subK K CNoHead CNoRule=false)
  (s_NoHead_Doubled:subK K CNoHead CDoubled=false)
  (s_NoHead_NoHead:subK K CNoHead CNoHead=true)
  (s_NoRanks_NoRule:subK K CNoRanks CNoRule=false)
  (s_NoRanks_Doubled:subK K CNoRanks CDoubled=false)
  (s_NoRanks_NoHead:subK K CNoRanks CNoHead=false)
  (s_NoRanks_NoRanks:subK K CNoRanks CNoRanks=true)
  (s_TooMany_NoRule:subK K CTooMany CNoRule=false)
  (s_TooMany_Doubled:subK K CTooMany CDoubled=false)
  (s_TooMany_NoHead:subK K CTooMany CNoHead=false)
  (s_TooMany_NoRanks:subK K CTooMany CNoRanks=false)
  (s_TooMany_TooMany:subK K CTooMany CTooMany=true)
  (gG:PySem.W.nsIn K mainGlobals "Grammar"=some (some (.ref CGrammar))) (aG:PySem.W.findIn K (.ref CGrammar) "__init__"=some (some (.ref fG))) (lG:K.lookup fG=some ⟨ocG,odG,.func (PySem.W.fnOf "__init__" "Grammar.__init__" (defArgs u1g) (defBody u1g) (defScope u1g) (.ref tG) kVG dcG pmG anG cdG ctG),slG⟩) (ltG:K.lookup tG=some ⟨oct,odt,.seq #[.none] nT,slt⟩) (cG:PySem.W.codeIn K cdG "Grammar.__init__"=true)
  (pgG:PySem.W.plainGet K CGrammar Str.empty=true)
  (hdG:PySem.W.hasDictIn K CGrammar=true)
  (poG:PySem.W.plainOver K CGrammar=true)
  (saG:PySem.W.findIn K (.ref CGrammar) "__setattr__"=some (some (.builtin "object.__setattr__")))
  (mkG:PySem.W.makesIn K CGrammar=true)
  (fnG:PySem.W.isFn K (.ref fG)=true)
  (kpG:PySem.W.keepIn K (.ref CGrammar)=true)
  (naRu:PySem.W.findIn K (.ref CGrammar) "rules"=some none)
  (naRa:PySem.W.findIn K (.ref CGrammar) "ranks"=some none)
  (naSt:PySem.W.findIn K (.ref CGrammar) "start"=some none)
  (nl:noLst K=true)
  (gSI:PySem.W.nsIn K mainGlobals "SIDES"=some (some (.ref aS))) (lS:K.lookup aS=some ⟨.type "tuple",odS,.seq #[.str "left" ts1,.str "right" ts2,.str "none" ts3] nS,slS⟩)
  (gMOST_IN_BODY:PySem.W.nsIn K mainGlobals "MOST_IN_BODY"=some (some (.int 4 tMOST_IN_BODY)))
  (gMOST_IN_RANK:PySem.W.nsIn K mainGlobals "MOST_IN_RANK"=some (some (.int 10 tMOST_IN_RANK)))
  (gMOST_RULES:PySem.W.nsIn K mainGlobals "MOST_RULES"=some (some (.int 20 tMOST_RULES)))
  (gMOST_HEADS:PySem.W.nsIn K mainGlobals "MOST_HEADS"=some (some (.int 8 tMOST_HEADS)))
  (gMOST_SIGNS:PySem.W.nsIn K mainGlobals "MOST_SIGNS"=some (some (.int 10 tMOST_SIGNS)))
  (gMOST_RANKS:PySem.W.nsIn K mainGlobals "MOST_RANKS"=some (some (.int 6 tMOST_RANKS)))
  (gLONGEST:PySem.W.nsIn K mainGlobals "LONGEST"=some (some (.int 6 tLONGEST)))
  (gIN_SIGNS:PySem.W.nsIn K mainGlobals "IN_SIGNS"=some (some (.str "abcdefghijklmnopqrstuvwxyz0123456789+-*/()[]=<>,;.!?^&" tIN_SIGNS)))
  (gGREAT:PySem.W.nsIn K mainGlobals "GREAT"=some (some (.str "ABCDEFGHIJKLMNOPQRSTUVWXYZ" tGREAT)))
  (gSMALL_AND_FIGURES:PySem.W.nsIn K mainGlobals "SMALL_AND_FIGURES"=some (some (.str "abcdefghijklmnopqrstuvwxyz0123456789" tSMALL_AND_FIGURES)))
  (z_isinstance:PySem.W.nsIn K mainGlobals "isinstance"=some none)
  (z_str:PySem.W.nsIn K mainGlobals "str"=some none)
  (z_int:PySem.W.nsIn K mainGlobals "int"=some none)
  (z_bool:PySem.W.nsIn K mainGlobals "bool"=some none)
  (z_list:PySem.W.nsIn K mainGlobals "list"=some none)
  (z_tuple:PySem.W.nsIn K mainGlobals "tuple"=some none)
  (z_dict:PySem.W.nsIn K mainGlobals "dict"=some none)
  (z_len:PySem.W.nsIn K mainGlobals "len"=some none)
  (z_all:PySem.W.nsIn K mainGlobals "all"=some none)
  (z_range:PySem.W.nsIn K mainGlobals "range"=some none)
  (z_enumerate:PySem.W.nsIn K mainGlobals "enumerate"=some none)
  (z_sorted:PySem.W.nsIn K mainGlobals "sorted"=some none)
  (z_set:PySem.W.nsIn K mainGlobals "set"=some none)
  : ∃ fd:FuncData,(∀ (s:Shared) (v:Value),BindsTo s fd ⟨[v],[]⟩ [("_law_script",v)])∧∀ base:Heap,K.In base→base.Ns mainGlobals mg→FnOk l.prog w K mg base (CXe l.prog w) 10 fa fd ["_law_script"] (spLaw5 K):=by
 have e:=hfa.symm.trans (PySem.W.mg_of X G a45)
 cases e
 have XNoRule:=u4E xxNoRule
 have XNoRanks:=u4E xxNoRanks
 have XTooMany:=u4E xxTooMany
 have XNoHead:=u4E xxNoHead
 have XDoubled:=u4E xxDoubled
 let A:Adr:=⟨CNoRule,CNoRanks,CTooMany,CNoHead,CDoubled,CTableError,CGrammar⟩
 have xf:XRead K "found" [CNoRule,CNoRanks,CTooMany]:=by
  intro C hC
  simp only [List.mem_cons,List.not_mem_nil,or_false] at hC
  rcases hC with rfl | rfl | rfl
  ·exact ⟨⟨_,XNoRule⟩,nxNoRule⟩
  ·exact ⟨⟨_,XNoRanks⟩,nxNoRanks⟩
  ·exact ⟨⟨_,XTooMany⟩,nxTooMany⟩
 have xh:XRead K "head" [CNoHead]:=by
  intro C hC
  rw [List.mem_singleton.mp hC]
  exact ⟨⟨_,XNoHead⟩,nxNoHead⟩
 have xn:XRead K "number" [CDoubled]:=by
  intro C hC
  rw [List.mem_singleton.mp hC]
  exact ⟨⟨_,XDoubled⟩,nxDoubled⟩
 have T:Txt K mg A:={ z_isinstance:=PySem.W.mg_none_of X G z_isinstance,z_str:=PySem.W.mg_none_of X G z_str,z_int:=PySem.W.mg_none_of X G z_int,z_bool:=PySem.W.mg_none_of X G z_bool,z_list:=PySem.W.mg_none_of X G z_list,z_tuple:=PySem.W.mg_none_of X G z_tuple,z_dict:=PySem.W.mg_none_of X G z_dict,z_len:=PySem.W.mg_none_of X G z_len,z_all:=PySem.W.mg_none_of X G z_all,z_range:=PySem.W.mg_none_of X G z_range,z_enumerate:=PySem.W.mg_none_of X G z_enumerate,z_sorted:=PySem.W.mg_none_of X G z_sorted,z_set:=PySem.W.mg_none_of X G z_set,g_SIDES:=⟨.ref aS,⟨_,PySem.W.mg_of X G gSI,rfl⟩,fun F=>.tup (xs:=[.str "left",.str "right",.str "none"]) (.inr ⟨_,_,_,lS,rfl,rfl,(show 3≤sizeLine by decide),.cons ⟨_,rfl⟩ (.cons ⟨_,rfl⟩ (.cons ⟨_,rfl⟩ .nil))⟩) (.cons (.str (by decide +kernel)) (.cons (.str (by decide +kernel)) (.cons (.str (by decide +kernel)) .nil)))⟩,g_MOST_IN_BODY:=⟨.int _,⟨_,PySem.W.mg_of X G gMOST_IN_BODY,⟨_,rfl⟩⟩,fun F=>.int _⟩,g_MOST_IN_RANK:=⟨.int _,⟨_,PySem.W.mg_of X G gMOST_IN_RANK,⟨_,rfl⟩⟩,fun F=>.int _⟩,g_MOST_RULES:=⟨.int _,⟨_,PySem.W.mg_of X G gMOST_RULES,⟨_,rfl⟩⟩,fun F=>.int _⟩,g_MOST_HEADS:=⟨.int _,⟨_,PySem.W.mg_of X G gMOST_HEADS,⟨_,rfl⟩⟩,fun F=>.int _⟩,g_MOST_SIGNS:=⟨.int _,⟨_,PySem.W.mg_of X G gMOST_SIGNS,⟨_,rfl⟩⟩,fun F=>.int _⟩,g_MOST_RANKS:=⟨.int _,⟨_,PySem.W.mg_of X G gMOST_RANKS,⟨_,rfl⟩⟩,fun F=>.int _⟩,g_LONGEST:=⟨.int _,⟨_,PySem.W.mg_of X G gLONGEST,⟨_,rfl⟩⟩,fun F=>.int _⟩,g_IN_SIGNS:=⟨.str _,⟨_,PySem.W.mg_of X G gIN_SIGNS,⟨_,rfl⟩⟩,fun F=>.str (by decide +kernel)⟩,g_GREAT:=⟨.str _,⟨_,PySem.W.mg_of X G gGREAT,⟨_,rfl⟩⟩,fun F=>.str (by decide +kernel)⟩,g_SMALL_AND_FIGURES:=⟨.str _,⟨_,PySem.W.mg_of X G gSMALL_AND_FIGURES,⟨_,rfl⟩⟩,fun F=>.str (by decide +kernel)⟩,m_NoRule:=PySem.W.mg_of X G gxNoRule,b_NoRule:=u2u bxNoRule,m_NoRanks:=PySem.W.mg_of X G gxNoRanks,b_NoRanks:=u2u bxNoRanks,m_TooMany:=PySem.W.mg_of X G gxTooMany,b_TooMany:=u2u bxTooMany,m_NoHead:=PySem.W.mg_of X G gxNoHead,b_NoHead:=u2u bxNoHead,m_Doubled:=PySem.W.mg_of X G gxDoubled,b_Doubled:=u2u bxDoubled,m_TableError:=PySem.W.mg_of X G gT,b_TableError:=u2u bT,cls:=⟨pgG,hdG,poG,saG⟩,na_rules:=naRu,na_ranks:=naRa,na_start:=naSt,x_found:=xf,x_head:=xh,x_number:=xn }
 have Hn:Hnd K A:={ xb_NoRule:=bxNoRule,xb_Doubled:=bxDoubled,xb_NoHead:=bxNoHead,xb_NoRanks:=bxNoRanks,xb_TooMany:=bxTooMany,sb_NoRule_NoRule:=s_NoRule_NoRule,sb_Doubled_NoRule:=s_Doubled_NoRule,sb_Doubled_Doubled:=s_Doubled_Doubled,sb_NoHead_NoRule:=s_NoHead_NoRule,sb_NoHead_Doubled:=s_NoHead_Doubled,sb_NoHead_NoHead:=s_NoHead_NoHead,sb_NoRanks_NoRule:=s_NoRanks_NoRule,sb_NoRanks_Doubled:=s_NoRanks_Doubled,sb_NoRanks_NoHead:=s_NoRanks_NoHead,sb_NoRanks_NoRanks:=s_NoRanks_NoRanks,sb_TooMany_NoRule:=s_TooMany_NoRule,sb_TooMany_Doubled:=s_TooMany_Doubled,sb_TooMany_NoHead:=s_TooMany_NoHead,sb_TooMany_NoRanks:=s_TooMany_NoRanks,sb_TooMany_TooMany:=s_TooMany_TooMany }
 have F0:=u0m (st:=u0X) l0 c0 k0
 have b0:=F0.binds (ps:=["thing"]) fun _ _ _ _ _ _ us hl=>match us,hl with | [_],_=>rfl
 have F1:=u0m (st:=u1S) l1 c1 k1
 have b1:=F1.binds (ps:=["text","allowed"]) fun _ _ _ _ _ _ us hl=>match us,hl with | [_,_],_=>rfl
 have F2:=u0m (st:=u2E) l2 c2 k2
 have b2:=F2.binds (ps:=["thing"]) fun _ _ _ _ _ _ us hl=>match us,hl with | [_],_=>rfl
 have F3:=u0m (st:=u2J) l3 c3 k3
 have b3:=F3.binds (ps:=["thing"]) fun _ _ _ _ _ _ us hl=>match us,hl with | [_],_=>rfl
 have F4:=u0m (st:=u1Q) l4 c4 k4
 have b4:=F4.binds (ps:=["thing"]) fun _ _ _ _ _ _ us hl=>match us,hl with | [_],_=>rfl
 have F5:=u0m (st:=u2I) l5 c5 k5
 have b5:=F5.binds (ps:=["thing"]) fun _ _ _ _ _ _ us hl=>match us,hl with | [_],_=>rfl
 have F6:=u0m (st:=u2o) l6 c6 k6
 have b6:=F6.binds (ps:=["thing"]) fun _ _ _ _ _ _ us hl=>match us,hl with | [_],_=>rfl
 have F7:=u0m (st:=u2G) l7 c7 k7
 have b7:=F7.binds (ps:=["thing"]) fun _ _ _ _ _ _ us hl=>match us,hl with | [_],_=>rfl
 have F8:=u0m (st:=u2F) l8 c8 k8
 have b8:=F8.binds (ps:=["thing"]) fun _ _ _ _ _ _ us hl=>match us,hl with | [_],_=>rfl
 have F9:=u0m (st:=u0J) l9 c9 k9
 have b9:=F9.binds (ps:=["thing"]) fun _ _ _ _ _ _ us hl=>match us,hl with | [_],_=>rfl
 have F10:=u0m (st:=u2H) l10 c10 k10
 have b10:=F10.binds (ps:=["thing"]) fun _ _ _ _ _ _ us hl=>match us,hl with | [_],_=>rfl
 have F11:=u0m (st:=u1R) l11 c11 k11
 have b11:=F11.binds (ps:=["rules"]) fun _ _ _ _ _ _ us hl=>match us,hl with | [_],_=>rfl
 have F12:=u0m (st:=u2f) l12 c12 k12
 have b12:=F12.binds (ps:=["rules"]) fun _ _ _ _ _ _ us hl=>match us,hl with | [_],_=>rfl
 have F13:=u0m (st:=u1E) l13 c13 k13
 have b13:=F13.binds (ps:=["rules"]) fun _ _ _ _ _ _ us hl=>match us,hl with | [_],_=>rfl
 have F14:=u0m (st:=u0D) l14 c14 k14
 have b14:=F14.binds (ps:=["rules"]) fun _ _ _ _ _ _ us hl=>match us,hl with | [_],_=>rfl
 have F15:=u0m (st:=u0E) l15 c15 k15
 have b15:=F15.binds (ps:=["rules"]) fun _ _ _ _ _ _ us hl=>match us,hl with | [_],_=>rfl
 have F16:=u0m (st:=u1F) l16 c16 k16
 have b16:=F16.binds (ps:=["ranks"]) fun _ _ _ _ _ _ us hl=>match us,hl with | [_],_=>rfl
 have F17:=u0m (st:=u2i) l17 c17 k17
 have b17:=F17.binds (ps:=["_law_script","_law_k"]) fun _ _ _ _ _ _ us hl=>match us,hl with | [_,_],_=>rfl
 have F18:=u0m (st:=u2g) l18 c18 k18
 have b18:=F18.binds (ps:=["_law_cell_here","_law_k"]) fun _ _ _ _ _ _ us hl=>match us,hl with | [_,_],_=>rfl
 have F19:=u0m (st:=u2C) l19 c19 k19
 have b19:=F19.binds (ps:=["_law_script","_law_at","_law_base","_law_count"]) fun _ _ _ _ _ _ us hl=>match us,hl with | [_,_,_,_],_=>rfl
 have F20:=u0m (st:=u1C) l20 c20 k20
 have b20:=F20.binds (ps:=["_law_cell_here","_law_many"]) fun _ _ _ _ _ _ us hl=>match us,hl with | [_,_],_=>rfl
 have F21:=u0m (st:=u1A) l21 c21 k21
 have b21:=F21.binds (ps:=["_law_cell_here","_law_many"]) fun _ _ _ _ _ _ us hl=>match us,hl with | [_,_],_=>rfl
 have F22:=u0m (st:=u1M) l22 c22 k22
 have b22:=F22.binds (ps:=["_law_number"]) fun _ _ _ _ _ _ us hl=>match us,hl with | [_],_=>rfl
 have F23:=u0m (st:=u1G) l23 c23 k23
 have b23:=F23.binds (ps:=["_law_number","_law_heads_here","_law_signs_here"]) fun _ _ _ _ _ _ us hl=>match us,hl with | [_,_,_],_=>rfl
 have F24:=u0m (st:=u0A) l24 c24 k24
 have b24:=F24.binds (ps:=["_law_script","_law_at","_law_heads_here","_law_signs_here","_law_more"]) fun _ _ _ _ _ _ us hl=>match us,hl with | [_,_,_,_,_],_=>rfl
 have F25:=u0m (st:=u1B) l25 c25 k25
 have b25:=F25.binds (ps:=["_law_script","_law_at"]) fun _ _ _ _ _ _ us hl=>match us,hl with | [_,_],_=>rfl
 have F26:=u0m (st:=u1O) l26 c26 k26
 have b26:=F26.binds (ps:=["_law_script","_law_at"]) fun _ _ _ _ _ _ us hl=>match us,hl with | [_,_],_=>rfl
 have F27:=u0m (st:=u1b) l27 c27 k27
 have b27:=F27.binds (ps:=["_law_thing"]) fun _ _ _ _ _ _ us hl=>match us,hl with | [_],_=>rfl
 have F28:=u0m (st:=u1e) l28 c28 k28
 have b28:=F28.binds (ps:=["_law_thing"]) fun _ _ _ _ _ _ us hl=>match us,hl with | [_],_=>rfl
 have F29:=u0m (st:=u1c) l29 c29 k29
 have b29:=F29.binds (ps:=["_law_thing"]) fun _ _ _ _ _ _ us hl=>match us,hl with | [_],_=>rfl
 have F30:=u0m (st:=u0U) l30 c30 k30
 have b30:=F30.binds (ps:=["_law_rules_here"]) fun _ _ _ _ _ _ us hl=>match us,hl with | [_],_=>rfl
 have F31:=u0m (st:=u0I) l31 c31 k31
 have b31:=F31.binds (ps:=["_law_rules_here"]) fun _ _ _ _ _ _ us hl=>match us,hl with | [_],_=>rfl
 have F32:=u0m (st:=u1d) l32 c32 k32
 have b32:=F32.binds (ps:=["_law_thing"]) fun _ _ _ _ _ _ us hl=>match us,hl with | [_],_=>rfl
 have F33:=u0m (st:=u0V) l33 c33 k33
 have b33:=F33.binds (ps:=["_law_ranks_here"]) fun _ _ _ _ _ _ us hl=>match us,hl with | [_],_=>rfl
 have F34:=u0m (st:=u2D) l34 c34 k34
 have b34:=F34.binds (ps:=["_law_rules_here","_law_ranks_here"]) fun _ _ _ _ _ _ us hl=>match us,hl with | [_,_],_=>rfl
 have F35:=u0m (st:=u1P) l35 c35 k35
 have b35:=F35.binds (ps:=["_law_thing"]) fun _ _ _ _ _ _ us hl=>match us,hl with | [_],_=>rfl
 have F36:=u0m (st:=u2h) l36 c36 k36
 have b36:=F36.binds (ps:=["_law_told","_law_due_here"]) fun _ _ _ _ _ _ us hl=>match us,hl with | [_,_],_=>rfl
 have F37:=u0m (st:=u1i) l37 c37 k37
 have b37:=F37.binds (ps:=["_law_kind"]) fun _ _ _ _ _ _ us hl=>match us,hl with | [_],_=>rfl
 have F38:=u0m (st:=u0G) l38 c38 k38
 have b38:=F38.binds (ps:=["_law_rules_here","_law_many"]) fun _ _ _ _ _ _ us hl=>match us,hl with | [_,_],_=>rfl
 have F39:=u0m (st:=u0Y) l39 c39 k39
 have b39:=F39.binds (ps:=["_law_rules_here","_law_way","_law_at","_law_kind"]) fun _ _ _ _ _ _ us hl=>match us,hl with | [_,_,_,_],_=>rfl
 have F40:=u0m (st:=u1p) l40 c40 k40
 have b40:=F40.binds (ps:=["_law_script"]) fun _ _ _ _ _ _ us hl=>match us,hl with | [_],_=>rfl
 have F41:=u0m (st:=u0W) l41 c41 k41
 have b41:=F41.binds (ps:=["_law_ranks_here","_law_kind"]) fun _ _ _ _ _ _ us hl=>match us,hl with | [_,_],_=>rfl
 have F42:=u0m (st:=u0t) l42 c42 k42
 have b42:=F42.binds (ps:=["_law_script"]) fun _ _ _ _ _ _ us hl=>match us,hl with | [_],_=>rfl
 have F43:=u0m (st:=u1s) l43 c43 k43
 have b43:=F43.binds (ps:=["_law_rules_here","_law_ranks_here"]) fun _ _ _ _ _ _ us hl=>match us,hl with | [_,_],_=>rfl
 have F44:=u0m (st:=u1N) l44 c44 k44
 have b44:=F44.binds (ps:=["_law_grammar","_law_rules_here","_law_ranks_here"]) fun _ _ _ _ _ _ us hl=>match us,hl with | [_,_,_],_=>rfl
 have F45:=u0m (st:=u5Y) l45 c45 k45
 have FxNoRule:=u0m (st:=u2K) lxNoRule cxNoRule kxNoRule
 have bbNoRule:=FxNoRule.binds (ps:=["self","found"]) fun _ _ _ _ _ _ us hl=>match us,hl with | [_,_],_=>rfl
 have FxNoRanks:=u0m (st:=u2k) lxNoRanks cxNoRanks kxNoRanks
 have bbNoRanks:=FxNoRanks.binds (ps:=["self","found"]) fun _ _ _ _ _ _ us hl=>match us,hl with | [_,_],_=>rfl
 have FxTooMany:=u0m (st:=u2j) lxTooMany cxTooMany kxTooMany
 have bbTooMany:=FxTooMany.binds (ps:=["self","found"]) fun _ _ _ _ _ _ us hl=>match us,hl with | [_,_],_=>rfl
 have FxNoHead:=u0m (st:=u2L) lxNoHead cxNoHead kxNoHead
 have bbNoHead:=FxNoHead.binds (ps:=["self","head"]) fun _ _ _ _ _ _ us hl=>match us,hl with | [_,_],_=>rfl
 have FxDoubled:=u0m (st:=u2l) lxDoubled cxDoubled kxDoubled
 have bbDoubled:=FxDoubled.binds (ps:=["self","number"]) fun _ _ _ _ _ _ us hl=>match us,hl with | [_,_],_=>rfl
 have FG:FunD K "__init__" "Grammar.__init__" u1g fG _:=⟨_,_,_,_,_,_,_,_,_,_,rfl,lG,cG⟩
 have bG3:Binds K (PySem.W.fnOf "__init__" "Grammar.__init__" (defArgs u1g) (defBody u1g) (defScope u1g) (.ref tG) kVG dcG pmG anG cdG ctG) ["self","rules","ranks"] []:=fun s us XI hl=>match us,hl with | [_,_,_],_=>BindsTo.of_defaults rfl (XI _ _ ltG) rfl rfl rfl
 have bG2:Binds K (PySem.W.fnOf "__init__" "Grammar.__init__" (defArgs u1g) (defBody u1g) (defScope u1g) (.ref tG) kVG dcG pmG anG cdG ctG) ["self","rules","ranks"] [.none]:=fun s us XI hl=>by
  match us,hl with
  | [_,_],_=>exact BindsTo.of_defaults rfl (XI _ _ ltG) rfl rfl rfl
  | [],h=>simp at h
  | [_],h=>simp at h
  | _::_::_::_,h=>simp at h
 have MG:Mk K CGrammar fG:=⟨mkG,aG,fnG,kpG⟩
 refine ⟨PySem.W.fnOf "law" "law" (defArgs u5Y) (defBody u5Y) (defScope u5Y) .none kV45 dc45 pm45 an45 cd45 ct45,fun s v=>.of_eq rfl,fun base _ _=>?_⟩
 have E_NoRule:XCalleeF l.prog w K mg base 1 "NoRule" A.NoRule ["self","found"] ["found"]:=⟨fxNoRule,_,XNoRule,u8k FxNoRule XNoRule nxNoRule,bbNoRule,PySem.W.mg_of X G gxNoRule⟩
 have E_NoRanks:XCalleeF l.prog w K mg base 1 "NoRanks" A.NoRanks ["self","found"] ["found"]:=⟨fxNoRanks,_,XNoRanks,u6V FxNoRanks XNoRanks nxNoRanks,bbNoRanks,PySem.W.mg_of X G gxNoRanks⟩
 have E_TooMany:XCalleeF l.prog w K mg base 1 "TooMany" A.TooMany ["self","found"] ["found"]:=⟨fxTooMany,_,XTooMany,u6U FxTooMany XTooMany nxTooMany,bbTooMany,PySem.W.mg_of X G gxTooMany⟩
 have E_NoHead:XCalleeF l.prog w K mg base 1 "NoHead" A.NoHead ["self","head"] ["head"]:=⟨fxNoHead,_,XNoHead,u8l FxNoHead XNoHead nxNoHead,bbNoHead,PySem.W.mg_of X G gxNoHead⟩
 have E_Doubled:XCalleeF l.prog w K mg base 1 "Doubled" A.Doubled ["self","number"] ["number"]:=⟨fxDoubled,_,XDoubled,u6W FxDoubled XDoubled nxDoubled,bbDoubled,PySem.W.mg_of X G gxDoubled⟩
 obtain ⟨G_law_cell,H__law_cell,P__law_cell⟩:=u8h (P:=l.prog) (w:=w) (mg:=mg) (base:=base) (A:=A)  F17 T
 have C__law_cell:Callee l.prog w K mg base 1 "_law_cell" ["_law_script","_law_k"] (spF K G_law_cell):=⟨f17,_,H__law_cell,b17,k17,PySem.W.mg_of X G a17⟩
 obtain ⟨G_law_stir,H__law_stir,P__law_stir⟩:=u8f (P:=l.prog) (w:=w) (mg:=mg) (base:=base) (A:=A)  F18 T
 have C__law_stir:Callee l.prog w K mg base 1 "_law_stir" ["_law_cell_here","_law_k"] (spF K G_law_stir):=⟨f18,_,H__law_stir,b18,k18,PySem.W.mg_of X G a18⟩
 obtain ⟨G_law_row,H__law_row,P__law_row⟩:=u9Q (P:=l.prog) (w:=w) (mg:=mg) (base:=base) (A:=A) (c__law_cell:=C__law_cell) (c__law_stir:=C__law_stir) (p_cell:=P__law_cell) (p_stir:=P__law_stir) F19 T
 have C__law_row:Callee l.prog w K mg base 2 "_law_row" ["_law_script","_law_at","_law_base","_law_count"] (spF K G_law_row):=⟨f19,_,H__law_row,b19,k19,PySem.W.mg_of X G a19⟩
 obtain ⟨G_law_heads,H__law_heads,P__law_heads⟩:=u6Q (P:=l.prog) (w:=w) (mg:=mg) (base:=base) (A:=A)  F20 T
 have C__law_heads:Callee l.prog w K mg base 1 "_law_heads" ["_law_cell_here","_law_many"] (spF K G_law_heads):=⟨f20,_,H__law_heads,b20,k20,PySem.W.mg_of X G a20⟩
 obtain ⟨G_law_signs,H__law_signs,P__law_signs⟩:=u6K (P:=l.prog) (w:=w) (mg:=mg) (base:=base) (A:=A)  F21 T
 have C__law_signs:Callee l.prog w K mg base 1 "_law_signs" ["_law_cell_here","_law_many"] (spF K G_law_signs):=⟨f21,_,H__law_signs,b21,k21,PySem.W.mg_of X G a21⟩
 obtain ⟨G_law_drawn_rules,H__law_drawn_rules,P__law_drawn_rules⟩:=u3E (P:=l.prog) (w:=w) (mg:=mg) (base:=base) (A:=A) (c__law_row:=C__law_row) (p_row:=P__law_row) F24 T
 have C__law_drawn_rules:Callee l.prog w K mg base 3 "_law_drawn_rules" ["_law_script","_law_at","_law_heads_here","_law_signs_here","_law_more"] (spF K G_law_drawn_rules):=⟨f24,_,H__law_drawn_rules,b24,k24,PySem.W.mg_of X G a24⟩
 obtain ⟨G_law_shape,H__law_shape,P__law_shape⟩:=u6L (P:=l.prog) (w:=w) (mg:=mg) (base:=base) (A:=A)  F22 T
 have C__law_shape:Callee l.prog w K mg base 1 "_law_shape" ["_law_number"] (spF K G_law_shape):=⟨f22,_,H__law_shape,b22,k22,PySem.W.mg_of X G a22⟩
 obtain ⟨G_law_symbol,H__law_symbol,P__law_symbol⟩:=u6f (P:=l.prog) (w:=w) (mg:=mg) (base:=base) (A:=A)  F23 T
 have C__law_symbol:Callee l.prog w K mg base 1 "_law_symbol" ["_law_number","_law_heads_here","_law_signs_here"] (spF K G_law_symbol):=⟨f23,_,H__law_symbol,b23,k23,PySem.W.mg_of X G a23⟩
 obtain ⟨G_law_rules,H__law_rules,P__law_rules⟩:=u6M (P:=l.prog) (w:=w) (mg:=mg) (base:=base) (A:=A) (c__law_row:=C__law_row) (c__law_heads:=C__law_heads) (c__law_signs:=C__law_signs) (c__law_drawn_rules:=C__law_drawn_rules) (c__law_shape:=C__law_shape) (c__law_symbol:=C__law_symbol) (p_row:=P__law_row) (p_heads:=P__law_heads) (p_signs:=P__law_signs) (p_shape:=P__law_shape) (p_symb:=P__law_symbol) (p_drawn:=P__law_drawn_rules) F25 T
 have C__law_rules:Callee l.prog w K mg base 4 "_law_rules" ["_law_script","_law_at"] (spF K G_law_rules):=⟨f25,_,H__law_rules,b25,k25,PySem.W.mg_of X G a25⟩
 obtain ⟨G_law_more_rules,H__law_more_rules,P__law_more_rules⟩:=u3O (P:=l.prog) (w:=w) (mg:=mg) (base:=base) (A:=A)  F38 T
 have C__law_more_rules:Callee l.prog w K mg base 1 "_law_more_rules" ["_law_rules_here","_law_many"] (spF K G_law_more_rules):=⟨f38,_,H__law_more_rules,b38,k38,PySem.W.mg_of X G a38⟩
 obtain ⟨G_law_odd_rule,H__law_odd_rule,P__law_odd_rule⟩:=u4K (P:=l.prog) (w:=w) (mg:=mg) (base:=base) (A:=A)  F37 T
 have C__law_odd_rule:Callee l.prog w K mg base 1 "_law_odd_rule" ["_law_kind"] (spF K G_law_odd_rule):=⟨f37,_,H__law_odd_rule,b37,k37,PySem.W.mg_of X G a37⟩
 obtain ⟨G_law_faulty,H__law_faulty,P__law_faulty⟩:=u6h (P:=l.prog) (w:=w) (mg:=mg) (base:=base) (A:=A) (c__law_more_rules:=C__law_more_rules) (c__law_odd_rule:=C__law_odd_rule) (p_more:=P__law_more_rules) (p_odd:=P__law_odd_rule) F39 T
 have C__law_faulty:Callee l.prog w K mg base 2 "_law_faulty" ["_law_rules_here","_law_way","_law_at","_law_kind"] (spF K G_law_faulty):=⟨f39,_,H__law_faulty,b39,k39,PySem.W.mg_of X G a39⟩
 obtain ⟨G_law_is_head,H__law_is_head,P__law_is_head⟩:=u5v (P:=l.prog) (w:=w) (mg:=mg) (base:=base) (A:=A)  F28 T
 have C__law_is_head:Callee l.prog w K mg base 1 "_law_is_head" ["_law_thing"] (spF K G_law_is_head):=⟨f28,_,H__law_is_head,b28,k28,PySem.W.mg_of X G a28⟩
 obtain ⟨G_law_is_sign,H__law_is_sign,P__law_is_sign⟩:=u5s (P:=l.prog) (w:=w) (mg:=mg) (base:=base) (A:=A)  F27 T
 have C__law_is_sign:Callee l.prog w K mg base 1 "_law_is_sign" ["_law_thing"] (spF K G_law_is_sign):=⟨f27,_,H__law_is_sign,b27,k27,PySem.W.mg_of X G a27⟩
 obtain ⟨G_law_is_rule,H__law_is_rule,P__law_is_rule⟩:=u5t (P:=l.prog) (w:=w) (mg:=mg) (base:=base) (A:=A) (c__law_is_head:=C__law_is_head) (c__law_is_sign:=C__law_is_sign) (p__law_is_head:=P__law_is_head) (p__law_is_sign:=P__law_is_sign) F29 T
 have C__law_is_rule:Callee l.prog w K mg base 2 "_law_is_rule" ["_law_thing"] (spF K G_law_is_rule):=⟨f29,_,H__law_is_rule,b29,k29,PySem.W.mg_of X G a29⟩
 obtain ⟨G_law_handed,H__law_handed,P__law_handed⟩:=u6g (P:=l.prog) (w:=w) (mg:=mg) (base:=base) (A:=A) (c__law_rules:=C__law_rules) (c__law_row:=C__law_row) (c__law_faulty:=C__law_faulty) (c__law_is_rule:=C__law_is_rule) (p_rules:=P__law_rules) (p_row:=P__law_row) (p_faulty:=P__law_faulty) (p_rule:=P__law_is_rule) F40 T
 have C__law_handed:Callee l.prog w K mg base 5 "_law_handed" ["_law_script"] (spF K G_law_handed):=⟨f40,_,H__law_handed,b40,k40,PySem.W.mg_of X G a40⟩
 obtain ⟨G_law_ranks,H__law_ranks,P__law_ranks⟩:=u6O (P:=l.prog) (w:=w) (mg:=mg) (base:=base) (A:=A) (c__law_row:=C__law_row) (c__law_signs:=C__law_signs) (p_row:=P__law_row) (p_signs:=P__law_signs) F26 T
 have C__law_ranks:Callee l.prog w K mg base 3 "_law_ranks" ["_law_script","_law_at"] (spF K G_law_ranks):=⟨f26,_,H__law_ranks,b26,k26,PySem.W.mg_of X G a26⟩
 obtain ⟨G_law_is_rank,H__law_is_rank,P__law_is_rank⟩:=u5u (P:=l.prog) (w:=w) (mg:=mg) (base:=base) (A:=A) (c__law_is_sign:=C__law_is_sign) (p__law_is_sign:=P__law_is_sign) F32 T
 have C__law_is_rank:Callee l.prog w K mg base 2 "_law_is_rank" ["_law_thing"] (spF K G_law_is_rank):=⟨f32,_,H__law_is_rank,b32,k32,PySem.W.mg_of X G a32⟩
 obtain ⟨G_law_odd_ranks,H__law_odd_ranks,P__law_odd_ranks⟩:=u4s (P:=l.prog) (w:=w) (mg:=mg) (base:=base) (A:=A)  F41 T
 have C__law_odd_ranks:Callee l.prog w K mg base 1 "_law_odd_ranks" ["_law_ranks_here","_law_kind"] (spF K G_law_odd_ranks):=⟨f41,_,H__law_odd_ranks,b41,k41,PySem.W.mg_of X G a41⟩
 obtain ⟨G_law_handed_ranks,H__law_handed_ranks,P__law_handed_ranks⟩:=u3v (P:=l.prog) (w:=w) (mg:=mg) (base:=base) (A:=A) (c__law_ranks:=C__law_ranks) (c__law_row:=C__law_row) (c__law_is_rank:=C__law_is_rank) (c__law_odd_ranks:=C__law_odd_ranks) (p_ranks:=P__law_ranks) (p_row:=P__law_row) (p_rank:=P__law_is_rank) (p_odd:=P__law_odd_ranks) F42 T
 have C__law_handed_ranks:Callee l.prog w K mg base 4 "_law_handed_ranks" ["_law_script"] (spF K G_law_handed_ranks):=⟨f42,_,H__law_handed_ranks,b42,k42,PySem.W.mg_of X G a42⟩
 obtain ⟨G_law_rules_due,H__law_rules_due,P__law_rules_due⟩:=u4q (P:=l.prog) (w:=w) (mg:=mg) (base:=base) (A:=A) (c__law_is_rule:=C__law_is_rule) (p__law_is_rule:=P__law_is_rule) F30 T
 have C__law_rules_due:Callee l.prog w K mg base 3 "_law_rules_due" ["_law_rules_here"] (spF K G_law_rules_due):=⟨f30,_,H__law_rules_due,b30,k30,PySem.W.mg_of X G a30⟩
 obtain ⟨G_law_heads_due,H__law_heads_due,P__law_heads_due⟩:=u4t (P:=l.prog) (w:=w) (mg:=mg) (base:=base) (A:=A) (c__law_is_head:=C__law_is_head) (c__law_is_sign:=C__law_is_sign) (p__law_is_head:=P__law_is_head) (p__law_is_sign:=P__law_is_sign) F31 T
 have C__law_heads_due:Callee l.prog w K mg base 2 "_law_heads_due" ["_law_rules_here"] (spF K G_law_heads_due):=⟨f31,_,H__law_heads_due,b31,k31,PySem.W.mg_of X G a31⟩
 obtain ⟨G_law_ranks_due,H__law_ranks_due,P__law_ranks_due⟩:=u4r (P:=l.prog) (w:=w) (mg:=mg) (base:=base) (A:=A) (c__law_is_rank:=C__law_is_rank) (p_rank:=P__law_is_rank) F33 T
 have C__law_ranks_due:Callee l.prog w K mg base 3 "_law_ranks_due" ["_law_ranks_here"] (spF K G_law_ranks_due):=⟨f33,_,H__law_ranks_due,b33,k33,PySem.W.mg_of X G a33⟩
 obtain ⟨G_law_due,H__law_due,P__law_due⟩:=u9R (P:=l.prog) (w:=w) (mg:=mg) (base:=base) (A:=A) (c__law_rules_due:=C__law_rules_due) (c__law_heads_due:=C__law_heads_due) (c__law_ranks_due:=C__law_ranks_due) (p_rd:=P__law_rules_due) (p_hd:=P__law_heads_due) (p_kd:=P__law_ranks_due) F34 T
 have C__law_due:Callee l.prog w K mg base 4 "_law_due" ["_law_rules_here","_law_ranks_here"] (spF K G_law_due):=⟨f34,_,H__law_due,b34,k34,PySem.W.mg_of X G a34⟩
 obtain ⟨G_law_right,H__law_right,P__law_right⟩:=u6N (P:=l.prog) (w:=w) (mg:=mg) (base:=base) (A:=A)  F44 T
 have C__law_right:Callee l.prog w K mg base 1 "_law_right" ["_law_grammar","_law_rules_here","_law_ranks_here"] (spF K G_law_right):=⟨f44,_,H__law_right,b44,k44,PySem.W.mg_of X G a44⟩
 obtain ⟨G_law_kinds,H__law_kinds,P__law_kinds⟩:=u6P (P:=l.prog) (w:=w) (mg:=mg) (base:=base) (A:=A)  F35 T
 have C__law_kinds:Callee l.prog w K mg base 1 "_law_kinds" ["_law_thing"] (spF K G_law_kinds):=⟨f35,_,H__law_kinds,b35,k35,PySem.W.mg_of X G a35⟩
 obtain ⟨G_law_same,H__law_same,P__law_same⟩:=u8g (P:=l.prog) (w:=w) (mg:=mg) (base:=base) (A:=A) (c__law_kinds:=C__law_kinds) (p_kinds:=P__law_kinds) F36 T
 have C__law_same:Callee l.prog w K mg base 2 "_law_same" ["_law_told","_law_due_here"] (spF K G_law_same):=⟨f36,_,H__law_same,b36,k36,PySem.W.mg_of X G a36⟩
 obtain ⟨G_is_pair,H_is_pair,P_is_pair⟩:=u9W (P:=l.prog) (w:=w) (mg:=mg) (base:=base) (A:=A)  F5 T
 have C_is_pair:Callee l.prog w K mg base 1 "is_pair" ["thing"] (spF K G_is_pair):=⟨f5,_,H_is_pair,b5,k5,PySem.W.mg_of X G a5⟩
 obtain ⟨G_is_short_text,H_is_short_text,P_is_short_text⟩:=u4u (P:=l.prog) (w:=w) (mg:=mg) (base:=base) (A:=A)  F0 T
 have C_is_short_text:Callee l.prog w K mg base 1 "is_short_text" ["thing"] (spF K G_is_short_text):=⟨f0,_,H_is_short_text,b0,k0,PySem.W.mg_of X G a0⟩
 obtain ⟨G_has_only,H_has_only,P_has_only⟩:=u8j (P:=l.prog) (w:=w) (mg:=mg) (base:=base) (A:=A)  F1 T
 have C_has_only:Callee l.prog w K mg base 1 "has_only" ["text","allowed"] (spF K G_has_only):=⟨f1,_,H_has_only,b1,k1,PySem.W.mg_of X G a1⟩
 obtain ⟨G_is_head,H_is_head,P_is_head⟩:=u9X (P:=l.prog) (w:=w) (mg:=mg) (base:=base) (A:=A) (c_is_short_text:=C_is_short_text) (c_has_only:=C_has_only) (p_short:=P_is_short_text) (p_only:=P_has_only) F3 T
 have C_is_head:Callee l.prog w K mg base 2 "is_head" ["thing"] (spF K G_is_head):=⟨f3,_,H_is_head,b3,k3,PySem.W.mg_of X G a3⟩
 obtain ⟨G_is_sign,H_is_sign,P_is_sign⟩:=u9S (P:=l.prog) (w:=w) (mg:=mg) (base:=base) (A:=A) (c_is_short_text:=C_is_short_text) (c_has_only:=C_has_only) (p_short:=P_is_short_text) (p_only:=P_has_only) F2 T
 have C_is_sign:Callee l.prog w K mg base 2 "is_sign" ["thing"] (spF K G_is_sign):=⟨f2,_,H_is_sign,b2,k2,PySem.W.mg_of X G a2⟩
 obtain ⟨G_is_symbol,H_is_symbol,P_is_symbol⟩:=u6R (P:=l.prog) (w:=w) (mg:=mg) (base:=base) (A:=A) (c_is_sign:=C_is_sign) (c_is_head:=C_is_head) (p_is_sign:=P_is_sign) (p_is_head:=P_is_head) F4 T
 have C_is_symbol:Callee l.prog w K mg base 3 "is_symbol" ["thing"] (spF K G_is_symbol):=⟨f4,_,H_is_symbol,b4,k4,PySem.W.mg_of X G a4⟩
 obtain ⟨G_is_body,H_is_body,P_is_body⟩:=u9Y (P:=l.prog) (w:=w) (mg:=mg) (base:=base) (A:=A) (c_is_symbol:=C_is_symbol) (p_is_symbol:=P_is_symbol) F6 T
 have C_is_body:Callee l.prog w K mg base 4 "is_body" ["thing"] (spF K G_is_body):=⟨f6,_,H_is_body,b6,k6,PySem.W.mg_of X G a6⟩
 obtain ⟨G_is_rule,H_is_rule,P_is_rule⟩:=u9U (P:=l.prog) (w:=w) (mg:=mg) (base:=base) (A:=A) (c_is_pair:=C_is_pair) (c_is_head:=C_is_head) (c_is_body:=C_is_body) (p_is_pair:=P_is_pair) (p_is_head:=P_is_head) (p_is_body:=P_is_body) F7 T
 have C_is_rule:Callee l.prog w K mg base 5 "is_rule" ["thing"] (spF K G_is_rule):=⟨f7,_,H_is_rule,b7,k7,PySem.W.mg_of X G a7⟩
 obtain ⟨G_need_rules,H_need_rules,P_need_rules⟩:=u6d (P:=l.prog) (w:=w) (mg:=mg) (base:=base) (A:=A) (c_is_rule:=C_is_rule) (x_NoRule:=E_NoRule) (x_TooMany:=E_TooMany) (x_Doubled:=E_Doubled) (p_is_rule:=P_is_rule) F13 T
 have C_need_rules:CalleeX l.prog w K mg base 6 "need_rules" ["rules"] G_need_rules:=⟨f13,_,H_need_rules,b13,k13,PySem.W.mg_of X G a13⟩
 obtain ⟨G_heads_in,H_heads_in,P_heads_in⟩:=u8i (P:=l.prog) (w:=w) (mg:=mg) (base:=base) (A:=A)  F11 T
 have C_heads_in:Callee l.prog w K mg base 1 "heads_in" ["rules"] (spF K G_heads_in):=⟨f11,_,H_heads_in,b11,k11,PySem.W.mg_of X G a11⟩
 obtain ⟨G_need_known_heads,H_need_known_heads,P_need_known_heads⟩:=u3t (P:=l.prog) (w:=w) (mg:=mg) (base:=base) (A:=A) (c_heads_in:=C_heads_in) (c_is_head:=C_is_head) (x_NoHead:=E_NoHead) (p_is_head:=P_is_head) (p_heads:=P_heads_in) F14 T
 have C_need_known_heads:CalleeX l.prog w K mg base 3 "need_known_heads" ["rules"] G_need_known_heads:=⟨f14,_,H_need_known_heads,b14,k14,PySem.W.mg_of X G a14⟩
 obtain ⟨G_signs_in,H_signs_in,P_signs_in⟩:=u8e (P:=l.prog) (w:=w) (mg:=mg) (base:=base) (A:=A) (c_is_sign:=C_is_sign) (p_is_sign:=P_is_sign) F12 T
 have C_signs_in:Callee l.prog w K mg base 3 "signs_in" ["rules"] (spF K G_signs_in):=⟨f12,_,H_signs_in,b12,k12,PySem.W.mg_of X G a12⟩
 obtain ⟨G_need_few_symbols,H_need_few_symbols,P_need_few_symbols⟩:=u3u (P:=l.prog) (w:=w) (mg:=mg) (base:=base) (A:=A) (c_heads_in:=C_heads_in) (c_signs_in:=C_signs_in) (x_TooMany:=E_TooMany) (p_heads:=P_heads_in) (p_signs:=P_signs_in) F15 T
 have C_need_few_symbols:CalleeX l.prog w K mg base 4 "need_few_symbols" ["rules"] G_need_few_symbols:=⟨f15,_,H_need_few_symbols,b15,k15,PySem.W.mg_of X G a15⟩
 obtain ⟨G_is_side,H_is_side,P_is_side⟩:=u9T (P:=l.prog) (w:=w) (mg:=mg) (base:=base) (A:=A)  F8 T
 have C_is_side:Callee l.prog w K mg base 1 "is_side" ["thing"] (spF K G_is_side):=⟨f8,_,H_is_side,b8,k8,PySem.W.mg_of X G a8⟩
 obtain ⟨G_is_rank_signs,H_is_rank_signs,P_is_rank_signs⟩:=u4v (P:=l.prog) (w:=w) (mg:=mg) (base:=base) (A:=A) (c_is_sign:=C_is_sign) (p_is_sign:=P_is_sign) F9 T
 have C_is_rank_signs:Callee l.prog w K mg base 3 "is_rank_signs" ["thing"] (spF K G_is_rank_signs):=⟨f9,_,H_is_rank_signs,b9,k9,PySem.W.mg_of X G a9⟩
 obtain ⟨G_is_rank,H_is_rank,P_is_rank⟩:=u9V (P:=l.prog) (w:=w) (mg:=mg) (base:=base) (A:=A) (c_is_pair:=C_is_pair) (c_is_side:=C_is_side) (c_is_rank_signs:=C_is_rank_signs) (p_is_pair:=P_is_pair) (p_is_side:=P_is_side) (p_is_rank_signs:=P_is_rank_signs) F10 T
 have C_is_rank:Callee l.prog w K mg base 4 "is_rank" ["thing"] (spF K G_is_rank):=⟨f10,_,H_is_rank,b10,k10,PySem.W.mg_of X G a10⟩
 obtain ⟨G_need_ranks,H_need_ranks,P_need_ranks⟩:=u6e (P:=l.prog) (w:=w) (mg:=mg) (base:=base) (A:=A) (c_is_rank:=C_is_rank) (x_NoRanks:=E_NoRanks) (x_TooMany:=E_TooMany) (p_is_rank:=P_is_rank) F16 T
 have C_need_ranks:CalleeX l.prog w K mg base 5 "need_ranks" ["ranks"] G_need_ranks:=⟨f16,_,H_need_ranks,b16,k16,PySem.W.mg_of X G a16⟩
 have HG:=u9Z (P:=l.prog) (w:=w) (mg:=mg) (base:=base) (A:=A) (c_need_rules:=C_need_rules) (c_need_known_heads:=C_need_known_heads) (c_need_few_symbols:=C_need_few_symbols) (c_need_ranks:=C_need_ranks) (p_nr:=P_need_rules) (p_nk:=P_need_known_heads) (p_nf:=P_need_few_symbols) (p_nn:=P_need_ranks) FG T
 have KG3:KCallee l.prog w K mg base 7 "Grammar" A.Grammar ["self","rules","ranks"] [] (gInit A):=⟨fG,_,[],[],MG,HG,bG3,.nil,fun F=>.nil,PySem.W.mg_of X G gG⟩
 have KG2:KCallee l.prog w K mg base 7 "Grammar" A.Grammar ["self","rules","ranks"] [.non] (gInit A):=⟨fG,_,[.non],[.none],MG,HG,bG2,.cons rfl .nil,fun F=>.cons .non .nil,PySem.W.mg_of X G gG⟩
 obtain ⟨G_law_refusal,H__law_refusal,P__law_refusal⟩:=u5r (P:=l.prog) (w:=w) (mg:=mg) (base:=base) (A:=A) (k_Grammar:=KG3) (k1_Grammar:=KG2) (Hn:=Hn) F43 T
 have C__law_refusal:CalleeX l.prog w K mg base 9 "_law_refusal" ["_law_rules_here","_law_ranks_here"] G_law_refusal:=⟨f43,_,H__law_refusal,b43,k43,PySem.W.mg_of X G a43⟩
 obtain ⟨G_law,H_law,P_law⟩:=pr_law (P:=l.prog) (w:=w) (mg:=mg) (base:=base) (A:=A) (c__law_handed:=C__law_handed) (c__law_handed_ranks:=C__law_handed_ranks) (c__law_due:=C__law_due) (c__law_right:=C__law_right) (c__law_same:=C__law_same) (c__law_refusal:=C__law_refusal) (k_Grammar:=KG3) (k1_Grammar:=KG2) (p_handed:=P__law_handed) (p_handedK:=P__law_handed_ranks) (p_due:=P__law_due) (p_same:=P__law_same) (p_refusal:=P__law_refusal) (p_right:=P__law_right) F45 T
 exact law_imp nl H_law P_law
theorem walk {l:PySem.W.OpenLaw}{q:Program}{loose:List Str}{XP:(Str→Option Value)→Heap→Prop}{YP:World→Heap→Prop}{d:DefRec}{K:Params→PySem.W.Frag} (hn:l.most=some 63) (hdf:d.params.defaults=[])
  (hY:∀ (w:World) (h:Heap),YP w h→(K w.params).In h)
  (F:∀ (w:World) (mg:Str→Option Value) (fa:Addr) (h:Heap),(K w.params).In h→h.Ns mainGlobals mg→mg d.name=some (.ref fa) →
   ∃ fd:FuncData,(∀ (s:Shared) (u:Value),BindsTo s fd ⟨[u],[]⟩ [("_law_script",u)])∧∀ base:Heap,(K w.params).In base→base.Ns mainGlobals mg→FnOk l.prog w (K w.params) mg base (CXe l.prog w) 10 fa fd ["_law_script"] (spLaw5 (K w.params))) :
  PySem.W.WalkO q loose XP YP l.row.toRowW d [] (fun f vs=>PySem.call f vs) :=
 L2.walk_of (n:=63) (k:=10) (x:="_law_script") (CX:=fun w=>CXe l.prog w) (sp:=fun w=>spLaw5 (K w.params)) hn (by decide) hdf ⟨rfl,by decide,by decide⟩ hY F (fun _ H a ns hl hO hS=>⟨a,ns,rfl,hS,fun _=>rfl⟩) fun _ _ _ _ _ ⟨_,_,_,_,_,_,_,_,_,_,_,z⟩=>z
end K05
namespace PySem.W.Fast
def tw2443745608264312033:=0
def tw15047814438019110163:=0
def tw1278766788166717430:=0
def tw123961608716934648:=0
def tw23419847780013678:=0
def tw4542939345264705513:=0
def tw9063469489887412037:=0
def tw5475532969764675530:=0
def tw3818067385065690164:=0
def tw17941471261891743483:=0
def tw4930433052545781479:=0
def tw7872478333091467544:=0
def tw11761117689957240949:=0
def tw14393128846529621965:=0
def tw7670200010817177742:=0
def tw15918356304201260359:=0
def tw14238238075408674539:=0
def tw3886791371084256530:=0
def tw17377420793942422706:=0
def tw14799612330029841496:=0
def tw8635532347140568332:=0
def tw637707205204915174:=0
def tw4881236782116788289:=0
def tw17828637799213433994:=0
def tw8051087961684111082:=0
def tw3418887171919880722:=0
def tw16795250982639576874:=0
def tw6413135861344325241:=0
def tw4429483068175476864:=0
def tw15105922860147054849:=0
def tw16297485120880517787:=0
def tw8839191139035569054:=0
def tw6426775701741197490:=0
def tw1458322664354676560:=0
def tw15295928726318705873:=0
def tw12327789378749956214:=0
def tw566861072256890971:=0
def tw15152001658098368574:=0
def tw11852569001485627346:=0
def tw13096560751351579890:=0
def tw1114086234055843710:=0
def tw15160445271489087857:=0
def tw18106641204986621285:=0
def tw8393016716903029076:=0
def tw4357318751664119877:=0
def tw17827884825375698213:=0
def tw11752906648937870863:=0
def tw16257268917734570350:=0
def tw4093091766866158806:=0
def tw9819661289257773953:=0
def tw10363781120606620211:=0
def tw10981779606347438856:=0
def tw8395088414344378499:=0
def tw5826015996959558405:=0
def tw16276433188301225415:=0
def tw8168082368584270369:=0
def tw6603659277740083736:=0
def tw6947121980730122506:=0
def tw9174973638034944533:=0
def tw8066992502496308855:=0
def tw16110864450069476414:=0
def tw7359584305764599134:=0
def tw3119731901408480246:=0
def tw7531861430453245014:=0
def tw4601962417674063402:=0
def tw1627528932652450688:=0
def tw2014092127815737074:=0
def tw7085884005466456264:=0
def tw6557509977762817095:=0
def tw5175330590369242595:=0
def tw9592641765658177656:=0
def tw13563310872815036191:=0
def tw1741628075263762315:=0
def tw16286464239882550756:=0
def tw6028834303693087082:=0
def tw242114237592435:=0
def tw16438284396446246458:=0
def tw13409006616697877057:=0
def tw18167218884894661845:=0
def tw3763970017222676102:=0
def tw6428180592560124511:=0
def tw7106343188037090444:=0
def tw13519936689277306713:=0
def tw3707417405163594737:=0
def tw1374210004218677745:=0
def tw18185535003776851843:=0
def tw8631075183639334135:=0
def tw8215471765559938922:=0
def tw5847081620653405343:=0
def tw8465438182685988228:=0
def tw636851572501220330:=0
def tw410937567819473471:=0
def tw13671492220279245711:=0
def tw18149662887962979909:=0
def tw14872554254296110206:=0
def tw8877391927516677351:=0
def tw8783507085850328974:=0
def tw7237725510807478356:=0
def tw10756372329944500857:=0
def tw2382610693977318657:=0
def tw3521625759114682116:=0
def tw17716266681873676925:=0
def tw17366460503408074069:=0
def tw6572508433776924403:=0
def tw11185973708826414088:=0
def tw9164510976059320006:=0
def tw16337777905039716639:=0
def tw16570187901940976630:=0
def tw12506005571195818698:=0
def tw11193466274195139946:=0
def tw9884071378604979198:=0
def tw15897454900957960795:=0
def tw8575855961430549937:=0
def tw10770902471863897302:=0
def tw15197171719822412427:=0
def tw7463209908888647421:=0
def tw2827401483983705431:=0
def tw7673653885606589753:=0
def tw1302984188133183664:=0
def tw701035068256432283:=0
def tw12009096642768212492:=0
def tw5539897140471076737:=0
def tw4473311772427201921:=0
def tw4937647293447772271:=0
def tw6641804903788523413:=0
def tw782001342722299663:=0
def tw7959521897789557133:=0
def tw13217660250989984403:=0
def tw4827572425500545384:=0
def tw10278928142843611871:=0
def tw10054934780210622706:=0
def tw15451516429880554084:=0
def tw11932942358672306582:=0
def tw17039249386672822105:=0
def tw6546934292772853211:=0
def tw15558372556659734992:=0
def tw17877006122733951702:=0
def tw16020226885680067937:=0
def tw8691018695655640806:=0
def tw18170343711543232087:=0
def tw10942171252029385808:=0
def tw16654522282171604682:=0
def tw2350606699332162975:=0
def tw7136451610501848396:=0
def tw18321140837557498028:=0
def tw4240609278897358118:=0
def tw1848323428667282817:=0
def tw9219161605984044344:=0
def tw15894931755090801036:=0
def tw7771231393814277904:=0
def tw6732796808737115252:=0
def tw23170098078650343:=0
def tw7894909152094597084:=0
def tw7565930032503122229:=0
def tw5741943446550460751:=0
def tw13970886781498955309:=0
def tw6322140871373382698:=0
def tw10117868559743134498:=0
def tw5106166472386723484:=0
def tw14476493891864846960:=0
def tw8475044651920866326:=0
def tw16457769049299937190:=0
def tw15825612749450660903:=0
def tw17870387581988195515:=0
def tw18181508278079622522:=0
def tw4331374408292007231:=0
def tw7221585369491132924:=0
def tw8863587048778932007:=0
def tw5154856347388961682:=0
def tw6943474277471839940:=0
def tw9085825254424019733:=0
def tw6648932146297346702:=0
def tw4317136062529794963:=0
def tw6983644234806408984:=0
def tw8565286894211481086:=0
def tw15012989718111795159:=0
def tw13385504919276625566:=0
def tw11033117063464748586:=0
def tw17596069511236424910:=0
def tw17080373442718353864:=0
def tw3377333509130994680:=0
def tw9117290638591795322:=0
def tw6074753449559986798:=0
def tw9842867478327636821:=0
def tw2487624982127507125:=0
def tw12374650646402029955:=0
def tw6848907750831329085:=0
def tw6876406333037598272:=0
def tw17828432535101352246:=0
def tw6430908565199091613:=0
def tw15186351801622452311:=0
def tw3819205144396781087:=0
def tw5533760996676409719:=0
def tw14171074053641905777:=0
def tw5108464030469774160:=0
def tw4303430826653745361:=0
def tw6451248315963529017:=0
def tw10001746670037666103:=0
def tw18370097162242424407:=0
def tw18051739868723906073:=0
def tw8677469554889429624:=0
def tw1569831002767665790:=0
def tw1837892226136219421:=0
def tw16523296810097910385:=0
def tw3602871810125381741:=0
def tw2360556107956640222:=0
def tw13551696808044859142:=0
def tw10871140695693107671:=0
def tw8387523829289084212:=0
def tw3808917062427353675:=0
end PySem.W.Fast
open PySem PySem.W PyProof.Rows
set_option maxRecDepth 100000 in
set_option maxHeartbeats 0 in
theorem PySem.Challenge.cw_rulestable_k05_grammars_refused_holds : PySem.Challenge.rw_rulestable_k05_grammars_refused.Holds := by
  w_on; o_law; k_head; (case hw => w_witness2)
  k_fill
  refine K05.walk (l := PySem.Challenge.rw_rulestable_k05_grammars_refused) rfl rfl (fun w h Y => PySem.W.kIn_of Y) ?F
  case F =>
    intro w mg fa h KX G hmg
    refine' K05.all_mk KX G hmg ?a0 ?l0 ?c0 ?k0 ?a1 ?l1 ?c1 ?k1 ?a2 ?l2 ?c2 ?k2 ?a3 ?l3 ?c3 ?k3 ?a4 ?l4 ?c4 ?k4 ?a5 ?l5 ?c5 ?k5 ?a6 ?l6 ?c6 ?k6 ?a7 ?l7 ?c7 ?k7 ?a8 ?l8 ?c8 ?k8 ?a9 ?l9 ?c9 ?k9 ?a10 ?l10 ?c10 ?k10 ?a11 ?l11 ?c11 ?k11 ?a12 ?l12 ?c12 ?k12 ?a13 ?l13 ?c13 ?k13 ?a14 ?l14 ?c14 ?k14 ?a15 ?l15 ?c15 ?k15 ?a16 ?l16 ?c16 ?k16 ?a17 ?l17 ?c17 ?k17 ?a18 ?l18 ?c18 ?k18 ?a19 ?l19 ?c19 ?k19 ?a20 ?l20 ?c20 ?k20 ?a21 ?l21 ?c21 ?k21 ?a22 ?l22 ?c22 ?k22 ?a23 ?l23 ?c23 ?k23 ?a24 ?l24 ?c24 ?k24 ?a25 ?l25 ?c25 ?k25 ?a26 ?l26 ?c26 ?k26 ?a27 ?l27 ?c27 ?k27 ?a28 ?l28 ?c28 ?k28 ?a29 ?l29 ?c29 ?k29 ?a30 ?l30 ?c30 ?k30 ?a31 ?l31 ?c31 ?k31 ?a32 ?l32 ?c32 ?k32 ?a33 ?l33 ?c33 ?k33 ?a34 ?l34 ?c34 ?k34 ?a35 ?l35 ?c35 ?k35 ?a36 ?l36 ?c36 ?k36 ?a37 ?l37 ?c37 ?k37 ?a38 ?l38 ?c38 ?k38 ?a39 ?l39 ?c39 ?k39 ?a40 ?l40 ?c40 ?k40 ?a41 ?l41 ?c41 ?k41 ?a42 ?l42 ?c42 ?k42 ?a43 ?l43 ?c43 ?k43 ?a44 ?l44 ?c44 ?k44 ?a45 ?l45 ?c45 ?k45 ?gxNoRule ?axNoRule ?lxNoRule ?cxNoRule ?kxNoRule ?xxNoRule ?nxNoRule ?bxNoRule ?gxNoRanks ?axNoRanks ?lxNoRanks ?cxNoRanks ?kxNoRanks ?xxNoRanks ?nxNoRanks ?bxNoRanks ?gxTooMany ?axTooMany ?lxTooMany ?cxTooMany ?kxTooMany ?xxTooMany ?nxTooMany ?bxTooMany ?gxNoHead ?axNoHead ?lxNoHead ?cxNoHead ?kxNoHead ?xxNoHead ?nxNoHead ?bxNoHead ?gxDoubled ?axDoubled ?lxDoubled ?cxDoubled ?kxDoubled ?xxDoubled ?nxDoubled ?bxDoubled ?gT ?bT ?s_NoRule_NoRule ?s_Doubled_NoRule ?s_Doubled_Doubled ?s_NoHead_NoRule ?s_NoHead_Doubled ?s_NoHead_NoHead ?s_NoRanks_NoRule ?s_NoRanks_Doubled ?s_NoRanks_NoHead ?s_NoRanks_NoRanks ?s_TooMany_NoRule ?s_TooMany_Doubled ?s_TooMany_NoHead ?s_TooMany_NoRanks ?s_TooMany_TooMany ?gG ?aG ?lG ?ltG ?cG ?pgG ?hdG ?poG ?saG ?mkG ?fnG ?kpG ?naRu ?naRa ?naSt ?nl ?gSI ?lS ?gMOST_IN_BODY ?gMOST_IN_RANK ?gMOST_RULES ?gMOST_HEADS ?gMOST_SIGNS ?gMOST_RANKS ?gLONGEST ?gIN_SIGNS ?gGREAT ?gSMALL_AND_FIGURES ?z_isinstance ?z_str ?z_int ?z_bool ?z_list ?z_tuple ?z_dict ?z_len ?z_all ?z_range ?z_enumerate ?z_sorted ?z_set
    (case a0 => k_is)
    (case l0 => k_is)
    (case c0 => k_is)
    (case k0 => k_is)
    (case a1 => k_is)
    (case l1 => k_is)
    (case c1 => k_is)
    (case k1 => k_is)
    (case a2 => k_is)
    (case l2 => k_is)
    (case c2 => k_is)
    (case k2 => k_is)
    (case a3 => k_is)
    (case l3 => k_is)
    (case c3 => k_is)
    (case k3 => k_is)
    (case a4 => k_is)
    (case l4 => k_is)
    (case c4 => k_is)
    (case k4 => k_is)
    (case a5 => k_is)
    (case l5 => k_is)
    (case c5 => k_is)
    (case k5 => k_is)
    (case a6 => k_is)
    (case l6 => k_is)
    (case c6 => k_is)
    (case k6 => k_is)
    (case a7 => k_is)
    (case l7 => k_is)
    (case c7 => k_is)
    (case k7 => k_is)
    (case a8 => k_is)
    (case l8 => k_is)
    (case c8 => k_is)
    (case k8 => k_is)
    (case a9 => k_is)
    (case l9 => k_is)
    (case c9 => k_is)
    (case k9 => k_is)
    (case a10 => k_is)
    (case l10 => k_is)
    (case c10 => k_is)
    (case k10 => k_is)
    (case a11 => k_is)
    (case l11 => k_is)
    (case c11 => k_is)
    (case k11 => k_is)
    (case a12 => k_is)
    (case l12 => k_is)
    (case c12 => k_is)
    (case k12 => k_is)
    (case a13 => k_is)
    (case l13 => k_is)
    (case c13 => k_is)
    (case k13 => k_is)
    (case a14 => k_is)
    (case l14 => k_is)
    (case c14 => k_is)
    (case k14 => k_is)
    (case a15 => k_is)
    (case l15 => k_is)
    (case c15 => k_is)
    (case k15 => k_is)
    (case a16 => k_is)
    (case l16 => k_is)
    (case c16 => k_is)
    (case k16 => k_is)
    (case a17 => k_is)
    (case l17 => k_is)
    (case c17 => k_is)
    (case k17 => k_is)
    (case a18 => k_is)
    (case l18 => k_is)
    (case c18 => k_is)
    (case k18 => k_is)
    (case a19 => k_is)
    (case l19 => k_is)
    (case c19 => k_is)
    (case k19 => k_is)
    (case a20 => k_is)
    (case l20 => k_is)
    (case c20 => k_is)
    (case k20 => k_is)
    (case a21 => k_is)
    (case l21 => k_is)
    (case c21 => k_is)
    (case k21 => k_is)
    (case a22 => k_is)
    (case l22 => k_is)
    (case c22 => k_is)
    (case k22 => k_is)
    (case a23 => k_is)
    (case l23 => k_is)
    (case c23 => k_is)
    (case k23 => k_is)
    (case a24 => k_is)
    (case l24 => k_is)
    (case c24 => k_is)
    (case k24 => k_is)
    (case a25 => k_is)
    (case l25 => k_is)
    (case c25 => k_is)
    (case k25 => k_is)
    (case a26 => k_is)
    (case l26 => k_is)
    (case c26 => k_is)
    (case k26 => k_is)
    (case a27 => k_is)
    (case l27 => k_is)
    (case c27 => k_is)
    (case k27 => k_is)
    (case a28 => k_is)
    (case l28 => k_is)
    (case c28 => k_is)
    (case k28 => k_is)
    (case a29 => k_is)
    (case l29 => k_is)
    (case c29 => k_is)
    (case k29 => k_is)
    (case a30 => k_is)
    (case l30 => k_is)
    (case c30 => k_is)
    (case k30 => k_is)
    (case a31 => k_is)
    (case l31 => k_is)
    (case c31 => k_is)
    (case k31 => k_is)
    (case a32 => k_is)
    (case l32 => k_is)
    (case c32 => k_is)
    (case k32 => k_is)
    (case a33 => k_is)
    (case l33 => k_is)
    (case c33 => k_is)
    (case k33 => k_is)
    (case a34 => k_is)
    (case l34 => k_is)
    (case c34 => k_is)
    (case k34 => k_is)
    (case a35 => k_is)
    (case l35 => k_is)
    (case c35 => k_is)
    (case k35 => k_is)
    (case a36 => k_is)
    (case l36 => k_is)
    (case c36 => k_is)
    (case k36 => k_is)
    (case a37 => k_is)
    (case l37 => k_is)
    (case c37 => k_is)
    (case k37 => k_is)
    (case a38 => k_is)
    (case l38 => k_is)
    (case c38 => k_is)
    (case k38 => k_is)
    (case a39 => k_is)
    (case l39 => k_is)
    (case c39 => k_is)
    (case k39 => k_is)
    (case a40 => k_is)
    (case l40 => k_is)
    (case c40 => k_is)
    (case k40 => k_is)
    (case a41 => k_is)
    (case l41 => k_is)
    (case c41 => k_is)
    (case k41 => k_is)
    (case a42 => k_is)
    (case l42 => k_is)
    (case c42 => k_is)
    (case k42 => k_is)
    (case a43 => k_is)
    (case l43 => k_is)
    (case c43 => k_is)
    (case k43 => k_is)
    (case a44 => k_is)
    (case l44 => k_is)
    (case c44 => k_is)
    (case k44 => k_is)
    (case a45 => k_is)
    (case l45 => k_is)
    (case c45 => k_is)
    (case k45 => k_is)
    (case gxNoRule => k_is)
    (case axNoRule => k_is)
    (case lxNoRule => k_is)
    (case cxNoRule => k_is)
    (case kxNoRule => k_is)
    (case xxNoRule => kernel_rfl)
    (case nxNoRule => k_is)
    (case bxNoRule => kernel_rfl)
    (case gxNoRanks => k_is)
    (case axNoRanks => k_is)
    (case lxNoRanks => k_is)
    (case cxNoRanks => k_is)
    (case kxNoRanks => k_is)
    (case xxNoRanks => kernel_rfl)
    (case nxNoRanks => k_is)
    (case bxNoRanks => kernel_rfl)
    (case gxTooMany => k_is)
    (case axTooMany => k_is)
    (case lxTooMany => k_is)
    (case cxTooMany => k_is)
    (case kxTooMany => k_is)
    (case xxTooMany => kernel_rfl)
    (case nxTooMany => k_is)
    (case bxTooMany => kernel_rfl)
    (case gxNoHead => k_is)
    (case axNoHead => k_is)
    (case lxNoHead => k_is)
    (case cxNoHead => k_is)
    (case kxNoHead => k_is)
    (case xxNoHead => kernel_rfl)
    (case nxNoHead => k_is)
    (case bxNoHead => kernel_rfl)
    (case gxDoubled => k_is)
    (case axDoubled => k_is)
    (case lxDoubled => k_is)
    (case cxDoubled => k_is)
    (case kxDoubled => k_is)
    (case xxDoubled => kernel_rfl)
    (case nxDoubled => k_is)
    (case bxDoubled => kernel_rfl)
    (case gT => k_is)
    (case bT => kernel_rfl)
    (case s_NoRule_NoRule => kernel_rfl)
    (case s_Doubled_NoRule => kernel_rfl)
    (case s_Doubled_Doubled => kernel_rfl)
    (case s_NoHead_NoRule => kernel_rfl)
    (case s_NoHead_Doubled => kernel_rfl)
    (case s_NoHead_NoHead => kernel_rfl)
    (case s_NoRanks_NoRule => kernel_rfl)
    (case s_NoRanks_Doubled => kernel_rfl)
    (case s_NoRanks_NoHead => kernel_rfl)
    (case s_NoRanks_NoRanks => kernel_rfl)
    (case s_TooMany_NoRule => kernel_rfl)
    (case s_TooMany_Doubled => kernel_rfl)
    (case s_TooMany_NoHead => kernel_rfl)
    (case s_TooMany_NoRanks => kernel_rfl)
    (case s_TooMany_TooMany => kernel_rfl)
    (case gG => k_is)
    (case aG => k_is)
    (case lG => k_is)
    (case ltG => k_is)
    (case cG => k_is)
    (case pgG => first | k_is | kernel_rfl)
    (case hdG => first | k_is | kernel_rfl)
    (case poG => first | k_is | kernel_rfl)
    (case saG => first | k_is | kernel_rfl)
    (case mkG => first | k_is | kernel_rfl)
    (case fnG => first | k_is | kernel_rfl)
    (case kpG => first | k_is | kernel_rfl)
    (case naRu => first | k_is | kernel_rfl)
    (case naRa => first | k_is | kernel_rfl)
    (case naSt => first | k_is | kernel_rfl)
    (case nl => kernel_rfl)
    (case gSI => k_is)
    (case lS => k_is)
    (case gMOST_IN_BODY => k_is)
    (case gMOST_IN_RANK => k_is)
    (case gMOST_RULES => k_is)
    (case gMOST_HEADS => k_is)
    (case gMOST_SIGNS => k_is)
    (case gMOST_RANKS => k_is)
    (case gLONGEST => k_is)
    (case gIN_SIGNS => k_is)
    (case gGREAT => k_is)
    (case gSMALL_AND_FIGURES => k_is)
    (case z_isinstance => k_is)
    (case z_str => k_is)
    (case z_int => k_is)
    (case z_bool => k_is)
    (case z_list => k_is)
    (case z_tuple => k_is)
    (case z_dict => k_is)
    (case z_len => k_is)
    (case z_all => k_is)
    (case z_range => k_is)
    (case z_enumerate => k_is)
    (case z_sorted => k_is)
    (case z_set => k_is)
