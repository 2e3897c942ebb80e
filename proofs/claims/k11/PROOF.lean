import PyProof.Rows.All
import Wide.All
import OpenK.AllK
import Wide.FinOn
import Lean
import PyProof.EqAt
import PyProof.EqKinds
import PyProof.TupleCall
import PyProof.Rows.SetFrom
import PyProof.Rows.SortStr
import KE.KDictSum
import KE.KEqDict
import KE.KDictLaws
import PyProof.StrOps2
import PySem.Challenge.RW_rulestable_k11_trees_told
set_option Elab.async false
set_option linter.all false
set_option maxRecDepth 100000
section
abbrev VP:=PySem.Value→PySem.Shared→Prop
abbrev LO:=List (PySem.Addr×PySem.Obj)
abbrev MG:=PySem.Str→Option PySem.Value
namespace L2
open PySem PySem.Spec PyProof.Rows
abbrev Key:=Sum Int Str
noncomputable def keyIs:Key→Value→Bool
 | .inl k,v=>Value.isInt k v
 | .inr x,v=>Value.isStrOf x v
noncomputable def keyH (w:World):Key→Int
 | .inl k=>hashInt k
 | .inr x=>hashStr w x
theorem u0v:∀ {k:Key}{v:Value},keyIs k v=true→(∃ i t,k=Sum.inl i∧v=Value.int i t)∨(∃ x t,k=Sum.inr x∧v=Value.str x t)
 | .inl i,v,h=>by
  obtain ⟨t,e⟩:=Value.isInt_shape (k:=i) (v:=v) h
  exact .inl ⟨i,t,rfl,e⟩
 | .inr x,v,h=>by
  obtain ⟨t,e⟩:=Value.isStrOf_shape (x:=x) (v:=v) h
  exact .inr ⟨x,t,rfl,e⟩
theorem key_ll (a b:Int):decide ((Sum.inl a:Key)=Sum.inl b)=(a==b):=by
 by_cases e:a=b
 ·subst e;simp
 ·have h:¬ (Sum.inl a:Key)=Sum.inl b:=fun q=>e (Sum.inl.inj q)
  rw [decide_eq_false h]
  exact (beq_eq_false_iff_ne.mpr e).symm
theorem key_rr (a b:Str):decide ((Sum.inr a:Key)=Sum.inr b)=decide (a=b):=by
 by_cases e:a=b
 ·subst e;simp
 ·have h:¬ (Sum.inr a:Key)=Sum.inr b:=fun q=>e (Sum.inr.inj q)
  rw [decide_eq_false h,decide_eq_false e]
theorem key_lr (a:Int) (b:Str):decide ((Sum.inl a:Key)=Sum.inr b)=false:=decide_eq_false (fun q=>nomatch q)
theorem key_rl (a:Str) (b:Int):decide ((Sum.inr a:Key)=Sum.inl b)=false:=decide_eq_false (fun q=>nomatch q)
noncomputable def mixKind (prog:Program) (w:World):PySem.KeyKind prog w Key where
 is:=keyIs
 hash:=keyH w
 inj:=fun v a b ha hb=>by
  rcases u0v ha with ⟨i,t,rfl,rfl⟩ | ⟨x,t,rfl,rfl⟩
  ·rcases u0v hb with ⟨j,u,rfl,e⟩ | ⟨y,u,rfl,e⟩
   ·injection e with e1 _;rw [e1]
   ·exact nomatch e
  ·rcases u0v hb with ⟨j,u,rfl,e⟩ | ⟨y,u,rfl,e⟩
   ·exact nomatch e
   ·injection e with e1 _;rw [e1]
 byValue:=fun k v h=>by
  rcases u0v h with ⟨i,t,rfl,rfl⟩ | ⟨x,t,rfl,rfl⟩ <;> rfl
 pyHash:=fun hv h=>by
  rcases u0v hv with ⟨i,t,rfl,rfl⟩ | ⟨x,t,rfl,rfl⟩
  ·exact wpAny_pyHash_int h
  ·exact wpAny_pyHash_str h
 eqBool:=fun hu hv h=>by
  rcases u0v hu with ⟨i,t,rfl,rfl⟩ | ⟨x,t,rfl,rfl⟩
  ·rcases u0v hv with ⟨j,u,rfl,rfl⟩ | ⟨y,u,rfl,rfl⟩
   ·rw [key_ll] at h;exact wpAny_eqBool_int h
   ·rw [key_lr] at h;exact SeqAt.EqAt.int_str i t y u _ _ _ _ h
  ·rcases u0v hv with ⟨j,u,rfl,rfl⟩ | ⟨y,u,rfl,rfl⟩
   ·rw [key_rl] at h;exact SeqAt.EqAt.str_int x t j u _ _ _ _ h
   ·rw [key_rr] at h;exact wpAny_eqBool_str h
 «strs»:=fun k x t v h=>by
  rcases u0v h with ⟨i,u,rfl,e⟩ | ⟨y,u,rfl,e⟩
  ·exact nomatch e
  ·injection e with e1 _
   subst e1
   cases v <;> rfl
inductive V where
 | non | bl (b:Bool) | int (i:Int) | str (x:Str) | byt (b:Array UInt8) | flt (b:UInt64) | ref (a:Addr) | ty (n:String)
 deriving DecidableEq
def RelV:V→Value→Prop
 | .non,u=>u=Value.none
 | .bl b,u=>u=Value.bool b
 | .int i,u=>∃ t,u=Value.int i t
 | .str x,u=>∃ t,u=Value.str x t
 | .byt b,u=>∃ t,u=Value.bytes b t
 | .flt b,u=>∃ t,u=Value.float b t
 | .ref a,u=>u=Value.ref a
 | .ty n,u=>u=Value.type n
abbrev Vals:List V→List Value→Prop:=Paired RelV
theorem Vals.length {xs:List V}{us:List Value} (r:Vals xs us):xs.length=us.length:=Paired.length r
theorem Vals.get:∀ {xs:List V}{us:List Value}{i:Nat}{x:V},Vals xs us→xs[i]?=some x→∃ u,us[i]?=some u∧RelV x u
 | _,_,_,_,.nil,e=>by simp at e
 | _,_,0,_,.cons r _,e=>by simp at e;subst e;exact ⟨_,rfl,r⟩
 | _,_,i+1,x,.cons _ t,e=>by
  obtain ⟨u,h1,h2⟩:=Vals.get (i:=i) (x:=x) t (by simpa using e)
  exact ⟨u,by simpa using h1,h2⟩
theorem Vals.set {x:V}{u:Value} (r:RelV x u):∀ {xs:List V}{us:List Value} (i:Nat),Vals xs us→Vals (xs.set i x) (us.set i u)
 | _,_,_,.nil=>.nil
 | _,_,0,.cons _ t=>.cons r t
 | _,_,i+1,.cons q t=>.cons q (Vals.set r i t)
theorem Vals.append:∀ {xs ys:List V}{us ws:List Value},Vals xs us→Vals ys ws→Vals (xs++ys) (us++ws)
 | _,_,_,_,.nil,s=>s
 | _,_,_,_,.cons r t,s=>.cons r (Vals.append t s)
theorem Vals.take:∀ {xs:List V}{us:List Value} (n:Nat),Vals xs us→Vals (xs.take n) (us.take n)
 | _,_,0,_=>.nil
 | _,_,_+1,.nil=>.nil
 | _,_,n+1,.cons r t=>.cons r (Vals.take n t)
theorem Vals.drop:∀ {xs:List V}{us:List Value} (n:Nat),Vals xs us→Vals (xs.drop n) (us.drop n)
 | _,_,0,r=>r
 | _,_,_+1,.nil=>.nil
 | _,_,n+1,.cons _ t=>Vals.drop n t
def RelO:Option V→Option Value→Prop
 | some v,some u=>RelV v u
 | none,none=>True
 | _,_=>False
noncomputable def KV {κ:Type}:List (κ×V)→List (κ×Value)→Prop:=Paired fun (p:κ×V) (q:κ×Value)=>p.1=q.1∧RelV p.2 q.2
noncomputable def kV:Key→V
 | .inl i=>.int i
 | .inr x=>.str x
inductive HO where
 /-- a list -/
 | lst (xs:List V)
 /-- a tuple (never changes) -/
 | tup (xs:List V)
 /-- a dict whose keys are ints and texts;one whose keys are tuples of ints and texts (the empty one is both) -/
 | dK (kvs:List (Key×V)) | dT (kvs:List (List Key×V))
 /-- a set of ints: its members,its size -/
 | set (S:Int→Bool) (n:Nat)
 /-- an instance of the class at C,its dict at dx,its attributes -/
 | ins (C dx:Addr) (fs:List (Str×V))
 /-- the dict of the instance at x -/
 | own (x:Addr)
 /-- the dict of an exception -/
 | xd (fs:List (Str×V))
 /-- a bound method,f of x -/
 | met (f x:Addr)
 /-- a range object lo,lo+1,.. below hi -/
 | rng (lo hi:Int)
 /-- a thing that is known to the object (the script;a dict while a loop walks it): read,never written while it is so -/
 | frz (o:Obj) (u:HO)
 /-- a code object's table -/
 | tbl (ps:Array Value)
 /-- any other thing,by what is true of its one object (a def of one's own: SetO a S n:=HO.ext fun h=>..) -/
 | ext (φ:Heap→Prop)
abbrev Hp:=Addr→Option HO
noncomputable def upd (H:Hp) (a:Addr) (o:HO):Hp:=fun b=>if b=a then some o else H b
theorem u0g {H:Hp}{a:Addr}{o:HO}:upd H a o a=some o:=by unfold upd;rw [if_pos rfl]
theorem u0j {H:Hp}{a b:Addr}{o:HO} (h:b≠a):upd H a o b=H b:=by unfold upd;rw [if_neg h]
theorem upd_upd {H:Hp}{a:Addr}{o u:HO}:upd (upd H a o) a u=upd H a u:=by
 funext b;unfold upd;split <;> rfl
theorem u0l {H:Hp}{a b:Addr}{o:HO} (h:H a=some o) (h':H b=none):a≠b:=by
 intro e;subst e;rw [h] at h';cases h'
section
variable (P:Program) (w:World)
def ObjOk (H:Hp) (h:Heap) (a:Addr):HO→Prop
 | .lst xs=>xs.length≤sizeLine∧∃ (its:List Value) (n:Nat),Vals xs its∧h.get? a=some { cls:=.type "list",data:=.seq its.toArray n }
 | .tup xs=>xs.length≤sizeLine∧∃ its:List Value,Vals xs its∧IsTup h a its.toArray
 | .dK kvs=>kvs.length≤sizeLine∧(a==sysModules)=false∧∃ vs,KV kvs vs∧h.DictOf (mixKind P w) a vs
 | .dT kvs=>kvs.length≤sizeLine∧(a==sysModules)=false∧∃ xs:List (List Key×Addr×Value),
   Paired (fun (p:List Key×V) (q:List Key×Addr×Value)=>p.1=q.1∧H q.2.1=some (.tup (p.1.map kV))∧RelV p.2 q.2.2) kvs xs ∧
   ∃ o es ep,h.get? a=some o∧o.ExactDict∧o.data=.dict es ep∧es.toList=xs.map (entryOfKey (tupleKind (mixKind P w)))∧(xs.map (·.1)).Nodup
 | .set S n=>h.SetOf (intKind P w) a S n
 | .ins C dx fs=>H dx=some (.own a)∧fs.length≤1000∧dx≠a∧h.get? a=some (W.instObj C dx) ∧
   ∃ mA,h.Ns1 dx mA∧(∀ f,RelO (fs.lookup f) (mA f))∧PySem.Within mA (fs.map (·.1))
 | .own _=>∃ o,h.get? a=some o
 | .xd fs=>∃ mA,h.Ns1 a mA∧∀ f,RelO (fs.lookup f) (mA f)
 | .rng lo hi=>∃ t u v,h.get? a=some { cls:=.type "range",data:=.fields #[.int lo t,.int hi u,.int 1 v] }
 | .frz o u=>h.get? a=some o∧ObjOk H h a u
 | .tbl ps=>h.get? a=some { cls:=.none,data:=.fields ps }
 | .met f x=>h.get? a=some (W.methodObj (.ref f) (.ref x))
 | .ext φ=>φ h∧(∃ o,h.get? a=some o)∧∀ h1 h2:Heap,φ h1→(∀ o,h1.get? a=some o→h2.get? a=some o)→φ h2
def HOk (H:Hp) (h:Heap):Prop:=∀ a o,H a=some o→ObjOk P w H h a o
end
section
variable {P:Program}{w:World}{H H':Hp}{h h':Heap}{a:Addr}{o:HO}
theorem ObjOk.lt (x:ObjOk P w H h a o):a<h.objs.size:=by
 cases o with
 | lst xs=>obtain ⟨_,_,_,_,e⟩:=x;exact Heap.lt_size e
 | tup xs=>obtain ⟨_,_,_,p⟩:=x;exact p.lt
 | dK kvs=>obtain ⟨_,_,_,_,o,_,_,e,_⟩:=x;exact Heap.lt_size e
 | dT kvs=>obtain ⟨_,_,_,_,o,_,_,e,_⟩:=x;exact Heap.lt_size e
 | set S n=>obtain ⟨o,_,_,_,e,_⟩:=x;exact Heap.lt_size e
 | ins C dx fs=>obtain ⟨_,_,_,e,_⟩:=x;exact Heap.lt_size e
 | own y=>obtain ⟨_,e⟩:=x;exact Heap.lt_size e
 | xd fs=>obtain ⟨_,⟨_,_,_,e,_⟩,_⟩:=x;exact Heap.lt_size e
 | rng lo hi=>obtain ⟨_,_,_,e⟩:=x;exact Heap.lt_size e
 | frz ob u=>obtain ⟨e,_⟩:=x;exact Heap.lt_size e
 | tbl ps=>exact Heap.lt_size (show h.get? a=some _ from x)
 | met f y=>exact Heap.lt_size (show h.get? a=some _ from x)
 | ext φ=>obtain ⟨_,⟨_,e⟩,_⟩:=x;exact Heap.lt_size e
theorem Paired.mapP {α β:Type}{F G:α→β→Prop}:∀ {l₁:List α}{l₂:List β},Paired F l₁ l₂→(∀ a b,F a b→G a b)→Paired G l₁ l₂
 | _,_,.nil,_=>.nil
 | _,_,.cons r t,f=>.cons (f _ _ r) (Paired.mapP t f)
theorem ObjOk.stay (x:ObjOk P w H h a o) (k:∀ b u,(b=a∨H b=some (.own a))→h.get? b=some u→h'.get? b=some u)
  (ho:∀ b,H b=some (.own a)→H' b=some (.own a)) (ht:∀ b xs,H b=some (.tup xs)→H' b=some (.tup xs)):ObjOk P w H' h' a o:=by
 induction o with
 | lst xs=>obtain ⟨z,its,n,r,e⟩:=x;exact ⟨z,its,n,r,k _ _ (.inl rfl) e⟩
 | tup xs=>obtain ⟨z,its,r,ob,e,c⟩:=x;exact ⟨z,its,r,ob,k _ _ (.inl rfl) e,c⟩
 | dK kvs=>obtain ⟨z,y,vs,r,ob,es,ep,e,c⟩:=x;exact ⟨z,y,vs,r,ob,es,ep,k _ _ (.inl rfl) e,c⟩
 | dT kvs =>
  obtain ⟨z,y,xs,r,ob,es,ep,e,c⟩:=x
  exact ⟨z,y,xs,Paired.mapP r fun p q z=>⟨z.1,ht _ _ z.2.1,z.2.2⟩,ob,es,ep,k _ _ (.inl rfl) e,c⟩
 | set S n=>obtain ⟨ob,es,ep,t,e,c⟩:=x;exact ⟨ob,es,ep,t,k _ _ (.inl rfl) e,c⟩
 | ins C dx fs =>
  obtain ⟨d,z,ne,e,mA,⟨od,es,ep,e2,c⟩,r⟩:=x
  exact ⟨ho _ d,z,ne,k _ _ (.inl rfl) e,mA,⟨od,es,ep,k _ _ (.inr d) e2,c⟩,r⟩
 | own y=>obtain ⟨ob,e⟩:=x;exact ⟨ob,k _ _ (.inl rfl) e⟩
 | xd fs=>obtain ⟨mA,⟨od,es,ep,e,c⟩,r⟩:=x;exact ⟨mA,⟨od,es,ep,k _ _ (.inl rfl) e,c⟩,r⟩
 | rng lo hi=>obtain ⟨t,u,v,e⟩:=x;exact ⟨t,u,v,k _ _ (.inl rfl) e⟩
 | frz ob u ih=>obtain ⟨e,q⟩:=x;exact ⟨k _ _ (.inl rfl) e,ih q⟩
 | tbl ps =>
  have e:h.get? a=some { cls:=.none,data:=.fields ps }:=x
  show h'.get? a=some { cls:=.none,data:=.fields ps }
  exact k a _ (.inl rfl) e
 | met f y =>
  have e:h.get? a=some (W.methodObj (.ref f) (.ref y)):=x
  show h'.get? a=some (W.methodObj (.ref f) (.ref y))
  exact k a _ (.inl rfl) e
 | ext φ=>obtain ⟨p,⟨o,e⟩,st⟩:=x;exact ⟨st _ _ p fun o q=>k _ _ (.inl rfl) q,⟨o,k _ _ (.inl rfl) e⟩,st⟩
theorem HOk.lt (x:HOk P w H h) (e:H a=some o):a<h.objs.size:=(x a o e).lt
theorem HOk.fresh (x:HOk P w H h) (e:h.objs.size≤a):H a=none:=by
 cases q:H a with
 | none=>rfl
 | some u=>exact absurd (Nat.lt_of_lt_of_le (x.lt q) e) (Nat.lt_irrefl _)
theorem HOk.kept (x:HOk P w H h) (k:∀ b u,h.get? b=some u→h'.get? b=some u):HOk P w H h':=fun a o e =>
 (x a o e).stay (fun b u _ q=>k b u q) (fun _ q=>q) fun _ _ q=>q
theorem HOk.laid (x:HOk P w H h) (k:∀ b u,h.get? b=some u→h'.get? b=some u) (hp:h.objs.size≤a) (new:ObjOk P w (upd H a o) h' a o):HOk P w (upd H a o) h':=fun b u e=>by
 have hn:=x.fresh hp
 by_cases hb:b=a
 ·subst hb;rw [u0g] at e;cases e;exact new
 ·rw [u0j hb] at e
  exact (x b u e).stay (fun c v _ q=>k c v q) (fun c q=>by rw [u0j (u0l q hn)];exact q) fun c xs q=>by rw [u0j (u0l q hn)];exact q
end
def Rd (H:Hp) (a:Addr) (u:HO):Prop:=H a=some u∨∃ o,H a=some (.frz o u)
theorem Rd.ok {P:Program}{w:World}{H:Hp}{h:Heap}{a:Addr}{u:HO} (r:Rd H a u) (x:HOk P w H h):ObjOk P w H h a u:=by
 rcases r with r | ⟨o,r⟩
 ·exact x a u r
 ·obtain ⟨_,q⟩:=x a _ r
  exact q
def Mut:Option HO→Prop
 | some (.lst _)=>True
 | some (.dK _)=>True
 | some (.dT _)=>True
 | some (.set _ _)=>True
 | some (.ins _ _ _)=>True
 | some (.ext _)=>True
 | _=>False
section
variable {P:Program}{w:World}{H:Hp}{h h':Heap}{x e:Addr}{o':HO}
theorem HOk.write (ok:HOk P w H h) (mu:Mut (H x)) (he:e=x∨H e=some (.own x)) (k:∀ b u,b≠e→h.get? b=some u→h'.get? b=some u) (heo:∃ u,h'.get? e=some u)
  (new:ObjOk P w (upd H x o') h' x o'):HOk P w (upd H x o') h':=fun b u q=>by
 have nown:∀ c y,H c=some (.own y)→c≠x:=fun c y r z=>by subst z;rw [r] at mu;exact mu
 have ntup:∀ c xs,H c=some (.tup xs)→c≠x:=fun c xs r z=>by subst z;rw [r] at mu;exact mu
 by_cases hb:b=x
 ·subst hb;rw [u0g] at q;cases q;exact new
 ·rw [u0j hb] at q
  by_cases hbe:b=e
  ·have q':H b=some (.own x):=by
    rcases he with z | z
    ·exact absurd (hbe.trans z) hb
    ·rw [hbe];exact z
   rw [q] at q';cases q'
   obtain ⟨v,hv⟩:=heo
   exact ⟨v,by rw [hbe];exact hv⟩
  ·refine (ok b u q).stay (fun c v hc r=>k c v ?_ r) (fun c r=>by rw [u0j (nown c b r)];exact r) fun c xs r=>by rw [u0j (ntup c xs r)];exact r
   rcases hc with rfl | hc
   ·exact hbe
   ·rintro rfl
    rcases he with z | z
    ·exact nown c b hc z
    ·rw [hc] at z;cases z;exact hb rfl
end
structure Un (fs ex:List Addr) (H H':Hp) (h h':Heap):Prop where
 keep:∀ b o,h.get? b=some o→H b=none→b∉fs→b∉ex→h'.get? b=some o
 slot:∀ b o,h.get? b=some o→H b=none→b∈fs→b∉ex→∃ sl,h'.get? b=some { o with slots:=sl }
 free:∀ b o,h.get? b=some o→H b=none→b∉ex→H' b=none
 there:∀ b o,h.get? b=some o→b∉ex→∃ o',h'.get? b=some o'
 tups:∀ b xs,H b=some (.tup xs)→H' b=some (.tup xs)
 frzs:∀ b o u,H b=some (.frz o u)→H' b=some (.frz o u)
 tbls:∀ b ps,H b=some (.tbl ps)→∃ more,H' b=some (.tbl (ps++more))
section
variable {fs fs' ex ex':List Addr}{H H1 H2:Hp}{h h1 h2 h':Heap}{a x e:Addr}{o:HO}
theorem Un.any (u:Un fs ex H H1 h h1) {b:Addr}{ob:Obj} (q:h.get? b=some ob) (n:H b=none) (hx:b∉ex):∃ sl,h1.get? b=some { ob with slots:=sl }:=by
 by_cases hb:b∈fs
 ·exact u.slot b ob q n hb hx
 ·exact ⟨ob.slots,u.keep b ob q n hb hx⟩
theorem Un.kept (k:∀ b u,h.get? b=some u→h'.get? b=some u):Un fs ex H H h h' :=
 ⟨fun b ob q _ _ _=>k b ob q,fun b ob q _ _ _=>⟨ob.slots,k b ob q⟩,fun _ _ _ n _=>n,fun b ob q _=>⟨ob,k b ob q⟩,fun _ _ q=>q,fun _ _ _ q=>q,fun _ ps q=>⟨#[],by rw [q];simp⟩⟩
theorem Un.refl:Un fs ex H H h h:=Un.kept fun _ _ q=>q
theorem Un.laid (k:∀ b u,h.get? b=some u→h'.get? b=some u) (hp:h.objs.size≤a) (hn:H a=none):Un fs ex H (upd H a o) h h' where
 keep:=fun b u q _ _ _=>k b u q
 slot:=fun b u q _ _ _=>⟨u.slots,k b u q⟩
 free:=fun b u q n _=>by rw [u0j (Nat.ne_of_lt (Nat.lt_of_lt_of_le (Heap.lt_size q) hp))];exact n
 there:=fun b u q _=>⟨u,k b u q⟩
 tups:=fun b xs q=>by rw [u0j (u0l q hn)];exact q
 frzs:=fun b u xs q=>by rw [u0j (u0l q hn)];exact q
 tbls:=fun b ps q=>⟨#[],by rw [u0j (u0l q hn),q];simp⟩
theorem Un.write (mu:Mut (H x)) (he:e=x∨H e=some (.own x)) (k:∀ b u,b≠e→h.get? b=some u→h'.get? b=some u) (heo:∃ u,h'.get? e=some u):Un fs ex H (upd H x o) h h':=by
 have hx:∀ b,H b=none→b≠x:=fun b n z=>by subst z;rw [n] at mu;exact mu
 have hb:∀ b,H b=none→b≠e:=fun b n z=>by
  subst z
  rcases he with r | r
  ·exact hx b n r
  ·rw [n] at r;cases r
 have hm:∀ b u,H b=some u→¬ Mut (some u)→b≠x:=fun b u q nm z=>by subst z;rw [q] at mu;exact nm mu
 refine ⟨fun b u q n _ _=>k b u (hb b n) q,fun b u q n _ _=>⟨u.slots,k b u (hb b n) q⟩,fun b u q n _=>by rw [u0j (hx b n)];exact n,fun b u q _=>?_,
  fun b xs q=>by rw [u0j (hm b _ q fun z=>z)];exact q,fun b u xs q=>by rw [u0j (hm b _ q fun z=>z)];exact q,fun b ps q=>⟨#[],by rw [u0j (hm b _ q fun z=>z),q];simp⟩⟩
 by_cases hbe:b=e
 ·subst hbe;exact heo
 ·exact ⟨u,k b u hbe q⟩
end
noncomputable def trk (h:Heap) (H:Hp):List Addr:=(List.range h.objs.size).filter fun a=>(H a).isSome
noncomputable def hidT (h:Heap) (H:Hp):Heap:=W.hideAll h (trk h H)
theorem u9j (h:Heap) (H:Hp):(hidT h H).objs.size=h.objs.size:=W.hideAll_size _ _
theorem v0N {h:Heap}{H:Hp}{b:Addr}{o:Obj} (e:h.get? b=some o) (n:H b=none):(hidT h H).get? b=some o :=
 W.hideAll_get _ e fun hm=>by
  have q:(H b).isSome=true:=(List.mem_filter.mp hm).2
  rw [n] at q;simp at q
theorem of_hidT {h:Heap}{H:Hp}{b:Addr}{o:Obj} (e:(hidT h H).get? b=some o):h.get? b=some o∧H b=none:=by
 have e':h.get? b=some o:=W.of_hideAll (trk h H) e
 refine ⟨e',?_⟩
 cases q:H b with
 | none=>rfl
 | some x =>
  have hm:b∈trk h H:=List.mem_filter.mpr ⟨List.mem_range.mpr (Heap.lt_size e'),by simp [q]⟩
  have z:(hidT h H).get? b=none:=W.hideAll_none (trk h H) hm
  rw [z] at e;cases e
structure Mod (K:W.Frag) (mg:MG) (base:Heap):Prop where
 kin:K.In base
 glob:base.Ns mainGlobals mg
 blt:∃ mb,base.Ns builtinsNs mb∧∀ x:Str,x≠"__name__"→mb x=bootBuiltins x
 nolimit:base.NoLimit
structure Cx where
 prog:Program
 w:World
 K:W.Frag
 mg:Str→Option Value
 base:Heap
 A:Around
 N:List Str
 s₀:Shared
 H₀:Hp
 env:Env
 outer:List Env
 stack:List Env
 ex:List Addr
 fn:Str→Bool
 calm:Bool
 pn:LO
 xe:Value→Shared→Prop
noncomputable def frs (l:List Env):List Addr:=l.filterMap (·.frame)
noncomputable abbrev Cx.fs (X:Cx):List Addr:=frs X.outer
def Vis (sc:Scope) (x:Str):Prop:=sc.names.lookup x=some .local∨sc.names.lookup x=some .cell∨sc.names.lookup x=some .free
def Loc (sc:Scope) (x:Str):Prop:=sc.names.lookup x=some .local∨sc.names.lookup x=some .cell
def Look (env:Env) (h:Heap) (m:MG) (x:Str) (u:Value):Prop :=
 (env.kindOf x=some .local∧m x=some u)∨((env.kindOf x=some .cell∨env.kindOf x=some .free)∧∃ c,env.cells.lookup x=some c∧h.IsCell c (some u))
structure Cx.Ok (X:Cx):Prop where
 mod:Mod X.K X.mg X.base
 kind:X.env.scope.kind=.function
 glob:X.env.globals=mainGlobals
 blt:X.env.builtins=builtinsNs
 above:X.s₀.heap.objs.size≤X.env.locals
 inj:∀ x y c,X.env.cells.lookup x=some c→X.env.cells.lookup y=some c→x=y
 has:∀ x,(X.env.kindOf x=some .cell∨X.env.kindOf x=some .free)→∃ c,X.env.cells.lookup x=some c
 cab:∀ x c,X.fn x=true→X.env.cells.lookup x=some c→X.s₀.heap.objs.size≤c
 hd:X.calm=true→X.A.handled=none
 frames:X.A.frames=some X.stack
 stk:X.stack=X.outer∨(X.stack=X.env::X.outer∧X.env.frame=some X.env.locals)
 exf:∀ b∈X.ex,b≠X.env.locals∧∀ x c,X.env.cells.lookup x=some c→c≠b
 bs:∀ b o,X.base.get? b=some o→X.s₀.heap.get? b=some o∧X.H₀ b=none
 bsz:X.base.objs.size≤X.s₀.heap.objs.size
 noex:∀ b o,X.base.get? b=some o→b∉X.ex
 exfs:∀ b∈X.ex,b∉X.fs
 funs:X.s₀.heap.FunFrames X.base X.outer
 frf:∀ b∈X.fs,X.H₀ b=none
structure Inv (X:Cx) (pins:LO) (σ:List (Option V)) (H:Hp) (s:Shared):Prop where
 ok:X.Ok
 os:s.os=X.s₀.os
 bare:AllBare s.gens
 base:Un X.fs X.ex X.H₀ H X.s₀.heap s.heap
 loc:∃ m,s.heap.Ns X.env.locals m∧∀ (i:Nat) (x:Str) (v:V),X.N[i]?=some x→σ[i]?=some (some v)→Vis X.env.scope x→∃ u,RelV v u∧Look X.env s.heap m x u
 cell:∀ x c,X.env.cells.lookup x=some c→∃ v,s.heap.IsCell c v
 free:H X.env.locals=none
 freeC:∀ x c,X.env.cells.lookup x=some c→H c=none
 pin:∀ p∈X.pn++pins,s.heap.get? p.1=some p.2∧H p.1=none∧p.1≠X.env.locals∧p.1∉X.fs∧∀ v,p.2.data≠.cell v
 hok:HOk X.prog X.w H s.heap
 len:σ.length=X.N.length
section
variable {X:Cx}{pins:LO}{σ:List (Option V)}{H H':Hp}{s:Shared}{h':Heap}
theorem Cx.Ok.nofr (ok:X.Ok) {b:Addr}{o:Obj} (e:X.base.get? b=some o):b∉X.fs:=fun hb=>by
 have:=(ok.funs.mem hb).1
 rw [e] at this;cases this
theorem Inv.bs (I:Inv X pins σ H s):∀ b o,X.base.get? b=some o→s.heap.get? b=some o∧H b=none:=fun b o e =>
 ⟨I.base.keep b o (I.ok.bs b o e).1 (I.ok.bs b o e).2 (I.ok.nofr e) (I.ok.noex b o e),I.base.free b o (I.ok.bs b o e).1 (I.ok.bs b o e).2 (I.ok.noex b o e)⟩
theorem Inv.bk (I:Inv X pins σ H s):∀ b o,X.base.get? b=some o→s.heap.get? b=some o:=fun b o e=>(I.bs b o e).1
theorem Inv.mod (I:Inv X pins σ H s):Mod X.K X.mg X.base:=I.ok.mod
theorem Inv.kIn (I:Inv X pins σ H s):X.K.In s.heap:=I.ok.mod.kin.keeps I.bk
theorem Inv.fr (I:Inv X pins σ H s):∃ m,Fr X.base X.env.locals s.heap m :=
 let ⟨m,hn,_⟩:=I.loc
 ⟨m,hn,I.bk,Nat.le_trans I.ok.bsz I.ok.above⟩
theorem Inv.lt (I:Inv X pins σ H s):X.env.locals<s.heap.objs.size:=let ⟨_,hn,_⟩:=I.loc;hn.lt
theorem Inv.sz (I:Inv X pins σ H s):X.s₀.heap.objs.size≤s.heap.objs.size:=Nat.le_trans I.ok.above (Nat.le_of_lt I.lt)
theorem Inv.nofs (I:Inv X pins σ H s) {a:Addr} (h:s.heap.objs.size≤a):a∉X.fs:=fun hb=>by
 obtain ⟨_,o,ho,_⟩:=I.ok.funs.mem hb
 exact absurd (Nat.lt_of_lt_of_le (Heap.lt_size ho) (Nat.le_trans I.sz h)) (Nat.lt_irrefl _)
theorem Inv.cne (I:Inv X pins σ H s):∀ x c,X.env.cells.lookup x=some c→c≠X.env.locals:=fun x c e z=>by
 obtain ⟨v,o,ho,hd⟩:=I.cell x c e
 obtain ⟨m,⟨o',es,ep,ho',hd',_⟩,_⟩:=I.loc
 rw [z,ho'] at ho;cases ho;rw [hd'] at hd;cases hd
theorem Inv.funs (I:Inv X pins σ H s):s.heap.FunFrames X.base X.outer:=by
 have all:∀ (l:List Env),(∀ b∈frs l,b∈X.fs)→X.s₀.heap.FunFrames X.base l→s.heap.FunFrames X.base l:=by
  intro l
  induction l with
  | nil=>intro _ _;trivial
  | cons env r ih =>
   intro hs hl
   obtain ⟨hk,⟨L,o,hf,hn,ho,hd⟩,hr⟩:=hl
   have hL:L∈X.fs:=hs L (by unfold frs;rw [List.filterMap_cons,hf];exact List.mem_cons_self)
   obtain ⟨sl,e⟩:=I.base.slot L o ho (I.ok.frf L hL) hL fun z=>I.ok.exfs L z hL
   exact ⟨hk,⟨L,_,hf,hn,e,hd⟩,ih (fun b hb=>hs b (by unfold frs;rw [List.filterMap_cons,hf];exact List.mem_cons_of_mem _ hb)) hr⟩
 exact all X.outer (fun _ hb=>hb) I.ok.funs
theorem Inv.stack (I:Inv X pins σ H s):s.heap.FunFrames X.base X.stack:=by
 rcases I.ok.stk with e | ⟨e,hf⟩
 ·rw [e];exact I.funs
 ·rw [e]
  obtain ⟨m,hn,_⟩:=I.loc
  refine .cons (by rw [I.ok.kind];decide) hf hn ?_ I.funs
  exact Heap.get?_none_of_le (Nat.le_trans I.ok.bsz I.ok.above)
theorem Inv.stkSub (I:Inv X pins σ H s):∀ b∈frs X.stack,b∈X.env.locals::X.fs:=fun b hb=>by
 rcases I.ok.stk with e | ⟨e,hf⟩
 ·rw [e] at hb;exact List.mem_cons_of_mem _ hb
 ·rw [e] at hb
  unfold frs at hb
  rw [List.filterMap_cons,hf] at hb
  exact hb
theorem Inv.stkFree (I:Inv X pins σ H s):∀ b∈frs X.stack,H b=none:=fun b hb=>by
 rcases List.mem_cons.mp (I.stkSub b hb) with e | hb
 ·rw [e];exact I.free
 ·obtain ⟨_,o,ho,_⟩:=I.ok.funs.mem hb
  exact I.base.free b o ho (I.ok.frf b hb) fun z=>I.ok.exfs b z hb
theorem Inv.step {g':Array GenState}{t':Nat}{d':Drawn}{ch:List Addr} (I:Inv X pins σ H s)
  (hch:∀ b∈ch,(b∈X.ex∨X.s₀.heap.objs.size≤b)∧b≠X.env.locals∧(∀ x c,X.env.cells.lookup x=some c→c≠b)∧∀ p∈X.pn++pins,p.1≠b)
  (keep:∀ b o,b≠X.env.locals→b∉X.fs→b∉ch→s.heap.get? b=some o→H b=none→h'.get? b=some o)
  (slot:∀ b o,b≠X.env.locals→b∈X.fs→b∉ch→s.heap.get? b=some o→H b=none→∃ sl,h'.get? b=some { o with slots:=sl }) (free:∀ b o,b∉ch→s.heap.get? b=some o→H b=none→H' b=none)
  (there:∀ b o,b∉ch→s.heap.get? b=some o→∃ o',h'.get? b=some o')
  (tups:∀ b xs,H b=some (.tup xs)→H' b=some (.tup xs)) (frzs:∀ b o u,H b=some (.frz o u)→H' b=some (.frz o u)) (tbls:∀ b ps,H b=some (.tbl ps)→∃ more,H' b=some (.tbl (ps++more)))
  (ns:∀ m,s.heap.Ns X.env.locals m→h'.Ns X.env.locals m) (hok:HOk X.prog X.w H' h') (hg:AllBare g') :
  Inv X pins σ H' { s with heap:=h',gens:=g',drawn:=d',toks:=t' }:=by
 have neL:∀ b o,X.s₀.heap.get? b=some o→b≠X.env.locals:=fun b o e=>Nat.ne_of_lt (Nat.lt_of_lt_of_le (Heap.lt_size e) I.ok.above)
 have neC:∀ b o,X.s₀.heap.get? b=some o→b∉X.ex→b∉ch:=fun b o e hx hb=>by
  rcases (hch b hb).1 with z | z
  ·exact hx z
  ·exact absurd (Nat.lt_of_lt_of_le (Heap.lt_size e) z) (Nat.lt_irrefl _)
 have cellK:∀ x c,X.env.cells.lookup x=some c→∀ v,s.heap.IsCell c v→h'.IsCell c v:=fun x c e v ⟨o,ho,hd⟩=>by
  have nch:c∉ch:=fun z=>(hch c z).2.2.1 x c e rfl
  by_cases hc:c∈X.fs
  ·obtain ⟨sl,q⟩:=slot c o (I.cne x c e) hc nch ho (I.freeC x c e)
   exact ⟨_,q,hd⟩
  ·exact ⟨o,keep c o (I.cne x c e) hc nch ho (I.freeC x c e),hd⟩
 refine ⟨I.ok,I.os,hg,⟨fun b o e n hb hx=>?_,fun b o e n hb hx=>?_,fun b o e n hx=>?_,fun b o e hx=>?_,fun b xs e=>tups b xs (I.base.tups b xs e),fun b o xs e=>frzs b o xs (I.base.frzs b o xs e),fun b ps e=>?_⟩,?_,fun x c e=>?_,?_,fun x c e=>?_,fun p hp=>?_,hok,I.len⟩
 ·exact keep b o (neL b o e) hb (neC b o e hx) (I.base.keep b o e n hb hx) (I.base.free b o e n hx)
 ·obtain ⟨sl,e1⟩:=I.base.slot b o e n hb hx
  obtain ⟨sl',e2⟩:=slot b _ (neL b o e) hb (neC b o e hx) e1 (I.base.free b o e n hx)
  exact ⟨sl',e2⟩
 ·obtain ⟨o',e1⟩:=I.base.there b o e hx
  exact free b o' (neC b o e hx) e1 (I.base.free b o e n hx)
 ·obtain ⟨o',e1⟩:=I.base.there b o e hx
  exact there b o' (neC b o e hx) e1
 ·obtain ⟨m1,e1⟩:=I.base.tbls b ps e
  obtain ⟨m2,e2⟩:=tbls b _ e1
  exact ⟨m1++m2,by rw [e2,Array.append_assoc]⟩
 ·obtain ⟨m,hn,hl⟩:=I.loc
  refine ⟨m,ns m hn,fun i x v e1 e2 e3=>?_⟩
  obtain ⟨u,r,l⟩:=hl i x v e1 e2 e3
  refine ⟨u,r,?_⟩
  rcases l with l | ⟨k,c,e,z⟩
  ·exact .inl l
  ·exact .inr ⟨k,c,e,cellK x c e _ z⟩
 ·obtain ⟨v,z⟩:=I.cell x c e
  exact ⟨v,cellK x c e v z⟩
 ·obtain ⟨m,⟨o,_,_,ho,_⟩,_⟩:=I.loc
  exact free _ o (fun z=>(hch _ z).2.1 rfl) ho I.free
 ·obtain ⟨v,o,ho,hd⟩:=I.cell x c e
  exact free c o (fun z=>(hch c z).2.2.1 x c e rfl) ho (I.freeC x c e)
 ·obtain ⟨e,n,ne,nf,d⟩:=I.pin p hp
  have nch:p.1∉ch:=fun z=>(hch p.1 z).2.2.2 p hp rfl
  exact ⟨keep p.1 p.2 ne nf nch e n,free p.1 p.2 nch e n,ne,nf,d⟩
theorem Inv.un {t':Nat} (I:Inv X pins σ H s) (u:Un X.fs [] H H' s.heap h') (hok:HOk X.prog X.w H' h'):Inv X pins σ H' { s with heap:=h',toks:=t' }:=by
 obtain ⟨m,⟨o,es,ep,ho,r⟩,_⟩:=id I.loc
 obtain ⟨sl,hL⟩:=u.any ho I.free (by simp)
 exact I.step (g':=s.gens) (d':=s.drawn) (ch:=[]) (fun _ z=>nomatch z) (fun b o _ hb _ e n=>u.keep b o e n hb (by simp)) (fun b o _ hb _ e n=>u.slot b o e n hb (by simp)) (fun b o _ e n=>u.free b o e n (by simp)) (fun b o _ e=>u.there b o e (by simp)) u.tups u.frzs u.tbls (fun m' hm=>by
  obtain ⟨o',es',ep',ho',r'⟩:=hm
  rw [ho] at ho';cases ho'
  exact ⟨_,es',ep',hL,r'⟩) hok I.bare
theorem Inv.call {g':Array GenState}{t':Nat}{d':Drawn}{ch:List Addr} (I:Inv X pins σ H s) (u:Un (frs X.stack) ch H H' s.heap h') (hok:HOk X.prog X.w H' h') (hg:AllBare g')
  (hch:∀ b∈ch,(b∈X.ex∨X.s₀.heap.objs.size≤b)∧b≠X.env.locals∧(∀ x c,X.env.cells.lookup x=some c→c≠b)∧∀ p∈X.pn++pins,p.1≠b) :
  Inv X pins σ H' { s with heap:=h',gens:=g',drawn:=d',toks:=t' }:=by
 obtain ⟨m,⟨o,es,ep,ho,r⟩,_⟩:=id I.loc
 obtain ⟨sl,hL⟩:=u.any ho I.free fun z=>(hch _ z).2.1 rfl
 exact I.step (ch:=ch) hch (fun b o hL hb hc e n=>u.keep b o e n (fun z=>(List.mem_cons.mp (I.stkSub b z)).elim hL hb) hc) (fun b o _ _ hc e n=>u.any e n hc) (fun b o hc e n=>u.free b o e n hc) (fun b o hc e=>u.there b o e hc) u.tups u.frzs u.tbls (fun m' hm=>by
  obtain ⟨o',es',ep',ho',r'⟩:=hm
  rw [ho] at ho';cases ho'
  exact ⟨_,es',ep',hL,r'⟩) hok hg
theorem Inv.turned {t':Nat}{it:Addr} (I:Inv X pins σ H s) (k:∀ b o,b≠it→s.heap.get? b=some o→h'.get? b=some o) (hn:H it=none) (hL:it≠X.env.locals)
  (h1:it∈X.ex∨X.s₀.heap.objs.size≤it) (h2:∀ x c,X.env.cells.lookup x=some c→c≠it) (h3:∀ p∈X.pn++pins,p.1≠it):Inv X pins σ H { s with heap:=h',toks:=t' }:=by
 have nit:∀ b u,H b=some u→b≠it:=fun b u e z=>by rw [z,hn] at e;cases e
 refine I.step (g':=s.gens) (d':=s.drawn) (ch:=[it]) (fun b hb=>?_) (fun b o _ _ hc e _=>k b o (fun z=>hc (by simp [z])) e) (fun b o _ _ hc e _=>⟨o.slots,k b o (fun z=>hc (by simp [z])) e⟩) (fun _ _ _ _ n=>n)
  (fun b o hc e=>⟨o,k b o (fun z=>hc (by simp [z])) e⟩) (fun _ _ e=>e) (fun _ _ _ e=>e) (fun b ps e=>⟨#[],by rw [e];simp⟩) (fun m hm=>?_) (fun b u e=>?_) I.bare
 ·have e:b=it:=by simpa using hb
  subst e
  exact ⟨h1,hL,h2,h3⟩
 ·obtain ⟨o,es,ep,ho,r⟩:=hm
  exact ⟨o,es,ep,k _ o (Ne.symm hL) ho,r⟩
 ·refine (I.hok b u e).stay (fun c v hc q=>k c v ?_ q) (fun _ q=>q) fun _ _ q=>q
  rcases hc with z | z
  ·rw [z];exact nit b u e
  ·exact nit c _ z
theorem Inv.tok (I:Inv X pins σ H s) (t:Nat):Inv X pins σ H { s with toks:=t }:=I.un (h':=s.heap) (t':=t) Un.refl I.hok
theorem Inv.kept {t':Nat} (I:Inv X pins σ H s) (k:∀ b u,s.heap.get? b=some u→h'.get? b=some u):Inv X pins σ H { s with heap:=h',toks:=t' }:=I.un (Un.kept k) (I.hok.kept k)
theorem Inv.laid {a:Addr}{o:HO}{t':Nat} (I:Inv X pins σ H s) (k:∀ b u,s.heap.get? b=some u→h'.get? b=some u) (hp:s.heap.objs.size≤a) (new:ObjOk X.prog X.w (upd H a o) h' a o) :
  Inv X pins σ (upd H a o) { s with heap:=h',toks:=t' }:=I.un (Un.laid k hp (I.hok.fresh hp)) (I.hok.laid k hp new)
theorem Inv.write {x e:Addr}{o:HO}{t':Nat} (I:Inv X pins σ H s) (mu:Mut (H x)) (he:e=x∨H e=some (.own x)) (k:∀ b u,b≠e→s.heap.get? b=some u→h'.get? b=some u) (heo:∃ u,h'.get? e=some u)
  (new:ObjOk X.prog X.w (upd H x o) h' x o):Inv X pins σ (upd H x o) { s with heap:=h',toks:=t' }:=I.un (Un.write mu he k heo) (I.hok.write mu he k heo new)
theorem Inv.weak {σ':List (Option V)} (I:Inv X pins σ H s) (hl:σ'.length=σ.length) (w:∀ (i:Nat) v,σ'[i]?=some (some v)→σ[i]?=some (some v)):Inv X pins σ' H s :=
 ⟨I.ok,I.os,I.bare,I.base,let ⟨m,hn,hl'⟩:=I.loc;⟨m,hn,fun i x v e1 e2 e3=>hl' i x v e1 (w i v e2) e3⟩,I.cell,I.free,I.freeC,I.pin,I.hok,hl.trans I.len⟩
theorem Inv.pins_of {pins':LO} (I:Inv X pins σ H s) (h:∀ p∈pins',s.heap.get? p.1=some p.2∧H p.1=none∧p.1≠X.env.locals∧p.1∉X.fs∧∀ v,p.2.data≠.cell v):Inv X pins' σ H s :=
 ⟨I.ok,I.os,I.bare,I.base,I.loc,I.cell,I.free,I.freeC,fun p hp=>(List.mem_append.mp hp).elim (fun z=>I.pin p (List.mem_append_left _ z)) (h p),I.hok,I.len⟩
theorem u4J {N:List Str} (hN:N.Nodup) {i j:Nat}{x:Str} (a:N[i]?=some x) (b:N[j]?=some x):i=j:=by
 obtain ⟨h1,e1⟩:=List.getElem?_eq_some_iff.mp a
 obtain ⟨h2,e2⟩:=List.getElem?_eq_some_iff.mp b
 exact (List.getElem_inj hN).mp (e1.trans e2.symm)
theorem u5d {M:Model}{A:Around}{E:VP}{i:Nat}{x:Str}{v:V}{u:Value}{Q:Unit→Shared→Prop} (I:Inv X pins σ H s) (hN:X.N.Nodup) (hi:X.N[i]?=some x) (hx:Loc X.env.scope x) (r:RelV v u)
  (h:∀ s',Inv X pins (σ.set i (some v)) H s'→(∃ a,Heap.SameBut a s.heap s'.heap∧(a=X.env.locals∨X.env.cells.lookup x=some a))→Q () s') (hf:X.fn x=true∨X.env.scope.names.lookup x=some .local:=by first | exact .inl rfl | exact .inr rfl | assumption):wpAny M A (storeName X.env x u) Q E s:=by
 obtain ⟨m,hn,hl⟩:=id I.loc
 have hcls:(X.env.scope.kind==.class||(X.env.scope.kind==.module&&X.env.locals != X.env.globals))=false:=by rw [I.ok.kind];rfl
 have hiσ:i<σ.length:=by rw [I.len];exact (List.getElem?_eq_some_iff.mp hi).1
 have cne:=I.cne
 have tracked:∀ {a:Addr}{h':Heap},(∃ o,s.heap.get? a=some o∧H a=none)→Heap.SameBut a s.heap h'→HOk X.prog X.w H h':=fun {a h'} ha hs b ob e=>by
  obtain ⟨_,_,hfree⟩:=ha
  refine (I.hok b ob e).stay (fun c w' hc q=>(hs.2 c ?_).trans q) (fun _ q=>q) fun _ _ q=>q
  rintro rfl
  rcases hc with rfl | hc
  ·rw [hfree] at e;cases e
  ·rw [hfree] at hc;cases hc
 rcases hx with hk | hk
 ·refine wpAny_storeName_local hk hn (fun h' hn' hs=>?_) hcls
  obtain ⟨oL,_,_,hoL,_⟩:=id hn
  refine h _ ⟨I.ok,I.os,I.bare,⟨fun b o e n hb hx=>?_,fun b o e n hb hx=>?_,I.base.free,fun b o e hx=>?_,I.base.tups,I.base.frzs,I.base.tbls⟩,⟨_,hn',fun j y v' e1 e2 e3=>?_⟩,fun y c e=>?_,I.free,I.freeC,fun p hp=>?_,tracked ⟨oL,hoL,I.free⟩ hs,by simpa using I.len⟩ ⟨_,hs,.inl rfl⟩
  ·exact (hs.2 b (Nat.ne_of_lt (Nat.lt_of_lt_of_le (Heap.lt_size e) I.ok.above))).trans (I.base.keep b o e n hb hx)
  ·obtain ⟨sl,e1⟩:=I.base.slot b o e n hb hx
   exact ⟨sl,(hs.2 b (Nat.ne_of_lt (Nat.lt_of_lt_of_le (Heap.lt_size e) I.ok.above))).trans e1⟩
  ·obtain ⟨o',e1⟩:=I.base.there b o e hx
   exact ⟨o',(hs.2 b (Nat.ne_of_lt (Nat.lt_of_lt_of_le (Heap.lt_size e) I.ok.above))).trans e1⟩
  ·by_cases hj:j=i
   ·subst hj
    rw [hi] at e1;cases e1
    rw [List.getElem?_set_self hiσ] at e2
    cases e2
    exact ⟨u,r,.inl ⟨hk,by simp⟩⟩
   ·rw [List.getElem?_set_ne (Ne.symm hj)] at e2
    obtain ⟨u',r',q⟩:=hl j y v' e1 e2 e3
    refine ⟨u',r',?_⟩
    rcases q with ⟨k,e⟩ | ⟨k,c,e,z⟩
    ·refine .inl ⟨k,?_⟩
     have:y≠x:=fun e=>hj (u4J hN e1 (e ▸ hi))
     simp [this,e]
    ·exact .inr ⟨k,c,e,z.sameBut hs (cne y c e)⟩
  ·obtain ⟨w',z⟩:=I.cell y c e
   exact ⟨w',z.sameBut hs (cne y c e)⟩
  ·obtain ⟨e,n,ne,nf,d⟩:=I.pin p hp
   exact ⟨(hs.2 p.1 ne).trans e,n,ne,nf,d⟩
 ·have hfn:X.fn x=true:=by
   rcases hf with z | z
   ·exact z
   ·rw [z] at hk;cases hk
  obtain ⟨c,hc⟩:=I.ok.has x (.inl hk)
  obtain ⟨w',z⟩:=I.cell x c hc
  refine wpAny_storeName_cell I.ok.kind hk hc z (fun h' hc' hs=>?_)
  obtain ⟨oc,hoc,hocd⟩:=id z
  refine h { s with heap:=h' } ⟨I.ok,I.os,I.bare,⟨fun b o e n hb hx=>?_,fun b o e n hb hx=>?_,I.base.free,fun b o e hx=>?_,I.base.tups,I.base.frzs,I.base.tbls⟩,⟨m,hn.sameBut hs (Ne.symm (cne x c hc)),fun j y v' e1 e2 e3=>?_⟩,fun y c' e=>?_,I.free,I.freeC,fun p hp=>?_,tracked ⟨oc,hoc,I.freeC x c hc⟩ hs,by simpa using I.len⟩ ⟨c,hs,.inr hc⟩
  ·exact (hs.2 b (Nat.ne_of_lt (Nat.lt_of_lt_of_le (Heap.lt_size e) (I.ok.cab x c hfn hc)))).trans (I.base.keep b o e n hb hx)
  ·obtain ⟨sl,e1⟩:=I.base.slot b o e n hb hx
   exact ⟨sl,(hs.2 b (Nat.ne_of_lt (Nat.lt_of_lt_of_le (Heap.lt_size e) (I.ok.cab x c hfn hc)))).trans e1⟩
  ·obtain ⟨o',e1⟩:=I.base.there b o e hx
   exact ⟨o',(hs.2 b (Nat.ne_of_lt (Nat.lt_of_lt_of_le (Heap.lt_size e) (I.ok.cab x c hfn hc)))).trans e1⟩
  ·by_cases hj:j=i
   ·subst hj
    rw [hi] at e1;cases e1
    rw [List.getElem?_set_self hiσ] at e2
    cases e2
    exact ⟨u,r,.inr ⟨.inl hk,c,hc,hc'⟩⟩
   ·rw [List.getElem?_set_ne (Ne.symm hj)] at e2
    obtain ⟨u',r',q⟩:=hl j y v' e1 e2 e3
    refine ⟨u',r',?_⟩
    rcases q with q | ⟨k,c',e,z'⟩
    ·exact .inl q
    ·refine .inr ⟨k,c',e,z'.sameBut hs ?_⟩
     rintro rfl
     exact hj (u4J hN e1 (I.ok.inj _ _ _ e hc ▸ hi))
  ·by_cases hcc:c'=c
   ·subst hcc;exact ⟨_,hc'⟩
   ·obtain ⟨w2,z2⟩:=I.cell y c' e
    exact ⟨w2,z2.sameBut hs hcc⟩
  ·obtain ⟨e,n,ne,nf,d⟩:=I.pin p hp
   refine ⟨(hs.2 p.1 ?_).trans e,n,ne,nf,d⟩
   intro q
   rw [q,hoc] at e
   have q':oc=p.2:=Option.some.inj e
   exact d w' (by rw [← q'];exact hocd)
theorem u3i {M:Model}{A:Around}{E:VP}{i:Nat}{x:Str}{v:V}{u:Value}{Q:Unit→Shared→Prop} (I:Inv X pins σ H s) (hN:X.N.Nodup) (hi:X.N[i]?=some x) (hx:Loc X.env.scope x) (r:RelV v u)
  (h:∀ s',Inv X pins (σ.set i (some v)) H s'→Q () s') (hf:X.fn x=true∨X.env.scope.names.lookup x=some .local:=by first | exact .inl rfl | exact .inr rfl | assumption):wpAny M A (storeName X.env x u) Q E s :=
 u5d I hN hi hx r (fun s' I' _=>h s' I') hf
theorem Inv.call' {s':Shared}{ch:List Addr} (I:Inv X pins σ H s) (ho:s'.os=s.os) (u:Un (frs X.stack) ch H H' s.heap s'.heap) (hok:HOk X.prog X.w H' s'.heap) (hg:AllBare s'.gens)
  (hch:∀ b∈ch,(b∈X.ex∨X.s₀.heap.objs.size≤b)∧b≠X.env.locals∧(∀ x c,X.env.cells.lookup x=some c→c≠b)∧∀ p∈X.pn++pins,p.1≠b):Inv X pins σ H' s':=by
 obtain ⟨h',g',d',t',o'⟩:=s'
 have e:o'=s.os:=ho
 subst e
 exact I.call (g':=g') (t':=t') (d':=d') u hok hg hch
end
abbrev XK:=Value→Option Addr→Hp→Prop
abbrev St:=List (Option V)
abbrev VK:=V→Hp→Prop
abbrev TE:=St→Hp→VK→Prop
abbrev TT:=St→Hp→(Bool→Hp→Prop)→Prop
abbrev TA:=St→Hp→(List V→Hp→Prop)→Prop
structure Ends where
 nx:St→Hp→Prop
 rt:VK
 bk:St→Hp→Prop:=fun _ _=>False
 ct:St→Hp→Prop:=fun _ _=>False
abbrev TS:=Ends→St→Hp→Prop
def EP (X:Cx) (pins:LO) (σ:St) (Q:VK) (u:Value) (s':Shared):Prop:=∃ v H',Inv X pins σ H' s'∧RelV v u∧Q v H'
def TP (X:Cx) (pins:LO) (σ:St) (Q:Bool→Hp→Prop) (b:Bool) (s':Shared):Prop:=∃ H',Inv X pins σ H' s'∧Q b H'
def AP (X:Cx) (pins:LO) (σ:St) (Q:List V→Hp→Prop) (us:List Value) (s':Shared):Prop:=∃ vs H',Inv X pins σ H' s'∧Vals vs us∧Q vs H'
def SP (X:Cx) (pins:LO) (D:Ends) (f:Flow) (s':Shared):Prop :=
 match f with
 | .next=>∃ σ' H',Inv X pins σ' H' s'∧D.nx σ' H'
 | .brk=>∃ σ' H',Inv X pins σ' H' s'∧D.bk σ' H'
 | .cont=>∃ σ' H',Inv X pins σ' H' s'∧D.ct σ' H'
 | .ret u=>∃ v σ' H',Inv X pins σ' H' s'∧RelV v u∧D.rt v H'
def PE (X:Cx) (e:Expr) (t:TE):Prop :=
 ∀ (pins:LO) (s:Shared) (σ:St) (H:Hp) (Q:VK),Inv X pins σ H s→t σ H Q→wpAny (model X.prog X.w) X.A (eval e X.env) (EP X pins σ Q) X.xe s
def PT (X:Cx) (e:Expr) (t:TT):Prop :=
 ∀ (pins:LO) (s:Shared) (σ:St) (H:Hp) (Q:Bool→Hp→Prop),Inv X pins σ H s→t σ H Q→wpAny (model X.prog X.w) X.A (isTrue e X.env (eval e X.env)) (TP X pins σ Q) X.xe s
def PW (X:Cx) (e:Expr) (t:TT):Prop :=
 ∀ (whole:Sem Value) (pins:LO) (s:Shared) (σ:St) (H:Hp) (Q:Bool→Hp→Prop),Inv X pins σ H s→t σ H Q→wpAny (model X.prog X.w) X.A (isTrue e X.env whole) (TP X pins σ Q) X.xe s
theorem PW.pt {X:Cx}{e:Expr}{t:TT} (h:PW X e t):PT X e t:=h _
def PA (X:Cx) (es:List Expr) (t:TA):Prop :=
 ∀ (pos:Pos) (pins:LO) (s:Shared) (σ:St) (H:Hp) (Q:List V→Hp→Prop),Inv X pins σ H s→t σ H Q→wpAny (model X.prog X.w) X.A (spliced (backTo pos (starEach es X.env))) (AP X pins σ Q) X.xe s
def PS (X:Cx) (st:Stmt) (t:TS):Prop :=
 ∀ (pins:LO) (s:Shared) (σ:St) (H:Hp) (D:Ends),Inv X pins σ H s→t D σ H→wpAny (model X.prog X.w) X.A (exec st X.env) (SP X pins D) X.xe s
def PSs (X:Cx) (st:List Stmt) (t:TS):Prop :=
 ∀ (pins:LO) (s:Shared) (σ:St) (H:Hp) (D:Ends),Inv X pins σ H s→t D σ H→wpAny (model X.prog X.w) X.A (execs st X.env) (SP X pins D) X.xe s
theorem thn {α:Type}{t:Sem α}{Q Q':α→Shared→Prop}{M:Model}{A:Around}{E:VP}{s:Shared} (h:wpAny M A t Q E s) (hQ:∀ a s,Q a s→Q' a s):wpAny M A t Q' E s:=wpAny_mono h hQ fun _ _ x=>x
section
variable {X:Cx}
theorem bin {a b:Expr}{ta tb:TE} (ha:PE X a ta) (hb:PE X b tb) {pins:LO}{s:Shared}{σ:St}{H:Hp}{R:V→V→Hp→Prop} (I:Inv X pins σ H s) (h:ta σ H fun x H1=>tb σ H1 fun y H2=>R x y H2)
  {α:Type}{Q:α→Shared→Prop}{f:Value→Value→Sem α}
  (hf:∀ v u s2 x y H2,Inv X pins σ H2 s2→RelV x v→RelV y u→R x y H2→wpAny (model X.prog X.w) X.A (f v u) Q X.xe s2) :
  wpAny (model X.prog X.w) X.A (eval a X.env) (fun v s₁=>wpAny (model X.prog X.w) X.A (eval b X.env) (fun u s₂=>wpAny (model X.prog X.w) X.A (f v u) Q X.xe s₂) X.xe s₁) X.xe s:=by
 refine thn (ha pins s σ H _ I h) fun v s1 ⟨x,H1,I1,r1,q1⟩=>?_
 refine thn (hb pins s1 σ H1 _ I1 q1) fun u s2 ⟨y,H2,I2,r2,q2⟩=>?_
 exact hf v u s2 x y H2 I2 r1 r2 q2
def tVar (i:Nat):TE:=fun σ H Q=>∃ v,σ[i]?=some (some v)∧Q v H
def tC (v:V):TE:=fun _ H Q=>Q v H
theorem u1i {i:Nat}{x:Str}{pos:Pos} (hN:X.N[i]?=some x) (hv:Vis X.env.scope x) (hd:(x==("__debug__":Str))=false:=by decide) (hcd:(x==("__classdict__":Str))=false:=by decide):PE X (.Name x pos) (tVar i):=by
 intro pins s σ H Q I h
 obtain ⟨v,e,h⟩:=h
 obtain ⟨m,hn,hl⟩:=I.loc
 obtain ⟨u,r,l⟩:=hl i x v hN e hv
 have fin:EP X pins σ Q u s:=⟨v,H,I,r,h⟩
 rcases l with ⟨hk,hm⟩ | ⟨hk,c,hc,hcell⟩
 ·exact wpAny_Name (wpAny_loadName_local I.ok.kind hk hn hm fin) hd
 ·rcases hk with hk | hk
  ·exact wpAny_Name (wpAny_loadName_cell I.ok.kind hk hc hcell fin) hd
  ·exact wpAny_Name (wpAny_loadName_free I.ok.kind hk hc hcell fin hcd) hd
theorem pe_int {i j pos}:PE X (.Constant (.int i) j pos) (tC (.int i)):=fun _ _ _ H _ I h=>wpAny_Constant_int ⟨.int i,H,I.tok _,⟨_,rfl⟩,h⟩
theorem pe_bl {b j pos}:PE X (.Constant (.bool b) j pos) (tC (.bl b)):=fun _ _ _ H _ I h=>Constant_bool ⟨.bl b,H,I,rfl,h⟩
theorem pe_non {j pos}:PE X (.Constant .none j pos) (tC .non):=fun _ _ _ H _ I h=>Constant_none ⟨.non,H,I,rfl,h⟩
theorem pe_str {x j pos}:PE X (.Constant (.str x) j pos) (tC (.str x)):=fun _ _ _ H _ I h=>Calls.Constant_str ⟨.str x,H,I.tok _,⟨_,rfl⟩,h⟩
def Gl (X:Cx) (x:Str):Prop:=X.env.kindOf x=some .globalImplicit
theorem u2h {E:VP}{pins:LO}{s:Shared}{σ:St}{H:Hp}{x:Str}{u:Value}{pos:Pos}{Q:VP} (I:Inv X pins σ H s) (hg:Gl X x) (hm:X.mg x=some u) (h:Q u s)
  (hd:(x==("__debug__":Str))=false:=by decide):wpAny (model X.prog X.w) X.A (eval (.Name x pos) X.env) Q E s :=
 Calls.Name_function_global I.ok.kind hg (Calls.loadGlobal_global (by rw [I.ok.glob];exact I.mod.glob.keeps I.bk) hm h) hd
theorem u1C {E:VP}{pins:LO}{s:Shared}{σ:St}{H:Hp}{x:Str}{u:Value}{pos:Pos}{Q:VP} (I:Inv X pins σ H s) (hg:Gl X x) (hm:X.mg x=none) (hv:bootBuiltins x=some u) (h:Q u s)
  (hn:x≠"__name__":=by decide) (hd:(x==("__debug__":Str))=false:=by decide):wpAny (model X.prog X.w) X.A (eval (.Name x pos) X.env) Q E s:=by
 obtain ⟨mb,h1,h2⟩:=I.mod.blt
 exact Calls.Name_function_global I.ok.kind hg (Calls.loadGlobal_builtin (by rw [I.ok.glob];exact I.mod.glob.keeps I.bk) hm (by rw [I.ok.blt];exact h1.keeps I.bk) ((h2 x hn).trans hv) h) hd
theorem pe_glob {x:Str}{v:V}{u:Value}{pos:Pos} (hg:Gl X x) (hm:X.mg x=some u) (r:RelV v u) (hd:(x==("__debug__":Str))=false:=by decide):PE X (.Name x pos) (tC v) :=
 fun _ _ _ H _ I h=>u2h I hg hm ⟨v,H,I,r,h⟩ hd
theorem pe_bltn {x:Str}{v:V}{u:Value}{pos:Pos} (hg:Gl X x) (hm:X.mg x=none) (hv:bootBuiltins x=some u) (r:RelV v u) (hn:x≠"__name__":=by decide) (hd:(x==("__debug__":Str))=false:=by decide):PE X (.Name x pos) (tC v) :=
 fun _ _ _ H _ I h=>u1C I hg hm hv ⟨v,H,I,r,h⟩ hn hd
variable {a b:Expr}{ta tb:TE}{pos:Pos}
def PC (X:Cx) (op:CmpOp) (a b:Expr) (t:TE):Prop :=
 ∀ (pins:LO) (s:Shared) (σ:St) (H:Hp) (Q:VK),Inv X pins σ H s→t σ H Q →
  wpAny (model X.prog X.w) X.A (eval a X.env) (fun v s₁=>wpAny (model X.prog X.w) X.A (eval b X.env) (fun u s₂=>wpAny (model X.prog X.w) X.A (compareOp op v u) (EP X pins σ Q) X.xe s₂) X.xe s₁) X.xe s
def tB (t:TE):TT:=fun σ H Q=>t σ H fun x H1=>∃ c,x=.bl c∧Q c H1
theorem pt_cmp {op:CmpOp}{t:TE} (h:PC X op a b t) (h1:behindInMarks op b=false:=by first | exact nobehind _ (by decide) (by decide) | rfl):PT X (.Compare a [op] [b] pos) (tB t):=by
 intro pins s σ H Q I hw
 refine wpAny_isTrue_Compare1 (thn (h pins s σ H _ I hw) fun v s1 h1=>thn h1 fun u s2 h2=>thn h2 fun c s3 ⟨x,H1,I1,r1,q1⟩=>?_) h1
 obtain ⟨d,rfl,q⟩:=q1
 cases r1
 exact wpAny_truthy_bool ⟨H1,I1,q⟩
theorem pt_val {e:Expr}{t:TE} (h:PE X e t) (he:∀ whole,isTrue e X.env whole=(do let v ← whole;standAt e.pos;holding [v] (truthy v)):=by intro _;rfl):PT X e (tB t):=by
 intro pins s σ H Q I hw
 refine isTrue_plain (thn (h pins s σ H _ I hw) fun v s1 ⟨x,H1,I1,r1,q1⟩=>?_) (he _)
 obtain ⟨d,rfl,q⟩:=q1
 cases r1
 exact wpAny_truthy_bool ⟨H1,I1,q⟩
variable {tA tB':TT}{rest:List Expr}
def tAnd (t u:TT):TT:=fun σ H Q=>t σ H fun c H1=>if c=true then u σ H1 Q else Q false H1
def tOr (t u:TT):TT:=fun σ H Q=>t σ H fun c H1=>if c=true then Q true H1 else u σ H1 Q
def tNot (t:TT):TT:=fun σ H Q=>t σ H fun c H1=>Q (!c) H1
theorem pw_and1 (ha:PT X a tA):PW X (.BoolOp .And [a] pos) tA:=by
 intro wh pins s σ H Q I h
 refine isTrue_and (thn (ha pins s σ H Q I h) fun c s1 e=>?_)
 cases c with
 | true=>exact isTrue_and_nil e
 | false=>exact e
theorem v1r (ha:PT X a tA):PW X (.BoolOp .Or [a] pos) tA:=by
 intro wh pins s σ H Q I h
 refine isTrue_or (thn (ha pins s σ H Q I h) fun c s1 e=>?_)
 cases c with
 | false=>exact isTrue_or_nil e
 | true=>exact e
theorem pw_and (ha:PT X a tA) (hb:PW X (.BoolOp .And (b::rest) pos) tB'):PW X (.BoolOp .And (a::b::rest) pos) (tAnd tA tB'):=by
 intro wh pins s σ H Q I h
 refine isTrue_and (thn (ha pins s σ H _ I h) fun c s1 ⟨H1,I1,q1⟩=>?_)
 cases c with
 | true=>exact hb wh pins s1 σ H1 Q I1 q1
 | false=>exact ⟨H1,I1,q1⟩
theorem pw_or (ha:PT X a tA) (hb:PW X (.BoolOp .Or (b::rest) pos) tB'):PW X (.BoolOp .Or (a::b::rest) pos) (tOr tA tB'):=by
 intro wh pins s σ H Q I h
 refine isTrue_or (thn (ha pins s σ H _ I h) fun c s1 ⟨H1,I1,q1⟩=>?_)
 cases c with
 | true=>exact ⟨H1,I1,q1⟩
 | false=>exact hb wh pins s1 σ H1 Q I1 q1
theorem pt_not (ha:PT X a tA):PT X (.UnaryOp .Not a pos) (tNot tA):=by
 intro pins s σ H Q I h
 exact isTrue_not (ha pins s σ H (fun c H1=>Q (!c) H1) I h)
def tAndV (ta tb:TE):TE:=fun σ H Q=>ta σ H fun x H1=>∃ c,x=.bl c∧if c=true then tb σ H1 Q else Q (.bl false) H1
def tNotV (ta:TE):TE:=fun σ H Q=>ta σ H fun x H1=>∃ c,x=.bl c∧Q (.bl (!c)) H1
theorem pe_one {op}{t:TE} (h:PE X a t):PE X (.BoolOp op [a] pos) t:=fun pins s σ H Q I hw=>BoolOp_one (h pins s σ H Q I hw)
theorem pe_and (ha:PE X a ta) (hb:PE X (.BoolOp .And (b::rest) pos) tb):PE X (.BoolOp .And (a::b::rest) pos) (tAndV ta tb):=by
 intro pins s σ H Q I h
 refine BoolOp_and (thn (ha pins s σ H _ I h) fun v s1 ⟨x,H1,I1,r1,q1⟩=>?_)
 obtain ⟨c,rfl,q1⟩:=q1
 cases r1
 refine wpAny_truthy_bool ?_
 cases c with
 | true=>exact hb pins s1 σ H1 Q I1 q1
 | false=>exact ⟨.bl false,H1,I1,rfl,q1⟩
theorem pe_not (ha:PE X a ta):PE X (.UnaryOp .Not a pos) (tNotV ta):=by
 intro pins s σ H Q I h
 refine UnaryOp_ (thn (ha pins s σ H _ I h) fun v s1 ⟨x,H1,I1,r1,q1⟩=>?_)
 obtain ⟨c,rfl,q1⟩:=q1
 cases r1
 exact not_of (wpAny_truthy_bool ⟨.bl (!c),H1,I1,rfl,q1⟩)
def tIf (t:TT) (ta tb:TE):TE:=fun σ H Q=>t σ H fun c H1=>if c=true then ta σ H1 Q else tb σ H1 Q
theorem v0p {c:Expr} (hc:PT X c tA) (ha:PE X a ta) (hb:PE X b tb):PE X (.IfExp c a b pos) (tIf tA ta tb):=by
 intro pins s σ H Q I h
 refine wpAny_IfExp (thn (hc pins s σ H _ I h) fun d s1 ⟨H1,I1,q1⟩=>?_)
 cases d with
 | true=>exact ha pins s1 σ H1 Q I1 q1
 | false=>exact hb pins s1 σ H1 Q I1 q1
end
def SqL (K:W.Frag) (H:Hp) (a:Addr) (xs:List V):Prop :=
 Rd H a (.lst xs) ∨
  ∃ (o:Obj) (its:Array Value) (n:Nat),K.lookup a=some o∧o.cls=.type "list"∧o.dict=none∧o.data=.seq its n∧its.size≤sizeLine∧Vals xs its.toList
def SqT (K:W.Frag) (H:Hp) (a:Addr) (xs:List V):Prop :=
 Rd H a (.tup xs) ∨
  ∃ (o:Obj) (its:Array Value) (n:Nat),K.lookup a=some o∧o.cls=.type "tuple"∧o.data=.seq its n∧its.size≤sizeLine∧Vals xs its.toList
noncomputable def absV:Value→Option V
 | .none=>some .non
 | .bool b=>some (.bl b)
 | .int i _=>some (.int i)
 | .str x _=>some (.str x)
 | .bytes b _=>some (.byt b)
 | .float b _=>some (.flt b)
 | .ref a=>some (.ref a)
 | .type n=>some (.ty n)
 | _=>none
theorem RelV.abs {x:V}{u:Value} (r:RelV x u):absV u=some x:=by
 cases x with
 | non=>cases r;rfl
 | bl _=>cases r;rfl
 | int _=>obtain ⟨t,rfl⟩:=r;rfl
 | str _=>obtain ⟨t,rfl⟩:=r;rfl
 | byt _=>obtain ⟨t,rfl⟩:=r;rfl
 | flt _=>obtain ⟨t,rfl⟩:=r;rfl
 | ref _=>cases r;rfl
 | ty _=>cases r;rfl
theorem RelV.inj {x y:V}{u:Value} (r:RelV x u) (q:RelV y u):x=y:=Option.some.inj (r.abs.symm.trans q.abs)
theorem Vals.inj:∀ {xs ys:List V}{us:List Value},Vals xs us→Vals ys us→xs=ys
 | _,_,_,.nil,.nil=>rfl
 | _,_,_,.cons r t,.cons r' t'=>by rw [r.inj r',Vals.inj t t']
section
variable {X:Cx}{pins:LO}{σ:St}{H:Hp}{s:Shared}{a:Addr}{xs ys:List V}
theorem Inv.list (I:Inv X pins σ H s) (h:SqL X.K H a xs):∃ its:List Value,Vals xs its∧PlainL s.heap a its.toArray∧xs.length≤sizeLine:=by
 rcases h with h | ⟨o,its,n,hk,hc,hd,hs,hz,r⟩
 ·obtain ⟨z,its,n,r,e⟩:=h.ok I.hok
  exact ⟨its,r,⟨_,n,e,rfl,rfl,rfl⟩,z⟩
 ·refine ⟨its.toList,r,⟨o,n,I.kIn a o hk,hc,hd,by simpa using hs⟩,?_⟩
  have e:=r.length
  simp only [Array.length_toList] at e
  omega
theorem Inv.tuple (I:Inv X pins σ H s) (h:SqT X.K H a xs):∃ its:List Value,Vals xs its∧IsTup s.heap a its.toArray∧xs.length≤sizeLine:=by
 rcases h with h | ⟨o,its,n,hk,hc,hs,hz,r⟩
 ·obtain ⟨z,its,r,p⟩:=h.ok I.hok
  exact ⟨its,r,p,z⟩
 ·refine ⟨its.toList,r,⟨o,I.kIn a o hk,hc,n,by simpa using hs⟩,?_⟩
  have e:=r.length
  simp only [Array.length_toList] at e
  omega
theorem Inv.list_inj (I:Inv X pins σ H s) (h:SqL X.K H a xs) (h':SqL X.K H a ys):xs=ys:=by
 obtain ⟨its,r,⟨o,n,e,_,_,d⟩,_⟩:=I.list h
 obtain ⟨its',r',⟨o',n',e',_,_,d'⟩,_⟩:=I.list h'
 rw [e] at e';cases e'
 rw [d] at d'
 injection d' with d1 _
 have:its=its':=by simpa using congrArg Array.toList d1
 subst this
 exact r.inj r'
theorem Inv.tuple_inj (I:Inv X pins σ H s) (h:SqT X.K H a xs) (h':SqT X.K H a ys):xs=ys:=by
 obtain ⟨its,r,⟨o,e,_,n,d⟩,_⟩:=I.tuple h
 obtain ⟨its',r',⟨o',e',_,n',d'⟩,_⟩:=I.tuple h'
 rw [e] at e';cases e'
 rw [d] at d'
 injection d' with d1 _
 have:its=its':=by simpa using congrArg Array.toList d1
 subst this
 exact r.inj r'
end
abbrev Cx.wish (X:Cx) (E:VP):Cx:={ X with xe:=E }
abbrev Cx.nox (X:Cx):Cx:=X.wish fun _ _=>False
theorem Cx.Ok.wish {X:Cx} (ok:X.Ok) (E:VP):(X.wish E).Ok :=
 ⟨ok.mod,ok.kind,ok.glob,ok.blt,ok.above,ok.inj,ok.has,ok.cab,ok.hd,ok.frames,ok.stk,ok.exf,ok.bs,ok.bsz,ok.noex,ok.exfs,ok.funs,ok.frf⟩
theorem Cx.Ok.unwish {X:Cx}{E:VP} (ok:(X.wish E).Ok):X.Ok :=
 ⟨ok.mod,ok.kind,ok.glob,ok.blt,ok.above,ok.inj,ok.has,ok.cab,ok.hd,ok.frames,ok.stk,ok.exf,ok.bs,ok.bsz,ok.noex,ok.exfs,ok.funs,ok.frf⟩
section
variable {X:Cx}{pins:LO}{σ:St}{H:Hp}{s:Shared}{E:VP}
theorem Inv.wish (I:Inv X pins σ H s) (E:VP):Inv (X.wish E) pins σ H s:=⟨I.ok.wish E,I.os,I.bare,I.base,I.loc,I.cell,I.free,I.freeC,I.pin,I.hok,I.len⟩
theorem Inv.unwish (I:Inv (X.wish E) pins σ H s):Inv X pins σ H s:=⟨I.ok.unwish,I.os,I.bare,I.base,I.loc,I.cell,I.free,I.freeC,I.pin,I.hok,I.len⟩
theorem SP.unwish {D:Ends}{f:Flow}{s':Shared} (h:SP (X.wish E) pins D f s'):SP X pins D f s':=by
 cases f with
 | next=>obtain ⟨σ',H',I,q⟩:=h;exact ⟨σ',H',I.unwish,q⟩
 | brk=>obtain ⟨σ',H',I,q⟩:=h;exact ⟨σ',H',I.unwish,q⟩
 | cont=>obtain ⟨σ',H',I,q⟩:=h;exact ⟨σ',H',I.unwish,q⟩
 | ret u=>obtain ⟨v,σ',H',I,r,q⟩:=h;exact ⟨v,σ',H',I.unwish,r,q⟩
theorem PSs.nox {st:List Stmt}{t:TS} (h:PSs X.nox st t):PSs X st t:=fun pins s σ H D I hw =>
 wpAny_mono (h pins s σ H D (I.wish _) hw) (fun _ _ q=>q.unwish) fun _ _ z=>False.elim z
end
section
variable {X:Cx}{st:Stmt}{rest:List Stmt}{t u:TS}{e:Expr}{te:TE}{pos:Pos}
def tNext:TS:=fun D σ H=>D.nx σ H
def tSeq (t u:TS):TS:=fun D σ H=>t { D with nx:=u D } σ H
theorem u6p:PSs X [] tNext:=fun _ _ σ H _ I h=>wpAny_execs_nil ⟨σ,H,I,h⟩
theorem u2s (h1:PS X st t) (h2:PSs X rest u):PSs X (st::rest) (tSeq t u):=by
 intro pins s σ H D I h
 refine wpAny_execs_cons (thn (h1 pins s σ H { D with nx:=u D } I h) fun f s1 q=>?_)
 cases f with
 | next =>
  obtain ⟨σ',H',I',q⟩:=q
  exact h2 pins s1 σ' H' D I' q
 | ret v=>exact q
 | brk=>exact q
 | cont=>exact q
theorem u3x (h1:PS X st t):PSs X [st] t:=by
 intro pins s σ H D I h
 refine wpAny_execs_cons (thn (h1 pins s σ H D I h) fun f s1 q=>?_)
 cases f with
 | next=>exact wpAny_execs_nil q
 | ret v=>exact q
 | brk=>exact q
 | cont=>exact q
theorem Inv.quiet {pins:LO}{σ:St}{H:Hp}{s:Shared} (I:Inv X pins σ H s):interactive X.env=false:=by simp [interactive,I.ok.kind]
def tDrop (te:TE):TS:=fun D σ H=>te σ H fun _ H1=>D.nx σ H1
theorem u3y (he:PE X e te) (hs:swapsWith e none pos.line X.env=pure false:=by rfl):PS X (.Expr e pos) (tDrop te):=by
 intro pins s σ H D I h
 exact wpAny_Expr_any (thn (he pins s σ H _ I h) fun v s1 ⟨x,H1,I1,r1,q1⟩=>⟨σ,H1,I1,q1⟩) I.quiet hs
def tRet (te:TE):TS:=fun D σ H=>te σ H D.rt
theorem u7c (he:PE X e te):PS X (.Return (some e) pos) (tRet te):=by
 intro pins s σ H D I h
 exact wpAny_Return_some (thn (he pins s σ H _ I h) fun v s1 ⟨x,H1,I1,r1,q1⟩=>⟨x,σ,H1,I1,r1,q1⟩)
def tIfS (c:TT) (t u:TS):TS:=fun D σ H=>c σ H fun b H1=>if b=true then t D σ H1 else u D σ H1
theorem ps_if {c:Expr}{a b:List Stmt}{tc:TT} (hc:PT X c tc) (ha:PSs X a t) (hb:PSs X b u):PS X (.If c a b pos) (tIfS tc t u):=by
 intro pins s σ H D I h
 refine wpAny_If (thn (hc pins s σ H _ I h) fun d s1 ⟨H1,I1,q1⟩=>?_)
 cases d with
 | true=>exact ha pins s1 σ H1 D I1 q1
 | false=>exact hb pins s1 σ H1 D I1 q1
end
abbrev TG:=V→St→Hp→(St→Hp→Prop)→Prop
abbrev TGs:=List V→St→Hp→(St→Hp→Prop)→Prop
def PG (X:Cx) (target:Expr) (t:TG):Prop :=
 ∀ (pins:LO) (s:Shared) (σ:St) (H:Hp) (v:V) (u:Value) (Q:St→Hp→Prop),Inv X pins σ H s→RelV v u→t v σ H Q →
  wpAny (model X.prog X.w) X.A (assign target X.env u) (fun _ s'=>∃ σ' H',Inv X pins σ' H' s'∧Q σ' H') X.xe s
def PGs (X:Cx) (ts:List Expr) (t:TGs):Prop :=
 ∀ (pins:LO) (s:Shared) (σ:St) (H:Hp) (vs:List V) (us:List Value) (Q:St→Hp→Prop),Inv X pins σ H s→Vals vs us→t vs σ H Q →
  wpAny (model X.prog X.w) X.A (assignInOrder ((assignEach ts X.env).map (·.2)) us) (fun _ s'=>∃ σ' H',Inv X pins σ' H' s'∧Q σ' H') X.xe s
abbrev TSet:=V→V→V→Hp→(Hp→Prop)→Prop
def PSet (X:Cx) (t:TSet):Prop :=
 ∀ (pins:LO) (s:Shared) (σ:St) (H:Hp) (o i v:V) (ov iv u:Value) (Q:Hp→Prop),Inv X pins σ H s→RelV o ov→RelV i iv→RelV v u→t o i v H Q →
  wpAny (model X.prog X.w) X.A (setItem ov iv u) (fun _ s'=>∃ H',Inv X pins σ H' s'∧Q H') X.xe s
section
variable {X:Cx}{pos:Pos}
def gName (i:Nat):TG:=fun v σ H Q=>Q (σ.set i (some v)) H
theorem pg_name {i:Nat}{x:Str} (hN:X.N.Nodup) (hi:X.N[i]?=some x) (hx:Loc X.env.scope x) (hf:X.fn x=true∨X.env.scope.names.lookup x=some .local:=by first | exact .inl rfl | exact .inr rfl | assumption):PG X (.Name x pos) (gName i):=by
 intro pins s σ H v u Q I r h
 exact wpAny_assign_Name (u3i I hN hi hx r (fun s' I'=>⟨_,H,I',h⟩) hf)
def gNil:TGs:=fun vs σ H Q=>vs=[]∧Q σ H
def gCons (t:TG) (u:TGs):TGs:=fun vs σ H Q=>∃ v r,vs=v::r∧t v σ H fun σ' H'=>u r σ' H' Q
theorem pgs_nil:PGs X [] gNil:=by
 intro pins s σ H vs us Q I r h
 obtain ⟨e,h⟩:=h
 subst e
 cases r
 exact assignInOrder_nil ⟨σ,H,I,h⟩
theorem v0n {e:Expr}{es:List Expr}{t:TG}{u:TGs} (h1:PG X e t) (h2:PGs X es u)
  (hs:(assignEach (e::es) X.env).map (·.2)=assign e X.env::(assignEach es X.env).map (·.2):=by rfl):PGs X (e::es) (gCons t u):=by
 intro pins s σ H vs us Q I r h
 obtain ⟨v,vr,e1,h⟩:=h
 subst e1
 cases r with
 | cons r rr =>
  rw [hs]
  refine assignInOrder_cons (thn (h1 pins s σ H _ _ _ I r h) fun _ s1 ⟨σ1,H1,I1,q1⟩=>?_)
  exact h2 pins s1 σ1 H1 _ _ Q I1 rr q1
def gTup (K:W.Frag) (n:Nat) (t:TGs):TG:=fun v σ H Q=>∃ a xs,v=.ref a∧SqT K H a xs∧xs.length=n∧t xs σ H Q
theorem pg_tup {es:List Expr}{k:Nat}{t:TGs}{n:Nat} (hc:X.calm=true) (h:PGs X es t)
  (hn:(assignEach es X.env).length=n:=by rfl) (hst:(assignEach es X.env).findIdx? (·.1)=none:=by rfl):PG X (.Tuple es k pos) (gTup X.K n t):=by
 intro pins s σ H v u Q I r hw
 obtain ⟨a,xs,e1,hq,hl,hw⟩:=hw
 subst e1
 cases r
 obtain ⟨its,rv,ht,hz⟩:=I.tuple hq
 refine assign_Tuple_tuple (I.ok.hd hc) ht (by simp [hn,← hl,rv.length]) hst fun h' hx=>?_
 have I1:Inv X pins σ H { s with heap:=h' }:=I.kept (t':=s.toks) fun b o e=>hx b o (Nat.ne_of_lt (Heap.lt_size e)) e
 exact h pins _ σ H xs _ Q I1 (by simpa using rv) hw
def gSub (to ti:TE) (t:TSet):TG:=fun v σ H Q=>to σ H fun o H1=>ti σ H1 fun i H2=>t o i v H2 fun H3=>Q σ H3
theorem v1t {o i:Expr}{to ti:TE}{t:TSet} (ho:PE X o to) (hi:PE X i ti) (hs:PSet X t)
  (ha:∀ v,assign (.Subscript o i pos) X.env v=(do
   let ov ← holding [v] (eval o X.env)
   let iv ← holding [v,ov] (eval i X.env)
   standAt pos
   holding [v,ov,iv] (setItem ov iv v)
   release [v,ov,iv] []):=by intro _;rfl):PG X (.Subscript o i pos) (gSub to ti t):=by
 intro pins s σ H v u Q I r h
 rw [ha]
 refine wpAny_bind (wpAny_holding (thn (ho pins s σ H _ I h) fun ov s1 ⟨x,H1,I1,r1,q1⟩=>?_))
 refine wpAny_bind (wpAny_holding (thn (hi pins s1 σ H1 _ I1 q1) fun iv s2 ⟨y,H2,I2,r2,q2⟩=>?_))
 refine wpAny_bind (wpAny_standAt (wpAny_bind (wpAny_holding (thn (hs pins s2 σ H2 x y v ov iv u _ I2 r1 r2 r q2) fun _ s3 ⟨H3,I3,q3⟩=>?_))))
 exact wpAny_release ⟨σ,H3,I3,q3⟩
def tAsg (te:TE) (g:TG):TS:=fun D σ H=>te σ H fun x H1=>g x σ H1 D.nx
theorem u8E {tg e:Expr}{te:TE}{g:TG} (he:PE X e te) (hg:PG X tg g) (hs:swapsWithSole [tg] e pos.line X.env=pure false:=by rfl) (hw:swappedStores [tg] e X.env=pure none:=by rfl)
  (h1:(assignEach [tg] X.env).map (·.2)=[assign tg X.env]:=by rfl):PS X (.Assign [tg] e pos) (tAsg te g):=by
 intro pins s σ H D I h
 refine wpAny_Assign_stores (thn (he pins s σ H _ I h) fun v s1 ⟨x,H1,I1,r1,q1⟩=>?_) hs hw
 rw [h1]
 exact thn (hg pins s1 σ H1 x v _ I1 r1 q1) fun _ s2 q=>q
theorem ps_set {i:Nat}{x:Str}{e:Expr}{te:TE}{pos':Pos} (hN:X.N.Nodup) (hi:X.N[i]?=some x) (hx:Loc X.env.scope x) (he:PE X e te) (hs:swapsWith e (some (.Name x pos')) pos.line X.env=pure false:=by rfl) (hf:X.fn x=true∨X.env.scope.names.lookup x=some .local:=by first | exact .inl rfl | exact .inr rfl | assumption) :
  PS X (.Assign [.Name x pos'] e pos) (tAsg te (gName i)):=by
 intro pins s σ H D I h
 refine wpAny_Assign_Name (thn (he pins s σ H _ I h) fun v s1 ⟨y,H1,I1,r1,q1⟩=>?_) hs
 exact u3i I1 hN hi hx r1 (fun s2 I2=>⟨_,H1,I2,q1⟩) hf
end
section
variable {X:Cx}{pos:Pos}
def tWhile (c:TT) (tb:TS):TS:=fun D σ H=>∃ W:Nat→St→Hp→Prop,(∃ m,W m σ H)∧∀ m σ H,W m σ H →
 c σ H fun b H1=>if b=true then ∃ N:St→Hp→Prop,(∀ σ' H',N σ' H'→∃ m',m'<m∧W m' σ' H')∧tb { D with nx:=N,ct:=N,bk:=D.nx } σ H1 else D.nx σ H1
theorem v0j {c:Expr}{body:List Stmt}{tc:TT}{tb:TS} (hp:PassesOwn (model X.prog X.w) X.A X.env X.xe) (hc:PT X c tc) (hb:PSs X body tb):PS X (.While c body [] pos) (tWhile tc tb):=by
 intro pins s σ H D I h
 obtain ⟨W,⟨m0,w0⟩,turn⟩:=h
 refine wpAny_While (codeAny_whileLoop (fun n s'=>∃ σ' H',Inv X pins σ' H' s'∧W n σ' H') ?_ m0 ⟨σ,H,I,w0⟩)
 rintro n s1 ⟨σ1,H1,I1,w1⟩
 refine wpAny_passesOwn hp (thn (hc pins s1 σ1 H1 _ I1 (turn n σ1 H1 w1)) fun b s2 ⟨H2,I2,q2⟩=>?_)
 cases b with
 | true =>
  obtain ⟨N,hN,q2⟩:=q2
  rw [if_pos rfl]
  refine wpAny_passesOwn hp (thn (hb pins s2 σ1 H2 _ I2 q2) fun f s3 q3=>?_)
  cases f with
  | next =>
   obtain ⟨σ3,H3,I3,n3⟩:=q3
   obtain ⟨m',hm,w3⟩:=hN σ3 H3 n3
   exact ⟨m',hm,σ3,H3,I3,w3⟩
  | cont =>
   obtain ⟨σ3,H3,I3,n3⟩:=q3
   obtain ⟨m',hm,w3⟩:=hN σ3 H3 n3
   exact ⟨m',hm,σ3,H3,I3,w3⟩
  | brk=>exact q3
  | ret v=>exact q3
 | false =>
  rw [if_neg Bool.false_ne_true]
  exact wpAny_execs_nil ⟨σ1,H2,I2,q2⟩
end
structure It where
 go:Nat→Hp→Prop
 yld:Nat→Hp→V→Hp→Prop
 stop:Nat→Hp→Prop
def FpOk (X:Cx) (pins:LO) (H:Hp) (b:Addr):Prop :=
 H b=none∧b≠X.env.locals∧b∉X.fs∧(b∈X.ex∨X.s₀.heap.objs.size≤b)∧(∀ x c,X.env.cells.lookup x=some c→c≠b)∧∀ p∈X.pn++pins,p.1≠b
theorem Inv.fpOk {X:Cx}{pins:LO}{σ:St}{H H':Hp}{s:Shared}{b:Addr} (I:Inv X pins σ H s) (hb:s.heap.objs.size≤b) (hn:H' b=none):FpOk X pins H' b:=by
 refine ⟨hn,Nat.ne_of_gt (Nat.lt_of_lt_of_le I.lt hb),I.nofs hb,.inr (Nat.le_trans I.sz hb),fun x c e z=>?_,fun p hp z=>?_⟩
 ·obtain ⟨v,q⟩:=I.cell x c e
  exact absurd (Nat.lt_of_lt_of_le q.lt (by rw [z];exact hb)) (Nat.lt_irrefl _)
 ·exact absurd (Nat.lt_of_lt_of_le (Heap.lt_size (I.pin p hp).1) (by rw [z];exact hb)) (Nat.lt_irrefl _)
structure Turn (P:Program) (w:World) (K:W.Frag) (tg:Expr) (J:It) (fp:List Addr) (it:Addr) (tn:Nat→Heap→Prop):Prop where
 mem:it∈fp
 obj:∀ i h,tn i h→∀ b∈fp,∃ o,h.get? b=some o∧∀ v,o.data≠.cell v
 keep:∀ i h h',tn i h→(∀ b∈fp,∀ o,h.get? b=some o→h'.get? b=some o)→tn i h'
 item:∀ (X:Cx),X.prog=P→X.w=w→X.K=K→X.calm=true→∀ (i:Nat) (pins:LO) (s:Shared) (σ:St) (H:Hp) (E:VP),Inv X pins σ H s→(∀ b∈fp,FpOk X pins H b)→tn i s.heap→J.go i H →
  wpAny (model P w) X.A (pyNext (.ref it)) (fun r s1=>∃ u,r=some u ∧
   wpAny (model P w) X.A (letOwnedTupleGo tg (.ref it) u) (fun _ s2=>∃ x H',Inv X pins σ H' s2∧RelV x u∧J.yld i H x H'∧tn (i+1) s2.heap∧∀ b∈fp,H' b=none) E s1) E s
 done:∀ (X:Cx),X.prog=P→X.w=w→X.K=K→X.calm=true→∀ (i:Nat) (pins:LO) (s:Shared) (σ:St) (H:Hp) (E:VP),Inv X pins σ H s→(∀ b∈fp,FpOk X pins H b)→tn i s.heap→J.stop i H →
  wpAny (model P w) X.A (pyNext (.ref it)) (fun r s1=>r=none∧Inv X pins σ H s1) E s
 self:∀ (A:Around) (i:Nat) (s:Shared) (Q:VP) (E:VP),tn i s.heap→Q (.ref it) s→wpAny (model P w) A (pyIter (.ref it)) Q E s
abbrev TI:=St→Hp→(It→Hp→Prop)→Prop
def PIE (X:Cx) (pins:LO) (σ:St) (tg:Expr) (R:It→Hp→Prop) (itv:Value) (s2:Shared):Prop :=
 ∃ (it:Addr) (fp:List Addr) (tn:Nat→Heap→Prop) (J:It) (H':Hp),itv=.ref it∧Inv X pins σ H' s2∧Turn X.prog X.w X.K tg J fp it tn∧tn 0 s2.heap∧(∀ b∈fp,FpOk X pins H' b)∧R J H'
def PI (X:Cx) (tg iter:Expr) (wi:TI):Prop :=
 ∀ (pins:LO) (s:Shared) (σ:St) (H:Hp) (R:It→Hp→Prop),Inv X pins σ H s→wi σ H R →
  wpAny (model X.prog X.w) X.A (eval iter X.env) (fun v s1=>wpAny (model X.prog X.w) X.A (pyIter v) (PIE X pins σ tg R) X.xe s1) X.xe s
theorem u9m {M:Model}{A:Around}{E:VP}{s:Shared}{tg:Expr}{it:Addr}{u:Value}{o:Obj}{n:String}{vs:Array Value}{Q:Unit→Shared→Prop} (ho:s.heap.get? it=some o) (hc:o.cls=.type n) (hd:o.data=.fields vs)
  (hn:["enumerate","zip","dict_itemiterator","dict_reverseitemiterator","odict_iterator","itertools.zip_longest","itertools.pairwise"].contains n=false) (hQ:Q () s):wpAny M A (letOwnedTupleGo tg (.ref it) u) Q E s:=by
 unfold letOwnedTupleGo
 cases tg <;> first
  | exact wpAny_pure hQ
  | (cases u <;> first
    | exact wpAny_pure hQ
    | (refine wpAny_bind (wpAny_load ho ?_)
       rw [hc,hd]
       show wpAny M A (if (["enumerate","zip","dict_itemiterator","dict_reverseitemiterator","odict_iterator","itertools.zip_longest","itertools.pairwise"].contains n&&vs[0]?==some (rawInt _))=true then _ else _) Q E s
       rw [if_neg (by intro h;rw [hn,Bool.false_and] at h;cases h)]
       exact wpAny_pure hQ))
def Itl (K:W.Frag) (a:Addr):It :=
 ⟨fun i H=>∃ xs x,SqL K H a xs∧xs[i]?=some x,fun i H x H'=>H'=H∧∀ xs,SqL K H a xs→xs[i]?=some x,fun i H=>∃ xs,SqL K H a xs∧xs.length≤i⟩
def Itt (K:W.Frag) (a:Addr):It :=
 ⟨fun i H=>∃ xs x,SqT K H a xs∧xs[i]?=some x,fun i H x H'=>H'=H∧∀ xs,SqT K H a xs→xs[i]?=some x,fun i H=>∃ xs,SqT K H a xs∧xs.length≤i⟩
def Itr (lo:Int) (n:Nat):It:=⟨fun i _=>i<n,fun i H x H'=>H'=H∧x=.int (lo+i),fun i _=>n≤i⟩
theorem u8q {P:Program}{w:World}{K:W.Frag}{tg:Expr} (a it:Addr):Turn P w K tg (Itl K a) [it] it (fun i h=>h.IsListIter it a i) where
 mem:=by simp
 obj:=fun i h st b hb=>by
  have e:b=it:=by simpa using hb
  subst e
  obtain ⟨o,e,c,d⟩:=st
  exact ⟨o,e,fun v z=>by rw [d] at z;cases z⟩
 keep:=fun i h h' st k=>st.at fun o e=>k it (by simp) o e
 item:=by
  intro X hP hw hK hc i pins s σ H E I hf st hg
  subst hP hw hK
  obtain ⟨xs,x,hq,hx⟩:=hg
  obtain ⟨its,rv,p,hz⟩:=I.list hq
  obtain ⟨u,hu,ru⟩:=rv.get hx
  obtain ⟨f0,f1,f2,f3,f4,f5⟩:=hf it (by simp)
  refine wpAny_pyNext_list_item st p.isList (x:=u) (by simpa using hu) fun h' st' sb=>?_
  have I1:Inv X pins σ H { s with heap:=h' }:=I.turned (t':=s.toks) (fun b o hb e=>(sb.2 b hb).trans e) f0 f1 f3 f4 f5
  obtain ⟨o,e,c,d⟩:=id st'
  exact ⟨u,rfl,u9m (s:={ s with heap:=h' }) e c d (by decide) ⟨x,H,I1,ru,⟨rfl,fun ys hy=>by rw [I.list_inj hy hq];exact hx⟩,st',fun b hb=>(hf b hb).1⟩⟩
 done:=by
  intro X hP hw hK hc i pins s σ H E I hf st hg
  subst hP hw hK
  obtain ⟨xs,hq,hx⟩:=hg
  obtain ⟨its,rv,p,hz⟩:=I.list hq
  obtain ⟨f0,f1,f2,f3,f4,f5⟩:=hf it (by simp)
  have hl:=rv.length
  exact wpAny_pyNext_list_end (I.ok.hd hc) st p.isList (by simp;omega) fun h' eb=>⟨rfl,I.turned (t':=s.toks) (fun b o hb e=>eb b o hb e) f0 f1 f3 f4 f5⟩
 self:=fun _ _ _ _ _ st h=>wpAny_pyIter_listiter st h
theorem u7L {P:Program}{w:World}{K:W.Frag}{tg:Expr} (a it:Addr):Turn P w K tg (Itt K a) [it] it (fun i h=>h.IsTupleIter it a i) where
 mem:=by simp
 obj:=fun i h st b hb=>by
  have e:b=it:=by simpa using hb
  subst e
  obtain ⟨o,e,c,d⟩:=st
  exact ⟨o,e,fun v z=>by rw [d] at z;cases z⟩
 keep:=fun i h h' st k=>st.at fun o e=>k it (by simp) o e
 item:=by
  intro X hP hw hK hc i pins s σ H E I hf st hg
  subst hP hw hK
  obtain ⟨xs,x,hq,hx⟩:=hg
  obtain ⟨its,rv,p,hz⟩:=I.tuple hq
  obtain ⟨u,hu,ru⟩:=rv.get hx
  obtain ⟨f0,f1,f2,f3,f4,f5⟩:=hf it (by simp)
  refine wpAny_pyNext_tuple_item st (show s.heap.IsTuple a its.toArray from p) (x:=u) (by simpa using hu) fun h' st' sb=>?_
  have I1:Inv X pins σ H { s with heap:=h' }:=I.turned (t':=s.toks) (fun b o hb e=>(sb.2 b hb).trans e) f0 f1 f3 f4 f5
  obtain ⟨o,e,c,d⟩:=id st'
  exact ⟨u,rfl,u9m (s:={ s with heap:=h' }) e c d (by decide) ⟨x,H,I1,ru,⟨rfl,fun ys hy=>by rw [I.tuple_inj hy hq];exact hx⟩,st',fun b hb=>(hf b hb).1⟩⟩
 done:=by
  intro X hP hw hK hc i pins s σ H E I hf st hg
  subst hP hw hK
  obtain ⟨xs,hq,hx⟩:=hg
  obtain ⟨its,rv,p,hz⟩:=I.tuple hq
  obtain ⟨f0,f1,f2,f3,f4,f5⟩:=hf it (by simp)
  have hl:=rv.length
  exact wpAny_pyNext_tuple_end (I.ok.hd hc) st (show s.heap.IsTuple a its.toArray from p) (by simp;omega) fun h' eb=>⟨rfl,I.turned (t':=s.toks) (fun b o hb e=>eb b o hb e) f0 f1 f3 f4 f5⟩
 self:=fun _ _ _ _ _ st h=>wpAny_pyIter_tupleiter st h
theorem u7M {P:Program}{w:World}{K:W.Frag}{tg:Expr} (it:Addr) (lo:Int) (n:Nat):Turn P w K tg (Itr lo n) [it] it (fun i h=>IsRangeIter h it (lo+(i:Nat)*1) ((n:Int) - (i:Nat)) 1) where
 mem:=by simp
 obj:=fun i h st b hb=>by
  have e:b=it:=by simpa using hb
  subst e
  exact ⟨_,st,fun v z=>by
   have z':Data.fields _=Data.cell v:=z
   cases z'⟩
 keep:=fun i h h' st k=>k it (by simp) _ st
 item:=by
  intro X hP hw hK hc i pins s σ H E I hf st hg
  subst hP hw hK
  obtain ⟨f0,f1,f2,f3,f4,f5⟩:=hf it (by simp)
  have W:=Walks.range (prog:=X.prog) (w:=X.w) (I.ok.hd hc) it lo 1 n
  refine W.item i s _ _ hg st fun v h' tk hv st' kk=>?_
  obtain ⟨t,rfl⟩:=hv
  have I1:Inv X pins σ H { s with heap:=h',toks:=tk }:=I.turned (fun b o hb e=>kk b o (by simpa using hb) e) f0 f1 f3 f4 f5
  refine ⟨_,rfl,u9m (s:={ s with heap:=h',toks:=tk }) (n:="range_iterator") st' rfl rfl (by decide) ⟨.int (lo+i),H,I1,⟨t,?_⟩,⟨rfl,rfl⟩,st',fun b hb=>(hf b hb).1⟩⟩
  rw [Int.mul_one]
 done:=by
  intro X hP hw hK hc i pins s σ H E I hf st hg
  subst hP hw hK
  obtain ⟨f0,f1,f2,f3,f4,f5⟩:=hf it (by simp)
  exact wpAny_pyNext_range_end (I.ok.hd hc) st (by have:n≤i:=hg;omega) fun h' eb=>⟨rfl,I.turned (t':=s.toks) (fun b o hb e=>eb b o hb e) f0 f1 f3 f4 f5⟩
 self:=fun _ _ _ _ _ st h=>wpAny_pyIter_rangeiter st h
section
variable {X:Cx}{tg:Expr}
def iList (K:W.Frag) (tl:TE):TI:=fun σ H R=>tl σ H fun x H1=>∃ a,x=.ref a∧(∃ xs,SqL K H1 a xs)∧R (Itl K a) H1
def iTup (K:W.Frag) (tl:TE):TI:=fun σ H R=>tl σ H fun x H1=>∃ a,x=.ref a∧(∃ xs,SqT K H1 a xs)∧R (Itt K a) H1
theorem u8N {l:Expr}{tl:TE} (hl:PE X l tl):PI X tg l (iList X.K tl):=by
 intro pins s σ H R I h
 refine thn (hl pins s σ H _ I h) fun v s1 ⟨x,H1,I1,r1,q1⟩=>?_
 obtain ⟨a,e,⟨xs,hq⟩,q⟩:=q1
 subst e
 cases r1
 obtain ⟨its,rv,p,hz⟩:=I1.list hq
 refine wpAny_pyIter_list p.isList ?_
 refine ⟨s1.heap.objs.size,[s1.heap.objs.size],_,_,H1,rfl,I1.kept (t':=s1.toks) fun b o e=>Heap.get?_push_of_some _ e,u8q a _,⟨_,Heap.get?_push_size _ rfl,rfl,rfl⟩,fun b hb=>?_,q⟩
 have e:b=s1.heap.objs.size:=by simpa using hb
 subst e
 exact I1.fpOk (Nat.le_refl _) (I1.hok.fresh (Nat.le_refl _))
theorem pi_tup {l:Expr}{tl:TE} (hl:PE X l tl):PI X tg l (iTup X.K tl):=by
 intro pins s σ H R I h
 refine thn (hl pins s σ H _ I h) fun v s1 ⟨x,H1,I1,r1,q1⟩=>?_
 obtain ⟨a,e,⟨xs,hq⟩,q⟩:=q1
 subst e
 cases r1
 obtain ⟨its,rv,p,hz⟩:=I1.tuple hq
 refine wpAny_pyIter_tuple (show s1.heap.IsTuple a its.toArray from p) ?_
 refine ⟨s1.heap.objs.size,[s1.heap.objs.size],_,_,H1,rfl,I1.kept (t':=s1.toks) fun b o e=>Heap.get?_push_of_some _ e,u7L a _,⟨_,Heap.get?_push_size _ rfl,rfl,rfl⟩,fun b hb=>?_,q⟩
 have e:b=s1.heap.objs.size:=by simpa using hb
 subst e
 exact I1.fpOk (Nat.le_refl _) (I1.hok.fresh (Nat.le_refl _))
theorem u6Y {pins:LO}{σ:St}{H:Hp}{s:Shared}{R:It→Hp→Prop}{E:VP}{lo hi:Int}{t u v:Tok}{tk:Nat} (I:Inv X pins σ H s) (h1:-(2^62)≤lo) (h2:lo<2^62) (h3:-(2^62)≤hi) (h4:hi<2^62)
  (q:R (Itr lo (hi - lo).toNat) H):wpAny (model X.prog X.w) X.A (pyIter (.ref s.heap.objs.size)) (PIE X pins σ tg R) E { s with heap:=s.heap.push { cls:=.type "range",data:=.fields #[.int lo t,.int hi u,.int 1 v] },toks:=tk }:=by
 refine wpAny_pyIter_range (IsRange.new ..) (small_one h1 h2 h3 h4) ?_
 have I1:Inv X pins σ H { s with heap:=s.heap.push { cls:=.type "range",data:=.fields #[.int lo t,.int hi u,.int 1 v] },toks:=tk }:=I.kept fun b o e=>Heap.get?_push_of_some _ e
 refine ⟨(s.heap.push { cls:=.type "range",data:=.fields #[.int lo t,.int hi u,.int 1 v] }).objs.size,[(s.heap.push { cls:=.type "range",data:=.fields #[.int lo t,.int hi u,.int 1 v] }).objs.size],_,_,H,rfl,
  I1.kept (t':=tk) fun b o e=>Heap.get?_push_of_some _ e,u7M _ lo (hi - lo).toNat,?_,fun b hb=>?_,q⟩
 ·have e1:lo+((0:Nat):Int)*1=lo:=by simp
  have e2:(((hi - lo).toNat:Nat):Int) - ((0:Nat):Int)=Builtin.Range.rangeSize lo hi 1:=by rw [rangeSize_one];split <;> omega
  show IsRangeIter _ _ (lo+((0:Nat):Int)*1) ((((hi - lo).toNat:Nat):Int) - ((0:Nat):Int)) 1
  rw [e1,e2]
  exact Heap.get?_push_size _ rfl
 ·have e:b=(s.heap.push { cls:=.type "range",data:=.fields #[.int lo t,.int hi u,.int 1 v] }).objs.size:=by simpa using hb
  subst e
  exact I1.fpOk (Nat.le_refl _) (I1.hok.fresh (Nat.le_refl _))
def iRng1 (ta:TA):TI:=fun σ H R=>ta σ H fun vs H1=>∃ j:Int,vs=[.int j]∧-(2^62)≤j∧j<2^62∧R (Itr 0 j.toNat) H1
def iRng2 (ta:TA):TI:=fun σ H R=>ta σ H fun vs H1=>∃ i j:Int,vs=[.int i,.int j]∧(-(2^62)≤i∧i<2^62∧-(2^62)≤j∧j<2^62)∧R (Itr i (j - i).toNat) H1
theorem u5s {a:Expr}{ta:TA}{p pos:Pos} (hg:Gl X "range") (hm:X.mg "range"=none) (ha:PA X [a] ta) (hs:starEach [a] X.env=[(false,eval a X.env)]:=by rfl):PI X tg (.Call (.Name "range" p) [a] [] pos) (iRng1 ta):=by
 intro pins s σ H R I h
 refine Call_ (u1C I hg hm boot_range (PyProof.Rows.callWith_type1 (thn (ha pos pins s σ H _ I h) fun us s1 ⟨vs,H1,I1,r1,q1⟩=>?_) hs rfl))
 obtain ⟨j,e,q1,q2,q⟩:=q1
 subst e
 cases r1 with
 | cons r rr =>
  cases rr
  obtain ⟨t,rfl⟩:=r
  exact call_range_1 (u6Y I1 (by omega) (by omega) q1 q2 (by simpa using q))
theorem u8M {a b:Expr}{ta:TA}{p pos:Pos} (hg:Gl X "range") (hm:X.mg "range"=none) (ha:PA X [a,b] ta) (hs:starEach [a,b] X.env=[(false,eval a X.env),(false,eval b X.env)]:=by rfl) (hs2:starEach [b] X.env=[(false,eval b X.env)]:=by rfl) :
  PI X tg (.Call (.Name "range" p) [a,b] [] pos) (iRng2 ta):=by
 intro pins s σ H R I h
 refine Call_ (u1C I hg hm boot_range (PyProof.Rows.callWith_type1 (thn (ha pos pins s σ H _ I h) fun us s1 ⟨vs,H1,I1,r1,q1⟩=>?_) (by rw [hs,hs2]) (by rw [hs2];rfl)))
 obtain ⟨i,j,e,⟨q1,q2,q3,q4⟩,q⟩:=q1
 subst e
 cases r1 with
 | cons r rr =>
  cases rr with
  | cons r' rr =>
   cases rr
   obtain ⟨t,rfl⟩:=r
   obtain ⟨t',rfl⟩:=r'
   exact call_range_2 (u6Y I1 q1 q2 q3 q4 q)
def tFor (wi:TI) (g:TG) (tb:TS):TS:=fun D σ H=>wi σ H fun J H1=>∃ W:Nat→Nat→St→Hp→Prop,(∃ m,W 0 m σ H1)∧∀ i m σ H,W i m σ H →
 (J.stop i H∧D.nx σ H)∨(J.go i H∧∃ N:St→Hp→Prop,(∀ σ' H',N σ' H'→∃ m',m'<m∧W (i+1) m' σ' H')∧∀ x H',J.yld i H x H'→g x σ H' fun σ2 H2=>tb { D with nx:=N,ct:=N,bk:=D.nx } σ2 H2)
noncomputable def pinsAt (fp:List Addr) (h:Heap):LO:=fp.filterMap fun b=>(h.get? b).map fun o=>(b,o)
theorem u1U {fp:List Addr}{h:Heap}{b:Addr}{o:Obj} (hb:b∈fp) (e:h.get? b=some o):(b,o)∈pinsAt fp h:=List.mem_filterMap.mpr ⟨b,hb,by rw [e];rfl⟩
theorem u8U {fp:List Addr}{h:Heap}{p:Addr×Obj} (hp:p∈pinsAt fp h):p.1∈fp∧h.get? p.1=some p.2:=by
 obtain ⟨b,hb,e⟩:=List.mem_filterMap.mp hp
 cases q:h.get? b with
 | none=>rw [q] at e;cases e
 | some o =>
  rw [q] at e
  have e':(b,o)=p:=Option.some.inj e
  subst e'
  exact ⟨hb,q⟩
theorem Inv.pinned {pins:LO}{σ:St}{H:Hp}{s:Shared}{fp:List Addr} (I:Inv X pins σ H s) (hf:∀ b∈fp,FpOk X pins H b) (ho:∀ b∈fp,∃ o,s.heap.get? b=some o∧∀ v,o.data≠.cell v):Inv X (pins++pinsAt fp s.heap) σ H s :=
 I.pins_of fun p hp=>(List.mem_append.mp hp).elim (fun z=>I.pin p (List.mem_append_right _ z)) fun z=>by
  obtain ⟨hb,e⟩:=u8U z
  obtain ⟨f0,f1,f2,_⟩:=hf p.1 hb
  obtain ⟨o,e',d⟩:=ho p.1 hb
  rw [e] at e';cases e'
  exact ⟨e,f0,f1,f2,d⟩
theorem Inv.unpinned {pins pl:LO}{σ:St}{H:Hp}{s:Shared} (I:Inv X (pins++pl) σ H s):Inv X pins σ H s:=I.pins_of fun p hp=>I.pin p (List.mem_append_right _ (List.mem_append_left _ hp))
theorem v1s {iter:Expr}{body:List Stmt}{wi:TI}{g:TG}{tb:TS}{pos:Pos} (hp:PassesOwn (model X.prog X.w) X.A X.env X.xe) (hc:X.calm=true) (hi:PI X tg iter wi) (hg:PG X tg g) (hb:PSs X body tb)
  (hs:∀ x,foldedSetIterable iter X.env x=pure x:=by intro _;rfl):PS X (.For tg iter body [] pos) (tFor wi g tb):=by
 intro pins s σ H D I h
 refine wpAny_For (thn (hi pins s σ H _ I h) fun v s1 h1=>thn h1 fun itv s2 h2=>?_) hs
 obtain ⟨it,fp,tn,J,H2,e,I2,T,st2,f2,W,⟨m0,w0⟩,turn⟩:=h2
 subst e
 have stat:∀ {H':Hp},(∀ b∈fp,H' b=none)→∀ b∈fp,FpOk X pins H' b:=fun hn b hb=>⟨hn b hb,(f2 b hb).2⟩
 refine codeAny_forLoop_any (fun n s'=>∃ i σ' H',Inv X pins σ' H' s'∧tn i s'.heap∧(∀ b∈fp,H' b=none)∧W i n σ' H') ?_ m0 ⟨0,σ,H2,I2,st2,fun b hb=>(f2 b hb).1,w0⟩
 rintro n s3 ⟨i,σ3,H3,I3,st3,fr3,w3⟩
 rcases turn i n σ3 H3 w3 with ⟨stop,qn⟩ | ⟨go,N,hN,step⟩
 ·refine wpAny_passesOwn hp (thn (T.done X rfl rfl rfl hc i pins s3 σ3 H3 X.xe I3 (stat fr3) st3 stop) fun r s4 ⟨hr,I4⟩=>?_)
  subst hr
  exact wpAny_execs_nil ⟨σ3,H3,I4,qn⟩
 ·refine wpAny_passesOwn hp (thn (T.item X rfl rfl rfl hc i pins s3 σ3 H3 X.xe I3 (stat fr3) st3 go) fun r s4 ⟨u,hr,h4⟩=>?_)
  subst hr
  refine wpAny_passesOwn hp (thn h4 fun _ s5 ⟨x,H5,I5,r5,y5,st5,fr5⟩=>?_)
  have I5':=I5.pinned (stat fr5) (T.obj _ _ st5)
  refine wpAny_passesOwn hp (thn (hg _ s5 σ3 H5 x u _ I5' r5 (step x H5 y5)) fun _ s6 ⟨σ6,H6,I6,q6⟩=>?_)
  refine wpAny_passesOwn hp (thn (hb _ s6 σ6 H6 _ I6 q6) fun f s7 q7=>?_)
  have again:∀ {σ7:St}{H7:Hp},Inv X (pins++pinsAt fp s5.heap) σ7 H7 s7→N σ7 H7→∃ m,m<n∧∃ i σ' H',Inv X pins σ' H' s7∧tn i s7.heap∧(∀ b∈fp,H' b=none)∧W i m σ' H':=fun {σ7 H7} I7 n7=>by
   obtain ⟨m',hm,w7⟩:=hN σ7 H7 n7
   refine ⟨m',hm,i+1,σ7,H7,I7.unpinned,T.keep _ _ _ st5 fun b hb o e=>(I7.pin (b,o) (List.mem_append_right _ (List.mem_append_right _ (u1U hb e)))).1,fun b hb=>?_,w7⟩
   obtain ⟨o,e,d⟩:=T.obj _ _ st5 b hb
   exact (I7.pin (b,o) (List.mem_append_right _ (List.mem_append_right _ (u1U hb e)))).2.1
  cases f with
  | next=>obtain ⟨σ7,H7,I7,n7⟩:=q7;exact again I7 n7
  | cont=>obtain ⟨σ7,H7,I7,n7⟩:=q7;exact again I7 n7
  | brk=>obtain ⟨σ7,H7,I7,q7⟩:=q7;exact ⟨σ7,H7,I7.unpinned,q7⟩
  | ret v=>obtain ⟨x7,σ7,H7,I7,r7,q7⟩:=q7;exact ⟨x7,σ7,H7,I7.unpinned,r7,q7⟩
end
abbrev R2:=V→V→Hp→VK→Prop
def OpR (X:Cx) (f:Value→Value→Sem Value) (r:R2):Prop :=
 ∀ (pins:LO) (s:Shared) (σ:St) (H:Hp) (x y:V) (v u:Value) (Q:VK),Inv X pins σ H s→RelV x v→RelV y u→r x y H Q →
  wpAny (model X.prog X.w) X.A (f v u) (EP X pins σ Q) X.xe s
def UnR (X:Cx) (f:Value→Sem Value) (r:V→Hp→VK→Prop):Prop :=
 ∀ (pins:LO) (s:Shared) (σ:St) (H:Hp) (x:V) (v:Value) (Q:VK),Inv X pins σ H s→RelV x v→r x H Q →
  wpAny (model X.prog X.w) X.A (f v) (EP X pins σ Q) X.xe s
def CallR (X:Cx) (f:Value) (r:List V→Hp→VK→Prop):Prop :=
 ∀ (pins:LO) (s:Shared) (σ:St) (H:Hp) (xs:List V) (us:List Value) (Q:VK),Inv X pins σ H s→Vals xs us→r xs H Q →
  wpAny (model X.prog X.w) X.A (call f us) (EP X pins σ Q) X.xe s
def TruR (X:Cx) (r:V→Hp→(Bool→Hp→Prop)→Prop):Prop :=
 ∀ (pins:LO) (s:Shared) (σ:St) (H:Hp) (x:V) (v:Value) (Q:Bool→Hp→Prop),Inv X pins σ H s→RelV x v→r x H Q →
  wpAny (model X.prog X.w) X.A (truthy v) (TP X pins σ Q) X.xe s
def tOp (r:R2) (ta tb:TE):TE:=fun σ H Q=>ta σ H fun x H1=>tb σ H1 fun y H2=>r x y H2 Q
def tUn (r:V→Hp→VK→Prop) (ta:TE):TE:=fun σ H Q=>ta σ H fun x H1=>r x H1 Q
def rI (C:Int→Int→Prop) (g:Int→Int→V):R2:=fun x y H Q=>∃ i j,x=.int i∧y=.int j∧C i j∧Q (g i j) H
def rI0 (g:Int→Int→V):R2:=fun x y H Q=>∃ i j,x=.int i∧y=.int j∧Q (g i j) H
def rU (g:Int→V):V→Hp→VK→Prop:=fun x H Q=>∃ i,x=.int i∧Q (g i) H
section
variable {X:Cx}{a b c:Expr}{ta tb tc:TE}{pos:Pos}
theorem binT (ha:PE X a ta) (hb:PE X b tb) {pins:LO}{s:Shared}{σ:St}{H:Hp}{R:V→V→Hp→Prop} (I:Inv X pins σ H s)
  (h:ta σ H fun x H1=>tb σ H1 fun y H2=>R x y H2) {Q:VP}{f:Value→Value→Sem Value}
  (hf:∀ v u s2 x y H2,Inv X pins σ H2 s2→RelV x v→RelV y u→R x y H2→wpAny (model X.prog X.w) X.A (f v u) Q X.xe s2) :
  wpAny (model X.prog X.w) X.A (eval a X.env) (fun v s₁=>wpAny (model X.prog X.w) X.A (eval b X.env) (fun u s₂=>wpAny (model X.prog X.w) X.A (f v u) Q X.xe s₂) X.xe s₁) X.xe s:=by
 refine thn (ha pins s σ H _ I h) fun v s1 ⟨x,H1,I1,r1,q1⟩=>?_
 refine thn (hb pins s1 σ H1 _ I1 q1) fun u s2 ⟨y,H2,I2,r2,q2⟩=>?_
 exact hf v u s2 x y H2 I2 r1 r2 q2
theorem pe_op {op:Operator}{r:R2} (ho:OpR X (binaryOp op) r) (ha:PE X a ta) (hb:PE X b tb):PE X (.BinOp a op b pos) (tOp r ta tb):=by
 intro pins s σ H Q I h
 exact wpAny_BinOp (binT ha hb I h fun v u s2 x y H2 I2 rx ry q=>ho pins s2 σ H2 x y v u Q I2 rx ry q)
theorem pe_un {op:UnaryOp}{r:V→Hp→VK→Prop} (ho:UnR X (unaryOp op) r) (ha:PE X a ta):PE X (.UnaryOp op a pos) (tUn r ta):=by
 intro pins s σ H Q I h
 exact UnaryOp_ (thn (ha pins s σ H _ I h) fun v s1 ⟨x,H1,I1,r1,q1⟩=>ho pins s1 σ H1 x v Q I1 r1 q1)
theorem opI {f:Value→Value→Sem Value}{C:Int→Int→Prop}{g:Int→Int→Int}
  (rule:∀ (i j:Int) (t u:Tok) (s:Shared) (Q:VP) (E:VP),C i j→Q (.int (g i j) s.toks) { s with toks:=s.toks+1 }→wpAny (model X.prog X.w) X.A (f (.int i t) (.int j u)) Q E s) :
  OpR X f (rI C fun i j=>.int (g i j)):=by
 intro pins s σ H x y v u Q I rx ry h
 obtain ⟨i,j,rfl,rfl,hc,q⟩:=h
 obtain ⟨t,rfl⟩:=rx
 obtain ⟨t',rfl⟩:=ry
 exact rule i j t t' s _ _ hc ⟨.int (g i j),H,I.tok _,⟨_,rfl⟩,q⟩
theorem opI0 {f:Value→Value→Sem Value}{g:Int→Int→Int}
  (rule:∀ (i j:Int) (t u:Tok) (s:Shared) (Q:VP) (E:VP),Q (.int (g i j) s.toks) { s with toks:=s.toks+1 }→wpAny (model X.prog X.w) X.A (f (.int i t) (.int j u)) Q E s) :
  OpR X f (rI0 fun i j=>.int (g i j)):=by
 intro pins s σ H x y v u Q I rx ry h
 obtain ⟨i,j,rfl,rfl,q⟩:=h
 obtain ⟨t,rfl⟩:=rx
 obtain ⟨t',rfl⟩:=ry
 exact rule i j t t' s _ _ ⟨.int (g i j),H,I.tok _,⟨_,rfl⟩,q⟩
theorem opB0 {f:Value→Value→Sem Value}{g:Int→Int→Bool}
  (rule:∀ (i j:Int) (t u:Tok) (s:Shared) (Q:VP) (E:VP),Q (.bool (g i j)) s→wpAny (model X.prog X.w) X.A (f (.int i t) (.int j u)) Q E s) :
  OpR X f (rI0 fun i j=>.bl (g i j)):=by
 intro pins s σ H x y v u Q I rx ry h
 obtain ⟨i,j,rfl,rfl,q⟩:=h
 obtain ⟨t,rfl⟩:=rx
 obtain ⟨t',rfl⟩:=ry
 exact rule i j t t' s _ _ ⟨.bl (g i j),H,I,rfl,q⟩
def CPow (i j:Int):Prop:=0≤j∧j≤1000000∧i.natAbs<2^64
def CMul (i j:Int):Prop:=(-(2^64)<i∧i<2^64)∨(-(2^64)<j∧j<2^64)
theorem CMul.ok {i j:Int} (h:CMul i j):IntMulOk i j:=by
 rcases h with ⟨h1,h2⟩ | ⟨h1,h2⟩
 ·exact .of_left (intBits_le_64 h1 h2)
 ·exact .of_right (intBits_le_64 h1 h2)
theorem op_add:OpR X (binaryOp .Add) (rI0 fun i j=>.int (i+j)):=opI0 fun _ _ _ _ _ _ _ q=>add_int q
theorem op_sub:OpR X (binaryOp .Sub) (rI0 fun i j=>.int (i - j)):=opI0 fun _ _ _ _ _ _ _ q=>sub_int q
theorem op_mul:OpR X (binaryOp .Mult) (rI CMul fun i j=>.int (i*j)):=opI fun _ _ _ _ _ _ _ hc q=>mul_int q hc.ok
theorem op_mod:OpR X (binaryOp .Mod) (rI (fun _ j=>0<j) fun i j=>.int (i%j)):=opI fun i j _ _ _ _ _ hc q=>by
 have h1:(0:Int)<j:=hc
 exact mod_int' (by omega) (by rw [Int.fmod_eq_emod_of_nonneg i (by omega)];exact q)
theorem op_pow:OpR X (binaryOp .Pow) (rI CPow fun i j=>.int (i^j.toNat)):=opI fun _ _ _ _ _ _ _ hc q=>pow_int_small hc.1 hc.2.1 hc.2.2 q
theorem unI {f:Value→Sem Value}{g:Int→Int}
  (rule:∀ (i:Int) (t:Tok) (s:Shared) (Q:VP) (E:VP),Q (.int (g i) s.toks) { s with toks:=s.toks+1 }→wpAny (model X.prog X.w) X.A (f (.int i t)) Q E s) :
  UnR X f (rU fun i=>.int (g i)):=by
 intro pins s σ H x v Q I rx h
 obtain ⟨i,rfl,q⟩:=h
 obtain ⟨t,rfl⟩:=rx
 exact rule i t s _ _ ⟨.int (g i),H,I.tok _,⟨_,rfl⟩,q⟩
theorem un_neg:UnR X (unaryOp .USub) (rU fun i=>.int (-i)):=unI fun _ _ _ _ _ q=>neg_int q
end
section
variable {X:Cx}{a b c:Expr}{ta tb tc:TE}{pos:Pos}
theorem v1x {pins:LO}{σ:St}{H:Hp}{s:Shared}{Q:VK}{k k':Bool} (I:Inv X pins σ H s) (q:Q (.bl k) H) (e:k=k'):EP X pins σ Q (.bool k') s:=by
 subst e
 exact ⟨.bl k,H,I,rfl,q⟩
theorem op_lt:OpR X (compareOp .Lt) (rI0 fun i j=>.bl (decide (i<j))):=opB0 fun _ _ _ _ _ _ _ q=>lt_int q
theorem op_le:OpR X (compareOp .LtE) (rI0 fun i j=>.bl (decide (i≤j))):=opB0 fun _ _ _ _ _ _ _ q=>le_int q
theorem op_gt:OpR X (compareOp .Gt) (rI0 fun i j=>.bl (decide (j<i))):=opB0 fun _ _ _ _ _ _ _ q=>gt_int q
theorem op_ge:OpR X (compareOp .GtE) (rI0 fun i j=>.bl (decide (j≤i))):=opB0 fun _ _ _ _ _ _ _ q=>ge_int q
theorem op_notN:OpR X (compareOp .IsNot) (fun x y H Q=>y=.non∧Q (.bl (!decide (x=.non))) H):=by
 intro pins s σ H x y v u Q I rx ry h
 obtain ⟨rfl,q⟩:=h
 cases ry
 refine isnot_none_gen (v1x I q ?_)
 cases x <;> first
  | (cases rx;rfl)
  | (obtain ⟨t,rfl⟩:=rx;rfl)
theorem nomark (b:Expr) {op:CmpOp} (h:op≠.In:=by decide) (h2:op≠.NotIn:=by decide):behindInMarks op b=false:=by
 have e1:(op==CmpOp.In)=false:=by cases op <;> first | rfl | exact absurd rfl h
 have e2:(op==CmpOp.NotIn)=false:=by cases op <;> first | rfl | exact absurd rfl h2
 cases b <;> simp [behindInMarks,e1,e2]
theorem pe_cmpR {op:CmpOp}{r:R2} (ho:OpR X (compareOp op) r) (ha:PE X a ta) (hb:PE X b tb) (hm:behindInMarks op b=false):PE X (.Compare a [op] [b] pos) (tOp r ta tb):=by
 intro pins s σ H Q I h
 exact wpAny_Compare1 (binT ha hb I h fun v u s2 x y H2 I2 rx ry q=>ho pins s2 σ H2 x y v u Q I2 rx ry q) hm
def tTest (t:TE):TT:=fun σ H Q=>t σ H fun x H'=>∃ k,x=.bl k∧Q k H'
theorem u8D {op:CmpOp}{r:R2} (ho:OpR X (compareOp op) r) (ha:PE X a ta) (hb:PE X b tb) (hm:behindInMarks op b=false):PT X (.Compare a [op] [b] pos) (tTest (tOp r ta tb)):=by
 intro pins s σ H Q I h
 refine wpAny_isTrue_Compare1 (thn (ha pins s σ H _ I h) fun v s1 ⟨x,H1,I1,r1,q1⟩=>thn (hb pins s1 σ H1 _ I1 q1) fun u s2 ⟨y,H2,I2,r2,q2⟩ =>
  thn (ho pins s2 σ H2 x y v u _ I2 r1 r2 q2) fun c s3 ⟨z,H3,I3,r3,k,e,q3⟩=>?_) hm
 subst e
 cases r3
 exact wpAny_truthy_bool ⟨H3,I3,q3⟩
def tChain (r r':R2) (ta tb tc:TE):TE:=fun σ H Q=>ta σ H fun x H1=>tb σ H1 fun y H2=>r x y H2 fun z H3=>∃ k,z=.bl k ∧
 (if k=true then tc σ H3 fun w' H4=>r' y w' H4 Q else Q (.bl false) H3)
theorem v0i {op op':CmpOp}{r r':R2} (ho:OpR X (compareOp op) r) (ho':OpR X (compareOp op') r') (ha:PE X a ta) (hb:PE X b tb) (hc:PE X c tc)
  (hm:lastMarks [op,op'] [b,c]=false:=by with_unfolding_all rfl):PT X (.Compare a [op,op'] [b,c] pos) (tTest (tChain r r' ta tb tc)):=by
 intro pins s σ H Q I h
 refine isTrue_chain (thn (ha pins s σ H _ I h) fun v s1 ⟨x,H1,I1,r1,q1⟩=>test_link (thn (hb pins s1 σ H1 _ I1 q1) fun u s2 ⟨y,H2,I2,r2,q2⟩ =>
  thn (ho pins s2 σ H2 x y v u _ I2 r1 r2 q2) fun d s3 ⟨z,H3,I3,r3,k,e,q3⟩=>?_)) hm
 subst e
 cases r3
 refine wpAny_truthy_bool ?_
 cases k with
 | false =>
  obtain ⟨k',e',q'⟩:=q3
  cases e'
  exact ite_ff ⟨H3,I3,q'⟩
 | true =>
  refine ite_tt (test_last (thn (hc pins s3 σ H3 _ I3 q3) fun w' s4 ⟨z',H4,I4,r4,q4⟩=>thn (ho' pins s4 σ H4 y z' u w' _ I4 r2 r4 q4) fun d' s5 ⟨z2,H5,I5,r5,k2,e2,q5⟩=>?_))
  subst e2
  cases r5
  exact wpAny_truthy_bool ⟨H5,I5,q5⟩
def TruV (K:W.Frag) (x:V) (H:Hp) (k:Bool):Prop :=
 match x with
 | .non=>k=false
 | .bl b=>k=b
 | .int i=>k=(i != 0)
 | .str y=>y.length≤sizeLine∧k=((y.length:Int) != 0)
 | .byt y=>y.size≤sizeLine∧k=((y.size:Int) != 0)
 | .ref p=>(∃ xs,SqL K H p xs∧k=!xs.isEmpty)∨(∃ xs,SqT K H p xs∧k=!xs.isEmpty)∨∃ kvs,H p=some (.dK kvs)∧k=!kvs.isEmpty
 | _=>False
theorem u8a {κ:Type}{kvs:List (κ×V)}{vs:List (κ×Value)} (r:KV kvs vs):(!vs.isEmpty)=!kvs.isEmpty:=by
 cases r <;> rfl
theorem u4m {xs:List V}{its:List Value} (r:Vals xs its):(!its.toArray.isEmpty)=!xs.isEmpty:=by
 cases r <;> simp
theorem line63:(sizeLine:Nat)<2^63:=by rw [sizeLine_eq];decide
theorem tru_ok:TruR X (fun x H Q=>∃ k,TruV X.K x H k∧Q k H):=by
 intro pins s σ H x v Q I rx h
 obtain ⟨k,e,q⟩:=h
 have hl:=line63
 have hs:sizeLine=16777216:=sizeLine_eq
 cases x with
 | non =>
  cases rx
  have e':k=false:=e
  subst e'
  exact truthy_none ⟨H,I,q⟩
 | bl b =>
  cases rx
  have e':k=b:=e
  subst e'
  exact wpAny_truthy_bool ⟨H,I,q⟩
 | int i =>
  obtain ⟨t,rfl⟩:=rx
  have e':k=(i != 0):=e
  subst e'
  exact PySem.P.truthy_int ⟨H,I,q⟩
 | str y =>
  obtain ⟨t,rfl⟩:=rx
  obtain ⟨hy,e'⟩:y.length≤sizeLine∧k=((y.length:Int) != 0):=e
  subst e'
  exact PySem.P.truthy_str (by omega) ⟨H,I.tok _,q⟩
 | byt y =>
  obtain ⟨t,rfl⟩:=rx
  obtain ⟨hy,e'⟩:y.size≤sizeLine∧k=((y.size:Int) != 0):=e
  subst e'
  exact W.truthy_bytes (by omega) ⟨H,I.tok _,q⟩
 | ref p =>
  cases rx
  have e':(∃ xs,SqL X.K H p xs∧k=!xs.isEmpty)∨(∃ xs,SqT X.K H p xs∧k=!xs.isEmpty)∨∃ kvs,H p=some (.dK kvs)∧k=!kvs.isEmpty:=e
  rcases e' with ⟨xs,hx,e'⟩ | ⟨xs,hx,e'⟩ | ⟨kvs,hx,e'⟩
  ·subst e'
   obtain ⟨its,r,pl,hz⟩:=I.list hx
   have hlen:=r.length
   exact wpAny_truthy_list pl.isList (by simp only [List.size_toArray];omega) ⟨H,I.tok _,by rw [u4m r];exact q⟩
  ·subst e'
   obtain ⟨its,r,pl,hz⟩:=I.tuple hx
   have hlen:=r.length
   exact truthy_tuple pl (by simp only [List.size_toArray];omega) ⟨H,I.tok _,by rw [u4m r];exact q⟩
  ·subst e'
   obtain ⟨hz,hS,vs,r,m⟩:kvs.length≤sizeLine∧(p==sysModules)=false∧∃ vs,KV kvs vs∧s.heap.DictOf (mixKind X.prog X.w) p vs:=I.hok p _ hx
   have hlen:kvs.length=vs.length:=Paired.length r
   exact wpAny_truthy_dict hS m (by omega) ⟨H,I.tok _,by rw [u8a r];exact q⟩
 | _=>exact (show False from e).elim
theorem u7U:OpR X (binaryOp .Add) (fun x y H Q=>∃ i j,x=.str i∧y=.str j∧i.length+j.length≤sizeLine∧Q (.str (i++j)) H):=by
 intro pins s σ H x y v u Q I rx ry h
 obtain ⟨i,j,rfl,rfl,hz,q⟩:=h
 obtain ⟨t,rfl⟩:=rx
 obtain ⟨t',rfl⟩:=ry
 exact add_str (fun t' tk=>⟨.str (i++j),H,I.tok _,⟨_,rfl⟩,q⟩) hz
theorem vals1 {x:V}{us:List Value} (r:Vals [x] us):∃ u,us=[u]∧RelV x u:=by
 cases r with
 | cons r1 r2=>cases r2;exact ⟨_,rfl,r1⟩
theorem vals2 {x y:V}{us:List Value} (r:Vals [x,y] us):∃ u w',us=[u,w']∧RelV x u∧RelV y w':=by
 cases r with
 | cons r1 r2 =>
  cases r2 with
  | cons r3 r4=>cases r4;exact ⟨_,_,rfl,r1,r3⟩
theorem u9M (hc:X.calm=true):CallR X (.builtin "max") (fun xs H Q=>∃ i j,xs=[.int i,.int j]∧Q (.int (if j > i then j else i)) H):=by
 intro pins s σ H xs us Q I r h
 obtain ⟨i,j,rfl,q⟩:=h
 obtain ⟨u,w',rfl,⟨t,rfl⟩,⟨t',rfl⟩⟩:=vals2 r
 refine max_two_ints (I.ok.hd hc) fun h' tk k=>⟨_,H,I.kept k,?_,q⟩
 by_cases hj:j > i
 ·rw [if_pos hj,if_pos hj];exact ⟨_,rfl⟩
 ·rw [if_neg hj,if_neg hj];exact ⟨_,rfl⟩
theorem u9L (hc:X.calm=true):CallR X (.builtin "min") (fun xs H Q=>∃ i j,xs=[.int i,.int j]∧Q (.int (if j<i then j else i)) H):=by
 intro pins s σ H xs us Q I r h
 obtain ⟨i,j,rfl,q⟩:=h
 obtain ⟨u,w',rfl,⟨t,rfl⟩,⟨t',rfl⟩⟩:=vals2 r
 refine min_two_ints (I.ok.hd hc) fun h' tk k=>⟨_,H,I.kept k,?_,q⟩
 by_cases hj:j<i
 ·rw [if_pos hj,if_pos hj];exact ⟨_,rfl⟩
 ·rw [if_neg hj,if_neg hj];exact ⟨_,rfl⟩
theorem u5S:CallR X (.type "int") (fun xs H Q=>(∃ i,xs=[.int i]∧Q (.int i) H)∨∃ k,xs=[.bl k]∧Q (.int (if k then 1 else 0)) H):=by
 intro pins s σ H xs us Q I r h
 rcases h with ⟨i,rfl,q⟩ | ⟨k,rfl,q⟩
 ·obtain ⟨u,rfl,t,rfl⟩:=vals1 r
  exact call_int_int ⟨.int i,H,I,⟨_,rfl⟩,q⟩
 ·obtain ⟨u,rfl,r1⟩:=vals1 r
  cases r1
  exact call_int_bool ⟨.int (if k then 1 else 0),H,I.tok _,⟨_,rfl⟩,q⟩
def LenV (K:W.Frag) (x:V) (H:Hp) (n:Nat):Prop :=
 match x with
 | .str y=>y.length≤sizeLine∧n=y.length
 | .byt y=>y.size≤sizeLine∧n=y.size
 | .ref p=>(∃ xs,SqL K H p xs∧n=xs.length)∨∃ xs,SqT K H p xs∧n=xs.length
 | _=>False
theorem u4Y:CallR X (.builtin "len") (fun xs H Q=>∃ x n,xs=[x]∧LenV X.K x H n∧Q (.int n) H):=by
 intro pins s σ H xs us Q I r h
 obtain ⟨x,n,rfl,e,q⟩:=h
 obtain ⟨u,rfl,rx⟩:=vals1 r
 have hl:=line63
 have hs:sizeLine=16777216:=sizeLine_eq
 cases x with
 | str y =>
  obtain ⟨t,rfl⟩:=rx
  obtain ⟨hy,e'⟩:y.length≤sizeLine∧n=y.length:=e
  subst e'
  exact len_str (by omega) ⟨.int _,H,I.tok _,⟨_,rfl⟩,q⟩
 | byt y =>
  obtain ⟨t,rfl⟩:=rx
  obtain ⟨hy,e'⟩:y.size≤sizeLine∧n=y.size:=e
  subst e'
  exact W.len_bytes (by omega) ⟨.int _,H,I.tok _,⟨_,rfl⟩,q⟩
 | ref p =>
  cases rx
  have e':(∃ xs,SqL X.K H p xs∧n=xs.length)∨∃ xs,SqT X.K H p xs∧n=xs.length:=e
  rcases e' with ⟨xs,hx,e'⟩ | ⟨xs,hx,e'⟩
  ·subst e'
   obtain ⟨its,r',pl,hz⟩:=I.list hx
   have hlen:=r'.length
   exact Calls.call_len_list pl.isList (by simp only [List.size_toArray];omega) ⟨.int xs.length,H,I.tok _,⟨_,by simp only [List.size_toArray];rw [hlen]⟩,q⟩
  ·subst e'
   obtain ⟨its,r',pl,hz⟩:=I.tuple hx
   have hlen:=r'.length
   exact len_tuple pl (by simp only [List.size_toArray];omega) ⟨.int xs.length,H,I.tok _,⟨_,by simp only [List.size_toArray];rw [hlen]⟩,q⟩
 | _=>exact (show False from e).elim
end
structure ObjM (h:Heap) (x dx C:Addr) (mA:MG):Prop where
 obj:h.get? x=some (W.instObj C dx)
 ns:h.Ns1 dx mA
 ne:dx≠x
theorem u5C {h:Heap}{dx:Addr}{mA:MG} (n:h.Ns1 dx mA):∃ od,h.get? dx=some od∧∀ name,W.lookIn name od=some (mA name):=by
 obtain ⟨o,es,ep,ho,hd,hk,_,hm⟩:=n
 refine ⟨o,ho,fun name=>?_⟩
 have e:=hm name
 unfold nsFind findBy at e
 rw [← Array.find?_toList] at e
 unfold W.lookIn
 rw [hd]
 dsimp only
 split
 ·rename_i y q
  rw [q] at e
  exact congrArg some e
 ·rename_i q
  rw [q] at e
  have a:es.toList.any (·.refKey)=false:=by
   rw [List.any_eq_false]
   intro y hy
   obtain ⟨z,t,hkey⟩:=hk y (Array.mem_toList_iff.mp hy)
   simp [DictEntry.refKey,hkey]
  have a':¬ es.toList.any (·.refKey)=true:=by rw [a];exact Bool.false_ne_true
  rw [if_neg a']
  exact congrArg some e
theorem ObjM.look {h:Heap}{x dx C:Addr}{mA:MG} (I:ObjM h x dx C mA):∃ od,W.InstAt h x (W.instObj C dx) C (some od)∧∀ name,W.lookIn name od=some (mA name) :=
 let ⟨od,ho,hl⟩:=u5C I.ns
 ⟨od,⟨I.obj,rfl,rfl,ho⟩,hl⟩
section
variable {prog:Program}{w:World}{A:Around}{E:VP}{s:Shared}{K:W.Frag}{x dx C f:Addr}{mA:MG}{name:Str}{v:Value}
theorem get_map {expr:Bool}{Q:VP} (X:K.In s.heap) (I:ObjM s.heap x dx C mA) (hg:W.plainGet K C name=true) (hh:W.hasDictIn K C=true)
  (ha:W.findIn K (.ref C) name=some none) (hv:mA name=some v) (hv':W.handedIn v=true) (h:Q v { s with toks:=s.toks+1 }) :
  wpAny (model prog w) A (getAttr (.ref x) name expr) Q E s:=by
 obtain ⟨od,J,hl⟩:=I.look
 exact W.get_value X J (W.plainGet_of hg).1 (W.findObj_own hh ha rfl (by rw [hl,hv])) hv' h
theorem v0Q {pl:Sem Bool}{Q:Value×List Value→Shared→Prop} (X:K.In s.heap) (I:ObjM s.heap x dx C mA) (hg:W.plainGet K C name=true)
  (hf:W.findIn K (.ref C) name=some (some (.ref f))) (ht:W.isFn K (.ref f)=true) (hv:mA name=none) (h:Q (.ref f,[.ref x]) s) :
  wpAny (model prog w) A (getMethod (.ref x) name pl) Q E s:=by
 obtain ⟨od,J,hl⟩:=I.look
 exact W.method_fn X J (W.plainGet_of hg).1 (W.plainGet_of hg).2 hf (beq_iff_eq.mp ht) (by show (W.lookIn name od).map (·.isSome)=some false;rw [hl,hv];rfl) h
theorem set_map {ns:List Str}{Q:Unit→Shared→Prop} (X:K.In s.heap) (I:ObjM s.heap x dx C mA)
  (hs:W.findIn K (.ref C) "__setattr__"=some (some (.builtin "object.__setattr__"))) (hp:W.plainOver K C=true) (ht:W.takerIn K C name=some none) (hh:W.hasDictIn K C=true)
  (hw:PySem.Within mA ns) (hsz:ns.length≤sizeLine)
  (h:∀ h',ObjM h' x dx C (fun y=>if y=name then some v else mA y)→Heap.SameBut dx s.heap h'→Q () { s with heap:=h',toks:=s.toks+2 }) :
  wpAny (model prog w) A (setAttr (.ref x) name v) Q E s:=by
 obtain ⟨od,J,hl⟩:=I.look
 refine W.set_plain X J hs (W.osa_open (s:={ s with toks:=s.toks+1 }) (r:=none) X J hp ht fun b=>?_)
 obtain ⟨cd,hc,hd'⟩:=W.any_some hh
 have hx:s.heap.get? x=some ⟨.ref C,some dx,.plain,#[]⟩:=I.obj
 refine wpAny_bind (wpAny_pure (wpAny_bind (wpAny_bind (wpAny_loadPart hx (wpAny_bind (W.Looks.here (s:={ s with toks:=s.toks+1 }) (W.looks_clsIn X hc) ?_))))))
 rw [hd']
 refine wpAny_pure (a:=some dx) (wpAny_bind (wpAny_pure (wpAny_bind ?_)))
 refine wpAny_nsSet1 (s:={ s with toks:=s.toks+1 }) I.ns fun h' hn2 hs2=>?_
 obtain ⟨oD,esD,epD,hoD,hdD,hcD⟩:=hn2.count (PySem.Within.cons name v hw)
 refine wpAny_bind (wpAny_lookBehind hoD (by rw [hdD];exact pastItsLine_dict (Nat.le_trans hcD (by rw [List.length_cons];omega))) ?_)
 exact wpAny_pure (h _ ⟨(hs2.2 _ (Ne.symm I.ne)).trans I.obj,hn2,I.ne⟩ hs2)
theorem v0D {R:Result→Shared→Prop}{vs:List Value}{kw:List (Str×Value)} (X:K.In s.heap) (hm:W.makesIn K C=true)
  (hi:W.findIn K (.ref C) "__init__"=some (some (.ref f))) (hf:W.typeIn K (.ref f)=some (.type "function"))
  (h:codeAny (model prog w) (A.under (.builtin "type.__call__" ⟨.ref C::vs,kw⟩)) (.call (.ref f) ⟨.ref (s.heap.objs.size+1)::vs,kw⟩) (W.InitBack (s.heap.objs.size+1) R)
   { s with heap:=(s.heap.push W.emptyDict).push (W.instObj C s.heap.objs.size) }) :
  codeAny (model prog w) A (.call (.ref C) ⟨vs,kw⟩) R s:=by
 obtain ⟨hh,g,d,t,os⟩:=s
 exact W.make_core (W.makes_of X hm) (W.looks_findIn X hi) (fun self=>W.bind_fn X self hf) (.inl rfl) h
end
noncomputable def putF (f:Str) (v:V):List (Str×V)→List (Str×V)
 | []=>[(f,v)]
 | (g,x)::r=>if g=f then (g,v)::r else (g,x)::putF f v r
theorem u3E (f g:Str) (v:V):∀ fs:List (Str×V),(putF f v fs).lookup g=if g=f then some v else fs.lookup g
 | []=>by
  show List.lookup g [(f,v)]=_
  by_cases h:g=f
  ·have hb:(g==f)=true:=beq_iff_eq.mpr h
   simp only [List.lookup,hb,if_pos h]
  ·have hb:(g==f)=false:=beq_eq_false_iff_ne.mpr h
   simp only [List.lookup,hb,if_neg h]
 | (k,x)::r=>by
  have ih:=u3E f g v r
  rw [show putF f v ((k,x)::r)=(if k=f then (k,v)::r else (k,x)::putF f v r) from rfl]
  by_cases hk:k=f
  ·rw [if_pos hk]
   by_cases h:g=k
   ·have hb:(g==k)=true:=beq_iff_eq.mpr h
    simp only [List.lookup,hb,if_pos (h.trans hk)]
   ·have hb:(g==k)=false:=beq_eq_false_iff_ne.mpr h
    simp only [List.lookup,hb,if_neg (fun e:g=f=>h (e.trans hk.symm))]
  ·rw [if_neg hk]
   by_cases h:g=k
   ·have hb:(g==k)=true:=beq_iff_eq.mpr h
    simp only [List.lookup,hb,if_neg (fun e:g=f=>hk (h.symm.trans e))]
   ·have hb:(g==k)=false:=beq_eq_false_iff_ne.mpr h
    simp only [List.lookup,hb]
    exact ih
theorem u3H (f:Str) (v:V):∀ fs:List (Str×V),f∈(putF f v fs).map (·.1)∧∀ g,g∈fs.map (·.1)→g∈(putF f v fs).map (·.1)
 | []=>⟨by simp [putF],fun g h=>by simp at h⟩
 | (k,x)::r=>by
  obtain ⟨i1,i2⟩:=u3H f v r
  rw [show putF f v ((k,x)::r)=(if k=f then (k,v)::r else (k,x)::putF f v r) from rfl]
  by_cases hk:k=f
  ·rw [if_pos hk]
   subst hk
   exact ⟨by simp,fun g h=>by simpa using h⟩
  ·rw [if_neg hk]
   refine ⟨?_,fun g h=>?_⟩
   ·rw [List.map_cons]
    exact List.mem_cons_of_mem _ i1
   ·rw [List.map_cons] at h ⊢
    rcases List.mem_cons.mp h with e | e
    ·exact List.mem_cons.mpr (.inl e)
    ·exact List.mem_cons_of_mem _ (i2 g e)
theorem u3G (f:Str) (v:V):∀ fs:List (Str×V),(putF f v fs).length≤fs.length+1
 | []=>by simp [putF]
 | (k,x)::r=>by
  have ih:=u3G f v r
  rw [show putF f v ((k,x)::r)=(if k=f then (k,v)::r else (k,x)::putF f v r) from rfl]
  by_cases hk:k=f
  ·rw [if_pos hk,List.length_cons,List.length_cons];omega
  ·rw [if_neg hk,List.length_cons,List.length_cons];omega
theorem RelO.some_of {v:V}{o:Option Value} (r:RelO (some v) o):∃ u,o=some u∧RelV v u:=by
 cases o with
 | none=>exact (show False from r).elim
 | some u=>exact ⟨u,rfl,r⟩
theorem RelO.none_of {o:Option Value} (r:RelO none o):o=none:=by
 cases o with
 | none=>rfl
 | some u=>exact (show False from r).elim
theorem u5I {v:V}{u:Value} (r:RelV v u):W.handedIn u=true:=by
 cases v with
 | non=>cases (show u=Value.none from r);rfl
 | bl b=>cases (show u=Value.bool b from r);rfl
 | int i=>obtain ⟨t,e⟩:=(show ∃ t,u=Value.int i t from r);cases e;rfl
 | str x=>obtain ⟨t,e⟩:=(show ∃ t,u=Value.str x t from r);cases e;rfl
 | byt b=>obtain ⟨t,e⟩:=(show ∃ t,u=Value.bytes b t from r);cases e;rfl
 | flt b=>obtain ⟨t,e⟩:=(show ∃ t,u=Value.float b t from r);cases e;rfl
 | ref a=>cases (show u=Value.ref a from r);rfl
 | ty n=>cases (show u=Value.type n from r);rfl
section
variable {P:Program}{w:World}{H H':Hp}{h h':Heap}{a C dx:Addr}{fs fs':List (Str×V)}
theorem u4N (hok:HOk P w H h) (e:H a=some (.ins C dx fs)):∃ mA,ObjM h a dx C mA∧(∀ f,RelO (fs.lookup f) (mA f))∧PySem.Within mA (fs.map (·.1))∧fs.length≤1000∧H dx=some (.own a):=by
 obtain ⟨d,z,ne,ob,mA,n,r,q⟩:=(show ObjOk P w H h a (.ins C dx fs) from hok a _ e)
 exact ⟨mA,⟨ob,n,ne⟩,r,q,z,d⟩
end
structure Cls (K:W.Frag) (C:Addr):Prop where
 pg:W.plainGet K C Str.empty=true
 hd:W.hasDictIn K C=true
 po:W.plainOver K C=true
 sa:W.findIn K (.ref C) "__setattr__"=some (some (.builtin "object.__setattr__"))
theorem Cls.get {K:W.Frag}{C:Addr} (c:Cls K C) (f:Str):W.plainGet K C f=true:=c.pg
def NoAttr (K:W.Frag) (C:Addr) (f:Str):Prop:=W.findIn K (.ref C) f=some none
theorem NoAttr.taker {K:W.Frag}{C:Addr}{f:Str} (n:NoAttr K C f):W.takerIn K C f=some none:=by
 unfold W.takerIn
 rw [show W.findIn K (.ref C) f=some none from n]
 rfl
structure Meth (K:W.Frag) (C:Addr) (m:Str) (f:Addr):Prop where
 at_:W.findIn K (.ref C) m=some (some (.ref f))
 fn:W.isFn K (.ref f)=true
 kp:W.keepIn K (.ref f)=true
section
variable {X:Cx}{pins:LO}{σ:St}{H:Hp}{s:Shared}{a C dx:Addr}{fs:List (Str×V)}{f:Str}{v:V}{A:Around}{E:VP}
theorem u8c {b:Bool}{Q:VP} (I:Inv X pins σ H s) (e:H a=some (.ins C dx fs)) (c:Cls X.K C) (n:NoAttr X.K C f) (l:fs.lookup f=some v)
  (h:∀ u s',Inv X pins σ H s'→RelV v u→Q u s'):wpAny (model X.prog X.w) A (getAttr (.ref a) f b) Q E s:=by
 obtain ⟨mA,O,r,_,_,_⟩:=u4N I.hok e
 obtain ⟨u,hu,ru⟩:=RelO.some_of (v:=v) (o:=mA f) (by rw [← l];exact r f)
 exact get_map I.kIn O (c.get f) c.hd n hu (u5I ru) (h u _ (I.tok _) ru)
theorem u1V {m:Str}{g:Addr}{pl:Sem Bool}{Q:Value×List Value→Shared→Prop} (I:Inv X pins σ H s) (e:H a=some (.ins C dx fs)) (c:Cls X.K C) (k:Meth X.K C m g) (l:fs.lookup m=none)
  (h:Q (.ref g,[.ref a]) s):wpAny (model X.prog X.w) A (getMethod (.ref a) m pl) Q E s:=by
 obtain ⟨mA,O,r,_,_,_⟩:=u4N I.hok e
 have hn:mA m=none:=RelO.none_of (by rw [← l];exact r m)
 exact v0Q I.kIn O (c.get m) k.at_ k.fn hn h
theorem u7P {y:V}{u:Value}{Q:Unit→Shared→Prop} (I:Inv X pins σ H s) (e:H a=some (.ins C dx fs)) (c:Cls X.K C) (n:NoAttr X.K C f) (hl:fs.length<1000) (ry:RelV y u)
  (h:∀ s',Inv X pins σ (upd H a (.ins C dx (putF f y fs))) s'→Q () s'):wpAny (model X.prog X.w) A (setAttr (.ref a) f u) Q E s:=by
 obtain ⟨mA,O,r,wi,_,ho⟩:=u4N I.hok e
 have hz:(fs.map (·.1)).length≤sizeLine:=by rw [List.length_map,sizeLine_eq];omega
 refine set_map I.kIn O c.sa c.po n.taker c.hd wi hz fun h' O' sb=>h _ ?_
 have hd:∃ o,h'.get? dx=some o:=let ⟨o,_,_,e',_⟩:=O'.ns;⟨o,e'⟩
 refine I.write (x:=a) (e:=dx) (by rw [e];exact True.intro) (.inr ho) (fun b q hb z=>(sb.2 b hb).trans z) hd ?_
 refine ⟨by rw [u0j O.ne];exact ho,?_,O.ne,O'.obj,_,O'.ns,fun g=>?_,fun g hg=>?_⟩
 ·have:=u3G f y fs;omega
 ·show RelO ((putF f y fs).lookup g) (if g=f then some u else mA g)
  rw [u3E]
  by_cases q:g=f
  ·rw [if_pos q,if_pos q];exact ry
  ·rw [if_neg q,if_neg q];exact r g
 ·by_cases q:g=f
  ·rw [q];exact (u3H f y fs).1
  ·refine (u3H f y fs).2 g (wi g fun z=>hg ?_)
   show (if g=f then some u else mA g)=none
   rw [if_neg q];exact z
theorem Inv.made (I:Inv X pins σ H s):Inv X pins σ (upd (upd H s.heap.objs.size (.own (s.heap.objs.size+1))) (s.heap.objs.size+1) (.ins C s.heap.objs.size []))
  { s with heap:=(s.heap.push W.emptyDict).push (W.instObj C s.heap.objs.size) }:=by
 have e1:(s.heap.push W.emptyDict).get? s.heap.objs.size=some W.emptyDict:=Heap.get?_push_size s.heap rfl
 have e2:((s.heap.push W.emptyDict).push (W.instObj C s.heap.objs.size)).get? (s.heap.objs.size+1)=some (W.instObj C s.heap.objs.size):=by
  have:=Heap.get?_push_size (s.heap.push W.emptyDict) (o:=W.instObj C s.heap.objs.size) rfl
  rwa [Heap.size_push] at this
 have e3:(s.heap.push W.emptyDict).Ns s.heap.objs.size (fun _=>none):=⟨W.emptyDict,#[],_,e1,rfl,(fun e he=>absurd he (by simp)),fun _=>rfl⟩
 have I1:=I.laid (a:=s.heap.objs.size) (o:=.own (s.heap.objs.size+1)) (h':=s.heap.push W.emptyDict) (t':=s.toks) (fun b u q=>Heap.get?_push_of_some _ q) (Nat.le_refl _) ⟨_,e1⟩
 refine I1.laid (a:=s.heap.objs.size+1) (o:=.ins C s.heap.objs.size []) (t':=s.toks) (fun b u q=>Heap.get?_push_of_some _ q) (Nat.le_of_eq (Heap.size_push _ _)) ?_
 have ne:s.heap.objs.size≠s.heap.objs.size+1:=Nat.ne_of_lt (Nat.lt_succ_self _)
 refine ⟨by rw [u0j ne,u0g],Nat.zero_le _,ne,e2,fun _=>none,(Heap.Ns1.of_empty e3).at fun o q=>Heap.get?_push_of_some _ q,fun _=>True.intro,fun y hy=>absurd rfl hy⟩
theorem u9P {prog:Program}{w:World}{env:Env}{e:Expr}{f:Str}{pos:Pos}{s:Shared}{Q:VP} (hb:attributeBase e f env (eval e env)=eval e env)
  (h:wpAny (model prog w) A (eval e env) (fun o s₁=>wpAny (model prog w) A (getAttr o f true) Q E s₁) E s):wpAny (model prog w) A (eval (.Attribute e f pos) env) Q E s :=
 Attribute_any_ h (by rw [arm_eval_Attribute,hb])
end
def tFld (K:W.Frag) (ta:TE) (f:Str):TE:=fun σ H Q=>ta σ H fun x H1=>∃ a C dx fs v,x=.ref a∧H1 a=some (.ins C dx fs)∧Cls K C∧NoAttr K C f∧fs.lookup f=some v∧Q v H1
def sFld (K:W.Frag) (ta tv:TE) (f:Str):TS:=fun D σ H=>tv σ H fun y H1=>ta σ H1 fun x H2=>∃ a C dx fs,x=.ref a∧H2 a=some (.ins C dx fs)∧Cls K C∧NoAttr K C f∧fs.length<1000 ∧
 D.nx σ (upd H2 a (.ins C dx (putF f y fs)))
section
variable {X:Cx}{o e value:Expr}{f:Str}{pos pos' tpos:Pos}{ta tv:TE}
theorem v1u (he:PE X e ta) (hb:attributeBase e f X.env (eval e X.env)=eval e X.env):PE X (.Attribute e f pos) (tFld X.K ta f):=by
 intro pins s σ H Q I h
 refine u9P hb (thn (he pins s σ H _ I h) fun u s1 ⟨x,H1,I1,rx,a,C,dx,fs,v,ex,ea,c,n,l,q⟩=>?_)
 subst ex
 obtain rfl:u=Value.ref a:=rx
 exact u8c I1 ea c n l fun u' s2 I2 ru=>⟨v,H1,I2,ru,q⟩
theorem ps_fld (ha:PE X o ta) (hv:PE X value tv) (hs:swapsWith value (some (.Attribute o f pos')) pos.line X.env=pure false):PS X (.Assign [.Attribute o f pos'] value pos) (sFld X.K ta tv f):=by
 intro pins s σ H D I h
 refine plainObj_wpAny_Assign_Attribute (thn (hv pins s σ H _ I h) fun u s1 ⟨y,H1,I1,ry,q⟩=>thn (ha pins s1 σ H1 _ I1 q) fun ov s2 ⟨x,H2,I2,rx,a,C,dx,fs,ex,ea,c,n,l,q2⟩=>?_) hs
 subst ex
 obtain rfl:ov=Value.ref a:=rx
 exact u7P I2 ea c n l ry fun s3 I3=>⟨σ,_,I3,q2⟩
end
section
variable {X:Cx}{pins:LO}{σ:St}{H:Hp}{s:Shared}{A:Around}{E:VP}{Q:VP}{c:Value}{b:Bool}
inductive TyOf (K:W.Frag) (H:Hp):V→Value→Prop where
 | non:TyOf K H .non (.type "NoneType")
 | bl (x:Bool):TyOf K H (.bl x) (.type "bool")
 | int (i:Int):TyOf K H (.int i) (.type "int")
 | str (x:Str):TyOf K H (.str x) (.type "str")
 | flt (x:UInt64):TyOf K H (.flt x) (.type "float")
 | lst {a:Addr}{xs:List V} (e:H a=some (.lst xs)):TyOf K H (.ref a) (.type "list")
 | frz {a:Addr}{o:Obj}{xs:List V} (e:H a=some (.frz o (.lst xs))):TyOf K H (.ref a) (.type "list")
 | tup {a:Addr}{xs:List V} (e:H a=some (.tup xs)):TyOf K H (.ref a) (.type "tuple")
 | dK {a:Addr}{kvs:List (Key×V)} (e:H a=some (.dK kvs)):TyOf K H (.ref a) (.type "dict")
 | dT {a:Addr}{kvs:List (List Key×V)} (e:H a=some (.dT kvs)):TyOf K H (.ref a) (.type "dict")
 | ins {a C dx:Addr}{fs:List (Str×V)} (e:H a=some (.ins C dx fs)) (cl:Cls K C) (ha:W.findIn K (.ref C) "__class__"=some (some (.builtin "object.__class__")))
   (hn:W.specialIn K (.builtin "object.__class__") "__get__"=some (some (.builtin "getset_descriptor.__get__"))) (htk:W.takesIn K (.builtin "object.__class__")=some true)
   (hm:W.mroIn K C (.type "object")=some true):TyOf K H (.ref a) (.ref C)
theorem u0V {x:V}{u t:Value} (I:Inv X pins σ H s) (rx:RelV x u) (ty:TyOf X.K H x t) (e:W.kitOne X.K t c=some b) (h:∀ tk,Q (.bool b) { s with toks:=tk }) :
  wpAny (model X.prog X.w) A (call (.builtin "isinstance") [u,c]) Q E s:=by
 cases ty with
 | non=>cases (show u=Value.none from rx);exact W.kia_one W.kitx_none I.kIn True.intro e (fun z=>nomatch z) h
 | bl y=>cases (show u=Value.bool y from rx);exact W.kia_one W.kitx_bool I.kIn True.intro e (fun z=>nomatch z) h
 | int i=>obtain ⟨t,q⟩:=(show ∃ t,u=Value.int i t from rx);cases q;exact W.kia_one W.kitx_int I.kIn True.intro e (fun z=>nomatch z) h
 | str y=>obtain ⟨t,q⟩:=(show ∃ t,u=Value.str y t from rx);cases q;exact W.kia_one W.kitx_str I.kIn True.intro e (fun z=>nomatch z) h
 | flt y=>obtain ⟨t,q⟩:=(show ∃ t,u=Value.float y t from rx);cases q;exact W.kia_one W.kitx_float I.kIn True.intro e (fun z=>nomatch z) h
 | @lst a xs ea =>
  cases (show u=Value.ref a from rx)
  obtain ⟨_,_,n,_,h1⟩:=(show ObjOk X.prog X.w H s.heap a (.lst xs) from I.hok a _ ea)
  exact W.kia_one W.kitx_list I.kIn ⟨_,h1,rfl⟩ e (fun z=>nomatch z) h
 | @frz a ob xs ea =>
  cases (show u=Value.ref a from rx)
  obtain ⟨_,_,_,n,_,h1⟩:=(show ObjOk X.prog X.w H s.heap a (.frz ob (.lst xs)) from I.hok a _ ea)
  exact W.kia_one W.kitx_list I.kIn ⟨_,h1,rfl⟩ e (fun z=>nomatch z) h
 | @tup a xs ea =>
  cases (show u=Value.ref a from rx)
  obtain ⟨_,_,_,p⟩:=(show ObjOk X.prog X.w H s.heap a (.tup xs) from I.hok a _ ea)
  obtain ⟨o,h1,h2,_⟩:=p
  exact W.kia_one W.kitx_tuple I.kIn ⟨o,h1,h2⟩ e (fun z=>nomatch z) h
 | @dK a kvs ea =>
  cases (show u=Value.ref a from rx)
  obtain ⟨_,_,vs,_,p⟩:=(show ObjOk X.prog X.w H s.heap a (.dK kvs) from I.hok a _ ea)
  obtain ⟨o,es,ep,h1,h2,_⟩:=p
  exact W.kia_one W.kitx_dict I.kIn ⟨o,h1,h2.1⟩ e (fun z=>nomatch z) h
 | @dT a kvs ea =>
  cases (show u=Value.ref a from rx)
  obtain ⟨_,_,xs,_,o,es,ep,h1,h2,_⟩:=(show ObjOk X.prog X.w H s.heap a (.dT kvs) from I.hok a _ ea)
  exact W.kia_one W.kitx_dict I.kIn ⟨o,h1,h2.1⟩ e (fun z=>nomatch z) h
 | @ins a C dx fs ea cl ha hn htk hm =>
  cases (show u=Value.ref a from rx)
  obtain ⟨mA,O,_⟩:=u4N I.hok ea
  obtain ⟨od,J,_⟩:=O.look
  exact W.kia_one (W.kitx_own (cl.get _) cl.hd ha hn htk hm) I.kIn J e (fun z=>nomatch z) h
end
structure Room (k:Nat) (A:Around):Prop where
 hd:A.handled=none
 dp:A.depth+3*k+5<recursionLimit
 un:A.units+16*k+200<cLine
theorem Room.mono {j k:Nat}{A:Around} (r:Room k A) (h:j≤k):Room j A:=⟨r.hd,by have:=r.dp;omega,by have:=r.un;omega⟩
theorem Room.deeper {k:Nat}{A:Around} (r:Room (k+1) A) (env:Env):Room k (A.deeper env) :=
 ⟨r.hd,by have:=r.dp;show A.depth+1+3*k+5<_;omega,by have:=r.un;show A.units+3+16*k+200<_;omega⟩
theorem u7Y {A:Around}{C:Addr}{us:List Value}{kw:List (Str×Value)}:(A.under (.builtin "type.__call__" ⟨.ref C::us,kw⟩)).depth=A.depth+1:=by
 first | rfl | simp [Around.under,Code.weight,Code.isCreation,Code.isGuard,Code.isCaller,Code.frames,Code.isFrame,guardIds]
theorem u7X {A:Around}{C:Addr}{us:List Value}{kw:List (Str×Value)}:(A.under (.builtin "type.__call__" ⟨.ref C::us,kw⟩)).units=A.units+1:=by
 first | rfl | simp [Around.under,Code.cUnits,Code.frames,Code.isFrame]
theorem Room.make {k:Nat}{A:Around} (r:Room (k+1) A) (C:Addr) (us:List Value) (kw:List (Str×Value)):Room k (A.under (.builtin "type.__call__" ⟨.ref C::us,kw⟩)) :=
 ⟨r.hd,by have:=r.dp;rw [u7Y];omega,by have:=r.un;rw [u7X];omega⟩
theorem Room.depth {k:Nat}{A:Around} (r:Room k A):A.depth<recursionLimit:=by have:=r.dp;omega
def tNil:TA:=fun _ H Q=>Q [] H
def tCons (ta:TE) (tr:TA):TA:=fun σ H Q=>ta σ H fun x H1=>tr σ H1 fun xs H2=>Q (x::xs) H2
section
variable {X:Cx}{e:Expr}{es:List Expr}{te:TE}{t:TA}{pos:Pos}
theorem u2Z:PA X [] tNil:=fun _ _ _ _ H Q I h=>Calls.spliced_nil ⟨[],H,I,.nil,h⟩
theorem pa_cons (ha:PE X e te) (hr:PA X es t) (hs:starEach (e::es) X.env=(false,eval e X.env)::starEach es X.env:=by rfl):PA X (e::es) (tCons te t):=by
 intro pos pins s σ H Q I h
 rw [hs]
 show wpAny _ _ (spliced ((false,eval e X.env)::backTo pos (starEach es X.env))) _ _ s
 refine Calls.spliced_cons (thn (ha pins s σ H _ I h) fun u s1 ⟨x,H1,I1,r1,q1⟩=>?_)
 exact thn (hr pos pins s1 σ H1 _ I1 q1) fun us s2 ⟨xs,H2,I2,r2,q2⟩=>⟨x::xs,H2,I2,.cons r1 r2,q2⟩
def tTup (t:TA):TE:=fun σ H Q=>t σ H fun xs H1=>xs.length≤sizeLine∧∀ p,H1 p=none→Q (.ref p) (upd H1 p (.tup xs))
def tLst (t:TA):TE:=fun σ H Q=>t σ H fun xs H1=>xs.length≤sizeLine∧∀ p,H1 p=none→Q (.ref p) (upd H1 p (.lst xs))
theorem pe_tup {x1} (h:PA X es t):PE X (.Tuple es x1 pos) (tTup t):=by
 intro pins s σ H Q I hq
 refine wpAny_Tuple_spliced (thn (h pos pins s σ H _ I hq) fun us s1 ⟨xs,H1,I1,r,z,q⟩=>⟨by rw [← r.length];exact z,?_⟩)
 have hf:H1 s1.heap.objs.size=none:=I1.hok.fresh (Nat.le_refl _)
 refine ⟨.ref s1.heap.objs.size,upd H1 s1.heap.objs.size (.tup xs),I1.laid (t':=s1.toks) (fun b u e=>Heap.get?_push_of_some _ e) (Nat.le_refl _) ?_,rfl,q _ hf⟩
 exact ⟨z,us,r,⟨_,Heap.get?_push_size _ rfl,rfl,_,rfl⟩⟩
theorem u8O (h:PA X es t):PE X (.List es pos) (tLst t):=by
 intro pins s σ H Q I hq
 refine wpAny_List_spliced (thn (h pos pins s σ H _ I hq) fun us s1 ⟨xs,H1,I1,r,z,q⟩=>⟨by rw [← r.length];exact z,?_⟩)
 have hf:H1 s1.heap.objs.size=none:=I1.hok.fresh (Nat.le_refl _)
 refine ⟨.ref s1.heap.objs.size,upd H1 s1.heap.objs.size (.lst xs),I1.laid (t':=s1.toks) (fun b u e=>Heap.get?_push_of_some _ e) (Nat.le_refl _) ?_,rfl,q _ hf⟩
 exact ⟨z,us,0,r,Heap.get?_push_size _ rfl⟩
end
abbrev Sp:=List V→Hp→VK→XK→Prop
abbrev CXT:=List Env→Hp→Shared→XK→Value→Shared→Prop
structure Env0 (P:Program) (w:World) (K:W.Frag) (mg:MG) (base:Heap) (A:Around) (outer:List Env) (s:Shared) (H:Hp):Prop where
 frames:A.frames=some outer
 mod:Mod K mg base
 bs:∀ b o,base.get? b=some o→s.heap.get? b=some o∧H b=none
 bsz:base.objs.size≤s.heap.objs.size
 funs:s.heap.FunFrames base outer
 frf:∀ b∈frs outer,H b=none
 hok:HOk P w H s.heap
 bare:AllBare s.gens
def CE (outer:List Env) (P:Program) (w:World) (H:Hp) (s:Shared) (Q:VK) (u:Value) (s':Shared):Prop :=
 ∃ v H',s'.os=s.os∧AllBare s'.gens∧Un (frs outer) [] H H' s.heap s'.heap∧HOk P w H' s'.heap∧RelV v u∧Q v H'
def CR (CX:CXT) (outer:List Env) (P:Program) (w:World) (H:Hp) (s:Shared) (Q:VK) (E:XK) (r:Result) (s':Shared):Prop :=
 match r with
 | .ok (.ret u)=>CE outer P w H s Q u s'
 | .ok _=>False
 | .error e=>CX outer H s E e s'
structure FnOk (P:Program) (w:World) (K:W.Frag) (mg:MG) (base:Heap) (CX:CXT) (k:Nat) (f:Addr) (fd:FuncData) (ps:List Str) (sp:Sp):Prop where
 len:∀ vs H Q E,sp vs H Q E→vs.length=ps.length
 run:∀ (A:Around) (outer:List Env) (s:Shared) (H:Hp) (args:Args) (us:List Value) (vs:List V) (Q:VK) (E:XK),Room k A→Env0 P w K mg base A outer s H→BindsTo s fd args (ps.zip us)→Vals vs us→sp vs H Q E →
  codeAny (model P w) A (.call (.ref f) args) (CR CX outer P w H s Q E) s
theorem FnOk.imp {P:Program}{w:World}{K:W.Frag}{mg:MG}{base:Heap}{CX:CXT}{k:Nat}{f:Addr}{fd:FuncData}{ps:List Str}{sp sp':Sp} (F:FnOk P w K mg base CX k f fd ps sp)
  (h:∀ vs H Q E,sp' vs H Q E→sp vs H Q E):FnOk P w K mg base CX k f fd ps sp' :=
 ⟨fun vs H Q E q=>F.len vs H Q E (h _ _ _ _ q),fun A outer s H args us vs Q E hr he hb hv hs=>F.run A outer s H args us vs Q E hr he hb hv (h _ _ _ _ hs)⟩
theorem Env0.make {P:Program}{w:World}{K:W.Frag}{mg:MG}{base:Heap}{A:Around}{outer:List Env}{s:Shared}{H:Hp} (e:Env0 P w K mg base A outer s H) (C:Addr) (us:List Value) (kw:List (Str×Value)) :
  Env0 P w K mg base (A.under (.builtin "type.__call__" ⟨.ref C::us,kw⟩)) outer s H:=⟨by first | exact e.frames | (simpa [Around.under,Code.envs,Code.isFrame,pushEnvs] using e.frames),e.mod,e.bs,e.bsz,e.funs,e.frf,e.hok,e.bare⟩
section
variable {X:Cx}{pins:LO}{σ:St}{H:Hp}{s s':Shared}
theorem Inv.env0 (I:Inv X pins σ H s):Env0 X.prog X.w X.K X.mg X.base X.A X.stack s H :=
 ⟨I.ok.frames,I.ok.mod,I.bs,Nat.le_trans I.ok.bsz I.sz,I.stack,I.stkFree,I.hok,I.bare⟩
theorem Inv.after {Q:VK}{u:Value} (I:Inv X pins σ H s) (h:CE X.stack X.prog X.w H s Q u s'):EP X pins σ Q u s':=by
 obtain ⟨v,H',os,bare,un,hok,r,q⟩:=h
 obtain ⟨hh,g,d,t,os'⟩:=s'
 obtain rfl:os'=s.os:=os
 exact ⟨v,H',I.call (h':=hh) (g':=g) (d':=d) (t':=t) (ch:=[]) un hok bare (fun b z=>absurd z (by simp)),r,q⟩
end
def tCall (sp:Sp) (dvs:List V) (E:XK) (t:TA):TE:=fun σ H Q=>t σ H fun vs H1=>sp (vs++dvs) H1 Q E
def Binds (K:W.Frag) (fd:FuncData) (ps:List Str) (ds:List Value):Prop :=
 ∀ (s:Shared) (us:List Value),K.In s.heap→(us++ds).length=ps.length→BindsTo s fd ⟨us,[]⟩ (ps.zip (us++ds))
theorem Binds.all {K:W.Frag}{fd:FuncData}{ps:List Str} (h:∀ us:List Value,us.length=ps.length→bindArgs fd ⟨us,[]⟩=pure (ps.zip us)):Binds K fd ps []:=fun s us _ hl=>by
 rw [List.append_nil] at hl ⊢
 exact .of_eq (h us hl)
def Passes (CX:CXT) (X:Cx) (E:XK):Prop:=∀ (pins:LO) (σ:St) (H:Hp) (s:Shared) (e:Value) (s':Shared),Inv X pins σ H s→CX X.stack H s E e s'→X.xe e s'
section
variable {X:Cx}{CX:CXT}{k:Nat}{f C:Addr}{fd:FuncData}{ps:List Str}{sp:Sp}{dvs:List V}{ds:List Value}{E:XK}{x m:Str}{p pos apos:Pos}{e o:Expr}{es:List Expr}{ta:TE}{t:TA}
theorem v1q {pins:LO}{σ:St}{H:Hp}{s:Shared}{Q:VK}{us:List Value}{vs:List V} (F:FnOk X.prog X.w X.K X.mg X.base CX k f fd ps sp) (hr:Room k X.A) (hb:Binds X.K fd ps ds) (hd:Vals dvs ds) (hx:Passes CX X E)
  (I:Inv X pins σ H s) (r:Vals vs us) (h:sp (vs++dvs) H Q E):wpAny (model X.prog X.w) X.A (call (.ref f) us) (EP X pins σ Q) X.xe s:=by
 have r2:Vals (vs++dvs) (us++ds):=r.append hd
 have hl:(us++ds).length=ps.length:=by rw [← r2.length];exact F.len _ _ _ _ h
 refine wpAny_call (codeAny_mono (F.run X.A X.stack s H ⟨us,[]⟩ (us++ds) (vs++dvs) Q E hr I.env0 (hb s us I.kIn hl) r2 h) fun r s' hq=>?_)
 cases r with
 | error e=>exact hx pins σ H s e s' I hq
 | ok fl =>
  cases fl with
  | ret u=>exact I.after hq
  | next=>exact False.elim hq
  | brk=>exact False.elim hq
  | cont=>exact False.elim hq
theorem pe_call (F:FnOk X.prog X.w X.K X.mg X.base CX k f fd ps sp) (hr:Room k X.A) (hg:Gl X x) (hm:X.mg x=some (.ref f)) (hk:W.keepIn X.K (.ref f)=true) (hb:Binds X.K fd ps ds) (hd:Vals dvs ds) (hx:Passes CX X E)
  (ha:PA X (e::es) t) (hdb:(x==("__debug__":Str))=false:=by decide) (he:starEach (e::es) X.env=(false,eval e X.env)::starEach es X.env:=by rfl) (hpl:(backTo pos (starEach es X.env)).any (·.1)=false:=by rfl) :
  PE X (.Call (.Name x p) (e::es) [] pos) (tCall sp dvs E t):=by
 intro pins s σ H Q I h
 refine wpAny_Call_Name_kw (u2h I hg hm ?_ hdb)
 refine W.callWith_K (h₀:=X.base) I.ok.mod.kin hk (thn (ha pos pins s σ H _ I h) fun us s1 ⟨vs,H1,I1,r,q⟩=>⟨I1.kIn,?_⟩) he hpl
 exact v1q F hr hb hd hx I1 r q
structure Mk (K:W.Frag) (C f:Addr):Prop where
 makes:W.makesIn K C=true
 init:W.findIn K (.ref C) "__init__"=some (some (.ref f))
 fn:W.isFn K (.ref f)=true
 kp:W.keepIn K (.ref C)=true
end
section
variable {X:Cx}{CX:CXT}{k:Nat}{f C:Addr}{fd:FuncData}{ps ks:List Str}{sp:Sp}{E:XK}{x m:Str}{p pos apos kpos:Pos}{e o:Expr}{es:List Expr}{kws:List Keyword}{te ta:TE}{t tk:TA}{nm:Option Str}
variable {g:List Value→List Value→List Value}{gV:List V→List V→List V}
end
structure FnScope (N P:List Str) (sc:Scope):Prop where
 kind:sc.kind=.function
 co:sc.isCoroutine=false
 gen:sc.isGenerator=false
 nd:N.Nodup
 pre:N.take P.length=P
 par:∀ x∈P,sc.names.lookup x=some .local∨sc.names.lookup x=some .cell
 nofree:∀ y∈sc.names,y.2≠.free
theorem u5T {kindOf:Str→Option NameKind}{x:Str}:∀ {binds:List (Str×Value)}{m:MG},(∀ v,(x,v)∉binds)→bindL kindOf binds m x=m x
 | [],_,_=>rfl
 | (n,v)::r,m,h=>by
  unfold bindL
  rw [u5T fun w hw=>h w (List.mem_cons_of_mem _ hw)]
  split
  ·have:x≠n:=by rintro rfl;exact h v List.mem_cons_self
   simp [this]
  ·rfl
theorem u5V {kindOf:Str→Option NameKind}{x:Str}:∀ {binds:List (Str×Value)}{m:MG},(∀ v,(x,v)∉binds)→bindC kindOf binds m x=m x
 | [],_,_=>rfl
 | (n,v)::r,m,h=>by
  unfold bindC
  rw [u5V fun w hw=>h w (List.mem_cons_of_mem _ hw)]
  split
  ·rfl
  ·have:x≠n:=by rintro rfl;exact h v List.mem_cons_self
   simp [this]
theorem u5U {kindOf:Str→Option NameKind}{x:Str}{v:Value}:∀ {P:List Str}{vs:List Value}{i:Nat}{m:MG},P.Nodup→P[i]?=some x→vs[i]?=some v→kindOf x=some .local →
  bindL kindOf (P.zip vs) m x=some v
 | [],_,_,_,_,h,_,_=>by simp at h
 | _::_,[],_,_,_,_,h,_=>by simp at h
 | p::P,w::vs,0,m,nd,h1,h2,hk=>by
  simp at h1 h2;subst h1;subst h2
  show bindL kindOf ((p,w)::P.zip vs) m p=_
  unfold bindL
  rw [u5T fun v hv=>(List.nodup_cons.mp nd).1 (List.of_mem_zip hv).1,if_pos hk]
  simp
 | p::P,w::vs,i+1,m,nd,h1,h2,hk=>by
  show bindL kindOf ((p,w)::P.zip vs) m x=_
  unfold bindL
  exact u5U (i:=i) (List.nodup_cons.mp nd).2 (by simpa using h1) (by simpa using h2) hk
theorem u5W {kindOf:Str→Option NameKind}{x:Str}{v:Value}:∀ {P:List Str}{vs:List Value}{i:Nat}{m:MG},P.Nodup→P[i]?=some x→vs[i]?=some v→kindOf x≠some .local →
  bindC kindOf (P.zip vs) m x=some v
 | [],_,_,_,_,h,_,_=>by simp at h
 | _::_,[],_,_,_,_,h,_=>by simp at h
 | p::P,w::vs,0,m,nd,h1,h2,hk=>by
  simp at h1 h2;subst h1;subst h2
  show bindC kindOf ((p,w)::P.zip vs) m p=_
  unfold bindC
  rw [u5V fun v hv=>(List.nodup_cons.mp nd).1 (List.of_mem_zip hv).1,if_neg hk]
  simp
 | p::P,w::vs,i+1,m,nd,h1,h2,hk=>by
  show bindC kindOf ((p,w)::P.zip vs) m x=_
  unfold bindC
  exact u5W (i:=i) (List.nodup_cons.mp nd).2 (by simpa using h1) (by simpa using h2) hk
noncomputable def start (N:List Str) (vs:List V):St:=vs.map some++List.replicate (N.length - vs.length) none
noncomputable def cxOf (CX:CXT) (P:Program) (w:World) (K:W.Frag) (mg:MG) (base:Heap) (N:List Str) (qual:Str) (scope:Scope) (f:Addr) (cd:Value) (A:Around) (outer:List Env) (s:Shared) (H:Hp) (E:XK):Cx where
 prog:=P
 w:=w
 K:=K
 mg:=mg
 base:=base
 A:=A.deeper (envOfC qual scope s.heap.objs.size f cd)
 N:=N
 s₀:=s
 H₀:=H
 env:=envOfC qual scope s.heap.objs.size f cd
 outer:=outer
 stack:=envOfC qual scope s.heap.objs.size f cd::outer
 ex:=[]
 calm:=true
 fn:=fun _=>true
 pn:=[]
 xe:=fun e s'=>wpAny (model P w) (A.deeper (envOfC qual scope s.heap.objs.size f cd)) (leaving (envOfC qual scope s.heap.objs.size f cd) e) (fun _ s''=>CX outer H s E e s'') (fun e' s''=>CX outer H s E e' s'') s'
theorem u7H {sc:Scope}{n:Nat}{x:Str} (h:sc.names.lookup x=some .cell):∃ c,(cellsFrom n sc.names []).lookup x=some c:=by
 have q:=W.cellsFrom_some sc.names n [] (.inl h)
 exact Option.isSome_iff_exists.mp q
theorem u9h {CX:CXT}{P:Program}{w:World}{K:W.Frag}{mg:MG}{base:Heap}{N ps:List Str}{qual:Str}{scope:Scope}{f:Addr}{cd:Value}{A:Around}{outer:List Env}{s s1:Shared}{H:Hp}{E:XK}{us:List Value}{vs:List V}
  (S:FnScope N ps scope) (hd:A.handled=none) (e0:Env0 P w K mg base A outer s H) (hl:vs.length=ps.length) (r:Vals vs us)
  (x:InCallC s s.heap.objs.size (bindL (envOfC qual scope s.heap.objs.size f cd).kindOf (ps.zip us) fun _=>none) (cellsFrom (s.heap.objs.size+1) scope.names []) (bindC (envOfC qual scope s.heap.objs.size f cd).kindOf (ps.zip us) fun _=>none) s1) :
  Inv (cxOf CX P w K mg base N qual scope f cd A outer s H E) [] (start N vs) H s1:=by
 have hpl:ps.length≤N.length:=by have:=congrArg List.length S.pre;rw [List.length_take] at this;omega
 obtain ⟨h1,tk,rfl,hk⟩:=x.done
 have noA:∀ b:Addr,b∉(cxOf CX P w K mg base N qual scope f cd A outer s H E).ex:=fun b z=>absurd (show b∈([]:List Addr) from z) (by simp)
 refine ⟨⟨e0.mod,S.kind,rfl,rfl,Nat.le_refl _,fun y z c h1 h2=>?_,fun y hy=>?_,fun y c _ h=>?_,fun _=>hd,Around.frames_deeper e0.frames,.inr ⟨rfl,rfl⟩,fun b z=>absurd z (noA b),e0.bs,e0.bsz,fun b _ _=>noA b,fun b z=>absurd z (noA b),e0.funs,e0.frf⟩,
  rfl,e0.bare,Un.kept hk,⟨_,x.toInCall.ns,fun i y v h1 h2 h3=>?_⟩,fun y c h=>⟨_,x.cell y c h⟩,e0.hok.fresh (Nat.le_refl _),fun y c h=>?_,fun p hp=>absurd (show p∈([]:LO) from hp) (by simp),e0.hok.kept hk,?_⟩
 ·exact name_of_addr x.apart (PySem.mem_of_lookup h1) (PySem.mem_of_lookup h2)
 ·have hy:scope.names.lookup y=some .cell∨scope.names.lookup y=some .free:=hy
  rcases hy with hy | hy
  ·exact u7H hy
  ·exact absurd rfl (S.nofree _ (PySem.mem_of_lookup hy))
 ·exact Nat.le_of_lt (x.above y c (PySem.mem_of_lookup h))
 ·have hi:i<vs.length:=by
   unfold start at h2
   by_cases hi:i<vs.length
   ·exact hi
   ·rw [List.getElem?_append_right (by simpa using hi)] at h2
    rw [List.getElem?_replicate] at h2
    split at h2 <;> cases h2
  have ha:vs[i]?=some v:=by
   unfold start at h2
   rw [List.getElem?_append_left (by simpa using hi),List.getElem?_map] at h2
   cases e:vs[i]? with
   | none=>rw [e] at h2;cases h2
   | some a=>rw [e] at h2;cases h2;rfl
  obtain ⟨u,hu,rv⟩:=r.get ha
  have hp:ps[i]?=some y:=by
   rw [← S.pre,List.getElem?_take_of_lt (by omega)];exact h1
  have ndP:ps.Nodup:=by rw [← S.pre];exact S.nd.sublist (List.take_sublist _ _)
  refine ⟨u,rv,?_⟩
  rcases S.par y (List.mem_of_getElem? hp) with k | k
  ·exact .inl ⟨k,u5U ndP hp hu k⟩
  ·obtain ⟨c,e⟩:=u7H (n:=s.heap.objs.size+1) k
   refine .inr ⟨.inl k,c,e,?_⟩
   have q:=x.cell y c e
   rw [u5W ndP hp hu (by show scope.names.lookup y≠_;rw [k];decide)] at q
   exact q
 ·exact e0.hok.fresh (Nat.le_of_lt (x.above y c (PySem.mem_of_lookup h)))
 ·unfold start
  show _=N.length
  rw [List.length_append,List.length_map,List.length_replicate]
  omega
theorem fn_of {CX:CXT}{P:Program}{w:World}{K:W.Frag}{mg:MG}{base:Heap}{k:Nat}{f:Addr}{name qual:Str}{params:Arguments}{body:List Stmt}{scope:Scope}{dV kV doc pm cdv ct oc:Value}{an od:Option Addr}
  {osl:Array (Option Value)}{N ps:List Str}{sp:Sp} (lk:K.lookup f=some ⟨oc,od,.func (W.fnOf name qual params body scope dV kV doc pm an cdv ct),osl⟩) (hcd:W.codeIn K cdv qual=true) (S:FnScope N ps scope)
  (len:∀ vs H Q E,sp vs H Q E→vs.length=ps.length)
  (hbody:∀ (A:Around) (outer:List Env) (s:Shared) (H:Hp) (vs:List V) (Q:VK) (E:XK),Room k (A.deeper (envOfC qual scope s.heap.objs.size f cdv))→sp vs H Q E →
   ∃ t,PSs (cxOf CX P w K mg base N qual scope f cdv A outer s H E) body t∧t { nx:=fun _ H'=>Q .non H',rt:=Q } (start N vs) H) :
  FnOk P w K mg base CX (k+1) f (W.fnOf name qual params body scope dV kV doc pm an cdv ct) ps sp:=by
 refine ⟨len,fun A outer s H args us vs Q E hr e0 hb r hsp=>?_⟩
 have hl:=len _ _ _ _ hsp
 have KX:K.In s.heap:=e0.mod.kin.keeps fun b o e=>(e0.bs b o e).1
 have lim:s.heap.NoLimit:=e0.mod.nolimit.keeps fun b o e=>(e0.bs b o e).1
 have hkind:∀ y∈ps.zip us,scope.names.lookup y.1=some .local∨(scope.names.lookup y.1=some .cell∧((cellsFrom (s.heap.objs.size+1) scope.names []).lookup y.1).isSome=true):=fun ⟨n,v⟩ hy=>by
  rcases S.par n (List.of_mem_zip hy).1 with q | q
  ·exact .inl q
  ·exact .inr ⟨q,W.cellsFrom_some _ _ _ (.inl q)⟩
 refine codeAny_call_function hr.depth (KX _ _ lk) rfl S.co S.gen rfl (W.codeRec_of KX hcd) (hb _ _ _ _ ?_)
 refine wpAny_newFunctionEnv_cells S.kind hkind fun env he s1 x=>?_
 subst he
 refine ⟨lim.keeps x.toInCall.keep,codeAny_func ?_⟩
 obtain ⟨t,ht,hq⟩:=hbody A outer s H vs Q E (hr.deeper _) hsp
 have I:Inv (cxOf CX P w K mg base N qual scope f cdv A outer s H E) [] (start N vs) H s1:=u9h S hr.hd e0 hl r x
 refine wpAny_mono (ht [] s1 (start N vs) H _ I hq) (fun fl s' hs=>?_) fun e s' hs=>hs
 have fin:∀ {σ':St}{H':Hp}{v:V}{u:Value},Inv (cxOf CX P w K mg base N qual scope f cdv A outer s H E) [] σ' H' s'→RelV v u→Q v H'→CE outer P w H s Q u s' :=
  fun {σ' H' v u} J rv q=>⟨v,H',J.os,J.bare,J.base,J.hok,rv,q⟩
 cases fl with
 | ret u =>
  obtain ⟨v,σ',H',J,rv,q⟩:=hs
  exact fin J rv q
 | next =>
  obtain ⟨σ',H',J,q⟩:=hs
  exact fin (v:=V.non) (u:=Value.none) J rfl q
 | brk =>
  obtain ⟨_,_,_,q⟩:=hs
  exact False.elim q
 | cont =>
  obtain ⟨_,_,_,q⟩:=hs
  exact False.elim q
section
variable {X:Cx}{x:Str}{p pos:Pos}{e:Expr}{es:List Expr}{t:TA}{id T:String}{r:List V→Hp→VK→Prop}
def tCB (r:List V→Hp→VK→Prop) (t:TA):TE:=fun σ H Q=>t σ H fun vs H1=>r vs H1 Q
theorem v0r (hc:CallR X (.builtin id) r) (hg:Gl X x) (hm:X.mg x=none) (hv:bootBuiltins x=some (.builtin id)) (ha:PA X (e::es) t) (hn:x≠"__name__":=by decide) (hdb:(x==("__debug__":Str))=false:=by decide)
  (he:starEach (e::es) X.env=(false,eval e X.env)::starEach es X.env:=by rfl) (hpl:(backTo pos (starEach es X.env)).any (·.1)=false:=by rfl):PE X (.Call (.Name x p) (e::es) [] pos) (tCB r t):=by
 intro pins s σ H Q I h
 refine wpAny_Call_Name_kw (u1C I hg hm hv ?_ hn hdb)
 exact PyProof.Rows.callWith_builtin1 (thn (ha pos pins s σ H _ I h) fun us s1 ⟨vs,H1,I1,r1,q1⟩=>hc pins s1 σ H1 vs us Q I1 r1 q1) he hpl
theorem u8P (hc:CallR X (.type T) r) (hg:Gl X x) (hm:X.mg x=none) (hv:bootBuiltins x=some (.type T)) (ha:PA X (e::es) t) (hn:x≠"__name__":=by decide) (hdb:(x==("__debug__":Str))=false:=by decide)
  (he:starEach (e::es) X.env=(false,eval e X.env)::starEach es X.env:=by rfl) (hpl:(backTo pos (starEach es X.env)).any (·.1)=false:=by rfl):PE X (.Call (.Name x p) (e::es) [] pos) (tCB r t):=by
 intro pins s σ H Q I h
 refine wpAny_Call_Name_kw (u1C I hg hm hv ?_ hn hdb)
 exact PyProof.Rows.callWith_type1 (thn (ha pos pins s σ H _ I h) fun us s1 ⟨vs,H1,I1,r1,q1⟩=>hc pins s1 σ H1 vs us Q I1 r1 q1) he hpl
end
end L2
namespace HT
open PySem PyProof.Rows
section
open PySem.SeqAt
open PySem.AutoSeq1 (wpAny_loadPart')
open PySem.MeetsSeq PySem.MeetsSeq2 PySem.MeetsSeq3
end
section
variable {prog:Program}{w:World}{A:Around}{E:VP}{s:Shared}
theorem cat_tup {t b:Addr}{vs ws:List Value}{Q:VP} (ht:IsTup s.heap t vs.toArray) (hb:IsTup s.heap b ws.toArray) (hv:vs≠[])
  (h1:ws=[]→Q (.ref t) s) (h2:ws≠[]→Q (.ref s.heap.objs.size) { s with heap:=s.heap.push { cls:=.type "tuple",data:=.seq (vs++ws).toArray } })
  (hsz:vs.length+ws.length≤sizeLine):wpAny (model prog w) A (binaryOp .Add (.ref t) (.ref b)) Q E s:=by
 obtain ⟨⟨cls,dd,data,sl⟩,ho,hc,n,hd⟩:=id ht
 obtain ⟨⟨cls2,dd2,data2,sl2⟩,ho2,hc2,n2,hd2⟩:=id hb
 simp only at hc hd hc2 hd2
 subst hc hd hc2 hd2
 have e:vs.toArray++ws.toArray=(vs++ws).toArray:=by simp
 by_cases hw:ws=[]
 ·exact concat_meets ⟨_,ho,rfl⟩ ⟨_,ho2,rfl⟩ noFill_tuple_add seq_tuple_add PySem.F.slot_tuple_add PySem.F.entry_tuple_add (PySem.F.args_tuple_add_2 _ _)
   (tuple_addW1 t b vs.toArray ws.toArray n n2 dd dd2 sl sl2 (by simpa using hv) (by simp [hw])) ⟨ho,ho2,h1 hw⟩
 ·refine concat_meets ⟨_,ho,rfl⟩ ⟨_,ho2,rfl⟩ noFill_tuple_add seq_tuple_add PySem.F.slot_tuple_add PySem.F.entry_tuple_add (PySem.F.args_tuple_add_2 _ _)
   (tuple_addW2 t b vs.toArray ws.toArray n n2 dd dd2 sl sl2 (by simpa using hv) (by simpa using hw) (by rw [List.size_toArray,List.size_toArray];exact hsz)) ⟨ho,ho2,?_⟩
  rw [e]
  exact h2 hw
noncomputable def sIx (n d:Nat):Option Int→Nat
 | none=>d
 | some v=>if v<0 then (v+(n:Int)).toNat else min v.toNat n
theorem sIx_none (n d:Nat):sIx n d none=d:=rfl
theorem sIx_nat (n d k:Nat):sIx n d (some (k:Int))=min k n:=by
 show (if (k:Int)<0 then ((k:Int)+(n:Int)).toNat else min (k:Int).toNat n)=min k n
 rw [if_neg (by omega),Int.toNat_natCast]
theorem sIx_le (n d:Nat) (hd:d≤n) (o:Option Int):sIx n d o≤n:=by
 cases o with
 | none=>exact hd
 | some v =>
  show (if v<0 then (v+(n:Int)).toNat else min v.toNat n)≤n
  by_cases hv:v<0
  ·rw [if_pos hv];omega
  ·rw [if_neg hv];exact Nat.min_le_right _ _
theorem u9I (v:Int) (n d:Nat):(if v<0 then max (v+(n:Int)) 0 else min v (n:Int))=((sIx n d (some v):Nat):Int):=by
 show (if v<0 then max (v+(n:Int)) 0 else min v (n:Int))=(((if v<0 then (v+(n:Int)).toNat else min v.toNat n):Nat):Int)
 by_cases hv:v<0
 ·simp only [if_pos hv];omega
 ·simp only [if_neg hv];omega
theorem u8g (lo hi:Option Int) (n:Nat):Builtin.Slice.sliceAdjust lo hi 1 (n:Int)=(((sIx n 0 lo:Nat):Int),((sIx n n hi:Nat):Int)):=by
 have h1:¬ ((1:Int)<0):=by omega
 unfold Builtin.Slice.sliceAdjust
 simp only [h1,if_false]
 refine Prod.ext ?_ ?_
 ·cases lo with
  | none=>rfl
  | some v=>exact u9I v n 0
 ·cases hi with
  | none=>rfl
  | some v=>exact u9I v n n
theorem u7T (i j:Nat):Builtin.Slice.slicePlaces (i:Int) (j:Int) 1=j - i:=by
 unfold Builtin.Slice.slicePlaces
 have h1:(1:Int) > 0:=by omega
 simp only [h1,if_true,Int.ediv_one]
 split <;> omega
theorem slicePart_ {v:Value}{o:Option Int}{Q:Option Int→Shared→Prop} (p:IsPart v o) (h:Q o s):wpAny (model prog w) A (Builtin.Slice.slicePartIndex v) Q E s:=by
 cases p with
 | none=>exact slicePart_none h
 | int i t=>exact slicePart_int h
theorem u3c {sl:Addr}{vl vu:Value}{lo hi:Option Int}{n:Nat}{Q:Int×Int×Nat→Shared→Prop} (hs:s.heap.IsSliceOf sl vl vu .none) (pl:IsPart vl lo) (pu:IsPart vu hi)
  (h:Q (((sIx n 0 lo:Nat):Int),1,sIx n n hi - sIx n 0 lo) s):wpAny (model prog w) A (Builtin.Slice.sliceApplied (.ref sl) (pure (n:Int))) Q E s:=by
 obtain ⟨os,hos,hcs,hds⟩:=id hs
 unfold Builtin.Slice.sliceApplied Builtin.Slice.sliceFields
 refine wpAny_bind (wpAny_bind (wpAny_field hos hds (x:=vl) rfl (wpAny_bind (wpAny_field hos hds (x:=vu) rfl (wpAny_bind (wpAny_field hos hds (x:=.none) rfl (wpAny_pure ?_)))))))
 refine wpAny_bind (slicePart_none ?_)
 show wpAny _ _ (if ((1:Int)==0)=true then _ else _) _ _ s
 rw [if_neg (by decide)]
 refine wpAny_bind (slicePart_ pl (wpAny_bind (slicePart_ pu (wpAny_bind (wpAny_pure ?_)))))
 show wpAny _ _ (match Builtin.Slice.sliceAdjust lo hi 1 (n:Int) with | (lo,hi)=>pure (lo,(1:Int),Builtin.Slice.slicePlaces lo hi 1)) _ _ s
 rw [u8g lo hi n]
 show wpAny _ _ (pure (((sIx n 0 lo:Nat):Int),(1:Int),Builtin.Slice.slicePlaces ((sIx n 0 lo:Nat):Int) ((sIx n n hi:Nat):Int) 1)) _ _ s
 rw [u7T]
 exact wpAny_pure h
theorem v0m (xs:Array Value) (i k:Nat):((List.range k).filterMap fun (m:Nat)=>xs[((i:Int)+(m:Int)*1).toNat]?).toArray=((xs.toList.drop i).take k).toArray:=by
 have e:(fun (m:Nat)=>xs[((i:Int)+(m:Int)*1).toNat]?)=fun m=>xs[i+m]?:=by
  funext m
  have:((i:Int)+(m:Int)*1).toNat=i+m:=by omega
  rw [this]
 rw [e]
 have:=pick_run xs i k
 rw [List.filterMap_map] at this
 have e2:((fun x=>xs[x]?) ∘ fun x=>i+x)=fun m=>xs[i+m]?:=rfl
 rw [e2] at this
 rw [this]
theorem getItem_tuple_cut {t sl:Addr}{items:Array Value}{vl vu:Value}{lo hi:Option Int}{Q:VP} (ht:IsTup s.heap t items) (hs:s.heap.IsSliceOf sl vl vu .none) (pl:IsPart vl lo) (pu:IsPart vu hi)
  (hw:¬ (sIx items.size 0 lo=0∧sIx items.size items.size hi=items.size))
  (h:Q (.ref s.heap.objs.size) { s with heap:=s.heap.push { cls:=.type "tuple",data:=.seq ((items.toList.drop (sIx items.size 0 lo)).take (sIx items.size items.size hi - sIx items.size 0 lo)).toArray } })
  (hsz:items.size≤sizeLine):wpAny (model prog w) A (getItem (.ref t) (.ref sl)) Q E s:=by
 have htake:sizeOk (.seq ((items.toList.drop (sIx items.size 0 lo)).take (sIx items.size items.size hi - sIx items.size 0 lo)).toArray):=by
  show ((items.toList.drop (sIx items.size 0 lo)).take (sIx items.size items.size hi - sIx items.size 0 lo)).toArray.size≤sizeLine
  rw [List.size_toArray,List.length_take,List.length_drop,Array.length_toList]
  omega
 have hj:sIx items.size items.size hi≤items.size:=sIx_le _ _ (Nat.le_refl _) hi
 obtain ⟨os,hos,hcs,hds⟩:=id hs
 have hTs:s.TypeIs (.ref sl) "slice":=⟨os,hos,hcs⟩
 unfold getItem
 try with_reducible refine wpAny_holding ?_
 first | refine wpAny_bind (wpAny_pure ?_) | skip
 refine wpAny_bind (wpAny_sequenceKey ht.typeIs (by decide) ?_)
 refine wpAny_bind (wpAny_callSpecial?_slot (name:=Str.ofString "__getitem__") ht.typeIs PyProof.Rows.slot_tuple_getitem
  (wpAny_call_entry PyProof.Rows.slot_tuple_getitem ht.typeIs entry_tuple_getitem ?_ (args_tuple_getitem _ _)))
 show wpAny _ _ (Builtin.Tuple.tupleItemsOf (.ref t) >>= _) _ _ s
 refine wpAny_bind (tupleItemsOf_ ht ?_)
 refine wpAny_bind (wpAny_typeOf hTs ?_)
 rw [if_pos (by decide)]
 refine wpAny_bind (u3c hs pl pu ?_)
 have hno:¬ ((((sIx items.size 0 lo:Nat):Int)==0&&(1:Int)==1&&(sIx items.size items.size hi - sIx items.size 0 lo)==items.size)=true):=by
  intro q
  rw [Bool.and_eq_true,Bool.and_eq_true] at q
  have q1:((sIx items.size 0 lo:Nat):Int)=0:=eq_of_beq q.1.1
  have q2:sIx items.size items.size hi - sIx items.size 0 lo=items.size:=eq_of_beq q.2
  exact hw ⟨by omega,by omega⟩
 show wpAny _ _ (if (((sIx items.size 0 lo:Nat):Int)==0&&(1:Int)==1&&(sIx items.size items.size hi - sIx items.size 0 lo)==items.size)=true then _ else _) _ _ s
 rw [if_neg hno,v0m]
 first
  | exact wpAny_bind (m:=Builtin.Tuple.tupleExact _) (wpAny_newObj_type (wpAny_pure ⟨_,rfl,wpAny_pure h⟩) htake)
  | exact wpAny_bind (m:=Builtin.Tuple.tupleExact _) (wpAny_newObj_type (wpAny_bind (wpAny_pure (wpAny_pure ⟨_,rfl,wpAny_pure h⟩))) htake)
  | exact wpAny_bind (wpAny_bind (m:=Builtin.Tuple.tupleExact _) (wpAny_newObj_type (wpAny_pure (wpAny_pure ⟨_,rfl,wpAny_pure h⟩)) htake))
  | exact wpAny_bind (wpAny_bind (m:=Builtin.Tuple.tupleExact _) (wpAny_newObj_type (wpAny_pure ⟨_,rfl,wpAny_pure h⟩) htake))
end
end HT
namespace L2
open PySem PySem.Spec PyProof.Rows
abbrev TO:=St→Hp→(Option Int→Hp→Prop)→Prop
def PO (X:Cx) (e:Option Expr) (t:TO):Prop :=
 ∀ (pins:LO) (s:Shared) (σ:St) (H:Hp) (Q:Option Int→Hp→Prop),Inv X pins σ H s→t σ H Q →
  wpAny (model X.prog X.w) X.A (evalPart e X.env) (fun u s'=>∃ o H',Inv X pins σ H' s'∧IsPart u o∧Q o H') X.xe s
noncomputable def tNoPart:TO:=fun _ H Q=>Q none H
noncomputable def tPart (t:TE):TO:=fun σ H Q=>t σ H fun x H1=>∃ i,x=.int i∧Q (some i) H1
section
variable {X:Cx}{e:Expr}{te:TE}{lo hi:Option Expr}{tl th:TO}{pos p2:Pos}
theorem po_none:PO X none tNoPart:=by
 intro pins s σ H Q I h
 rw [evalPart_none]
 exact wpAny_pure ⟨none,H,I,.none,h⟩
theorem po_some (h:PE X e te):PO X (some e) (tPart te):=by
 intro pins s σ H Q I hw
 rw [evalPart_some]
 refine thn (h pins s σ H _ I hw) fun u s1 ⟨x,H1,I1,r1,q1⟩=>?_
 obtain ⟨i,rfl,q⟩:=q1
 obtain ⟨t,rfl⟩:=r1
 exact ⟨some i,H1,I1,.int i t,q⟩
def SlR (X:Cx) (r:V→Option Int→Option Int→Hp→VK→Prop):Prop :=
 ∀ (pins:LO) (s:Shared) (σ:St) (H:Hp) (x:V) (v vl vu:Value) (lo hi:Option Int) (sl:Addr) (Q:VK),Inv X pins σ H s→RelV x v→s.heap.IsSliceOf sl vl vu .none→IsPart vl lo→IsPart vu hi→r x lo hi H Q →
  ∃ T id,typeLookup (.type T) "__getitem__"=pure (some (.builtin id))∧s.TypeIs v T∧wpAny (model X.prog X.w) X.A (getItem v (.ref sl)) (EP X pins σ Q) X.xe s
def tSl (r:V→Option Int→Option Int→Hp→VK→Prop) (te:TE) (tl th:TO):TE:=fun σ H Q=>te σ H fun x H1=>tl σ H1 fun l H2=>th σ H2 fun u H3=>r x l u H3 Q
theorem v0o {r:V→Option Int→Option Int→Hp→VK→Prop} (hr:SlR X r) (he:PE X e te) (hl:PO X lo tl) (hu:PO X hi th):PE X (.Subscript e (.Slice lo hi none p2) pos) (tSl r te tl th):=by
 intro pins s σ H Q I h
 refine Subscript_ (thn (he pins s σ H _ I h) fun v s1 ⟨x,H1,I1,r1,q1⟩=>?_)
 refine wpAny_Slice (thn (hl pins s1 σ H1 _ I1 q1) fun vl s2 ⟨l,H2,I2,pl,q2⟩=>thn (hu pins s2 σ H2 _ I2 q2) fun vu s3 ⟨u,H3,I3,pu,q3⟩=>?_)
 rw [evalPart_none]
 refine wpAny_pure ?_
 have I4:Inv X pins σ H3 { s3 with heap:=s3.heap.push { cls:=.type "slice",data:=.fields #[vl,vu,.none] } }:=I3.kept (t':=s3.toks) fun b ob q=>Heap.get?_push_of_some _ q
 obtain ⟨T,id,hT,ht,hg⟩:=hr pins { s3 with heap:=s3.heap.push { cls:=.type "slice",data:=.fields #[vl,vu,.none] } } σ H3 x v vl vu l u s3.heap.objs.size Q I4 r1 (Heap.IsSliceOf.new ..) pl pu q3
 show wpAny (model X.prog X.w) X.A (subscriptTail e (.Slice lo hi none p2) v (.ref s3.heap.objs.size)) (EP X pins σ Q) X.xe { s3 with heap:=s3.heap.push { cls:=.type "slice",data:=.fields #[vl,vu,.none] } }
 exact tail_any (ops:=[.ref s3.heap.objs.size,v]) ht hT hg (by with_unfolding_all rfl)
noncomputable def cutV (xs:List V) (lo hi:Option Int):List V:=(xs.drop (HT.sIx xs.length 0 lo)).take (HT.sIx xs.length xs.length hi - HT.sIx xs.length 0 lo)
theorem u3S (xs:List V) (lo hi:Option Int):(cutV xs lo hi).length≤xs.length:=by
 unfold cutV
 rw [List.length_take,List.length_drop]
 omega
def rSlT (K:W.Frag):V→Option Int→Option Int→Hp→VK→Prop:=fun x lo hi H Q=>∃ a xs,x=.ref a∧SqT K H a xs ∧
 ¬ (HT.sIx xs.length 0 lo=0∧HT.sIx xs.length xs.length hi=xs.length)∧∀ p,H p=none→Q (.ref p) (upd H p (.tup (cutV xs lo hi)))
theorem sl_tup:SlR X (rSlT X.K):=by
 intro pins s σ H x v vl vu lo hi sl Q I rx hs pl pu h
 obtain ⟨a,xs,rfl,hx,hw,q⟩:=h
 cases rx
 obtain ⟨its,r,ht,hz⟩:=I.tuple hx
 have hlen:its.toArray.size=xs.length:=by rw [List.size_toArray];exact r.length.symm
 refine ⟨"tuple",_,PyProof.Rows.slot_tuple_getitem.lookup,ht.typeIs,?_⟩
 refine HT.getItem_tuple_cut ht hs pl pu (by rw [hlen];exact hw) ?_ (by rw [hlen];exact hz)
 rw [hlen]
 refine ⟨.ref s.heap.objs.size,_,I.laid (t':=s.toks) (o:=.tup (cutV xs lo hi)) (fun b ob q=>Heap.get?_push_of_some _ q) (Nat.le_refl _) ?_,rfl,q _ (I.hok.fresh (Nat.le_refl _))⟩
 exact ⟨Nat.le_trans (u3S xs lo hi) hz,_,(r.drop (HT.sIx xs.length 0 lo)).take (HT.sIx xs.length xs.length hi - HT.sIx xs.length 0 lo),IsTup.new _ _⟩
def rCatT (K:W.Frag):R2:=fun x y H Q=>∃ a b xs ys,x=.ref a∧y=.ref b∧SqT K H a xs∧SqT K H b ys∧xs≠[]∧xs.length+ys.length≤sizeLine ∧
 (ys=[]→Q (.ref a) H)∧(ys≠[]→∀ p,H p=none→Q (.ref p) (upd H p (.tup (xs++ys))))
theorem Vals.nil_iff {xs:List V}{us:List Value} (r:Vals xs us):us=[]↔xs=[]:=by
 cases r with
 | nil=>simp
 | cons _ _=>simp
theorem op_catT:OpR X (binaryOp .Add) (rCatT X.K):=by
 intro pins s σ H x y v u Q I rx ry h
 obtain ⟨a,b,xs,ys,rfl,rfl,ha,hb,hx,hz,q1,q2⟩:=h
 cases rx
 cases ry
 obtain ⟨its,r1,p1,_⟩:=I.tuple ha
 obtain ⟨its2,r2,p2,_⟩:=I.tuple hb
 refine HT.cat_tup p1 p2 (fun z=>hx (r1.nil_iff.mp z)) (fun z=>⟨.ref a,H,I,rfl,q1 (r2.nil_iff.mp z)⟩) (fun z=>?_) (by rw [← r1.length,← r2.length];exact hz)
 refine ⟨.ref s.heap.objs.size,_,I.laid (t':=s.toks) (o:=.tup (xs++ys)) (fun b ob q=>Heap.get?_push_of_some _ q) (Nat.le_refl _) ?_,rfl,q2 (fun w=>z (r2.nil_iff.mpr w)) _ (I.hok.fresh (Nat.le_refl _))⟩
 exact ⟨by rw [List.length_append];exact hz,_,r1.append r2,IsTup.new _ _⟩
end
noncomputable def ixN (n:Nat) (i:Int):Option Nat:=if 0≤i then (if i<n then some i.toNat else none) else if -(n:Int)≤i then some (i+n).toNat else none
noncomputable def atI {α:Type} (xs:List α) (i:Int):Option α:=(ixN xs.length i).bind fun j=>xs[j]?
theorem u9e {n:Nat}{i:Int}{j:Nat} (h:ixN n i=some j):seqIndex? i n=some j∧j<n∧-(n:Int)≤i∧i<n:=by
 unfold ixN at h
 by_cases h0:0≤i
 ·rw [if_pos h0] at h
  by_cases h1:i<n
  ·rw [if_pos h1] at h
   have e:i.toNat=j:=Option.some.inj h
   exact ⟨by rw [seqIndex_of h0 h1,e],by omega,by omega,h1⟩
  ·rw [if_neg h1] at h;cases h
 ·rw [if_neg h0] at h
  by_cases h1:-(n:Int)≤i
  ·rw [if_pos h1] at h
   have e:(i+n).toNat=j:=Option.some.inj h
   exact ⟨by rw [seqIndex_neg (by omega) h1,e],by omega,h1,by omega⟩
  ·rw [if_neg h1] at h;cases h
theorem u6M {α:Type}{xs:List α}{i:Int}{v:α} (h:atI xs i=some v):∃ j,seqIndex? i xs.length=some j∧xs[j]?=some v∧j<xs.length∧-(xs.length:Int)≤i∧i<xs.length:=by
 unfold atI at h
 cases e:ixN xs.length i with
 | none=>rw [e] at h;cases h
 | some j =>
  rw [e] at h
  obtain ⟨h1,h2,h3,h4⟩:=u9e e
  exact ⟨j,h1,h,h2,h3,h4⟩
def PlainIx (b:Expr):Prop:=∀ o i,subscripted b false o i=operate [o,i] (getItem o i)
def IxR (X:Cx) (r:R2):Prop :=
 ∀ (value slice:Expr) (pins:LO) (s:Shared) (σ:St) (H:Hp) (x y:V) (v u:Value) (Q:VK),Inv X pins σ H s→RelV x v→RelV y u→r x y H Q →
  subscripted slice false v u=operate [v,u] (getItem v u)→wpAny (model X.prog X.w) X.A (subscriptTail value slice v u) (EP X pins σ Q) X.xe s
def MtR (X:Cx) (id:String) (r:V→List V→Hp→VK→Prop):Prop :=
 ∀ (pins:LO) (s:Shared) (σ:St) (H:Hp) (x:V) (xs:List V) (v:Value) (us:List Value) (Q:VK),Inv X pins σ H s→RelV x v→Vals xs us→r x xs H Q →
  wpAny (model X.prog X.w) X.A (call (.builtin id) (v::us)) (EP X pins σ Q) X.xe s
section
variable {X:Cx}{a b:Expr}{ta tb:TE}{pos:Pos}
theorem pe_ix {r:R2} (hr:IxR X r) (ha:PE X a ta) (hb:PE X b tb) (hs:PlainIx b):PE X (.Subscript a b pos) (tOp r ta tb):=by
 intro pins s σ H Q I h
 exact Subscript_ (binT ha hb I h fun v u s2 x y H2 I2 rx ry q=>hr a b pins s2 σ H2 x y v u Q I2 rx ry q (hs _ _))
def rIxL (K:W.Frag):R2:=fun x y H Q=>∃ p xs i v,x=.ref p∧y=.int i∧SqL K H p xs∧atI xs i=some v∧Q v H
def rIxT (K:W.Frag):R2:=fun x y H Q=>∃ p xs i v,x=.ref p∧y=.int i∧SqT K H p xs∧atI xs i=some v∧Q v H
def rIxS:R2:=fun x y H Q=>∃ z i c,x=.str z∧y=.int i∧z.length≤sizeLine∧atI z.cps.toList i=some c∧Q (.str ⟨#[c]⟩) H
theorem u9d:IxR X (rIxL X.K):=by
 intro value slice pins s σ H x y v u Q I rx ry h hs
 obtain ⟨p,xs,i,z,rfl,rfl,hq,he,q⟩:=h
 cases rx
 obtain ⟨t,rfl⟩:=ry
 obtain ⟨its,r,pl,hz⟩:=I.list hq
 obtain ⟨j,h1,h2,h3,h4,h5⟩:=u6M he
 obtain ⟨w,ew,rw'⟩:=r.get h2
 have hl:=r.length
 have hn:=line63
 have fin:EP X pins σ Q w s:=⟨z,H,I,rw',q⟩
 by_cases h0:0≤i
 ·have hj:i.toNat=j:=by
   rw [seqIndex_of h0 h5] at h1
   exact Option.some.inj h1
  exact item_listR pl.isList h0 (by omega) (by rw [hj];simpa using ew) fin hs
 ·have hj:(i+(its.toArray.size:Int)).toNat=j:=by
   rw [seqIndex_neg (by omega) h4] at h1
   rw [List.size_toArray,← hl]
   exact Option.some.inj h1
  exact subscriptTail_builtinR (x:=w) pl.isList.typeIs slot_list_getitem.lookup
   (wpAny_getItem_list_neg (Q:=fun r s'=>r=w∧EP X pins σ Q r s') pl.isList (by omega) (by rw [List.size_toArray] <;> omega) (by omega) (by rw [hj];simpa using ew) ⟨rfl,fin⟩) hs
theorem ix_tup:IxR X (rIxT X.K):=by
 intro value slice pins s σ H x y v u Q I rx ry h hs
 obtain ⟨p,xs,i,z,rfl,rfl,hq,he,q⟩:=h
 cases rx
 obtain ⟨t,rfl⟩:=ry
 obtain ⟨its,r,pl,hz⟩:=I.tuple hq
 obtain ⟨j,h1,h2,h3,h4,h5⟩:=u6M he
 obtain ⟨w,ew,rw'⟩:=r.get h2
 have hl:=r.length
 have hn:=line63
 have fin:EP X pins σ Q w s:=⟨z,H,I,rw',q⟩
 exact subscriptTail_builtinR (x:=w) pl.typeIs slot_tuple_getitem.lookup
  (getItem_tuple (j:=j) (Q:=fun r s'=>r=w∧EP X pins σ Q r s') pl (by omega) (by omega) (by rw [List.size_toArray,← hl];exact h1) (by simpa using ew) ⟨rfl,fin⟩) hs
theorem ix_str:IxR X rIxS:=by
 intro value slice pins s σ H x y v u Q I rx ry h hs
 obtain ⟨z,i,c,rfl,rfl,hz,he,q⟩:=h
 obtain ⟨t,rfl⟩:=rx
 obtain ⟨t',rfl⟩:=ry
 obtain ⟨j,h1,h2,h3,h4,h5⟩:=u6M he
 have hl:z.cps.toList.length=z.length:=by simp [Str.length]
 rw [hl] at h1 h4 h5
 have hn:=line63
 exact tail_any (typeIs_str s z t) slot_str_getitem.lookup (getItem_str (c:=c) (by
  have e1:decide (i < -(2^63:Int))=false:=decide_eq_false (by omega)
  have e2:decide (i ≥ 2^63)=false:=decide_eq_false (by omega)
  rw [e1,e2,Bool.or_false]) (by rw [h1];simpa using h2) ⟨.str ⟨#[c]⟩,H,I.tok _,⟨_,rfl⟩,q⟩) hs
theorem u7W (its:List Value) (n j:Nat) (u:Value):Obj.mapSeq (·.setIfInBounds j u) { cls:=.type "list",data:=.seq its.toArray n }={ cls:=.type "list",data:=.seq (its.set j u).toArray n }:=by
 simp [Obj.mapSeq]
theorem Inv.lst {pins:LO}{σ:St}{H:Hp}{s:Shared}{p:Addr}{xs:List V} (I:Inv X pins σ H s) (h:H p=some (.lst xs)) :
  ∃ (its:List Value) (n:Nat),Vals xs its∧s.heap.get? p=some { cls:=.type "list",data:=.seq its.toArray n }∧xs.length≤sizeLine:=by
 obtain ⟨z,its,n,r,e⟩:=I.hok p _ h
 exact ⟨its,n,r,e,z⟩
theorem Inv.lstUpd {pins:LO}{σ:St}{H:Hp}{s:Shared}{p:Addr}{xs ys:List V}{its its':List Value}{n n':Nat}{f:Obj→Obj} (I:Inv X pins σ H s) (h:H p=some (.lst xs))
  (ho:s.heap.get? p=some { cls:=.type "list",data:=.seq its.toArray n }) (hf:f { cls:=.type "list",data:=.seq its.toArray n }={ cls:=.type "list",data:=.seq its'.toArray n' }) (r:Vals ys its') (hz:ys.length≤sizeLine) (t:Nat) :
  Inv X pins σ (upd H p (.lst ys)) { s with heap:=s.heap.update p f,toks:=t }:=by
 have e:(s.heap.update p f).get? p=some { cls:=.type "list",data:=.seq its'.toArray n' }:=by
  rw [Heap.get?_update_self f ho (by rw [hf] <;> rfl),hf]
 refine I.write (x:=p) (e:=p) (by rw [h];trivial) (.inl rfl) (fun b u hb q=>(Heap.get?_update_other _ _ (Ne.symm hb)).trans q) ⟨_,e⟩ ?_
 exact ⟨hz,its',n',r,e⟩
noncomputable def rSetL:V→V→V→Hp→(Hp→Prop)→Prop:=fun o i v H Q=>∃ p xs k j,o=.ref p∧i=.int k∧H p=some (.lst xs)∧ixN xs.length k=some j∧Q (upd H p (.lst (xs.set j v)))
theorem u6U:PSet X rSetL:=by
 intro pins s σ H o i v ov iv u Q I ro ri rv h
 obtain ⟨p,xs,k,j,rfl,rfl,hp,hj,q⟩:=h
 cases ro
 obtain ⟨t,rfl⟩:=ri
 obtain ⟨its,n,r,ho,hz⟩:=I.lst hp
 obtain ⟨h1,h2,h3,h4⟩:=u9e hj
 have hl:=r.length
 have hn:=line63
 have I':Inv X pins σ (upd H p (.lst (xs.set j v))) { s with heap:=s.heap.update p (Obj.mapSeq (·.setIfInBounds j u)) } :=
  I.lstUpd hp ho (u7W its n j u) (r.set rv j) (by rw [List.length_set];exact hz) s.toks
 by_cases h0:0≤k
 ·have hk:k.toNat=j:=by
   rw [seqIndex_of h0 h4] at h1
   exact Option.some.inj h1
  exact W.ki_setAt ho h0 (by omega) (by rw [List.size_toArray,← hl];exact h4) (by rw [hk];exact ⟨_,I',q⟩)
 ·have hk:(k+(its.toArray.size:Int)).toNat=j:=by
   rw [seqIndex_neg (by omega) h3] at h1
   rw [List.size_toArray,← hl]
   exact Option.some.inj h1
  exact W.ki_setBack ho (by omega) (by rw [List.size_toArray,← hl];exact h3) (by omega) (by rw [hk];exact ⟨_,I',q⟩)
theorem u5e (lo hi:Option Int) (n:Nat):(sliceBounds lo hi none n).1=((HT.sIx n 0 lo:Nat):Int)∧(sliceBounds lo hi none n).2.1=((HT.sIx n n hi:Nat):Int)∧(sliceBounds lo hi none n).2.2=1:=by
 refine ⟨?_,?_,rfl⟩
 ·cases lo with
  | none=>simp [sliceBounds,HT.sIx]
  | some i =>
   simp only [sliceBounds,HT.sIx,Option.getD_none,show (1:Int) > 0 by decide,if_true]
   by_cases h:i<0
   ·simp only [h,if_true] <;> omega
   ·simp only [h,if_false] <;> omega
 ·cases hi with
  | none=>simp [sliceBounds,HT.sIx]
  | some i =>
   simp only [sliceBounds,HT.sIx,Option.getD_none,show (1:Int) > 0 by decide,if_true]
   by_cases h:i<0
   ·simp only [h,if_true] <;> omega
   ·simp only [h,if_false] <;> omega
theorem u4w (its:List Value) (lo hi:Option Int):slicePick its.toArray lo hi none=((its.drop (HT.sIx its.length 0 lo)).take (HT.sIx its.length its.length hi - HT.sIx its.length 0 lo)).toArray:=by
 obtain ⟨h1,h2,h3⟩:=u5e lo hi its.toArray.size
 unfold slicePick
 rw [h1,h2,h3]
 simp only [sliceRange_one,pick_run,List.size_toArray] <;> rfl
def rSlL (K:W.Frag):V→Option Int→Option Int→Hp→VK→Prop:=fun x lo hi H Q=>∃ a xs,x=.ref a∧SqL K H a xs∧∀ p,H p=none→Q (.ref p) (upd H p (.lst (cutV xs lo hi)))
theorem sl_list:SlR X (rSlL X.K):=by
 intro pins s σ H x v vl vu lo hi sl Q I rx hs pl pu h
 obtain ⟨a,xs,rfl,hx,q⟩:=h
 cases rx
 obtain ⟨its,r,ht,hz⟩:=I.list hx
 have hlen:=r.length
 refine ⟨"list",_,slot_list_getitem.lookup,ht.isList.typeIs,?_⟩
 refine wpAny_getItem_list_slice ht.isList hs pl pu .none (by simp) ?_ (by rw [List.size_toArray] <;> omega)
 rw [u4w,← hlen]
 refine ⟨.ref s.heap.objs.size,_,I.laid (t':=s.toks) (o:=.lst (cutV xs lo hi)) (fun b ob q=>Heap.get?_push_of_some _ q) (Nat.le_refl _) ?_,rfl,q _ (I.hok.fresh (Nat.le_refl _))⟩
 exact ⟨Nat.le_trans (u3S xs lo hi) hz,_,0,(r.drop (HT.sIx xs.length 0 lo)).take (HT.sIx xs.length xs.length hi - HT.sIx xs.length 0 lo),Heap.get?_push_size _ rfl⟩
theorem u5R:CallR X (.type "list") (fun xs H Q=>∃ p ys,xs=[.ref p]∧(SqL X.K H p ys∨SqT X.K H p ys)∧∀ l,H l=none→Q (.ref l) (upd H l (.lst ys))):=by
 intro pins s σ H xs us Q I r h
 obtain ⟨p,ys,rfl,hq,q⟩:=h
 obtain ⟨u,rfl,rx⟩:=vals1 r
 cases rx
 have fin:∀ (its:List Value),Vals ys its→ys.length≤sizeLine→∀ (h':Heap) (c':Nat),(∀ b o',s.heap.get? b=some o'→h'.get? b=some o') →
   h'.get? s.heap.objs.size=some { cls:=.type "list",dict:=none,data:=.seq its.toArray c',slots:=#[] }→EP X pins σ Q (.ref s.heap.objs.size) { s with heap:=h' }:=fun its r' hz h' c' kp e =>
  ⟨.ref s.heap.objs.size,_,I.laid (t':=s.toks) kp (Nat.le_refl _) (show ObjOk X.prog X.w _ h' _ (.lst ys) from ⟨hz,its,c',r',e⟩),rfl,q _ (I.hok.fresh (Nat.le_refl _))⟩
 rcases hq with hq | hq
 ·obtain ⟨its,r',pl,hz⟩:=I.list hq
  have hlen:=r'.length
  obtain ⟨o,ho,hc,n,hd⟩:=pl.isList
  exact call_list_seq p (.inl rfl) ho hc hd (fun h' c' kp e=>fin its r' hz h' c' kp e) (by simp only [List.size_toArray] <;> omega)
 ·obtain ⟨its,r',pl,hz⟩:=I.tuple hq
  have hlen:=r'.length
  obtain ⟨o,ho,hc,n,hd⟩:=pl
  exact call_list_seq p (.inr rfl) ho hc hd (fun h' c' kp e=>fin its r' hz h' c' kp e) (by simp only [List.size_toArray] <;> omega)
theorem u2A:CallR X (.type "tuple") (fun xs H Q=>∃ p ys,xs=[.ref p]∧((SqL X.K H p ys∧∀ l,H l=none→Q (.ref l) (upd H l (.tup ys)))∨(SqT X.K H p ys∧Q (.ref p) H))):=by
 intro pins s σ H xs us Q I r h
 obtain ⟨p,ys,rfl,h⟩:=h
 obtain ⟨u,rfl,rx⟩:=vals1 r
 cases rx
 rcases h with ⟨hq,q⟩ | ⟨hq,q⟩
 ·obtain ⟨its,r',pl,hz⟩:=I.list hq
  have hlen:=r'.length
  refine call_tuple_list pl.isList (fun h' kp=>?_) (by simp only [List.size_toArray] <;> omega)
  have I1:Inv X pins σ H { s with heap:=h' }:=I.kept (t':=s.toks) kp
  have I2:Inv X pins σ (upd H h'.objs.size (.tup ys)) { s with heap:=h'.push { cls:=.type "tuple",data:=.seq its.toArray } } :=
   I1.laid (t':=s.toks) (fun b o e=>Heap.get?_push_of_some _ e) (Nat.le_refl _) (show ObjOk X.prog X.w _ _ _ (.tup ys) from ⟨hz,its,r',IsTup.new _ _⟩)
  exact ⟨.ref h'.objs.size,_,I2,rfl,q _ (I1.hok.fresh (Nat.le_refl _))⟩
 ·obtain ⟨its,r',pl,hz⟩:=I.tuple hq
  exact call_tuple_same pl ⟨.ref p,H,I,rfl,q⟩
def tyV (K:W.Frag) (T:String) (x:V) (H:Hp):Prop:=match x with
 | .str _=>T="str"
 | .int _=>T="int"
 | .ref p=>(T="list"∧∃ xs,SqL K H p xs)∨(T="tuple"∧∃ o,K.lookup p=some o∧o.cls=.type "tuple"∧o.dict=none) ∨
   (T="dict"∧((∃ kvs,H p=some (.dK kvs))∨∃ kvs,H p=some (.dT kvs)))∨(T="set"∧∃ S n,H p=some (.set S n))
 | _=>False
theorem v1m {pins:LO}{σ:St}{H:Hp}{s:Shared}{T:String}{x:V}{v:Value} (I:Inv X pins σ H s) (r:RelV x v) (ty:tyV X.K T x H) :
  s.TypeIs v T∧∀ a,v=.ref a→∃ ob,s.heap.get? a=some ob∧ob.dict=none:=by
 cases x with
 | str z =>
  obtain ⟨t,rfl⟩:=r
  cases (show T="str" from ty)
  exact ⟨typeIs_str s z t,fun _ e=>nomatch e⟩
 | int i =>
  obtain ⟨t,rfl⟩:=r
  cases (show T="int" from ty)
  exact ⟨typeIs_int s i t,fun _ e=>nomatch e⟩
 | ref p =>
  cases r
  rcases ty with ⟨rfl,xs,hq⟩ | ⟨rfl,o,hk,hc,hd⟩ | ⟨rfl,hk⟩ | ⟨rfl,S,n,hk⟩
  ·obtain ⟨its,_,pl,_⟩:=I.list hq
   refine ⟨pl.isList.typeIs,fun a e=>?_⟩
   cases e
   obtain ⟨o,n,e,c,hd,_⟩:=pl
   exact ⟨o,e,hd⟩
  ·refine ⟨⟨o,I.kIn p o hk,hc⟩,fun a e=>?_⟩
   cases e
   exact ⟨o,I.kIn _ o hk,hd⟩
  ·have z:∃ o,s.heap.get? p=some o∧o.ExactDict:=by
    rcases hk with ⟨kvs,hk⟩ | ⟨kvs,hk⟩
    ·obtain ⟨_,_,_,_,o,_,_,e,ex,_⟩:=I.hok p _ hk
     exact ⟨o,e,ex⟩
    ·obtain ⟨_,_,_,_,o,_,_,e,ex,_⟩:=I.hok p _ hk
     exact ⟨o,e,ex⟩
   obtain ⟨o,e,ex⟩:=z
   refine ⟨⟨o,e,ex.1⟩,fun a e2=>?_⟩
   cases e2
   exact ⟨o,e,ex.2.1⟩
  ·obtain ⟨o,_,_,_,e,ex,_⟩:=I.hok p _ hk
   refine ⟨⟨o,e,ex.1⟩,fun a e2=>?_⟩
   cases e2
   exact ⟨o,e,ex.2.1⟩
 | _=>exact False.elim ty
def tBM0 (K:W.Frag) (T:String) (r:V→List V→Hp→VK→Prop) (to:TE):TE:=fun σ H Q=>to σ H fun x H1=>tyV K T x H1∧r x [] H1 Q
def tBM (K:W.Frag) (T:String) (r:V→List V→Hp→VK→Prop) (to:TE) (t:TA):TE:=fun σ H Q=>to σ H fun x H1=>tyV K T x H1∧t σ H1 fun xs H2=>r x xs H2 Q
variable {o e:Expr}{es:List Expr}{to:TE}{t:TA}{name:Str}{apos cpos:Pos}{T id:String}{r:V→List V→Hp→VK→Prop}
theorem v1v (pa:PlainAttrs T) (slot:Slot T name id) (hty:typeOf (.builtin id)=pure (.type "method_descriptor")) (hm:MtR X id r) (ho:PE X o to)
  (hbase:attributeBase o name X.env (eval o X.env)=eval o X.env:=by rfl) (hline:(apos.endLine==cpos.line)=true:=by rfl):PE X (.Call (.Attribute o name apos) [] [] cpos) (tBM0 X.K T r to):=by
 intro pins s σ H Q I h
 refine wpAny_Call_method0_late hbase hline (thn (ho pins s σ H _ I h) fun v s1 ⟨x,H1,I1,r1,ty,q1⟩=>?_)
 obtain ⟨h1,h2⟩:=v1m I1 r1 ty
 exact ⟨T,id,pa,slot,hty,h1,h2,Calls.callWith_builtin rfl (PySem.evalArgs_none (hm pins s1 σ H1 x [] v [] Q I1 r1 .nil q1))⟩
theorem pe_bm (pa:PlainAttrs T) (slot:Slot T name id) (hty:typeOf (.builtin id)=pure (.type "method_descriptor")) (hm:MtR X id r) (ho:PE X o to) (ha:PA X (e::es) t)
  (hbase:attributeBase o name X.env (eval o X.env)=eval o X.env:=by rfl)
  (hfew:((backTo cpos (starEach (e::es) X.env)).all (fun x=>!x.1)&&(backToKw cpos (keywordEach [] X.env)).all (fun x=>x.1.isSome)
   && decide ((e::es).length+([]:List Keyword).length+(if ([]:List Keyword).isEmpty then 0 else 1)<30))=true:=by rfl)
  (hline:(apos.endLine==cpos.line)=true:=by rfl) (hs:starEach (e::es) X.env=(false,eval e X.env)::starEach es X.env:=by rfl) (hplain:(backTo cpos (starEach es X.env)).any (·.1)=false:=by rfl) :
  PE X (.Call (.Attribute o name apos) (e::es) [] cpos) (tBM X.K T r to t):=by
 intro pins s σ H Q I h
 refine wpAny_Call_method_late hbase hfew hline rfl (thn (ho pins s σ H _ I h) fun v s1 ⟨x,H1,I1,r1,ty,q1⟩=>?_)
 obtain ⟨h1,h2⟩:=v1m I1 r1 ty
 refine ⟨T,id,pa,slot,hty,h1,h2,?_⟩
 have hA:=ha cpos pins s1 σ H1 _ I1 q1
 rw [hs] at hA ⊢
 refine Calls.callWith_builtin (by show (false||(backTo cpos (starEach es X.env)).any (·.1))=false;rw [hplain] <;> rfl) (Calls.evalArgs_plain ?_)
 exact thn hA fun us s2 ⟨vs,H2,I2,r2,q2⟩=>hm pins s2 σ H2 x vs v us Q I2 r1 r2 q2
end
def MtM (X:Cx) (id:String) (r:V→List V→Hp→VK→Prop):Prop :=
 ∀ (pins:LO) (s:Shared) (σ:St) (H:Hp) (x:V) (xs:List V) (v:Value) (us:List Value) (Q:VK),Inv X pins σ H s→RelV x v→Vals xs us→r x xs H Q →
  wpAny (model X.prog X.w) X.A (call (.builtin id) (v::us)) (EP X pins σ Q) X.xe s
theorem Vals.one:∀ {x:V}{us:List Value},Vals [x] us→∃ u,us=[u]∧RelV x u
 | _,_,.cons r .nil=>⟨_,rfl,r⟩
theorem Vals.zero:∀ {us:List Value},Vals [] us→us=[]
 | _,.nil=>rfl
theorem Vals.dropLast {xs:List V}{us:List Value} (h:Vals xs us):Vals xs.dropLast us.dropLast:=by
 induction h with
 | nil=>exact .nil
 | cons r t ih =>
  cases t with
  | nil=>exact .nil
  | cons q t'=>exact .cons r ih
theorem Vals.rep {xs:List V}{us:List Value} (h:Vals xs us):∀ k:Nat,Vals (List.replicate k xs).flatten (List.replicate k us).flatten
 | 0=>.nil
 | k+1=>by
  rw [List.replicate_succ,List.replicate_succ,List.flatten_cons,List.flatten_cons]
  exact Vals.append h (Vals.rep h k)
theorem u8e {α:Type} (l:List α):l.eraseIdx (l.length - 1)=l.dropLast:=by
 induction l with
 | nil=>rfl
 | cons a r ih =>
  cases r with
  | nil=>rfl
  | cons b r =>
   have e:(a::b::r).length - 1=((b::r).length - 1)+1:=by
    have h1:(a::b::r).length=r.length+2:=rfl
    have h2:(b::r).length=r.length+1:=rfl
    omega
   rw [e,List.eraseIdx_cons_succ,ih]
   all_goals rfl
theorem u3N (its:List Value):∀ (k:Nat) (acc:List Value),
  List.foldl (fun x1 x2=>x1++x2) acc.toArray (List.replicate k its.toArray)=(acc++(List.replicate k its).flatten).toArray
 | 0,acc=>by simp
 | k+1,acc=>by
  have e:acc.toArray++its.toArray=(acc++its).toArray:=by simp
  have e2:(acc++its)++(List.replicate k its).flatten=acc++(List.replicate (k+1) its).flatten:=by
   rw [List.replicate_succ,List.flatten_cons,List.append_assoc]
  rw [← e2,← u3N its k (acc++its),← e,List.replicate_succ,List.foldl_cons]
section
variable {X:Cx}{pins:LO}{σ:St}{H:Hp}{s:Shared}{l b:Addr}{xs ys zs:List V}
theorem Inv.lset {its its':List Value}{n:Nat}{f:Array Value→Array Value}{t':Nat} (I:Inv X pins σ H s) (hH:H l=some (.lst xs))
  (e:s.heap.get? l=some { cls:=.type "list",data:=.seq its.toArray n }) (hf:f its.toArray=its'.toArray) (hv:Vals ys its') (hz:ys.length≤sizeLine) :
  Inv X pins σ (upd H l (.lst ys)) { s with heap:=s.heap.update l (Obj.mapSeq f),toks:=t' }:=by
 have q:=PySem.IsL.update e f
 rw [hf] at q
 refine I.write (x:=l) (e:=l) (by rw [hH];exact trivial) (.inl rfl) (fun b' u hb hu=>(Heap.get?_update_other s.heap (Obj.mapSeq f) (Ne.symm hb)).trans hu) ⟨_,q⟩ ?_
 exact ⟨hz,its',_,hv,q⟩
theorem Inv.lnew {its:List Value}{t':Nat} (I:Inv X pins σ H s) (hv:Vals ys its) (hz:ys.length≤sizeLine) :
  Inv X pins σ (upd H s.heap.objs.size (.lst ys)) { s with heap:=s.heap.push { cls:=.type "list",data:=.seq its.toArray },toks:=t' } :=
 I.laid (fun _ _ q=>Heap.get?_push_of_some _ q) (Nat.le_refl _) ⟨hz,its,0,hv,Heap.get?_push_size _ rfl⟩
theorem Inv.fresh (I:Inv X pins σ H s):H s.heap.objs.size=none:=I.hok.fresh (Nat.le_refl _)
theorem Inv.lstM (I:Inv X pins σ H s) (hH:H l=some (.lst xs)):xs.length≤sizeLine∧∃ (its:List Value) (n:Nat),Vals xs its∧xs.length=its.length∧s.heap.get? l=some { cls:=.type "list",data:=.seq its.toArray n }:=by
 obtain ⟨z,its,n,r,e⟩:=I.hok l _ hH
 exact ⟨z,its,n,r,r.length,e⟩
theorem notLongL {n:Nat} (h:n≤sizeLine):Builtin.List.listTooLong n=false:=by
 unfold Builtin.List.listTooLong
 exact decide_eq_false (by omega)
end
section
variable {X:Cx}
def rAppend:V→List V→Hp→VK→Prop:=fun x vs H Q=>∃ l xs y,x=.ref l∧vs=[y]∧H l=some (.lst xs)∧xs.length<sizeLine∧Q .non (upd H l (.lst (xs++[y])))
theorem u5A:MtM X "list.append" rAppend:=by
 intro pins s σ H x vs v us Q I rx rv h
 obtain ⟨l,xs,y,rfl,rfl,hH,hz,q⟩:=h
 cases rx
 obtain ⟨u,rfl,ru⟩:=rv.one
 obtain ⟨z,its,n,r,hl,e⟩:=I.lstM hH
 refine call_meets F.slot_list_append ⟨_,e,rfl⟩ F.entry_list_append (F.args_list_append_2 _ _) (PySem.list_append l its.toArray n u (by rw [List.size_toArray];omega)) ⟨e,?_⟩
 refine ⟨.non,_,I.lset (its':=its++[u]) hH e (by simp) (r.append (.cons ru .nil)) ?_,rfl,q⟩
 rw [List.length_append,List.length_singleton]
 omega
def rPop:V→List V→Hp→VK→Prop:=fun x vs H Q=>∃ l xs y,x=.ref l∧vs=[]∧H l=some (.lst xs)∧xs[xs.length - 1]?=some y∧Q y (upd H l (.lst xs.dropLast))
theorem mt_pop:MtM X "list.pop" rPop:=by
 intro pins s σ H x vs v us Q I rx rv h
 obtain ⟨l,xs,y,rfl,rfl,hH,hy,q⟩:=h
 cases rx
 have hus:=rv.zero
 subst hus
 obtain ⟨z,its,n,r,hl,e⟩:=I.lstM hH
 obtain ⟨u,hu,ru⟩:=r.get hy
 have hy':its.toArray[its.toArray.size - 1]?=some u:=by
  show its.toArray[its.length - 1]?=some u
  rw [← Array.getElem?_toList,← hl]
  exact hu
 refine call_meets F.slot_list_pop ⟨_,e,rfl⟩ F.entry_list_pop (F.args_list_pop_1 _) (MeetsSeq.list_pop_last l its.toArray n u hy' (by rw [List.size_toArray];omega)) ⟨e,?_⟩
 refine ⟨y,_,I.lset (its':=its.dropLast) hH e ?_ r.dropLast ?_,ru,q⟩
 ·show its.toArray.eraseIdxIfInBounds (its.toArray.size - 1)=its.dropLast.toArray
  rw [List.size_toArray,List.eraseIdxIfInBounds_toArray,u8e]
 ·rw [List.length_dropLast]
  omega
def rClear:V→List V→Hp→VK→Prop:=fun x vs H Q=>∃ l xs,x=.ref l∧vs=[]∧H l=some (.lst xs)∧Q .non (upd H l (.lst []))
theorem v0y:MtM X "list.clear" rClear:=by
 intro pins s σ H x vs v us Q I rx rv h
 obtain ⟨l,xs,rfl,rfl,hH,q⟩:=h
 cases rx
 have hus:=rv.zero
 subst hus
 obtain ⟨z,its,n,r,hl,e⟩:=I.lstM hH
 refine call_meets F.slot_list_clear ⟨_,e,rfl⟩ F.entry_list_clear (F.args_list_clear_1 _) (AutoSeq1.list_clear_list_0 l its.toArray n (by rw [List.size_toArray];omega)) ⟨e,?_⟩
 exact ⟨.non,_,I.lset (its':=[]) (ys:=[]) hH e rfl .nil (Nat.zero_le _),rfl,q⟩
theorem u9a {α:Type} (xs:List α) (k:Nat):(List.replicate k xs).flatten.length=k*xs.length:=by
 induction k with
 | zero=>simp
 | succ k ih=>rw [List.replicate_succ,List.flatten_cons,List.length_append,ih,Nat.succ_mul,Nat.add_comm]
end
section
variable {prog:Program}{w:World}{A:Around}{E:VP}{s:Shared}
end
section
variable {X:Cx}
end
end L2
namespace Att
open PySem PySem.W PySem.Calls PyProof.Rows
theorem u3I {P:Params}{h:Heap}:∀ (ns:List Int) (vs:List Value),WellAll P h vs (ns.map WData.int)→IntsAre vs ns:=by
 intro ns
 induction ns with
 | nil =>
  intro vs w
  rw [List.map_nil] at w
  cases w
  exact .nil
 | cons n ns ih =>
  intro vs w
  rw [List.map_cons] at w
  cases w with
  | cons a b =>
   cases a
   exact .cons _ _ (ih _ b)
theorem u8x {l:OpenLaw}{n:Nat} (hn:l.most=some n) {P:Params}{h:Heap}{args:List WData}{vals:List Value}
  (hpre:l.row.toRowW.claim.pre args=true) (hwl:WellAll P h vals args) :
  ∃ a vs ns,vals=[Value.ref a]∧args=[WData.list (ns.map WData.int)]∧h.get? a=some { cls:=.type "list",data:=.seq vs.toArray }∧IntsAre vs ns∧ns.length≤n:=by
 have hsh:WShape.hasAll [] args [.list .int]=true:=(pre_splitW hpre).1
 have hc:l.pre.holds [] { args:=args }=true:=(pre_splitW hpre).2
 obtain ⟨d,r,rfl,h1,h2⟩:=hasAllW_cons hsh
 obtain rfl:=hasAllW_nil h2
 obtain ⟨xs,rfl,h3⟩:=hasW_list h1
 obtain ⟨ns,rfl⟩:=items_int h3
 have hlen:ns.length≤n:=by
  unfold OpenLaw.pre at hc
  have h4:(WTm.not (.lt (.lit (.int (n:Int))) (.len (.arg 0)))).holds [] { args:=[.list (ns.map .int)] }=true:=by
   have h4:=(holds_andW hc).1
   rw [hn] at h4
   exact h4
  have h5:=condW_of h4 (w_not (w_lt w_lit (w_len_list (w_arg rfl))))
  rw [List.length_map] at h5
  refine Nat.le_of_not_lt fun q=>?_
  have q':(n:Int)<((ns.length:Nat):Int):=by omega
  first
   | (rw [decide_eq_true q'] at h5;exact absurd h5 (by decide))
   | (simp at h5;omega)
 cases hwl with
 | cons w1 w2 =>
  cases w2
  cases w1 with
  | list ho hall=>exact ⟨_,_,ns,rfl,rfl,ho,u3I ns _ hall,hlen⟩
theorem u8K (l:OpenLaw) (args:List WData):l.row.toRowW.claim.post args (.bool true) args=true :=
 postW_of (r:=l.row.toRowW) (X:=(true==true))
  (show WShape.has [] (.bool true) .bool=true by first | rfl | decide | simp [WShape.has,WShape.arms,WShape.armsAll])
  (show (WTm.eq .res (.lit (.bool true))).value [] { args:=args,res:=some (.bool true),after:=args }=some (.bool (true==true)) from w_eq_bool (w_res rfl) w_lit) rfl
theorem attach_call {l:OpenLaw}{n:Nat}{q:Program}{loose:List Str}{XP:(Str→Option Value)→Heap→Prop}{YP:World→Heap→Prop}{d:DefRec}
  (hn:l.most=some n) (hdf:d.params.defaults=[])
  (call:∀ (w:World) (s₀ s₁:Shared) (mg mb:MG) (fa:Addr) (o:Obj) (pm cd doc:Value) (a:Addr) (vs:List Value) (ns:List Int),
   Ground q loose [] XP w s₀ mg mb s₁.heap→YP w s₁.heap →
   s₁.heap.get? fa=some o→o.data=.func (docDef d.name d.params d.body d.scope pm cd doc)→s₁.heap.CodeRec cd d.name→mg d.name=some (.ref fa) →
   s₁.heap.get? a=some { cls:=.type "list",data:=.seq vs.toArray }→IntsAre vs ns→ns.length≤n→s₁.gens=#[] →
   codeAny (model l.prog w) callerA (.call (.ref fa) ⟨[.ref a],[]⟩) (fun r s'=>r=.ok (.ret (.bool true))∧OldK s₁.heap s'.heap∧s'.os=s₁.os∧AllBare s'.gens) s₁) :
  WalkO q loose XP YP l.row.toRowW d [] (fun f vs=>PySem.call f vs):=by
 intro w s₀ s₁ mg mb G Y fa o pm cd doc dV kV ho hd hcd hD hmg hg args vals as hpre hlay hrd hwl hlo
 obtain rfl:dV=.none:=Dflts.none hD hdf
 obtain rfl:kV=.none:=Dflts.noKw hD
 obtain ⟨a,vs,ns,rfl,rfl,hobj,hints,hlen⟩:=u8x hn hpre hwl
 refine enter_call (codeAny_mono (call w s₀ s₁ mg mb fa o pm cd doc a vs ns G Y ho (fd_plain hd) hcd hmg hobj hints hlen hg) fun r s' hq=>?_)
 obtain ⟨rfl,h2,h3,h4⟩:=hq
 exact ⟨.inl ⟨.bool true,.bool true,[],rfl,fun _=>rfl,.bool true,u8K l _,fun _=>⟨List.Pairwise.nil,fun _ hm=>(nomatch hm)⟩⟩,h2,h3,h4⟩
section
variable {prog:Program}{w:World}{A:Around}{E:VP}{s:Shared}{K:Frag}
end
end Att
namespace L2
open PySem PySem.Spec PyProof.Rows
theorem u5a:∀ {vs:List Value}{ns:List Int},IntsAre vs ns→Vals (ns.map V.int) vs
 | _,_,.nil=>.nil
 | _,_,.cons n t h=>.cons ⟨t,rfl⟩ (u5a h)
def Only (H:Hp):Prop:=∀ b,H b=none∨∃ o xs,H b=some (.frz o (.lst xs))
theorem v0I {P:Program}{w:World}{K:W.Frag}{mg mb:MG}{CX:CXT}{k:Nat}{fa a:Addr}{fd:FuncData}{x:Str}{sp:Sp}{s₁:Shared}{vs:List Value}{ns:List Int}
  (KX:K.In s₁.heap) (hns:s₁.heap.Ns mainGlobals mg) (hb:s₁.heap.Ns builtinsNs mb) (hbb:∀ x:Str,x≠"__name__"→mb x=bootBuiltins x) (hlim:s₁.heap.NoLimit) (hg:s₁.gens=#[])
  (ha:s₁.heap.get? a=some { cls:=.type "list",data:=.seq vs.toArray }) (hi:IntsAre vs ns) (hl:ns.length≤sizeLine) (hr:Room k callerA)
  (F:∀ base:Heap,K.In base→base.Ns mainGlobals mg→FnOk P w K mg base CX k fa fd [x] sp) (hbind:∀ (s:Shared) (u:Value),BindsTo s fd ⟨[u],[]⟩ [(x,u)])
  (hsp:∀ H:Hp,Only H→SqL K H a (ns.map V.int)→sp [.ref a] H (fun v _=>v=.bl true) fun _ _ _=>False)
  (hCX:∀ H e s',CX [] H s₁ (fun _ _ _=>False) e s'→False) :
  codeAny (model P w) callerA (.call (.ref fa) ⟨[.ref a],[]⟩) (fun r s'=>r=.ok (.ret (.bool true))∧OldK s₁.heap s'.heap∧s'.os=s₁.os∧AllBare s'.gens) s₁:=by
 have rv:=u5a hi
 have lenV:=hi.length
 have core:∀ H:Hp,Only H→SqL K H a (ns.map V.int)→HOk P w H s₁.heap→(∀ b,H b≠none→b=a)→(H a≠none→K.lookup a=none) →
   codeAny (model P w) callerA (.call (.ref fa) ⟨[.ref a],[]⟩) (fun r s'=>r=.ok (.ret (.bool true))∧OldK s₁.heap s'.heap∧s'.os=s₁.os∧AllBare s'.gens) s₁:=by
  intro H hO hS hok hA hK
  have base_of:∀ {b:Addr}{o:Obj},s₁.heap.get? b=some o→H b=none→(hidT s₁.heap H).get? b=some o:=fun e n=>v0N e n
  have noA:∀ {b:Addr}{o:Obj}{es:Array DictEntry}{ep:Nat},s₁.heap.get? b=some o→o.data=.dict es ep→H b=none:=fun {b o es ep} e d=>by
   cases q:H b with
   | none=>rfl
   | some u =>
    have e':b=a:=hA b (by rw [q];simp)
    subst e'
    rw [ha] at e;cases e
    have d':Data.seq vs.toArray _=Data.dict es ep:=d
    cases d'
  have nsK:∀ {b:Addr}{m:MG},s₁.heap.Ns b m→(hidT s₁.heap H).Ns b m:=fun {b m} ⟨o,es,ep,e,d,r⟩=>⟨o,es,ep,base_of e (noA e d),d,r⟩
  have hKb:K.In (hidT s₁.heap H):=fun b o e=>base_of (KX b o e) (by
   cases q:H b with
   | none=>rfl
   | some u =>
    have e':b=a:=hA b (by rw [q];simp)
    subst e'
    rw [hK (by rw [q];simp)] at e;cases e)
  have hM:Mod K mg (hidT s₁.heap H):=⟨hKb,nsK hns,⟨mb,nsK hb,hbb⟩,let ⟨mc,h1,h2⟩:=hlim;⟨mc,nsK h1,h2⟩⟩
  have e0:Env0 P w K mg (hidT s₁.heap H) callerA [] s₁ H:=⟨rfl,hM,fun b o e=>of_hidT e,Nat.le_of_eq (u9j _ _),trivial,fun b hb=>absurd (show b∈([]:List Addr) from hb) (by simp),hok,.of_eq hg⟩
  refine codeAny_mono ((F _ hKb (nsK hns)).run callerA [] s₁ H ⟨[.ref a],[]⟩ [.ref a] [.ref a] _ _ hr e0 (hbind s₁ (.ref a)) (.cons rfl .nil) (hsp H hO hS)) fun r s' h=>?_
  cases r with
  | error e=>exact (hCX H e s' h).elim
  | ok fl =>
   cases fl with
   | next=>exact False.elim h
   | brk=>exact False.elim h
   | cont=>exact False.elim h
   | ret u =>
    obtain ⟨v,H',os,bare,un,hok',r',q⟩:=h
    have q':v=.bl true:=q
    subst q'
    obtain rfl:u=Value.bool true:=r'
    refine ⟨rfl,OldK.of_keep fun b o e=>?_,os,bare⟩
    cases q:H b with
    | none=>exact un.keep b o e q (by intro z;exact absurd (show b∈([]:List Addr) from z) (by simp)) (by simp)
    | some u =>
     rcases hO b with z | ⟨ob,xs,z⟩
     ·rw [q] at z;cases z
     ·have z2:=un.frzs b ob _ z
      obtain ⟨e1,_⟩:=hok b _ z
      obtain ⟨e2,_⟩:=hok' b _ z2
      rw [e] at e1;cases e1
      exact e2
 cases hk:K.lookup a with
 | some o =>
  have e:=KX a o hk
  rw [ha] at e
  cases e
  refine core (fun _=>none) (fun _=>.inl rfl) (.inr ⟨_,vs.toArray,_,hk,rfl,rfl,rfl,by rw [List.size_toArray,lenV];exact hl,by simpa using rv⟩) (fun b u z=>by have z':(none:Option HO)=some u:=z;cases z') (fun b z=>absurd rfl z) fun z=>absurd rfl z
 | none =>
  refine core (fun b=>if b=a then some (.frz { cls:=.type "list",data:=.seq vs.toArray } (.lst (ns.map V.int))) else none) (fun b=>?_) (.inl (.inr ⟨{ cls:=.type "list",data:=.seq vs.toArray },if_pos rfl⟩)) (fun b u z=>?_) (fun b z=>?_) fun _=>hk
  ·by_cases hb:b=a
   ·exact .inr ⟨_,_,if_pos hb⟩
   ·exact .inl (if_neg hb)
  ·by_cases hb:b=a
   ·have z':=(if_pos hb).symm.trans z
    cases z'
    subst hb
    exact ⟨ha,by rw [List.length_map];exact hl,vs,_,rv,ha⟩
   ·have z':=(if_neg hb).symm.trans z
    cases z'
  ·by_cases hb:b=a
   ·exact hb
   ·exact absurd (if_neg hb) z
theorem walk_of {l:W.OpenLaw}{n k:Nat}{q:Program}{loose:List Str}{XP:(Str→Option Value)→Heap→Prop}{YP:World→Heap→Prop}{d:DefRec}{K:Params→W.Frag}{CX:World→CXT}{sp:World→Sp}{x:Str}
  (hn:l.most=some n) (hn2:n≤sizeLine) (hdf:d.params.defaults=[]) (hr:Room k callerA)
  (hY:∀ (w:World) (h:Heap),YP w h→(K w.params).In h)
  (F:∀ (w:World) (mg:MG) (fa:Addr) (h:Heap),(K w.params).In h→h.Ns mainGlobals mg→mg d.name=some (.ref fa) →
   ∃ fd:FuncData,(∀ (s:Shared) (u:Value),BindsTo s fd ⟨[u],[]⟩ [(x,u)]) ∧
    ∀ base:Heap,(K w.params).In base→base.Ns mainGlobals mg→FnOk l.prog w (K w.params) mg base (CX w) k fa fd [x] (sp w))
  (hsp:∀ (w:World) (H:Hp) (a:Addr) (ns:List Int),ns.length≤n→Only H→SqL (K w.params) H a (ns.map V.int)→sp w [.ref a] H (fun v _=>v=.bl true) fun _ _ _=>False)
  (hCX:∀ (w:World) (H:Hp) (s:Shared) (e:Value) (s':Shared),CX w [] H s (fun _ _ _=>False) e s'→False) :
  W.WalkO q loose XP YP l.row.toRowW d [] (fun f vs=>PySem.call f vs):=by
 refine Att.attach_call hn hdf fun w s₀ s₁ mg mb fa o pm cd doc a vs ns G Y ho hd hcd hmg hobj hints hlen hg=>?_
 have KX:=hY w _ Y
 obtain ⟨fd,hb,hF⟩:=F w mg fa _ KX G.T.g hmg
 exact v0I KX G.T.g G.T.b G.T.builtins G.T.nolimit hg hobj hints (Nat.le_trans hlen hn2) hr hF hb (fun H hO hS=>hsp w H a ns hlen hO hS) fun H e s'=>hCX w H s₁ e s'
noncomputable def defArgs (s:Stmt):Arguments:=match s with
 | .FunctionDef _ a _ _ _ _ _ _ _ _=>a
 | _=>{ posonlyargs:=[],args:=[],vararg:=none,kwonlyargs:=[],kw_defaults:=[],kwarg:=none,defaults:=[] }
noncomputable def defBody (s:Stmt):List Stmt:=match s with
 | .FunctionDef _ _ b _ _ _ _ _ _ _=>b
 | _=>[]
noncomputable def defScope (s:Stmt):Scope:=match s with
 | .FunctionDef _ _ _ _ _ _ sc _ _ _=>sc
 | _=>{ kind:=.function,names:=[],isGenerator:=false,isCoroutine:=false }
abbrev CX0:CXT:=fun _ _ _ _ _ _=>False
abbrev E0:XK:=fun _ _ _=>False
theorem pass0 {X:Cx}:Passes CX0 X E0:=fun _ _ _ _ _ _ _ h=>h.elim
structure Fun (K:W.Frag) (x qual:Str) (st:Stmt) (f:Addr) (fd:FuncData):Prop where
 ex:∃ (oc:Value) (od:Option Addr) (kV doc pm:Value) (an:Option Addr) (cdv ct:Value) (osl:Array (Option Value)),
  fd=W.fnOf x qual (defArgs st) (defBody st) (defScope st) .none kV doc pm an cdv ct∧K.lookup f=some ⟨oc,od,.func fd,osl⟩∧W.codeIn K cdv qual=true
 kp:W.keepIn K (.ref f)=true
section
variable {P:Program}{w:World}{K:W.Frag}{mg:MG}{base:Heap}
theorem Fun.ok {x qual:Str}{st:Stmt}{f:Addr}{fd:FuncData}{N ps:List Str}{k:Nat}{sp:Sp} (F:Fun K x qual st f fd) (S:FnScope N ps (defScope st)) (len:∀ vs H Q E,sp vs H Q E→vs.length=ps.length)
  (hbody:∀ (cdv:Value) (A:Around) (outer:List Env) (s:Shared) (H:Hp) (vs:List V) (Q:VK) (E:XK),Room k (A.deeper (envOfC qual (defScope st) s.heap.objs.size f cdv))→sp vs H Q E →
   ∃ t,PSs (cxOf CX0 P w K mg base N qual (defScope st) f cdv A outer s H E).nox (defBody st) t∧t { nx:=fun _ H'=>Q .non H',rt:=Q } (start N vs) H):FnOk P w K mg base CX0 (k+1) f fd ps sp:=by
 obtain ⟨oc,od,kV,doc,pm,an,cdv,ct,osl,rfl,lk,hcd⟩:=F.ex
 refine fn_of lk hcd S len fun A outer s H vs Q E hr hsp=>?_
 obtain ⟨t,h,q⟩:=hbody cdv A outer s H vs Q E hr hsp
 exact ⟨t,h.nox,q⟩
theorem Fun.binds {x qual:Str}{st:Stmt}{f:Addr}{fd:FuncData}{ps:List Str} (F:Fun K x qual st f fd)
  (h:∀ (kV doc pm:Value) (an:Option Addr) (cdv ct:Value) (us:List Value),us.length=ps.length→bindArgs (W.fnOf x qual (defArgs st) (defBody st) (defScope st) .none kV doc pm an cdv ct) ⟨us,[]⟩=pure (ps.zip us)):Binds K fd ps []:=by
 obtain ⟨oc,od,kV,doc,pm,an,cdv,ct,osl,rfl,lk,hcd⟩:=F.ex
 exact .all (h kV doc pm an cdv ct)
theorem u7s {x qual:Str}{st:Stmt}{f:Addr}{oc:Value}{od an:Option Addr}{osl:Array (Option Value)}{kV doc pm cdv ct:Value} (l:K.lookup f=some ⟨oc,od,.func (W.fnOf x qual (defArgs st) (defBody st) (defScope st) .none kV doc pm an cdv ct),osl⟩)
  (c:W.codeIn K cdv qual=true) (k:W.keepIn K (.ref f)=true):Fun K x qual st f (W.fnOf x qual (defArgs st) (defBody st) (defScope st) .none kV doc pm an cdv ct):=⟨⟨oc,od,kV,doc,pm,an,cdv,ct,osl,rfl,l,c⟩,k⟩
end
section
variable {X:Cx}
end
def Same (H H':Hp):Prop:=∀ b o,H b=some o→H' b=some o
theorem Same.refl (H:Hp):Same H H:=fun _ _ h=>h
theorem Same.trans {H H1 H2:Hp} (a:Same H H1) (b:Same H1 H2):Same H H2:=fun c o h=>b c o (a c o h)
theorem Same.free {H H':Hp} (e:Same H H') {l:Addr} (h:H' l=Option.none):H l=Option.none:=by
 cases q:H l with
 | none=>rfl
 | some o =>
  rw [e l o q] at h
  cases h
theorem Same.seq {K:W.Frag}{H H':Hp}{a:Addr}{xs:List V} (e:Same H H') (h:SqL K H a xs):SqL K H' a xs:=by
 rcases h with (h | ⟨o,h⟩) | h
 ·exact .inl (.inl (e _ _ h))
 ·exact .inl (.inr ⟨o,e _ _ h⟩)
 ·exact .inr h
section
variable {P:Program}{w:World}{H H':Hp}{h h1 h2:Heap}{a C:Addr}{o:HO}{fs ex:List Addr}
theorem HOk.track (x:HOk P w H h) (hn:H a=none) (new:ObjOk P w (upd H a o) h a o):HOk P w (upd H a o) h:=fun b u e=>by
 by_cases hb:b=a
 ·subst hb;rw [u0g] at e;cases e;exact new
 ·rw [u0j hb] at e
  exact (x b u e).stay (fun _ _ _ q=>q) (fun c q=>by rw [u0j (u0l q hn)];exact q) (fun c xs q=>by rw [u0j (u0l q hn)];exact q)
theorem Un.track (u:Un fs ex H H' h h1) (hn:H' a=none) (ha:h.get? a=none):Un fs ex H (upd H' a o) h h1 where
 keep:=u.keep
 slot:=u.slot
 free:=fun b ob q n hx=>by
  rw [u0j (by rintro rfl;rw [ha] at q;cases q)]
  exact u.free b ob q n hx
 there:=u.there
 tups:=fun b xs q=>by have:=u.tups b xs q;rw [u0j (u0l this hn)];exact this
 frzs:=fun b ob xs q=>by have:=u.frzs b ob xs q;rw [u0j (u0l this hn)];exact this
 tbls:=fun b ps q=>by
  obtain ⟨m,this⟩:=u.tbls b ps q
  exact ⟨m,by rw [u0j (u0l this hn)];exact this⟩
end
theorem u2W (env:Env) (f:Str×NameKind→List (Str×Addr)→Sem (ForInStep (List (Str×Addr))))
  (h1:∀ n cs a,env.cells.lookup n=some a→f (n,.free) cs=pure (.yield ((n,a)::cs))) (h2:∀ n k cs,k≠.free→f (n,k) cs=pure (.yield cs)) :
  ∀ (l:List (Str×NameKind)) (cs:List (Str×Addr)),(∀ x∈l,x.2=.free→∃ c,env.cells.lookup x.1=some c)→(∀ x c,cs.lookup x=some c→env.cells.lookup x=some c) →
   ∃ cl,forIn l cs f=pure cl∧(∀ x c,cl.lookup x=some c→env.cells.lookup x=some c)∧(∀ x∈l,x.2=.free→∃ c,cl.lookup x.1=some c)∧∀ x c,cs.lookup x=some c→∃ c',cl.lookup x=some c'
 | [],cs,_,hc=>⟨cs,rfl,hc,(fun _ z=>(nomatch z)),fun x c q=>⟨c,q⟩⟩
 | (n,k)::l,cs,hl,hc=>by
  by_cases hk:k=.free
  ·subst hk
   obtain ⟨a,ha⟩:=hl (n,.free) List.mem_cons_self rfl
   have hc':∀ x c,((n,a)::cs).lookup x=some c→env.cells.lookup x=some c:=fun x c q=>by
    rw [List.lookup_cons] at q
    cases e:x==n with
    | true=>rw [e] at q;cases q;rw [eq_of_beq e];exact ha
    | false=>rw [e] at q;exact hc x c q
   obtain ⟨cl,e,p1,p2,p3⟩:=u2W env f h1 h2 l ((n,a)::cs) (fun x hx=>hl x (List.mem_cons_of_mem _ hx)) hc'
   refine ⟨cl,?_,p1,fun x hx hf=>?_,fun x c q=>?_⟩
   ·rw [List.forIn_cons,h1 n cs a ha,pure_bind];exact e
   ·rcases List.mem_cons.mp hx with rfl | hx
    ·exact p3 n a (by rw [List.lookup_cons];simp)
    ·exact p2 x hx hf
   ·by_cases e:(x==n)=true
    ·exact p3 x a (by rw [List.lookup_cons,e])
    ·have e':(x==n)=false:=by simpa using e
     exact p3 x c (by rw [List.lookup_cons,e'];exact q)
  ·obtain ⟨cl,e,p1,p2,p3⟩:=u2W env f h1 h2 l cs (fun x hx=>hl x (List.mem_cons_of_mem _ hx)) hc
   refine ⟨cl,?_,p1,fun x hx hf=>?_,p3⟩
   ·rw [List.forIn_cons,h2 n k cs hk,pure_bind];exact e
   ·rcases List.mem_cons.mp hx with rfl | hx
    ·exact absurd hf hk
    ·exact p2 x hx hf
theorem u1E {scope:Scope}{env:Env} (h:∀ x∈scope.names,x.2=.free→∃ c,env.cells.lookup x.1=some c) :
  ∃ cl,closureFor scope env=pure cl∧(∀ x c,cl.lookup x=some c→env.cells.lookup x=some c)∧∀ x∈scope.names,x.2=.free→∃ c,cl.lookup x.1=some c:=by
 unfold closureFor
 obtain ⟨cl,e,p1,p2,_⟩:=u2W env (fun (x:Str×NameKind) (r:List (Str×Addr))=>match x with
   | (name,kind)=>if (kind==NameKind.free)=true then (do let a ← cellOf env name;pure (ForInStep.yield ((name,a)::r))) else pure (ForInStep.yield r))
  (fun n cs a ha=>by simp [cellOf,ha]) (fun n k cs hk=>by
   have:(k==NameKind.free)=false:=by simpa using hk
   simp [this]) scope.names [] h (fun x c q=>by simp at q)
 refine ⟨cl,?_,p1,p2⟩
 first
  | (rw [e];rfl)
  | (simp only [pure_bind,bind_pure] at e ⊢;exact e)
  | (show (forIn scope.names [] _ >>= _)=_;rw [e];rfl)
theorem u1l (env:Env):∀ (names:List (Str×NameKind)) (x:Str),
  (names.map fun (n,k)=>if (k==NameKind.free&&env.scope.kind==.function&&env.kindOf n==some .cell) then (n,NameKind.cell) else (n,k)).lookup x =
   (names.lookup x).map fun k=>if (k==NameKind.free&&env.scope.kind==.function&&env.kindOf x==some .cell) then NameKind.cell else k
 | [],x=>rfl
 | (n,k)::r,x=>by
  have ih:=u1l env r x
  show List.lookup x ((if (k==NameKind.free&&env.scope.kind==.function&&env.kindOf n==some .cell)=true then (n,NameKind.cell) else (n,k))::_)=_
  cases hx:x==n with
  | true =>
   have e:=eq_of_beq hx
   subst e
   by_cases hc:(k==NameKind.free&&env.scope.kind==.function&&env.kindOf x==some .cell)=true
   ·rw [if_pos hc];simp only [List.lookup_cons,hx,Option.map_some,if_pos hc]
   ·rw [if_neg hc];simp only [List.lookup_cons,hx,Option.map_some,if_neg hc]
  | false =>
   by_cases hc:(k==NameKind.free&&env.scope.kind==.function&&env.kindOf n==some .cell)=true
   ·rw [if_pos hc];simp only [List.lookup_cons,hx];exact ih
   ·rw [if_neg hc];simp only [List.lookup_cons,hx];exact ih
abbrev cxC (X:Cx) (own:List Str) (outs:List Nat) (scope:Scope) (cl:List (Str×Addr)) (C:Addr) (s:Shared) (H:Hp) (fp:List Addr):Cx where
 prog:=X.prog
 w:=X.w
 K:=X.K
 mg:=X.mg
 base:=X.base
 A:=X.A
 N:=own++outs.map fun j=>X.N.getD j Str.empty
 s₀:=s
 H₀:=H
 env:=compEnvC scope cl C X.env
 outer:=X.stack
 stack:=X.stack
 ex:=fp
 fn:=fun _=>false
 calm:=X.calm
 pn:=[]
 xe:=fun _ _=>False
noncomputable def stC (k:Nat) (outs:List Nat) (σ:St):St:=List.replicate k none++outs.map fun j=>(σ[j]?).join
structure CompOk (sc:Scope) (N:List Str) (own:List Str) (outs:List Nat) (scope:Scope):Prop where
 kind:scope.kind=.function
 cell:∀ y∈scope.names,y.2≠.cell
 loc:∀ y∈scope.names,y.2=.local→scope.names.lookup y.1=some .local
 fre:∀ y∈scope.names,y.2=.free→sc.names.lookup y.1=some .cell∨sc.names.lookup y.1=some .free
 out:∀ j∈outs,∃ y,N[j]?=some y∧scope.names.lookup y=some .free
 ownN:∀ y∈own,scope.names.lookup y=some .local
noncomputable def compB (sc:Scope) (N:List Str) (own:List Str) (outs:List Nat) (scope:Scope):Bool :=
 decide (scope.kind=.function)&&scope.names.all (fun y=>y.2 != .cell)&&scope.names.all (fun y=>y.2 != .local||scope.names.lookup y.1==some .local) &&
 scope.names.all (fun y=>y.2 != .free||sc.names.lookup y.1==some .cell||sc.names.lookup y.1==some .free) &&
 outs.all (fun j=>match N[j]? with | some y=>scope.names.lookup y==some .free | none=>false)&&own.all (fun y=>scope.names.lookup y==some .local)
theorem u1q {sc:Scope}{N own:List Str}{outs:List Nat}{scope:Scope} (h:compB sc N own outs scope=true):CompOk sc N own outs scope:=by
 unfold compB at h
 simp only [Bool.and_eq_true,List.all_eq_true,decide_eq_true_eq] at h
 obtain ⟨⟨⟨⟨⟨h1,h2⟩,h3⟩,h4⟩,h5⟩,h6⟩:=h
 refine ⟨h1,fun y hy=>?_,fun y hy hl=>?_,fun y hy hl=>?_,fun j hj=>?_,fun y hy=>?_⟩
 ·simpa using h2 y hy
 ·have:=h3 y hy
  rw [hl] at this
  simpa using this
 ·have:=h4 y hy
  rw [hl] at this
  simpa using this
 ·have:=h5 j hj
  cases e:N[j]? with
  | none=>rw [e] at this;cases this
  | some y=>rw [e] at this;exact ⟨y,rfl,by simpa using this⟩
 ·simpa using h6 y hy
def PIf (X:Cx) (ifs:List Expr) (t:TT):Prop :=
 ∀ (pins:LO) (s:Shared) (σ:St) (H:Hp) (Q:Bool→Hp→Prop),Inv X pins σ H s→t σ H Q →
  wpAny (model X.prog X.w) X.A (forIn ifs true fun c r=>if r=true then do let ok ← isTrue c X.env (eval c X.env);pure (ForInStep.yield ok) else pure (ForInStep.yield r)) (TP X pins σ Q) X.xe s
def tYes:TT:=fun _ H Q=>Q true H
theorem pif_nil {X:Cx}:PIf X [] tYes:=fun pins s σ H Q I h=>wpAny_pure ⟨H,I,h⟩
theorem pif_one {X:Cx}{c:Expr}{t:TT} (hc:PT X c t):PIf X [c] t:=fun pins s σ H Q I h=>by
 rw [List.forIn_cons]
 simp only [if_true,List.forIn_nil]
 refine wpAny_bind (wpAny_bind (thn (hc pins s σ H Q I h) fun b s1 q=>wpAny_pure (wpAny_pure q)))
def CompRd (k:Nat) (outs:List Nat) (σ:St) (g:TG) (ti:TT) (te:TE) (J:It) (H1:Hp) (Q:VK):Prop:=∃ W:Nat→Nat→List V→Hp→Prop,(∃ m,W 0 m [] H1)∧∀ i m ys H,W i m ys H→ys.length≤sizeLine ∧
 ((J.stop i H∧∀ p,H p=none→Q (.ref p) (upd H p (.lst ys))) ∨
  (J.go i H∧∃ N:List V→Hp→Prop,(∀ ys' H',N ys' H'→∃ m',m'<m∧W (i+1) m' ys' H')∧∀ x H',J.yld i H x H'→g x (stC k outs σ) H' fun σ2 H2=>σ2.drop k=(outs.map fun j=>(σ[j]?).join)∧ti σ2 H2 fun b H3=>if b=true then te σ2 H3 fun y H4=>N (ys++[y]) H4 else N ys H3))
def tComp (k:Nat) (outs:List Nat) (wi:TI) (g:TG) (ti:TT) (te:TE):TE:=fun σ H Q=>wi σ H fun J H1=>CompRd k outs σ g ti te J H1 Q
theorem u4e {prog:Program}{w:World}{A:Around}{R:Result→Shared→Prop}{s:Shared}{elt target iter:Expr}{ifs:List Expr}{scope:Scope}{pos:Pos}{it acc:Value}{env:Env} (I:Nat→Shared→Prop)
  (turn:∀ n s,I n s→wpAny (model prog w) A (pyNext it) (fun r s₁=>match r with
   | none=>R (.ok .next) s₁
   | some v=>wpAny (model prog w) A (letOwnedTupleGo target it v) (fun _ s₁'=>wpAny (model prog w) A (assign target env v) (fun _ s₂ =>
     wpAny (model prog w) A (forIn ifs true fun c r=>if r=true then do let ok ← isTrue c env (eval c env);pure (ForInStep.yield ok) else pure (ForInStep.yield r)) (fun ok s₃ =>
      if ok=true then wpAny (model prog w) A (eval elt env) (fun x s₄ =>
       wpAny (model prog w) A (call (.builtin "list.append") [acc,x]) (fun _ s₅=>∃ m,m<n∧I m s₅) (fun _ _=>False) s₄) (fun _ _=>False) s₃
      else ∃ m,m<n∧I m s₃) (fun _ _=>False) s₂) (fun _ _=>False) s₁') (fun _ _=>False) s₁) (fun _ _=>False) s)
  (n:Nat) (h:I n s) :
  codeAny (model prog w) A (.compLoop (.ListComp elt [⟨target,iter,ifs,0⟩] scope pos) 0 it acc env) R s:=by
 refine codeAny_loop rfl I (fun n s hI=>?_) n h
 show wpAny _ A ((compTurn (.ListComp elt [⟨target,iter,ifs,0⟩] scope pos) 0 it acc env).onRaise (fun x=>do noteFrame x env;theTreesLotGoes x)) _ _ s
 refine wpAny_noted ?_
 rw [compTurn_list]
 refine wpAny_bind (wpAny_standAt (wpAny_bind (wpAny_mono (turn n s hI) (fun r s₁ h₁=>?_) fun _ _ h'=>h'.elim)))
 cases r with
 | none=>exact wpAny_pure h₁
 | some v =>
  refine wpAny_bind (wpAny_mono h₁ (fun _ s₁' h₁'=>?_) fun _ _ h'=>h'.elim)
  refine wpAny_bind (wpAny_mono h₁' (fun _ s₂ h₂=>wpAny_bind (wpAny_mono h₂ (fun ok s₃ h₃=>?_) fun _ _ h'=>h'.elim)) fun _ _ h'=>h'.elim)
  cases ok with
  | false=>exact wpAny_pure ⟨rfl,h₃⟩
  | true =>
   exact wpAny_bind (wpAny_bind (wpAny_mono h₃ (fun x s₄ h₄=>wpAny_bind (wpAny_mono h₄ (fun _ s₅ h₅=>wpAny_pure (wpAny_pure ⟨rfl,h₅⟩)) fun _ _ h'=>h'.elim)) fun _ _ h'=>h'.elim))
section
variable {X:Cx}{pins:LO}{σ:St}{H:Hp}{s:Shared}{own:List Str}{outs:List Nat}{scope:Scope}{cl:List (Str×Addr)}{C:Addr}{fp:List Addr}
theorem u5E {sc:Scope} (ok:CompOk X.env.scope X.N own outs scope) {x:Str} (h:(compEnvC scope cl C X.env).kindOf x=some .cell∨(compEnvC scope cl C X.env).kindOf x=some .free):(x,NameKind.free)∈scope.names:=by
 have e:(compEnvC scope cl C X.env).kindOf x=(scope.names.lookup x).map fun k=>if (k==NameKind.free&&X.env.scope.kind==.function&&X.env.kindOf x==some .cell) then NameKind.cell else k:=u1l X.env scope.names x
 rw [e] at h
 cases q:scope.names.lookup x with
 | none=>rw [q] at h;simp at h
 | some k =>
  have hm:=PySem.mem_of_lookup q
  by_cases hk:k=.free
  ·subst hk;exact hm
  ·rw [q] at h
   have hkf:(k==NameKind.free)=false:=by simpa using hk
   simp only [Option.map_some,hkf,Bool.false_and,Bool.false_eq_true,if_false,Option.some.injEq] at h
   rcases h with h | h
   ·exact absurd h (ok.cell _ hm)
   ·exact absurd h hk
theorem cxC_ok (I:Inv X pins σ H s) (ok:CompOk X.env.scope X.N own outs scope) (hcl:∀ x c,cl.lookup x=some c→X.env.cells.lookup x=some c) (hcf:∀ x∈scope.names,x.2=.free→∃ c,cl.lookup x.1=some c)
  (hC:s.heap.objs.size≤C) (hfp:∀ b∈fp,FpOk X pins H b) (hfs:∀ b∈fp,b<s.heap.objs.size):(cxC X own outs scope cl C s H fp).Ok where
 mod:=I.ok.mod
 kind:=ok.kind
 glob:=I.ok.glob
 blt:=I.ok.blt
 above:=hC
 inj:=fun x y c h1 h2=>I.ok.inj x y c (hcl x c h1) (hcl y c h2)
 has:=fun x h=>by
  have hm:=u5E (sc:=scope) ok h
  exact hcf _ hm rfl
 cab:=fun x c h _=>by cases h
 hd:=I.ok.hd
 frames:=I.ok.frames
 stk:=.inl rfl
 exf:=fun b hb=>⟨Nat.ne_of_lt (Nat.lt_of_lt_of_le (hfs b hb) hC),fun x c e=>(hfp b hb).2.2.2.2.1 x c (hcl x c e)⟩
 bs:=I.bs
 bsz:=Nat.le_trans I.ok.bsz I.sz
 noex:=fun b o e hb=>by
  rcases (hfp b hb).2.2.2.1 with z | z
  ·exact I.ok.noex b o e z
  ·have h1:b<X.base.objs.size:=Heap.lt_size e
   exact absurd (Nat.lt_of_lt_of_le h1 (Nat.le_trans I.ok.bsz z)) (Nat.lt_irrefl _)
 exfs:=fun b hb z=>by
  rcases List.mem_cons.mp (I.stkSub b z) with q | q
  ·exact (hfp b hb).2.1 q
  ·exact (hfp b hb).2.2.1 q
 funs:=I.stack
 frf:=I.stkFree
theorem getD_eq {N:List Str}{j:Nat}{y:Str} (h:N[j]?=some y):N.getD j Str.empty=y:=by
 rw [List.getD_eq_getElem?_getD,h];rfl
theorem v0M (I:Inv X pins σ H s) (ok:CompOk X.env.scope X.N own outs scope) (hcl:∀ x c,cl.lookup x=some c→X.env.cells.lookup x=some c) (hcf:∀ x∈scope.names,x.2=.free→∃ c,cl.lookup x.1=some c)
  (hC:s.heap.objs.size≤C) (hfp:∀ b∈fp,FpOk X pins H b) (hfs:∀ b∈fp,b<s.heap.objs.size) {h':Heap}{t':Nat}{m:MG} (hk:∀ b o,s.heap.get? b=some o→h'.get? b=some o) (hn:h'.Ns C m) :
  Inv (cxC X own outs scope cl C s H fp) [] (stC own.length outs σ) H { s with heap:=h',toks:=t' }:=by
 refine ⟨cxC_ok I ok hcl hcf hC hfp hfs,rfl,I.bare,Un.kept hk,⟨m,hn,fun i x v e1 e2 e3=>?_⟩,fun x c e=>?_,I.hok.fresh hC,fun x c e=>I.freeC x c (hcl x c e),fun p hp=>(nomatch hp),I.hok.kept hk,?_⟩
 ·have hi:own.length≤i:=by
   by_cases hi:own.length≤i
   ·exact hi
   ·exfalso
    unfold stC at e2
    rw [List.getElem?_append_left (by simp;omega),List.getElem?_replicate] at e2
    split at e2 <;> cases e2
  unfold stC at e2
  rw [List.getElem?_append_right (by simp;omega),List.length_replicate,List.getElem?_map] at e2
  have e1':(own++outs.map fun j=>X.N.getD j Str.empty)[i]?=some x:=e1
  rw [List.getElem?_append_right hi,List.getElem?_map] at e1'
  cases q:outs[i - own.length]? with
  | none=>rw [q] at e2;cases e2
  | some j =>
   rw [q] at e1' e2
   obtain ⟨y,hy,hyf⟩:=ok.out j (List.mem_of_getElem? q)
   have ex:y=x:=by
    rw [← getD_eq hy]
    exact Option.some.inj e1'
   subst ex
   have ev:σ[j]?=some (some v):=by
    have e2':(σ[j]?).join=some v:=Option.some.inj e2
    cases z:σ[j]? with
    | none=>rw [z] at e2';cases e2'
    | some o=>rw [z] at e2';cases o with
     | none=>cases e2'
     | some v'=>cases e2';rfl
   obtain ⟨m0,hn0,hl⟩:=I.loc
   have hkd:=ok.fre (y,.free) (PySem.mem_of_lookup hyf) rfl
   obtain ⟨u,r,l⟩:=hl j y v hy ev (hkd.elim (fun z=>.inr (.inl z)) fun z=>.inr (.inr z))
   refine ⟨u,r,?_⟩
   rcases l with ⟨k,_⟩ | ⟨k,c,ec,hcell⟩
   ·exfalso
    have k':X.env.scope.names.lookup y=some .local:=k
    rcases hkd with z | z
    ·have z':X.env.scope.names.lookup y=some .cell:=z
     rw [k'] at z';cases z'
    ·have z':X.env.scope.names.lookup y=some .free:=z
     rw [k'] at z';cases z'
   ·refine .inr ⟨?_,?_⟩
    ·have e:(compEnvC scope cl C X.env).kindOf y=(scope.names.lookup y).map fun k=>if (k==NameKind.free&&X.env.scope.kind==.function&&X.env.kindOf y==some .cell) then NameKind.cell else k:=u1l X.env scope.names y
     show (compEnvC scope cl C X.env).kindOf y=_∨(compEnvC scope cl C X.env).kindOf y=_
     rw [e,hyf,Option.map_some]
     split
     ·exact .inl rfl
     ·exact .inr rfl
    ·obtain ⟨c',ec'⟩:=hcf (y,.free) (PySem.mem_of_lookup hyf) rfl
     refine ⟨c',ec',?_⟩
     have:c'=c:=Option.some.inj ((hcl y c' ec').symm.trans ec)
     subst this
     obtain ⟨o,ho,hd⟩:=hcell
     exact ⟨o,hk _ o ho,hd⟩
 ·obtain ⟨v,o,ho,hd⟩:=I.cell x c (hcl x c e)
  exact ⟨v,o,hk c o ho,hd⟩
 ·unfold stC
  show _=(own++outs.map fun j=>X.N.getD j Str.empty).length
  simp
end
section
variable {X:Cx}{tg iter elt:Expr}{ifs:List Expr}{own:List Str}{outs:List Nat}{scope:Scope}{wi:TI}{g:TG}{ti:TT}{te:TE}{pos:Pos}
theorem u5P {pins:LO}{σ:St}{H:Hp}{s:Shared}{cl:List (Str×Addr)}{it:Addr}{fp:List Addr}{tn:Nat→Heap→Prop}{J:It}{E:VP}{Q:VK} (hc:X.calm=true) (ok:CompOk X.env.scope X.N own outs scope)
  (hcl:∀ x c,cl.lookup x=some c→X.env.cells.lookup x=some c) (hcf:∀ x∈scope.names,x.2=.free→∃ c,cl.lookup x.1=some c)
  (hg:∀ {C fp},PG (cxC X own outs scope cl C s H fp) tg g) (hf:∀ {C fp},PIf (cxC X own outs scope cl C s H fp) ifs ti) (he:∀ {C fp},PE (cxC X own outs scope cl C s H fp) elt te)
  (I:Inv X pins σ H s) (T:Turn X.prog X.w X.K tg J fp it tn) (st:tn 0 s.heap) (f2:∀ b∈fp,FpOk X pins H b)
  (hW:CompRd own.length outs σ g ti te J H Q)
  {RR:Value→Addr→Result→Shared→Prop}
  (hRR:∀ D C Hf s' m,s'.heap.Ns C m→Inv X pins σ Hf s'→Hf C=none→C≠X.env.locals→X.s₀.heap.objs.size≤C→(∀ x c,X.env.cells.lookup x=some c→c≠C)→(∀ p∈X.pn++pins,p.1≠C)→Q (.ref D) Hf→RR (.ref D) C (.ok .next) s') :
  wpAny (model X.prog X.w) X.A (newList []) (fun acc s₃=>wpAny (model X.prog X.w) X.A (newFunctionEnv scope X.env.globals cl [] X.env.qual none .none (some X.env)) (fun cenv s₄ =>
   codeAny (model X.prog X.w) X.A (.compStart (.ListComp elt [⟨tg,iter,ifs,0⟩] scope pos) 0 (.ref it) acc { cenv with scope:=relabel scope X.env }) (RR acc cenv.locals) s₄) E s₃) E s:=by
 obtain ⟨W,⟨m0,w0⟩,turn⟩:=hW
 have hfs:∀ b∈fp,@LT.lt Nat _ b s.heap.objs.size:=fun b hb=>let ⟨o,e,_⟩:=T.obj _ _ st b hb;Heap.lt_size e
 refine wpAny_newObj_type (wpAny_newFunctionEnv ok.cell (by intro y hy;simp at hy) (fun h₁ hns₁ hsb₁=>?_) ok.kind)
 dsimp only at hns₁ hsb₁ ⊢
 generalize hH2:s.heap.push { cls:=.type "list",dict:=none,data:=.seq ([]:List Value).toArray }=H2 at hns₁ hsb₁ ⊢
 have hC:H2.objs.size=s.heap.objs.size+1:=by rw [← hH2,Heap.size_push]
 generalize eC:H2.objs.size=C at hns₁ hsb₁ hC ⊢
 have hDC:s.heap.objs.size≠C:=by omega
 have below:∀ b,b<s.heap.objs.size→b≠C∧b≠s.heap.objs.size:=fun b hb=>⟨by omega,by omega⟩
 have old:∀ b o,s.heap.get? b=some o→h₁.get? b=some o:=fun b o e=>hsb₁.extBut b o (below b (Heap.lt_size e)).1 (Heap.get?_push_of_some _ (hH2 ▸ Heap.get?_push_of_some _ e))
 have hacc:h₁.PlainList s.heap.objs.size #[]:=⟨_,hsb₁.extBut _ _ hDC (Heap.get?_push_of_some _ (hH2 ▸ Heap.get?_push_size _ rfl))⟩
 have hst₁:tn 0 h₁:=T.keep _ _ _ st fun b _ o e=>old b o e
 have fresh:∀ a,s.heap.objs.size≤a→s.heap.get? a=none:=fun a ha=>by
  cases e:s.heap.get? a with
  | none=>rfl
  | some o'=>exact absurd (Heap.lt_size e) (Nat.not_lt.mpr ha)
 obtain ⟨D,hD⟩:∃ D:Nat,s.heap.objs.size=D:=⟨_,rfl⟩
 rw [hD] at hDC hacc ⊢
 have hDs:s.heap.get? D=none:=fresh D (Nat.le_of_eq hD)
 have hCs:s.heap.get? C=none:=fresh C (by omega)
 have hDfp:D∉fp:=fun z=>by have:=hfs D z;omega
 have hI0:∀ t',Inv (cxC X own outs scope cl C s H fp) [] (stC own.length outs σ) H { s with heap:=h₁,toks:=t' }:=fun t'=>v0M I ok hcl hcf (by omega) f2 hfs old hns₁
 have cellNe:∀ x c,cl.lookup x=some c→@LT.lt Nat _ c s.heap.objs.size:=fun x c e=>let ⟨v,q⟩:=I.cell x c (hcl x c e);q.lt
 have stkLt:∀ b∈frs X.stack,@LT.lt Nat _ b s.heap.objs.size:=fun b hb=>by
  obtain ⟨_,o,ho,_⟩:=I.stack.mem hb
  exact Heap.lt_size ho
 have stat:∀ {H':Hp}{oD:Obj},(∀ b∈fp,H' b=none)→∀ b∈fp,FpOk (cxC X own outs scope cl C s H fp) [(D,oD)] H' b:=fun {H' oD} hn b hb=>by
  refine ⟨hn b hb,(below b (hfs b hb)).1,fun z=>?_,.inl hb,fun x c e z=>(f2 b hb).2.2.2.2.1 x c (hcl x c e) z,fun p hp z=>?_⟩
  ·rcases List.mem_cons.mp (I.stkSub b z) with q | q
   ·exact (f2 b hb).2.1 q
   ·exact (f2 b hb).2.2.1 q
  ·have:p=(D,oD):=by simpa using hp
   subst this
   exact hDfp (show D∈fp from (show D=b from z) ▸ hb)
 have loop:∀ s₃:Shared,s₃={ s with heap:=h₁,toks:=s.toks+([]:List (Str×Value)).length } →
   codeAny (model X.prog X.w) X.A (.compLoop (.ListComp elt [⟨tg,iter,ifs,0⟩] scope pos) 0 (.ref it) (.ref D) (compEnvC scope cl C X.env)) (RR (.ref D) C) s₃:=by
  rintro s₃ rfl
  refine u4e (fun n s'=>∃ i ys us nn H',Inv (cxC X own outs scope cl C s H fp) [(D,{ cls:=.type "list",data:=.seq us.toArray nn })] (stC own.length outs σ) H' s'∧tn i s'.heap∧(∀ b∈fp,H' b=none)∧Vals ys us∧W i n ys H') ?_ m0 ?_
  ·rintro n s3 ⟨i,ys,us,nn,H3,I3,st3,fr3,hv,w3⟩
   have hD3:=I3.pin (D,_) (List.mem_append_right _ List.mem_cons_self)
   obtain ⟨hz,ht⟩:=turn i n ys H3 w3
   rcases ht with ⟨stop,qn⟩ | ⟨go,NN,hNN,step⟩
   ·refine thn (T.done (cxC X own outs scope cl C s H fp) rfl rfl rfl hc i _ s3 _ H3 _ I3 (stat fr3) st3 stop) fun r s4 ⟨hr,I4⟩=>?_
    subst hr
    have hD4:=I4.pin (D,_) (List.mem_append_right _ List.mem_cons_self)
    obtain ⟨m4,hn4,_⟩:=I4.loc
    have hC4:H3 C=none:=I4.free
    have hok:HOk X.prog X.w (upd H3 D (.lst ys)) s4.heap:=I4.hok.track hD4.2.1 ⟨hz,us,nn,hv,hD4.1⟩
    have hun:Un (frs X.stack) fp H (upd H3 D (.lst ys)) s.heap s4.heap:=Un.track I4.base hD4.2.1 hDs
    have I5:Inv X pins σ (upd H3 D (.lst ys)) s4:=I.call' I4.os hun hok I4.bare fun b hb=>⟨(f2 b hb).2.2.2.1,(f2 b hb).2.1,(f2 b hb).2.2.2.2.1,(f2 b hb).2.2.2.2.2⟩
    refine hRR D C _ s4 m4 hn4 I5 (by rw [u0j hDC.symm];exact hC4) ?_ ?_ ?_ ?_ (qn D hD4.2.1)
    ·intro z
     have h1:@LT.lt Nat _ X.env.locals s.heap.objs.size:=I.lt
     have z':@Eq Nat C X.env.locals:=z
     omega
    ·have h1:=I.sz
     exact Nat.le_trans h1 (by omega)
    ·intro x c e z
     obtain ⟨v,q⟩:=I.cell x c e
     have h1:@LT.lt Nat _ c s.heap.objs.size:=q.lt
     have z':@Eq Nat c C:=z
     omega
    ·intro p hp z
     have h1:@LT.lt Nat _ p.1 s.heap.objs.size:=Heap.lt_size (I.pin p hp).1
     have z':@Eq Nat p.1 C:=z
     omega
   ·refine thn (T.item (cxC X own outs scope cl C s H fp) rfl rfl rfl hc i _ s3 _ H3 (fun _ _=>False) I3 (stat fr3) st3 go) fun r s4 ⟨u,hr,h4⟩=>?_
    subst hr
    refine thn h4 fun _ s5 ⟨x,H5,I5,r5,y5,st5,fr5⟩=>?_
    have I5':=I5.pinned (stat fr5) (T.obj _ _ st5)
    refine thn (hg _ s5 _ H5 x u _ I5' r5 (step x H5 y5)) fun _ s6 ⟨σ6,H6,I6,d6,q6⟩=>?_
    have weak:∀ {H7:Hp}{s7:Shared}{us':List Value}{nn':Nat},Inv (cxC X own outs scope cl C s H fp) [(D,{ cls:=.type "list",data:=.seq us'.toArray nn' })] σ6 H7 s7→Inv (cxC X own outs scope cl C s H fp) [(D,{ cls:=.type "list",data:=.seq us'.toArray nn' })] (stC own.length outs σ) H7 s7:=fun {H7 s7 us' nn'} I7=>by
     refine I7.weak (by have e:=I7.len;have e2:(cxC X own outs scope cl C s H fp).N.length=own.length+outs.length:=by simp
                        rw [e,e2];unfold stC;simp) fun j v e=>?_
     have hj:own.length≤j:=by
      by_cases hj:own.length≤j
      ·exact hj
      ·exfalso
       unfold stC at e
       rw [List.getElem?_append_left (by simp;omega),List.getElem?_replicate] at e
       split at e <;> cases e
     unfold stC at e
     rw [List.getElem?_append_right (by simp;omega),List.length_replicate,← d6,List.getElem?_drop] at e
     rw [show own.length+(j - own.length)=j by omega] at e
     exact e
    refine thn (hf _ s6 σ6 H6 _ I6 q6) fun b s7 ⟨H7,I7,q7⟩=>?_
    have keepT:∀ {H8:Hp}{s8:Shared},Inv (cxC X own outs scope cl C s H fp) ([(D,{ cls:=.type "list",data:=.seq us.toArray nn })]++pinsAt fp s5.heap) σ6 H8 s8→(∀ b∈fp,∀ o,s5.heap.get? b=some o→s8.heap.get? b=some o)∧∀ b∈fp,H8 b=none:=fun {H8 s8} I8=>by
     refine ⟨fun b hb o e=>(I8.pin (b,o) (List.mem_append_right _ (List.mem_append_right _ (u1U hb e)))).1,fun b hb=>?_⟩
     obtain ⟨o,e,d⟩:=T.obj _ _ st5 b hb
     exact (I8.pin (b,o) (List.mem_append_right _ (List.mem_append_right _ (u1U hb e)))).2.1
    cases b with
    | false =>
     rw [if_neg (by simp)] at q7
     rw [if_neg (by simp)]
     obtain ⟨m',hm,w7⟩:=hNN _ _ q7
     exact ⟨m',hm,i+1,ys,us,nn,H7,weak I7.unpinned,T.keep _ _ _ st5 (keepT I7).1,(keepT I7).2,hv,w7⟩
    | true =>
     rw [if_pos rfl] at q7
     rw [if_pos rfl]
     refine thn (he _ s7 σ6 H7 _ I7 q7) fun u8 s8 ⟨y8,H8,I8,r8,q8⟩=>?_
     obtain ⟨m',hm,w8⟩:=hNN _ _ q8
     have hD8:=I8.pin (D,_) (List.mem_append_right _ (List.mem_append_left _ List.mem_cons_self))
     refine wpAny_list_append_plain (hsz:=by rw [List.size_toArray,← hv.length];exact hz) (x:=u8) ⟨nn,hD8.1⟩ fun h9 hl9 hs9=>?_
     obtain ⟨n9,e9⟩:=hl9
     have k9:∀ b o,b≠D→s8.heap.get? b=some o→h9.get? b=some o:=fun b o hb e=>(hs9.2 b hb).trans e
     have I8':Inv (cxC X own outs scope cl C s H fp) [] σ6 H8 s8:=I8.pins_of fun p hp=>(nomatch hp)
     have I9:Inv (cxC X own outs scope cl C s H fp) [] σ6 H8 { s8 with heap:=h9,toks:=s8.toks }:=I8'.turned k9 hD8.2.1 hDC (.inr (by show s.heap.objs.size≤D;omega)) (fun x c e z=>by have h1:=cellNe x c e;have z':@Eq Nat c D:=z;omega) (fun p hp=>(nomatch hp))
     have e9':h9.get? D=some { cls:=.type "list",data:=.seq (us++[u8]).toArray n9 }:=by
      rw [e9];simp
     have I9':Inv (cxC X own outs scope cl C s H fp) [(D,{ cls:=.type "list",data:=.seq (us++[u8]).toArray n9 })] σ6 H8 { s8 with heap:=h9,toks:=s8.toks }:=I9.pins_of fun p hp=>by
      have:p=(D,{ cls:=.type "list",data:=.seq (us++[u8]).toArray n9 }):=by simpa using hp
      subst this
      refine ⟨e9',hD8.2.1,hDC,fun z=>?_,fun v z=>by cases z⟩
      have:=stkLt D z
      omega
     refine ⟨m',hm,i+1,ys++[y8],us++[u8],n9,H8,weak I9',?_,(keepT I8).2,hv.append (.cons r8 .nil),w8⟩
     exact T.keep _ _ _ st5 fun b hb o e=>k9 b o (fun z=>hDfp (show D∈fp from (show b=D from z) ▸ hb)) ((keepT I8).1 b hb o e)
  ·obtain ⟨n0,e0⟩:=hacc
   refine ⟨0,[],[],n0,H,(hI0 _).pins_of fun p hp=>?_,hst₁,fun b hb=>(f2 b hb).1,.nil,w0⟩
   have:p=(D,{ cls:=.type "list",data:=.seq ([]:List Value).toArray n0 }):=by simpa using hp
   subst this
   refine ⟨e0,I.hok.fresh (by omega),hDC,fun z=>?_,fun v z=>by cases z⟩
   have:=stkLt D z
   omega
 exact codeAny_compStart_list (loop _ rfl) (T.self _ 0 _ _ _ hst₁ (loop _ rfl))
theorem u5H {scope:Scope}{pins:LO}{σ:St}{H:Hp}{s:Shared} (I:Inv X pins σ H s) (ok:CompOk X.env.scope X.N own outs scope):∀ x∈scope.names,x.2=.free→∃ c,X.env.cells.lookup x.1=some c:=fun x hx hf=>I.ok.has x.1 (ok.fre x hx hf)
theorem pe_comp (own:List Str) (outs:List Nat) (hc:X.calm=true) (ok:CompOk X.env.scope X.N own outs scope) (hi:PI X tg iter wi)
  (hg:∀ {cl C s H fp},PG (cxC X own outs scope cl C s H fp) tg g) (hf:∀ {cl C s H fp},PIf (cxC X own outs scope cl C s H fp) ifs ti) (he:∀ {cl C s H fp},PE (cxC X own outs scope cl C s H fp) elt te)
  (hs:∀ x,foldedSetIterable iter X.env x=pure x:=by intro _;rfl):PE X (.ListComp elt [⟨tg,iter,ifs,0⟩] scope pos) (tComp own.length outs wi g ti te):=by
 intro pins s σ H Q I h
 obtain ⟨cl,ecl,hcl,hcf⟩:=u1E (u5H I ok)
 rw [eval_ListComp]
 refine wpAny_comprehension_free (use:=none) rfl hs ecl ok.kind ok.loc (thn (hi pins s σ H _ I h) fun xv s₁ h₁=>thn h₁ fun itv s₂ h₂=>?_)
 obtain ⟨it,fp,tn,J,H2,e,I2,T,st2,f2,hW⟩:=h₂
 subst e
 refine u5P (Q:=Q) (RR:=fun acc C=>compPost (model X.prog X.w) X.A X.xe none (EP X pins σ Q) acc C) hc ok hcl hcf hg hf he I2 T st2 f2 hW ?_
 intro D C Hf s' m hn I' hC hL hs0 hce hpi q
 refine ⟨m,hn,fun h' hs'=>?_⟩
 exact ⟨.ref D,Hf,I'.turned (t':=s'.toks) (fun b o hb e=>(hs'.2 b hb).trans e) hC hL (.inr hs0) hce hpi,rfl,q⟩
theorem u7S {i:Nat}{y:Str}{py spos:Pos} (own:List Str) (outs:List Nat) (hc:X.calm=true) (ok:CompOk X.env.scope X.N own outs scope) (hN:X.N.Nodup) (hy:X.N[i]?=some y) (hx:X.env.scope.names.lookup y=some .local) (hi:PI X tg iter wi)
  (hg:∀ {cl C s H fp},PG (cxC X own outs scope cl C s H fp) tg g) (hf:∀ {cl C s H fp},PIf (cxC X own outs scope cl C s H fp) ifs ti) (he:∀ {cl C s H fp},PE (cxC X own outs scope cl C s H fp) elt te)
  (hsw:swapsWith (.ListComp elt [⟨tg,iter,ifs,0⟩] scope pos) (some (.Name y py)) spos.line X.env=pure true:=by rfl)
  (hs:∀ x,foldedSetIterable iter X.env x=pure x:=by intro _;rfl):PS X (.Assign [.Name y py] (.ListComp elt [⟨tg,iter,ifs,0⟩] scope pos) spos) (tAsg (tComp own.length outs wi g ti te) (gName i)):=by
 intro pins s σ H D I h
 obtain ⟨cl,ecl,hcl,hcf⟩:=u1E (u5H I ok)
 rw [exec_Assign_Name_used _ _ _ _ hsw]
 refine wpAny_bind (wpAny_standAt (wpAny_bind ?_))
 show wpAny _ X.A (do let _ ← comprehension (.ListComp elt [⟨tg,iter,ifs,0⟩] scope pos) scope X.env _ (newList []) false (eval iter X.env) (some (assign (.Name y py) X.env))) _ _ s
 refine wpAny_bind (wpAny_mono (wpAny_comprehension_free (use:=some (assign (.Name y py) X.env)) (Q:=fun _ s'=>SP X pins D .next s') rfl hs ecl ok.kind ok.loc
  (thn (hi pins s σ H _ I h) fun xv s₁ h₁=>thn h₁ fun itv s₂ h₂=>?_)) (fun _ s' hq=>wpAny_pure (wpAny_pure hq)) fun _ _ e=>e)
 obtain ⟨it,fp,tn,J,H2,e,I2,T,st2,f2,hW⟩:=h₂
 subst e
 refine u5P (Q:=fun x H1=>gName i x σ H1 D.nx) (RR:=fun acc C=>compPost (model X.prog X.w) X.A X.xe (some (assign (.Name y py) X.env)) (fun _ s'=>SP X pins D .next s') acc C) hc ok hcl hcf hg hf he I2 T st2 f2 hW ?_
 intro D' C Hf s' m hn I' hC hL hs0 hce hpi q
 show wpAny _ X.A (assign (.Name y py) X.env (.ref D')) _ _ _
 refine wpAny_assign_Name (u5d I' hN hy (.inl hx) (v:=.ref D') rfl (fun s2 I2' ⟨a,hsb,ha⟩=>?_) (.inr hx))
 have haC:C≠a:=by
  rcases ha with rfl | ha
  ·exact hL
  ·exact fun z=>hce _ _ ha z.symm
 refine ⟨m,hn.sameBut hsb haC,fun h' hs'=>?_⟩
 exact ⟨_,Hf,I2'.turned (t':=s2.toks) (fun b o hb e=>(hs'.2 b hb).trans e) hC hL (.inr hs0) hce hpi,q⟩
end
section
variable {X:Cx}{tg:Expr}
def rSlS:V→Option Int→Option Int→Hp→VK→Prop:=fun x lo hi H Q=>∃ z,x=.str z∧z.length≤sizeLine∧Q (.str (Txt.slice z lo hi)) H
theorem sl_str:SlR X rSlS:=by
 intro pins s σ H x v vl vu lo hi sl Q I rx hs pl pu h
 obtain ⟨z,rfl,hz,q⟩:=h
 obtain ⟨t,rfl⟩:=rx
 refine ⟨"str",_,PySem.F.slot_str_getitem.lookup,typeIs_str _ _ _,?_⟩
 have fin:∀ lo' hi',lo'=lo→hi'=hi→∀ t' k,EP X pins σ Q (.str (Txt.slice z lo' hi') t') { s with toks:=k }:=fun lo' hi' e1 e2 t' k=>by
  subst e1 e2
  exact ⟨.str _,H,I.tok k,⟨t',rfl⟩,q⟩
 obtain ⟨o,ho,hc,hd⟩:=hs
 cases pl with
 | none =>
  cases pu with
  | none=>exact wpAny_getItem_str_slice (l:=none) (u:=none) (st:=none) ⟨o,ho,hc,hd⟩ rfl (post_val_or_str ⟨Nat.le_trans (Txt.slice_le z _ _) hz,fun t' k=>fin _ _ rfl rfl t' k⟩)
  | int j uj=>exact wpAny_getItem_str_slice (l:=none) (u:=some (j,uj)) (st:=none) ⟨o,ho,hc,hd⟩ rfl (post_val_or_str ⟨Nat.le_trans (Txt.slice_le z _ _) hz,fun t' k=>fin _ _ rfl rfl t' k⟩)
 | int i ui =>
  cases pu with
  | none=>exact wpAny_getItem_str_slice (l:=some (i,ui)) (u:=none) (st:=none) ⟨o,ho,hc,hd⟩ rfl (post_val_or_str ⟨Nat.le_trans (Txt.slice_le z _ _) hz,fun t' k=>fin _ _ rfl rfl t' k⟩)
  | int j uj=>exact wpAny_getItem_str_slice (l:=some (i,ui)) (u:=some (j,uj)) (st:=none) ⟨o,ho,hc,hd⟩ rfl (post_val_or_str ⟨Nat.le_trans (Txt.slice_le z _ _) hz,fun t' k=>fin _ _ rfl rfl t' k⟩)
def Its (z:Str):It:=⟨fun i _=>i<z.cps.size,fun i H x H'=>H'=H∧∃ c,z.cps[i]?=some c∧x=.str ⟨#[c]⟩,fun i _=>z.cps.size≤i⟩
theorem u7N {P:Program}{w:World}{K:W.Frag}{tg:Expr} (z:Str) (t:Tok) (it:Addr):Turn P w K tg (Its z) [it] it (fun i h=>h.IsStrIter it "str_ascii_iterator" z t i) where
 mem:=by simp
 obj:=fun i h st b hb=>by
  have e:b=it:=by simpa using hb
  subst e
  obtain ⟨o,e,c,d⟩:=st
  exact ⟨o,e,fun v z=>by rw [d] at z;cases z⟩
 keep:=fun i h h' st k=>let ⟨o,e,r⟩:=st;⟨o,k it (by simp) o e,r⟩
 item:=by
  intro X hP hw hK hc i pins s σ H E I hf st hg
  subst hP hw hK
  obtain ⟨f0,f1,f2,f3,f4,f5⟩:=hf it (by simp)
  have hg':i<z.cps.size:=hg
  refine wpAny_pyNext_ascii_item st (c:=z.cps[i]) (by simp [hg']) fun h' st' sb=>?_
  have I1:Inv X pins σ H { s with heap:=h',toks:=s.toks+1 }:=I.turned (fun b o hb e=>(sb.2 b hb).trans e) f0 f1 f3 f4 f5
  obtain ⟨o,e,c,d⟩:=id st'
  exact ⟨_,rfl,u9m (s:={ s with heap:=h',toks:=s.toks+1 }) e c d (by decide) ⟨.str ⟨#[z.cps[i]]⟩,H,I1,⟨_,rfl⟩,⟨rfl,z.cps[i],by simp [hg'],rfl⟩,st',fun b hb=>(hf b hb).1⟩⟩
 done:=by
  intro X hP hw hK hc i pins s σ H E I hf st hg
  subst hP hw hK
  obtain ⟨f0,f1,f2,f3,f4,f5⟩:=hf it (by simp)
  have hg':z.cps.size≤i:=hg
  exact wpAny_pyNext_ascii_end (I.ok.hd hc) st (by simp;omega) fun h' eb=>⟨rfl,I.turned (t':=s.toks) (fun b o hb e=>eb b o hb e) f0 f1 f3 f4 f5⟩
 self:=fun _ _ _ _ _ st h=>wpAny_pyIter_striter_ascii st h
theorem u8p {P:Program}{w:World}{K:W.Frag}{tg:Expr} (z:Str) (t:Tok) (it:Addr):Turn P w K tg (Its z) [it] it (fun i h=>h.IsStrIter it "str_iterator" z t i) where
 mem:=by simp
 obj:=fun i h st b hb=>by
  have e:b=it:=by simpa using hb
  subst e
  obtain ⟨o,e,c,d⟩:=st
  exact ⟨o,e,fun v z=>by rw [d] at z;cases z⟩
 keep:=fun i h h' st k=>let ⟨o,e,r⟩:=st;⟨o,k it (by simp) o e,r⟩
 item:=by
  intro X hP hw hK hc i pins s σ H E I hf st hg
  subst hP hw hK
  obtain ⟨f0,f1,f2,f3,f4,f5⟩:=hf it (by simp)
  have hg':i<z.cps.size:=hg
  refine wpAny_pyNext_wide_item st (c:=z.cps[i]) (by simp [hg']) fun h' st' sb=>?_
  have I1:Inv X pins σ H { s with heap:=h',toks:=s.toks+1 }:=I.turned (fun b o hb e=>(sb.2 b hb).trans e) f0 f1 f3 f4 f5
  obtain ⟨o,e,c,d⟩:=id st'
  exact ⟨_,rfl,u9m (s:={ s with heap:=h',toks:=s.toks+1 }) e c d (by decide) ⟨.str ⟨#[z.cps[i]]⟩,H,I1,⟨_,rfl⟩,⟨rfl,z.cps[i],by simp [hg'],rfl⟩,st',fun b hb=>(hf b hb).1⟩⟩
 done:=by
  intro X hP hw hK hc i pins s σ H E I hf st hg
  subst hP hw hK
  obtain ⟨f0,f1,f2,f3,f4,f5⟩:=hf it (by simp)
  have hg':z.cps.size≤i:=hg
  exact wpAny_pyNext_wide_end (I.ok.hd hc) st (by simp;omega) fun h' eb=>⟨rfl,I.turned (t':=s.toks) (fun b o hb e=>eb b o hb e) f0 f1 f3 f4 f5⟩
 self:=fun _ _ _ _ _ st h=>wpAny_pyIter_striter_wide st h
def iStr (tl:TE):TI:=fun σ H R=>tl σ H fun x H1=>∃ z,x=.str z∧R (Its z) H1
theorem pi_str {l:Expr}{tl:TE} (hl:PE X l tl):PI X tg l (iStr tl):=by
 intro pins s σ H R I h
 refine thn (hl pins s σ H _ I h) fun v s1 ⟨x,H1,I1,r1,q1⟩=>?_
 obtain ⟨z,rfl,q⟩:=q1
 obtain ⟨t,rfl⟩:=r1
 cases ha:z.cps.all (·<128) with
 | true =>
  refine wpAny_pyIter_ascii ha ?_
  have hn:H1 s1.heap.objs.size=none:=I1.hok.fresh (Nat.le_refl _)
  exact ⟨s1.heap.objs.size,[s1.heap.objs.size],_,Its z,H1,rfl,I1.kept (t':=s1.toks) (fun b o e=>Heap.get?_push_of_some _ e),u7N z t _,⟨_,Heap.get?_push_size _ rfl,rfl,rfl⟩,fun b hb=>by
   have e:b=s1.heap.objs.size:=by simpa using hb
   subst e
   exact I1.fpOk (Nat.le_refl _) hn,q⟩
 | false =>
  refine wpAny_pyIter_wide ha ?_
  have hn:H1 s1.heap.objs.size=none:=I1.hok.fresh (Nat.le_refl _)
  exact ⟨s1.heap.objs.size,[s1.heap.objs.size],_,Its z,H1,rfl,I1.kept (t':=s1.toks) (fun b o e=>Heap.get?_push_of_some _ e),u8p z t _,⟨_,Heap.get?_push_size _ rfl,rfl,rfl⟩,fun b hb=>by
   have e:b=s1.heap.objs.size:=by simpa using hb
   subst e
   exact I1.fpOk (Nat.le_refl _) hn,q⟩
def CDivB (i j:Int):Prop:=0<j∧j<2^64
theorem v0s:OpR X (binaryOp .FloorDiv) (rI CDivB fun i j=>.int (i / j)):=opI fun i j _ _ _ _ _ hc q=>by
 have h1:(0:Int)<j:=hc.1
 have h2:j<2^64:=hc.2
 refine floordiv_int (by omega) (by rw [Int.fdiv_eq_ediv_of_nonneg i (by omega)];exact q) (.inl (PyProof.noPylong_of_log2 ?_))
 have:j.natAbs.log2<64:=(Nat.log2_lt (by omega)).mpr (by omega)
 omega
end
noncomputable def notStar:Expr→Bool
 | .Starred _ _=>false
 | _=>true
theorem u0k {e:Expr}{es:List Expr}{env:Env} (h:notStar e=true):starEach (e::es) env=(false,eval e env)::starEach es env:=by
 cases e <;> first | rfl | exact absurd h Bool.false_ne_true
theorem u0D {pos:Pos}{env:Env}:∀ {es:List Expr},es.all notStar=true→(backTo pos (starEach es env)).any (·.1)=false
 | [],_=>rfl
 | e::es,h=>by
  rw [List.all_cons,Bool.and_eq_true] at h
  rw [u0k h.1]
  show (false||(backTo pos (starEach es env)).any (·.1))=false
  rw [u0D h.2]
  rfl
theorem u7I {pos:Pos}{env:Env}:∀ {es:List Expr},es.all notStar=true→(backTo pos (starEach es env)).all (fun x=>!x.1)=true
 | [],_=>rfl
 | e::es,h=>by
  rw [List.all_cons,Bool.and_eq_true] at h
  rw [u0k h.1]
  show (true&&(backTo pos (starEach es env)).all (fun x=>!x.1))=true
  rw [u7I h.2]
  rfl
theorem u0h {e:Expr}{es:List Expr} (h:(e::es).all notStar=true):notStar e=true∧es.all notStar=true:=by
 rw [List.all_cons,Bool.and_eq_true] at h
 exact h
section
variable {X:Cx}{e o:Expr}{es:List Expr}{te to:TE}{t:TA}{x name:Str}{p pos apos cpos:Pos}{id T:String}{r:List V→Hp→VK→Prop}{r3:V→List V→Hp→VK→Prop}
theorem pac (ha:PE X e te) (hr:PA X es t) (hs:notStar e=true:=by rfl):PA X (e::es) (tCons te t):=pa_cons ha hr (u0k hs)
theorem pcB (hc:CallR X (.builtin id) r) (hg:Gl X x) (hm:X.mg x=none) (hv:bootBuiltins x=some (.builtin id)) (ha:PA X (e::es) t) (hn:x≠"__name__":=by decide) (hdb:(x==("__debug__":Str))=false:=by decide)
  (hs:(e::es).all notStar=true:=by rfl):PE X (.Call (.Name x p) (e::es) [] pos) (tCB r t):=v0r hc hg hm hv ha hn hdb (u0k (u0h hs).1) (u0D (u0h hs).2)
theorem pcT (hc:CallR X (.type T) r) (hg:Gl X x) (hm:X.mg x=none) (hv:bootBuiltins x=some (.type T)) (ha:PA X (e::es) t) (hn:x≠"__name__":=by decide) (hdb:(x==("__debug__":Str))=false:=by decide)
  (hs:(e::es).all notStar=true:=by rfl):PE X (.Call (.Name x p) (e::es) [] pos) (tCB r t):=u8P hc hg hm hv ha hn hdb (u0k (u0h hs).1) (u0D (u0h hs).2)
theorem pbm (pa:PlainAttrs T) (slot:Slot T name id) (hty:typeOf (.builtin id)=pure (.type "method_descriptor")) (hm:MtR X id r3) (ho:PE X o to) (ha:PA X (e::es) t)
  (hs:(e::es).all notStar=true:=by rfl) (hl:decide ((e::es).length<30)=true:=by rfl)
  (hbase:attributeBase o name X.env (eval o X.env)=eval o X.env:=by rfl) (hline:(apos.endLine==cpos.line)=true:=by rfl) :
  PE X (.Call (.Attribute o name apos) (e::es) [] cpos) (tBM X.K T r3 to t):=by
 refine pe_bm pa slot hty hm ho ha hbase ?_ hline (u0k (u0h hs).1) (u0D (u0h hs).2)
 rw [u7I hs]
 have h2:(e::es).length+([]:List Keyword).length+(if ([]:List Keyword).isEmpty then 0 else 1)<30:=by
  have:=of_decide_eq_true hl
  simpa using this
 rw [decide_eq_true h2]
 rfl
end
def Callee (P:Program) (w:World) (K:W.Frag) (mg:MG) (base:Heap) (k:Nat) (x:Str) (ps:List Str) (sp:Sp):Prop :=
 ∃ f fd,FnOk P w K mg base CX0 k f fd ps sp∧Binds K fd ps []∧W.keepIn K (.ref f)=true∧mg x=some (.ref f)
section
variable {X:Cx}{P:Program}{w:World}{K:W.Frag}{mg:MG}{base:Heap}{k k':Nat}{x:Str}{ps:List Str}{sp:Sp}{e:Expr}{es:List Expr}{t:TA}{p pos:Pos}{v:V}
theorem pe_fn (h:Callee P w K mg base k x ps sp) (hr:Room k' X.A) (hk:k≤k') (ha:PA X (e::es) t) (hg:Gl X x:=by rfl) (eP:X.prog=P:=by rfl) (ew:X.w=w:=by rfl) (eK:X.K=K:=by rfl) (em:X.mg=mg:=by rfl) (eb:X.base=base:=by rfl)
  (hdb:(x==("__debug__":Str))=false:=by decide) (hs:(e::es).all notStar=true:=by rfl) :
  PE X (.Call (.Name x p) (e::es) [] pos) (tCall sp [] E0 t):=by
 subst eP ew eK em eb
 obtain ⟨f,fd,F,hb,hkp,hm⟩:=h
 exact pe_call F (hr.mono hk) hg hm hkp hb .nil pass0 ha hdb (u0k (u0h hs).1) (u0D (u0h hs).2)
end
section
variable {X:Cx}
end
section
variable {X:Cx}{pos pos':Pos}{x:Str}{e:Expr}{te:TE}{tg l:Expr}{tl:TE}
theorem u6h {N:List Str}{i:Nat} (hi:N.findIdx? (fun y=>y==x)=some i):N[i]?=some x:=by
 obtain ⟨h1,h2,_⟩:=List.findIdx?_eq_some_iff_getElem.mp hi
 rw [List.getElem?_eq_getElem h1]
 exact congrArg some (eq_of_beq h2)
theorem pg_n {i:Nat} (hN:X.N.Nodup) (hi:X.N.findIdx? (fun y=>y==x)=some i:=by rfl) (hx:Loc X.env.scope x:=by first | exact Or.inl rfl | exact Or.inr rfl) (hf:X.fn x=true∨X.env.scope.names.lookup x=some .local:=by first | exact .inl rfl | exact .inr rfl) :
  PG X (.Name x pos) (gName i):=pg_name hN (u6h hi) hx hf
theorem ps_n {i:Nat} (hN:X.N.Nodup) (he:PE X e te) (hi:X.N.findIdx? (fun y=>y==x)=some i:=by rfl) (hx:Loc X.env.scope x:=by first | exact Or.inl rfl | exact Or.inr rfl) (hs:swapsWith e (some (.Name x pos')) pos.line X.env=pure false:=by rfl)
  (hf:X.fn x=true∨X.env.scope.names.lookup x=some .local:=by first | exact .inl rfl | exact .inr rfl):PS X (.Assign [.Name x pos'] e pos) (tAsg te (gName i)):=ps_set hN (u6h hi) hx he hs hf
end
mutual
inductive RdV (K:W.Frag) (H:Hp):V→PyData→Prop
 | non:RdV K H .non .none
 | bl (b:Bool):RdV K H (.bl b) (.bool b)
 | int (i:Int):RdV K H (.int i) (.int i)
 | str (z:Str):RdV K H (.str z) (.str z)
 | lst {a:Addr}{xs:List V}{ds:List PyData}:SqL K H a xs→RdVs K H xs ds→RdV K H (.ref a) (.list ds)
 | tup {a:Addr}{xs:List V}{ds:List PyData}:SqT K H a xs→RdVs K H xs ds→RdV K H (.ref a) (.tuple ds)
inductive RdVs (K:W.Frag) (H:Hp):List V→List PyData→Prop
 | nil:RdVs K H [] []
 | cons {x:V}{d:PyData}{xs:List V}{ds:List PyData}:RdV K H x d→RdVs K H xs ds→RdVs K H (x::xs) (d::ds)
end
section
variable {X:Cx}{pins:LO}{σ:St}{H:Hp}{s:Shared}
mutual
theorem RdV.reads (I:Inv X pins σ H s):∀ {x:V}{d:PyData}{u:Value},RdV X.K H x d→RelV x u→∃ as,Reads s.heap u d as
 | _,_,_,.non,r=>by cases r;exact ⟨_,.none⟩
 | _,_,_,.bl b,r=>by cases r;exact ⟨_,.bool b⟩
 | _,_,_,.int i,r=>by obtain ⟨t,rfl⟩:=r;exact ⟨_,.int i t⟩
 | _,_,_,.str z,r=>by obtain ⟨t,rfl⟩:=r;exact ⟨_,.str z t⟩
 | _,_,_,.lst hq hs,r=>by
  cases r
  obtain ⟨its,rv,p,hz⟩:=I.list hq
  obtain ⟨as,h⟩:=RdVs.reads I hs rv
  obtain ⟨o,ho,hc,n,hd⟩:=p.isList
  exact ⟨_,.list ho hc hd (by simpa using h)⟩
 | _,_,_,.tup hq hs,r=>by
  cases r
  obtain ⟨its,rv,p,hz⟩:=I.tuple hq
  obtain ⟨as,h⟩:=RdVs.reads I hs rv
  obtain ⟨o,ho,hc,n,hd⟩:=p
  exact ⟨_,.tuple ho hc hd (by simpa using h)⟩
theorem RdVs.reads (I:Inv X pins σ H s):∀ {xs:List V}{ds:List PyData}{us:List Value},RdVs X.K H xs ds→Vals xs us→∃ as,ReadsAll s.heap us ds as
 | _,_,_,.nil,r=>by cases r;exact ⟨_,.nil⟩
 | _,_,_,.cons h hs,r=>by
  cases r with
  | cons r1 r2 =>
   obtain ⟨as,h1⟩:=RdV.reads I h r1
   obtain ⟨bs,h2⟩:=RdVs.reads I hs r2
   exact ⟨_,.cons h1 h2⟩
end
end
theorem Same.seqT {K:W.Frag}{H H':Hp}{a:Addr}{xs:List V} (e:Same H H') (h:SqT K H a xs):SqT K H' a xs:=by
 rcases h with (h | ⟨o,h⟩) | h
 ·exact .inl (.inl (e _ _ h))
 ·exact .inl (.inr ⟨o,e _ _ h⟩)
 ·exact .inr h
mutual
theorem RdV.same {K:W.Frag}{H H':Hp} (e:Same H H'):∀ {x:V}{d:PyData},RdV K H x d→RdV K H' x d
 | _,_,.non=>.non
 | _,_,.bl b=>.bl b
 | _,_,.int i=>.int i
 | _,_,.str z=>.str z
 | _,_,.lst hq hs=>.lst (e.seq hq) (RdVs.same e hs)
 | _,_,.tup hq hs=>.tup (e.seqT hq) (RdVs.same e hs)
theorem RdVs.same {K:W.Frag}{H H':Hp} (e:Same H H'):∀ {xs:List V}{ds:List PyData},RdVs K H xs ds→RdVs K H' xs ds
 | _,_,.nil=>.nil
 | _,_,.cons h hs=>.cons (RdV.same e h) (RdVs.same e hs)
end
section
variable {X:Cx}
def rEqD (K:W.Frag) (neg:Bool):R2:=fun x y H Q=>∃ d e,RdV K H x d∧RdV K H y e∧SeqAt.shaped d=true∧SeqAt.shaped e=true∧Q (.bl (if neg=true then !PyData.eqv d e else PyData.eqv d e)) H
theorem op_eqD (hu:X.A.units+64<cLine):OpR X (compareOp .Eq) (rEqD X.K false):=by
 intro pins s σ H x y v u Q I rx ry h
 obtain ⟨d,e,h1,h2,s1,s2,q⟩:=h
 obtain ⟨as,r1⟩:=h1.reads I rx
 obtain ⟨bs,r2⟩:=h2.reads I ry
 exact eq_dataH r1 r2 s1 s2 hu ⟨.bl _,H,I,rfl,q⟩
theorem op_neD (hu:X.A.units+64<cLine):OpR X (compareOp .NotEq) (rEqD X.K true):=by
 intro pins s σ H x y v u Q I rx ry h
 obtain ⟨d,e,h1,h2,s1,s2,q⟩:=h
 obtain ⟨as,r1⟩:=h1.reads I rx
 obtain ⟨bs,r2⟩:=h2.reads I ry
 exact ne_dataH r1 r2 s1 s2 hu ⟨.bl _,H,I,rfl,q⟩
end
end L2
namespace L2
open PySem PySem.Spec PyProof.Rows
section
variable (P:Program) (w:World)
end
section
variable {P:Program}{w:World}{H H':Hp}{h h':Heap}{a:Addr}{o:HO}
end
section
variable {P:Program}{w:World}{H:Hp}{h h':Heap}{x e:Addr}{o':HO}
end
section
variable {fs fs' ex ex':List Addr}{H H1 H2:Hp}{h h1 h2 h':Heap}{a x e:Addr}{o:HO}
end
section
variable {X:Cx}{pins:LO}{σ:List (Option V)}{H H':Hp}{s:Shared}{h':Heap}
end
section
variable {X:Cx}
variable {a b:Expr}{ta tb:TE}{pos:Pos}
variable {tA tB':TT}{rest:List Expr}
end
section
variable {X:Cx}{pins:LO}{σ:St}{H:Hp}{s:Shared}{a:Addr}{xs ys:List V}
end
section
variable {X:Cx}{pins:LO}{σ:St}{H:Hp}{s:Shared}{E:VP}
end
section
variable {X:Cx}{st:Stmt}{rest:List Stmt}{t u:TS}{e:Expr}{te:TE}{pos:Pos}
end
section
variable {X:Cx}{pos:Pos}
end
section
variable {X:Cx}{pos:Pos}
end
section
variable {X:Cx}{tg:Expr}
end
section
variable {X:Cx}{a b c:Expr}{ta tb tc:TE}{pos:Pos}
end
section
variable {X:Cx}{a b c:Expr}{ta tb tc:TE}{pos:Pos}
end
section
variable {prog:Program}{w:World}{A:Around}{E:VP}{s:Shared}{K:W.Frag}{x dx C f:Addr}{mA:MG}{name:Str}{v:Value}
end
section
variable {P:Program}{w:World}{H H':Hp}{h h':Heap}{a C dx:Addr}{fs fs':List (Str×V)}
end
section
variable {X:Cx}{pins:LO}{σ:St}{H:Hp}{s:Shared}{a C dx:Addr}{fs:List (Str×V)}{f:Str}{v:V}{A:Around}{E:VP}
end
section
variable {X:Cx}{o e value:Expr}{f:Str}{pos pos' tpos:Pos}{ta tv:TE}
end
section
variable {X:Cx}{pins:LO}{σ:St}{H:Hp}{s:Shared}{A:Around}{E:VP}{Q:VP}{c:Value}{b:Bool}
end
section
variable {X:Cx}{e:Expr}{es:List Expr}{te:TE}{t:TA}{pos:Pos}
end
section
variable {X:Cx}{pins:LO}{σ:St}{H:Hp}{s s':Shared}
end
section
variable {X:Cx}{CX:CXT}{k:Nat}{f C:Addr}{fd:FuncData}{ps:List Str}{sp:Sp}{dvs:List V}{ds:List Value}{E:XK}{x m:Str}{p pos apos:Pos}{e o:Expr}{es:List Expr}{ta:TE}{t:TA}
end
section
variable {X:Cx}{CX:CXT}{k:Nat}{f C:Addr}{fd:FuncData}{ps ks:List Str}{sp:Sp}{E:XK}{x m:Str}{p pos apos kpos:Pos}{e o:Expr}{es:List Expr}{kws:List Keyword}{te ta:TE}{t tk:TA}{nm:Option Str}
variable {g:List Value→List Value→List Value}{gV:List V→List V→List V}
end
section
variable {X:Cx}{x:Str}{p pos:Pos}{e:Expr}{es:List Expr}{t:TA}{id T:String}{r:List V→Hp→VK→Prop}
end
section
variable {κ:Type} [DecidableEq κ]
end
section
variable {P:Program}{w:World}{H:Hp}{h:Heap}{a:Addr}
end
section
variable {X:Cx}{pins:LO}{σ:St}{H:Hp}{s:Shared}{a:Addr}{y v:V}{u r:Value}{o:Option V}{A:Around}{E:VP}
theorem Inv.big (I:Inv X pins σ H s):sysModules<s.heap.objs.size:=by
 have h:mainGlobals<s.heap.objs.size:=(I.mod.glob.keeps I.bk).lt
 exact Nat.lt_trans (by decide) h
end
section
variable {X:Cx}{pins:LO}{σ:St}{H:Hp}{s:Shared}{a:Addr}{kvs:List (Key×V)}{k:Key}{u:Value}{A:Around}{E:VP}
end
section
variable {X:Cx}{o i e value:Expr}{pos pos' tpos:Pos}{td ty tv:TE}
end
theorem v1a {P:Program}{w:World}{H:Hp} (h:Heap) (hb:sysModules<h.objs.size):ObjOk P w H (h.push { cls:=.type "dict",data:=.dict #[] }) h.objs.size (.dK []) :=
 ⟨Nat.zero_le _,beq_eq_false_iff_ne.mpr (Ne.symm (Nat.ne_of_lt hb)),[],.nil,Heap.DictOf.new h⟩
def tDNewK:TE:=fun _ H Q=>∀ p,H p=none→Q (.ref p) (upd H p (.dK []))
section
variable {X:Cx}{pos:Pos}
theorem v0q:PE X (.Dict [] [] pos) tDNewK:=fun pins s σ H Q I h =>
 wpAny_Dict_empty ⟨.ref s.heap.objs.size,_,I.laid (a:=s.heap.objs.size) (o:=.dK []) (t':=s.toks) (fun _ _ q=>Heap.get?_push_of_some _ q) (Nat.le_refl _) (v1a s.heap I.big),rfl,h _ (I.hok.fresh (Nat.le_refl _))⟩
end
section
variable {X:Cx}{pins:LO}{σ:St}{H:Hp}{s:Shared}{a:Addr}{y d:V}{u r:Value}{o:Option V}{A:Around}{E:VP}
end
section
variable {X:Cx}{o e f:Expr}{apos cpos:Pos}{td ty tx:TE}
end
section
variable {X:Cx}{pins:LO}{σ:St}{H:Hp}{s:Shared}{a:Addr}{kvs:List (Key×V)}{A:Around}{E:VP}
end
section
variable {X:Cx}{pins:LO}{σ:St}{H:Hp}{s:Shared}{a:Addr}{y:V}{u:Value}{A:Around}{E:VP}
end
end L2
namespace Att
open PySem PySem.W PySem.Calls PyProof.Rows
section
variable {prog:Program}{w:World}{A:Around}{E:VP}{s:Shared}{K:Frag}
end
end Att
namespace L2
open PySem PySem.Spec PyProof.Rows
end L2
namespace L2
open PySem PySem.Spec PyProof.Rows
section
variable {P:Program}{w:World}{K:W.Frag}{mg:MG}{base:Heap}
end
section
variable {X:Cx}
end
section
variable {κ:Type} [DecidableEq κ]
end
structure JE (X:Cx) (e:Expr) (t:TE):Prop where
 out:PE X e t
structure JS (X:Cx) (s:Stmt) (t:TS):Prop where
 out:PS X s t
structure JB (X:Cx) (s:List Stmt) (t:TS):Prop where
 out:PSs X s t
section
variable {X:Cx}{a b c e o:Expr}{es rest:List Expr}{ta tb tc te to:TE}{t u:TS}{tA tB':TT}{pos pos' p apos cpos:Pos}{x name:Str}{tr:TA}{v:V}{i:Nat}
theorem ev (i:Nat) {x:Str}{pos:Pos} (hN:X.N[i]?=some x:=by rfl) (hv:Vis X.env.scope x:=by first | exact Or.inl rfl | exact Or.inr (Or.inl rfl) | exact Or.inr (Or.inr rfl)) (hd:(x==("__debug__":Str))=false:=by decide)
  (hcd:(x==("__classdict__":Str))=false:=by decide):JE X (.Name x pos) (tVar i):=⟨u1i hN hv hd hcd⟩
variable {tg l:Expr}{tl:TE}
variable {st:Stmt}{sts:List Stmt}
theorem b_one (h1:JS X st t):JB X [st] t:=⟨u3x h1.out⟩
end
section
variable {P:Program}{w:World}{K:W.Frag}{mg:MG}{base:Heap}
theorem Fun.okJ {x qual:Str}{st:Stmt}{f:Addr}{fd:FuncData}{N ps:List Str}{k:Nat}{sp:Sp} (F:Fun K x qual st f fd) (S:FnScope N ps (defScope st)) (len:∀ vs H Q E,sp vs H Q E→vs.length=ps.length)
  (hbody:∀ (cdv:Value) (A:Around) (outer:List Env) (s:Shared) (H:Hp) (vs:List V) (Q:VK) (E:XK),Room k (A.deeper (envOfC qual (defScope st) s.heap.objs.size f cdv))→sp vs H Q E →
   ∃ t,JB (cxOf CX0 P w K mg base N qual (defScope st) f cdv A outer s H E).nox (defBody st) t∧t { nx:=fun _ H'=>Q .non H',rt:=Q } (start N vs) H):FnOk P w K mg base CX0 (k+1) f fd ps sp :=
 F.ok S len fun cdv A outer s H vs Q E hr h=>let ⟨t,a,b⟩:=hbody cdv A outer s H vs Q E hr h;⟨t,a.out,b⟩
end
end L2
namespace KW
open PySem L2 PySem.Spec PyProof.Rows
end KW
namespace L2
open PySem PySem.Spec PyProof.Rows
section
variable {X:Cx}
end
noncomputable def cutC {α:Type} (xs:List α) (lo hi:Option Int):List α:=(xs.drop (HT.sIx xs.length 0 lo)).take (HT.sIx xs.length xs.length hi - HT.sIx xs.length 0 lo)
section
variable {X:Cx}{K:W.Frag}
end
abbrev bmV:List Value:=[.type "ValueError",.type "Exception",.type "BaseException",.type "object"]
abbrev tupO (vs:List Value):Obj:={ cls:=.type "tuple",data:=.seq vs.toArray }
abbrev excO (C t:Addr) (dx:Option Addr):Obj:={ cls:=.ref C,dict:=dx,data:=.fields #[.ref t,.none,.none,.none,.bool false,.none] }
noncomputable def onlyV:List Value→Bool
 | .ref _::r=>onlyV r
 | l=>l==bmV
noncomputable def xcB (K:W.Frag) (C f:Addr):Bool:=match K.lookup C with
 | some ⟨.type "type",_,.cls cd,sl⟩=>(match cd.mro,sl.toList with
  | .ref C'::bm,[_,_,_,_,some (.builtin n),_]=>C'==C&&n=="ValueError.__new__"&&!cd.hasDel&&W.tailIn K bmV bm&&cd.hasDict &&
    W.findIn K (.ref C) "__init__"==some (some (.ref f))&&W.typeIn K (.ref f)==some (.type "function")&&W.findIn K (.ref C) "__getattribute__"==some (some (.builtin "BaseException.__getattribute__")) &&
    W.findIn K (.ref C) "__setattr__"==some (some (.builtin "object.__setattr__"))&&W.findIn K (.ref C) "__getattr__"==some none&&W.keepIn K (.ref C)&&onlyV bm &&
    W.findIn K (.ref C) "__class__"==some (some (.builtin "object.__class__"))&&W.specialIn K (.builtin "object.__class__") "__get__"==some (some (.builtin "getset_descriptor.__get__"))&&W.takesIn K (.builtin "object.__class__")==some true&&W.mroIn K C (.type "object")==some true
  | _,_=>false)
 | _=>false
structure XCls (K:W.Frag) (C f:Addr):Prop where
 obj:∃ bm N nm q bs sn sub ab col dd k0 k1 k2 k3 k5,K.lookup C=some (excClassObj nm q C N bs bm true sn sub ab col dd k0 k1 k2 k3 k5 "ValueError.__new__")∧W.tailIn K bmV bm=true
 init:W.findIn K (.ref C) "__init__"=some (some (.ref f))
 fn:W.typeIn K (.ref f)=some (.type "function")
 ga:W.findIn K (.ref C) "__getattribute__"=some (some (.builtin "BaseException.__getattribute__"))
 sa:W.findIn K (.ref C) "__setattr__"=some (some (.builtin "object.__setattr__"))
 gt:W.findIn K (.ref C) "__getattr__"=some none
 kp:W.keepIn K (.ref C)=true
 ov:∃ cd,W.clsIn K C=some cd∧onlyV cd.mro=true∧cd.hasDict=true
 cl:W.findIn K (.ref C) "__class__"=some (some (.builtin "object.__class__"))
 cg:W.specialIn K (.builtin "object.__class__") "__get__"=some (some (.builtin "getset_descriptor.__get__"))
 ct:W.takesIn K (.builtin "object.__class__")=some true
 co:W.mroIn K C (.type "object")=some true
theorem xcls_of {K:W.Frag}{C f:Addr} (e:xcB K C f=true):XCls K C f:=by
 unfold xcB at e
 split at e
 ·rename_i dd cd sl ho
  split at e
  ·rename_i C' bm k0 k1 k2 k3 n k5 hm hs
   simp only [Bool.and_eq_true,beq_iff_eq,Bool.not_eq_true'] at e
   obtain ⟨⟨⟨⟨⟨⟨⟨⟨⟨⟨⟨⟨⟨⟨⟨rfl,rfl⟩,hdel⟩,ht⟩,hdi⟩,e1⟩,e2⟩,e3⟩,e4⟩,e5⟩,e6⟩,e7⟩,e8⟩,e9⟩,e10⟩,e11⟩:=e
   obtain ⟨nm,bs,mro,ns,qn,hd,sn,sub,ab,col,del⟩:=cd
   dsimp only at hm hdel hdi
   subst hm hdel hdi
   have hsl:sl=#[k0,k1,k2,k3,some (.builtin "ValueError.__new__"),k5]:=by
    obtain ⟨l⟩:=sl
    simp only at hs
    rw [hs]
   subst hsl
   exact ⟨⟨bm,ns,nm,qn,bs,sn,sub,ab,col,dd,k0,k1,k2,k3,k5,ho,ht⟩,e1,e2,e3,e4,e5,e6,⟨_,by unfold W.clsIn;rw [ho],by show onlyV bm=true;exact e7,rfl⟩,e8,e9,e10,e11⟩
  ·cases e
 ·cases e
section
variable {prog:Program}{w:World}{A:Around}{K:W.Frag}{C f:Addr}{h:Heap}{g:Array GenState}{d:Drawn}{t:Nat}{os:OsState}{R:Result→Shared→Prop}
theorem v0U {rest:List Value} (X:K.In h) (c:XCls K C f) (hz:rest.length≤sizeLine)
  (hq:codeAny (model prog w) (A.under (.builtin "type.__call__" ⟨.ref C::rest,[]⟩)) (.call (.ref f) ⟨.ref (h.objs.size+1)::rest,[]⟩) (W.InitBack (h.objs.size+1) R) ⟨(h.push (tupO rest)).push (excO C h.objs.size none),g,d,t,os⟩) :
  codeAny (model prog w) A (.call (.ref C) ⟨rest,[]⟩) R ⟨h,g,d,t,os⟩:=by
 obtain ⟨bm,N,nm,q,bs,sn,sub,ab,col,dd,k0,k1,k2,k3,k5,hK,ht⟩:=c.obj
 have T:=W.tail_of_in X ht
 have hC:=X _ _ hK
 have FV:=PySem.F.excBase_ValueError
 have b1:=tc_lookup
 have b2:=tc_bind (.ref C)
 have b3:(⟨h,g,d,t,os⟩:Shared).TypeIs (.ref C) "type":=⟨_,hC,rfl⟩
 refine codeAny_of_tree ?_
 show wpAny _ _ (callAny (.ref C) _) _ _ _
 repeat (any_goals (first | assumption | with_reducible refine wpAny_loadPart_at hC ?_ | wp_step))
 refine ⟨rfl,?_⟩
 refine codeAny_call_builtin_at (Code.quiet_builtin _ (by decide +kernel)) entry_typeCall (wpAny_check_type_call_sub hC ?_)
 repeat (first | with_reducible refine wpAny_loadPart_at hC ?_ | with_reducible refine wpAny_madeBy_exc hC ?_ | wp_step)
 refine codeAny_call_builtin_code (Code.quiet_builtin _ FV.quiet) (wpAny_check_new_subU FV (by decide +kernel) T hC ?_)
 refine codeAny_exc_new_subU FV (by decide +kernel) FV T hC ?_ hz
 show wpAny _ (A.under (Code.builtin "type.__call__" ⟨Value.ref C::rest,[]⟩)) _ _ _ ⟨(h.push (tupO rest)).push (excO C h.objs.size none),g,d,t,os⟩
 have hk:∀ b o,h.get? b=some o→((h.push (tupO rest)).push (excO C h.objs.size none)).get? b=some o:=fun b o e=>Heap.get?_push_of_some _ (Heap.get?_push_of_some _ e)
 have X1:K.In ((h.push (tupO rest)).push (excO C h.objs.size none)):=X.keeps hk
 have hg:((h.push (tupO rest)).push (excO C h.objs.size none)).get? (h.objs.size+1)=some (excO C h.objs.size none):=by heap_get
 have ty:W.Looks (model prog w) ((h.push (tupO rest)).push (excO C h.objs.size none)) (typeOf (.ref (h.objs.size+1))) (.ref C):=(W.Looks.ld hg).andThen .now
 have hcC:(Value.ref C::bm).contains (.ref C)=true:=by simp
 have su:W.Looks (model prog w) ((h.push (tupO rest)).push (excO C h.objs.size none)) (isSubtype (.ref C) (.ref C)) true:=W.looks_mroIn X1 (by unfold W.mroIn W.clsIn;rw [hK];exact congrArg some hcC)
 have li:=W.looks_findIn (M:=model prog w) X1 c.init
 have lb:=W.bind_fn (M:=model prog w) X1 (.ref (h.objs.size+1)) c.fn
 unfold isInstance callSpecial? specialOf
 repeat (first | with_reducible refine wpAny_call ?_ | lk)
 refine codeAny_mono hq fun r s' z=>?_
 rcases r with e | (v | _ | _ | _) <;> first | exact z | exact z.elim | skip
 obtain ⟨rfl,z⟩:=z
 exact wpAny_pure (wpAny_pure z)
end
theorem u4D (self:Value):∀ {l:List Value},onlyV l=true→refuseLoop self "__setattr__" l=pure ()
 | .ref c::r,e=>by
  rw [refuseLoop_ref]
  exact u4D self (l:=r) (by unfold onlyV at e;exact e)
 | [],e=>by cases (beq_iff_eq.mp (show (([]:List Value)==bmV)=true from e))
 | v::r,e=>by
  cases v <;> first
   | (unfold onlyV at e;rw [beq_iff_eq.mp e];kernel_rfl)
   | (rw [refuseLoop_ref];exact u4D self (l:=r) (by unfold onlyV at e;exact e))
theorem u1o:∀ {l:List Value},onlyV l=true→l.contains (.type "BaseException")=true
 | .ref c::r,e=>by
  rw [List.contains_cons,u1o (l:=r) (by unfold onlyV at e;exact e),Bool.or_true]
 | [],e=>by cases (beq_iff_eq.mp (show (([]:List Value)==bmV)=true from e))
 | v::r,e=>by
  cases v <;> first
   | (unfold onlyV at e;rw [beq_iff_eq.mp e];decide +kernel)
   | (rw [List.contains_cons,u1o (l:=r) (by unfold onlyV at e;exact e),Bool.or_true])
theorem u3B:∀ {l:List Value},onlyV l=true→l.contains (.type "object")=true
 | .ref c::r,e=>by
  rw [List.contains_cons,u3B (l:=r) (by unfold onlyV at e;exact e),Bool.or_true]
 | [],e=>by cases (beq_iff_eq.mp (show (([]:List Value)==bmV)=true from e))
 | v::r,e=>by
  cases v <;> first
   | (unfold onlyV at e;rw [beq_iff_eq.mp e];decide +kernel)
   | (rw [List.contains_cons,u3B (l:=r) (by unfold onlyV at e;exact e),Bool.or_true])
def ExAt (h:Heap) (e C:Addr) (dx:Option Addr):Prop:=∃ t f1 f2 f3 f4 f5 sl,h.get? e=some { cls:=.ref C,dict:=dx,data:=.fields #[.ref t,f1,f2,f3,f4,f5],slots:=sl }
section
variable {prog:Program}{w:World}{A:Around}{E:VP}{s:Shared}{K:W.Frag}{e C f:Addr}{name:Str}{v:Value}{R:Result→Shared→Prop}
theorem exc_osa {ox:Obj}{od:Option Obj}{tk:Tok} (X:K.In s.heap) (c:XCls K C f) (I:W.InstAt s.heap e ox C od) (hn:W.findIn K (.ref C) name=some none)
  (h:∀ b,wpAny (model prog w) A.in1 (Builtin.ObjectAttr.storeInOwnDict (.ref e) (.ref C) (.str name tk) name v b)
   (fun fin s'=>match fin with | .done f=>R (.ok f) s' | .again c'=>c'.quiet=true∧codeAny (model prog w) A c' R s') (fun x s'=>R (.error x) s') s) :
  codeAny (model prog w) A (.call (.builtin "object.__setattr__") ⟨[.ref e,.str name tk,v],[]⟩) R s:=by
 have SF:=PySem.F.store_object
 obtain ⟨cd,hc,ho,_⟩:=c.ov
 have ne:cd.mro.isEmpty=false:=by
  cases q:cd.mro with
  | nil=>rw [q] at ho;cases (beq_iff_eq.mp (show (([]:List Value)==bmV)=true from ho))
  | cons _ _=>rfl
 have sub:W.Looks (model prog w) s.heap (isInstance (.ref e) (.type "object")) true :=
  I.type.andThen (W.looks_mroIn X (by unfold W.mroIn;rw [hc,Option.bind_some,if_neg (by rw [ne];decide),u3B ho]))
 refine codeAny_call_builtin SF.slot.plain SF.entry (@W.check_slot (model prog w) _ _ s "object.__setattr__" "object" "__setattr__" (.ref e) [.str name tk,v] [] _ SF.kind SF.split sub (SF.args (.ref e) (.str name tk) v) ?_)
 have hm:W.Looks (model prog w) s.heap (mroOf (.ref C)) cd.mro:=(W.looks_clsIn X hc).andThen .now
 rw [W.osa_eq,refuse_eq]
 refine wpAny_bind (wpAny_bind (I.type.here (wpAny_bind (hm.here ?_))))
 rw [u4D _ ho]
 refine wpAny_pure (wpAny_bind (I.type.here (wpAny_bind ((W.looks_findIn X hn).here (wpAny_bind (wpAny_pure (a:=none) ?_))))))
 exact h _
set_option maxHeartbeats 4000000 in
theorem exc_get {Q:VP}{expr:Bool}{dx:Addr}{mA:MG} (X:K.In s.heap) (c:XCls K C f) (he:ExAt s.heap e C (some dx)) (hm:s.heap.Ns1 dx mA) (hn:W.findIn K (.ref C) name=some none) (hv:mA name=some v)
  (hv':W.handedIn v=true) (h:Q v { s with toks:=s.toks+1 }):wpAny (model prog w) A (getAttr (.ref e) name expr) Q E s:=by
 obtain ⟨t,f1,f2,f3,f4,f5,sl,he⟩:=he
 obtain ⟨od,hod,hl⟩:=u5C hm
 have I:W.InstAt s.heap e _ C (some od):=⟨he,rfl,rfl,hod⟩
 obtain ⟨cd,hc,ho,hd⟩:=c.ov
 have L0:=I.type (M:=model prog w)
 have L1:=W.looks_findIn (M:=model prog w) X c.ga
 have L2:=W.looks_findIn (M:=model prog w) X c.gt
 have hf:W.findObj K C (some od) name=some (.value v):=by
  unfold W.findObj
  rw [hc,Option.bind_some,hn,Option.bind_some,Option.bind_some,Option.bind_some]
  show ((W.ownOf cd (some od) name).bind _)=_
  unfold W.ownOf
  rw [if_pos hd]
  show ((W.lookIn name od).bind _)=_
  rw [hl,hv]
  rfl
 have L3:=W.looks_find (M:=model prog w) X I hf
 obtain ⟨hh,g,d,tt,os⟩:=s
 unfold getAttr getAttrBy
 refine wpAny_bind (wpAny_mkText (wpAny_holding (wpAny_bind (L0.at (wpAny_bind (L1.at ?_))))))
 have FA:=PySem.F.attr_ValueError
 have ne:cd.mro.isEmpty=false:=by
  cases q:cd.mro with
  | nil=>rw [q] at ho;cases (beq_iff_eq.mp (show (([]:List Value)==bmV)=true from ho))
  | cons _ _=>rfl
 have sub:W.Looks (model prog w) hh (isInstance (.ref e) (.type "BaseException")) true :=
  L0.andThen (W.looks_mroIn X (by unfold W.mroIn;rw [hc,Option.bind_some,if_neg (by rw [ne];decide),u1o ho]))
 show wpAny _ _ (getAttrByItsOwn _ _ _ _ _ _) _ _ _
 unfold getAttrByItsOwn
 refine wpAny_bind (L2.at ?_)
 refine wpAny_bind (wpAny_attempt ?_)
 have hx0:(expr&&onTheHeap (Value.builtin "BaseException.__getattribute__"))=false:=by cases expr <;> rfl
 unfold callGetattribute
 rw [if_neg (by rw [hx0];exact Bool.false_ne_true)]
 refine wpAny_holding ?_
 unfold boundAndCalled
 rw [FA.ga.bind]
 refine wpAny_bind (wpAny_pure (wpAny_call ?_))
 refine codeAny_call_builtin FA.ga.plain F.entry_bexc_ga (@W.check_slot (model prog w) _ _ ⟨hh,g,d,tt+1,os⟩ "BaseException.__getattribute__" "BaseException" "__getattribute__" (.ref e) [.str name tt] [] _ (by decide +kernel) (by decide +kernel) sub (F.args_bexc_ga (.ref e) (.str name tt)) ?_)
 show wpAny _ _ (Builtin.«object.__getattribute__» ⟨[.ref e,.str name tt],[]⟩) _ _ _
 unfold Builtin.«object.__getattribute__»
 refine wpAny_bind (wpAny_pure (a:=(Value.ref e,[Value.str name tt])) (wpAny_bind (wpAny_pure (a:=name) (wpAny_bind (L0.at (wpAny_bind (L3.at ?_)))))))
 refine wpAny_pure ?_
 show wpAny _ _ (handedOut v) _ _ _
 rw [W.handedOut_of hv']
 exact wpAny_pure h
set_option maxHeartbeats 4000000 in
theorem u9t {Q:Option Value→Shared→Prop}{dx:Option Addr}{od:Option Obj}{ox:Obj} (X:K.In s.heap) (c:XCls K C f) (I:W.InstAt s.heap e ox C od) (h:Q (some (.ref C)) { s with toks:=s.toks+1 }) :
  wpAny (model prog w) A (getAttr? (.ref e) "__class__") Q E s:=by
 obtain ⟨cd,hc,ho,hd⟩:=c.ov
 have L0:=I.type (M:=model prog w)
 have L1:=W.looks_findIn (M:=model prog w) X c.ga
 have L2:=W.looks_findIn (M:=model prog w) X c.gt
 have hf:W.findObj K C od "__class__"=some (.bind (.builtin "getset_descriptor.__get__") (.builtin "object.__class__")):=by
  unfold W.findObj
  rw [hc,Option.bind_some,c.cl,Option.bind_some]
  show ((W.specialIn K (.builtin "object.__class__") "__get__").bind _)=_
  rw [c.cg,Option.bind_some]
  show ((W.takesIn K (.builtin "object.__class__")).bind _)=_
  rw [c.ct,Option.bind_some]
 have L3:=W.looks_find (M:=model prog w) X I hf
 have FA:=PySem.F.attr_ValueError
 have ne:cd.mro.isEmpty=false:=by
  cases q:cd.mro with
  | nil=>rw [q] at ho;cases (beq_iff_eq.mp (show (([]:List Value)==bmV)=true from ho))
  | cons _ _=>rfl
 have sub:W.Looks (model prog w) s.heap (isInstance (.ref e) (.type "BaseException")) true :=
  L0.andThen (W.looks_mroIn X (by unfold W.mroIn;rw [hc,Option.bind_some,if_neg (by rw [ne];decide),u1o ho]))
 obtain ⟨hh,g,d,tt,os⟩:=s
 unfold getAttr? getAttrBy? getAttrBy
 refine wpAny_bind (wpAny_mkText (wpAny_bind (wpAny_attempt (wpAny_holding (wpAny_bind (L0.at (wpAny_bind (L1.at ?_))))))))
 show wpAny _ _ (getAttrByItsOwn _ _ _ _ _ _) _ _ _
 unfold getAttrByItsOwn
 refine wpAny_bind (L2.at ?_)
 refine wpAny_bind (wpAny_attempt ?_)
 unfold callGetattribute
 rw [if_neg (show ¬ (false&&onTheHeap (Value.builtin "BaseException.__getattribute__"))=true from Bool.false_ne_true)]
 refine wpAny_holding ?_
 unfold boundAndCalled
 rw [FA.ga.bind]
 refine wpAny_bind (wpAny_pure (wpAny_call ?_))
 refine codeAny_call_builtin FA.ga.plain F.entry_bexc_ga (@W.check_slot (model prog w) _ _ ⟨hh,g,d,tt+1,os⟩ "BaseException.__getattribute__" "BaseException" "__getattribute__" (.ref e) [.str "__class__" tt] [] _ (by decide +kernel) (by decide +kernel) sub (F.args_bexc_ga (.ref e) (.str "__class__" tt)) ?_)
 show wpAny _ _ (Builtin.«object.__getattribute__» ⟨[.ref e,.str "__class__" tt],[]⟩) _ _ _
 unfold Builtin.«object.__getattribute__»
 refine wpAny_bind (wpAny_pure (a:=(Value.ref e,[Value.str "__class__" tt])) (wpAny_bind (wpAny_pure (a:=Str.ofString "__class__") (wpAny_bind (L0.at (wpAny_bind (L3.at ?_)))))))
 show wpAny _ _ (holding [_] (call _ [_,.ref e,.ref C]) >>= ret) _ _ _
 refine wpAny_bind (wpAny_holding (wpAny_call (W.class_get (s:=⟨hh,g,d,tt+1,os⟩) (ox:=ox) (od:=od) X I c.co ?_)))
 refine wpAny_pure ?_
 show wpAny _ _ (handedOut (.ref C)) _ _ _
 exact wpAny_pure (wpAny_pure h)
theorem v0J {dx:Option Addr}{od:Option Obj} (c:XCls K C f):W.KitX K (.ref e) (.ref C) (fun h=>∃ ox od,W.InstAt h e ox C od) where
 ty:=fun _ _ _ ⟨_,_,I⟩=>I.type
 it:=fun _ _ X _=>by
  obtain ⟨bm,N,nm,q,bs,sn,sub,ab,col,dd,k0,k1,k2,k3,k5,hK,ht⟩:=c.obj
  intro A' Q' E' s' k q
  unfold isType loadHead
  exact wpAny_bind (wpAny_loadPart (k _ _ (X _ _ hK)) (wpAny_pure q))
 ne:=fun h tp dd its n sl X htp=>by
  obtain ⟨bm,N,nm,q,bs,sn,sub,ab,col,dd,k0,k1,k2,k3,k5,hK,ht⟩:=c.obj
  refine Bool.eq_false_iff.mpr fun q=>?_
  have ee:C=tp:=Value.ref.inj (beq_iff_eq.mp q)
  subst ee
  have z:=congrArg Obj.cls (Option.some.inj ((X _ _ hK).symm.trans htp))
  exact absurd (Value.type.inj z) (by decide)
 ca:=fun X ⟨_,_,I⟩ k=>u9t (dx:=none) X c I k
end
noncomputable def XO (C:Addr) (dx:Option Addr) (e:Addr):HO:=.ext fun h=>ExAt h e C dx
noncomputable def DXO (dx:Addr) (fs:List (Str×V)):HO:=.ext fun h=>∃ mA,h.Ns1 dx mA∧(∀ f,RelO (fs.lookup f) (mA f))∧PySem.Within mA (fs.map (·.1))
section
variable {P:Program}{w:World}{H:Hp}{h:Heap}{e C dx:Addr}{d:Option Addr}{fs:List (Str×V)}
theorem xo_ok (x:ExAt h e C d):ObjOk P w H h e (XO C d e) :=
 ⟨x,let ⟨_,_,_,_,_,_,_,q⟩:=x;⟨_,q⟩,fun h1 h2 ⟨t,f1,f2,f3,f4,f5,sl,q⟩ k=>⟨t,f1,f2,f3,f4,f5,sl,k _ q⟩⟩
theorem v1A {mA:MG} (n:h.Ns1 dx mA) (r:∀ f,RelO (fs.lookup f) (mA f)) (z:PySem.Within mA (fs.map (·.1))):ObjOk P w H h dx (DXO dx fs) :=
 ⟨⟨mA,n,r,z⟩,let ⟨o,_,_,q,_⟩:=n;⟨o,q⟩,fun h1 h2 ⟨m,a,b,c⟩ k=>⟨m,a.at k,b,c⟩⟩
theorem u9T (x:HOk P w H h) (q:H e=some (XO C d e)):ExAt h e C d:=(show ObjOk P w H h e (XO C d e) from x e _ q).1
theorem dxo_at (x:HOk P w H h) (q:H dx=some (DXO dx fs)):∃ mA,h.Ns1 dx mA∧(∀ f,RelO (fs.lookup f) (mA f))∧PySem.Within mA (fs.map (·.1)):=(show ObjOk P w H h dx (DXO dx fs) from x dx _ q).1
theorem ExAt.inst (x:ExAt h e C (some dx)) {od:Obj} (q:h.get? dx=some od):∃ ox,W.InstAt h e ox C (some od):=let ⟨t,f1,f2,f3,f4,f5,sl,z⟩:=x;⟨_,z,rfl,rfl,q⟩
end
section
variable {X:Cx}{pins:LO}{σ:St}{H:Hp}{s:Shared}{a C dx fI:Addr}{fs:List (Str×V)}{f:Str}{v:V}{A:Around}{E:VP}
theorem xget_ok {b:Bool}{Q:VP} (I:Inv X pins σ H s) (e:H a=some (XO C (some dx) a)) (ed:H dx=some (DXO dx fs)) (c:XCls X.K C fI) (n:NoAttr X.K C f) (l:fs.lookup f=some v)
  (h:∀ u s',Inv X pins σ H s'→RelV v u→Q u s'):wpAny (model X.prog X.w) A (getAttr (.ref a) f b) Q E s:=by
 obtain ⟨mA,nA,r,_⟩:=dxo_at I.hok ed
 obtain ⟨u,hu,ru⟩:=RelO.some_of (v:=v) (o:=mA f) (by rw [← l];exact r f)
 exact exc_get I.kIn c (u9T I.hok e) nA n hu (u5I ru) (h u _ (I.tok _) ru)
end
section
variable {X:Cx}{e o value:Expr}{es:List Expr}{ta tv te:TE}{t:TA}{f x:Str}{p pos pos':Pos}{C fI:Addr}{fd:FuncData}{ps:List Str}{sp:Sp}{k:Nat}{v:V}
def tXFld (K:W.Frag) (ta:TE) (f:Str):TE:=fun σ H Q=>ta σ H fun x H1=>∃ a C fI dx fs v,x=.ref a∧H1 a=some (XO C (some dx) a)∧H1 dx=some (DXO dx fs)∧XCls K C fI∧NoAttr K C f∧fs.lookup f=some v∧Q v H1
theorem pe_xfld (he:PE X e ta) (hb:attributeBase e f X.env (eval e X.env)=eval e X.env):PE X (.Attribute e f pos) (tXFld X.K ta f):=by
 intro pins s σ H Q I h
 refine u9P hb (thn (he pins s σ H _ I h) fun u s1 ⟨x,H1,I1,rx,a,C,fI,dx,fs,v,ex,ea,ed,c,n,l,q⟩=>?_)
 subst ex
 obtain rfl:u=Value.ref a:=rx
 exact xget_ok I1 ea ed c n l fun u' s2 I2 ru=>⟨v,H1,I2,ru,q⟩
end
section
variable {X:Cx}{pins:LO}{σ:St}{H:Hp}{s:Shared}{h':Heap}
theorem Inv.turned2 {t':Nat}{e it p:Addr}{ys:List V} (I:Inv X pins σ H s) (k:∀ b o,b≠e→b≠it→s.heap.get? b=some o→h'.get? b=some o) (f1:FpOk X pins H e) (f2:FpOk X pins H it) (hp:s.heap.objs.size≤p)
  (new:ObjOk X.prog X.w (upd H p (.tup ys)) h' p (.tup ys)):Inv X pins σ (upd H p (.tup ys)) { s with heap:=h',toks:=t' }:=by
 have hfr:H p=none:=I.hok.fresh hp
 have nin:∀ b u,H b=some u→b≠e∧b≠it:=fun b u q=>⟨(fun z=>by rw [z,f1.1] at q;cases q),(fun z=>by rw [z,f2.1] at q;cases q)⟩
 have nch:∀ b,b∉[e,it]→b≠e∧b≠it:=fun b hb=>⟨fun z=>hb (by simp [z]),fun z=>hb (by simp [z])⟩
 refine I.call' (ch:=[e,it]) rfl ⟨fun b o q n _ hx=>k b o (nch b hx).1 (nch b hx).2 q,fun b o q n _ hx=>⟨o.slots,k b o (nch b hx).1 (nch b hx).2 q⟩,fun b o q n _=>?_,fun b o q hx=>⟨o,k b o (nch b hx).1 (nch b hx).2 q⟩,fun b xs q=>?_,fun b o u q=>?_,fun b ps q=>⟨#[],?_⟩⟩ ?_ I.bare fun b hb=>?_
 ·rw [u0j (by rintro rfl;exact absurd (Heap.lt_size q) (Nat.not_lt.mpr hp))];exact n
 ·rw [u0j (u0l q hfr)];exact q
 ·rw [u0j (u0l q hfr)];exact q
 ·rw [u0j (u0l q hfr),q];simp
 ·intro b u q
  by_cases hb:b=p
  ·subst hb;rw [u0g] at q;cases q;exact new
  ·rw [u0j hb] at q
   refine (I.hok b u q).stay (fun c v hc z=>?_) (fun c z=>by rw [u0j (u0l z hfr)];exact z) fun c xs z=>by rw [u0j (u0l z hfr)];exact z
   rcases hc with rfl | hc
   ·exact k c v (nin c u q).1 (nin c u q).2 z
   ·exact k c v (nin c _ hc).1 (nin c _ hc).2 z
 ·rcases List.mem_cons.mp hb with rfl | hb
  ·exact ⟨f1.2.2.2.1,f1.2.1,f1.2.2.2.2.1,f1.2.2.2.2.2⟩
  ·obtain rfl:b=it:=by simpa using hb
   exact ⟨f2.2.2.2.1,f2.2.1,f2.2.2.2.2.1,f2.2.2.2.2.2⟩
end
def Ite (K:W.Frag) (a:Addr):It :=
 ⟨fun i H=>∃ xs x,SqL K H a xs∧xs[i]?=some x,fun i H y H'=>∃ p x,H p=none∧y=.ref p∧H'=upd H p (.tup [.int i,x])∧∀ xs,SqL K H a xs→xs[i]?=some x,fun i H=>∃ xs,SqL K H a xs∧xs.length≤i⟩
theorem u8r {P:Program}{w:World}{K:W.Frag}{es:List Expr}{k:Nat}{pos:Pos} (a e it:Addr) (hne:e≠it) :
  Turn P w K (.Tuple es k pos) (Ite K a) [e,it] e (fun i h=>(∃ old,IsEnum h e it (i:Int) old)∧h.IsListIter it a i) where
 mem:=by simp
 obj:=fun i h st b hb=>by
  obtain ⟨⟨old,q⟩,o,e2,c,d⟩:=st
  rcases List.mem_cons.mp hb with rfl | hb
  ·exact ⟨_,q,fun v z=>by cases z⟩
  ·obtain rfl:b=it:=by simpa using hb
   exact ⟨o,e2,fun v z=>by rw [d] at z;cases z⟩
 keep:=fun i h h' st k=>⟨let ⟨old,q⟩:=st.1;⟨old,k e (by simp) _ q⟩,st.2.at fun o q=>k it (by simp) o q⟩
 item:=by
  intro X hP hw hK hc i pins s σ H E I hf st hg
  subst hP hw hK
  obtain ⟨xs,x,hq,hx⟩:=hg
  obtain ⟨its,rv,p,hz⟩:=I.list hq
  obtain ⟨u,hu,ru⟩:=rv.get hx
  obtain ⟨⟨old,he⟩,hl⟩:=st
  have f1:=hf e (by simp)
  have f2:=hf it (by simp)
  have hel:e<s.heap.objs.size:=Heap.lt_size he
  refine wpAny_pyNext_enum_item he hl p.isList (x:=u) (by simpa using hu) hne fun h1 eo li ht hsz kk=>⟨_,rfl,?_⟩
  refine wpAny_letOwnedTupleGo_enum (s:={ s with heap:=h1,toks:=s.toks+1 }) eo fun h2 en sb=>?_
  have hpe:s.heap.objs.size≠e:=Nat.ne_of_gt hel
  have hfr:H s.heap.objs.size=none:=I.hok.fresh (Nat.le_refl _)
  have k2:∀ b o,b≠e→b≠it→s.heap.get? b=some o→h2.get? b=some o:=fun b o hb hi q=>(sb.2 b hb).trans (kk b o hb hi q)
  have ht2:h2.get? s.heap.objs.size=some { cls:=.type "tuple",data:=.seq #[.int i s.toks,u] }:=(sb.2 _ hpe).trans ht
  have I2:=I.turned2 (t':=s.toks+1) (p:=s.heap.objs.size) (ys:=[.int i,x]) k2 f1 f2 (Nat.le_refl _) ⟨by show 2≤sizeLine;decide,[.int i s.toks,u],.cons ⟨_,rfl⟩ (.cons ru .nil),⟨_,ht2,rfl,_,rfl⟩⟩
  have en':IsEnum h2 e it (((i+1:Nat):Int)) u:=by
   have:((i+1:Nat):Int)=(i:Int)+1:=by omega
   rw [this];exact en
  refine ⟨.ref s.heap.objs.size,_,I2,rfl,⟨s.heap.objs.size,x,hfr,rfl,rfl,fun ys hy=>by rw [I.list_inj hy hq];exact hx⟩,⟨⟨u,en'⟩,?_⟩,fun b hb=>?_⟩
  ·obtain ⟨o,q,r⟩:=li
   exact ⟨o,(sb.2 it (Ne.symm hne)).trans q,r⟩
  ·have hb':b<s.heap.objs.size:=by
    rcases List.mem_cons.mp hb with rfl | hb
    ·exact hel
    ·obtain rfl:b=it:=by simpa using hb
     obtain ⟨o,q,_⟩:=hl
     exact Heap.lt_size q
   rw [u0j (Nat.ne_of_lt hb')]
   exact (hf b hb).1
 done:=by
  intro X hP hw hK hc i pins s σ H E I hf st hg
  subst hP hw hK
  obtain ⟨xs,hq,hx⟩:=hg
  obtain ⟨its,rv,p,hz⟩:=I.list hq
  obtain ⟨⟨old,he⟩,hl⟩:=st
  obtain ⟨f0,f1,f2,f3,f4,f5⟩:=hf it (by simp)
  have hlen:=rv.length
  exact wpAny_pyNext_enum_end (I.ok.hd hc) he hl p.isList (by simp;omega) fun h' eb=>⟨rfl,I.turned (t':=s.toks) (fun b o hb q=>eb b o hb q) f0 f1 f3 f4 f5⟩
 self:=fun _ _ _ _ _ st h=>by
  obtain ⟨⟨old,he⟩,_⟩:=st
  exact wpAny_pyIter_enum he h
def iEnum (K:W.Frag) (ta:TA):TI:=fun σ H R=>ta σ H fun vs H1=>∃ a xs,vs=[.ref a]∧SqL K H1 a xs∧R (Ite K a) H1
section
variable {X:Cx}{a:Expr}{ta:TA}{p pos tp:Pos}{es:List Expr}{k:Nat}
theorem pi_enum (hg:Gl X "enumerate") (hm:X.mg "enumerate"=none) (ha:PA X [a] ta) (hs:starEach [a] X.env=[(false,eval a X.env)]:=by rfl):PI X (.Tuple es k tp) (.Call (.Name "enumerate" p) [a] [] pos) (iEnum X.K ta):=by
 intro pins s σ H R I h
 refine Call_ (u1C I hg hm (show bootBuiltins "enumerate"=some (.type "enumerate") by decide +kernel) (PyProof.Rows.callWith_type1 (thn (ha pos pins s σ H _ I h) fun us s1 ⟨vs,H1,I1,r1,q1⟩=>?_) hs rfl))
 obtain ⟨a',xs,e,hq,q⟩:=q1
 subst e
 obtain ⟨u,rfl,ru⟩:=vals1 r1
 cases ru
 obtain ⟨its,rv,pl,hz⟩:=I1.list hq
 refine call_enumerate_list pl.isList fun h' en li hsz kk=>?_
 refine wpAny_pyIter_enum en ?_
 have hne:s1.heap.objs.size+1≠s1.heap.objs.size:=Nat.succ_ne_self _
 refine ⟨s1.heap.objs.size+1,[s1.heap.objs.size+1,s1.heap.objs.size],_,Ite X.K a',H1,rfl,I1.kept (t':=s1.toks) kk,u8r a' _ _ hne,⟨⟨_,en⟩,li⟩,fun b hb=>?_,q⟩
 have hb':s1.heap.objs.size≤b:=by
  rcases List.mem_cons.mp hb with rfl | hb
  ·exact Nat.le_succ _
  ·have e:b=s1.heap.objs.size:=by simpa using hb
   rw [e];exact Nat.le_refl _
 exact I1.fpOk hb' (I1.hok.fresh hb')
end
theorem un5 {α β γ:Type}{p q:α→β→γ→Prop}{r:Prop} (h:∃ a b c,p a b c∧q a b c) (k:∀ a b c,p a b c→q a b c→r):r:=let ⟨a,b,c,x,y⟩:=h;k a b c x y
inductive DK where
 | i (n:Int) | s (z:Str) | t (ks:List DK)
noncomputable instance:DecidableEq DK:=fun a b=>_root_.Classical.propDecidable (a=b)
inductive D where
 | non | bl (b:Bool) | int (i:Int) | str (z:Str) | ty (T:String)
 | lst (ds:List D) | tup (ds:List D) | dct (kvs:List (D×D)) | ins (C:Addr) (fs:List (Str×D)) | exc (C:Addr) (fs:List (Str×D)) | dn (hs:List DK→Int) (kvs:List (List DK×D))
inductive Res (α:Type) where
 | ok (a:α) | err (x:D) | bad
namespace Res
noncomputable def bind {α β:Type}:Res α→(α→Res β)→Res β
 | .ok a,f=>f a
 | .err x,_=>.err x
 | .bad,_=>.bad
def all {α:Type} (r:Res α) (P:α→Prop) (E:D→Prop):Prop:=match r with
 | .ok a=>P a
 | .err x=>E x
 | .bad=>False
@[simp] theorem bind_ok {α β:Type} (a:α) (f:α→Res β):(Res.ok a).bind f=f a:=rfl
@[simp] theorem bind_err {α β:Type} (x:D) (f:α→Res β):(Res.err x).bind f=.err x:=rfl
@[simp] theorem bind_bad {α β:Type} (f:α→Res β):Res.bad.bind f=.bad:=rfl
theorem all_bind {α β:Type}{r:Res α}{f:α→Res β}{P:β→Prop}{E:D→Prop}:(r.bind f).all P E↔r.all (fun a=>(f a).all P E) E:=by
 cases r <;> exact Iff.rfl
theorem all_mono {α:Type}{r:Res α}{P Q:α→Prop}{E F:D→Prop} (h:r.all P E) (p:∀ a,P a→Q a) (e:∀ x,E x→F x):r.all Q F:=by
 cases r with
 | ok a=>exact p a h
 | err x=>exact e x h
 | bad=>exact h
end Res
noncomputable def kD:Key→D
 | .inl i=>.int i
 | .inr z=>.str z
mutual
noncomputable def DK.toD:DK→D
 | .i n=>.int n
 | .s z=>.str z
 | .t ks=>.tup (DK.toDs ks)
noncomputable def DK.toDs:List DK→List D
 | []=>[]
 | k::ks=>k.toD::DK.toDs ks
end
mutual
noncomputable def DK.py:DK→PyData
 | .i n=>.int n
 | .s z=>.str z
 | .t ks=>.tuple (DK.pys ks)
noncomputable def DK.pys:List DK→List PyData
 | []=>[]
 | k::ks=>k.py::DK.pys ks
end
mutual
noncomputable def DK.dep:DK→Nat
 | .i _=>0
 | .s _=>0
 | .t ks=>DK.deps ks+1
noncomputable def DK.deps:List DK→Nat
 | []=>0
 | k::ks=>max k.dep (DK.deps ks)
end
noncomputable def okK (k:List DK):Bool:=decide ((DK.t k).dep≤8)&&SeqAt.shaped (DK.t k).py
noncomputable def NDO (a:Addr) (hs:List DK→Int) (xs:List (List DK×Addr×Value)):HO:=.ext fun h=>∃ o es ep,h.get? a=some o∧o.ExactDict∧o.data=.dict es ep∧es.toList=xs.map (fun x=>⟨hs x.1,.ref x.2.1,x.2.2⟩)∧(xs.map (·.1)).Nodup∧xs.length≤sizeLine∧(a==sysModules)=false
mutual
inductive Rp (K:W.Frag) (H:Hp):V→D→Prop
 | non:Rp K H .non .non
 | bl (b:Bool):Rp K H (.bl b) (.bl b)
 | int (i:Int):Rp K H (.int i) (.int i)
 | str {z:Str} (h:z.length≤sizeLine):Rp K H (.str z) (.str z)
 | ty (T:String):Rp K H (.ty T) (.ty T)
 | lst {a:Addr}{xs:List V}{ds:List D}:Rd H a (.lst xs)→Rps K H xs ds→Rp K H (.ref a) (.lst ds)
 | tup {a:Addr}{xs:List V}{ds:List D}:SqT K H a xs→Rps K H xs ds→Rp K H (.ref a) (.tup ds)
 | dK {a:Addr}{kvs:List (Key×V)}{ps:List (D×D)}:H a=some (.dK kvs)→Rpk K H kvs ps→Rp K H (.ref a) (.dct ps)
 | ins {a C dx:Addr}{fs:List (Str×V)}{gs:List (Str×D)}:H a=some (.ins C dx fs)→Rpf K H fs gs→Rp K H (.ref a) (.ins C gs)
 | exc {a C dx:Addr}{fs:List (Str×V)}{gs:List (Str×D)}:H a=some (XO C (some dx) a)→H dx=some (DXO dx fs)→Rpf K H fs gs→Rp K H (.ref a) (.exc C gs)
 | dn {a:Addr}{hs:List DK→Int}{xs:List (List DK×Addr×Value)}{kvs:List (List DK×D)}:H a=some (NDO a hs xs)→Rpn K H xs kvs→Rp K H (.ref a) (.dn hs kvs)
inductive Rps (K:W.Frag) (H:Hp):List V→List D→Prop
 | nil:Rps K H [] []
 | cons {x:V}{d:D}{xs:List V}{ds:List D}:Rp K H x d→Rps K H xs ds→Rps K H (x::xs) (d::ds)
inductive Rpk (K:W.Frag) (H:Hp):List (Key×V)→List (D×D)→Prop
 | nil:Rpk K H [] []
 | cons {k:Key}{x:V}{d:D}{xs:List (Key×V)}{ds:List (D×D)}:Rp K H x d→Rpk K H xs ds→Rpk K H ((k,x)::xs) ((kD k,d)::ds)
inductive Rpf (K:W.Frag) (H:Hp):List (Str×V)→List (Str×D)→Prop
 | nil:Rpf K H [] []
 | cons {k:Str}{x:V}{d:D}{xs:List (Str×V)}{ds:List (Str×D)}:Rp K H x d→Rpf K H xs ds→Rpf K H ((k,x)::xs) ((k,d)::ds)
inductive Rpn (K:W.Frag) (H:Hp):List (List DK×Addr×Value)→List (List DK×D)→Prop
 | nil:Rpn K H [] []
 | cons {k:List DK}{q:Addr}{u:Value}{x:V}{d:D}{xs:List (List DK×Addr×Value)}{ds:List (List DK×D)}:okK k=true→Rp K H (.ref q) (DK.t k).toD→RelV x u→Rp K H x d→Rpn K H xs ds→Rpn K H ((k,q,u)::xs) ((k,d)::ds)
end
section
variable {K:W.Frag}{H H':Hp}
theorem Rd.same (e:Same H H') {a:Addr}{u:HO} (h:Rd H a u):Rd H' a u:=by
 rcases h with h | ⟨o,h⟩
 ·exact .inl (e _ _ h)
 ·exact .inr ⟨o,e _ _ h⟩
mutual
theorem Rp.same (e:Same H H'):∀ {x:V}{d:D},Rp K H x d→Rp K H' x d
 | _,_,.non=>.non
 | _,_,.bl b=>.bl b
 | _,_,.int i=>.int i
 | _,_,.str h=>.str h
 | _,_,.ty T=>.ty T
 | _,_,.lst hq hs=>.lst (hq.same e) (Rps.same e hs)
 | _,_,.tup hq hs=>.tup (e.seqT hq) (Rps.same e hs)
 | _,_,.dK hq hs=>.dK (e _ _ hq) (Rpk.same e hs)
 | _,_,.ins hq hs=>.ins (e _ _ hq) (Rpf.same e hs)
 | _,_,.exc hq hr hs=>.exc (e _ _ hq) (e _ _ hr) (Rpf.same e hs)
 | _,_,.dn hq hs=>.dn (e _ _ hq) (Rpn.same e hs)
theorem Rps.same (e:Same H H'):∀ {x:List V}{d:List D},Rps K H x d→Rps K H' x d
 | _,_,.nil=>.nil
 | _,_,.cons h hs=>.cons (Rp.same e h) (Rps.same e hs)
theorem Rpk.same (e:Same H H'):∀ {x:List (Key×V)}{d:List (D×D)},Rpk K H x d→Rpk K H' x d
 | _,_,.nil=>.nil
 | _,_,.cons h hs=>.cons (Rp.same e h) (Rpk.same e hs)
theorem Rpf.same (e:Same H H'):∀ {x:List (Str×V)}{d:List (Str×D)},Rpf K H x d→Rpf K H' x d
 | _,_,.nil=>.nil
 | _,_,.cons h hs=>.cons (Rp.same e h) (Rpf.same e hs)
theorem Rpn.same (e:Same H H'):∀ {x:List (List DK×Addr×Value)}{d:List (List DK×D)},Rpn K H x d→Rpn K H' x d
 | _,_,.nil=>.nil
 | _,_,.cons o h r h2 hs=>.cons o (Rp.same e h) r (Rp.same e h2) (Rpn.same e hs)
end
theorem Rps.length:∀ {xs:List V}{ds:List D},Rps K H xs ds→xs.length=ds.length
 | _,_,.nil=>rfl
 | _,_,.cons _ hs=>congrArg (·+1) hs.length
theorem Rps.get:∀ {xs:List V}{ds:List D}{i:Nat}{d:D},Rps K H xs ds→ds[i]?=some d→∃ x,xs[i]?=some x∧Rp K H x d
 | _,_,0,_,.cons h _,e=>by cases e;exact ⟨_,rfl,h⟩
 | _,_,i+1,_,.cons _ hs,e=>hs.get (i:=i) (by simpa using e)
theorem Rps.append:∀ {xs ys:List V}{ds es:List D},Rps K H xs ds→Rps K H ys es→Rps K H (xs++ys) (ds++es)
 | _,_,_,_,.nil,h=>h
 | _,_,_,_,.cons h hs,h'=>.cons h (hs.append h')
theorem Rps.take:∀ {xs:List V}{ds:List D} (n:Nat),Rps K H xs ds→Rps K H (xs.take n) (ds.take n)
 | _,_,0,_=>by simpa using Rps.nil
 | _,_,_+1,.nil=>by simpa using Rps.nil
 | _,_,n+1,.cons h hs=>by simpa using Rps.cons h (hs.take n)
theorem Rps.drop:∀ {xs:List V}{ds:List D} (n:Nat),Rps K H xs ds→Rps K H (xs.drop n) (ds.drop n)
 | _,_,0,h=>h
 | _,_,_+1,.nil=>by simpa using Rps.nil
 | _,_,n+1,.cons _ hs=>by simpa using hs.drop n
theorem Rps.rep {xs:List V}{ds:List D} (h:Rps K H xs ds):∀ n:Nat,Rps K H (List.replicate n xs).flatten (List.replicate n ds).flatten
 | 0=>.nil
 | n+1=>by simpa [List.replicate_succ] using h.append (h.rep n)
theorem Rpf.lookup:∀ {fs:List (Str×V)}{gs:List (Str×D)}{f:Str}{d:D},Rpf K H fs gs→gs.lookup f=some d→∃ v,fs.lookup f=some v∧Rp K H v d
 | _,_,f,d,.cons (k:=k) h hs,e=>by
  rw [List.lookup_cons] at e ⊢
  cases q:f==k with
  | true=>rw [q] at e;cases e;exact ⟨_,rfl,h⟩
  | false=>rw [q] at e;exact hs.lookup e
end
structure Stp (F H F' H':Hp):Prop where
 ff:Same F F'
 fh:Same F' H'
 hh:Same H H'
 no:∀ a,F a=none→H a≠none→F' a=none
section
variable {F H F' H' F'' H'':Hp}{a:Addr}{o:HO}
theorem Stp.refl (h:Same F H):Stp F H F H:=⟨Same.refl F,h,Same.refl H,fun _ q _=>q⟩
theorem u1j (e:Same H H') {a:Addr} (h:H a≠none):H' a≠none:=by
 intro q
 cases z:H a with
 | none=>exact h z
 | some o=>rw [e a o z] at q;cases q
theorem Stp.trans (x:Stp F H F' H') (y:Stp F' H' F'' H''):Stp F H F'' H'' :=
 ⟨x.ff.trans y.ff,y.fh,x.hh.trans y.hh,fun a q r=>y.no a (x.no a q r) (u1j x.hh r)⟩
theorem v0a (h:Same F H):Same (upd F a o) (upd H a o):=fun b u e=>by
 unfold upd at e ⊢
 by_cases q:b=a
 ·rw [if_pos q] at e ⊢;exact e
 ·rw [if_neg q] at e ⊢;exact h b u e
theorem u0e (h:F a=none):Same F (upd F a o):=fun b u e=>by
 unfold upd
 by_cases q:b=a
 ·subst q;rw [h] at e;cases e
 ·rw [if_neg q];exact e
theorem Stp.new (h:Same F H) (n:H a=none):Stp F H (upd F a o) (upd H a o) :=
 ⟨u0e (h.free n),v0a h,u0e n,fun b q r=>by
  unfold upd
  by_cases z:b=a
  ·subst z;exact absurd n r
  ·rw [if_neg z];exact q⟩
theorem Stp.only (h:Same F H) (e:Same H H'):Stp F H F H':=⟨Same.refl F,h.trans e,e,fun _ q _=>q⟩
end
inductive OD where
 | l (ds:List D) | d (kvs:List (D×D)) | i (a C:Addr) (gs:List (Str×D)) | n (hs:List DK→Int) (kvs:List (List DK×D)) | p (a:Addr) (o:OD)
noncomputable def OD.toD:OD→D
 | .l ds=>.lst ds
 | .d kvs=>.dct kvs
 | .i _ C gs=>.ins C gs
 | .n hs kvs=>.dn hs kvs
 | .p _ o=>o.toD
inductive Ro (K:W.Frag) (F:Hp) (a:Addr):HO→OD→Prop
 | l {xs:List V}{ds:List D}:Rps K F xs ds→Ro K F a (.lst xs) (.l ds)
 | d {kvs:List (Key×V)}{ps:List (D×D)}:Rpk K F kvs ps→Ro K F a (.dK kvs) (.d ps)
 | i {C dx:Addr}{fs:List (Str×V)}{gs:List (Str×D)}:Rpf K F fs gs→Ro K F a (.ins C dx fs) (.i a C gs)
 | n {hs:List DK→Int}{xs:List (List DK×Addr×Value)}{kvs:List (List DK×D)}:Rpn K F xs kvs→Ro K F a (NDO a hs xs) (.n hs kvs)
 | p {h:HO}{o:OD}:Ro K F a h o→Ro K F a h (.p a o)
theorem Ro.same {K:W.Frag}{F F':Hp}{a:Addr} (e:Same F F') {h:HO}{o:OD} (r:Ro K F a h o):Ro K F' a h o:=by
 induction r with
 | l r=>exact .l (Rps.same e r)
 | d r=>exact .d (Rpk.same e r)
 | i r=>exact .i (Rpf.same e r)
 | n r=>exact .n (Rpn.same e r)
 | p _ ih=>exact .p ih
theorem Ro.rp {K:W.Frag}{F:Hp}{a:Addr}{h:HO}{o:OD} (r:Ro K F a h o) (e:F a=some h):Rp K F (.ref a) o.toD:=by
 induction r with
 | l r=>exact .lst (.inl e) r
 | d r=>exact .dK e r
 | i r=>exact .ins e r
 | n r=>exact .dn e r
 | p _ ih=>exact ih e
inductive Sl where
 | val (d:D) | own (o:OD)
abbrev Rho:=List (Option Sl)
structure Rel (K:W.Frag) (B:Hp×Hp) (ρ:Rho) (σ:St) (F H:Hp):Prop where
 st:Stp B.1 B.2 F H
 len:σ.length=ρ.length
 val:∀ (i:Nat) d,ρ[i]?=some (some (.val d))→∃ v,σ[i]?=some (some v)∧Rp K F v d
 own:∀ (i:Nat) o,ρ[i]?=some (some (.own o))→∃ a h,σ[i]?=some (some (.ref a))∧F a=none∧B.2 a=none∧H a=some h∧Ro K F a h o
 dis:∀ (i j:Nat) o u a,ρ[i]?=some (some (.own o))→ρ[j]?=some (some (.own u))→σ[i]?=some (some (.ref a))→σ[j]?=some (some (.ref a))→i=j
noncomputable def frzS:Sl→Sl
 | .val d=>.val d
 | .own o=>.val o.toD
noncomputable def frz (ρ:Rho):Rho:=ρ.map (Option.map frzS)
section
variable {K:W.Frag}{B:Hp×Hp}{ρ:Rho}{σ:St}{F H F' H':Hp}
theorem Rel.fh (r:Rel K B ρ σ F H):Same F H:=r.st.fh
theorem Rel.step (r:Rel K B ρ σ F H) (s:Stp F H F' H'):Rel K B ρ σ F' H' where
 st:=r.st.trans s
 len:=r.len
 val i d e:=let ⟨v,h1,h2⟩:=r.val i d e;⟨v,h1,h2.same s.ff⟩
 own i o e:=let ⟨a,h,h1,h2,h3,h4,h5⟩:=r.own i o e;⟨a,h,h1,s.no a h2 (by rw [h4];simp),h3,s.hh a h h4,Ro.same s.ff h5⟩
 dis:=r.dis
theorem u2S {i:Nat}{x:Sl} (h:(frz ρ)[i]?=some (some x)):∃ y,ρ[i]?=some (some y)∧x=frzS y:=by
 unfold frz at h
 rw [List.getElem?_map] at h
 cases q:ρ[i]? with
 | none=>rw [q] at h;cases h
 | some z =>
  rw [q] at h
  cases z with
  | none=>simp at h
  | some y=>simp at h;exact ⟨y,rfl,h.symm⟩
open Classical in
theorem Rel.frz (r:Rel K B ρ σ F H):∃ F',Same F F'∧Rel K B (frz ρ) σ F' H:=by
 let T:Addr→Prop:=fun a=>∃ (i:Nat) (o:OD),ρ[i]?=some (some (.own o))∧σ[i]?=some (some (.ref a))
 let F':Hp:=fun a=>if T a then H a else F a
 have hT:∀ a,T a→F a=none∧B.2 a=none:=fun a ⟨i,o,e,q⟩=>by
  obtain ⟨b,h,h1,h2,h3,_⟩:=r.own i o e
  rw [q] at h1;cases h1;exact ⟨h2,h3⟩
 have e1:Same F F':=fun a o e=>by
  show (if T a then H a else F a)=some o
  by_cases q:T a
  ·rw [(hT a q).1] at e;cases e
  ·rw [if_neg q];exact e
 have e2:Same F' H:=fun a o e=>by
  have e':(if T a then H a else F a)=some o:=e
  by_cases q:T a
  ·rw [if_pos q] at e';exact e'
  ·rw [if_neg q] at e';exact r.fh a o e'
 refine ⟨F',e1,⟨⟨r.st.ff.trans e1,e2,r.st.hh,fun a q z=>?_⟩,?_,?_,?_,?_⟩⟩
 ·show (if T a then H a else F a)=none
  by_cases t:T a
  ·exact absurd (hT a t).2 z
  ·rw [if_neg t];exact r.st.no a q z
 ·rw [r.len];unfold L2.frz;simp
 ·intro i d e
  obtain ⟨y,h1,h2⟩:=u2S e
  cases y with
  | val d'=>cases h2;obtain ⟨v,q1,q2⟩:=r.val i d h1;exact ⟨v,q1,q2.same e1⟩
  | own o =>
   cases h2
   obtain ⟨a,h,q1,q2,q3,q4,q5⟩:=r.own i o h1
   have t:T a:=⟨i,o,h1,q1⟩
   exact ⟨.ref a,q1,Ro.rp (Ro.same e1 q5) (show (if T a then H a else F a)=some h by rw [if_pos t];exact q4)⟩
 ·intro i o e
  obtain ⟨y,h1,h2⟩:=u2S e
  cases y <;> cases h2
 ·intro i j o u a e
  obtain ⟨y,h1,h2⟩:=u2S e
  cases y <;> cases h2
theorem u0u {α:Type}{l:List α}{i j:Nat}{x y:α} (h:(l.set i x)[j]?=some y):(j=i∧i<l.length∧y=x)∨(j≠i∧l[j]?=some y):=by
 rw [List.getElem?_set] at h
 by_cases q:i=j
 ·rw [if_pos q] at h
  by_cases z:i<l.length
  ·rw [if_pos z] at h;exact .inl ⟨q.symm,z,(Option.some.inj h).symm⟩
  ·rw [if_neg z] at h;cases h
 ·rw [if_neg q] at h;exact .inr ⟨fun e=>q e.symm,h⟩
theorem u4i {α:Type}{l:List α}{i:Nat}{x:α} (h:i<l.length):(l.set i x)[i]?=some x:=by simp [h]
theorem u0x {α:Type}{l:List α}{i j:Nat}{x:α} (h:j≠i):(l.set i x)[j]?=l[j]?:=by rw [List.getElem?_set,if_neg (fun e=>h e.symm)]
theorem Rel.set {i:Nat}{v:V}{d:D} (r:Rel K B ρ σ F H) (h:Rp K F v d):Rel K B (ρ.set i (some (.val d))) (σ.set i (some v)) F H where
 st:=r.st
 len:=by simp [r.len]
 val j d' e:=by
  rcases u0u e with ⟨rfl,q,z⟩ | ⟨q,z⟩
  ·cases z;exact ⟨v,u4i (r.len ▸ q),h⟩
  ·rw [u0x q];exact r.val j d' z
 own j o e:=by
  rcases u0u e with ⟨rfl,q,z⟩ | ⟨q,z⟩
  ·cases z
  ·rw [u0x q];exact r.own j o z
 dis j k o u a e e':=by
  rcases u0u e with ⟨rfl,q,z⟩ | ⟨q,z⟩
  ·cases z
  ·rcases u0u e' with ⟨rfl,q',z'⟩ | ⟨q',z'⟩
   ·cases z'
   ·rw [u0x q,u0x q'];exact r.dis j k o u a z z'
theorem Rel.setOwn {i:Nat}{a:Addr}{h:HO}{o:OD} (r:Rel K B ρ σ F H) (h1:F a=none) (h2:B.2 a=none) (h3:H a=some h) (h4:Ro K F a h o)
  (hd:∀ (j:Nat) u,ρ[j]?=some (some (.own u))→σ[j]?≠some (some (.ref a))):Rel K B (ρ.set i (some (.own o))) (σ.set i (some (.ref a))) F H where
 st:=r.st
 len:=by simp [r.len]
 val j d' e:=by
  rcases u0u e with ⟨rfl,q,z⟩ | ⟨q,z⟩
  ·cases z
  ·rw [u0x q];exact r.val j d' z
 own j u e:=by
  rcases u0u e with ⟨rfl,q,z⟩ | ⟨q,z⟩
  ·cases z;exact ⟨a,h,u4i (r.len ▸ q),h1,h2,h3,h4⟩
  ·rw [u0x q];exact r.own j u z
 dis j k u u' b e e':=by
  rcases u0u e with ⟨rfl,q,z⟩ | ⟨q,z⟩
  ·rcases u0u e' with ⟨rfl,q',z'⟩ | ⟨q',z'⟩
   ·intro _ _;rfl
   ·rw [u0x q',u4i (r.len ▸ q)]
    intro x y;cases x;exact absurd y (hd k u' z')
  ·rcases u0u e' with ⟨rfl,q',z'⟩ | ⟨q',z'⟩
   ·rw [u0x q,u4i (r.len ▸ q')]
    intro x y;cases y;exact absurd x (hd j u z)
   ·rw [u0x q,u0x q'];exact r.dis j k u u' b z z'
theorem Rel.write {i:Nat}{a:Addr}{h':HO}{o o':OD} (r:Rel K B ρ σ F H) (e:ρ[i]?=some (some (.own o))) (hs:σ[i]?=some (some (.ref a))) (h4:Ro K F a h' o') :
  Rel K B (ρ.set i (some (.own o'))) σ F (upd H a h'):=by
 obtain ⟨b,h,q1,q2,q3,q4,q5⟩:=r.own i o e
 rw [hs] at q1;cases q1
 have e1:∀ G:Hp,G a=none→Same G H→Same G (upd H a h'):=fun G n s b u x=>by
  unfold upd
  by_cases z:b=a
  ·subst z;rw [n] at x;cases x
  ·rw [if_neg z];exact s b u x
 refine ⟨⟨r.st.ff,e1 F q2 r.fh,e1 B.2 q3 r.st.hh,r.st.no⟩,by simp [r.len],?_,?_,?_⟩
 ·intro j d x
  rcases u0u x with ⟨rfl,q,z⟩ | ⟨q,z⟩
  ·cases z
  ·exact r.val j d z
 ·intro j u x
  rcases u0u x with ⟨rfl,q,z⟩ | ⟨q,z⟩
  ·cases z;exact ⟨a,h',hs,q2,q3,u0g,h4⟩
  ·obtain ⟨c,g,p1,p2,p3,p4,p5⟩:=r.own j u z
   have ne:c≠a:=fun w=>q (by subst w;exact r.dis j i u o c z e p1 hs)
   exact ⟨c,g,p1,p2,p3,by rw [u0j ne];exact p4,p5⟩
 ·intro j k u u' c x y
  have f:∀ (m:Nat) w,(ρ.set i (some (Sl.own o')))[m]?=some (some (.own w))→∃ w',ρ[m]?=some (some (.own w')):=fun m w p=>by
   rcases u0u p with ⟨rfl,_,_⟩ | ⟨_,z⟩
   ·exact ⟨o,e⟩
   ·exact ⟨w,z⟩
  obtain ⟨w1,z1⟩:=f j u x
  obtain ⟨w2,z2⟩:=f k u' y
  exact r.dis j k w1 w2 c z1 z2
end
abbrev XQ:=V→St→Hp→Prop
theorem frz_frz (ρ:Rho):frz (frz ρ)=frz ρ:=by
 unfold frz
 rw [List.map_map]
 congr 1
 funext x
 cases x with
 | none=>rfl
 | some y=>cases y <;> rfl
def ErrK (K:W.Frag) (xq:XQ) (B:Hp×Hp) (ρ:Rho) (σ:St) (x:D):Prop:=∀ v F' H',Rel K B (frz ρ) σ F' H'→Rp K F' v x→xq v σ H'
def liftE (K:W.Frag) (xq:XQ) (f:Rho→Res D):TE:=fun σ H Q=>∃ B F ρ,Rel K B ρ σ F H ∧
 (f ρ).all (fun d=>∀ v F' H',Stp F H F' H'→Rp K F' v d→Q v H') (ErrK K xq B ρ σ)
def liftA (K:W.Frag) (xq:XQ) (f:Rho→Res (List D)):TA:=fun σ H Q=>∃ B F ρ,Rel K B ρ σ F H ∧
 (f ρ).all (fun ds=>∀ vs F' H',Stp F H F' H'→Rps K F' vs ds→Q vs H') (ErrK K xq B ρ σ)
def liftT (K:W.Frag) (xq:XQ) (f:Rho→Res Bool):TT:=fun σ H Q=>∃ B F ρ,Rel K B ρ σ F H ∧
 (f (frz ρ)).all (fun b=>∀ H',Stp F H F H'→Q b H') (ErrK K xq B ρ σ)
def liftN (K:W.Frag) (xq:XQ) (f:Rho→Res OD):TE:=fun σ H Q=>∃ B F ρ,Rel K B ρ σ F H ∧
 (f ρ).all (fun o=>∀ a h F' H',Stp F H F' H'→F' a=none→H a=none→H' a=some h→Ro K F' a h o→Q (.ref a) H') (ErrK K xq B ρ σ)
abbrev FD:=List D→Res D
structure DE (X:Cx) (xq:XQ) (e:Expr) (f:Rho→Res D):Prop where
 out:PE X e (liftE X.K xq f)
structure DN (X:Cx) (xq:XQ) (e:Expr) (f:Rho→Res OD):Prop where
 out:PE X e (liftN X.K xq f)
structure DT (X:Cx) (xq:XQ) (e:Expr) (f:Rho→Res Bool):Prop where
 out:PT X e (liftT X.K xq f)
structure DW (X:Cx) (xq:XQ) (e:Expr) (f:Rho→Res Bool):Prop where
 out:PW X e (liftT X.K xq f)
structure DA (X:Cx) (xq:XQ) (es:List Expr) (f:Rho→Res (List D)):Prop where
 out:PA X es (liftA X.K xq f)
 ns:es.all notStar=true
def rD (K:W.Frag) (g:D→D→Res D):R2:=fun x y H Q=>∃ F dx dy,Same F H∧Rp K F x dx∧Rp K F y dy∧(g dx dy).all (fun d=>∀ v F' H',Stp F H F' H'→Rp K F' v d→Q v H') (fun _=>False)
def rD1 (K:W.Frag) (g:D→Res D):V→Hp→VK→Prop:=fun x H Q=>∃ F dx,Same F H∧Rp K F x dx∧(g dx).all (fun d=>∀ v F' H',Stp F H F' H'→Rp K F' v d→Q v H') (fun _=>False)
def rDs (K:W.Frag) (g:FD):List V→Hp→VK→Prop:=fun xs H Q=>∃ F ds,Same F H∧Rps K F xs ds∧(g ds).all (fun d=>∀ v F' H',Stp F H F' H'→Rp K F' v d→Q v H') (fun _=>False)
section
variable {K:W.Frag}{xq:XQ}{B:Hp×Hp}{ρ:Rho}{σ:St}{F H F' H':Hp}{x:D}
theorem seqE {α:Type}{fa:Rho→Res D}{g:D→Res α}{P:α→Prop}{T:VK} (R:Rel K B ρ σ F H) (h:((fa ρ).bind g).all P (ErrK K xq B ρ σ))
  (k:∀ d v F' H',Stp F H F' H'→Rel K B ρ σ F' H'→Rp K F' v d→(g d).all P (ErrK K xq B ρ σ)→T v H'):liftE K xq fa σ H T :=
 ⟨B,F,ρ,R,Res.all_mono (Res.all_bind.mp h) (fun d h' v F' H' s p=>k d v F' H' s (R.step s) p h') (fun _ e=>e)⟩
theorem seqA {α:Type}{fa:Rho→Res (List D)}{g:List D→Res α}{P:α→Prop}{T:List V→Hp→Prop} (R:Rel K B ρ σ F H) (h:((fa ρ).bind g).all P (ErrK K xq B ρ σ))
  (k:∀ d v F' H',Stp F H F' H'→Rel K B ρ σ F' H'→Rps K F' v d→(g d).all P (ErrK K xq B ρ σ)→T v H'):liftA K xq fa σ H T :=
 ⟨B,F,ρ,R,Res.all_mono (Res.all_bind.mp h) (fun d h' v F' H' s p=>k d v F' H' s (R.step s) p h') (fun _ e=>e)⟩
end
noncomputable def noE {α:Type}:Res α→Res α
 | .err _=>.bad
 | r=>r
section
variable {K:W.Frag}{xq:XQ}{B:Hp×Hp}{ρ:Rho}{σ:St}{F H F' H':Hp}{x:D}
theorem doneN {r:Res D}{Q:VK}{E:D→Prop}{F0 H0:Hp} (s:Stp F0 H0 F H) (h:(noE r).all (fun d=>∀ v F' H',Stp F0 H0 F' H'→Rp K F' v d→Q v H') E) :
  r.all (fun d=>∀ v F' H',Stp F H F' H'→Rp K F' v d→Q v H') (fun _=>False):=by
 cases r with
 | ok d=>exact fun v F' H' s' p=>h v F' H' (s.trans s') p
 | err x=>exact h
 | bad=>exact h
end
noncomputable def getV (ρ:Rho) (i:Nat):Res D:=match ρ[i]? with
 | some (some (.val d))=>.ok d
 | _=>.bad
theorem getV_ok {ρ:Rho}{i:Nat}{P:D→Prop}{E:D→Prop} (h:(getV ρ i).all P E):∃ d,ρ[i]?=some (some (.val d))∧P d:=by
 unfold getV at h
 split at h
 ·rename_i d e;exact ⟨d,e,h⟩
 ·exact h.elim
section
variable {X:Cx}{xq:XQ}{a b c e o:Expr}{es rest:List Expr}{fa fb fc fe:Rho→Res D}{fA fB:Rho→Res Bool}{fs:Rho→Res (List D)}{pos pos' p apos cpos:Pos}{x name:Str}
theorem DE.of {t:TE} (h:PE X e t) (k:∀ B F ρ σ H Q,Rel X.K B ρ σ F H→(fe ρ).all (fun d=>∀ v F' H',Stp F H F' H'→Rp X.K F' v d→Q v H') (ErrK X.K xq B ρ σ)→t σ H Q):DE X xq e fe :=
 ⟨fun pins s σ H Q I z9=>un5 z9 fun B F ρ R q=>h pins s σ H Q I (k B F ρ σ H Q R q)⟩
theorem DT.of {t:TT} (h:PT X e t) (k:∀ B F ρ σ H Q,Rel X.K B ρ σ F H→(fA (frz ρ)).all (fun b=>∀ H',Stp F H F H'→Q b H') (ErrK X.K xq B ρ σ)→t σ H Q):DT X xq e fA :=
 ⟨fun pins s σ H Q I z9=>un5 z9 fun B F ρ R q=>h pins s σ H Q I (k B F ρ σ H Q R q)⟩
theorem d_C {v:V}{d:D} (h:PE X e (tC v)) (p:∀ F,Rp X.K F v d):DE X xq e (fun _=>.ok d):=DE.of h fun B F ρ σ H Q R q=>q v F H (Stp.refl R.fh) (p F)
theorem u0d {i j pos}:DE X xq (.Constant (.int i) j pos) (fun _=>.ok (.int i)):=d_C pe_int fun _=>.int i
theorem d_bl {i j pos}:DE X xq (.Constant (.bool i) j pos) (fun _=>.ok (.bl i)):=d_C pe_bl fun _=>.bl i
theorem d_non {j pos}:DE X xq (.Constant .none j pos) (fun _=>.ok .non):=d_C pe_non fun _=>.non
theorem u0z {z:Str}{j pos} (h:z.length≤sizeLine:=by decide):DE X xq (.Constant (.str z) j pos) (fun _=>.ok (.str z)):=d_C pe_str fun _=>.str h
theorem dv (i:Nat) {x:Str}{pos:Pos} (hN:X.N[i]?=some x:=by rfl) (hv:Vis X.env.scope x:=by first | exact Or.inl rfl | exact Or.inr (Or.inl rfl) | exact Or.inr (Or.inr rfl)) (hd:(x==("__debug__":Str))=false:=by decide)
  (hcd:(x==("__classdict__":Str))=false:=by decide):DE X xq (.Name x pos) (fun ρ=>getV ρ i) :=
 DE.of (u1i hN hv hd hcd) fun B F ρ σ H Q R q=>by
  obtain ⟨d,e,h⟩:=getV_ok q
  obtain ⟨v,h1,h2⟩:=R.val i d e
  exact ⟨v,h1,h v F H (Stp.refl R.fh) h2⟩
theorem d_ty {T:String} (hm:X.mg x=none) (hv:bootBuiltins x=some (.type T)) (hg:Gl X x:=by rfl) (hn:x≠"__name__":=by decide) (hd:(x==("__debug__":Str))=false:=by decide):DE X xq (.Name x pos) (fun _=>.ok (.ty T)) :=
 d_C (v:=.ty T) (pe_bltn hg hm hv rfl hn hd) fun _=>.ty T
theorem d_op {op:Operator}{g:D→D→Res D} (ho:OpR X (binaryOp op) (rD X.K g)) (ha:DE X xq a fa) (hb:DE X xq b fb):DE X xq (.BinOp a op b pos) (fun ρ=>(fa ρ).bind fun x=>(fb ρ).bind fun y=>noE (g x y)) :=
 DE.of (pe_op ho ha.out hb.out) fun B F ρ σ H Q R q=>seqE R q fun d v F1 H1 s1 R1 p1 q1=>seqE R1 q1 fun d2 v2 F2 H2 s2 R2 p2 q2 =>
  ⟨F2,d,d2,R2.fh,p1.same s2.ff,p2,doneN (s1.trans s2) q2⟩
theorem d_un {op:UnaryOp}{g:D→Res D} (ho:UnR X (unaryOp op) (rD1 X.K g)) (ha:DE X xq a fa):DE X xq (.UnaryOp op a pos) (fun ρ=>(fa ρ).bind fun x=>noE (g x)) :=
 DE.of (pe_un ho ha.out) fun B F ρ σ H Q R q=>seqE R q fun d v F1 H1 s1 R1 p1 q1=>⟨F1,d,R1.fh,p1,doneN s1 q1⟩
theorem u3R {op:CmpOp}{g:D→D→Res D} (ho:OpR X (compareOp op) (rD X.K g)) (ha:DE X xq a fa) (hb:DE X xq b fb) (hm:behindInMarks op b=false:=by first | exact nomark _ | with_unfolding_all rfl) :
  DE X xq (.Compare a [op] [b] pos) (fun ρ=>(fa ρ).bind fun x=>(fb ρ).bind fun y=>noE (g x y)) :=
 DE.of (pe_cmpR ho ha.out hb.out hm) fun B F ρ σ H Q R q=>seqE R q fun d v F1 H1 s1 R1 p1 q1=>seqE R1 q1 fun d2 v2 F2 H2 s2 R2 p2 q2 =>
  ⟨F2,d,d2,R2.fh,p1.same s2.ff,p2,doneN (s1.trans s2) q2⟩
theorem d_ix {g:D→D→Res D} (ho:IxR X (rD X.K g)) (ha:DE X xq a fa) (hb:DE X xq b fb) (hs:PlainIx b:=by intro _ _;rfl):DE X xq (.Subscript a b pos) (fun ρ=>(fa ρ).bind fun x=>(fb ρ).bind fun y=>noE (g x y)) :=
 DE.of (pe_ix ho ha.out hb.out hs) fun B F ρ σ H Q R q=>seqE R q fun d v F1 H1 s1 R1 p1 q1=>seqE R1 q1 fun d2 v2 F2 H2 s2 R2 p2 q2 =>
  ⟨F2,d,d2,R2.fh,p1.same s2.ff,p2,doneN (s1.trans s2) q2⟩
noncomputable def asB:D→Res Bool
 | .bl b=>.ok b
 | _=>.bad
theorem u5Y {d:D}{P:Bool→Prop}{E:D→Prop} (h:(asB d).all P E):∃ b,d=.bl b∧P b:=by
 cases d <;> first | exact h.elim | exact ⟨_,rfl,h⟩
theorem Rp.blI {K:W.Frag}{F:Hp}{v:V}{b:Bool} (h:Rp K F v (.bl b)):v=.bl b:=by cases h;rfl
noncomputable def fChain (g g':D→D→Res D) (x y:D) (z:Res D):Res D:=(noE (g x y)).bind fun w=>(asB w).bind fun c=>if c=true then z.bind fun z=>noE (g' y z) else .ok (.bl false)
theorem u6J {op} (h:DE X xq a fa):DE X xq (.BoolOp op [a] pos) fa:=⟨pe_one h.out⟩
theorem u4d (ha:DE X xq a fa) (hb:DE X xq (.BoolOp .And (b::rest) pos) fb):DE X xq (.BoolOp .And (a::b::rest) pos) (fun ρ=>(fa ρ).bind fun x=>(asB x).bind fun k=>if k=true then fb ρ else .ok (.bl false)) :=
 DE.of (pe_and ha.out hb.out) fun B F ρ σ H Q R q=>seqE R q fun d v F1 H1 s1 R1 p1 q1=>by
  obtain ⟨k,rfl,q2⟩:=u5Y (Res.all_bind.mp q1)
  refine ⟨k,p1.blI,?_⟩
  cases k with
  | false=>exact q2 _ F1 H1 s1 (.bl false)
  | true=>exact ⟨B,F1,ρ,R1,Res.all_mono q2 (fun d k v F' H' s p=>k v F' H' (s1.trans s) p) fun _ e=>e⟩
theorem d_not (ha:DE X xq a fa):DE X xq (.UnaryOp .Not a pos) (fun ρ=>(fa ρ).bind fun x=>(asB x).bind fun k=>.ok (.bl (!k))) :=
 DE.of (pe_not ha.out) fun B F ρ σ H Q R q=>seqE R q fun d v F1 H1 s1 R1 p1 q1=>by
  obtain ⟨k,rfl,q2⟩:=u5Y (Res.all_bind.mp q1)
  exact ⟨k,p1.blI,q2 _ F1 H1 s1 (.bl _)⟩
theorem ErrK.frz {K:W.Frag}{B:Hp×Hp}{ρ:Rho}{σ:St}{x:D} (h:ErrK K xq B ρ σ x):ErrK K xq B (frz ρ) σ x:=fun v F' H' R p=>h v F' H' (frz_frz ρ ▸ R) p
theorem d_ife (hc:DT X xq c fA) (ha:DE X xq a fa) (hb:DE X xq b fb):DE X xq (.IfExp c a b pos) (fun ρ=>(fA (frz ρ)).bind fun k=>if k=true then fa ρ else fb ρ) :=
 DE.of (v0p hc.out ha.out hb.out) fun B F ρ σ H Q R q=>⟨B,F,ρ,R,Res.all_mono (Res.all_bind.mp q) (fun k q1 H1 s1=>by
  cases k with
  | true=>exact ⟨B,F,ρ,R.step s1,Res.all_mono q1 (fun d k v F' H' s p=>k v F' H' (s1.trans s) p) fun _ e=>e⟩
  | false=>exact ⟨B,F,ρ,R.step s1,Res.all_mono q1 (fun d k v F' H' s p=>k v F' H' (s1.trans s) p) fun _ e=>e⟩) fun _ e=>e⟩
theorem tfrz {P:Bool→Prop}{K:W.Frag}{B:Hp×Hp}{ρ:Rho}{σ:St}{F H:Hp}{Q:Bool→Hp→Prop} (R:Rel K B ρ σ F H) (h:((fe (frz ρ)).bind asB).all (fun b=>∀ H',Stp F H F H'→Q b H') (ErrK K xq B ρ σ)) :
  liftE K xq fe σ H (fun x H'=>∃ k,x=.bl k∧Q k H'):=by
 obtain ⟨F1,e1,R1⟩:=R.frz
 refine ⟨B,F1,L2.frz ρ,R1,Res.all_mono (Res.all_bind.mp h) (fun d q v F' H' s p=>?_) fun _ e=>e.frz⟩
 obtain ⟨k,rfl,q⟩:=u5Y q
 exact ⟨k,p.blI,q H' (Stp.only R.fh s.hh)⟩
theorem u0n (h:DE X xq e fe) (he:∀ whole,isTrue e X.env whole=(do let v ← whole;standAt e.pos;holding [v] (truthy v)):=by intro _;rfl):DT X xq e (fun ρ=>(fe ρ).bind asB) :=
 DT.of (pt_val h.out he) fun B F ρ σ H Q R q=>tfrz (P:=fun _=>True) R q
theorem u0r {op:CmpOp}{g:D→D→Res D} (ho:OpR X (compareOp op) (rD X.K g)) (ha:DE X xq a fa) (hb:DE X xq b fb) (hm:behindInMarks op b=false:=by first | exact nomark _ | with_unfolding_all rfl) :
  DT X xq (.Compare a [op] [b] pos) (fun ρ=>(fa ρ).bind fun x=>(fb ρ).bind fun y=>(noE (g x y)).bind asB) :=
 DT.of (u8D ho ha.out hb.out hm) fun B F ρ σ H Q R q=>by
  obtain ⟨F0,e0,R0⟩:=R.frz
  have q':=Res.all_mono q (fun _ k=>k) (fun x (e:ErrK X.K xq B ρ σ x)=>e.frz)
  refine seqE R0 q' fun d v F1 H1 s1 R1 p1 q1=>seqE R1 q1 fun d2 v2 F2 H2 s2 R2 p2 q2=>⟨F2,d,d2,R2.fh,p1.same s2.ff,p2,?_⟩
  have q3:=Res.all_bind.mp q2
  generalize g d d2=r at q3
  cases r with
  | err x=>exact q3
  | bad=>exact q3
  | ok w =>
   obtain ⟨k,rfl,q4⟩:=u5Y (show (asB w).all _ _ from q3)
   exact fun v3 F3 H3 s3 p3=>⟨k,p3.blI,q4 H3 (Stp.only R.fh ((s1.hh.trans s2.hh).trans s3.hh))⟩
theorem seqT {α:Type}{K:W.Frag}{B:Hp×Hp}{ρ:Rho}{σ:St}{F H:Hp}{g:Bool→Res α}{P:α→Prop}{T:Bool→Hp→Prop} (R:Rel K B ρ σ F H) (h:((fA (frz ρ)).bind g).all P (ErrK K xq B ρ σ))
  (k:∀ b H',Stp F H F H'→Rel K B ρ σ F H'→(g b).all P (ErrK K xq B ρ σ)→T b H'):liftT K xq fA σ H T :=
 ⟨B,F,ρ,R,Res.all_mono (Res.all_bind.mp h) (fun d h' H' s=>k d H' s (R.step s) h') (fun _ e=>e)⟩
theorem u0y (ha:DT X xq a fA):DT X xq (.UnaryOp .Not a pos) (fun ρ=>(fA ρ).bind fun k=>.ok (!k)) :=
 DT.of (pt_not ha.out) fun B F ρ σ H Q R q=>seqT R q fun k H1 s1 R1 q1=>q1 H1 s1
theorem dt_w (h:DW X xq e fA):DT X xq e fA:=⟨h.out.pt⟩
theorem u9y (ha:DT X xq a fA):DW X xq (.BoolOp .And [a] pos) fA:=⟨pw_and1 ha.out⟩
theorem u0Z (ha:DT X xq a fA):DW X xq (.BoolOp .Or [a] pos) fA:=⟨v1r ha.out⟩
theorem v1B (ha:DT X xq a fA) (hb:DW X xq (.BoolOp .And (b::rest) pos) fB):DW X xq (.BoolOp .And (a::b::rest) pos) (fun ρ=>(fA ρ).bind fun k=>if k=true then fB ρ else .ok false) :=
 ⟨fun wh pins s σ H Q I z9=>un5 z9 fun B F ρ R q=>pw_and ha.out hb.out wh pins s σ H Q I (seqT R q fun k H1 s1 R1 q1=>by
  cases k with
  | false=>exact q1 H1 s1
  | true=>exact ⟨B,F,ρ,R1,Res.all_mono q1 (fun k q H2 s2=>q H2 (s1.trans s2)) fun _ e=>e⟩)⟩
theorem u1e (ha:DT X xq a fA) (hb:DW X xq (.BoolOp .Or (b::rest) pos) fB):DW X xq (.BoolOp .Or (a::b::rest) pos) (fun ρ=>(fA ρ).bind fun k=>if k=true then .ok true else fB ρ) :=
 ⟨fun wh pins s σ H Q I z9=>un5 z9 fun B F ρ R q=>pw_or ha.out hb.out wh pins s σ H Q I (seqT R q fun k H1 s1 R1 q1=>by
  cases k with
  | true=>exact q1 H1 s1
  | false=>exact ⟨B,F,ρ,R1,Res.all_mono q1 (fun k q H2 s2=>q H2 (s1.trans s2)) fun _ e=>e⟩)⟩
theorem u0b:DA X xq [] (fun _=>.ok []):=⟨fun pos pins s σ H Q I z9=>un5 z9 fun B F ρ R q=>u2Z pos pins s σ H Q I (q [] F H (Stp.refl R.fh) .nil),rfl⟩
theorem u0a (ha:DE X xq e fe) (hr:DA X xq es fs) (hs:notStar e=true:=by rfl):DA X xq (e::es) (fun ρ=>(fe ρ).bind fun d=>(fs ρ).bind fun ds=>.ok (d::ds)) :=
 ⟨fun pos pins s σ H Q I z9=>un5 z9 fun B F ρ R q=>pac ha.out hr.out hs pos pins s σ H Q I (seqE R q fun d v F1 H1 s1 R1 p1 q1=>seqA R1 q1 fun ds vs F2 H2 s2 R2 p2 q2 =>
  q2 (v::vs) F2 H2 (s1.trans s2) (.cons (p1.same s2.ff) p2)),by rw [List.all_cons,hs,hr.ns];rfl⟩
noncomputable def szD {α:Type} (ds:List D) (k:Res α):Res α:=if ds.length≤sizeLine then k else .bad
theorem u6R {α:Type}{ds:List D}{k:Res α}{P:α→Prop}{E:D→Prop} (h:(szD ds k).all P E):ds.length≤sizeLine∧k.all P E:=by
 unfold szD at h
 by_cases q:ds.length≤sizeLine
 ·rw [if_pos q] at h;exact ⟨q,h⟩
 ·rw [if_neg q] at h;exact h.elim
theorem u1G {x1} (h:DA X xq es fs):DE X xq (.Tuple es x1 pos) (fun ρ=>(fs ρ).bind fun ds=>szD ds (.ok (.tup ds))) :=
 DE.of (pe_tup h.out) fun B F ρ σ H Q R q=>seqA R q fun ds vs F1 H1 s1 R1 p1 q1=>by
  obtain ⟨hz,q2⟩:=u6R q1
  exact ⟨p1.length ▸ hz,fun p n=>q2 _ _ _ (s1.trans (Stp.new R1.fh n)) (.tup (.inl (.inl u0g)) (p1.same (Stp.new R1.fh n).ff))⟩
theorem u0A (h:DA X xq es fs):DE X xq (.List es pos) (fun ρ=>(fs ρ).bind fun ds=>szD ds (.ok (.lst ds))) :=
 DE.of (u8O h.out) fun B F ρ σ H Q R q=>seqA R q fun ds vs F1 H1 s1 R1 p1 q1=>by
  obtain ⟨hz,q2⟩:=u6R q1
  exact ⟨p1.length ▸ hz,fun p n=>q2 _ _ _ (s1.trans (Stp.new R1.fh n)) (.lst (.inl u0g) (p1.same (Stp.new R1.fh n).ff))⟩
theorem u2y (h:DA X xq es fs):DN X xq (.List es pos) (fun ρ=>(fs ρ).bind fun ds=>szD ds (.ok (.l ds))) :=
 ⟨fun pins s σ H Q I z9=>un5 z9 fun B F ρ R q=>u8O h.out pins s σ H Q I (seqA R q fun ds vs F1 H1 s1 R1 p1 q1=>by
  obtain ⟨hz,q2⟩:=u6R q1
  refine ⟨p1.length ▸ hz,fun p n=>q2 p _ F1 _ (s1.trans (Stp.only R1.fh (u0e n))) (R1.fh.free n) (s1.hh.free n) u0g (.l p1)⟩)⟩
theorem DN.de {f:Rho→Res OD} (h:DN X xq e f):DE X xq e (fun ρ=>(f ρ).bind fun o=>.ok o.toD) :=
 ⟨fun pins s σ H Q I z9=>un5 z9 fun B F ρ R q=>h.out pins s σ H Q I ⟨B,F,ρ,R,Res.all_mono (Res.all_bind.mp q) (fun o q1 a hh F' H' s1 n1 n2 e1 r1=>by
  have s2:Stp F H (upd F' a hh) H':=⟨s1.ff.trans (u0e n1),fun b u x=>by
   unfold upd at x
   by_cases z:b=a
   ·rw [if_pos z] at x;cases x;subst z;exact e1
   ·rw [if_neg z] at x;exact s1.fh b u x,s1.hh,fun b x y=>by
   unfold upd
   by_cases z:b=a
   ·subst z;exact absurd n2 y
   ·rw [if_neg z];exact s1.no b x y⟩
  exact q1 _ _ _ s2 ((Ro.same (u0e n1) r1).rp u0g)) fun _ e=>e⟩⟩
end
inductive Out where
 | nx (ρ:Rho) | rt (d:D) | bk (ρ:Rho) | ct (ρ:Rho) | er (x:D) (ρ:Rho) | bad
namespace Out
def all (o:Out) (N:Rho→Prop) (R:D→Prop) (B C:Rho→Prop) (E:Rho→D→Prop):Prop:=match o with
 | .nx ρ=>N ρ
 | .rt d=>R d
 | .bk ρ=>B ρ
 | .ct ρ=>C ρ
 | .er x ρ=>E ρ x
 | .bad=>False
noncomputable def andThen (o:Out) (f:Rho→Out):Out:=match o with
 | .nx ρ=>f ρ
 | o=>o
@[simp] theorem then_nx (ρ:Rho) (f:Rho→Out):(Out.nx ρ).andThen f=f ρ:=rfl
@[simp] theorem then_rt (d:D) (f:Rho→Out):(Out.rt d).andThen f=.rt d:=rfl
@[simp] theorem then_bk (ρ:Rho) (f:Rho→Out):(Out.bk ρ).andThen f=.bk ρ:=rfl
@[simp] theorem then_ct (ρ:Rho) (f:Rho→Out):(Out.ct ρ).andThen f=.ct ρ:=rfl
@[simp] theorem then_er (x:D) (ρ:Rho) (f:Rho→Out):(Out.er x ρ).andThen f=.er x ρ:=rfl
@[simp] theorem then_bad (f:Rho→Out):Out.bad.andThen f=.bad:=rfl
end Out
noncomputable def Res.go {α:Type} (r:Res α) (ρ:Rho) (k:α→Out):Out:=match r with
 | .ok a=>k a
 | .err x=>.er x (frz ρ)
 | .bad=>.bad
@[simp] theorem go_ok {α:Type} (a:α) (ρ:Rho) (k:α→Out):(Res.ok a).go ρ k=k a:=rfl
@[simp] theorem go_err {α:Type} (x:D) (ρ:Rho) (k:α→Out):(Res.err x).go ρ k=.er x (frz ρ):=rfl
@[simp] theorem go_bad {α:Type} (ρ:Rho) (k:α→Out):Res.bad.go ρ k=.bad:=rfl
theorem u0q {α:Type}{r:Res α}{ρ:Rho}{k:α→Out}{N:Rho→Prop}{R:D→Prop}{B C:Rho→Prop}{E:Rho→D→Prop} (h:(r.go ρ k).all N R B C E):r.all (fun a=>(k a).all N R B C E) (E (frz ρ)):=by
 cases r <;> exact h
theorem u9X {o:Out}{f:Rho→Out}{N:Rho→Prop}{R:D→Prop}{B C:Rho→Prop}{E:Rho→D→Prop} (h:(o.andThen f).all N R B C E):o.all (fun ρ=>(f ρ).all N R B C E) R B C E:=by
 cases o <;> exact h
structure OkS (K:W.Frag) (xq:XQ) (B:Hp×Hp) (T:Ends) (o:Out):Prop where
 out:o.all (fun ρ=>∀ σ F H,Rel K B ρ σ F H→T.nx σ H) (fun d=>∀ v F H,Stp B.1 B.2 F H→Rp K F v d→T.rt v H)
  (fun ρ=>∀ σ F H,Rel K B ρ σ F H→T.bk σ H) (fun ρ=>∀ σ F H,Rel K B ρ σ F H→T.ct σ H) (fun ρ x=>∀ v σ F H,Rel K B ρ σ F H→Rp K F v x→xq v σ H)
def liftS (K:W.Frag) (xq:XQ) (f:Rho→Out):TS:=fun T σ H=>∃ B F ρ,Rel K B ρ σ F H∧OkS K xq B T (f ρ)
structure DS (X:Cx) (xq:XQ) (st:Stmt) (f:Rho→Out):Prop where
 out:PS X st (liftS X.K xq f)
structure DB (X:Cx) (xq:XQ) (sts:List Stmt) (f:Rho→Out):Prop where
 out:PSs X sts (liftS X.K xq f)
def liftG (K:W.Frag) (ix:List Nat) (g:D→Rho→Res Rho):TG:=fun v σ H Q=>∃ B F ρ d,Rel K B ρ σ F H∧Rp K F v d ∧
 (g d ρ).all (fun ρ'=>∀ σ',Rel K B ρ' σ' F H→σ'.length=σ.length→(∀ j,j∉ix→σ'[j]?=σ[j]?)→Q σ' H) (fun _=>False)
def liftGs (K:W.Frag) (ix:List Nat) (g:List D→Rho→Res Rho):TGs:=fun vs σ H Q=>∃ B F ρ ds,Rel K B ρ σ F H∧Rps K F vs ds ∧
 (g ds ρ).all (fun ρ'=>∀ σ',Rel K B ρ' σ' F H→σ'.length=σ.length→(∀ j,j∉ix→σ'[j]?=σ[j]?)→Q σ' H) (fun _=>False)
structure DG (X:Cx) (tg:Expr) (ix:List Nat) (g:D→Rho→Res Rho):Prop where
 out:PG X tg (liftG X.K ix g)
structure DGs (X:Cx) (tgs:List Expr) (ix:List Nat) (g:List D→Rho→Res Rho):Prop where
 out:PGs X tgs (liftGs X.K ix g)
structure Feed (K:W.Frag) (F:Hp) (J:It) (ds:List D):Prop where
 go:∀ i H,Same F H→i<ds.length→J.go i H
 yld:∀ i F1 H x H' d,Same F F1→Same F1 H→ds[i]?=some d→J.yld i H x H'→∃ F',Stp F1 H F' H'∧Rp K F' x d
 stop:∀ i H,Same F H→ds.length≤i→J.stop i H
def liftI (K:W.Frag) (xq:XQ) (f:Rho→Res (List D)):TI:=fun σ H R=>∃ B F ρ,Rel K B ρ σ F H ∧
 (f ρ).all (fun ds=>∀ J F' H',Stp F H F' H'→Feed K F' J ds→R J H') (ErrK K xq B ρ σ)
structure DI (X:Cx) (xq:XQ) (tg iter:Expr) (f:Rho→Res (List D)):Prop where
 out:PI X tg iter (liftI X.K xq f)
theorem Feed.list {K:W.Frag}{F:Hp}{a:Addr}{xs:List V}{ds:List D} (h:SqL K F a xs) (r:Rps K F xs ds):Feed K F (Itl K a) ds where
 go i H e hi:=⟨xs,xs[i]'(r.length ▸ hi),e.seq h,by simp [r.length ▸ hi]⟩
 yld i F1 H x H' d e1 e2 hd y:=by
  obtain ⟨rfl,y⟩:=y
  obtain ⟨v,hv,p⟩:=r.get hd
  have:xs[i]?=some x:=y xs ((e1.trans e2).seq h)
  rw [hv] at this;cases this
  exact ⟨F1,Stp.refl e2,p.same e1⟩
 stop i H e hi:=⟨xs,e.seq h,r.length ▸ hi⟩
theorem Feed.tup {K:W.Frag}{F:Hp}{a:Addr}{xs:List V}{ds:List D} (h:SqT K F a xs) (r:Rps K F xs ds):Feed K F (Itt K a) ds where
 go i H e hi:=⟨xs,xs[i]'(r.length ▸ hi),e.seqT h,by simp [r.length ▸ hi]⟩
 yld i F1 H x H' d e1 e2 hd y:=by
  obtain ⟨rfl,y⟩:=y
  obtain ⟨v,hv,p⟩:=r.get hd
  have:xs[i]?=some x:=y xs ((e1.trans e2).seqT h)
  rw [hv] at this;cases this
  exact ⟨F1,Stp.refl e2,p.same e1⟩
 stop i H e hi:=⟨xs,e.seqT h,r.length ▸ hi⟩
theorem u3C:(1:Nat)≤sizeLine:=by decide
noncomputable def chars (z:Str):List D:=z.cps.toList.map fun c=>.str ⟨#[c]⟩
theorem Feed.str {K:W.Frag}{F:Hp} (z:Str):Feed K F (Its z) (chars z) where
 go i H e hi:=by
  show i<z.cps.size
  simpa [chars] using hi
 yld i F1 H x H' d e1 e2 hd y:=by
  obtain ⟨rfl,c,hc,rfl⟩:=y
  have e3:z.cps.toList[i]?=some c:=by simpa using hc
  unfold chars at hd
  rw [List.getElem?_map,e3] at hd
  cases hd
  exact ⟨F1,Stp.refl e2,.str (by show (#[c]:Array Nat).size≤sizeLine;exact u3C)⟩
 stop i H e hi:=by
  show z.cps.size≤i
  simpa [chars] using hi
noncomputable def intL (lo:Int) (n:Nat):List D:=(List.range n).map fun (i:Nat)=>.int (lo+(i:Int))
theorem Feed.rng {K:W.Frag}{F:Hp} (lo:Int) (n:Nat):Feed K F (Itr lo n) (intL lo n) where
 go i H e hi:=by
  show i<n
  simpa [intL] using hi
 yld i F1 H x H' d e1 e2 hd y:=by
  obtain ⟨rfl,rfl⟩:=y
  have hi:i<n:=by
   have:=(List.getElem?_eq_some_iff.mp hd).1
   simpa [intL] using this
  unfold intL at hd
  rw [List.getElem?_map,List.getElem?_range hi] at hd
  cases hd
  exact ⟨F1,Stp.refl e2,.int _⟩
 stop i H e hi:=by
  show n≤i
  simpa [intL] using hi
section
variable {X:Cx}{xq:XQ}{st:Stmt}{sts:List Stmt}{e c tg:Expr}{fe:Rho→Res D}{fT:Rho→Res Bool}{f g:Rho→Out}{pos pos':Pos}{x:Str}
theorem DS.of {t:TS} (h:PS X st t) (k:∀ B F ρ σ H T,Rel X.K B ρ σ F H→OkS X.K xq B T (f ρ)→t T σ H):DS X xq st f :=
 ⟨fun pins s σ H T I z9=>un5 z9 fun B F ρ R q=>h pins s σ H T I (k B F ρ σ H T R q)⟩
theorem u0p:DB X xq [] (fun ρ=>.nx ρ):=⟨fun pins s σ H T I z9=>un5 z9 fun B F ρ R q=>u6p pins s σ H T I (q.out σ F H R)⟩
theorem u0f (h:DS X xq st f):DB X xq [st] f:=⟨u3x h.out⟩
theorem u0c (h1:DS X xq st f) (h2:DB X xq sts g):DB X xq (st::sts) (fun ρ=>(f ρ).andThen g) :=
 ⟨fun pins s σ H T I z9=>un5 z9 fun B F ρ R q=>u2s h1.out h2.out pins s σ H T I ⟨B,F,ρ,R,⟨by
  have q1:=u9X q.out
  generalize f ρ=o at q1
  cases o with
  | nx ρ1=>exact fun σ1 F1 H1 R1=>⟨B,F1,ρ1,R1,⟨q1⟩⟩
  | rt d=>exact q1
  | bk r=>exact q1
  | ct r=>exact q1
  | er x r=>exact q1
  | bad=>exact q1⟩⟩⟩
theorem errOf {K:W.Frag}{B:Hp×Hp}{ρ:Rho}{σ:St}{x:D} (h:∀ v σ F H,Rel K B (frz ρ) σ F H→Rp K F v x→xq v σ H):ErrK K xq B ρ σ x:=fun v F H R p=>h v σ F H R p
theorem u0i (he:DE X xq e fe):DS X xq (.Return (some e) pos) (fun ρ=>(fe (frz ρ)).go ρ fun d=>.rt d) :=
 DS.of (u7c he.out) fun B F ρ σ H T R q=>by
  obtain ⟨F1,e1,R1⟩:=R.frz
  exact ⟨B,F1,frz ρ,R1,Res.all_mono (u0q q.out) (fun d q v F' H' s p=>q v F' H' (R1.st.trans s) p) fun x q=>(errOf q).frz⟩
theorem u9A (he:DE X xq e fe) (hs:swapsWith e none pos.line X.env=pure false:=by rfl):DS X xq (.Expr e pos) (fun ρ=>(fe (frz ρ)).go ρ fun _=>.nx ρ) :=
 DS.of (u3y he.out hs) fun B F ρ σ H T R q=>by
  obtain ⟨F1,e1,R1⟩:=R.frz
  exact ⟨B,F1,frz ρ,R1,Res.all_mono (u0q q.out) (fun d q v F' H' s p=>q σ F H' (R.step (Stp.only R.fh s.hh))) fun x q=>(errOf q).frz⟩
theorem u0C {a b:List Stmt} (hc:DT X xq c fT) (ha:DB X xq a f) (hb:DB X xq b g):DS X xq (.If c a b pos) (fun ρ=>(fT (frz ρ)).go ρ fun k=>if k=true then f ρ else g ρ) :=
 DS.of (ps_if hc.out ha.out hb.out) fun B F ρ σ H T R q=>⟨B,F,ρ,R,Res.all_mono (u0q q.out) (fun k q H' s=>by
  cases k with
  | true=>exact ⟨B,F,ρ,R.step s,⟨q⟩⟩
  | false=>exact ⟨B,F,ρ,R.step s,⟨q⟩⟩) fun x q=>errOf q⟩
theorem ds_n {i:Nat} (hN:X.N.Nodup) (he:DE X xq e fe) (hi:X.N.findIdx? (fun y=>y==x)=some i:=by rfl) (hx:Loc X.env.scope x:=by first | exact Or.inl rfl | exact Or.inr rfl) (hs:swapsWith e (some (.Name x pos')) pos.line X.env=pure false:=by rfl)
  (hf:X.fn x=true∨X.env.scope.names.lookup x=some .local:=by first | exact .inl rfl | exact .inr rfl):DS X xq (.Assign [.Name x pos'] e pos) (fun ρ=>(fe ρ).go ρ fun d=>.nx (ρ.set i (some (.val d)))) :=
 DS.of (ps_n hN he.out hi hx hs hf) fun B F ρ σ H T R q=>⟨B,F,ρ,R,Res.all_mono (u0q q.out) (fun d q v F' H' s p=>q _ F' H' ((R.step s).set p)) fun x q=>errOf q⟩
theorem u3a {i:Nat}{fn:Rho→Res OD} (hN:X.N.Nodup) (he:DN X xq e fn) (hi:X.N.findIdx? (fun y=>y==x)=some i:=by rfl) (hx:Loc X.env.scope x:=by first | exact Or.inl rfl | exact Or.inr rfl) (hs:swapsWith e (some (.Name x pos')) pos.line X.env=pure false:=by rfl)
  (hf:X.fn x=true∨X.env.scope.names.lookup x=some .local:=by first | exact .inl rfl | exact .inr rfl):DS X xq (.Assign [.Name x pos'] e pos) (fun ρ=>(fn ρ).go ρ fun o=>.nx (ρ.set i (some (.own o)))) :=
 DS.of (ps_n hN he.out hi hx hs hf) fun B F ρ σ H T R q=>⟨B,F,ρ,R,Res.all_mono (u0q q.out) (fun o q a h F' H' s n1 n2 e1 r1=>q _ F' H' ((R.step s).setOwn n1 (R.st.hh.free n2) e1 r1 fun j u w z=>by
   obtain ⟨b,hh,p1,p2,p3,p4,p5⟩:=R.own j u w
   rw [p1] at z;cases z;rw [p4] at n2;cases n2)) fun x q=>errOf q⟩
noncomputable def flatD:D→Bool
 | .non | .bl _ | .int _ | .str _ | .ty _=>true
 | _=>false
noncomputable def flatC (d:D):Res D:=if flatD d=true then .ok d else .bad
theorem Rp.flat {K:W.Frag}{F F':Hp}{v:V}{d:D} (h:Rp K F v d) (f:flatD d=true):Rp K F' v d:=by
 cases h <;> first | (cases f;done) | exact .non | exact .bl _ | exact .int _ | exact .ty _ | (exact .str (by assumption)) | exact absurd f (by simp [flatD])
theorem DE.flat (h:DE X xq e fe):DE X xq e (fun ρ=>(fe (frz ρ)).bind flatC) :=
 DE.of h.out fun B F ρ σ H Q R q=>by
  obtain ⟨F1,e1,R1⟩:=R.frz
  refine ⟨B,F1,frz ρ,R1,Res.all_mono (Res.all_bind.mp q) (fun d q v F' H' s p=>?_) fun _ e=>e.frz⟩
  unfold flatC at q
  by_cases z:flatD d=true
  ·rw [if_pos z] at q
   exact q v F H' (Stp.only R.fh s.hh) (p.flat z)
  ·rw [if_neg z] at q;exact q.elim
theorem dg_n {i:Nat} (hN:X.N.Nodup) (hi:X.N.findIdx? (fun y=>y==x)=some i:=by rfl) (hx:Loc X.env.scope x:=by first | exact Or.inl rfl | exact Or.inr rfl) (hf:X.fn x=true∨X.env.scope.names.lookup x=some .local:=by first | exact .inl rfl | exact .inr rfl) :
  DG X (.Name x pos) [i] (fun d ρ=>.ok (ρ.set i (some (.val d)))) :=
 ⟨fun pins s σ H v u Q I rv ⟨B,F,ρ,d,R,p,q⟩=>pg_n hN hi hx hf pins s σ H v u Q I rv (q (σ.set i (some v)) (R.set p) (by simp) fun j hj=>by
  rw [u0x (fun z=>hj (by simp [z]))])⟩
theorem u2k:DGs X [] [] (fun ds ρ=>match ds with | []=>.ok ρ | _=>.bad) :=
 ⟨fun pins s σ H vs us Q I rv ⟨B,F,ρ,ds,R,p,q⟩=>pgs_nil pins s σ H vs us Q I rv (by
  cases p with
  | nil=>exact ⟨rfl,q σ R rfl fun _ _=>rfl⟩
  | cons _ _=>exact q.elim)⟩
theorem u0t {ix jx:List Nat}{tgs:List Expr}{g:D→Rho→Res Rho}{gs:List D→Rho→Res Rho} (h1:DG X e ix g) (h2:DGs X tgs jx gs) (hs:(assignEach (e::tgs) X.env).map (·.2)=assign e X.env::(assignEach tgs X.env).map (·.2):=by rfl) :
  DGs X (e::tgs) (ix++jx) (fun ds ρ=>match ds with | d::r=>(g d ρ).bind (gs r) | _=>.bad) :=
 ⟨fun pins s σ H vs us Q I rv ⟨B,F,ρ,ds,R,p,q⟩=>v0n h1.out h2.out hs pins s σ H vs us Q I rv (by
  cases p with
  | nil=>exact q.elim
  | cons p1 p2 =>
   refine ⟨_,_,rfl,B,F,ρ,_,R,p1,Res.all_mono (Res.all_bind.mp q) (fun ρ1 q1 σ1 R1 l1 k1=>⟨B,F,ρ1,_,R1,p2,Res.all_mono q1 (fun ρ2 q2 σ2 R2 l2 k2=>q2 σ2 R2 (l2.trans l1) fun j hj=>?_) fun _ e=>e⟩) fun _ e=>e⟩
   rw [k2 j fun z=>hj (List.mem_append_right _ z),k1 j fun z=>hj (List.mem_append_left _ z)])⟩
noncomputable def asT (n:Nat):D→Res (List D)
 | .tup ds=>if ds.length=n then .ok ds else .bad
 | _=>.bad
theorem u3Q {k n:Nat}{ix:List Nat}{tgs:List Expr}{gs:List D→Rho→Res Rho} (hc:X.calm=true) (h:DGs X tgs ix gs) (hn:(assignEach tgs X.env).length=n:=by rfl) (hst:(assignEach tgs X.env).findIdx? (·.1)=none:=by rfl) :
  DG X (.Tuple tgs k pos) ix (fun d ρ=>(asT n d).bind fun ds=>gs ds ρ) :=
 ⟨fun pins s σ H v u Q I rv ⟨B,F,ρ,d,R,p,q⟩=>pg_tup hc h.out hn hst pins s σ H v u Q I rv (by
  have q1:=Res.all_bind.mp q
  cases p with
  | @tup a xs ds hq hs =>
   unfold asT at q1
   dsimp only at q1
   by_cases z:ds.length=n
   ·rw [if_pos z] at q1
    exact ⟨a,xs,rfl,R.fh.seqT hq,hs.length.trans z,B,F,ρ,ds,R,hs,q1⟩
   ·rw [if_neg z] at q1;exact q1.elim
  | _=>exact q1.elim)⟩
theorem u9z {k:Nat}{tgs:List Expr}{ix:List Nat}{g:D→Rho→Res Rho} (he:DE X xq e fe) (hg:DG X (.Tuple tgs k pos') ix g) (hs:swapsWithSole [Expr.Tuple tgs k pos'] e pos.line X.env=pure false:=by rfl) (hw:swappedStores [Expr.Tuple tgs k pos'] e X.env=pure none:=by rfl) :
  DS X xq (.Assign [.Tuple tgs k pos'] e pos) (fun ρ=>(fe ρ).go ρ fun d=>(noE (g d ρ)).go ρ fun ρ'=>.nx ρ') :=
 DS.of (u8E he.out hg.out hs hw) fun B F ρ σ H T R q=>⟨B,F,ρ,R,Res.all_mono (u0q q.out) (fun d q v F' H' s p=>⟨B,F',ρ,d,R.step s,p,by
  have q1:=u0q q
  generalize g d ρ=r at q1
  cases r with
  | ok ρ'=>exact fun σ' R' l k=>q1 σ' F' H' R'
  | err x=>exact q1
  | bad=>exact q1⟩) fun x q=>errOf q⟩
theorem Stp.rebase {B:Hp×Hp}{F H F' H':Hp} (st:Stp B.1 B.2 F H) (s:Stp F B.2 F' H'):Stp B.1 B.2 F' H' :=
 ⟨st.ff.trans s.ff,s.fh,s.hh,fun a n z=>s.no a (st.no a n z) z⟩
theorem Rel.rebase {K:W.Frag}{B:Hp×Hp}{ρ:Rho}{σ:St}{F H:Hp} (R:Rel K B ρ σ F H):Rel K (F,B.2) ρ σ F H :=
 ⟨⟨Same.refl F,R.st.fh,R.st.hh,fun _ n _=>n⟩,R.len,R.val,R.own,R.dis⟩
theorem Rel.unbase {K:W.Frag}{B:Hp×Hp}{ρ:Rho}{σ:St}{F H F' H':Hp} (st:Stp B.1 B.2 F H) (R:Rel K (F,B.2) ρ σ F' H'):Rel K B ρ σ F' H' :=
 ⟨st.rebase R.st,R.len,R.val,R.own,R.dis⟩
theorem OkS.rebase {K:W.Frag}{B:Hp×Hp}{F H:Hp}{T:Ends}{o:Out} (st:Stp B.1 B.2 F H) (q:OkS K xq B T o):OkS K xq (F,B.2) T o:=⟨by
 have q:=q.out
 cases o with
 | nx ρ=>exact fun σ F' H' R=>q σ F' H' (R.unbase st)
 | rt d=>exact fun v F' H' s p=>q v F' H' (st.rebase s) p
 | bk ρ=>exact fun σ F' H' R=>q σ F' H' (R.unbase st)
 | ct ρ=>exact fun σ F' H' R=>q σ F' H' (R.unbase st)
 | er x ρ=>exact fun v σ F' H' R p=>q v σ F' H' (R.unbase st) p
 | bad=>exact q⟩
noncomputable def forD (g:D→Rho→Res Rho) (tb:Rho→Out):List D→Rho→Out
 | [],ρ=>.nx ρ
 | d::ds,ρ=>(noE (g d ρ)).go ρ fun ρ1=>match tb ρ1 with
  | .nx ρ2=>forD g tb ds ρ2
  | .ct ρ2=>forD g tb ds ρ2
  | .bk ρ2=>.nx ρ2
  | o=>o
theorem u1D {iter:Expr}{body:List Stmt}{fi:Rho→Res (List D)}{ix:List Nat}{g:D→Rho→Res Rho}{tb:Rho→Out} (hc:X.calm=true) (hi:DI X xq tg iter fi) (hg:DG X tg ix g) (hb:DB X xq body tb)
  (hp:PassesOwn (model X.prog X.w) X.A X.env X.xe:=by exact PassesOwn.never) (hs:∀ x,foldedSetIterable iter X.env x=pure x:=by intro _;rfl) :
  DS X xq (.For tg iter body [] pos) (fun ρ=>(fi ρ).go ρ fun ds=>forD g tb ds ρ) :=
 DS.of (v1s hp hc hi.out hg.out hb.out hs) fun B F ρ σ H T R q=>⟨B,F,ρ,R,Res.all_mono (u0q q.out) (fun ds q J F0 H0 s0 fd=>by
  have R0:=R.step s0
  obtain ⟨C,hC⟩:∃ C:Hp×Hp,C=(F0,B.2):=⟨_,rfl⟩
  refine ⟨fun i m σ' H'=>m=ds.length - i∧i≤ds.length∧∃ ρ' F',Rel X.K C ρ' σ' F' H'∧OkS X.K xq C T (forD g tb (ds.drop i) ρ'),
   ⟨ds.length,rfl,Nat.zero_le _,ρ,F0,hC ▸ R0.rebase,hC ▸ OkS.rebase R0.st ⟨q⟩⟩,?_⟩
  rintro i m σ' H' ⟨rfl,hi,ρ',F',R',q'⟩
  have e0:Same F0 F':=by have:=R'.st.ff;rw [hC] at this;exact this
  by_cases hlt:i<ds.length
  ·right
   refine ⟨fd.go i H' (e0.trans R'.fh) hlt,fun σ2 H2=>i+1≤ds.length∧∃ ρ2 F2,Rel X.K C ρ2 σ2 F2 H2∧OkS X.K xq C T (forD g tb (ds.drop (i+1)) ρ2),
    fun σ2 H2 p=>⟨ds.length - (i+1),by omega,rfl,p.1,p.2⟩,fun x H2 y=>?_⟩
   have hd:ds[i]?=some ds[i]:=by simp [hlt]
   obtain ⟨F2,s2,p2⟩:=fd.yld i F' H' x H2 _ e0 R'.fh hd y
   have eqn:ds.drop i=ds[i]::ds.drop (i+1):=by rw [List.drop_eq_getElem_cons hlt]
   rw [eqn] at q'
   have q2:=u0q q'.out
   refine ⟨C,F2,ρ',_,R'.step s2,p2,?_⟩
   generalize g ds[i] ρ'=r at q2
   cases r with
   | err x=>exact q2
   | bad=>exact q2
   | ok ρ1 =>
    intro σ3 R3 l3 k3
    refine ⟨C,F2,ρ1,R3,⟨?_⟩⟩
    have q3:(match tb ρ1 with | .nx ρ2=>forD g tb (ds.drop (i+1)) ρ2 | .ct ρ2=>forD g tb (ds.drop (i+1)) ρ2 | .bk ρ2=>.nx ρ2 | o=>o).all _ _ _ _ _:=q2
    generalize tb ρ1=o at q3
    cases o with
    | nx ρ2=>exact fun σ4 F4 H4 R4=>⟨hlt,ρ2,F4,R4,⟨q3⟩⟩
    | ct ρ2=>exact fun σ4 F4 H4 R4=>⟨hlt,ρ2,F4,R4,⟨q3⟩⟩
    | bk ρ2=>exact q3
    | rt d=>exact q3
    | er x r=>exact q3
    | bad=>exact q3
  ·left
   have e:i=ds.length:=by omega
   subst e
   rw [List.drop_length] at q'
   exact ⟨fd.stop _ H' (e0.trans R'.fh) (Nat.le_refl _),q'.out σ' F' H' R'⟩) fun x q=>errOf q⟩
end
section
variable {X:Cx}
theorem Inv.lstR {pins:LO}{σ:St}{H:Hp}{s:Shared}{l:Addr}{xs:List V} (I:Inv X pins σ H s) (h:Rd H l (.lst xs)) :
  xs.length≤sizeLine∧∃ (its:List Value) (n:Nat),Vals xs its∧xs.length=its.length∧s.heap.get? l=some { cls:=.type "list",data:=.seq its.toArray n }:=by
 obtain ⟨z,its,n,r,e⟩:=h.ok I.hok
 exact ⟨z,its,n,r,r.length,e⟩
def rCatR:R2:=fun x y H Q=>∃ l b xs zs,x=.ref l∧y=.ref b∧Rd H l (.lst xs)∧Rd H b (.lst zs)∧xs.length+zs.length≤sizeLine∧∀ p,H p=none→Q (.ref p) (upd H p (.lst (xs++zs)))
theorem op_catR:OpR X (binaryOp .Add) rCatR:=by
 intro pins s σ H x y v u Q I rx ry h
 obtain ⟨l,b,xs,zs,rfl,rfl,hH,hB,hz,q⟩:=h
 cases rx
 cases ry
 obtain ⟨z,its,n,r,hl,e⟩:=I.lstR hH
 obtain ⟨z2,its2,n2,r2,hl2,e2⟩:=I.lstR hB
 refine PySem.P.add_list e e2 ?_ (by rw [List.size_toArray,List.size_toArray,← hl,← hl2];exact hz)
 rw [show its.toArray++its2.toArray=(its++its2).toArray by simp]
 exact ⟨.ref _,_,I.lnew (t':=s.toks) (r.append r2) (by rw [List.length_append];exact hz),rfl,q _ I.fresh⟩
noncomputable def gd {α:Type} (c:Prop) [Decidable c] (r:Res α):Res α:=if c then r else .bad
theorem u3L {α:Type}{c:Prop} [Decidable c] {r:Res α}{P:α→Prop}{E:D→Prop} (h:(gd c r).all P E):c∧r.all P E:=by
 unfold gd at h
 by_cases q:c
 ·rw [if_pos q] at h;exact ⟨q,h⟩
 ·rw [if_neg q] at h;exact h.elim
@[simp] theorem u0F {α:Type}{c:Prop} [Decidable c] {r:Res α} (h:c):gd c r=r:=if_pos h
noncomputable def dAdd:D→D→Res D
 | .int i,.int j=>.ok (.int (i+j))
 | .str x,.str y=>gd (x.length+y.length≤sizeLine) (.ok (.str (x++y)))
 | .lst xs,.lst ys=>gd (xs.length+ys.length≤sizeLine) (.ok (.lst (xs++ys)))
 | _,_=>.bad
theorem u3V (x y:Str):(x++y).length=x.length+y.length:=by
 show (x.cps++y.cps).size=_
 rw [Array.size_append];rfl
theorem u1f:OpR X (binaryOp .Add) (rD X.K dAdd):=by
 intro pins s σ H x y v u Q I rx ry ⟨F,dx,dy,fh,px,py,q⟩
 cases px with
 | int i =>
  cases py with
  | int j=>exact op_add pins s σ H _ _ v u Q I rx ry ⟨i,j,rfl,rfl,q _ F H (Stp.refl fh) (.int _)⟩
  | _=>exact q.elim
 | str hx =>
  cases py with
  | str hy =>
   obtain ⟨hz,q⟩:=u3L q
   exact u7U pins s σ H _ _ v u Q I rx ry ⟨_,_,rfl,rfl,hz,q _ F H (Stp.refl fh) (.str (by rw [u3V];exact hz))⟩
  | _=>exact q.elim
 | lst hx rx' =>
  cases py with
  | lst hy ry' =>
   obtain ⟨hz,q⟩:=u3L q
   exact op_catR pins s σ H _ _ v u Q I rx ry ⟨_,_,_,_,rfl,rfl,hx.same fh,hy.same fh,by rw [rx'.length,ry'.length];exact hz,fun p n =>
    q _ _ _ (Stp.new fh n) (.lst (.inl u0g) ((rx'.append ry').same (Stp.new fh n).ff))⟩
  | _=>exact q.elim
 | _=>exact q.elim
noncomputable def dI (C:Int→Int→Prop) [∀ i j,Decidable (C i j)] (g:Int→Int→D):D→D→Res D
 | .int i,.int j=>gd (C i j) (.ok (g i j))
 | _,_=>.bad
theorem v0u {f:Value→Value→Sem Value}{C:Int→Int→Prop} [∀ i j,Decidable (C i j)] {g:Int→Int→V}{g':Int→Int→D} (h:OpR X f (rI C g)) (hg:∀ F i j,Rp X.K F (g i j) (g' i j)):OpR X f (rD X.K (dI C g')):=by
 intro pins s σ H x y v u Q I rx ry ⟨F,dx,dy,fh,px,py,q⟩
 cases px with
 | int i =>
  cases py with
  | int j =>
   obtain ⟨hz,q⟩:=u3L q
   exact h pins s σ H _ _ v u Q I rx ry ⟨i,j,rfl,rfl,hz,q _ F H (Stp.refl fh) (hg F i j)⟩
  | _=>exact q.elim
 | _=>exact q.elim
noncomputable def dI0 (g:Int→Int→D):D→D→Res D
 | .int i,.int j=>.ok (g i j)
 | _,_=>.bad
theorem u5y {f:Value→Value→Sem Value}{g:Int→Int→V}{g':Int→Int→D} (h:OpR X f (rI0 g)) (hg:∀ F i j,Rp X.K F (g i j) (g' i j)):OpR X f (rD X.K (dI0 g')):=by
 intro pins s σ H x y v u Q I rx ry ⟨F,dx,dy,fh,px,py,q⟩
 cases px with
 | int i =>
  cases py with
  | int j=>exact h pins s σ H _ _ v u Q I rx ry ⟨i,j,rfl,rfl,q _ F H (Stp.refl fh) (hg F i j)⟩
  | _=>exact q.elim
 | _=>exact q.elim
noncomputable instance (i j:Int):Decidable (CMul i j):=by unfold CMul;infer_instance
noncomputable instance (i j:Int):Decidable (CDivB i j):=by unfold CDivB;infer_instance
noncomputable instance (i j:Int):Decidable (CPow i j):=by unfold CPow;infer_instance
noncomputable abbrev dSub:=dI0 fun i j=>.int (i - j)
noncomputable abbrev dMul:=dI CMul fun i j=>.int (i*j)
noncomputable abbrev dDiv:=dI CDivB fun i j=>.int (i / j)
noncomputable abbrev dMod:=dI (fun _ j=>0<j) fun i j=>.int (i%j)
noncomputable abbrev dPow:=dI CPow fun i j=>.int (i^j.toNat)
noncomputable abbrev dLt:=dI0 fun i j=>.bl (decide (i<j))
noncomputable abbrev dLe:=dI0 fun i j=>.bl (decide (i≤j))
noncomputable abbrev dGt:=dI0 fun i j=>.bl (decide (j<i))
noncomputable abbrev dGe:=dI0 fun i j=>.bl (decide (j≤i))
theorem o_sub:OpR X (binaryOp .Sub) (rD X.K dSub):=u5y op_sub fun _ _ _=>.int _
theorem o_mul:OpR X (binaryOp .Mult) (rD X.K dMul):=v0u op_mul fun _ _ _=>.int _
theorem o_div:OpR X (binaryOp .FloorDiv) (rD X.K dDiv):=v0u v0s fun _ _ _=>.int _
theorem u1X:OpR X (binaryOp .Mod) (rD X.K dMod):=v0u op_mod fun _ _ _=>.int _
theorem o_pow:OpR X (binaryOp .Pow) (rD X.K dPow):=v0u op_pow fun _ _ _=>.int _
theorem o_lt:OpR X (compareOp .Lt) (rD X.K dLt):=u5y op_lt fun _ _ _=>.bl _
theorem o_le:OpR X (compareOp .LtE) (rD X.K dLe):=u5y op_le fun _ _ _=>.bl _
theorem o_gt:OpR X (compareOp .Gt) (rD X.K dGt):=u5y op_gt fun _ _ _=>.bl _
theorem o_ge:OpR X (compareOp .GtE) (rD X.K dGe):=u5y op_ge fun _ _ _=>.bl _
noncomputable def isN:D→Bool
 | .non=>true
 | _=>false
noncomputable def dIs:D→D→Res D
 | d,.non=>.ok (.bl (isN d))
 | _,_=>.bad
noncomputable def dIsNot:D→D→Res D
 | d,.non=>.ok (.bl (!isN d))
 | _,_=>.bad
theorem Rp.isN {K:W.Frag}{F:Hp}{v:V}{d:D} (h:Rp K F v d):decide (v=.non)=L2.isN d:=by
 cases h <;> first | rfl | exact decide_eq_false fun e=>nomatch e
theorem o_isnot:OpR X (compareOp .IsNot) (rD X.K dIsNot):=by
 intro pins s σ H x y v u Q I rx ry ⟨F,dx,dy,fh,px,py,q⟩
 cases py with
 | non =>
  have q':∀ v F' H',Stp F H F' H'→Rp X.K F' v (.bl (!isN dx))→Q v H':=by cases dx <;> exact q
  exact op_notN pins s σ H _ _ v u Q I rx ry ⟨rfl,q' _ F H (Stp.refl fh) (by rw [px.isN];exact .bl _)⟩
 | _=>cases dx <;> exact q.elim
mutual
noncomputable def D.py:D→Option PyData
 | .non=>some .none
 | .bl b=>some (.bool b)
 | .int i=>some (.int i)
 | .str z=>some (.str z)
 | .lst ds=>(D.pys ds).map .list
 | .tup ds=>(D.pys ds).map .tuple
 | _=>none
noncomputable def D.pys:List D→Option (List PyData)
 | []=>some []
 | d::ds=>match D.py d,D.pys ds with
  | some a,some as=>some (a::as)
  | _,_=>none
end
mutual
theorem Rp.rd {K:W.Frag}{H:Hp}:∀ {v:V}{d:D}{a:PyData},Rp K H v d→d.py=some a→RdV K H v a
 | _,_,_,.non,e=>by simp only [D.py] at e;cases e;exact .non
 | _,_,_,.bl b,e=>by simp only [D.py] at e;cases e;exact .bl b
 | _,_,_,.int i,e=>by simp only [D.py] at e;cases e;exact .int i
 | _,_,_,.str _,e=>by simp only [D.py] at e;cases e;exact .str _
 | _,_,_,.ty _,e=>by simp only [D.py] at e;cases e
 | _,_,_,.lst (ds:=ds) hq hs,e=>by
  simp only [D.py] at e
  cases q:D.pys ds with
  | none=>rw [q] at e;cases e
  | some as=>rw [q] at e;cases e;exact .lst (.inl hq) (Rps.rd hs q)
 | _,_,_,.tup (ds:=ds) hq hs,e=>by
  simp only [D.py] at e
  cases q:D.pys ds with
  | none=>rw [q] at e;cases e
  | some as=>rw [q] at e;cases e;exact .tup hq (Rps.rd hs q)
 | _,_,_,.dK _ _,e=>by simp only [D.py] at e;cases e
 | _,_,_,.ins _ _,e=>by simp only [D.py] at e;cases e
 | _,_,_,.exc _ _ _,e=>by simp only [D.py] at e;cases e
 | _,_,_,.dn _ _,e=>by simp only [D.py] at e;cases e
theorem Rps.rd {K:W.Frag}{H:Hp}:∀ {vs:List V}{ds:List D}{as:List PyData},Rps K H vs ds→D.pys ds=some as→RdVs K H vs as
 | _,_,_,.nil,e=>by simp only [D.pys] at e;cases e;exact .nil
 | _,_,_,.cons (d:=d) (ds:=ds) h hs,e=>by
  simp only [D.pys] at e
  cases q:d.py with
  | none=>rw [q] at e;cases e
  | some a =>
   cases q2:D.pys ds with
   | none=>rw [q,q2] at e;cases e
   | some as=>rw [q,q2] at e;cases e;exact .cons (Rp.rd h q) (Rps.rd hs q2)
end
noncomputable def cmpD (d:D):Res PyData:=match d.py with
 | some a=>gd (SeqAt.shaped a=true) (.ok a)
 | none=>.bad
theorem u4X {d:D}{P:PyData→Prop}{E:D→Prop} (h:(cmpD d).all P E):∃ a,d.py=some a∧SeqAt.shaped a=true∧P a:=by
 unfold cmpD at h
 split at h
 ·rename_i a q;obtain ⟨hz,h⟩:=u3L h;exact ⟨a,q,hz,h⟩
 ·exact h.elim
noncomputable def dEq (x y:D):Res D:=(cmpD x).bind fun a=>(cmpD y).bind fun b=>.ok (.bl (PyData.eqv a b))
noncomputable def dNe (x y:D):Res D:=(cmpD x).bind fun a=>(cmpD y).bind fun b=>.ok (.bl (!PyData.eqv a b))
theorem o_eq (hu:X.A.units+64<cLine):OpR X (compareOp .Eq) (rD X.K dEq):=by
 intro pins s σ H x y v u Q I rx ry ⟨F,dx,dy,fh,px,py,q⟩
 obtain ⟨a,ea,sa,q⟩:=u4X (Res.all_bind.mp q)
 obtain ⟨b,eb,sb,q⟩:=u4X (Res.all_bind.mp q)
 exact op_eqD hu pins s σ H _ _ v u Q I rx ry ⟨a,b,(px.rd ea).same fh,(py.rd eb).same fh,sa,sb,q _ F H (Stp.refl fh) (.bl _)⟩
theorem o_ne (hu:X.A.units+64<cLine):OpR X (compareOp .NotEq) (rD X.K dNe):=by
 intro pins s σ H x y v u Q I rx ry ⟨F,dx,dy,fh,px,py,q⟩
 obtain ⟨a,ea,sa,q⟩:=u4X (Res.all_bind.mp q)
 obtain ⟨b,eb,sb,q⟩:=u4X (Res.all_bind.mp q)
 exact op_neD hu pins s σ H _ _ v u Q I rx ry ⟨a,b,(px.rd ea).same fh,(py.rd eb).same fh,sa,sb,q _ F H (Stp.refl fh) (.bl _)⟩
noncomputable def dIx:D→D→Res D
 | .lst ds,.int i=>match atI ds i with
  | some d=>.ok d
  | none=>.bad
 | .tup ds,.int i=>match atI ds i with
  | some d=>.ok d
  | none=>.bad
 | .str z,.int i=>match atI z.cps.toList i with
  | some c=>.ok (.str ⟨#[c]⟩)
  | none=>.bad
 | _,_=>.bad
theorem u9Q {K:W.Frag}{F:Hp}{xs:List V}{ds:List D}{i:Int}{d:D} (r:Rps K F xs ds) (h:atI ds i=some d):∃ v,atI xs i=some v∧Rp K F v d:=by
 unfold atI at h ⊢
 rw [r.length]
 cases q:ixN ds.length i with
 | none=>rw [q] at h;cases h
 | some j=>rw [q] at h;exact r.get h
theorem x_ix:IxR X (rD X.K dIx):=by
 intro value slice pins s σ H x y v u Q I rx ry ⟨F,dx,dy,fh,px,py,q⟩ hsub
 cases py with
 | int i =>
  cases px with
  | lst hx rs =>
   rename_i ds
   cases e:atI ds i with
   | none=>simp only [dIx,e] at q;exact q.elim
   | some d =>
    simp only [dIx,e] at q
    obtain ⟨w,h1,h2⟩:=u9Q rs e
    exact u9d value slice pins s σ H _ _ v u Q I rx ry ⟨_,_,i,w,rfl,rfl,.inl (hx.same fh),h1,q _ F H (Stp.refl fh) h2⟩ hsub
  | tup hx rs =>
   rename_i ds
   cases e:atI ds i with
   | none=>simp only [dIx,e] at q;exact q.elim
   | some d =>
    simp only [dIx,e] at q
    obtain ⟨w,h1,h2⟩:=u9Q rs e
    exact ix_tup value slice pins s σ H _ _ v u Q I rx ry ⟨_,_,i,w,rfl,rfl,fh.seqT hx,h1,q _ F H (Stp.refl fh) h2⟩ hsub
  | str hz =>
   rename_i z
   cases e:atI z.cps.toList i with
   | none=>simp only [dIx,e] at q;exact q.elim
   | some c =>
    simp only [dIx,e] at q
    exact ix_str value slice pins s σ H _ _ v u Q I rx ry ⟨_,i,c,rfl,rfl,hz,e,q _ F H (Stp.refl fh) (.str u3C)⟩ hsub
  | _=>exact q.elim
 | _=>cases px <;> exact q.elim
end
noncomputable def items:D→Res (List D)
 | .lst ds=>.ok ds
 | .tup ds=>.ok ds
 | .str z=>.ok (chars z)
 | _=>.bad
section
variable {X:Cx}{xq:XQ}{tg l:Expr}{fl:Rho→Res D}{fa:Rho→Res (List D)}{pos p:Pos}
theorem u1k (hl:DE X xq l fl):DI X xq tg l (fun ρ=>(fl ρ).bind items):=⟨fun pins s σ H R I z9=>un5 z9 fun B F ρ R' q=>by
 have q0:=Res.all_bind.mp q
 cases e:fl ρ with
 | bad=>rw [e] at q0;exact q0.elim
 | err x =>
  rw [e] at q0
  exact u8N hl.out pins s σ H R I ⟨B,F,ρ,R',by rw [e];exact q0⟩
 | ok d =>
  rw [e] at q0
  have go:∀ {T:VK},(∀ v F' H',Stp F H F' H'→Rp X.K F' v d→T v H')→liftE X.K xq fl σ H T:=fun k=>⟨B,F,ρ,R',by rw [e];exact k⟩
  cases d with
  | lst ds =>
   refine u8N hl.out pins s σ H R I (go fun v F' H' st p=>?_)
   cases p with
   | lst hq hs=>exact ⟨_,rfl,⟨_,.inl (hq.same st.fh)⟩,q0 _ F' H' st (Feed.list (.inl hq) hs)⟩
  | tup ds =>
   refine pi_tup hl.out pins s σ H R I (go fun v F' H' st p=>?_)
   cases p with
   | tup hq hs=>exact ⟨_,rfl,⟨_,st.fh.seqT hq⟩,q0 _ F' H' st (Feed.tup hq hs)⟩
  | str z =>
   refine pi_str hl.out pins s σ H R I (go fun v F' H' st p=>?_)
   cases p with
   | str hz=>exact ⟨z,rfl,q0 _ F' H' st (Feed.str z)⟩
  | _=>exact q0.elim⟩
noncomputable def rng1:List D→Res (List D)
 | [.int j]=>gd (-(2^62)≤j∧j<2^62) (.ok (intL 0 j.toNat))
 | _=>.bad
noncomputable def rng2:List D→Res (List D)
 | [.int i,.int j]=>gd (-(2^62)≤i∧i<2^62∧-(2^62)≤j∧j<2^62) (.ok (intL i (j - i).toNat))
 | _=>.bad
theorem rps1 {K:W.Frag}{F:Hp}{vs:List V}{d:D} (h:Rps K F vs [d]):∃ v,vs=[v]∧Rp K F v d:=by
 cases h with
 | cons h hs=>cases hs;exact ⟨_,rfl,h⟩
theorem rps2 {K:W.Frag}{F:Hp}{vs:List V}{d e:D} (h:Rps K F vs [d,e]):∃ v w,vs=[v,w]∧Rp K F v d∧Rp K F w e:=by
 cases h with
 | cons h hs=>obtain ⟨w,rfl,q⟩:=rps1 hs;exact ⟨_,w,rfl,h,q⟩
theorem u9G {a:Expr} (hm:X.mg "range"=none) (ha:DA X xq [a] fa) (hg:Gl X "range":=by rfl):DI X xq tg (.Call (.Name "range" p) [a] [] pos) (fun ρ=>(fa ρ).bind rng1) :=
 ⟨fun pins s σ H R I z9=>un5 z9 fun B F ρ R' q=>u5s hg hm ha.out (u0k (u0h ha.ns).1) pins s σ H R I (seqA R' q fun ds vs F1 H1 s1 R1 p1 q1=>by
  unfold rng1 at q1
  split at q1
  ·rename_i j
   obtain ⟨⟨h1,h2⟩,q2⟩:=u3L q1
   obtain ⟨v,rfl,pv⟩:=rps1 p1
   cases pv
   exact ⟨j,rfl,h1,h2,q2 _ F1 H1 s1 (Feed.rng 0 _)⟩
  ·exact q1.elim)⟩
theorem u9F {a b:Expr} (hm:X.mg "range"=none) (ha:DA X xq [a,b] fa) (hg:Gl X "range":=by rfl):DI X xq tg (.Call (.Name "range" p) [a,b] [] pos) (fun ρ=>(fa ρ).bind rng2) :=
 ⟨fun pins s σ H R I z9=>un5 z9 fun B F ρ R' q=>u8M hg hm ha.out (by rw [u0k (u0h ha.ns).1,u0k (u0h (u0h ha.ns).2).1];rfl) (u0k (u0h (u0h ha.ns).2).1) pins s σ H R I (seqA R' q fun ds vs F1 H1 s1 R1 p1 q1=>by
  unfold rng2 at q1
  split at q1
  ·rename_i i j
   obtain ⟨⟨h1,h2,h3,h4⟩,q2⟩:=u3L q1
   obtain ⟨v,w,rfl,pv,pw⟩:=rps2 p1
   cases pv
   cases pw
   exact ⟨i,j,rfl,⟨h1,h2,h3,h4⟩,q2 _ F1 H1 s1 (Feed.rng i _)⟩
  ·exact q1.elim)⟩
noncomputable def enumL (ds:List D):List D:=ds.zipIdx.map fun p=>.tup [.int (p.2:Nat),p.1]
theorem Feed.enum {K:W.Frag}{F:Hp}{a:Addr}{xs:List V}{ds:List D} (h:SqL K F a xs) (r:Rps K F xs ds):Feed K F (Ite K a) (enumL ds) where
 go i H e hi:=by
  have hi':i<xs.length:=by rw [r.length];simpa [enumL] using hi
  exact ⟨xs,xs[i],e.seq h,by simp [hi']⟩
 yld i F1 H x H' d e1 e2 hd y:=by
  obtain ⟨p,v,hp,rfl,rfl,y⟩:=y
  have hv:xs[i]?=some v:=y xs ((e1.trans e2).seq h)
  have hd2:∃ d0,ds[i]?=some d0∧d=.tup [.int (i:Nat),d0]:=by
   unfold enumL at hd
   rw [List.getElem?_map,List.getElem?_zipIdx] at hd
   cases q:ds[i]? with
   | none=>rw [q] at hd;cases hd
   | some d0=>rw [q] at hd;simp at hd;exact ⟨d0,rfl,hd.symm⟩
  obtain ⟨d0,q0,rfl⟩:=hd2
  obtain ⟨w,hw,pw⟩:=r.get q0
  rw [hv] at hw;cases hw
  have s:=Stp.new (o:=.tup [.int (i:Nat),v]) e2 hp
  exact ⟨_,s,.tup (.inl (.inl u0g)) (.cons (.int _) (.cons (pw.same (e1.trans s.ff)) .nil))⟩
 stop i H e hi:=⟨xs,e.seq h,by rw [r.length];simpa [enumL] using hi⟩
noncomputable def enum1:List D→Res (List D)
 | [.lst ds]=>.ok (enumL ds)
 | _=>.bad
theorem di_enum {es:List Expr}{k:Nat}{tp:Pos}{a:Expr} (hm:X.mg "enumerate"=none) (ha:DA X xq [a] fa) (hg:Gl X "enumerate":=by rfl):DI X xq (.Tuple es k tp) (.Call (.Name "enumerate" p) [a] [] pos) (fun ρ=>(fa ρ).bind enum1) :=
 ⟨fun pins s σ H R I z9=>un5 z9 fun B F ρ R' q=>pi_enum hg hm ha.out (u0k (u0h ha.ns).1) pins s σ H R I (seqA R' q fun ds vs F1 H1 s1 R1 p1 q1=>by
  unfold enum1 at q1
  split at q1
  ·obtain ⟨v,rfl,pv⟩:=rps1 p1
   cases pv with
   | lst hq hs=>exact ⟨_,_,rfl,.inl (hq.same R1.fh),q1 _ F1 H1 s1 (Feed.enum (.inl hq) hs)⟩
  ·exact q1.elim)⟩
end
noncomputable def rhoC (k:Nat) (outs:List Nat) (ρ:Rho):Rho:=List.replicate k none++outs.map fun j=>(ρ[j]?).join
theorem getC {α:Type}{k:Nat}{outs:List Nat}{l:List (Option α)}{i:Nat}{x:α} (h:(List.replicate k none++outs.map fun j=>(l[j]?).join)[i]?=some (some x)):k≤i∧∃ j,outs[i - k]?=some j∧l[j]?=some (some x):=by
 rw [List.getElem?_append] at h
 split at h
 ·rename_i q
  rw [List.getElem?_replicate] at h
  split at h <;> simp at h
 ·rename_i q
  simp only [List.length_replicate] at h q
  refine ⟨by omega,?_⟩
  rw [List.getElem?_map] at h
  cases e:outs[i - k]? with
  | none=>rw [e] at h;cases h
  | some j =>
   rw [e] at h
   refine ⟨j,rfl,?_⟩
   simp only [Option.map_some,Option.some.injEq] at h
   cases e2:l[j]? with
   | none=>rw [e2] at h;cases h
   | some y=>rw [e2] at h;simpa using h
theorem atC {α:Type}{k:Nat}{outs:List Nat}{l:List (Option α)}{i j:Nat} (hi:k≤i) (h:outs[i - k]?=some j):(List.replicate k none++outs.map fun j=>(l[j]?).join)[i]?=some ((l[j]?).join):=by
 rw [List.getElem?_append_right (by simpa using hi),List.length_replicate,List.getElem?_map,h];rfl
theorem Rel.comp {K:W.Frag}{B:Hp×Hp}{ρ:Rho}{σ:St}{F H:Hp}{k:Nat}{outs:List Nat} (R:Rel K B ρ σ F H) (nd:outs.Nodup):Rel K B (rhoC k outs ρ) (stC k outs σ) F H where
 st:=R.st
 len:=by unfold stC rhoC;simp
 val i d e:=by
  obtain ⟨hi,j,h1,h2⟩:=getC e
  obtain ⟨v,q1,q2⟩:=R.val j d h2
  exact ⟨v,by unfold stC;rw [atC hi h1,q1];rfl,q2⟩
 own i o e:=by
  obtain ⟨hi,j,h1,h2⟩:=getC e
  obtain ⟨a,h,q1,q2⟩:=R.own j o h2
  exact ⟨a,h,by unfold stC;rw [atC hi h1,q1];rfl,q2⟩
 dis i i' o u a e e' x y:=by
  obtain ⟨hi,j,h1,h2⟩:=getC e
  obtain ⟨hi',j',h1',h2'⟩:=getC e'
  obtain ⟨_,jx,g1,g2⟩:=getC (l:=σ) x
  obtain ⟨_,jy,g1',g2'⟩:=getC (l:=σ) y
  rw [h1] at g1;cases g1
  rw [h1'] at g1';cases g1'
  have ej:=R.dis j j' o u a h2 h2' g2 g2'
  subst ej
  have:=(List.getElem?_inj (List.getElem?_eq_some_iff.mp h1).1 nd).mp (h1.trans h1'.symm)
  omega
noncomputable def compD (g:D→Rho→Res Rho) (fT:Rho→Res Bool) (fe:Rho→Res D) (ρ:Rho):List D→Res (List D)
 | []=>.ok []
 | d::ds=>(noE (g d ρ)).bind fun ρ1=>(noE (fT (frz ρ1))).bind fun b=>if b=true then (noE (fe ρ1)).bind fun y=>(compD g fT fe ρ ds).bind fun ys=>.ok (y::ys) else compD g fT fe ρ ds
def xqF:XQ:=fun _ _ _=>False
structure DF (X:Cx) (xq:XQ) (es:List Expr) (f:Rho→Res Bool):Prop where
 out:PIf X es (liftT X.K xq f)
theorem u1L {α:Type}{r:Res α}{P:α→Prop}{E E':D→Prop} (h:(noE r).all P E):r.all P E':=by
 cases r with
 | ok a=>exact h
 | err x=>exact h.elim
 | bad=>exact h.elim
section
variable {X:Cx}{xq:XQ}{tg iter elt c:Expr}{fA:Rho→Res Bool}{fe:Rho→Res D}{fi:Rho→Res (List D)}{g:D→Rho→Res Rho}{ifs:List Expr}{scope:Scope}{pos:Pos}{ix:List Nat}
theorem u5N:DF X xq [] (fun _=>.ok true):=⟨fun pins s σ H Q I z9=>un5 z9 fun B F ρ R q=>pif_nil pins s σ H Q I (q H (Stp.refl R.fh))⟩
theorem df_one (h:DT X xq c fA):DF X xq [c] fA:=⟨pif_one h.out⟩
theorem u5O {K:W.Frag}{k:Nat}{outs:List Nat} (nd:outs.Nodup) (hix:∀ j∈ix,j<k) {σ:St}{H:Hp}{Q:VK} (h:liftN K xq (fun ρ=>(fi ρ).bind fun ds=>gd (ds.length≤sizeLine) ((compD g fA fe (rhoC k outs ρ) ds).bind fun ys=>.ok (.l ys))) σ H Q) :
  tComp k outs (liftI K xq fi) (liftG K ix g) (liftT K xqF fA) (liftE K xqF fe) σ H Q:=by
 obtain ⟨B,F,ρ,R,q⟩:=h
 exact
  ⟨B,F,ρ,R,Res.all_mono (Res.all_bind.mp q) (fun ds q1 J F0 H0 s0 fd=>by
   obtain ⟨hz,q1⟩:=u3L q1
   let T:List D→Prop:=fun ys=>∀ a h F' H',Stp F H F' H'→F' a=none→H a=none→H' a=some h→Ro K F' a h (.l ys)→Q (.ref a) H'
   have q2:(compD g fA fe (rhoC k outs ρ) ds).all T (ErrK K xq B ρ σ):=Res.all_mono (Res.all_bind.mp q1) (fun _ z=>z) fun _ z=>z
   clear q1
   refine ⟨fun i m ys H'=>m=ds.length - i∧i≤ds.length∧∃ F' es,Stp F H F' H'∧Same F0 F'∧Rps K F' ys es∧es.length≤i∧(compD g fA fe (rhoC k outs ρ) (ds.drop i)).all (fun r=>T (es++r)) (ErrK K xq B ρ σ),
    ⟨ds.length,rfl,Nat.zero_le _,F0,[],s0,Same.refl _,.nil,Nat.le_refl _,q2⟩,?_⟩
   rintro i m ys H' ⟨rfl,hi',F',es,st,e0,rs,hl,q3⟩
   refine ⟨by rw [rs.length];omega,?_⟩
   by_cases hlt:i<ds.length
   ·right
    refine ⟨fd.go i H' (e0.trans st.fh) hlt,fun ys' H2=>i+1≤ds.length∧∃ F2 es',Stp F H F2 H2∧Same F0 F2∧Rps K F2 ys' es'∧es'.length≤i+1∧(compD g fA fe (rhoC k outs ρ) (ds.drop (i+1))).all (fun r=>T (es'++r)) (ErrK K xq B ρ σ),
     fun ys' H2 p=>⟨ds.length - (i+1),by omega,rfl,p.1,p.2⟩,fun x H2 y=>?_⟩
    have hd:ds[i]?=some ds[i]:=by simp [hlt]
    obtain ⟨F2,s2,p2⟩:=fd.yld i F' H' x H2 _ e0 st.fh hd y
    rw [List.drop_eq_getElem_cons hlt] at q3
    have R2:Rel K B (rhoC k outs ρ) (stC k outs σ) F2 H2:=((R.step st).step s2).comp nd
    have q4:=Res.all_bind.mp (show ((noE (g ds[i] (rhoC k outs ρ))).bind _).all _ _ from q3)
    refine ⟨B,F2,_,_,R2,p2,u1L (Res.all_mono q4 (fun ρ1 q5 σ3 R3 l3 k3=>⟨?_,?_⟩) fun _ z=>z)⟩
    ·apply List.ext_getElem?
     intro j
     rw [List.getElem?_drop,k3 (k+j) fun z=>by have:=hix _ z;omega]
     unfold stC
     rw [List.getElem?_append_right (by simp),List.length_replicate,Nat.add_sub_cancel_left]
    ·refine ⟨B,F2,ρ1,R3,u1L (Res.all_mono (Res.all_bind.mp q5) (fun b q6 H3 s3=>?_) fun _ z=>z)⟩
     have R4:=R3.step s3
     cases b with
     | false=>exact ⟨hlt,F2,es,(st.trans s2).trans s3,e0.trans s2.ff,rs.same s2.ff,by omega,q6⟩
     | true =>
      refine ⟨B,F2,ρ1,R4,u1L (Res.all_mono (Res.all_bind.mp (show ((noE (fe ρ1)).bind _).all _ _ from q6)) (fun d q7 v F4 H4 s4 p4=>?_) fun _ z=>z)⟩
      refine ⟨hlt,F4,es++[d],((st.trans s2).trans s3).trans s4,(e0.trans s2.ff).trans s4.ff,((rs.same s2.ff).same s4.ff).append (.cons p4 .nil),by simp;omega,?_⟩
      exact Res.all_mono (Res.all_bind.mp q7) (fun r z=>by
       have z':T (es++d::r):=z
       simpa using z') fun _ z=>z
   ·left
    have e:i=ds.length:=by omega
    subst e
    rw [List.drop_length] at q3
    have q4:T es:=by simpa using (show T (es++[]) from q3)
    exact ⟨fd.stop _ H' (e0.trans st.fh) (Nat.le_refl _),fun p n=>q4 p _ F' _ (st.trans (Stp.only st.fh (u0e n))) (st.fh.free n) (st.hh.free n) u0g (.l rs)⟩) fun _ e=>e⟩
theorem u4V (own:List Str) (outs:List Nat) (hc:X.calm=true) (ok:CompOk X.env.scope X.N own outs scope) (hi:DI X xq tg iter fi) (hg:∀ {cl C s H fp},DG (cxC X own outs scope cl C s H fp) tg ix g) (hf:∀ {cl C s H fp},DF (cxC X own outs scope cl C s H fp) xqF ifs fA) (he:∀ {cl C s H fp},DE (cxC X own outs scope cl C s H fp) xqF elt fe)
  (nd:outs.Nodup:=by decide) (hix:∀ j∈ix,j<own.length:=by decide) (hs:∀ x,foldedSetIterable iter X.env x=pure x:=by intro _;rfl) :
  DN X xq (.ListComp elt [⟨tg,iter,ifs,0⟩] scope pos) (fun ρ=>(fi ρ).bind fun ds=>gd (ds.length≤sizeLine) ((compD g fA fe (rhoC own.length outs ρ) ds).bind fun ys=>.ok (.l ys))) :=
 ⟨fun pins s σ H Q I h=>pe_comp own outs hc ok hi.out (g:=liftG X.K ix g) (ti:=liftT X.K xqF fA) (te:=liftE X.K xqF fe) (fun {cl C s H fp}=>hg.out) (fun {cl C s H fp}=>hf.out) (fun {cl C s H fp}=>he.out) hs pins s σ H Q I (u5O nd hix h)⟩
end
section
variable {X:Cx}{xq:XQ}{a b e o:Expr}{es:List Expr}{fe:Rho→Res D}{fs:Rho→Res (List D)}{x:Str}{p pos pos' apos cpos:Pos}
theorem d_B {id:String}{g:FD} (hc:CallR X (.builtin id) (rDs X.K g)) (hm:X.mg x=none) (hv:bootBuiltins x=some (.builtin id)) (ha:DA X xq (e::es) fs) (hg:Gl X x:=by rfl) (hn:x≠"__name__":=by decide) (hdb:(x==("__debug__":Str))=false:=by decide) :
  DE X xq (.Call (.Name x p) (e::es) [] pos) (fun ρ=>(fs ρ).bind fun ds=>noE (g ds)) :=
 DE.of (pcB hc hg hm hv ha.out hn hdb ha.ns) fun B F ρ σ H Q R q=>seqA R q fun ds vs F1 H1 s1 R1 p1 q1=>⟨F1,ds,R1.fh,p1,doneN s1 q1⟩
theorem d_T {T:String}{g:FD} (hc:CallR X (.type T) (rDs X.K g)) (hm:X.mg x=none) (hv:bootBuiltins x=some (.type T)) (ha:DA X xq (e::es) fs) (hg:Gl X x:=by rfl) (hn:x≠"__name__":=by decide) (hdb:(x==("__debug__":Str))=false:=by decide) :
  DE X xq (.Call (.Name x p) (e::es) [] pos) (fun ρ=>(fs ρ).bind fun ds=>noE (g ds)) :=
 DE.of (pcT hc hg hm hv ha.out hn hdb ha.ns) fun B F ρ σ H Q R q=>seqA R q fun ds vs F1 H1 s1 R1 p1 q1=>⟨F1,ds,R1.fh,p1,doneN s1 q1⟩
noncomputable def gLen:List D→Res D
 | [.str z]=>.ok (.int z.length)
 | [.lst ds]=>.ok (.int ds.length)
 | [.tup ds]=>.ok (.int ds.length)
 | _=>.bad
theorem u3h:CallR X (.builtin "len") (rDs X.K gLen):=by
 intro pins s σ H xs us Q I r ⟨F,ds,fh,ps,q⟩
 unfold gLen at q
 split at q
 ·obtain ⟨v,rfl,pv⟩:=rps1 ps
  cases pv with
  | str hz=>exact u4Y pins s σ H _ us Q I r ⟨_,_,rfl,⟨hz,rfl⟩,q _ F H (Stp.refl fh) (.int _)⟩
 ·obtain ⟨v,rfl,pv⟩:=rps1 ps
  cases pv with
  | lst hq hs=>exact u4Y pins s σ H _ us Q I r ⟨_,_,rfl,.inl ⟨_,.inl (hq.same fh),rfl⟩,q _ F H (Stp.refl fh) (by rw [hs.length];exact .int _)⟩
 ·obtain ⟨v,rfl,pv⟩:=rps1 ps
  cases pv with
  | tup hq hs=>exact u4Y pins s σ H _ us Q I r ⟨_,_,rfl,.inr ⟨_,fh.seqT hq,rfl⟩,q _ F H (Stp.refl fh) (by rw [hs.length];exact .int _)⟩
 ·exact q.elim
noncomputable def tyN:D→Option String
 | .non=>some "NoneType"
 | .bl _=>some "bool"
 | .int _=>some "int"
 | .str _=>some "str"
 | .lst _=>some "list"
 | .tup _=>some "tuple"
 | .dct _=>some "dict"
 | _=>none
noncomputable def isT (t T:String):Option Bool:=if T∈["bool","int","str","list","tuple","dict"] then some (t==T||(t=="bool"&&T=="int")) else none
theorem u9f (K:W.Frag) {d:D}{t T:String}{b:Bool} (ht:tyN d=some t) (h:isT t T=some b):W.kitOne K (.type t) (.type T)=some b:=by
 unfold isT at h
 split at h
 ·rename_i hT
  simp only [List.mem_cons,List.not_mem_nil,or_false] at hT
  cases h
  cases d <;> simp only [tyN,Option.some.injEq,reduceCtorEq] at ht <;> subst ht <;> rcases hT with rfl | rfl | rfl | rfl | rfl | rfl <;> rfl
 ·cases h
theorem v0K {pins:LO}{σ:St}{H:Hp}{s:Shared}{A:Around}{E:VP}{Q:VP}{c:Value}{bb:Bool}{F:Hp}{v:V}{u:Value}{d:D}{t:String} (I:Inv X pins σ H s) (rx:RelV v u) (fh:Same F H) (pv:Rp X.K F v d) (ht:tyN d=some t)
  (e:W.kitOne X.K (.type t) c=some bb) (h:∀ tk,Q (.bool bb) { s with toks:=tk }):wpAny (model X.prog X.w) A (call (.builtin "isinstance") [u,c]) Q E s:=by
 cases pv with
 | non=>cases ht;exact u0V I rx .non e h
 | bl y=>cases ht;exact u0V I rx (.bl y) e h
 | int i=>cases ht;exact u0V I rx (.int i) e h
 | str hz=>cases ht;exact u0V I rx (.str _) e h
 | ty T=>cases ht
 | lst hq hs =>
  cases ht
  rcases hq with hq | ⟨ob,hq⟩
  ·exact u0V I rx (.lst (fh _ _ hq)) e h
  ·exact u0V I rx (.frz (fh _ _ hq)) e h
 | tup hq hs =>
  cases ht
  obtain ⟨its,r,p,hz⟩:=I.tuple (fh.seqT hq)
  obtain ⟨ob,h1,h2,_⟩:=p
  cases (show u=Value.ref _ from rx)
  exact W.kia_one W.kitx_tuple I.kIn ⟨ob,h1,h2⟩ e (fun z=>nomatch z) h
 | dK hq hs=>cases ht;exact u0V I rx (.dK (fh _ _ hq)) e h
 | ins hq hs=>cases ht
 | exc hq hr hs=>cases ht
 | dn hq hs=>cases ht
noncomputable def gIs:List D→Res D
 | [d,.ty T]=>match tyN d with
  | some t=>match isT t T with
   | some b=>.ok (.bl b)
   | none=>.bad
  | none=>.bad
 | _=>.bad
theorem v1d:CallR X (.builtin "isinstance") (rDs X.K gIs):=by
 intro pins s σ H xs us Q I r ⟨F,ds,fh,ps,q⟩
 unfold gIs at q
 split at q
 ·rename_i d T
  obtain ⟨v,w,rfl,pv,pw⟩:=rps2 ps
  cases pw
  cases ht:tyN d with
  | none=>rw [ht] at q;exact q.elim
  | some t =>
   rw [ht] at q
   cases hb:isT t T with
   | none=>simp only [hb] at q;exact q.elim
   | some bb =>
    simp only [hb] at q
    cases r with
    | cons r1 r2 =>
     cases r2 with
     | cons r2 r3 =>
      cases r3
      cases r2
      exact v0K I r1 fh pv ht (u9f X.K ht hb) fun tk=>⟨.bl bb,H,I.tok _,rfl,q _ F H (Stp.refl fh) (.bl bb)⟩
 ·exact q.elim
noncomputable def gTuple:List D→Res D
 | [.lst ds]=>.ok (.tup ds)
 | [.tup ds]=>.ok (.tup ds)
 | _=>.bad
theorem u9N:CallR X (.type "tuple") (rDs X.K gTuple):=by
 intro pins s σ H xs us Q I r ⟨F,ds,fh,ps,q⟩
 unfold gTuple at q
 split at q
 ·obtain ⟨v,rfl,pv⟩:=rps1 ps
  cases pv with
  | lst hq hs=>exact u2A pins s σ H _ us Q I r ⟨_,_,rfl,.inl ⟨.inl (hq.same fh),fun l n=>q _ _ _ (Stp.new fh n) (.tup (.inl (.inl u0g)) (hs.same (Stp.new fh n).ff))⟩⟩
 ·obtain ⟨v,rfl,pv⟩:=rps1 ps
  cases pv with
  | tup hq hs=>exact u2A pins s σ H _ us Q I r ⟨_,_,rfl,.inr ⟨fh.seqT hq,q _ F H (Stp.refl fh) (.tup hq hs)⟩⟩
 ·exact q.elim
noncomputable def seqOf:List D→Res OD
 | [.lst ds]=>.ok (.l ds)
 | [.tup ds]=>.ok (.l ds)
 | _=>.bad
theorem u4U (hm:X.mg "list"=none) (ha:DA X xq [e] fs) (hg:Gl X "list":=by rfl):DN X xq (.Call (.Name "list" p) [e] [] pos) (fun ρ=>(fs ρ).bind seqOf) :=
 ⟨fun pins s σ H Q I z9=>un5 z9 fun B F ρ R q=>pcT (u5R) hg hm rfl ha.out (by decide) (by decide) ha.ns pins s σ H Q I (seqA R q fun ds vs F1 H1 s1 R1 p1 q1=>by
  unfold seqOf at q1
  split at q1
  ·obtain ⟨v,rfl,pv⟩:=rps1 p1
   cases pv with
   | lst hq hs=>exact ⟨_,_,rfl,.inl (.inl (hq.same R1.fh)),fun l n=>q1 l _ F1 _ (s1.trans (Stp.only R1.fh (u0e n))) (R1.fh.free n) (s1.hh.free n) u0g (.l hs)⟩
  ·obtain ⟨v,rfl,pv⟩:=rps1 p1
   cases pv with
   | tup hq hs=>exact ⟨_,_,rfl,.inr (R1.fh.seqT hq),fun l n=>q1 l _ F1 _ (s1.trans (Stp.only R1.fh (u0e n))) (R1.fh.free n) (s1.hh.free n) u0g (.l hs)⟩
  ·exact q1.elim)⟩
noncomputable def gMin:List D→Res D
 | [.int i,.int j]=>.ok (.int (if j<i then j else i))
 | _=>.bad
noncomputable def gMax:List D→Res D
 | [.int i,.int j]=>.ok (.int (if j > i then j else i))
 | _=>.bad
theorem c_min (hc:X.calm=true):CallR X (.builtin "min") (rDs X.K gMin):=by
 intro pins s σ H xs us Q I r ⟨F,ds,fh,ps,q⟩
 unfold gMin at q
 split at q
 ·obtain ⟨v,w,rfl,pv,pw⟩:=rps2 ps
  cases pv
  cases pw
  exact u9L hc pins s σ H _ us Q I r ⟨_,_,rfl,q _ F H (Stp.refl fh) (.int _)⟩
 ·exact q.elim
theorem c_max (hc:X.calm=true):CallR X (.builtin "max") (rDs X.K gMax):=by
 intro pins s σ H xs us Q I r ⟨F,ds,fh,ps,q⟩
 unfold gMax at q
 split at q
 ·obtain ⟨v,w,rfl,pv,pw⟩:=rps2 ps
  cases pv
  cases pw
  exact u9M hc pins s σ H _ us Q I r ⟨_,_,rfl,q _ F H (Stp.refl fh) (.int _)⟩
 ·exact q.elim
noncomputable def getL (ρ:Rho) (i:Nat):Res (List D):=match ρ[i]? with
 | some (some (.own (.l ds)))=>.ok ds
 | _=>.bad
theorem u2j {ρ:Rho}{i:Nat}{P:List D→Prop}{E:D→Prop} (h:(getL ρ i).all P E):∃ ds,ρ[i]?=some (some (.own (.l ds)))∧P ds:=by
 unfold getL at h
 split at h
 ·rename_i d e;exact ⟨d,e,h⟩
 ·exact h.elim
theorem u9B (i:Nat) (he:DE X xq e fe) (hN:X.N[i]?=some x:=by rfl) (hv:Vis X.env.scope x:=by first | exact Or.inl rfl | exact Or.inr (Or.inl rfl) | exact Or.inr (Or.inr rfl)) (hd:(x==("__debug__":Str))=false:=by decide) (hcd:(x==("__classdict__":Str))=false:=by decide)
  (hs:notStar e=true:=by rfl) (hbase:attributeBase (.Name x p) "append" X.env (eval (.Name x p) X.env)=eval (.Name x p) X.env:=by rfl) (hline:(apos.endLine==cpos.line)=true:=by rfl)
  (hsw:swapsWith (.Call (.Attribute (.Name x p) "append" apos) [e] [] cpos) none pos.line X.env=pure false:=by rfl) :
  DS X xq (.Expr (.Call (.Attribute (.Name x p) "append" apos) [e] [] cpos) pos) (fun ρ=>(getL ρ i).go ρ fun ds=>(fe ρ).go ρ fun d=>if ds.length<sizeLine then .nx (ρ.set i (some (.own (.l (ds++[d]))))) else .bad) :=
 DS.of (u3y (pbm PySem.F.plainAttrs_list PySem.F.slot_list_append PySem.F.type_list_append u5A (u1i hN hv hd hcd) (pac he.out u2Z hs) (by rw [List.all_cons,hs];rfl) rfl hbase hline) hsw) fun B F ρ σ H T R q=>by
  obtain ⟨ds,e1,q1⟩:=u2j (u0q q.out)
  obtain ⟨l,h,h1,h2,h3,h4,h5⟩:=R.own i _ e1
  cases h5 with
  | l hs =>
   refine ⟨.ref l,h1,.inl ⟨rfl,_,.inl (.inl h4)⟩,B,F,ρ,R,Res.all_mono (u0q q1) (fun d q2 v F' H' st pv=>?_) fun _ z=>errOf z⟩
   by_cases hz:ds.length<sizeLine
   ·rw [if_pos hz] at q2
    have R':=R.step st
    refine ⟨l,_,v,rfl,rfl,st.hh _ _ h4,by rw [hs.length];exact hz,q2 σ F' _ (R'.write (e:=e1) h1 (.l ((hs.same st.ff).append (.cons pv .nil))))⟩
   ·rw [if_neg hz] at q2;exact q2.elim
def spF (K:W.Frag) (f:FD):Sp:=fun vs H Q _=>∃ F ds,Same F H∧Rps K F vs ds∧(noE (f ds)).all (fun d=>∀ v F' H',Stp F H F' H'→Rp K F' v d→Q v H') (fun _=>False)
theorem d_fn {P:Program}{w:World}{K:W.Frag}{mg:MG}{base:Heap}{k k':Nat}{ps:List Str}{f:FD} (h:Callee P w K mg base k x ps (spF K f)) (hr:Room k' X.A) (ha:DA X xq (e::es) fs) (hk:k≤k':=by decide) (hg:Gl X x:=by rfl)
  (eP:X.prog=P:=by rfl) (ew:X.w=w:=by rfl) (eK:X.K=K:=by rfl) (em:X.mg=mg:=by rfl) (eb:X.base=base:=by rfl) (hdb:(x==("__debug__":Str))=false:=by decide):DE X xq (.Call (.Name x p) (e::es) [] pos) (fun ρ=>(fs ρ).bind fun ds=>noE (f ds)) :=
 DE.of (pe_fn h hr hk ha.out hg eP ew eK em eb hdb ha.ns) fun B F ρ σ H Q R q=>seqA R q fun ds vs F1 H1 s1 R1 p1 q1=>by
  subst eK
  refine ⟨F1,ds,R1.fh,by rw [List.append_nil];exact p1,?_⟩
  cases e:f ds with
  | ok d=>rw [e] at q1;exact fun v F' H' st pv=>q1 v F' H' (s1.trans st) pv
  | err x=>rw [e] at q1;exact q1.elim
  | bad=>rw [e] at q1;exact q1.elim
noncomputable def outR:Out→Res D
 | .nx _=>.ok .non
 | .rt d=>.ok d
 | .er x _=>.err x
 | _=>.bad
noncomputable def startD (n:Nat) (ds:List D):Rho:=ds.map (fun d=>some (.val d))++List.replicate (n - ds.length) none
theorem Rps.begin {K:W.Frag}{F H:Hp}{N:List Str}{vs:List V}{ds:List D} (fh:Same F H) (r:Rps K F vs ds):Rel K (F,H) (startD N.length ds) (start N vs) F H where
 st:=Stp.refl fh
 len:=by unfold startD L2.start;simp [r.length]
 val i d e:=by
  unfold startD at e
  unfold L2.start
  rw [List.getElem?_append] at e
  split at e
  ·rename_i hi
   rw [List.getElem?_map] at e
   cases q:ds[i]? with
   | none=>rw [q] at e;cases e
   | some d' =>
    rw [q] at e
    cases e
    obtain ⟨v,hv,p⟩:=r.get q
    exact ⟨v,by rw [List.getElem?_append_left (by have:=(List.getElem?_eq_some_iff.mp hv).1;simpa using this),List.getElem?_map,hv];rfl,p⟩
  ·rw [List.getElem?_replicate] at e
   split at e <;> simp at e
 own i o e:=by
  unfold startD at e
  rw [List.getElem?_append] at e
  split at e
  ·rw [List.getElem?_map] at e
   cases q:ds[i]? with
   | none=>rw [q] at e;cases e
   | some d'=>rw [q] at e;cases e
  ·rw [List.getElem?_replicate] at e
   split at e <;> simp at e
 dis i j o u a e:=by
  exfalso
  unfold startD at e
  rw [List.getElem?_append] at e
  split at e
  ·rw [List.getElem?_map] at e
   cases q:ds[i]? with
   | none=>rw [q] at e;cases e
   | some d'=>rw [q] at e;cases e
  ·rw [List.getElem?_replicate] at e
   split at e <;> simp at e
end
section
variable {P:Program}{w:World}{K:W.Frag}{mg:MG}{base:Heap}
theorem Fun.okD {x qual:Str}{st:Stmt}{f:Addr}{fd:FuncData}{N ps:List Str}{k:Nat}{g:FD} (F:Fun K x qual st f fd) (S:FnScope N ps (defScope st)) (len:∀ ds d,g ds=.ok d→ds.length=ps.length)
  (hbody:∀ (cdv:Value) (A:Around) (outer:List Env) (s:Shared) (H:Hp) (E:XK),Room k (A.deeper (envOfC qual (defScope st) s.heap.objs.size f cdv)) →
   ∃ t,DB (cxOf CX0 P w K mg base N qual (defScope st) f cdv A outer s H E).nox xqF (defBody st) t∧∀ ds d,g ds=.ok d→outR (t (startD N.length ds))=.ok d):FnOk P w K mg base CX0 (k+1) f fd ps (spF K g) :=
 F.ok S (fun vs H Q E ⟨G,ds,fh,r,q⟩=>by
  rw [r.length]
  cases e:g ds with
  | ok d=>exact len ds d e
  | err x=>rw [e] at q;exact q.elim
  | bad=>rw [e] at q;exact q.elim) fun cdv A outer s H vs Q E hr ⟨G,ds,fh,r,q⟩=>by
  obtain ⟨t,h1,h2⟩:=hbody cdv A outer s H E hr
  refine ⟨_,h1.out,(G,H),G,_,r.begin fh,⟨?_⟩⟩
  cases e:g ds with
  | err x=>rw [e] at q;exact q.elim
  | bad=>rw [e] at q;exact q.elim
  | ok d =>
   rw [e] at q
   have z:=h2 ds d e
   generalize t (startD N.length ds)=o at z
   cases o with
   | nx ρ=>cases z;exact fun σ F' H' R=>q .non F' H' R.st .non
   | rt d'=>cases z;exact fun v F' H' st pv=>q v F' H' st pv
   | bk ρ=>cases z
   | ct ρ=>cases z
   | er x ρ=>cases z
   | bad=>cases z
end
section
variable {M:Model}{A:Around}{E:VP}{s:Shared}
theorem u9x {base:Heap}{env:Env}{outer:List Env}{L e:Addr}{oe:Obj}{vs:Array Value}{head:Value}{nx:Bool}{Q:Unit→Shared→Prop} (c1:A.frames=some (env::outer)) (c2:s.heap.FunFrames base (env::outer)) (c3:env.frame=some L)
  (c4:s.heap.get? e=some oe) (c5:oe.data=.fields vs) (c6:1<vs.size) (c7:e∉frs (env::outer))
  (k:∀ h' oT ts,(∀ b o,b∉frs (env::outer)→b≠e→s.heap.get? b=some o→h'.get? b=some o)→(∀ b o,b≠e→s.heap.get? b=some o→∃ sl,h'.get? b=some { o with slots:=sl }) →
   h'.get? e=some (oe.mapFields (·.setIfInBounds 1 (.ref s.heap.objs.size)))→h'.get? s.heap.objs.size=some oT→oT.data=.fields ts→ts[3]?=some (rawInt L)→Q () { s with heap:=h' }) :
  wpAny M A (do setField (.ref e) 1 (← EntryCells.newEntry head (← frameOf env) .none (rawInt L) .none (← entryPlaceOf L nx))) Q E s:=by
 refine wpAny_bind (wpAny_frameOf_fun c1 c2 c3 fun g hg=>?_)
 refine wpAny_bind (wpAny_entryPlaceOf fun pl hp=>?_)
 unfold EntryCells.newEntry newFields
 refine wpAny_bind (wpAny_newObj_type ?_ (hp.sizeOk5 _ _ _ _ _))
 obtain ⟨g1,g2,g3⟩:=hg
 have ge:g.get? e=some oe:=(g2 e c7).trans c4
 have lt:e<g.objs.size:=Heap.lt_size ge
 generalize hnt:({ cls:=.type "traceback",dict:=none,data:=.fields ([head,.ref L,.none,rawInt L,.none]++(if pl.isEmpty then List.replicate 6 Value.none else pl)).toArray }:Obj)=nt
 have ge2:(g.push nt).get? e=some oe:=Heap.get?_push_of_some nt ge
 refine wpAny_setField ge2 c5 c6 ?_
 have nf:nt.isFreed=false:=by subst hnt;rfl
 have at_T:(g.push nt).get? g.objs.size=some nt:=Heap.get?_push_size g nf
 have ne:e≠g.objs.size:=Nat.ne_of_lt lt
 rw [g1]
 refine k _ nt ([head,.ref L,.none,rawInt L,.none]++(if pl.isEmpty then List.replicate 6 Value.none else pl)).toArray (fun b o b1 b2 b3=>?_) (fun b o b2 b4=>?_) ?_ ?_ (by subst hnt;rfl) (by first | (simp;done) | (rcases hp with rfl | ⟨_,_,_,_,_,_,_,rfl⟩ <;> simp))
 ·rw [Heap.get?_update_other _ _ (Ne.symm b2)];exact Heap.get?_push_of_some nt ((g2 b b1).trans b3)
 ·obtain ⟨sl,q⟩:=g3 b o b4
  exact ⟨sl,by rw [Heap.get?_update_other _ _ (Ne.symm b2)];exact Heap.get?_push_of_some nt q⟩
 ·exact Heap.get?_update_self _ ge2 (Obj.isFreed_of_fields (Obj.data_mapFields c5 _))
 ·rw [← g1,Heap.get?_update_other _ _ ne];exact at_T
end
def Tb (n:Nat) (h:Heap) (H:Hp) (e:Addr) (fl:Value):Prop:=n≤e∧∃ oe vs,h.get? e=some oe∧oe.data=.fields vs∧1<vs.size ∧
 ((vs[1]?=some .none∧fl=.none)∨∃ T oT ts,vs[1]?=some (.ref T)∧T≠e∧n≤T∧H T=none∧h.get? T=some oT∧oT.data=.fields ts∧ts[3]?=some fl)
def Tr (n:Nat) (h:Heap) (H:Hp) (e:Addr) (fl:Value):Prop:=n≤e∧∃ oe vs,h.get? e=some oe∧oe.data=.fields vs∧1<vs.size ∧
 ∃ T oT ts,vs[1]?=some (.ref T)∧T≠e∧n≤T∧H T=none∧h.get? T=some oT∧oT.data=.fields ts∧ts[3]?=some fl
theorem Tr.tb {n:Nat}{h:Heap}{H:Hp}{e:Addr}{fl:Value} (x:Tr n h H e fl):Tb n h H e fl:=let ⟨a,oe,vs,b,c,d,f⟩:=x;⟨a,oe,vs,b,c,d,.inr f⟩
theorem Tb.mono {m n:Nat}{h:Heap}{H:Hp}{e:Addr}{fl:Value} (x:Tb n h H e fl) (q:m≤n):Tb m h H e fl:=by
 obtain ⟨a,oe,vs,b,c,d,f⟩:=x
 refine ⟨Nat.le_trans q a,oe,vs,b,c,d,?_⟩
 rcases f with f | ⟨T,oT,ts,f1,f2,f3,f4⟩
 ·exact .inl f
 ·exact .inr ⟨T,oT,ts,f1,f2,Nat.le_trans q f3,f4⟩
structure Old (X:Cx) (pins:LO) (n:Nat):Prop where
 s0:X.s₀.heap.objs.size≤n
 loc:X.env.locals<n
 cel:∀ x c,X.env.cells.lookup x=some c→c<n
 pin:∀ p∈X.pn++pins,p.1<n
theorem Inv.old {X:Cx}{pins:LO}{σ:St}{H:Hp}{s:Shared} (I:Inv X pins σ H s):Old X pins s.heap.objs.size :=
 ⟨I.sz,I.lt,fun x c e=>let ⟨_,q⟩:=I.cell x c e;q.lt,fun p hp=>Heap.lt_size (I.pin p hp).1⟩
section
variable {X:Cx}{pins:LO}{σ:St}{H:Hp}{s:Shared}{n:Nat}{e C:Addr}{d:Option Addr}{h':Heap}
theorem Inv.flown {ch:List Addr}{t':Nat} (I:Inv X pins σ H s) (hst:X.stack=X.env::X.outer∧X.env.frame=some X.env.locals) (o:Old X pins n) (hch:∀ b∈ch,n≤b) (hx:H e=some (XO C d e)) (hxe:ExAt h' e C d)
  (k1:∀ b u,b∉frs X.stack→b≠e→b∉ch→s.heap.get? b=some u→h'.get? b=some u) (k2:∀ b u,b≠e→b∉ch→s.heap.get? b=some u→∃ sl,h'.get? b=some { u with slots:=sl })
  (k3:∀ b∈ch,H b=none) (k4:∃ u,h'.get? e=some u):Inv X pins σ H { s with heap:=h',toks:=t' }:=by
 have hfr:frs X.stack=X.env.locals::X.fs:=by
  rw [hst.1];unfold frs;rw [List.filterMap_cons,hst.2];rfl
 have ne:∀ b,H b=none→b≠e:=fun b hb z=>by subst z;rw [hx] at hb;cases hb
 refine I.step (ch:=ch) (h':=h') (H':=H) (g':=s.gens) (d':=s.drawn) (t':=t') (fun b hb=>⟨.inr (Nat.le_trans o.s0 (hch b hb)),fun z=>?_,fun x c q z=>?_,fun p hp z=>?_⟩)
  (fun b u b1 b2 b3 b4 b5=>k1 b u (by rw [hfr];simp [b1,b2]) (ne b b5) b3 b4) (fun b u b1 b2 b3 b4 b5=>k2 b u (ne b b5) b3 b4) (fun _ _ _ _ z=>z) (fun b u b3 b4=>?_) (fun _ _ z=>z) (fun _ _ _ z=>z) (fun b ps z=>⟨#[],by simpa using z⟩) (fun m hm=>?_) ?_ I.bare
 ·have w1:=o.loc;have w2:=hch b hb;subst z;exact absurd (Nat.lt_of_lt_of_le w1 w2) (Nat.lt_irrefl _)
 ·have w1:=o.cel x c q;have w2:=hch b hb;subst z;exact absurd (Nat.lt_of_lt_of_le w1 w2) (Nat.lt_irrefl _)
 ·have w1:=o.pin p hp;have w2:=hch b hb;rw [z] at w1;exact absurd (Nat.lt_of_lt_of_le w1 w2) (Nat.lt_irrefl _)
 ·by_cases z:b=e
  ·subst z;exact k4
  ·obtain ⟨sl,q⟩:=k2 b u z b3 b4;exact ⟨_,q⟩
 ·obtain ⟨u,es,ep,hu,hd,rr⟩:=hm
  have l1:X.env.locals≠e:=ne _ I.free
  have l2:X.env.locals∉ch:=fun z=>absurd (Nat.lt_of_lt_of_le o.loc (hch _ z)) (Nat.lt_irrefl _)
  obtain ⟨sl,q⟩:=k2 _ u l1 l2 hu
  exact ⟨_,es,ep,q,hd,rr⟩
 ·intro a u q
  by_cases z:a=e
  ·subst z
   rw [hx] at q;cases q
   exact xo_ok hxe
  ·refine ObjOk.stay (I.hok a u q) (fun b v hb hv=>k1 b v (fun y=>?_) (fun y=>?_) (fun y=>?_) hv) (fun _ y=>y) (fun _ _ y=>y)
   ·rcases hb with rfl | hb
    ·rw [I.stkFree _ y] at q;cases q
    ·rw [I.stkFree _ y] at hb;cases hb
   ·rcases hb with rfl | hb
    ·exact z y
    ·subst y;rw [hx] at hb;unfold XO at hb;cases hb
   ·rcases hb with rfl | hb
    ·rw [k3 _ y] at q;cases q
    ·rw [k3 _ y] at hb;cases hb
end
theorem v0V {h h':Heap}{e C:Addr}{d:Option Addr}{oe:Obj}{v:Value} (x:ExAt h e C d) (q:h.get? e=some oe) (q':h'.get? e=some (oe.mapFields (·.setIfInBounds 1 v))):ExAt h' e C d:=by
 obtain ⟨t,f1,f2,f3,f4,f5,sl,z⟩:=x
 rw [q] at z
 cases z
 exact ⟨t,v,f2,f3,f4,f5,sl,q'⟩
theorem u9v {h h':Heap}{e C:Addr}{d:Option Addr}{oe:Obj} (x:ExAt h e C d) (q:h.get? e=some oe) (q':h'.get? e=some oe):ExAt h' e C d:=by
 obtain ⟨t,f1,f2,f3,f4,f5,sl,z⟩:=x
 rw [q] at z
 cases z
 exact ⟨t,f1,f2,f3,f4,f5,sl,q'⟩
theorem u4o {o:Obj}{vs:Array Value}{i:Nat}{v:Value} (h:o.data=.fields vs) (hi:i<vs.size):∃ ws:Array Value,(o.mapFields (·.setIfInBounds i v)).data=.fields ws∧ws.size=vs.size∧ws[i]?=some v∧∀ j,j≠i→ws[j]?=vs[j]?:=by
 refine ⟨vs.setIfInBounds i v,Obj.data_mapFields h _,by simp,by simp [hi],fun j hj=>?_⟩
 rw [Array.getElem?_setIfInBounds_ne (Ne.symm hj)]
section
variable {X:Cx}{pins:LO}{σ:St}{H:Hp}{s:Shared}{n:Nat}{e C:Addr}{d:Option Addr}{E:VP}{M:Model}
theorem rawne (L:Addr):((Value.none==rawInt L)=true)=False:=by simp [rawInt]
theorem u4n {fl w:Value}{T:Addr}{Q:Unit→Shared→Prop}{oe oT:Obj}{vs ts:Array Value} (I:Inv X pins σ H s) (hst:X.stack=X.env::X.outer∧X.env.frame=some X.env.locals) (o:Old X pins n) (hx:H e=some (XO C d e))
  (a0:n≤e) (a1:s.heap.get? e=some oe) (a2:oe.data=.fields vs) (a3:1<vs.size) (a4:vs[1]?=some (.ref T)) (a5:T≠e) (a6:n≤T) (a7:H T=none) (a8:s.heap.get? T=some oT) (a9:oT.data=.fields ts) (a10:ts[3]?=some fl)
  (k:∀ s',Inv X pins σ H s'→Tr n s'.heap H e w→s'.heap.get? e=some oe→Q () s'):wpAny M X.A (setField (.ref T) 3 w) Q E s:=by
 have hz:3<ts.size:=(Array.getElem?_eq_some_iff.mp a10).1
 refine wpAny_setField a8 a9 hz ?_
 obtain ⟨ws,w1,w2,w3,w4⟩:=u4o (v:=w) a9 hz
 have kT:=Heap.get?_update_self (Obj.mapFields (·.setIfInBounds 3 w)) a8 (Obj.isFreed_of_fields w1)
 have ko:∀ b u,b≠T→s.heap.get? b=some u→(s.heap.update T (Obj.mapFields (·.setIfInBounds 3 w))).get? b=some u:=fun b u hb q=>by
  rw [Heap.get?_update_other _ _ (Ne.symm hb)];exact q
 have ke:=ko e oe (Ne.symm a5) a1
 refine k _ (I.flown (ch:=[T]) (t':=s.toks) hst o (fun b hb=>by rw [List.mem_singleton.mp hb];exact a6) hx (u9v (u9T I.hok hx) a1 ke) (fun b u _ _ hb q=>ko b u (fun z=>hb (by simp [z])) q)
  (fun b u _ hb q=>⟨u.slots,ko b u (fun z=>hb (by simp [z])) q⟩) (fun b hb=>by rw [List.mem_singleton.mp hb];exact a7) ⟨_,ke⟩) ⟨a0,oe,vs,ke,a2,a3,T,_,ws,a4,a5,a6,a7,kT,w1,w3⟩ ke
theorem u7f {head:Value}{nx:Bool}{Q:Unit→Shared→Prop}{oe:Obj}{vs:Array Value} (I:Inv X pins σ H s) (hst:X.stack=X.env::X.outer∧X.env.frame=some X.env.locals) (o:Old X pins n) (hx:H e=some (XO C d e))
  (a0:n≤e) (a1:s.heap.get? e=some oe) (a2:oe.data=.fields vs) (a3:1<vs.size) (k:∀ s',Inv X pins σ H s'→Tr n s'.heap H e (rawInt X.env.locals)→Q () s') :
  wpAny M X.A (do setField (.ref e) 1 (← EntryCells.newEntry head (← frameOf X.env) .none (rawInt X.env.locals) .none (← entryPlaceOf X.env.locals nx))) Q E s:=by
 have fr:X.A.frames=some (X.env::X.outer):=by rw [I.ok.frames,hst.1]
 have ff:s.heap.FunFrames X.base (X.env::X.outer):=hst.1 ▸ I.stack
 have nm:e∉frs (X.env::X.outer):=fun z=>by
  have:=I.stkFree e (by rw [hst.1];exact z)
  rw [hx] at this;cases this
 refine u9x fr ff hst.2 a1 a2 a3 nm fun h' oT ts k1 k2 k3 k4 k5 k6=>?_
 have lt:e<s.heap.objs.size:=Heap.lt_size a1
 have fz:=I.hok.fresh (Nat.le_refl s.heap.objs.size)
 obtain ⟨ws,w1,w2,w3,w4⟩:=u4o (v:=.ref s.heap.objs.size) a2 a3
 refine k _ (I.flown (ch:=[]) (t':=s.toks) hst o (fun b hb=>by cases hb) hx (v0V (u9T I.hok hx) a1 k3) (fun b u hb he _ q=>k1 b u (by rw [← hst.1];exact hb) he q) (fun b u he _ q=>k2 b u he q) (fun b hb=>by cases hb) ⟨_,k3⟩)
  ⟨a0,_,ws,k3,w1,by omega,s.heap.objs.size,oT,ts,w3,Nat.ne_of_gt lt,Nat.le_trans a0 (Nat.le_of_lt lt),fz,k4,k5,k6⟩
theorem u6y {fl:Value}{Q:Unit→Shared→Prop} (I:Inv X pins σ H s) (hst:X.stack=X.env::X.outer∧X.env.frame=some X.env.locals) (o:Old X pins n) (hx:H e=some (XO C d e)) (tb:Tb n s.heap H e fl) (hfl:fl=.none∨fl=rawInt X.env.locals)
  (k:∀ s',Inv X pins σ H s'→Tr n s'.heap H e (rawInt X.env.locals)→Q () s'):wpAny M X.A (noteFrame (.ref e) X.env) Q E s:=by
 obtain ⟨a0,oe,vs,a1,a2,a3,tb⟩:=tb
 unfold noteFrame
 simp only [hst.2]
 rcases tb with ⟨t1,t2⟩ | ⟨T,oT,ts,a4,a5,a6,a7,a8,a9,a10⟩
 ·refine wpAny_bind (wpAny_field a1 a2 t1 ?_)
  rw [if_neg (by decide)]
  exact u7f I hst o hx a0 a1 a2 a3 k
 ·refine wpAny_bind (wpAny_field a1 a2 a4 ?_)
  rw [if_pos (show (Value.ref T != Value.none)=true by simp)]
  refine wpAny_bind (wpAny_field a8 a9 a10 ?_)
  rcases hfl with rfl | rfl
  ·rw [if_neg (by rw [rawne];exact id)]
   refine wpAny_bind (u4n I hst o hx a0 a1 a2 a3 a4 a5 a6 a7 a8 a9 a10 fun s' I' _ ke=>?_)
   exact u7f I' hst o hx a0 ke a2 a3 k
  ·rw [if_pos (by simp)]
   exact wpAny_pure (k s I ⟨a0,oe,vs,a1,a2,a3,T,oT,ts,a4,a5,a6,a7,a8,a9,a10⟩)
theorem u1O {fl:Value}{f:Option Addr}{Q:Unit→Shared→Prop} (I:Inv X pins σ H s) (hst:X.stack=X.env::X.outer∧X.env.frame=some X.env.locals) (o:Old X pins n) (hx:H e=some (XO C d e)) (tr:Tr n s.heap H e fl)
  (k:∀ s',Inv X pins σ H s'→Tr n s'.heap H e (f.elim .none fun f=>rawInt f)→Q () s'):wpAny M X.A (setFlight (.ref e) f) Q E s:=by
 obtain ⟨a0,oe,vs,a1,a2,a3,T,oT,ts,a4,a5,a6,a7,a8,a9,a10⟩:=tr
 unfold setFlight
 refine wpAny_bind (wpAny_field a1 a2 a4 ?_)
 rw [if_pos (show (Value.ref T != Value.none)=true by simp)]
 exact u4n I hst o hx a0 a1 a2 a3 a4 a5 a6 a7 a8 a9 a10 fun s' I' t _=>k s' I' t
theorem u7j {fl:Value}{Q:Unit→Shared→Prop} (I:Inv X pins σ H s) (hst:X.stack=X.env::X.outer∧X.env.frame=some X.env.locals) (o:Old X pins n) (hx:H e=some (XO C d e)) (tb:Tb n s.heap H e fl) (hfl:fl=.none∨fl=rawInt X.env.locals)
  (k:∀ s',Inv X pins σ H s'→Tr n s'.heap H e .none→Q () s'):wpAny M X.A (leaving X.env (.ref e)) Q E s:=by
 unfold leaving
 exact wpAny_bind (u6y I hst o hx tb hfl fun s' I' tr=>u1O (f:=none) I' hst o hx tr k)
end
noncomputable def CXe (P:Program) (w:World):CXT:=fun outer H s E u s'=>∃ (e C:Addr) (d:Option Addr) (H':Hp),u=.ref e∧s'.os=s.os∧AllBare s'.gens∧Un (frs outer) [] H H' s.heap s'.heap∧HOk P w H' s'.heap∧H' e=some (XO C d e) ∧
 Tb s.heap.objs.size s'.heap H' e .none∧E (.ref e) none H'
def Fly (X:Cx) (xq:XQ) (u:Value) (s':Shared):Prop:=∃ (n:Nat) (e C:Addr) (d:Option Addr) (σ:St) (H:Hp) (fl:Value),Old X [] n∧u=.ref e∧Inv X [] σ H s'∧H e=some (XO C d e)∧Tb n s'.heap H e fl∧(fl=.none∨fl=rawInt X.env.locals)∧xq (.ref e) σ H
structure XqOk (X:Cx) (xq:XQ):Prop where
 st:X.stack=X.env::X.outer∧X.env.frame=some X.env.locals
 xe:∀ u s',Fly X xq u s'→X.xe u s'
 ps:PassesOwn (model X.prog X.w) X.A X.env X.xe
section
variable {X:Cx}{xq:XQ}{M:Model}
theorem u8d (hst:X.stack=X.env::X.outer∧X.env.frame=some X.env.locals):PassesOwn M X.A X.env (Fly X xq):=by
 rintro u s' ⟨n,e,C,d,σ,H,fl,o,rfl,I,hx,tb,hfl,q⟩
 refine u6y I hst o hx tb hfl fun s2 I2 tr=>?_
 have tr':=tr
 obtain ⟨a0,oe,vs,a1,a2,a3,T,oT,ts,a4,a5,a6,a7,a8,a9,a10⟩:=tr'
 unfold cameBackBy
 refine wpAny_bind (wpAny_field a1 a2 a4 ?_)
 rw [if_neg (show ¬ ((Value.ref T==Value.none)=true) by simp),hst.2]
 exact u1O (f:=some X.env.locals) I2 hst o hx tr fun s3 I3 tr3=>⟨n,e,C,d,σ,H,_,o,rfl,I3,hx,tr3.tb,.inr rfl,q⟩
theorem Old.unwish {E:VP}{pins:LO}{n:Nat} (o:Old (X.wish E) pins n):Old X pins n:=⟨o.s0,o.loc,o.cel,o.pin⟩
theorem Fly.unwish {E:VP}{u:Value}{s':Shared} (h:Fly (X.wish E) xq u s'):Fly X xq u s':=by
 obtain ⟨n,e,C,d,σ,H,fl,o,rfl,I,hx,tb,hfl,q⟩:=h
 exact ⟨n,e,C,d,σ,H,fl,o.unwish,rfl,I.unwish,hx,tb,hfl,q⟩
theorem u3l (hst:X.stack=X.env::X.outer∧X.env.frame=some X.env.locals):XqOk (X.wish (Fly X xq)) xq:=⟨hst,fun _ _ h=>h.unwish,u8d (X:=X) hst⟩
theorem Inv.bare0 {pins:LO}{σ:St}{H:Hp}{s:Shared} (I:Inv X pins σ H s):Inv X [] σ H s:=I.pins_of fun p hp=>absurd hp (by simp)
theorem Old.bare0 {pins:LO}{n:Nat} (o:Old X pins n):Old X [] n:=⟨o.s0,o.loc,o.cel,fun p hp=>o.pin p (by simp at hp;exact List.mem_append_left _ hp)⟩
theorem v0T {pins:LO}{σ:St}{H:Hp}{s s':Shared}{u:Value} (I:Inv X pins σ H s) (h:CXe X.prog X.w X.stack H s (fun u _ H'=>∃ a,u=.ref a∧xq (.ref a) σ H') u s'):Fly X xq u s':=by
 obtain ⟨e,C,d,H',rfl,os,bare,un,hok,hx,tb,a,ha,q⟩:=h
 cases ha
 have I':Inv X pins σ H' s':=I.call' (ch:=[]) os un hok bare fun b z=>absurd z (by simp)
 exact ⟨_,e,C,d,σ,H',.none,I.old.bare0,rfl,I'.bare0,hx,tb,.inl rfl,q⟩
end
def spX (K:W.Frag) (f:FD):Sp:=fun vs H Q E=>∃ F ds,Same F H∧Rps K F vs ds∧(f ds).all (fun d=>∀ v F' H',Stp F H F' H'→Rp K F' v d→Q v H') (fun x=>∀ a F' H',Stp F H F' H'→Rp K F' (.ref a) x→E (.ref a) none H')
def CalleeX (P:Program) (w:World) (K:W.Frag) (mg:MG) (base:Heap) (k:Nat) (x:Str) (ps:List Str) (f:FD):Prop :=
 ∃ a fd,FnOk P w K mg base (CXe P w) k a fd ps (spX K f)∧Binds K fd ps []∧W.keepIn K (.ref a)=true∧mg x=some (.ref a)
section
variable {X:Cx}{xq:XQ}{e:Expr}{es:List Expr}{fs:Rho→Res (List D)}{x:Str}{p pos:Pos}
theorem u3w {k:Nat}{f:Addr}{fd:FuncData}{ps:List Str}{sp:Sp}{ds:List Value}{dvs:List V}{pins:LO}{σ:St}{H:Hp}{s:Shared}{Q:VK}{us:List Value}{vs:List V} (hq:XqOk X xq) (F:FnOk X.prog X.w X.K X.mg X.base (CXe X.prog X.w) k f fd ps sp) (hr:Room k X.A)
  (hb:Binds X.K fd ps ds) (hd:Vals dvs ds) (I:Inv X pins σ H s) (r:Vals vs us) (h:sp (vs++dvs) H Q (fun u _ H'=>∃ a,u=.ref a∧xq (.ref a) σ H')):wpAny (model X.prog X.w) X.A (call (.ref f) us) (EP X pins σ Q) X.xe s:=by
 have r2:Vals (vs++dvs) (us++ds):=r.append hd
 have hl:(us++ds).length=ps.length:=by rw [← r2.length];exact F.len _ _ _ _ h
 refine wpAny_call (codeAny_mono (F.run X.A X.stack s H ⟨us,[]⟩ (us++ds) (vs++dvs) Q _ hr I.env0 (hb s us I.kIn hl) r2 h) fun r s' hc=>?_)
 cases r with
 | error e=>exact hq.xe _ _ (v0T I hc)
 | ok fl =>
  cases fl with
  | ret u=>exact I.after hc
  | next=>exact False.elim hc
  | brk=>exact False.elim hc
  | cont=>exact False.elim hc
theorem errR {K:W.Frag}{B:Hp×Hp}{ρ:Rho}{σ:St}{F H F' H':Hp}{d:D}{v:V} (R:Rel K B ρ σ F H) (s:Stp F H F' H') (p:Rp K F' v d) (q:ErrK K xq B ρ σ d):xq v σ H':=by
 obtain ⟨F1,e1,R1⟩:=(R.step s).frz
 exact q v F1 H' R1 (p.same e1)
theorem u8t {K:W.Frag}{B:Hp×Hp}{ρ:Rho}{σ:St}{F H F0 H0:Hp}{f:FD}{ds:List D}{vs:List V}{Q:VK} (R:Rel K B ρ σ F H) (pv:Rps K F vs ds) (s0:Stp F0 H0 F H) (q:(f ds).all (fun d=>∀ v F' H',Stp F0 H0 F' H'→Rp K F' v d→Q v H') (ErrK K xq B ρ σ)) :
  spX K f vs H Q (fun u _ H'=>∃ a,u=.ref a∧xq (.ref a) σ H') :=
 ⟨F,ds,R.fh,pv,Res.all_mono q (fun d k v F' H' st p=>k v F' H' (s0.trans st) p) fun x k a F' H' st p=>⟨a,rfl,errR R st p k⟩⟩
theorem u2V {P:Program}{w:World}{K:W.Frag}{mg:MG}{base:Heap}{k k':Nat}{ps:List Str}{f:FD} (hq:XqOk X xq) (h:CalleeX P w K mg base k x ps f) (hr:Room k' X.A) (ha:DA X xq (e::es) fs) (hk:k≤k':=by decide) (hg:Gl X x:=by rfl)
  (eP:X.prog=P:=by rfl) (ew:X.w=w:=by rfl) (eK:X.K=K:=by rfl) (em:X.mg=mg:=by rfl) (eb:X.base=base:=by rfl) (hdb:(x==("__debug__":Str))=false:=by decide):DE X xq (.Call (.Name x p) (e::es) [] pos) (fun ρ=>(fs ρ).bind f) :=
 ⟨fun pins s σ H Q I z9=>un5 z9 fun B F ρ R q=>by
  subst eP ew eK em eb
  obtain ⟨a,fd,G,hb,hkp,hm⟩:=h
  refine wpAny_Call_Name_kw (u2h I hg hm ?_ hdb)
  refine W.callWith_K (h₀:=X.base) I.ok.mod.kin hkp (thn (ha.out pos pins s σ H _ I (seqA R q fun ds vs F1 H1 s1 R1 p1 q1=>show spX X.K f (vs++[]) H1 Q (fun u _ H'=>∃ a,u=.ref a∧xq (.ref a) σ H') from by rw [List.append_nil];exact u8t R1 p1 s1 q1)) fun us s1 ⟨vs,H1,I1,r,q⟩=>⟨I1.kIn,?_⟩) (u0k (u0h ha.ns).1) (u0D (u0h ha.ns).2)
  exact u3w hq G (hr.mono hk) hb .nil I1 r q⟩
end
section
variable {P:Program}{w:World}{K:W.Frag}{mg:MG}{base:Heap}
abbrev xq0 (E:XK):XQ:=fun v _ H'=>∀ a,v=.ref a→E (.ref a) none H'
noncomputable abbrev cxR (P:Program) (w:World) (K:W.Frag) (mg:MG) (base:Heap) (N:List Str) (qual:Str) (scope:Scope) (f:Addr) (cdv:Value) (A:Around) (outer:List Env) (s:Shared) (H:Hp) (E:XK):Cx :=
 (cxOf (CXe P w) P w K mg base N qual scope f cdv A outer s H E).wish (Fly (cxOf (CXe P w) P w K mg base N qual scope f cdv A outer s H E) (xq0 E))
theorem PSs.wishTo {X:Cx}{E:VP}{sts:List Stmt}{t:TS} (h:PSs (X.wish E) sts t) (k:∀ u s',E u s'→X.xe u s'):PSs X sts t:=fun pins s σ H T I hw =>
 wpAny_mono (h pins s σ H T (I.wish _) hw) (fun _ _ q=>q.unwish) k
theorem Fun.okX {x qual:Str}{st:Stmt}{f:Addr}{fd:FuncData}{N ps:List Str}{k:Nat}{g:FD} (F:Fun K x qual st f fd) (S:FnScope N ps (defScope st)) (len:∀ ds,g ds≠.bad→ds.length=ps.length)
  (hbody:∀ (cdv:Value) (A:Around) (outer:List Env) (s:Shared) (H:Hp) (E:XK),Room k (A.deeper (envOfC qual (defScope st) s.heap.objs.size f cdv))→XqOk (cxR P w K mg base N qual (defScope st) f cdv A outer s H E) (xq0 E) →
   ∃ t,DB (cxR P w K mg base N qual (defScope st) f cdv A outer s H E) (xq0 E) (defBody st) t∧∀ ds,g ds≠.bad→outR (t (startD N.length ds))=g ds):FnOk P w K mg base (CXe P w) (k+1) f fd ps (spX K g):=by
 obtain ⟨oc,od,kV,doc,pm,an,cdv,ct,osl,rfl,lk,hcd⟩:=F.ex
 have nb:∀ vs H Q E,spX K g vs H Q E→∃ G ds,Same G H∧Rps K G vs ds∧g ds≠.bad∧(g ds).all (fun d=>∀ v F' H',Stp G H F' H'→Rp K F' v d→Q v H') (fun x=>∀ a F' H',Stp G H F' H'→Rp K F' (.ref a) x→E (.ref a) none H'):=fun vs H Q E ⟨G,ds,fh,r,q⟩ =>
  ⟨G,ds,fh,r,fun z=>by rw [z] at q;exact q,q⟩
 refine fn_of lk hcd S (fun vs H Q E h=>?_) fun A outer s H vs Q E hr hsp=>?_
 ·obtain ⟨G,ds,fh,r,z,q⟩:=nb vs H Q E h
  rw [r.length];exact len ds z
 ·obtain ⟨G,ds,fh,r,z,q⟩:=nb vs H Q E hsp
  have hst:(cxOf (CXe P w) P w K mg base N qual (defScope st) f cdv A outer s H E).stack=(cxOf (CXe P w) P w K mg base N qual (defScope st) f cdv A outer s H E).env::(cxOf (CXe P w) P w K mg base N qual (defScope st) f cdv A outer s H E).outer∧(cxOf (CXe P w) P w K mg base N qual (defScope st) f cdv A outer s H E).env.frame=some (cxOf (CXe P w) P w K mg base N qual (defScope st) f cdv A outer s H E).env.locals:=⟨rfl,rfl⟩
  obtain ⟨t,h1,h2⟩:=hbody cdv A outer s H E hr (u3l hst)
  refine ⟨_,PSs.wishTo h1.out ?_,(G,H),G,_,r.begin fh,⟨?_⟩⟩
  ·rintro u s' ⟨n,e,C,d,σ,H',fl,o,rfl,I,hx,tb,hfl,q⟩
   refine u7j I hst o hx tb hfl fun s2 I2 tr=>?_
   exact ⟨e,C,d,H',rfl,I2.os,I2.bare,I2.base,I2.hok,hx,tr.tb.mono o.s0,q e rfl⟩
  ·have y:=h2 ds z
   rw [← y] at q
   generalize t (startD N.length ds)=o at q
   cases o with
   | nx ρ=>exact fun σ F' H' R=>q .non F' H' R.st .non
   | rt d'=>exact fun v F' H' st pv=>q v F' H' st pv
   | bk ρ=>exact q.elim
   | ct ρ=>exact q.elim
   | er x ρ=>exact fun v σ F' H' R pv a ea=>by subst ea;exact q a F' H' R.st pv
   | bad=>exact q.elim
end
def ExFr (h:Heap) (e C:Addr) (dx:Option Addr):Prop:=∃ t sl,h.get? e=some { cls:=.ref C,dict:=dx,data:=.fields #[.ref t,.none,.none,.none,.bool false,.none],slots:=sl }
theorem ExFr.at {h:Heap}{e C:Addr}{dx:Option Addr} (x:ExFr h e C dx):ExAt h e C dx:=let ⟨t,sl,q⟩:=x;⟨t,_,_,_,_,_,sl,q⟩
noncomputable def XF (C:Addr) (dx:Option Addr) (e:Addr) (n:Nat):HO:=.ext fun h=>ExFr h e C dx∧n≤e
section
variable {P:Program}{w:World}{H:Hp}{h:Heap}{e C dx:Addr}{d:Option Addr}{n:Nat}
theorem xf_ok (x:ExFr h e C d) (hn:n≤e):ObjOk P w H h e (XF C d e n) :=
 ⟨⟨x,hn⟩,let ⟨_,_,q⟩:=x;⟨_,q⟩,fun h1 h2 ⟨⟨t,sl,q⟩,z⟩ k=>⟨⟨t,sl,k _ q⟩,z⟩⟩
theorem xf_at (x:HOk P w H h) (q:H e=some (XF C d e n)):ExFr h e C d∧n≤e:=(show ObjOk P w H h e (XF C d e n) from x e _ q).1
theorem HOk.xo (x:HOk P w H h) (q:H e=some (XF C d e n)):HOk P w (upd H e (XO C d e)) h:=fun b u z=>by
 by_cases y:b=e
 ·subst y
  rw [u0g] at z;cases z
  exact xo_ok (xf_at x q).1.at
 ·rw [u0j y] at z
  exact ObjOk.stay (x b u z) (fun _ _ _ v=>v) (fun c v=>by
   rw [u0j (fun t=>by subst t;rw [q] at v;unfold XF at v;cases v)];exact v) (fun c xs v=>by
   rw [u0j (fun t=>by subst t;rw [q] at v;unfold XF at v;cases v)];exact v)
end
section
variable {X:Cx}{pins:LO}{σ:St}{H:Hp}{s:Shared}{a C dx fI:Addr}{fs:List (Str×V)}{f:Str}{v:V}{A:Around}{E:VP}{n:Nat}{d:Option Addr}
theorem Inv.xo (I:Inv X pins σ H s) (q:H a=some (XF C d a n)):Inv X pins σ (upd H a (XO C d a)) s:=by
 have hok:=I.hok.xo q
 have nn:∀ b,H b=none→upd H a (XO C d a) b=none:=fun b z=>by
  rw [u0j (fun t=>by subst t;rw [q] at z;cases z)];exact z
 have st:∀ b u,H b=some u→(∀ φ,u≠.ext φ)→upd H a (XO C d a) b=some u:=fun b u z y=>by
  rw [u0j (fun t=>by subst t;rw [q] at z;cases z;exact y _ rfl)];exact z
 exact I.un (h':=s.heap) (t':=s.toks) ⟨fun _ _ x _ _ _=>x,fun _ o x _ _ _=>⟨o.slots,x⟩,fun b _ _ z _=>nn b z,fun _ o x _=>⟨o,x⟩,fun b xs z=>st b _ z (fun _ y=>nomatch y),fun b o u z=>st b _ z (fun _ y=>nomatch y),fun b ps z=>⟨#[],by rw [Array.append_empty];exact st b _ z (fun _ y=>nomatch y)⟩⟩ hok
theorem u9u {prog:Program}{w:World}{K:W.Frag}{e:Addr}{name:Str}{v:Value}{Q:Unit→Shared→Prop} (X:K.In s.heap) (c:XCls K C fI) (he:ExFr s.heap e C none) (hn:W.findIn K (.ref C) name=some none)
  (h:∀ h1 h',ExFr h1 e C (some s.heap.objs.size)→(∀ b o,b≠e→(s.heap.push W.emptyDict).get? b=some o→h1.get? b=some o)→h'.Ns1 s.heap.objs.size (fun y=>if y=name then some v else none)→Heap.SameBut s.heap.objs.size h1 h'→Q () { s with heap:=h',toks:=s.toks+2 }) :
  wpAny (model prog w) A (setAttr (.ref e) name v) Q E s:=by
 obtain ⟨t,sl,he⟩:=he
 have I:W.InstAt s.heap e _ C none:=⟨he,rfl,rfl,True.intro⟩
 refine W.set_plain X I c.sa (exc_osa (s:={ s with toks:=s.toks+1 }) X c I hn fun b=>?_)
 obtain ⟨cd,hc,_,hd⟩:=c.ov
 have hlt:e<s.heap.objs.size:=Heap.lt_size he
 refine wpAny_bind (wpAny_pure (wpAny_bind (wpAny_bind (wpAny_loadPart he (wpAny_bind (W.Looks.here (s:={ s with toks:=s.toks+1 }) (W.looks_clsIn X hc) ?_))))))
 rw [hd]
 refine wpAny_bind (wpAny_alloc (wpAny_bind (wpAny_update (s:={ s with heap:=s.heap.push W.emptyDict,toks:=s.toks+1 }) (Heap.get?_push_of_some _ he) ?_)))
 have hne:e≠s.heap.objs.size:=Nat.ne_of_lt hlt
 have hd0:((s.heap.push W.emptyDict).update e fun o=>{ o with dict:=some s.heap.objs.size }).get? s.heap.objs.size=some W.emptyDict:=by
  rw [Heap.get?_update_other _ _ hne]
  exact Heap.get?_push_size _ rfl
 have he1:((s.heap.push W.emptyDict).update e fun o=>{ o with dict:=some s.heap.objs.size }).get? e=some { cls:=.ref C,dict:=some s.heap.objs.size,data:=.fields #[.ref t,.none,.none,.none,.bool false,.none],slots:=sl } :=
  Heap.get?_update_self _ (Heap.get?_push_of_some _ he) rfl
 have hk1:∀ b o,b≠e→(s.heap.push W.emptyDict).get? b=some o→((s.heap.push W.emptyDict).update e fun o=>{ o with dict:=some s.heap.objs.size }).get? b=some o:=fun b o hb q=>by
  rw [Heap.get?_update_other _ _ (Ne.symm hb)]
  exact q
 have hns:((s.heap.push W.emptyDict).update e fun o=>{ o with dict:=some s.heap.objs.size }).Ns1 s.heap.objs.size (fun _=>none) :=
  Heap.Ns1.of_empty ⟨_,#[],_,hd0,rfl,fun x hx=>absurd hx (by simp),fun _=>rfl⟩
 generalize (s.heap.push W.emptyDict).update e (fun o=>{ o with dict:=some s.heap.objs.size })=h1 at hd0 he1 hk1 hns ⊢
 refine wpAny_pure (a:=some s.heap.objs.size) (wpAny_bind (wpAny_pure (wpAny_bind ?_)))
 refine wpAny_nsSet1 (s:={ s with heap:=h1,toks:=s.toks+1 }) hns fun h' hn2 hs2=>?_
 obtain ⟨oD,esD,epD,hoD,hdD,hcD⟩:=hn2.count (PySem.Within.cons name v (ns:=[]) (fun y u=>absurd rfl u))
 refine wpAny_bind (wpAny_lookBehind hoD (by rw [hdD];exact pastItsLine_dict (Nat.le_trans hcD (by rw [List.length_singleton,sizeLine_eq];decide))) ?_)
 exact wpAny_pure (h h1 _ ⟨t,sl,he1⟩ hk1 hn2 hs2)
theorem u8l {y:V}{u:Value}{Q:Unit→Shared→Prop} (I:Inv X pins σ H s) (e:H a=some (XF C none a n)) (c:XCls X.K C fI) (na:NoAttr X.K C f) (ry:RelV y u)
  (h:∀ dx s',H dx=none→dx≠a→Inv X pins σ (upd (upd H dx (DXO dx [(f,y)])) a (XF C (some dx) a n)) s'→Q () s'):wpAny (model X.prog X.w) A (setAttr (.ref a) f u) Q E s:=by
 obtain ⟨hx,hn⟩:=xf_at I.hok e
 have hfr:H s.heap.objs.size=none:=I.hok.fresh (Nat.le_refl _)
 have hne:s.heap.objs.size≠a:=(u0l e hfr).symm
 refine u9u I.kIn c hx na fun h1 h' x1 k1 n2 sb=>h s.heap.objs.size _ hfr hne ?_
 have e0:(s.heap.push W.emptyDict).get? s.heap.objs.size=some W.emptyDict:=Heap.get?_push_size s.heap rfl
 have n0:(s.heap.push W.emptyDict).Ns1 s.heap.objs.size (fun _=>none):=Heap.Ns1.of_empty ⟨_,#[],_,e0,rfl,fun x hx=>absurd hx (by simp),fun _=>rfl⟩
 have I1:=I.laid (a:=s.heap.objs.size) (o:=DXO s.heap.objs.size []) (h':=s.heap.push W.emptyDict) (t':=s.toks) (fun b u q=>Heap.get?_push_of_some _ q) (Nat.le_refl _) (v1A n0 (fun _=>True.intro) (fun y hy=>absurd rfl hy))
 have ea:upd H s.heap.objs.size (DXO s.heap.objs.size []) a=some (XF C none a n):=by rw [u0j hne.symm];exact e
 have I2:=I1.write (x:=a) (e:=a) (o:=XF C (some s.heap.objs.size) a n) (h':=h1) (t':=s.toks) (by rw [ea];exact True.intro) (.inl rfl) (fun b q hb z=>k1 b q hb z) (let ⟨_,_,q⟩:=x1;⟨_,q⟩) (xf_ok x1 hn)
 have ed:upd (upd H s.heap.objs.size (DXO s.heap.objs.size [])) a (XF C (some s.heap.objs.size) a n) s.heap.objs.size=some (DXO s.heap.objs.size []):=by rw [u0j hne,u0g]
 have I3:=I2.write (x:=s.heap.objs.size) (e:=s.heap.objs.size) (o:=DXO s.heap.objs.size [(f,y)]) (h':=h') (t':=s.toks+2) (by rw [ed];exact True.intro) (.inl rfl) (fun b q hb z=>(sb.2 b hb).trans z) (let ⟨o,_,_,q,_⟩:=n2;⟨o,q⟩) (v1A n2 (fun g=>by
  show RelO (List.lookup g [(f,y)]) (if g=f then some u else none)
  by_cases q:g=f
  ·subst q;rw [if_pos rfl];simp only [List.lookup,beq_self_eq_true];exact ry
  ·rw [if_neg q];simp only [List.lookup,beq_eq_false_iff_ne.mpr q];exact True.intro) (fun g hg=>by
  by_cases q:g=f
  ·rw [q];exact List.mem_cons_self
  ·exact absurd (if_neg q) hg))
 have eq:upd (upd (upd H s.heap.objs.size (DXO s.heap.objs.size [])) a (XF C (some s.heap.objs.size) a n)) s.heap.objs.size (DXO s.heap.objs.size [(f,y)])=upd (upd H s.heap.objs.size (DXO s.heap.objs.size [(f,y)])) a (XF C (some s.heap.objs.size) a n):=by
  funext b
  unfold upd
  by_cases q1:b=s.heap.objs.size
  ·rw [if_pos q1,if_neg (by rw [q1];exact hne),if_pos q1]
  ·rw [if_neg q1]
   by_cases q2:b=a
   ·rw [if_pos q2,if_pos q2]
   ·rw [if_neg q2,if_neg q2,if_neg q1,if_neg q1]
 rw [eq] at I3
 exact I3
theorem Inv.xfmade (I:Inv X pins σ H s) (us:List Value):Inv X pins σ (upd H (s.heap.objs.size+1) (XF C none (s.heap.objs.size+1) s.heap.objs.size)) { s with heap:=(s.heap.push (tupO us)).push (excO C s.heap.objs.size none) }:=by
 have I1:=I.kept (t':=s.toks) (h':=s.heap.push (tupO us)) (fun b u q=>Heap.get?_push_of_some _ q)
 refine I1.laid (a:=s.heap.objs.size+1) (o:=XF C none (s.heap.objs.size+1) s.heap.objs.size) (t':=s.toks) (fun b u q=>Heap.get?_push_of_some _ q) (Nat.le_of_eq (Heap.size_push _ _)) ?_
 have:=Heap.get?_push_size (s.heap.push (tupO us)) (o:=excO C s.heap.objs.size none) rfl
 rw [Heap.size_push] at this
 exact xf_ok ⟨_,_,this⟩ (Nat.le_succ _)
end
section
variable {M:Model}{A:Around}{E:VP}{env:Env}{K:W.Frag}{C f:Addr}
theorem XCls.base (c:XCls K C f):∃ bm N nm q bs sn sub ab col dd k0 k1 k2 k3 k5,K.lookup C=some (excClassObj nm q C N bs bm true sn sub ab col dd k0 k1 k2 k3 k5 "ValueError.__new__")∧(Value.ref C::bm).contains (.type "BaseException")=true:=by
 obtain ⟨bm,N,nm,q,bs,sn,sub,ab,col,dd,k0,k1,k2,k3,k5,hK,ht⟩:=c.obj
 obtain ⟨cd,hc,ho,_⟩:=c.ov
 refine ⟨bm,N,nm,q,bs,sn,sub,ab,col,dd,k0,k1,k2,k3,k5,hK,?_⟩
 unfold W.clsIn at hc
 rw [hK] at hc
 cases hc
 exact u1o ho
theorem u7R {s:Shared}{x:Sem Value}{Q:Flow→Shared→Prop} (hh:A.handled=none)
  (h:wpAny M A x (fun v s₁=>∃ (e t C f:Addr) (dx:Option Addr) (sl:Array (Option Value)) (K:W.Frag),v=.ref e∧K.In s₁.heap∧XCls K C f ∧
   s₁.heap.get? e=some { cls:=.ref C,dict:=dx,data:=.fields #[.ref t,.none,.none,.none,.bool false,.none],slots:=sl }∧E (.ref e) s₁) E s):wpAny M A (raiseStmt env (some x) none) Q E s:=by
 unfold raiseStmt
 refine wpAny_bind (wpAny_mono h (fun v s₁ h₁=>?_) fun _ _ x=>x)
 obtain ⟨e,t,C,f,dx,sl,K,rfl,KI,c,he,hE⟩:=h₁
 obtain ⟨bm,N,nm,q,bs,sn,sub,ab,col,dd,k0,k1,k2,k3,k5,hK,hb⟩:=c.base
 have hC:=KI _ _ hK
 obtain ⟨hp,g,d,tk,os⟩:=s₁
 repeat (first | (with_reducible refine wpAny_loadPart_at he ?_) | (with_reducible refine wpAny_loadPart_at hC ?_) | ((with_reducible refine wpAny_isSubtype_exc hC ?_);rw [hb]) | wp_step)
 exact wpAny_raiseNew_none hh hE
end
def spXI (C:Addr) (fls:List Str):Sp:=fun vs H Q _=>∃ a args n,vs=.ref a::args∧args.length=fls.length∧H a=some (XF C none a n)∧∀ dx,H dx=none→dx≠a→Q .non (upd (upd H dx (DXO dx (fls.zip args))) a (XF C (some dx) a n))
section
variable {X:Cx}{e o value:Expr}{es:List Expr}{ta tv:TE}{f x:Str}{p pos pos' cpos:Pos}{C fI:Addr}{fd:FuncData}{ps fls:List Str}{k:Nat}
def sXF (K:W.Frag) (ta tv:TE) (f:Str):TS:=fun T σ H=>tv σ H fun y H1=>ta σ H1 fun x H2=>∃ a C fI n,x=.ref a∧XCls K C fI∧NoAttr K C f∧H2 a=some (XF C none a n)∧∀ dx,H2 dx=none→dx≠a→T.nx σ (upd (upd H2 dx (DXO dx [(f,y)])) a (XF C (some dx) a n))
theorem ps_xf (ha:PE X o ta) (hv:PE X value tv) (hs:swapsWith value (some (.Attribute o f pos')) pos.line X.env=pure false:=by rfl):PS X (.Assign [.Attribute o f pos'] value pos) (sXF X.K ta tv f):=by
 intro pins s σ H T I h
 refine plainObj_wpAny_Assign_Attribute (thn (hv pins s σ H _ I h) fun u s1 ⟨y,H1,I1,ry,q⟩=>thn (ha pins s1 σ H1 _ I1 q) fun ov s2 ⟨x,H2,I2,rx,a,C,fI,n,ex,c,na,ea,q2⟩=>?_) hs
 subst ex
 obtain rfl:ov=Value.ref a:=rx
 exact u8l I2 ea c na ry fun dx s3 h1 h2 I3=>⟨σ,_,I3,q2 dx h1 h2⟩
theorem run_xf {pins:LO}{σ:St}{H:Hp}{s:Shared}{Q:VP}{us:List Value}{vs:List V} (c:XCls X.K C fI) (F:FnOk X.prog X.w X.K X.mg X.base CX0 k fI fd ps (spXI C fls)) (hr:Room (k+1) X.A) (hb:Binds X.K fd ps [])
  (I:Inv X pins σ H s) (r:Vals vs us) (hz:vs.length≤1000) (hn:vs.length=fls.length)
  (h:∀ a dx s',H a=none→H dx=none→dx≠a→Inv X pins σ (upd (upd H dx (DXO dx (fls.zip vs))) a (XF C (some dx) a s.heap.objs.size)) s'→Q (.ref a) s'):wpAny (model X.prog X.w) X.A (call (.ref C) us) Q X.xe s:=by
 have h1:H (s.heap.objs.size+1)=none:=I.hok.fresh (Nat.le_succ _)
 have I2:=Inv.xfmade (C:=C) I us
 have r2:Vals (V.ref (s.heap.objs.size+1)::vs) (Value.ref (s.heap.objs.size+1)::us):=.cons rfl r
 have hq:spXI C fls (.ref (s.heap.objs.size+1)::vs) (upd H (s.heap.objs.size+1) (XF C none (s.heap.objs.size+1) s.heap.objs.size)) (fun v H2=>v=.non∧∃ dx,H dx=none∧dx≠s.heap.objs.size+1∧H2=upd (upd H dx (DXO dx (fls.zip vs))) (s.heap.objs.size+1) (XF C (some dx) (s.heap.objs.size+1) s.heap.objs.size)) E0:=by
  refine ⟨_,_,_,rfl,hn,u0g,fun dx d1 d2=>⟨rfl,dx,?_,d2,?_⟩⟩
  ·rw [u0j d2] at d1;exact d1
  ·funext b
   unfold upd
   by_cases q1:b=s.heap.objs.size+1
   ·rw [if_pos q1,if_pos q1]
   ·rw [if_neg q1,if_neg q1,if_neg q1]
 have hl:(Value.ref (s.heap.objs.size+1)::us++[]).length=ps.length:=by
  have e:=r2.length
  rw [F.len _ _ _ _ hq] at e
  rw [List.append_nil]
  exact e.symm
 refine wpAny_call ?_
 obtain ⟨hh,g,d,tt,os⟩:=s
 refine v0U (f:=fI) I.kIn c (by rw [← r.length,sizeLine_eq];omega) ?_
 refine codeAny_mono (F.run _ X.stack _ _ ⟨Value.ref (hh.objs.size+1)::us,[]⟩ (Value.ref (hh.objs.size+1)::us) _ _ E0 (hr.make C us []) (I2.env0.make C us []) (by have:=hb _ (Value.ref (hh.objs.size+1)::us) I2.kIn hl;rwa [List.append_nil] at this) r2 hq) fun r s' hq'=>?_
 cases r with
 | error e=>exact False.elim hq'
 | ok fl =>
  cases fl with
  | ret u =>
   obtain ⟨v,H',I3,rv,ev,dx,q1,q2,q3⟩:=I2.after hq'
   subst ev q3
   exact ⟨rv,h _ dx s' h1 q1 q2 I3⟩
  | next=>exact False.elim hq'
  | brk=>exact False.elim hq'
  | cont=>exact False.elim hq'
def XCalleeF (P:Program) (w:World) (K:W.Frag) (mg:MG) (base:Heap) (k:Nat) (x:Str) (C:Addr) (ps fls:List Str):Prop :=
 ∃ f fd,XCls K C f∧FnOk P w K mg base CX0 k f fd ps (spXI C fls)∧Binds K fd ps []∧mg x=some (.ref C)
theorem Rps.zip {K:W.Frag}{F:Hp}:∀ {vs:List V}{ds:List D} (fls:List Str),Rps K F vs ds→Rpf K F (fls.zip vs) (fls.zip ds)
 | _,_,[],_=>by simpa using Rpf.nil
 | _,_,_::_,.nil=>by simpa using Rpf.nil
 | _,_,f::fls,.cons h hs=>.cons h (hs.zip fls)
theorem u7w {xq:XQ}{fs:Rho→Res (List D)}{P:Program}{w:World}{K:W.Frag}{mg:MG}{base:Heap}{k':Nat} (hq:XqOk X xq) (hc:X.calm=true) (h:XCalleeF P w K mg base k x C ps fls) (hr:Room k' X.A) (ha:DA X xq (e::es) fs) (hk:k+1≤k':=by decide) (hg:Gl X x:=by rfl)
  (eP:X.prog=P:=by rfl) (ew:X.w=w:=by rfl) (eK:X.K=K:=by rfl) (em:X.mg=mg:=by rfl) (eb:X.base=base:=by rfl) (hdb:(x==("__debug__":Str))=false:=by decide) :
  DS X xq (.Raise (some (.Call (.Name x p) (e::es) [] cpos)) none pos) (fun ρ=>(fs ρ).go ρ fun ds=>if ds.length=fls.length∧ds.length≤1000 then .er (.exc C (fls.zip ds)) (frz ρ) else .bad):=by
 subst eP ew eK em eb
 obtain ⟨f,fd,c,F,hb,hm⟩:=h
 refine ⟨fun pins s σ H T I ⟨B,G,ρ,R,q⟩=>?_⟩
 rw [arm_exec_Raise]
 refine wpAny_bind (wpAny_standAt ?_)
 refine u7R (I.ok.hd hc) ?_
 refine wpAny_bind (m:=eval (.Call (.Name x p) (e::es) [] cpos) X.env) (wpAny_Call_Name_kw (u2h I hg hm ?_ hdb))
 refine W.callWith_K (h₀:=X.base) I.ok.mod.kin c.kp (thn (ha.out cpos pins s σ H (fun vs H1=>∃ G1 ds,Rel X.K B ρ σ G1 H1∧Rps X.K G1 vs ds∧ds.length=fls.length∧ds.length≤1000∧∀ v σ F H,Rel X.K B (frz ρ) σ F H→Rp X.K F v (.exc C (fls.zip ds))→xq v σ H) I ?_) fun us s1 ⟨vs,H1,I1,r,G1,ds,R1,p1,l1,l2,q1⟩=>⟨I1.kIn,?_⟩) (u0k (u0h ha.ns).1) (u0D (u0h ha.ns).2)
 ·refine ⟨B,G,ρ,R,Res.all_mono (u0q q.out) (fun ds z vs G1 H1 st p1=>?_) fun _ z=>errOf z⟩
  by_cases hz:ds.length=fls.length∧ds.length≤1000
  ·rw [if_pos hz] at z
   exact ⟨G1,ds,R.step st,p1,hz.1,hz.2,z⟩
  ·rw [if_neg hz] at z;exact z.elim
 ·refine run_xf c F (hr.mono hk) hb I1 r (by rw [p1.length];exact l2) (p1.length.trans l1) fun a dx s2 n1 n2 n3 I2=>wpAny_bind (wpAny_standAt (wpAny_pure ?_))
  have xa:=xf_at I2.hok u0g
  obtain ⟨⟨t,sl,z⟩,hn⟩:=xa
  refine ⟨a,t,C,f,some dx,sl,X.K,rfl,I2.kIn,c,z,hq.xe _ _ ?_⟩
  have I3:=I2.xo u0g
  rw [upd_upd] at I3
  refine ⟨_,a,C,some dx,σ,_,.none,I1.old.bare0,rfl,I3.bare0,u0g,⟨hn,_,_,z,rfl,by show 1<6;decide,.inl ⟨rfl,rfl⟩⟩,.inl rfl,?_⟩
  have s1:=Stp.new (o:=DXO dx (fls.zip vs)) R1.fh n2
  have n1':upd H1 dx (DXO dx (fls.zip vs)) a=none:=by rw [u0j (Ne.symm n3)];exact n1
  have s2:=s1.trans (Stp.new (o:=XO C (some dx) a) s1.fh n1')
  obtain ⟨G3,e3,R3⟩:=(R1.step s2).frz
  refine q1 _ σ G3 _ R3 (Rp.same e3 (.exc u0g (by rw [u0j n3];exact u0g) ((p1.zip fls).same s2.ff)))
end
def XBase (K:W.Frag) (C:Addr):Prop:=∃ bm N nm q bs sn sub ab col dd k0 k1 k2 k3 k5,K.lookup C=some (excClassObj nm q C N bs bm true sn sub ab col dd k0 k1 k2 k3 k5 "ValueError.__new__")∧(Value.ref C::bm).contains (.type "BaseException")=true
noncomputable def xbB (K:W.Frag) (C:Addr):Bool:=match K.lookup C with
 | some ⟨.type "type",_,.cls cd,sl⟩=>(match cd.mro,sl.toList with
  | .ref C'::bm,[_,_,_,_,some (.builtin n),_]=>C'==C&&n=="ValueError.__new__"&&!cd.hasDel&&cd.hasDict&&(Value.ref C::bm).contains (.type "BaseException")
  | _,_=>false)
 | _=>false
theorem u4s {K:W.Frag}{C:Addr} (e:xbB K C=true):XBase K C:=by
 unfold xbB at e
 split at e
 ·rename_i dd cd sl ho
  split at e
  ·rename_i C' bm k0 k1 k2 k3 n k5 hm hs
   simp only [Bool.and_eq_true,beq_iff_eq,Bool.not_eq_true'] at e
   obtain ⟨⟨⟨⟨rfl,rfl⟩,hdel⟩,hdi⟩,hb⟩:=e
   obtain ⟨nm,bs,mro,ns,qn,hd,sn,sub,ab,col,del⟩:=cd
   dsimp only at hm hdel hdi
   subst hm hdel hdi
   have hsl:sl=#[k0,k1,k2,k3,some (.builtin "ValueError.__new__"),k5]:=by
    obtain ⟨l⟩:=sl
    simp only at hs
    rw [hs]
   subst hsl
   exact ⟨bm,ns,nm,qn,bs,sn,sub,ab,col,dd,k0,k1,k2,k3,k5,ho,hb⟩
  ·cases e
 ·cases e
noncomputable def subK (K:W.Frag) (C C':Addr):Bool:=match W.clsIn K C with
 | some cd=>cd.mro.contains (.ref C')
 | none=>false
section
variable {M:Model}{A:Around}{E:VP}{s:Shared}{K:W.Frag}{C C' e:Addr}
theorem u9s {Q:Bool→Shared→Prop}{oe:Obj} (KI:K.In s.heap) (c:XBase K C) (c':XBase K C') (he:s.heap.get? e=some oe) (hcls:oe.cls=.ref C) (hq:Q (subK K C C') s):wpAny M A (excMatches (.ref e) (.ref C')) Q E s:=by
 obtain ⟨bm,N,nm,q,bs,sn,sub,ab,col,dd,k0,k1,k2,k3,k5,hK,hb⟩:=c
 obtain ⟨bm',N',nm',q',bs',sn',sub',ab',col',dd',j0,j1,j2,j3,j5,hK',hb'⟩:=c'
 have hC:=KI _ _ hK
 have hC':=KI _ _ hK'
 have hs:subK K C C'=(Value.ref C::bm).contains (.ref C'):=by
  unfold subK W.clsIn
  rw [hK]
 rw [hs] at hq
 have f:=tc_notTuple
 obtain ⟨hp,g,d,tk,os⟩:=s
 unfold excMatches
 repeat (first | ((with_reducible refine wpAny_loadPart_at he ?_);rw [hcls]) | (with_reducible refine wpAny_loadPart_at hC' ?_) | ((with_reducible refine wpAny_isSubtype_exc hC' ?_);rw [hb']) | ((with_reducible refine wpAny_isSubtype_exc hC ?_);generalize hz:(Value.ref C::bm).contains (.ref C')=z at hq ⊢;cases z) | wp_step)
 all_goals (wp_walk;exact hq)
end
section
variable {X:Cx}{pins:LO}{σ:St}{H:Hp}{s:Shared}{M:Model}{A:Around}{E:VP}
theorem Inv.gone {i:Nat}{n:Str}{m:MG}{w:Option Value}{h':Heap}{t':Nat} (I:Inv X pins σ H s) (hN:X.N.Nodup) (hi:X.N[i]?=some n) (hl:∀ (j:Nat) (x:Str) (v:V),X.N[j]?=some x→σ[j]?=some (some v)→Vis X.env.scope x→∃ u,RelV v u∧Look X.env s.heap m x u)
  (hn':h'.Ns X.env.locals (fun x=>if x=n then w else m x)) (hs:Heap.SameBut X.env.locals s.heap h'):Inv X pins (σ.set i none) H { s with heap:=h',toks:=t' }:=by
 have ne:∀ b,b≠X.env.locals→h'.get? b=s.heap.get? b:=hs.2
 have old:∀ b o,X.s₀.heap.get? b=some o→b≠X.env.locals:=fun b o e=>Nat.ne_of_lt (Nat.lt_of_lt_of_le (Heap.lt_size e) I.ok.above)
 refine ⟨I.ok,I.os,I.bare,⟨fun b o e z hb hx=>(ne b (old b o e)).trans (I.base.keep b o e z hb hx),fun b o e z hb hx=>?_,I.base.free,fun b o e hx=>?_,I.base.tups,I.base.frzs,I.base.tbls⟩,⟨_,hn',fun j x v e1 e2 e3=>?_⟩,fun x c e=>?_,I.free,I.freeC,fun p hp=>?_,fun a o e=>?_,by simp [I.len]⟩
 ·obtain ⟨sl,q⟩:=I.base.slot b o e z hb hx
  exact ⟨sl,(ne b (old b o e)).trans q⟩
 ·obtain ⟨o',q⟩:=I.base.there b o e hx
  exact ⟨o',(ne b (old b o e)).trans q⟩
 ·by_cases hj:j=i
  ·subst hj
   rw [List.getElem?_set_self (by rw [I.len];exact (List.getElem?_eq_some_iff.mp hi).1)] at e2
   cases e2
  ·rw [List.getElem?_set_ne (Ne.symm hj)] at e2
   obtain ⟨u,r,q⟩:=hl j x v e1 e2 e3
   refine ⟨u,r,?_⟩
   rcases q with ⟨k,q⟩ | ⟨k,c,q,z⟩
   ·have nx:x≠n:=fun y=>hj (u4J hN e1 (y ▸ hi))
    exact .inl ⟨k,by show (if x=n then w else m x)=some u;rw [if_neg nx];exact q⟩
   ·exact .inr ⟨k,c,q,z.sameBut hs (I.cne x c q)⟩
 ·obtain ⟨v,z⟩:=I.cell x c e
  exact ⟨v,z.sameBut hs (I.cne x c e)⟩
 ·obtain ⟨q,z,nl,nf,d⟩:=I.pin p hp
  exact ⟨(ne p.1 nl).trans q,z,nl,nf,d⟩
 ·refine (I.hok a o e).stay (fun c u hc q=>(ne c ?_).trans q) (fun _ q=>q) fun _ _ q=>q
  rintro rfl
  rcases hc with rfl | hc
  ·rw [I.free] at e;cases e
  ·rw [I.free] at hc;cases hc
theorem u4P {i:Nat}{n:Str}{pos:Pos}{Q:Unit→Shared→Prop} (I:Inv X pins σ H s) (hN:X.N.Nodup) (hi:X.N[i]?=some n) (hl:X.env.scope.names.lookup n=some .local) (hk:X.env.kindOf n=some .local)
  (h:∀ s',Inv X pins (σ.set i none) H s'→Q () s'):wpAny M A (do bindName X.env n .none;unbindBehindTheSuite X.env n pos) Q E s:=by
 have hp:(X.env.scope.kind==.class||(X.env.scope.kind==.module&&X.env.locals != X.env.globals))=false:=by rw [I.ok.kind];rfl
 refine wpAny_bind (wpAny_bindName (u3i (v:=.non) I hN hi (.inl hl) rfl (fun s1 I1=>?_) (.inr hl)))
 obtain ⟨m,hn,hlo⟩:=id I1.loc
 have hiσ:i<σ.length:=by rw [I.len];exact (List.getElem?_eq_some_iff.mp hi).1
 obtain ⟨u,ru,lk⟩:=hlo i n .non hi (by rw [List.getElem?_set_self hiσ]) (.inl hl)
 have hm:m n=some .none:=by
  cases ru
  rcases lk with ⟨_,q⟩ | ⟨k,_⟩
  ·exact q
  ·rw [hk] at k;rcases k with k | k <;> cases k
 unfold unbindBehindTheSuite
 refine wpAny_onRaise ?_
 unfold unbindName
 refine wpAny_bind (wpAny_point (wpAny_bind ?_))
 unfold deleteName
 simp only [hk,hp]
 rw [if_neg (by decide)]
 refine wpAny_bind (wpAny_nsDel_keeps hn fun h2 w hn2 hs2=>?_)
 rw [hm]
 simp only [if_true,Option.isSome_some,Bool.not_true,Bool.false_eq_true,if_false]
 refine wpAny_pure (wpAny_point ?_)
 have I2:=I1.gone (t':=s1.toks) hN hi hlo hn2 hs2
 rw [List.set_set] at I2
 exact h _ I2
end
abbrev cxH (X:Cx) (e:Addr):Cx:={ X with A:=X.A.mark (some (.ref e)),calm:=false,xe:=fun _ _=>False }
section
variable {X:Cx}{xq:XQ}{pins:LO}{σ:St}{H:Hp}{s:Shared}{e:Addr}
theorem Inv.toH (I:Inv X pins σ H s) (e:Addr):Inv (cxH X e) pins σ H s :=
 ⟨⟨I.ok.mod,I.ok.kind,I.ok.glob,I.ok.blt,I.ok.above,I.ok.inj,I.ok.has,I.ok.cab,(fun z=>nomatch z),I.ok.frames,I.ok.stk,I.ok.exf,I.ok.bs,I.ok.bsz,I.ok.noex,I.ok.exfs,I.ok.funs,I.ok.frf⟩,I.os,I.bare,I.base,I.loc,I.cell,I.free,I.freeC,I.pin,I.hok,I.len⟩
theorem Inv.ofH (J:X.Ok) (I:Inv (cxH X e) pins σ H s):Inv X pins σ H s:=⟨J,I.os,I.bare,I.base,I.loc,I.cell,I.free,I.freeC,I.pin,I.hok,I.len⟩
theorem Rel.unset {K:W.Frag}{B:Hp×Hp}{ρ:Rho}{F:Hp}{i:Nat} (r:Rel K B ρ σ F H):Rel K B (ρ.set i none) (σ.set i none) F H where
 st:=r.st
 len:=by simp [r.len]
 val j d e:=by
  rcases u0u e with ⟨rfl,q,z⟩ | ⟨q,z⟩
  ·cases z
  ·rw [u0x q];exact r.val j d z
 own j o e:=by
  rcases u0u e with ⟨rfl,q,z⟩ | ⟨q,z⟩
  ·cases z
  ·rw [u0x q];exact r.own j o z
 dis j k o u a x y:=by
  rcases u0u x with ⟨rfl,q,z⟩ | ⟨q,z⟩
  ·cases z
  ·rcases u0u y with ⟨rfl,q',z'⟩ | ⟨q',z'⟩
   ·cases z'
   ·rw [u0x q,u0x q'];exact r.dis j k o u a z z'
def PH (X:Cx) (xq:XQ) (hs:List ExceptHandler) (hd:D→Rho→Out):Prop:=∀ (pins:LO) (s:Shared) (σ:St) (H:Hp) (B:Hp×Hp) (F:Hp) (ρ:Rho) (x:D) (e:Addr) (n:Nat) (T:Ends),Inv X pins σ H s→Old X pins n→Tr n s.heap H e .none →
 Rel X.K B ρ σ F H→Rp X.K F (.ref e) x→OkS X.K xq B T (hd x ρ)→wpAny (model X.prog X.w) X.A (handleBy (.ref e) X.env hs) (SP X pins T) X.xe s
structure DH (X:Cx) (xq:XQ) (hs:List ExceptHandler) (hd:D→Rho→Out):Prop where
 out:PH X xq hs hd
noncomputable def isE:D→Bool
 | .exc _ _=>true
 | _=>false
theorem dh_nil (hq:XqOk X xq):DH X xq [] (fun x ρ=>if isE x=true then .er x (frz ρ) else .bad):=⟨fun pins s σ H B F ρ x e n T I o tr R p q=>by
 cases p with
 | exc h1 h2 h3 =>
  rename_i C dx fs gs
  have q':∀ v σ F H,Rel X.K B (frz ρ) σ F H→Rp X.K F v (.exc C gs)→xq v σ H:=q.out
  have hx:=R.fh _ _ h1
  refine wpAny_handleBy_nil ?_
  unfold PySem.passOn
  have tr':=tr
  obtain ⟨a0,oe,vs,a1,a2,a3,t,oT,ts,a4,a5,a6,a7,a8,a9,a10⟩:=tr'
  refine wpAny_bind (wpAny_field a1 a2 a4 ?_)
  rw [if_neg (show ¬ ((Value.ref t==Value.none)=true) by simp),hq.st.2]
  refine wpAny_bind (u1O (f:=some X.env.locals) I hq.st o hx tr fun s3 I3 tr3=>wpAny_throw (hq.xe _ _ ?_))
  obtain ⟨F1,e1,R1⟩:=R.frz
  exact ⟨n,e,C,some dx,σ,H,_,o.bare0,rfl,I3.bare0,hx,tr3.tb,.inr rfl,q' _ σ F1 H R1 (Rp.same e1 (.exc h1 h2 h3))⟩
 | _=>exact q.out.elim⟩
noncomputable def unset (i:Nat):Out→Out
 | .nx ρ=>.nx (ρ.set i none)
 | .rt d=>.rt d
 | .bk ρ=>.bk (ρ.set i none)
 | .ct ρ=>.ct (ρ.set i none)
 | _=>.bad
noncomputable def hdAs (K:W.Frag) (C':Addr) (i:Nat) (fb:Rho→Out) (rest:D→Rho→Out) (x:D) (ρ:Rho):Out:=match x with
 | .exc C gs=>if xbB K C=true then (if subK K C C'=true then unset i (fb (ρ.set i (some (.val (.exc C gs))))) else rest (.exc C gs) ρ) else .bad
 | _=>.bad
theorem dh_as {cn nm:Str}{C':Addr}{i:Nat}{p pos:Pos}{b0:Stmt}{bs:List Stmt}{rest:List ExceptHandler}{fb:Rho→Out}{hr:D→Rho→Out} (hst:X.stack=X.env::X.outer∧X.env.frame=some X.env.locals) (hN:X.N.Nodup) (hm:X.mg cn=some (.ref C')) (hb:XBase X.K C')
  (hsu:∀ e,DB (cxH X e) xqF (b0::bs) fb) (hrs:DH X xq rest hr) (hi:X.N[i]?=some nm:=by rfl) (hl:X.env.scope.names.lookup nm=some .local:=by rfl) (hk:X.env.kindOf nm=some .local:=by rfl) (hg:Gl X cn:=by rfl) (hdb:(cn==("__debug__":Str))=false:=by decide) :
  DH X xq (.ExceptHandler (some (.Name cn p)) (some nm) (b0::bs) pos::rest) (hdAs X.K C' i fb hr):=⟨fun pins s σ H B F ρ x e n T I o tr R pe q=>by
 cases pe with
 | exc h1 h2 h3 =>
  rename_i C dx fs gs
  have hx:=R.fh _ _ h1
  have q:=q.out
  unfold hdAs at q
  dsimp only at q
  by_cases hc:xbB X.K C=true
  ·rw [if_pos hc] at q
   obtain ⟨oe,he,hcls⟩:∃ oe,s.heap.get? e=some oe∧oe.cls=.ref C:=by
    obtain ⟨t,f1,f2,f3,f4,f5,sl,z⟩:=u9T I.hok hx
    exact ⟨_,z,rfl⟩
   have IH:=I.toH e
   refine wpAny_handleBy_cons (codeAny_handlers_test (u2h IH hg hm (u9s I.kIn (u4s hc) hb he hcls ?_) hdb)) (by intro z;cases z)
   cases hsb:subK X.K C C' with
   | false =>
    rw [hsb] at q
    exact hrs.out pins s σ H B F ρ _ e n T I o tr R (.exc h1 h2 h3) ⟨q⟩
   | true =>
    rw [hsb] at q
    refine codeAny_handlers_suite_as (u1O (X:=cxH X e) (f:=none) IH hst ⟨o.s0,o.loc,o.cel,o.pin⟩ hx tr fun s2 I2 tr2=>?_)
    refine u3i (X:=cxH X e) (v:=.ref e) I2 hN hi (.inl hl) rfl (fun s3 I3=>?_) (.inr hl)
    have R3:Rel X.K B (ρ.set i (some (.val (.exc C gs)))) (σ.set i (some (.ref e))) F H:=R.set (.exc h1 h2 h3)
    refine wpAny_mono ((hsu e).out pins s3 _ H { nx:=fun σ' H'=>T.nx (σ'.set i none) H',rt:=T.rt,bk:=fun σ' H'=>T.bk (σ'.set i none) H',ct:=fun σ' H'=>T.ct (σ'.set i none) H' } I3 ⟨B,F,_,R3,⟨?_⟩⟩) (fun f s4 z=>?_) fun _ _ z=>False.elim z
    ·generalize fb (ρ.set i (some (Sl.val (D.exc C gs))))=out at q
     cases out with
     | nx r=>exact fun σ' F' H' R'=>q _ F' H' R'.unset
     | rt d=>exact q
     | bk r=>exact fun σ' F' H' R'=>q _ F' H' R'.unset
     | ct r=>exact fun σ' F' H' R'=>q _ F' H' R'.unset
     | er y r=>exact q.elim
     | bad=>exact q.elim
    ·cases f with
     | next=>obtain ⟨σ',H',I4,z⟩:=z;exact u4P (Inv.ofH I.ok I4) hN hi hl hk fun s5 I5=>⟨_,H',I5,z⟩
     | brk=>obtain ⟨σ',H',I4,z⟩:=z;exact u4P (Inv.ofH I.ok I4) hN hi hl hk fun s5 I5=>⟨_,H',I5,z⟩
     | cont=>obtain ⟨σ',H',I4,z⟩:=z;exact u4P (Inv.ofH I.ok I4) hN hi hl hk fun s5 I5=>⟨_,H',I5,z⟩
     | ret u=>obtain ⟨v,σ',H',I4,r,z⟩:=z;exact u4P (Inv.ofH I.ok I4) hN hi hl hk fun s5 I5=>⟨v,_,H',I5,r,z⟩
  ·rw [if_neg hc] at q;exact q.elim
 | _=>exact q.out.elim⟩
end
section
variable {X:Cx}{xq:XQ}{pins:LO}{σ:St}{H:Hp}{s:Shared}{e:Addr}
noncomputable def hdNo (K:W.Frag) (C':Addr) (fb:Rho→Out) (rest:D→Rho→Out) (x:D) (ρ:Rho):Out:=match x with
 | .exc C gs=>if xbB K C=true then (if subK K C C'=true then (match fb ρ with | .er _ _=>.bad | o=>o) else rest (.exc C gs) ρ) else .bad
 | _=>.bad
abbrev cxP (X:Cx) (pn:LO):Cx:={ X with pn:=X.pn++pn }
abbrev cxT (X:Cx) (pn:LO) (xq:XQ):Cx:=(cxP X pn).wish (Fly (cxP X pn) xq)
theorem Inv.toP (I:Inv X pins σ H s):Inv (cxP X pins) [] σ H s :=
 ⟨⟨I.ok.mod,I.ok.kind,I.ok.glob,I.ok.blt,I.ok.above,I.ok.inj,I.ok.has,I.ok.cab,I.ok.hd,I.ok.frames,I.ok.stk,I.ok.exf,I.ok.bs,I.ok.bsz,I.ok.noex,I.ok.exfs,I.ok.funs,I.ok.frf⟩,I.os,I.bare,I.base,I.loc,I.cell,I.free,I.freeC,fun p hp=>I.pin p (by simpa using hp),I.hok,I.len⟩
theorem Inv.ofP (I:Inv (cxP X pins) [] σ H s):Inv X pins σ H s :=
 ⟨⟨I.ok.mod,I.ok.kind,I.ok.glob,I.ok.blt,I.ok.above,I.ok.inj,I.ok.has,I.ok.cab,I.ok.hd,I.ok.frames,I.ok.stk,I.ok.exf,I.ok.bs,I.ok.bsz,I.ok.noex,I.ok.exfs,I.ok.funs,I.ok.frf⟩,I.os,I.bare,I.base,I.loc,I.cell,I.free,I.freeC,fun p hp=>I.pin p (by simpa using hp),I.hok,I.len⟩
theorem Old.ofP {n:Nat} (o:Old (cxP X pins) [] n):Old X pins n:=⟨o.s0,o.loc,o.cel,fun p hp=>o.pin p (by simpa using hp)⟩
noncomputable def catchD (hd:D→Rho→Out):Out→Out
 | .er x ρ=>hd x ρ
 | o=>o
theorem ds_try {body:List Stmt}{h0:ExceptHandler}{hs:List ExceptHandler}{pos:Pos}{fb:Rho→Out}{hd:D→Rho→Out} (hst:X.stack=X.env::X.outer∧X.env.frame=some X.env.locals)
  (hb:∀ pn xq',XqOk (cxT X pn xq') xq'→DB (cxT X pn xq') xq' body fb) (hh:DH X xq (h0::hs) hd) :
  DS X xq (.Try body (h0::hs) [] [] pos) (fun ρ=>catchD hd (fb ρ)):=⟨fun pins s σ H T I z9=>un5 z9 fun B F ρ R q=>by
 rw [arm_exec_Try]
 refine wpAny_bind (wpAny_standAt (wpAny_tryStmt_except ?_))
 let xq':XQ:=fun v σ' H'=>∃ ρ' F' x,Rel X.K B ρ' σ' F' H'∧Rp X.K F' v x∧OkS X.K xq B T (hd x ρ')
 have hq':XqOk (cxT X pins xq') xq':=u3l (X:=cxP X pins) hst
 refine wpAny_mono ((hb pins xq' hq').out [] s σ H T (I.toP.wish _) ⟨B,F,ρ,R,⟨?_⟩⟩) (fun f s1 z=>?_) fun u s1 z=>?_
 ·have q:=q.out
  dsimp only at q
  generalize fb ρ=out at q
  cases out with
  | nx r=>exact q
  | rt d=>exact q
  | bk r=>exact q
  | ct r=>exact q
  | er x r=>exact fun v σ' F' H' R' p'=>⟨r,F',x,R',p',⟨q⟩⟩
  | bad=>exact q.elim
 ·cases f with
  | next=>obtain ⟨σ',H',I4,z⟩:=z;exact wpAny_execs_nil ⟨σ',H',I4.unwish.ofP,z⟩
  | brk=>obtain ⟨σ',H',I4,z⟩:=z;exact ⟨σ',H',I4.unwish.ofP,z⟩
  | cont=>obtain ⟨σ',H',I4,z⟩:=z;exact ⟨σ',H',I4.unwish.ofP,z⟩
  | ret u=>obtain ⟨v,σ',H',I4,r,z⟩:=z;exact ⟨v,σ',H',I4.unwish.ofP,r,z⟩
 ·obtain ⟨n,e,C,d,σ',H',fl,o,rfl,I1,hx,tb,hfl,ρ',F',x,R',p',q'⟩:=z
  refine u6y (X:=cxP X pins) I1 hst o hx tb hfl fun s2 I2 tr2=>?_
  refine u1O (X:=cxP X pins) (f:=none) I2 hst o hx tr2 fun s3 I3 tr3=>?_
  exact hh.out pins s3 σ' H' B F' ρ' x e n T I3.ofP o.ofP tr3 R' p' q'⟩
noncomputable def dXf (K:W.Frag) (f:Str):D→Res D
 | .exc _ gs=>match gs.lookup f with
  | some d=>.ok d
  | none=>.bad
 | _=>.bad
def XRead (K:W.Frag) (f:Str) (Cs:List Addr):Prop:=∀ C∈Cs,(∃ fI,XCls K C fI)∧NoAttr K C f
theorem v1F {o:Expr}{f:Str}{fo:Rho→Res D}{pos:Pos}{Cs:List Addr}{K:W.Frag} (hr:XRead K f Cs) (ho:DE X xq o fo) (eK:X.K=K:=by rfl) (hb:attributeBase o f X.env (eval o X.env)=eval o X.env:=by rfl) :
  DE X xq (.Attribute o f pos) (fun ρ=>(fo ρ).bind fun x=>match x with | .exc C gs=>if C∈Cs then (match gs.lookup f with | some d=>.ok d | none=>.bad) else .bad | _=>.bad):=by
 subst eK
 refine DE.of (pe_xfld ho.out hb) fun B F ρ σ H Q R q=>seqE R q fun d v F1 H1 s1 R1 p1 q1=>?_
 cases p1 with
 | exc h1 h2 h3 =>
  rename_i C dx fs gs
  have q1:(if C∈Cs then (match gs.lookup f with | some d=>Res.ok d | none=>.bad) else .bad).all _ _:=q1
  by_cases hc:C∈Cs
  ·rw [if_pos hc] at q1
   cases hl:gs.lookup f with
   | none=>rw [hl] at q1;exact q1.elim
   | some d =>
    rw [hl] at q1
    obtain ⟨v,hv,pv⟩:=h3.lookup hl
    obtain ⟨⟨fI,c⟩,na⟩:=hr C hc
    exact ⟨_,C,fI,dx,fs,v,rfl,R1.fh _ _ h1,R1.fh _ _ h2,c,na,hv,q1 v F1 H1 s1 pv⟩
  ·rw [if_neg hc] at q1;exact q1.elim
 | _=>exact q1.elim
end
mutual
noncomputable def DK.hash (w:World):DK→Int
 | .i n=>keyH w (.inl n)
 | .s z=>keyH w (.inr z)
 | .t ks=>reduceHash (Builtin.Tuple.tupleHashOf (DK.hashes w ks))
noncomputable def DK.hashes (w:World):List DK→List Int
 | []=>[]
 | k::ks=>k.hash w::DK.hashes w ks
end
mutual
inductive KAt (h:Heap):DK→Value→Prop
 | i (n:Int) (t:Tok):KAt h (.i n) (.int n t)
 | s (z:Str) (t:Tok):KAt h (.s z) (.str z t)
 | t {a:Addr}{o:Obj}{its:Array Value}{n:Nat}{ks:List DK}:h.get? a=some o→o.cls=.type "tuple"→o.data=.seq its n→KAts h ks its.toList→KAt h (.t ks) (.ref a)
inductive KAts (h:Heap):List DK→List Value→Prop
 | nil:KAts h [] []
 | cons {k:DK}{v:Value}{ks:List DK}{vs:List Value}:KAt h k v→KAts h ks vs→KAts h (k::ks) (v::vs)
end
mutual
theorem KAt.inj {h:Heap}:∀ {x y:DK}{v:Value},KAt h x v→KAt h y v→x=y
 | _,_,_,.i _ _,.i _ _=>rfl
 | _,_,_,.s _ _,.s _ _=>rfl
 | _,_,_,.t p1 _ p2 p3,.t q1 _ q2 q3=>by
  rw [p1] at q1;cases q1
  rw [p2] at q2;cases q2
  rw [KAts.inj p3 q3]
theorem KAts.inj {h:Heap}:∀ {x y:List DK}{v:List Value},KAts h x v→KAts h y v→x=y
 | _,_,_,.nil,.nil=>rfl
 | _,_,_,.cons p ps,.cons q qs=>by rw [KAt.inj p q,KAts.inj ps qs]
end
mutual
theorem KAt.reads {h:Heap}:∀ {x:DK}{v:Value},KAt h x v→∃ as,Reads h v x.py as
 | _,_,.i n t=>⟨_,.int n t⟩
 | _,_,.s z t=>⟨_,.str z t⟩
 | _,_,.t p1 pc p2 p3=>let ⟨_,q⟩:=KAts.reads p3;⟨_,by rw [DK.py];exact .tuple p1 pc p2 q⟩
theorem KAts.reads {h:Heap}:∀ {x:List DK}{v:List Value},KAts h x v→∃ as,ReadsAll h v (DK.pys x) as
 | _,_,.nil=>⟨_,.nil⟩
 | _,_,.cons p ps=>let ⟨_,q⟩:=KAt.reads p;let ⟨_,qs⟩:=KAts.reads ps;⟨_,.cons q qs⟩
end
section
variable {prog:Program}{w:World}
end
section
variable {X:Cx}{pins:LO}{σ:St}{H:Hp}{s:Shared}
end
noncomputable def liftO (K:W.Frag) (xq:XQ) (f:Rho→Res (Option Int)):TO:=fun σ H Q=>∃ B F ρ,Rel K B ρ σ F H ∧
 (f ρ).all (fun o=>∀ F' H',Stp F H F' H'→Q o H') (ErrK K xq B ρ σ)
structure DO (X:Cx) (xq:XQ) (e:Option Expr) (f:Rho→Res (Option Int)):Prop where
 out:PO X e (liftO X.K xq f)
noncomputable def asI:D→Res (Option Int)
 | .int i=>.ok (some i)
 | _=>.bad
noncomputable def dSl (d:D) (lo hi:Option Int):Res D:=match d with
 | .lst ds=>.ok (.lst (cutC ds lo hi))
 | .tup ds=>if HT.sIx ds.length 0 lo=0∧HT.sIx ds.length ds.length hi=ds.length then .bad else .ok (.tup (cutC ds lo hi))
 | .str z=>.ok (.str (Txt.slice z lo hi))
 | _=>.bad
section
variable {X:Cx}{xq:XQ}{e:Expr}{lo hi:Option Expr}{fe:Rho→Res D}{fl fh:Rho→Res (Option Int)}{p2 pos:Pos}
theorem u2U:DO X xq none (fun _=>.ok none):=⟨fun pins s σ H Q I z9=>un5 z9 fun B F ρ R q=>po_none pins s σ H Q I (q F H (Stp.refl R.fh))⟩
theorem u2T (h:DE X xq e fe):DO X xq (some e) (fun ρ=>(fe ρ).bind asI):=⟨fun pins s σ H Q I z9=>un5 z9 fun B F ρ R q=>po_some h.out pins s σ H Q I (seqE R q fun d v F1 H1 s1 R1 p1 q1=>by
 cases p1 with
 | int i=>exact ⟨i,rfl,q1 F1 H1 s1⟩
 | _=>exact q1.elim)⟩
def rSlD (K:W.Frag):V→Option Int→Option Int→Hp→VK→Prop:=fun x lo hi H Q=>∃ F d,Same F H∧Rp K F x d∧(dSl d lo hi).all (fun d'=>∀ v F' H',Stp F H F' H'→Rp K F' v d'→Q v H') (fun _=>False)
theorem Rps.cut {K:W.Frag}{F:Hp}{xs:List V}{ds:List D} (r:Rps K F xs ds) (lo hi:Option Int):Rps K F (cutV xs lo hi) (cutC ds lo hi):=by
 unfold cutV cutC
 rw [r.length]
 exact (r.drop _).take _
theorem sl_D:SlR X (rSlD X.K):=by
 intro pins s σ H x v vl vu lo hi sl Q I rx hs pl pu ⟨F,d,fh,px,q⟩
 cases px with
 | lst hq rs=>exact sl_list pins s σ H _ v vl vu lo hi sl Q I rx hs pl pu ⟨_,_,rfl,.inl (hq.same fh),fun p n=>q _ _ _ (Stp.new fh n) (.lst (.inl u0g) ((rs.cut lo hi).same (Stp.new fh n).ff))⟩
 | tup hq rs =>
  unfold dSl at q
  dsimp only at q
  split at q
  ·exact q.elim
  ·rename_i nw
   exact sl_tup pins s σ H _ v vl vu lo hi sl Q I rx hs pl pu ⟨_,_,rfl,fh.seqT hq,by rw [rs.length];exact nw,fun p n=>q _ _ _ (Stp.new fh n) (.tup (.inl (.inl u0g)) ((rs.cut lo hi).same (Stp.new fh n).ff))⟩
 | str hz=>exact sl_str pins s σ H _ v vl vu lo hi sl Q I rx hs pl pu ⟨_,rfl,hz,q _ F H (Stp.refl fh) (.str (Nat.le_trans (Txt.slice_le _ _ _) hz))⟩
 | _=>exact q.elim
theorem d_sl (he:DE X xq e fe) (hl:DO X xq lo fl) (hu:DO X xq hi fh):DE X xq (.Subscript e (.Slice lo hi none p2) pos) (fun ρ=>(fe ρ).bind fun d=>(fl ρ).bind fun l=>(fh ρ).bind fun u=>dSl d l u) :=
 DE.of (v0o sl_D he.out hl.out hu.out) fun B F ρ σ H Q R q=>seqE R q fun d v F1 H1 s1 R1 p1 q1 =>
  ⟨B,F1,ρ,R1,Res.all_mono (Res.all_bind.mp q1) (fun l q2 F2 H2 s2=>⟨B,F2,ρ,R1.step s2,Res.all_mono (Res.all_bind.mp q2) (fun u q3 F3 H3 s3=>by
   refine ⟨F3,d,((R1.step s2).step s3).fh,(p1.same s2.ff).same s3.ff,?_⟩
   cases hd:dSl d l u with
   | ok d'=>rw [hd] at q3;exact fun v' F' H' st pv=>q3 v' F' H' (((s1.trans s2).trans s3).trans st) pv
   | err x=>unfold dSl at hd;split at hd <;> first | cases hd | (split at hd <;> cases hd)
   | bad=>rw [hd] at q3;exact q3) fun _ z=>z⟩) fun _ z=>z⟩
theorem u7x {tg iter elt:Expr}{ifs:List Expr}{scope:Scope}{fi:Rho→Res (List D)}{g:D→Rho→Res Rho}{fA:Rho→Res Bool}{ix:List Nat}{x:Str}{i:Nat}{py spos:Pos} (own:List Str) (outs:List Nat) (hc:X.calm=true) (ok:CompOk X.env.scope X.N own outs scope) (hN:X.N.Nodup) (hi:DI X xq tg iter fi) (hg:∀ {cl C s H fp},DG (cxC X own outs scope cl C s H fp) tg ix g) (hf:∀ {cl C s H fp},DF (cxC X own outs scope cl C s H fp) xqF ifs fA) (he:∀ {cl C s H fp},DE (cxC X own outs scope cl C s H fp) xqF elt fe)
  (nd:outs.Nodup:=by decide) (hix:∀ j∈ix,j<own.length:=by decide) (hy:X.N.findIdx? (fun y=>y==x)=some i:=by rfl) (hx:X.env.scope.names.lookup x=some .local:=by rfl)
  (hsw:swapsWith (.ListComp elt [⟨tg,iter,ifs,0⟩] scope pos) (some (.Name x py)) spos.line X.env=pure true:=by rfl) (hs:∀ x,foldedSetIterable iter X.env x=pure x:=by intro _;rfl) :
  DS X xq (.Assign [.Name x py] (.ListComp elt [⟨tg,iter,ifs,0⟩] scope pos) spos) (fun ρ=>((fi ρ).bind fun ds=>gd (ds.length≤sizeLine) ((compD g fA fe (rhoC own.length outs ρ) ds).bind fun ys=>.ok (OD.l ys))).go ρ fun o=>.nx (ρ.set i (some (.val o.toD)))) :=
 DS.of (u7S own outs hc ok hN (u6h hy) hx hi.out (g:=liftG X.K ix g) (ti:=liftT X.K xqF fA) (te:=liftE X.K xqF fe) (fun {cl C s H fp}=>hg.out) (fun {cl C s H fp}=>hf.out) (fun {cl C s H fp}=>he.out) hsw hs) fun B F ρ σ H T R q =>
  u5O nd hix ⟨B,F,ρ,R,Res.all_mono (u0q q.out) (fun o q a hh F' H' s1 n1 n2 e1 r1=>by
   have s2:Stp F H (upd F' a hh) H':=⟨s1.ff.trans (u0e n1),fun b u x=>by
    unfold upd at x
    by_cases z:b=a
    ·rw [if_pos z] at x;cases x;subst z;exact e1
    ·rw [if_neg z] at x;exact s1.fh b u x,s1.hh,fun b x y=>by
    unfold upd
    by_cases z:b=a
    ·subst z;exact absurd n2 y
    ·rw [if_neg z];exact s1.no b x y⟩
   exact q _ _ _ ((R.step s2).set ((Ro.same (u0e n1) r1).rp u0g))) fun x q=>errOf q⟩
def rExtR:V→List V→Hp→VK→Prop:=fun x vs H Q=>∃ l b xs zs,x=.ref l∧vs=[.ref b]∧H l=some (.lst xs)∧Rd H b (.lst zs)∧xs.length+zs.length≤sizeLine∧Q .non (upd H l (.lst (xs++zs)))
theorem mt_extR:MtM X "list.extend" rExtR:=by
 intro pins s σ H x vs v us Q I rx rv h
 obtain ⟨l,b,xs,zs,rfl,rfl,hH,hB,hz,q⟩:=h
 cases rx
 obtain ⟨u,rfl,ru⟩:=rv.one
 cases ru
 obtain ⟨z,its,n,r,hl,e⟩:=I.lstM hH
 obtain ⟨z2,its2,n2,r2,hl2,e2⟩:=I.lstR hB
 have hsz:its.toArray.size+its2.toArray.size≤sizeLine:=by rw [List.size_toArray,List.size_toArray];omega
 have hlong:¬ (!its.toArray.isEmpty&&Builtin.List.listTooLong (its.toArray.size+its2.toArray.size))=true:=by
  rw [notLongL hsz,Bool.and_false]
  exact Bool.false_ne_true
 refine call_meets F.slot_list_extend ⟨_,e,rfl⟩ F.entry_list_extend (F.args_list_extend_2 _ _)
  (AutoSeq1.list_extend_list_list_0 l its.toArray n b its2.toArray n2 hlong (by rw [List.size_toArray];omega) (by omega)) ⟨e,e2,?_⟩
 refine ⟨.non,_,I.lset (its':=its++its2) hH e (by simp) (r.append r2) ?_,rfl,q⟩
 rw [List.length_append]
 omega
theorem v1C {x:Str}{p apos cpos:Pos} (i:Nat) (he:DE X xq e fe) (hN:X.N[i]?=some x:=by rfl) (hv:Vis X.env.scope x:=by first | exact Or.inl rfl | exact Or.inr (Or.inl rfl) | exact Or.inr (Or.inr rfl)) (hd:(x==("__debug__":Str))=false:=by decide) (hcd:(x==("__classdict__":Str))=false:=by decide)
  (hs:notStar e=true:=by rfl) (hbase:attributeBase (.Name x p) "extend" X.env (eval (.Name x p) X.env)=eval (.Name x p) X.env:=by rfl) (hline:(apos.endLine==cpos.line)=true:=by rfl)
  (hsw:swapsWith (.Call (.Attribute (.Name x p) "extend" apos) [e] [] cpos) none pos.line X.env=pure false:=by rfl) :
  DS X xq (.Expr (.Call (.Attribute (.Name x p) "extend" apos) [e] [] cpos) pos) (fun ρ=>(getL ρ i).go ρ fun ds=>(fe ρ).go ρ fun d=>match d with | .lst es=>if ds.length+es.length≤sizeLine then .nx (ρ.set i (some (.own (.l (ds++es))))) else .bad | _=>.bad) :=
 DS.of (u3y (pbm PySem.F.plainAttrs_list PySem.F.slot_list_extend PySem.F.type_list_extend mt_extR (u1i hN hv hd hcd) (pac he.out u2Z hs) (by rw [List.all_cons,hs];rfl) rfl hbase hline) hsw) fun B F ρ σ H T R q=>by
  obtain ⟨ds,e1,q1⟩:=u2j (u0q q.out)
  obtain ⟨l,h,h1,h2,h3,h4,h5⟩:=R.own i _ e1
  cases h5 with
  | l hs =>
   refine ⟨.ref l,h1,.inl ⟨rfl,_,.inl (.inl h4)⟩,B,F,ρ,R,Res.all_mono (u0q q1) (fun d q2 v F' H' st pv=>?_) fun _ z=>errOf z⟩
   cases pv with
   | @lst b zs es hq rs =>
    have q2:(if ds.length+es.length≤sizeLine then Out.nx (ρ.set i (some (.own (.l (ds++es))))) else .bad).all _ _ _ _ _:=q2
    by_cases hz:ds.length+es.length≤sizeLine
    ·rw [if_pos hz] at q2
     have R':=R.step st
     exact ⟨l,b,_,zs,rfl,rfl,st.hh _ _ h4,hq.same st.fh,by rw [hs.length,rs.length];exact hz,q2 σ F' _ (R'.write (e:=e1) h1 (.l ((hs.same st.ff).append rs)))⟩
    ·rw [if_neg hz] at q2;exact q2.elim
   | _=>exact q2.elim
end
@[simp] theorem u3D {α:Type} (a:α):noE (Res.ok a)=.ok a:=rfl
@[simp] theorem noE_bad {α:Type}:noE (Res.bad:Res α)=.bad:=rfl
@[simp] theorem asB_bl (b:Bool):asB (.bl b)=.ok b:=rfl
@[simp] theorem dI0_ii (g:Int→Int→D) (i j:Int):dI0 g (.int i) (.int j)=.ok (g i j):=rfl
@[simp] theorem u1n (C:Int→Int→Prop) [∀ i j,Decidable (C i j)] (g:Int→Int→D) (i j:Int):dI C g (.int i) (.int j)=gd (C i j) (.ok (g i j)):=rfl
@[simp] theorem outR_nx (ρ:Rho):outR (.nx ρ)=.ok .non:=rfl
@[simp] theorem u8T (d:D):outR (.rt d)=.ok d:=rfl
@[simp] theorem outR_er (x:D) (ρ:Rho):outR (.er x ρ)=.err x:=rfl
@[simp] theorem u9r:frz []=[]:=rfl
@[simp] theorem u9p (d:D) (ρ:Rho):frz (some (.val d)::ρ)=some (.val d)::frz ρ:=rfl
@[simp] theorem frz_own (o:OD) (ρ:Rho):frz (some (.own o)::ρ)=some (.val o.toD)::frz ρ:=rfl
@[simp] theorem frz_none (ρ:Rho):frz (none::ρ)=none::frz ρ:=rfl
@[simp] theorem frz_rep (n:Nat):frz (List.replicate n none)=List.replicate n none:=by unfold frz;simp
@[simp] theorem u3J (d:D) (ρ:Rho):getV (some (.val d)::ρ) 0=.ok d:=rfl
@[simp] theorem u3K (x:Option Sl) (ρ:Rho) (i:Nat):getV (x::ρ) (i+1)=getV ρ i:=rfl
@[simp] theorem getL_zero (ds:List D) (ρ:Rho):getL (some (.own (.l ds))::ρ) 0=.ok ds:=rfl
@[simp] theorem getL_succ (x:Option Sl) (ρ:Rho) (i:Nat):getL (x::ρ) (i+1)=getL ρ i:=rfl
@[simp] theorem u7O (ds:List D):(OD.l ds).toD=.lst ds:=rfl
@[simp] theorem szD_pos {α:Type}{ds:List D}{k:Res α} (h:ds.length≤sizeLine):szD ds k=k:=if_pos h
@[simp] theorem unset_nx (i:Nat) (ρ:Rho):unset i (.nx ρ)=.nx (ρ.set i none):=rfl
@[simp] theorem catch_nx (hd:D→Rho→Out) (ρ:Rho):catchD hd (.nx ρ)=.nx ρ:=rfl
@[simp] theorem catch_rt (hd:D→Rho→Out) (d:D):catchD hd (.rt d)=.rt d:=rfl
@[simp] theorem catch_er (hd:D→Rho→Out) (x:D) (ρ:Rho):catchD hd (.er x ρ)=hd x ρ:=rfl
@[simp] theorem chain_eq (g g':D→D→Res D) (x y:D) (z:Res D):fChain g g' x y z=(noE (g x y)).bind fun w=>(asB w).bind fun c=>if c=true then z.bind fun z=>noE (g' y z) else .ok (.bl false):=rfl
theorem u5Q {g:D→Rho→Res Rho}{fT:Rho→Res Bool}{fe:Rho→Res D}{ρ:Rho} (h:D→D):∀ {ds:List D},(∀ d∈ds,∃ ρ1,g d ρ=.ok ρ1∧fT (frz ρ1)=.ok true∧fe ρ1=.ok (h d))→compD g fT fe ρ ds=.ok (ds.map h)
 | [],_=>rfl
 | d::ds,k=>by
  obtain ⟨ρ1,k1,k2,k3⟩:=k d List.mem_cons_self
  simp [compD,k1,k2,k3,u5Q h fun x hx=>k x (List.mem_cons_of_mem _ hx)]
section
variable {X:Cx}{pins:LO}{σ:St}{H:Hp}{s:Shared}{F:Hp}
theorem dd_new {xq:XQ}{pos:Pos}:DN X xq (.Dict [] [] pos) (fun _=>.ok (.d [])):=⟨fun pins s σ H Q I z9=>un5 z9 fun B F ρ R q=>v0q pins s σ H Q I fun d n=>q d _ F _ (Stp.only R.fh (u0e n)) (R.fh.free n) n u0g (.d .nil)⟩
end
section
variable {X:Cx}{xq:XQ}{i value:Expr}{fi fv:Rho→Res D}{x:Str}{p pos pos':Pos}
end
section
variable {K:W.Frag}{F:Hp}
end
section
variable {X:Cx}{xq:XQ}{i value:Expr}{fi fv:Rho→Res D}{x:Str}{p pos pos':Pos}
end
noncomputable def fldD (C0:Addr) (f:Str):D→Res D
 | .ins C gs=>if C=C0 then (match gs.lookup f with | some d=>.ok d | none=>.bad) else .bad
 | _=>.bad
noncomputable def getI (ρ:Rho) (j:Nat):Res (Addr×Addr×List (Str×D)):=match ρ[j]? with
 | some (some (.own (.i a C gs)))=>.ok (a,C,gs)
 | _=>.bad
theorem u9o {ρ:Rho}{i:Nat}{P:Addr×Addr×List (Str×D)→Prop}{E:D→Prop} (h:(getI ρ i).all P E):∃ a C gs,ρ[i]?=some (some (.own (.i a C gs)))∧P (a,C,gs):=by
 unfold getI at h
 split at h
 ·rename_i a C gs e;exact ⟨a,C,gs,e,h⟩
 ·exact h.elim
section
variable {X:Cx}{xq:XQ}{o e value:Expr}{es:List Expr}{fo fv:Rho→Res D}{fs:Rho→Res (List D)}{f x m:Str}{p pos pos' apos:Pos}{C0:Addr}
theorem d_fldO {K:W.Frag} (j:Nat) (c:Cls K C0) (n:NoAttr K C0 f) (eK:X.K=K:=by rfl) (hN:X.N[j]?=some x:=by rfl) (hvs:Vis X.env.scope x:=by first | exact Or.inl rfl | exact Or.inr (Or.inl rfl) | exact Or.inr (Or.inr rfl)) (hd:(x==("__debug__":Str))=false:=by decide) (hcd:(x==("__classdict__":Str))=false:=by decide)
  (hb:attributeBase (.Name x p) f X.env (eval (.Name x p) X.env)=eval (.Name x p) X.env:=by rfl):DE X xq (.Attribute (.Name x p) f pos) (fun ρ=>(getI ρ j).bind fun t=>if t.2.1=C0 then (match t.2.2.lookup f with | some d=>.ok d | none=>.bad) else .bad):=by
 subst eK
 refine DE.of (v1u (u1i hN hvs hd hcd) hb) fun B F ρ σ H Q R q=>?_
 obtain ⟨a,C,gs,e1,q1⟩:=u9o (Res.all_bind.mp q)
 obtain ⟨a',h,h1,h2,h3,h4,h5⟩:=R.own j _ e1
 cases h5 with
 | @i _ dx fs0 _ hr =>
  dsimp only at q1
  by_cases hc:C=C0
  ·rw [if_pos hc] at q1
   subst hc
   cases hl:gs.lookup f with
   | none=>rw [hl] at q1;exact q1.elim
   | some d =>
    rw [hl] at q1
    obtain ⟨v,hv,pv⟩:=hr.lookup hl
    exact ⟨.ref a,h1,a,C,dx,fs0,v,rfl,h4,c,n,hv,q1 v F H (Stp.refl R.fh) pv⟩
  ·rw [if_neg hc] at q1;exact q1.elim
theorem Rpf.length {K:W.Frag}{F:Hp}:∀ {fs:List (Str×V)}{gs:List (Str×D)},Rpf K F fs gs→fs.length=gs.length
 | _,_,.nil=>rfl
 | _,_,.cons _ hs=>congrArg (·+1) hs.length
noncomputable def putG (f:Str) (d:D):List (Str×D)→List (Str×D)
 | []=>[(f,d)]
 | (g,x)::r=>if g=f then (g,d)::r else (g,x)::putG f d r
theorem Rpf.put {K:W.Frag}{F:Hp}{f:Str}{v:V}{d:D} (pd:Rp K F v d):∀ {fs:List (Str×V)}{gs:List (Str×D)},Rpf K F fs gs→Rpf K F (putF f v fs) (putG f d gs)
 | _,_,.nil=>.cons pd .nil
 | _,_,.cons (k:=k) h hs=>by
  unfold putF putG
  by_cases e:k=f
  ·rw [if_pos e,if_pos e];exact .cons pd hs
  ·rw [if_neg e,if_neg e];exact .cons h (hs.put pd)
theorem u3P {K:W.Frag} (j:Nat) (c:Cls K C0) (n:NoAttr K C0 f) (hv:DE X xq value fv) (eK:X.K=K:=by rfl) (hN:X.N[j]?=some x:=by rfl) (hvs:Vis X.env.scope x:=by first | exact Or.inl rfl | exact Or.inr (Or.inl rfl) | exact Or.inr (Or.inr rfl)) (hd:(x==("__debug__":Str))=false:=by decide) (hcd:(x==("__classdict__":Str))=false:=by decide)
  (hs:swapsWith value (some (.Attribute (.Name x p) f pos')) pos.line X.env=pure false:=by rfl) :
  DS X xq (.Assign [.Attribute (.Name x p) f pos'] value pos) (fun ρ=>(fv ρ).go ρ fun d=>(getI ρ j).go ρ fun t=>if t.2.1=C0∧t.2.2.length<1000 then .nx (ρ.set j (some (.own (.i t.1 t.2.1 (putG f d t.2.2))))) else .bad):=by
 subst eK
 refine DS.of (ps_fld (u1i hN hvs hd hcd) hv.out hs) fun B F ρ σ H T R q=>⟨B,F,ρ,R,Res.all_mono (u0q q.out) (fun d q1 v F1 H1 st pv=>?_) fun _ z=>errOf z⟩
 obtain ⟨a,C,gs,e1,q2⟩:=u9o (u0q q1)
 have R1:=R.step st
 obtain ⟨a',h,h1,h2,h3,h4,h5⟩:=R1.own j _ e1
 cases h5 with
 | @i _ dx fs0 _ hr =>
  dsimp only at q2
  by_cases hc:C=C0∧gs.length<1000
  ·rw [if_pos hc] at q2
   obtain ⟨rfl,hl⟩:=hc
   exact ⟨.ref a,h1,a,C,dx,fs0,rfl,h4,c,n,by rw [hr.length];exact hl,q2 σ F1 _ (R1.write (e:=e1) h1 (.i (hr.put pv)))⟩
  ·rw [if_neg hc] at q2;exact q2.elim
def MCallee (P:Program) (w:World) (K:W.Frag) (mg:MG) (base:Heap) (k:Nat) (C:Addr) (m:Str) (ps:List Str) (f:FD):Prop :=
 ∃ a fd,Cls K C∧Meth K C m a∧FnOk P w K mg base (CXe P w) k a fd ps (spX K f)∧Binds K fd ps []
theorem u3F {K:W.Frag}{F:Hp}{m:Str}:∀ {fs:List (Str×V)}{gs:List (Str×D)},Rpf K F fs gs→gs.lookup m=none→fs.lookup m=none
 | _,_,.nil,_=>rfl
 | _,_,.cons (k:=k) h hs,e=>by
  rw [List.lookup_cons] at e ⊢
  cases q:m==k with
  | true=>rw [q] at e;cases e
  | false=>rw [q] at e;exact u3F hs e
end
noncomputable def wo (H:Hp) (a:Addr):Hp:=fun b=>if b=a then none else H b
theorem wo_at (H:Hp) (a:Addr):wo H a a=none:=if_pos rfl
theorem wo_ne {H:Hp}{a b:Addr} (h:b≠a):wo H a b=H b:=if_neg h
theorem u8m (H:Hp) (a:Addr):Same (wo H a) H:=fun b o e=>by
 by_cases z:b=a
 ·subst z;rw [wo_at] at e;cases e
 ·rw [wo_ne z] at e;exact e
noncomputable def startI (n:Nat) (a C:Addr) (ds:List D):Rho:=some (.own (.i a C []))::startD (n - 1) ds
noncomputable def outI (a C:Addr):Out→Res (List (Str×D))
 | .nx ρ=>match ρ[(0:Nat)]? with
  | some (some (.own (.i a' C' gs)))=>if a'=a∧C'=C then .ok gs else .bad
  | _=>.bad
 | .er x _=>.err x
 | _=>.bad
theorem u2D {n:Nat}{ds:List D}{i:Nat}{o:OD}:(startD n ds)[i]?≠some (some (.own o)):=fun e=>by
 unfold startD at e
 rw [List.getElem?_append] at e
 split at e
 ·rw [List.getElem?_map] at e
  cases q:ds[i]? with
  | none=>rw [q] at e;cases e
  | some d'=>rw [q] at e;cases e
 ·rw [List.getElem?_replicate] at e
  split at e <;> simp at e
theorem u9O {K:W.Frag}{F H:Hp}{N:List Str}{a C dx:Addr}{rest:List V}{ds:List D} (fh:Same F H) (fa:F a=none) (ha:H a=some (.ins C dx [])) (r:Rps K F rest ds) :
  Rel K (F,wo H a) (startI N.length a C ds) (start N (.ref a::rest)) F H:=by
 have e:start N (.ref a::rest)=some (.ref a)::start N.tail rest:=by
  unfold start
  rw [List.map_cons,List.cons_append,List.length_cons,List.length_tail,Nat.sub_sub,Nat.add_comm 1]
 have R0:Rel K (F,H) (startD (N.length - 1) ds) (start N.tail rest) F H:=by
  have:=r.begin (N:=N.tail) fh
  rwa [List.length_tail] at this
 rw [e]
 unfold startI
 refine ⟨⟨Same.refl F,fh,u8m H a,fun _ n _=>n⟩,by simp [R0.len],fun i d q=>?_,fun i o q=>?_,fun i j o u b q1 q2 x y=>?_⟩
 ·cases i with
  | zero=>cases q
  | succ i=>exact R0.val i d q
 ·cases i with
  | zero=>cases q;exact ⟨a,_,rfl,fa,wo_at H a,ha,.i .nil⟩
  | succ i=>exact absurd q u2D
 ·cases i with
  | zero =>
   cases j with
   | zero=>rfl
   | succ j=>exact absurd q2 u2D
  | succ i=>exact absurd q1 u2D
section
variable {P:Program}{w:World}{K:W.Frag}{mg:MG}{base:Heap}
end
section
variable {X:Cx}{xq:XQ}{e:Expr}{es:List Expr}{fs:Rho→Res (List D)}{x:Str}{p pos:Pos}{C f:Addr}
end
section
variable {X:Cx}{pins:LO}{σ:St}{H:Hp}{s:Shared}{F:Hp}
theorem v1w {v:V}{u:Value}{d:D}{t:String} (I:Inv X pins σ H s) (rx:RelV v u) (fh:Same F H) (pv:Rp X.K F v d) (ht:tyN d=some t):∃ Hh:Heap→Prop,W.KitX X.K u (.type t) Hh∧Hh s.heap∧u≠.builtin "__main__.__loader__#opaque":=by
 cases pv with
 | non=>cases ht;cases (show u=Value.none from rx);exact ⟨_,W.kitx_none,True.intro,fun z=>nomatch z⟩
 | bl y=>cases ht;cases (show u=Value.bool y from rx);exact ⟨_,W.kitx_bool,True.intro,fun z=>nomatch z⟩
 | int i=>cases ht;obtain ⟨t,q⟩:=(show ∃ t,u=Value.int i t from rx);cases q;exact ⟨_,W.kitx_int,True.intro,fun z=>nomatch z⟩
 | @str z hz=>cases ht;obtain ⟨t,q⟩:=(show ∃ t,u=Value.str z t from rx);cases q;exact ⟨_,W.kitx_str,True.intro,fun z=>nomatch z⟩
 | ty T=>cases ht
 | @lst a xs ds hq hs =>
  cases ht
  cases (show u=Value.ref a from rx)
  obtain ⟨z,its,n,r,hl,e⟩:=I.lstR (hq.same fh)
  exact ⟨_,W.kitx_list,⟨_,e,rfl⟩,fun z=>nomatch z⟩
 | @tup a xs ds hq hs =>
  cases ht
  cases (show u=Value.ref a from rx)
  obtain ⟨its,r,p,hz⟩:=I.tuple (fh.seqT hq)
  obtain ⟨ob,h1,h2,_⟩:=p
  exact ⟨_,W.kitx_tuple,⟨ob,h1,h2⟩,fun z=>nomatch z⟩
 | @dK a kvs ps hq hs =>
  cases ht
  cases (show u=Value.ref a from rx)
  obtain ⟨_,_,vs,_,p⟩:=(show ObjOk X.prog X.w H s.heap a (.dK kvs) from I.hok a _ (fh _ _ hq))
  obtain ⟨ob,es,ep,h1,h2,_⟩:=p
  exact ⟨_,W.kitx_dict,⟨ob,h1,h2.1⟩,fun z=>nomatch z⟩
 | ins hq hs=>cases ht
 | exc hq hr hs=>cases ht
 | dn hq hs=>cases ht
noncomputable def isTs (t:String):List String→Option Bool
 | []=>some false
 | T::r=>match isT t T with
  | some true=>some true
  | some false=>isTs t r
  | none=>none
theorem u7q (K:W.Frag) {d:D}{t:String} (ht:tyN d=some t):∀ {Ts:List String}{b:Bool},isTs t Ts=some b→W.kitAny K (.type t) (Ts.map Value.type)=some b
 | [],_,e=>by cases e;rfl
 | T::r,b,e=>by
  simp only [isTs] at e
  cases q:isT t T with
  | none=>rw [q] at e;cases e
  | some c =>
   rw [q] at e
   simp only [List.map_cons,W.kitAny,u9f K ht q]
   cases c with
   | true=>exact e
   | false=>exact u7q K ht e
noncomputable def tysOf:List D→Option (List String)
 | []=>some []
 | .ty T::r=>(tysOf r).map (T::·)
 | _=>none
theorem u4g {K:W.Frag}:∀ {ts:List D}{Ts:List String}{xs:List V}{us:List Value},tysOf ts=some Ts→Rps K F xs ts→Vals xs us→us=Ts.map Value.type
 | [],_,_,_,e,p,r=>by cases e;cases p;cases r;rfl
 | d::ts,Ts,_,_,e,p,r=>by
  cases d <;> simp only [tysOf,reduceCtorEq] at e
  cases q:tysOf ts with
  | none=>rw [q] at e;cases e
  | some Ts' =>
   rw [q] at e
   cases e
   cases p with
   | cons p1 p2 =>
    cases p1
    cases r with
    | cons r1 r2=>cases r1;rw [u4g q p2 r2];rfl
noncomputable def isAny (d:D) (ts:List D):Res D:=match tyN d with
 | some t=>match tysOf ts with
  | some Ts=>match isTs t Ts with
   | some b=>.ok (.bl b)
   | none=>.bad
  | none=>.bad
 | none=>.bad
noncomputable def gIsA:List D→Res D
 | [d,.tup ts]=>isAny d ts
 | ds=>gIs ds
theorem u1Q:CallR X (.builtin "isinstance") (rDs X.K gIsA):=by
 intro pins s σ H xs us Q I r ⟨F,ds,fh,ps,q⟩
 unfold gIsA at q
 split at q
 ·rename_i d ts
  obtain ⟨v,w,rfl,pv,pw⟩:=rps2 ps
  unfold isAny at q
  cases ht:tyN d with
  | none=>rw [ht] at q;exact q.elim
  | some t =>
   rw [ht] at q
   cases hT:tysOf ts with
   | none=>simp only [hT] at q;exact q.elim
   | some Ts =>
    simp only [hT] at q
    cases hb:isTs t Ts with
    | none=>simp only [hb] at q;exact q.elim
    | some bb =>
     simp only [hb] at q
     cases pw with
     | @tup a zs _ hq hs =>
      obtain ⟨u,u',rfl,ru,ru'⟩:=vals2 r
      cases ru'
      obtain ⟨its,rv,p,hz⟩:=I.tuple (fh.seqT hq)
      obtain ⟨⟨cls,dd,data,sl⟩,ho,hc,n,hd⟩:=p
      dsimp only at hc hd
      subst hc hd
      obtain ⟨Hh,Z,hh,ne⟩:=v1w I ru fh pv ht
      have ei:=u4g hT hs rv
      exact W.kia_tup Z I.kIn hh ho (by rw [ei];exact u7q X.K ht hb) ne fun tk=>⟨.bl bb,H,I.tok _,rfl,q _ F H (Stp.refl fh) (.bl bb)⟩
 ·exact v1d pins s σ H xs us Q I r ⟨F,ds,fh,ps,q⟩
noncomputable def gInt:List D→Res D
 | [.int i]=>.ok (.int i)
 | [.bl b]=>.ok (.int (if b then 1 else 0))
 | _=>.bad
theorem c_int:CallR X (.type "int") (rDs X.K gInt):=by
 intro pins s σ H xs us Q I r ⟨F,ds,fh,ps,q⟩
 unfold gInt at q
 split at q
 ·obtain ⟨v,rfl,pv⟩:=rps1 ps
  cases pv
  exact u5S pins s σ H _ us Q I r (.inl ⟨_,rfl,q _ F H (Stp.refl fh) (.int _)⟩)
 ·obtain ⟨v,rfl,pv⟩:=rps1 ps
  cases pv
  exact u5S pins s σ H _ us Q I r (.inr ⟨_,rfl,q _ F H (Stp.refl fh) (.int _)⟩)
 ·exact q.elim
noncomputable def dNeg:D→Res D
 | .int i=>.ok (.int (-i))
 | _=>.bad
theorem u_neg:UnR X (unaryOp .USub) (rD1 X.K dNeg):=by
 intro pins s σ H x v Q I rx ⟨F,d,fh,px,q⟩
 cases px with
 | int i=>exact un_neg pins s σ H _ v Q I rx ⟨i,rfl,q _ F H (Stp.refl fh) (.int _)⟩
 | _=>exact q.elim
end
section
variable {X:Cx}{xq:XQ}{a b c:Expr}{fa fb fc:Rho→Res D}{pos:Pos}
theorem u8f {K:W.Frag}{g g':D→D→Res D}{σ:St}{H:Hp}{Q:VK} (h:liftE K xq (fun ρ=>(fa ρ).bind fun x=>(fb ρ).bind fun y=>fChain g g' x y (fc ρ)) σ H Q):tChain (rD K g) (rD K g') (liftE K xq fa) (liftE K xq fb) (liftE K xq fc) σ H Q:=by
 obtain ⟨B,F,ρ,R,q⟩:=h
 exact seqE R q fun d v F1 H1 s1 R1 p1 q1=>seqE R1 q1 fun d2 v2 F2 H2 s2 R2 p2 q2=>by
  refine ⟨F2,d,d2,R2.fh,p1.same s2.ff,p2,?_⟩
  unfold fChain at q2
  have q3:=Res.all_bind.mp q2
  generalize g d d2=r at q3
  cases r with
  | err x=>exact q3
  | bad=>exact q3
  | ok w =>
   obtain ⟨k,rfl,q4⟩:=u5Y (Res.all_bind.mp (show ((asB w).bind _).all _ _ from q3))
   intro v3 F3 H3 s3 p3
   refine ⟨k,p3.blI,?_⟩
   have s03:=(s1.trans s2).trans s3
   cases k with
   | false=>exact q4 (.bl false) F3 H3 s03 (.bl false)
   | true=>exact seqE (R2.step s3) q4 fun d4 v4 F4 H4 s4 R4 p4 q5=>⟨F4,d2,d4,R4.fh,(p2.same s3.ff).same s4.ff,p4,doneN (s03.trans s4) q5⟩
theorem v0W {op op':CmpOp}{g g':D→D→Res D} (ho:OpR X (compareOp op) (rD X.K g)) (ho':OpR X (compareOp op') (rD X.K g')) (ha:DE X xq a fa) (hb:DE X xq b fb) (hc:DE X xq c fc) (hm:lastMarks [op,op'] [b,c]=false:=by with_unfolding_all rfl) :
  DT X xq (.Compare a [op,op'] [b,c] pos) (fun ρ=>((fa ρ).bind fun x=>(fb ρ).bind fun y=>fChain g g' x y (fc ρ)).bind asB) :=
 DT.of (v0i ho ho' ha.out hb.out hc.out hm) fun B F ρ σ H Q R q=>u8f (tfrz (P:=fun _=>True) R q)
end
section
variable {P:Program}{w:World}{A:Around}{E:VP}{s:Shared}
end
section
variable {P:Program}{w:World}{A:Around}{E:VP}{s:Shared}
end
section
variable {P:Program}{w:World}{A:Around}{E:VP}{s:Shared}
end
section
variable {P:Program}{w:World}{A:Around}{E:VP}{s:Shared}{I a:Addr}{first:Value}{i ep:Nat}{es:Array (Int×Value)}{t:SetTable}
end
section
variable {P:Program}{w:World}{A:Around}{E:VP}{s:Shared}
variable {a I:Addr}{ep:Nat}{es:Array (Int×Value)}{t:SetTable}
end
section
variable {P:Program}{w:World}{A:Around}{E:VP}{s:Shared}
end
end L2
namespace L2
open PySem PySem.Spec PyProof.Rows PySem.W PySem.Calls
section
variable {P:Program}{w:World}{A:Around}{E:VP}{s:Shared}
end
end L2
namespace L2
open PySem PySem.Spec PyProof.Rows PySem.W PySem.Calls
section
variable {P:Program}{w:World}{A:Around}{E:VP}{s:Shared}
end
end L2
namespace L2
open PySem PySem.Spec PyProof.Rows PySem.W PySem.Calls
section
variable {X:Cx}{pins:LO}{σ:St}{H:Hp}{s:Shared}
end
section
variable {X:Cx}{xq:XQ}{e:Expr}{fs:Rho→Res (List D)}{p p2 pos pos2:Pos}
end
mutual
noncomputable def selfD:D→Bool
 | .non | .bl _ | .int _ | .str _=>true
 | .lst ds | .tup ds=>selfDs ds
 | .dct ps=>ps.isEmpty
 | _=>false
noncomputable def selfDs:List D→Bool
 | []=>true
 | d::ds=>selfD d&&selfDs ds
end
mutual
noncomputable def depD:D→Nat
 | .lst ds | .tup ds=>depDs ds+1
 | .dct _=>1
 | _=>0
noncomputable def depDs:List D→Nat
 | []=>0
 | d::ds=>max (depD d) (depDs ds)
end
section
variable {X:Cx}{pins:LO}{σ:St}{H F:Hp}{s:Shared}
theorem u7u {A:Around}{us vs:List Value}{l b:Addr} (n:us.length=vs.length) (he:∀ j (h1:j<us.length) (h2:j<vs.length),SeqAt.EqAt A s us[j] vs[j] true) :
  ∀ j (h1:j<us.toArray.size) (h2:j<vs.toArray.size),SeqAt.EqAt A s us.toArray[j] vs.toArray[j] ((fun _=>true) j):=fun j h1 h2=>by
 have:=he j (by simpa using h1) (by simpa using h2)
 simpa using this
theorem u7J (n:Nat):(List.range n).all (fun _=>true)=true:=by simp
theorem u8C {A:Around}{a b:Addr} (h:SeqAt.RcAt A s (.ref a) (.ref b) true):SeqAt.EqAt A s (.ref a) (.ref b) true:=by
 by_cases q:a=b
 ·subst q;exact SeqAt.EqAt.same _
 ·exact SeqAt.EqAt.of_refs q h
theorem u4p {P P':Program}{w w':World}{h:Heap}{a:Addr} (m:h.DictOf (mixKind P w) a []):h.DictOf (mixKind P' w') a []:=by
 obtain ⟨o,es,ep,ho,hex,hd,hk,hp,hn⟩:=m
 have e:es=#[]:=by
  obtain ⟨l⟩:=es
  cases l with
  | nil=>rfl
  | cons x l=>cases hp
 subst e
 exact ⟨o,#[],ep,ho,hex,hd,fun e he=>by simp at he,.nil,hn⟩
mutual
theorem Rp.eqS (I:Inv X pins σ H s) (fh:Same F H):∀ {x:V}{d:D},Rp X.K F x d→∀ {A:Around}{y:V}{u v:Value},Rp X.K F y d→RelV x u→RelV y v→selfD d=true→A.units+depD d<cLine→SeqAt.RcAt A s u v true∧SeqAt.EqAt A s u v true
 | _,_,.non,A,y,u,v,py,ru,rv,_,_=>by
  cases py;cases ru;cases rv
  exact ⟨SeqAt.RcAt.none_none,SeqAt.EqAt.same _⟩
 | _,_,.bl b,A,y,u,v,py,ru,rv,_,_=>by
  cases py;cases ru;cases rv
  have:=SeqAt.RcAt.bool_bool (A:=A) (s:=s) b b
  rw [beq_self_eq_true] at this
  exact ⟨this,SeqAt.EqAt.same _⟩
 | _,_,.int i,A,y,u,v,py,ru,rv,_,_=>by
  cases py
  obtain ⟨t,rfl⟩:=ru
  obtain ⟨t',rfl⟩:=rv
  have h1:=SeqAt.RcAt.int_int (A:=A) (s:=s) i t i t'
  have h2:=SeqAt.EqAt.int_int (A:=A) (s:=s) i t i t'
  rw [beq_self_eq_true] at h1 h2
  exact ⟨h1,h2⟩
 | _,_,.str (z:=z) _,A,y,u,v,py,ru,rv,_,_=>by
  cases py
  obtain ⟨t,rfl⟩:=ru
  obtain ⟨t',rfl⟩:=rv
  have h1:=SeqAt.RcAt.str_str (A:=A) (s:=s) z t z t'
  have h2:=SeqAt.EqAt.str_str (A:=A) (s:=s) z t z t'
  rw [beq_self_eq_true] at h1 h2
  exact ⟨h1,h2⟩
 | _,_,.ty _,A,y,u,v,py,ru,rv,h,_=>by simp [selfD] at h
 | _,_,.lst (ds:=ds) hq hs,A,y,u,v,py,ru,rv,h,hu=>by
  cases py with
  | lst hq' hs' =>
   cases ru
   cases rv
   obtain ⟨its,r1,l1,_⟩:=I.list (.inl (hq.same fh))
   obtain ⟨its',r2,l2,_⟩:=I.list (.inl (hq'.same fh))
   have n:its.length=its'.length:=by rw [← r1.length,← r2.length,hs.length,hs'.length]
   have hu1:A.units+(depDs ds+1)<cLine:=hu
   have q:=SeqAt.RcAt.lists l1.isList l2.isList (by simpa using n) (by omega) (u7u (l:=0) (b:=0) n (Rps.eqS I fh hs (A:=A.in1) hs' r1 r2 (by simpa [selfD] using h) (by show A.units+1+depDs ds<cLine;omega)))
   rw [u7J] at q
   exact ⟨q,u8C q⟩
 | _,_,.tup (ds:=ds) hq hs,A,y,u,v,py,ru,rv,h,hu=>by
  cases py with
  | tup hq' hs' =>
   cases ru
   cases rv
   obtain ⟨its,r1,l1,_⟩:=I.tuple (fh.seqT hq)
   obtain ⟨its',r2,l2,_⟩:=I.tuple (fh.seqT hq')
   obtain ⟨o1,g1,c1,m1,d1⟩:=l1
   obtain ⟨o2,g2,c2,m2,d2⟩:=l2
   have n:its.length=its'.length:=by rw [← r1.length,← r2.length,hs.length,hs'.length]
   have hu1:A.units+(depDs ds+1)<cLine:=hu
   have q:=SeqAt.RcAt.tuples (A:=A) (s:=s) (l:=_) (b:=_) ⟨o1,g1,c1,m1,d1⟩ ⟨o2,g2,c2,m2,d2⟩ (by omega) (u7u (l:=0) (b:=0) n (Rps.eqS I fh hs (A:=A.in1) hs' r1 r2 (by simpa [selfD] using h) (by show A.units+1+depDs ds<cLine;omega)))
   rw [u7J,show (its.toArray.size==its'.toArray.size)=true by simp [n]] at q
   exact ⟨q,u8C q⟩
 | _,_,  .dK (a:=a) (ps:=ps) ha hr,A,y,u,v,py,ru,rv,h,hu=>by
  cases py with
  | @dK b _ _ hb hr' =>
   cases ru
   cases rv
   have e:ps=[]:=by simpa [selfD] using h
   subst e
   cases hr
   cases hr'
   have hu1:A.units+1<cLine:=hu
   obtain ⟨_,k1,vs,r1,m1⟩:_∧_∧∃ vs,KV ([]:List (Key×V)) vs∧_:=I.hok _ _ (fh _ _ ha)
   obtain ⟨_,k2,vs',r2,m2⟩:_∧_∧∃ vs,KV ([]:List (Key×V)) vs∧_:=I.hok _ _ (fh _ _ hb)
   cases r1
   cases r2
   have q:SeqAt.RcAt A s (.ref a) (.ref b) true:=fun prog w E Q hQ=>W.keq_eq (knd:=mixKind prog w) k1 k2 (u4p m1) (u4p m2) (by omega) (fun _=>.nil) hQ
   exact ⟨q,u8C q⟩
 | _,_,.ins _ _,A,y,u,v,py,ru,rv,h,_=>by simp [selfD] at h
 | _,_,.exc _ _ _,A,y,u,v,py,ru,rv,h,_=>by simp [selfD] at h
 | _,_,.dn _ _,A,y,u,v,py,ru,rv,h,_=>by simp [selfD] at h
theorem Rps.eqS (I:Inv X pins σ H s) (fh:Same F H):∀ {xs:List V}{ds:List D},Rps X.K F xs ds→∀ {A:Around}{ys:List V}{us vs:List Value},Rps X.K F ys ds→Vals xs us→Vals ys vs→selfDs ds=true→A.units+depDs ds<cLine →
  ∀ j (h1:j<us.length) (h2:j<vs.length),SeqAt.EqAt A s us[j] vs[j] true
 | _,_,.nil,A,ys,us,vs,py,ru,rv,_,_,j,h1,h2=>by cases ru;cases h1
 | _,_,.cons (d:=d) (ds:=ds) p ps,A,ys,us,vs,py,ru,rv,h,hu,j,h1,h2=>by
  cases py with
  | cons p' ps' =>
   cases ru with
   | cons ru rus =>
    cases rv with
    | cons rv rvs =>
     have h':selfD d=true∧selfDs ds=true:=by simpa [selfDs] using h
     have hu':A.units+max (depD d) (depDs ds)<cLine:=hu
     cases j with
     | zero=>exact (Rp.eqS I fh p p' ru rv h'.1 (by omega)).2
     | succ j=>exact Rps.eqS I fh ps ps' rus rvs h'.2 (by omega) j (by simpa using h1) (by simpa using h2)
end
noncomputable def lenNe:D→D→Bool
 | .lst (_::_),.lst []=>true
 | .lst [],.lst (_::_)=>true
 | _,_=>false
theorem u5D {x y:D} (h:lenNe x y=true):∃ ds es,x=.lst ds∧y=.lst es∧ds.length≠es.length:=by
 unfold lenNe at h
 split at h
 ·exact ⟨_,_,rfl,rfl,by simp⟩
 ·exact ⟨_,_,rfl,rfl,by simp⟩
 ·cases h
open Classical in
noncomputable def dEqX (x y:D):Res D:=if lenNe x y=true then .ok (.bl false) else if x=y∧selfD x=true∧depD x≤60 then .ok (.bl true) else dEq x y
noncomputable def dNeX (x y:D):Res D:=if lenNe x y=true then .ok (.bl true) else dNe x y
theorem u1F (hu:X.A.units+64<cLine):OpR X (compareOp .Eq) (rD X.K dEqX):=by
 intro pins s σ H x y v u Q I rx ry ⟨F,dx,dy,fh,px,py,q⟩
 unfold dEqX at q
 split at q
 ·rename_i hl
  obtain ⟨ds,es,rfl,rfl,ne⟩:=u5D hl
  cases px with
  | lst hq hs =>
   cases py with
   | lst hq' hs' =>
    cases rx
    cases ry
    obtain ⟨its,r1,l1,_⟩:=I.list (.inl (hq.same fh))
    obtain ⟨its',r2,l2,_⟩:=I.list (.inl (hq'.same fh))
    have n:its.length≠its'.length:=by rw [← r1.length,← r2.length,hs.length,hs'.length];exact ne
    exact SeqAt.RcAt.lists_lengths l1.isList l2.isList (by simpa using n) (by omega) _ _ _ _ ⟨.bl false,H,I,rfl,q _ F H (Stp.refl fh) (.bl _)⟩
 ·split at q
  ·rename_i h
   obtain ⟨rfl,h1,h2⟩:=h
   exact (Rp.eqS I fh px (A:=X.A) py rx ry h1 (by omega)).1 _ _ _ _ ⟨.bl true,H,I,rfl,q _ F H (Stp.refl fh) (.bl _)⟩
  ·exact o_eq hu pins s σ H x y v u Q I rx ry ⟨F,dx,dy,fh,px,py,q⟩
theorem u2R (hu:X.A.units+64<cLine):OpR X (compareOp .NotEq) (rD X.K dNeX):=by
 intro pins s σ H x y v u Q I rx ry ⟨F,dx,dy,fh,px,py,q⟩
 unfold dNeX at q
 split at q
 ·rename_i hl
  obtain ⟨ds,es,rfl,rfl,ne⟩:=u5D hl
  cases px with
  | lst hq hs =>
   cases py with
   | lst hq' hs' =>
    cases rx
    cases ry
    obtain ⟨its,r1,l1,_⟩:=I.list (.inl (hq.same fh))
    obtain ⟨its',r2,l2,_⟩:=I.list (.inl (hq'.same fh))
    have n:its.length≠its'.length:=by rw [← r1.length,← r2.length,hs.length,hs'.length];exact ne
    exact SeqAt.RcNeAt.lists_lengths l1.isList l2.isList (by simpa using n) (by omega) _ _ _ _ ⟨.bl true,H,I,rfl,q _ F H (Stp.refl fh) (.bl _)⟩
 ·exact o_ne hu pins s σ H x y v u Q I rx ry ⟨F,dx,dy,fh,px,py,q⟩
end
theorem u3g:fillsNumberSlot (.type "tuple") "mul"=pure false:=PySem.fillsNumberSlot_seq (id:="tuple.__mul__") (r:=some (.builtin "tuple.__rmul__")) F.slot_tuple_mul.lookup (by decide +kernel) F.slot_tuple_rmul.lookup (by decide +kernel)
theorem u5j:seqRepeat? (.type "tuple")=pure (some (.builtin "tuple.__mul__")):=by
 unfold seqRepeat?
 rw [PySem.seqSlot_of (T:="tuple") (name:="__mul__") (id:="tuple.__mul__") F.slot_tuple_mul.lookup (by decide +kernel),PySem.seqSlot_of (T:="tuple") (name:="__rmul__") (id:="tuple.__rmul__") F.slot_tuple_rmul.lookup (by decide +kernel)]
 rfl
section
variable {P:Program}{w:World}{A:Around}{E:VP}{s:Shared}{X:Cx}
theorem u7Q {k:Int}{t:Tok}{l:Addr}{o:Obj}{items:Array Value}{n:Nat}{Q:VP} (ho:s.heap.get? l=some o) (hc:o.cls=.type "tuple") (hd:o.data=.seq items n) (h:Q .notImplemented s) :
  wpAny (model P w) A (call (.builtin "int.__rmul__") [.int k t,.ref l]) Q E s:=by
 refine wpAny_call_entry F.slot_int_rmul (typeIs_int s k t) F.entry_int_rmul ?_ (F.args_int_rmul_2 _ _)
 obtain ⟨hp,g,d,tk,os⟩:=s
 obtain ⟨oc,od,odt,osl⟩:=o
 simp only at hc hd
 subst hc
 subst hd
 wp_walk
 exact ⟨_,rfl,h⟩
theorem u8X {k:Int}{t:Tok}{l:Addr}{o:Obj}{items:Array Value}{n:Nat}{Q:VP} (ho:s.heap.get? l=some o) (hc:o.cls=.type "tuple") (hd:o.data=.seq items n) (hk:2≤k) (hk2:k≤1000) (hi:items.isEmpty=false) (hz:items.size*k.toNat≤sizeLine)
  (h:Q (.ref s.heap.objs.size) { s with heap:=s.heap.push { cls:=.type "tuple",data:=.seq ((List.replicate k.toNat items).foldl (fun x1 x2=>x1++x2) #[]) } }):wpAny (model P w) A (call (.builtin "tuple.__mul__") [.ref l,.int k t]) Q E s:=by
 refine wpAny_call_entry F.slot_tuple_mul ⟨o,ho,hc⟩ F.entry_tuple_mul ?_ (F.args_tuple_mul_2 _ _)
 obtain ⟨hp,g,d,tk,os⟩:=s
 obtain ⟨oc,od,odt,osl⟩:=o
 simp only at hc hd
 subst hc
 subst hd
 unfold Builtin.«tuple.__mul__»
 wp_walk
 have z1:(k.toNat:Int)=k:=Int.toNat_of_nonneg (by omega)
 have z2:((items.size:Nat):Int)*k≤sizeLine:=by
  rw [← z1]
  exact_mod_cast hz
 have z3:(sizeLine:Int)=16777216:=by rw [sizeLine_eq];rfl
 rw [if_neg (by rw [decide_eq_false (by omega),decide_eq_false (by omega)];decide)]
 dsimp only
 refine wpAny_bind ?_
 unfold Builtin.Tuple.tupleItemsOf
 refine wpAny_bind (wpAny_seqItems ho rfl (wpAny_pure ?_))
 rw [if_neg (by rw [hi,show (k==1)=false from beq_eq_false_iff_ne.mpr (by omega)];decide),if_neg (by rw [hi,decide_eq_false (by omega)];decide),if_neg (by rw [z3] at z2;omega),if_neg (by unfold Builtin.Tuple.tupleTooMany;rw [decide_eq_true_eq];omega)]
 have sz:((List.replicate k.toNat items).foldl (fun x1 x2=>x1++x2) #[]).size≤sizeLine:=by
  have g:∀ (n:Nat) (a:Array Value),((List.replicate n items).foldl (fun x1 x2=>x1++x2) a).size=a.size+n*items.size:=by
   intro n
   induction n with
   | zero=>simp
   | succ n ih =>
    intro a
    rw [List.replicate_succ,List.foldl_cons,ih,Array.size_append,Nat.succ_mul]
    omega
  rw [g,Nat.mul_comm]
  simpa using hz
 unfold Builtin.Tuple.tupleExact
 exact wpAny_bind (wpAny_newObj_type (wpAny_pure ⟨_,rfl,h⟩) sz)
def rRepT (K:W.Frag):R2:=fun x y H Q=>∃ l k xs,x=.ref l∧y=.int k∧SqT K H l xs∧2≤k∧k≤1000∧xs≠[]∧xs.length*k.toNat≤sizeLine∧∀ p,H p=none→Q (.ref p) (upd H p (.tup (List.replicate k.toNat xs).flatten))
theorem op_repT:OpR X (binaryOp .Mult) (rRepT X.K):=by
 intro pins s σ H x y v u Q I rx ry h
 obtain ⟨l,k,xs,rfl,rfl,hq,h1,h2,hn,hz,q⟩:=h
 cases rx
 obtain ⟨t,rfl⟩:=ry
 obtain ⟨its,r,hT,_⟩:=I.tuple hq
 obtain ⟨o,ho,hc,n,hd⟩:=hT
 have hl:=r.length
 have hlen:its.toArray.size*k.toNat≤sizeLine:=by rw [List.size_toArray,← hl];exact hz
 have hne:its.toArray.isEmpty=false:=by
  cases its with
  | nil=>cases xs with | nil=>exact absurd rfl hn | cons _ _=>cases hl
  | cons a b=>rfl
 have hnew:List.foldl (fun x1 x2=>x1++x2) #[] (List.replicate k.toNat its.toArray)=(List.replicate k.toNat its).flatten.toArray:=by
  have:=u3N its k.toNat []
  rwa [List.nil_append] at this
 refine wpAny_binaryOp_repeat_ref (T:="tuple") (U:="int") (by decide) ⟨o,ho,hc⟩ (fun s'=>typeIs_int s' k t) u3g F.fills_int_mul F.slot_int_rmul u5j F.slot_int_index.lookup
  (u7Q ho hc hd ⟨rfl,⟨o,ho,hc⟩,u8X ho hc hd h1 h2 hne hlen ?_⟩)
 rw [hnew]
 exact ⟨.ref _,_,I.laid (a:=s.heap.objs.size) (o:=.tup (List.replicate k.toNat xs).flatten) (t':=s.toks) (fun _ _ e=>Heap.get?_push_of_some _ e) (Nat.le_refl _) ⟨by rw [u9a,Nat.mul_comm];exact hz,_,r.rep k.toNat,_,Heap.get?_push_size _ rfl,rfl,_,rfl⟩,rfl,q _ (I.hok.fresh (Nat.le_refl _))⟩
def rRepR:R2:=fun x y H Q=>∃ l k xs,x=.ref l∧y=.int k∧Rd H l (.lst xs)∧-(2^63)≤k∧k<2^63∧xs.length*k.toNat≤sizeLine ∧
 ∀ p,H p=none→Q (.ref p) (upd H p (.lst (List.replicate k.toNat xs).flatten))
theorem op_repR:OpR X (binaryOp .Mult) rRepR:=by
 intro pins s σ H x y v u Q I rx ry h
 obtain ⟨l,k,xs,rfl,rfl,hH,h1,h2,hz,q⟩:=h
 cases rx
 obtain ⟨t,rfl⟩:=ry
 obtain ⟨z,its,n,r,hl,e⟩:=I.lstR hH
 have hlen:its.toArray.size*k.toNat≤sizeLine:=by rw [List.size_toArray,← hl];exact hz
 have hcap:¬ its.toArray.size*k.toNat > (2^63 - 1) / 8:=by
  have:(sizeLine:Nat)≤(2^63 - 1) / 8:=by decide
  omega
 have hfit:¬ (!Builtin.List.listFitsIndex k)=true:=by
  rw [fitsIndex_both h1 h2]
  exact Bool.false_ne_true
 have hlong:¬ Builtin.List.listTooLong (its.toArray.size*k.toNat)=true:=by
  rw [notLongL hlen]
  exact Bool.false_ne_true
 have hnew:List.foldl (fun x1 x2=>x1++x2) #[] (List.replicate (if its.toArray.isEmpty=true then 0 else k.toNat) its.toArray)=(List.replicate k.toNat its).flatten.toArray:=by
  have f0:∀ m:Nat,List.foldl (fun x1 x2=>x1++x2) #[] (List.replicate m its.toArray)=(List.replicate m its).flatten.toArray:=fun m=>by
   have:=u3N its m []
   rw [List.nil_append] at this
   exact this
  rw [f0]
  cases its with
  | nil=>simp
  | cons a r'=>rw [if_neg (by simp)]
 refine wpAny_binaryOp_repeat_ref (T:="list") (U:="int") (by decide) ⟨_,e,rfl⟩ (fun s'=>typeIs_int s' k t) noFill_list_mul F.fills_int_mul F.slot_int_rmul repeat_list F.slot_int_index.lookup
  (call_meets F.slot_int_rmul (typeIs_int s k t) F.entry_int_rmul (F.args_int_rmul_2 _ _) (int___rmul___int_list k t l its.toArray n)
   ⟨e,rfl,⟨_,e,rfl⟩,call_meets F.slot_list_mul ⟨_,e,rfl⟩ F.entry_list_mul (F.args_list_mul_2 _ _) (AutoListH.list___mul___list_int_3 l its.toArray n k t hfit hcap hlong) ⟨e,?_⟩⟩)
 rw [hnew]
 exact ⟨.ref _,_,I.lnew (t':=s.toks) (r.rep k.toNat) (by rw [u9a,Nat.mul_comm];exact hz),rfl,q _ I.fresh⟩
noncomputable def dMulX:D→D→Res D
 | .int i,.int j=>dMul (.int i) (.int j)
 | .lst ds,.int k=>gd (-(2^63)≤k∧k<2^63∧ds.length*k.toNat≤sizeLine) (.ok (.lst (List.replicate k.toNat ds).flatten))
 | .tup ds,.int k=>gd (2≤k∧k≤1000∧ds.isEmpty=false∧ds.length*k.toNat≤sizeLine) (.ok (.tup (List.replicate k.toNat ds).flatten))
 | _,_=>.bad
theorem u2a:OpR X (binaryOp .Mult) (rD X.K dMulX):=by
 intro pins s σ H x y v u Q I rx ry ⟨F,dx,dy,fh,px,py,q⟩
 unfold dMulX at q
 split at q
 ·exact o_mul pins s σ H x y v u Q I rx ry ⟨F,_,_,fh,px,py,q⟩
 ·obtain ⟨⟨h1,h2,h3⟩,q⟩:=u3L q
  cases py
  cases px with
  | lst hq hs=>exact op_repR pins s σ H _ _ v u Q I rx ry ⟨_,_,_,rfl,rfl,hq.same fh,h1,h2,by rw [hs.length];exact h3,fun p n=>q _ _ _ (Stp.new fh n) (.lst (.inl u0g) ((hs.rep _).same (Stp.new fh n).ff))⟩
 ·obtain ⟨⟨h1,h2,h3,h4⟩,q⟩:=u3L q
  cases py
  cases px with
  | tup hq hs=>exact op_repT pins s σ H _ _ v u Q I rx ry ⟨_,_,_,rfl,rfl,fh.seqT hq,h1,h2,(fun e=>by subst e;cases hs;cases h3),by rw [hs.length];exact h4,fun p n=>q _ _ _ (Stp.new fh n) (.tup (.inl (.inl u0g)) ((hs.rep _).same (Stp.new fh n).ff))⟩
 ·exact q.elim
end
section
variable {P:Program}{w:World}{A:Around}{E:VP}
end
section
variable {X:Cx}{xq:XQ}{e:Expr}{es:List Expr}{fe:Rho→Res D}{pos:Pos}
theorem v0Y {x:Str}{p apos cpos:Pos} (i:Nat) (hN:X.N[i]?=some x:=by rfl) (hv:Vis X.env.scope x:=by first | exact Or.inl rfl | exact Or.inr (Or.inl rfl) | exact Or.inr (Or.inr rfl)) (hd:(x==("__debug__":Str))=false:=by decide) (hcd:(x==("__classdict__":Str))=false:=by decide)
  (hbase:attributeBase (.Name x p) "clear" X.env (eval (.Name x p) X.env)=eval (.Name x p) X.env:=by rfl) (hline:(apos.endLine==cpos.line)=true:=by rfl)
  (hsw:swapsWith (.Call (.Attribute (.Name x p) "clear" apos) [] [] cpos) none pos.line X.env=pure false:=by rfl) :
  DS X xq (.Expr (.Call (.Attribute (.Name x p) "clear" apos) [] [] cpos) pos) (fun ρ=>(getL ρ i).go ρ fun ds=>.nx (ρ.set i (some (.own (.l []))))) :=
 DS.of (u3y (v1v PySem.F.plainAttrs_list PySem.F.slot_list_clear PySem.F.type_list_clear v0y (u1i hN hv hd hcd) hbase hline) hsw) fun B F ρ σ H T R q=>by
  obtain ⟨ds,e1,q1⟩:=u2j (u0q q.out)
  obtain ⟨l,h,h1,h2,h3,h4,h5⟩:=R.own i _ e1
  cases h5 with
  | l hs=>exact ⟨.ref l,h1,.inl ⟨rfl,_,.inl (.inl h4)⟩,l,_,rfl,rfl,h4,q1 σ F _ (R.write (e:=e1) h1 (.l .nil))⟩
end
mutual
noncomputable def hardD:D→Bool
 | .non | .bl _ | .int _ | .str _ | .ty _=>true
 | .tup ds=>hardDs ds
 | .ins _ gs=>hardFs gs
 | _=>false
noncomputable def hardDs:List D→Bool
 | []=>true
 | d::ds=>hardD d&&hardDs ds
noncomputable def hardFs:List (Str×D)→Bool
 | []=>true
 | (_,d)::ds=>hardD d&&hardFs ds
end
section
variable {K:W.Frag}{F:Hp}{T:Addr→Prop}
def NT (F:Hp) (a:Addr):Prop:=(∃ xs,Rd F a (.lst xs))∨∃ kvs,F a=some (.dK kvs)
open Classical in
noncomputable def woT (F:Hp) (T:Addr→Prop):Hp:=fun a=>if T a then none else F a
theorem u4f {a:Addr} (h:¬ T a):woT F T a=F a:=if_neg h
mutual
theorem Rp.hard (hT:∀ a,T a→NT F a):∀ {v:V}{d:D},Rp K F v d→hardD d=true→Rp K (woT F T) v d
 | _,_,.non,_=>.non
 | _,_,.bl b,_=>.bl b
 | _,_,.int i,_=>.int i
 | _,_,.str h,_=>.str h
 | _,_,.ty T,_=>.ty T
 | _,_,.lst _ _,h=>by simp [hardD] at h
 | _,_,.tup (a:=a) hq hs,h=>by
  refine .tup ?_ (Rps.hard hT hs (by simpa [hardD] using h))
  rcases hq with (q | ⟨o,q⟩) | q
  ·refine .inl (.inl ((u4f fun t=>?_).trans q))
   obtain ⟨xs,z | ⟨o,z⟩⟩ | ⟨xs,z⟩:=hT a t <;> (rw [q] at z;cases z)
  ·refine .inl (.inr ⟨o,(u4f fun t=>?_).trans q⟩)
   obtain ⟨xs,z | ⟨o,z⟩⟩ | ⟨xs,z⟩:=hT a t <;> (rw [q] at z;cases z)
  ·exact .inr q
 | _,_,.dK _ _,h=>by simp [hardD] at h
 | _,_,.ins (a:=a) q hs,h=>by
  refine .ins ((u4f fun t=>?_).trans q) (Rpf.hard hT hs (by simpa [hardD] using h))
  obtain ⟨xs,z | ⟨o,z⟩⟩ | ⟨xs,z⟩:=hT a t <;> (rw [q] at z;cases z)
 | _,_,.exc _ _ _,h=>by simp [hardD] at h
 | _,_,.dn _ _,h=>by simp [hardD] at h
theorem Rps.hard (hT:∀ a,T a→NT F a):∀ {v:List V}{d:List D},Rps K F v d→hardDs d=true→Rps K (woT F T) v d
 | _,_,.nil,_=>.nil
 | _,_,.cons h hs,z=>by
  have z:=Bool.and_eq_true_iff.mp z
  exact .cons (Rp.hard hT h z.1) (Rps.hard hT hs z.2)
theorem Rpf.hard (hT:∀ a,T a→NT F a):∀ {v:List (Str×V)}{d:List (Str×D)},Rpf K F v d→hardFs d=true→Rpf K (woT F T) v d
 | _,_,.nil,_=>.nil
 | _,_,.cons h hs,z=>by
  have z:=Bool.and_eq_true_iff.mp z
  exact .cons (Rp.hard hT h z.1) (Rpf.hard hT hs z.2)
end
end
noncomputable def ownL (ρ:Rho):Bool:=ρ.all fun
 | some (.own (.l _))=>true
 | some (.own (.d _))=>true
 | some (.own _)=>false
 | _=>true
def isOwn (ρ:Rho) (σ:St) (a:Addr):Prop:=∃ (i:Nat) (o:OD),ρ[i]?=some (some (.own o))∧σ[i]?=some (some (.ref a))
open Classical in
theorem Rel.frz2 {K:W.Frag}{B:Hp×Hp}{ρ:Rho}{σ:St}{F H:Hp} (r:Rel K B ρ σ F H):∃ F',Same F F'∧Rel K B (L2.frz ρ) σ F' H∧∀ a,F a=none→F' a≠none→isOwn ρ σ a:=by
 let F':Hp:=fun a=>if isOwn ρ σ a then H a else F a
 have hT:∀ a,isOwn ρ σ a→F a=none∧B.2 a=none:=fun a ⟨i,o,e,q⟩=>by
  obtain ⟨b,h,h1,h2,h3,_⟩:=r.own i o e
  rw [q] at h1;cases h1;exact ⟨h2,h3⟩
 have e1:Same F F':=fun a o e=>by
  show (if isOwn ρ σ a then H a else F a)=some o
  by_cases q:isOwn ρ σ a
  ·rw [(hT a q).1] at e;cases e
  ·rw [if_neg q];exact e
 have e2:Same F' H:=fun a o e=>by
  have e':(if isOwn ρ σ a then H a else F a)=some o:=e
  by_cases q:isOwn ρ σ a
  ·rw [if_pos q] at e';exact e'
  ·rw [if_neg q] at e';exact r.fh a o e'
 refine ⟨F',e1,⟨⟨r.st.ff.trans e1,e2,r.st.hh,fun a q z=>?_⟩,?_,?_,?_,?_⟩,fun a n q=>?_⟩
 ·show (if isOwn ρ σ a then H a else F a)=none
  by_cases t:isOwn ρ σ a
  ·exact absurd (hT a t).2 z
  ·rw [if_neg t];exact r.st.no a q z
 ·rw [r.len];unfold L2.frz;simp
 ·intro i d e
  obtain ⟨y,h1,h2⟩:=u2S e
  cases y with
  | val d'=>cases h2;obtain ⟨v,q1,q2⟩:=r.val i d h1;exact ⟨v,q1,q2.same e1⟩
  | own o =>
   cases h2
   obtain ⟨a,h,q1,q2,q3,q4,q5⟩:=r.own i o h1
   have t:isOwn ρ σ a:=⟨i,o,h1,q1⟩
   exact ⟨.ref a,q1,Ro.rp (Ro.same e1 q5) (show (if isOwn ρ σ a then H a else F a)=some h by rw [if_pos t];exact q4)⟩
 ·intro i o e
  obtain ⟨y,h1,h2⟩:=u2S e
  cases y <;> cases h2
 ·intro i j o u a e
  obtain ⟨y,h1,h2⟩:=u2S e
  cases y <;> cases h2
 ·by_cases t:isOwn ρ σ a
  ·exact t
  ·exact absurd (show (if isOwn ρ σ a then H a else F a)=none by rw [if_neg t];exact n) q
section
variable {X:Cx}{xq:XQ}{e:Expr}{fe:Rho→Res D}
noncomputable def hardC (ρ:Rho) (d:D):Res D:=if ownL ρ=true∧hardD d=true then .ok d else .bad
theorem DE.hard (h:DE X xq e fe):DE X xq e (fun ρ=>(fe (frz ρ)).bind (hardC ρ)) :=
 DE.of h.out fun B F ρ σ H Q R q=>by
  obtain ⟨F1,e1,R1,ow⟩:=R.frz2
  refine ⟨B,F1,frz ρ,R1,Res.all_mono (Res.all_bind.mp q) (fun d q v F' H' s p=>?_) fun _ e=>e.frz⟩
  unfold hardC at q
  by_cases z:ownL ρ=true∧hardD d=true
  ·rw [if_pos z] at q
   have hT:∀ a,isOwn ρ σ a→F a=none∧NT F' a:=fun a ⟨i,o,e,qa⟩=>by
    obtain ⟨b,hh,h1,h2,h3,h4,h5⟩:=R.own i o e
    rw [qa] at h1
    cases h1
    refine ⟨h2,?_⟩
    have ho:=List.all_eq_true.mp z.1 _ (List.mem_of_getElem? e)
    cases o with
    | l ds =>
     obtain ⟨v,k1,k2⟩:=R1.val i (.lst ds) (by unfold frz;rw [List.getElem?_map,e];rfl)
     rw [qa] at k1
     cases k1
     cases k2 with
     | lst hq hs=>exact .inl ⟨_,hq.same s.ff⟩
    | d ps =>
     obtain ⟨v,k1,k2⟩:=R1.val i (.dct ps) (by unfold frz;rw [List.getElem?_map,e];rfl)
     rw [qa] at k1
     cases k1
     cases k2 with
     | dK hq hs=>exact .inr ⟨_,s.ff _ _ hq⟩
    | _=>cases ho
   refine q v (woT F' (isOwn ρ σ)) H' ⟨fun a o ea=>?_,fun a o ea=>?_,s.hh,fun a n m=>?_⟩ (p.hard (fun a t=>(hT a t).2) z.2)
   ·by_cases t:isOwn ρ σ a
    ·rw [(hT a t).1] at ea;cases ea
    ·rw [u4f t];exact s.ff a o (e1 a o ea)
   ·by_cases t:isOwn ρ σ a
    ·unfold woT at ea;rw [if_pos t] at ea;cases ea
    ·rw [u4f t] at ea;exact s.fh a o ea
   ·by_cases t:isOwn ρ σ a
    ·unfold woT;rw [if_pos t]
    ·rw [u4f t]
     exact s.no a (Classical.byContradiction fun k=>t (ow a n k)) m
  ·rw [if_neg z] at q;exact q.elim
end
section
variable {M:Model}{A:Around}{E:VP}{s:Shared}
end
section
variable {X:Cx}{pins:LO}{σ:St}{H:Hp}{s:Shared}{k0:Str}{scope:Scope}{C c0:Addr}{fp:List Addr}
end
section
variable {X:Cx}{tg iter elt:Expr}{ifs:List Expr}{k0:Str}{scope:Scope}{wi:TI}{g:TG}{ti:TT}{te:TE}{pos:Pos}
end
noncomputable def runT (n m:Nat) (t:Rho→Out) (ds:List D):Res D:=if ds.length=m then noE (outR (t (startD n ds))) else .bad
noncomputable def runX (n m:Nat) (t:Rho→Out) (ds:List D):Res D:=if ds.length=m then outR (t (startD n ds)) else .bad
section
variable {P:Program}{w:World}{K:W.Frag}{mg:MG}{base:Heap}
theorem Fun.okT {x qual:Str}{st:Stmt}{f:Addr}{fd:FuncData}{N ps:List Str}{k:Nat}{t:Rho→Out} (F:Fun K x qual st f fd) (S:FnScope N ps (defScope st))
  (hbody:∀ (cdv:Value) (A:Around) (outer:List Env) (s:Shared) (H:Hp) (E:XK),Room k (A.deeper (envOfC qual (defScope st) s.heap.objs.size f cdv))→DB (cxOf CX0 P w K mg base N qual (defScope st) f cdv A outer s H E).nox xqF (defBody st) t) :
  FnOk P w K mg base CX0 (k+1) f fd ps (spF K (runT N.length ps.length t)):=by
 refine F.okD S (fun ds d h=>?_) fun cdv A outer s H E hr=>⟨t,hbody cdv A outer s H E hr,fun ds d h=>?_⟩
 ·unfold runT at h
  split at h
  ·assumption
  ·cases h
 ·unfold runT at h
  split at h
  ·cases q:outR (t (startD N.length ds)) with
   | ok d'=>rw [q] at h;exact h
   | err x=>rw [q] at h;cases h
   | bad=>rw [q] at h;cases h
  ·cases h
theorem Fun.okTX {x qual:Str}{st:Stmt}{f:Addr}{fd:FuncData}{N ps:List Str}{k:Nat}{t:Rho→Out} (F:Fun K x qual st f fd) (S:FnScope N ps (defScope st))
  (hbody:∀ (cdv:Value) (A:Around) (outer:List Env) (s:Shared) (H:Hp) (E:XK),Room k (A.deeper (envOfC qual (defScope st) s.heap.objs.size f cdv))→XqOk (cxR P w K mg base N qual (defScope st) f cdv A outer s H E) (xq0 E) →
   DB (cxR P w K mg base N qual (defScope st) f cdv A outer s H E) (xq0 E) (defBody st) t):FnOk P w K mg base (CXe P w) (k+1) f fd ps (spX K (runX N.length ps.length t)):=by
 refine F.okX S (fun ds h=>?_) fun cdv A outer s H E hr hq=>⟨t,hbody cdv A outer s H E hr hq,fun ds h=>?_⟩
 ·unfold runX at h
  split at h
  ·assumption
  ·exact absurd rfl h
 ·unfold runX at h ⊢
  split at h
  ·rename_i q;rw [if_pos q]
  ·exact absurd rfl h
end
section
variable {X:Cx}{w:World}{K:W.Frag}
theorem dh_asK {xq:XQ}{cn nm:Str}{C':Addr}{i:Nat}{p pos:Pos}{b0:Stmt}{bs:List Stmt}{rest:List ExceptHandler}{fb:Rho→Out}{hr:D→Rho→Out} (hst:X.stack=X.env::X.outer∧X.env.frame=some X.env.locals) (hN:X.N.Nodup) (hm:X.mg cn=some (.ref C')) (hb:XBase K C')
  (hsu:∀ e,DB (cxH X e) xqF (b0::bs) fb) (hrs:DH X xq rest hr) (eK:X.K=K:=by rfl) (hi:X.N[i]?=some nm:=by rfl) (hl:X.env.scope.names.lookup nm=some .local:=by rfl) (hk:X.env.kindOf nm=some .local:=by rfl) (hg:Gl X cn:=by rfl) (hdb:(cn==("__debug__":Str))=false:=by decide) :
  DH X xq (.ExceptHandler (some (.Name cn p)) (some nm) (b0::bs) pos::rest) (hdAs K C' i fb hr):=by subst eK;exact dh_as hst hN hm hb hsu hrs hi hl hk hg hdb
end
section
variable {X:Cx}{xq:XQ}{i value:Expr}{fi fv:Rho→Res D}{x:Str}{p pos pos':Pos}{w:World}
end
structure FunD (K:W.Frag) (x qual:Str) (st:Stmt) (f:Addr) (fd:FuncData):Prop where
 ex:∃ (oc:Value) (od:Option Addr) (dV kV doc pm:Value) (an:Option Addr) (cdv ct:Value) (osl:Array (Option Value)),
  fd=W.fnOf x qual (defArgs st) (defBody st) (defScope st) dV kV doc pm an cdv ct∧K.lookup f=some ⟨oc,od,.func fd,osl⟩∧W.codeIn K cdv qual=true
section
variable {P:Program}{w:World}{K:W.Frag}{mg:MG}{base:Heap}
end
section
variable {X:Cx}{xq:XQ}{o i e f:Expr}{fo fi ff:Rho→Res D}{pos apos cpos:Pos}
end
section
variable {X:Cx}{pins:LO}{σ:St}{H:Hp}{s:Shared}{a:Addr}{kvs:List (Key×V)}{k:Key}{u r:Value}{v:V}{A:Around}{E:VP}
end
section
variable {X:Cx}{xq:XQ}{o e f:Expr}{apos cpos pos p:Pos}{td ty tx:TE}{fe ff:Rho→Res D}{x:Str}
end
section
variable {X:Cx}
end
section
variable {P:Program}{w:World}{A:Around}{E:VP}{s:Shared}
theorem nx_tup {j q:Addr}{i:Nat}{ys:Array Value}{x:Value}{Q:VP} (hj:s.heap.IsTupleIter j q i) (hq:s.heap.IsTuple q ys) (hx:ys[i]?=some x)
  (k:∀ h',h'.IsTupleIter j q (i+1)→Heap.SameBut j s.heap h'→Q x { s with heap:=h' }):wpAny (model P w) A (Builtin.SmallTypes.nextOf (.ref j)) Q E s:=by
 obtain ⟨oj,e1,e2,e3⟩:=id hj
 obtain ⟨oq,e4,-,n,e5⟩:=hq
 unfold Builtin.SmallTypes.nextOf
 refine wpAny_bind (wpAny_callSpecial?_slot (name:=Str.ofString "__next__") hj.typeIs F.slot_tuple_iterator_next (wpAny_call_entry F.slot_tuple_iterator_next hj.typeIs F.entry_tuple_iterator_next ?_ (F.args_tuple_iterator_next_1 _)))
 show wpAny _ _ (field (.ref j) 0 >>= _) _ _ s
 refine wpAny_bind (wpAny_field e1 e3 (x:=.ref q) rfl ?_)
 show wpAny _ _ (if (Value.ref q==Value.none)=true then _ else _) _ _ s
 rw [if_neg (show ¬ ((Value.ref q==Value.none)=true) from Bool.false_ne_true)]
 show wpAny _ _ (field (.ref j) 1 >>= _) _ _ s
 refine wpAny_bind (wpAny_field e1 e3 (x:=.int i 0) rfl ?_)
 show wpAny _ _ (seqItems? (.ref q) >>= _) _ _ s
 refine wpAny_bind (wpAny_seqItems e4 e5 ?_)
 simp only [Int.toNat_natCast,hx]
 exact wpAny_bind (wpAny_setField e1 e3 (by simp) (wpAny_pure ⟨x,rfl,wpAny_pure (k _ ⟨_,Heap.get?_update_self _ e1 (Obj.isFreed_of_fields (Obj.data_mapFields e3 _)),(Obj.cls_mapFields ..).trans e2,by rw [Obj.data_mapFields e3];simp [rawInt]⟩ (Heap.SameBut.update ..))⟩))
theorem u7V {j q:Addr}{i:Nat}{ys:Array Value}{Q:VP} (hn:A.handled=none) (hj:s.heap.IsTupleIter j q i) (hq:s.heap.IsTuple q ys) (hx:ys[i]?=none)
  (k:∀ h' u,Heap.ExtBut j s.heap h'→(∃ o,h'.get? u=some o∧o.cls=.type "StopIteration")→E (.ref u) { s with heap:=h' }):wpAny (model P w) A (Builtin.SmallTypes.nextOf (.ref j)) Q E s:=by
 obtain ⟨oj,e1,e2,e3⟩:=id hj
 obtain ⟨oq,e4,-,n,e5⟩:=hq
 unfold Builtin.SmallTypes.nextOf
 refine wpAny_bind (wpAny_callSpecial?_slot (name:=Str.ofString "__next__") hj.typeIs F.slot_tuple_iterator_next (wpAny_call_entry F.slot_tuple_iterator_next hj.typeIs F.entry_tuple_iterator_next ?_ (F.args_tuple_iterator_next_1 _)))
 show wpAny _ _ (field (.ref j) 0 >>= _) _ _ s
 refine wpAny_bind (wpAny_field e1 e3 (x:=.ref q) rfl ?_)
 show wpAny _ _ (if (Value.ref q==Value.none)=true then _ else _) _ _ s
 rw [if_neg (show ¬ ((Value.ref q==Value.none)=true) from Bool.false_ne_true)]
 show wpAny _ _ (field (.ref j) 1 >>= _) _ _ s
 refine wpAny_bind (wpAny_field e1 e3 (x:=.int i 0) rfl ?_)
 show wpAny _ _ (seqItems? (.ref q) >>= _) _ _ s
 refine wpAny_bind (wpAny_seqItems e4 e5 ?_)
 simp only [Int.toNat_natCast,hx]
 refine wpAny_bind (wpAny_rule (wpAny_bind (wpAny_setField e1 e3 (by simp) ?_)))
 show wpAny _ _ (newExc (.type "StopIteration") [] >>= _) _ _ _
 refine wpAny_bind ?_
 simp only [newExc,newTuple]
 refine wpAny_bind (wpAny_newObj_type (wpAny_bind (m:=firstArgMember _ _) (wpAny_of_eq (a:=Value.none) (by first | rfl | (simp only [firstArgMember];rfl)) (wpAny_newObj_type ?_ (by size_fits)))) (by size_fits))
 simp only [raiseNew]
 refine wpAny_bind (wpAny_handled ?_)
 first | rw [show A.in1.handled=none from hn] | rw [hn]
 exact wpAny_bind (wpAny_pure (wpAny_throw (k _ _ (((Heap.SameBut.update ..).extBut.push _).push _) ⟨_,Heap.get?_push_size _ rfl,rfl⟩)))
end
section
variable {X:Cx}{xq:XQ}{a:Expr}{ta:TA}{p pos tp:Pos}{es:List Expr}{k:Nat}{fa:Rho→Res (List D)}
end
theorem u8y:Manifest.owners.lookup (String.ofList ['d','e','s','r','e','v','e','r'].reverse)=some Manifest.sig_reversed:=by kernel_rfl
theorem u3v:Slot "reversed" "__next__" "reversed.__next__":=.of (owner:="reversed") (n:="__next__") (by rw [typeLookup_type,builtinLookup_eq_fast];kernel_rfl) (by decide +kernel) (by decide +kernel) (by decide +kernel) (by first | exact .inl (by decide +kernel) | exact .inr (by decide +kernel)) (by rw [isSubtype_type];kernel_rfl)
theorem u8z:Slot "reversed" "__iter__" "reversed.__iter__":=.of (owner:="reversed") (n:="__iter__") (by rw [typeLookup_type,builtinLookup_eq_fast];kernel_rfl) (by decide +kernel) (by decide +kernel) (by decide +kernel) (by first | exact .inl (by decide +kernel) | exact .inr (by decide +kernel)) (by rw [isSubtype_type];kernel_rfl)
theorem rv_init:Slot "reversed" "__init__" "object.__init__":=.of (owner:="object") (n:="__init__") (by rw [typeLookup_type,builtinLookup_eq_fast];kernel_rfl) (by decide +kernel) (by decide +kernel) (by decide +kernel) (by first | exact .inl (by decide +kernel) | exact .inr (by decide +kernel)) (by rw [isSubtype_type];kernel_rfl)
theorem u6V:entryFor table "reversed.__next__"=some Builtin.«reversed.__next__»:=entryFor_of_tree (by kernel_rfl)
theorem u6W (a:Value):argsOk "reversed.__next__" ⟨[a],[]⟩:=by
 unfold argsOk;rw [signature?_of (id:="reversed.__next__") (n:=['_','_','t','x','e','n','_','_']) (o:=['d','e','s','r','e','v','e','r']) (by kernel_rfl) u8y];kernel_rfl
theorem v0g (a:Value):argsOk "reversed.__iter__" ⟨[a],[]⟩:=by
 unfold argsOk;rw [signature?_of (id:="reversed.__iter__") (n:=['_','_','r','e','t','i','_','_']) (o:=['d','e','s','r','e','v','e','r']) (by kernel_rfl) u8y];kernel_rfl
theorem v0e:entryFor table "reversed.__iter__"=some Builtin.«dict_keyiterator.__iter__» :=
 entryFor_alias (id':="dict_keyiterator.__iter__") (by kernel_rfl) (by first | rfl | decide +kernel | (unfold String.splitOn;simp +decide [String.splitOnAux])) (by decide +kernel) (by kernel_rfl)
theorem u8A:TypeCalled "reversed" "reversed.__new__" "object.__init__" :=
 ⟨by decide +kernel,by decide +kernel,⟨_,_,F.mro_reversed⟩,F.made_reversed,by decide +kernel,F.sub_reversed_self,rv_init⟩
theorem u5z:typeLookup (.type "tuple") "__reversed__"=pure none:=by rw [typeLookup_type,builtinLookup_eq_fast];kernel_rfl
theorem u5c:isSubtype (.type "tuple") (.type "dict")=pure false:=by rw [isSubtype_type];kernel_rfl
abbrev rvO (l:Addr) (i:Int):Obj:={ cls:=.type "reversed",data:=.fields #[.ref l,rawInt i] }
def IsRv (h:Heap) (a l:Addr) (i:Int):Prop:=h.get? a=some (rvO l i)
section
variable {P:Program}{w:World}{A:Around}{E:VP}{s:Shared}
theorem IsRv.ty {a l:Addr}{i:Int} (x:IsRv s.heap a l i):s.TypeIs (.ref a) "reversed":=⟨_,x,rfl⟩
theorem rv_new {l:Addr}{ys:Array Value}{Q:VP} (hL:s.heap.IsTuple l ys) (hz:(ys.size:Int)<2^63)
  (h:∀ t,Q (.ref s.heap.objs.size) { s with heap:=s.heap.push (rvO l ((ys.size:Int) - 1)),toks:=t }):wpAny (model P w) A (Builtin.«reversed.__new__» ⟨[.type "reversed",.ref l],[]⟩) (fun fin s'=>∃ v,fin=.done (.ret v)∧Q v s') E s:=by
 unfold Builtin.«reversed.__new__»;refine wpAny_bind (wpAny_of_eq (newClass_reversed _) ?_)
 try dsimp only
 refine wpAny_bind (wpAny_of_eq (a:=()) (by first | rfl | kernel_rfl) (wpAny_bind (wpAny_of_eq (a:=()) (by first | rfl | kernel_rfl) ?_)))
 try dsimp only
 refine wpAny_bind (wpAny_specialOf hL.typeIs u5z ?_)
 try dsimp only
 refine wpAny_bind ?_
 show wpAny _ _ (isInstance (.ref l) (.type "dict") >>= _) _ _ _
 refine wpAny_bind (wpAny_isInstance (T:="tuple") (b:=false) hL.typeIs u5c ?_)
 try dsimp only
 rw [if_neg Bool.false_ne_true]
 refine wpAny_bind (wpAny_specialOf hL.typeIs slot_tuple_getitem.lookup ?_)
 dsimp only
 rw [if_pos (by decide)]
 refine wpAny_pure ?_
 rw [if_neg (by decide)]
 refine wpAny_bind (len_tuple (show IsTup s.heap l ys from hL) hz (wpAny_bind (wpAny_of_eq (a:=some (ys.size:Int)) rfl ?_)))
 dsimp only
 exact wpAny_bind (m:=Builtin.SmallTypes.newRecord _ _) (show wpAny _ _ (newObj (.type "reversed") (.fields #[.ref l,rawInt ((ys.size:Int) - 1)])) _ _ _ from wpAny_newObj_type (wpAny_pure ⟨_,rfl,h _⟩))
theorem v0A (l:Addr) (ys:Array Value):Meets (Builtin.«reversed.__new__» ⟨[.type "reversed",.ref l],[]⟩) (fun _ R s=>s.heap.IsTuple l ys∧(ys.size:Int)<2^63∧∀ t,R (.ok (.ret (.ref s.heap.objs.size))) { s with heap:=s.heap.push (rvO l ((ys.size:Int) - 1)),toks:=t }) :=
 .of_wp fun prog w A R s h=>rv_new (Q:=fun v s'=>R (.ok (.ret v)) s') h.1 h.2.1 h.2.2
theorem call_rv {l:Addr}{ys:Array Value}{Q:VP} (hL:s.heap.IsTuple l ys) (hz:(ys.size:Int)<2^63)
  (h:∀ t,Q (.ref s.heap.objs.size) { s with heap:=s.heap.push (rvO l ((ys.size:Int) - 1)),toks:=t }):wpAny (model P w) A (call (.type "reversed") [.ref l]) Q E s:=by
 refine callType_new u8A (by decide) (F.typeCall_reversed_1 _) (F.newCall_reversed_1 _) (fun obj=>F.args_object_init_2 obj _) F.entry_reversed_new (v0A l ys) ⟨hL,hz,fun t=>?_⟩
 show _∧_
 exact ⟨⟨_,Heap.get?_push_size _ rfl,rfl⟩,h t⟩
theorem nx_rv {j l:Addr}{i:Nat}{ys:Array Value}{x:Value}{Q:Option Value→Shared→Prop} (hj:IsRv s.heap j l (i:Int)) (hl:s.heap.IsTuple l ys) (hz:(ys.size:Int)<2^63) (hx:ys[i]?=some x)
  (k:∀ h' t,IsRv h' j l ((i:Int) - 1)→Heap.SameBut j s.heap h'→Q (some x) { s with heap:=h',toks:=t }):wpAny (model P w) A (pyNext (.ref j)) Q E s:=by
 have hi:i<ys.size:=(Array.getElem?_eq_some_iff.mp hx).1
 unfold pyNext;refine wpAny_bind (wpAny_attempt (wpAny_callSpecial?_slot (name:=Str.ofString "__next__") hj.ty u3v (wpAny_call_entry u3v hj.ty u6V ?_ (u6W _))))
 unfold Builtin.«reversed.__next__»;refine wpAny_bind (wpAny_of_eq (a:=(Value.ref j,[])) rfl ?_)
 try dsimp only
 refine wpAny_bind (wpAny_field hj rfl (x:=.ref l) rfl (wpAny_bind (wpAny_field hj rfl (x:=rawInt (i:Int)) rfl ?_)))
 show wpAny _ _ (if (i:Int)<0 then _ else _) _ _ s
 rw [if_neg (by omega)]
 refine wpAny_bind (wpAny_specialOf hl.typeIs slot_tuple_getitem.lookup ?_)
 simp only [Option.isNone_some,Bool.false_eq_true,if_false]
 refine wpAny_bind (wpAny_mkInt (wpAny_bind (wpAny_attempt (getItem_tuple (j:=i) (show IsTup s.heap l ys from hl) (by omega) (by omega) (by simp [seqIndex?];omega) hx ?_))))
 dsimp only
 refine wpAny_bind (wpAny_field hj rfl (x:=rawInt (i:Int)) rfl ?_)
 show wpAny _ _ (setField (.ref j) 1 (rawInt ((i:Int) - 1)) >>= _) _ _ _
 exact wpAny_bind (wpAny_setField_rec hj (by simp) fun h2 e2 s2=>wpAny_pure ⟨x,rfl,wpAny_pure (k h2 _ e2 s2)⟩)
theorem u8W {j l:Addr}{Q:Option Value→Shared→Prop} (hn:A.handled=none) (hj:IsRv s.heap j l (-1))
  (k:∀ h',Heap.ExtBut j s.heap h'→Q none { s with heap:=h' }):wpAny (model P w) A (pyNext (.ref j)) Q E s:=by
 unfold pyNext;refine wpAny_bind (wpAny_attempt (wpAny_callSpecial?_slot (name:=Str.ofString "__next__") hj.ty u3v (wpAny_call_entry u3v hj.ty u6V ?_ (u6W _))))
 unfold Builtin.«reversed.__next__»;refine wpAny_bind (wpAny_of_eq (a:=(Value.ref j,[])) rfl ?_)
 try dsimp only
 refine wpAny_bind (wpAny_field hj rfl (x:=.ref l) rfl (wpAny_bind (wpAny_field hj rfl (x:=rawInt (-1)) rfl ?_)))
 show wpAny _ _ (if (-1:Int)<0 then _ else _) _ _ s
 rw [if_pos (by decide)]
 refine wpAny_bind (wpAny_rule (wpAny_bind ?_))
 show wpAny _ _ (setField (.ref j) 1 (rawInt (-1)) >>= fun _=>setField (.ref j) 0 .none) _ _ _
 refine wpAny_bind (wpAny_setField_rec hj (by simp) fun h2 e2 s2=>wpAny_setField_rec e2 (by simp) fun h3 e3 s3=>?_)
 refine wpAny_bind ?_
 show wpAny _ A.in1 (newExc (.type "StopIteration") [] >>= _) _ _ _
 refine wpAny_bind ?_
 simp only [newExc,newTuple]
 refine wpAny_bind (wpAny_newObj_type (wpAny_bind (m:=firstArgMember _ _) (wpAny_of_eq (a:=Value.none) (by first | rfl | (simp only [firstArgMember];rfl)) (wpAny_newObj_type ?_ (by size_fits)))) (by size_fits))
 simp only [raiseNew];refine wpAny_bind (wpAny_handled ?_)
 first | rw [show A.in1.handled=none from hn] | rw [hn]
 have x3:Heap.ExtBut j s.heap h3:=fun b o hb e=>s3.extBut b o hb (s2.extBut b o hb e)
 refine wpAny_bind (wpAny_pure (wpAny_throw ?_));exact wpAny_bind (wpAny_isInstance (T:="StopIteration") (b:=true) ⟨_,Heap.get?_push_size _ rfl,rfl⟩ isSubtype_stop (wpAny_pure (k _ ((x3.push _).push _))))
theorem it_rv {j l:Addr}{i:Int}{Q:VP} (hj:IsRv s.heap j l i) (h:Q (.ref j) s):wpAny (model P w) A (pyIter (.ref j)) Q E s:=by
 refine wpAny_pyIter_slot hj.ty u8z (wpAny_call_entry u8z hj.ty v0e ?_ (v0g _))
 show wpAny _ _ (ret (.ref j)) _ _ s
 exact wpAny_pure ⟨_,rfl,"reversed",_,hj.ty,u3v.lookup,h⟩
end
section
variable {X:Cx}{xq:XQ}{a tg:Expr}{ta:TA}{p pos:Pos}{fa:Rho→Res (List D)}
end
def spN (K:W.Frag) (g:List D→Res (List D)):Sp:=fun vs H Q E=>∃ F ds,Same F H∧Rps K F vs ds∧(g ds).all (fun es=>∀ a h F' H',Stp F H F' H'→F' a=none→H a=none→H' a=some h→Ro K F' a h (.l es)→Q (.ref a) H') (fun x=>∀ a F' H',Stp F H F' H'→Rp K F' (.ref a) x→E (.ref a) none H')
noncomputable def asLs (g:List D→Res (List D)) (ds:List D):Res D:=(g ds).bind fun es=>.ok (.lst es)
theorem Stp.keep {F H F' H':Hp}{a:Addr}{hh:HO} (s1:Stp F H F' H') (n1:F' a=none) (n2:H a=none) (e1:H' a=some hh):Stp F H (upd F' a hh) H':=⟨s1.ff.trans (u0e n1),fun b u x=>by
 unfold upd at x
 by_cases z:b=a
 ·rw [if_pos z] at x;cases x;subst z;exact e1
 ·rw [if_neg z] at x;exact s1.fh b u x,s1.hh,fun b x y=>by
 unfold upd
 by_cases z:b=a
 ·subst z;exact absurd n2 y
 ·rw [if_neg z];exact s1.no b x y⟩
theorem spN_X {K:W.Frag}{g:List D→Res (List D)} (vs:List V) (H:Hp) (Q:VK) (E:XK) (h:spX K (asLs g) vs H Q E):spN K g vs H Q E:=by
 obtain ⟨F,ds,fh,r,q⟩:=h
 refine ⟨F,ds,fh,r,Res.all_mono (Res.all_bind.mp q) (fun es k a hh F' H' s1 n1 n2 e1 r1=>?_) fun _ k=>k⟩
 exact k (.ref a) _ _ (s1.keep n1 n2 e1) ((Ro.same (u0e n1) r1).rp u0g)
inductive OutN where
 | rn (es:List D) | er (x:D) (ρ:Rho) | bad
structure OkN (K:W.Frag) (xq:XQ) (B:Hp×Hp) (T:Ends) (o:OutN):Prop where
 out:match o with
  | .rn es=>∀ a h F' H',Stp B.1 B.2 F' H'→F' a=none→B.2 a=none→H' a=some h→Ro K F' a h (.l es)→T.rt (.ref a) H'
  | .er x ρ=>∀ v σ F H,Rel K B ρ σ F H→Rp K F v x→xq v σ H
  | .bad=>False
def liftR (K:W.Frag) (xq:XQ) (f:Rho→OutN):TS:=fun T σ H=>∃ B F ρ,Rel K B ρ σ F H∧OkN K xq B T (f ρ)
structure DRB (X:Cx) (xq:XQ) (sts:List Stmt) (f:Rho→OutN):Prop where
 out:PSs X sts (liftR X.K xq f)
section
variable {X:Cx}{xq:XQ}{st:Stmt}{sts:List Stmt}{e o:Expr}{es:List Expr}{fn:Rho→Res OD}{fe:Rho→Res D}{fs:Rho→Res (List D)}{f:Rho→Out}{g:Rho→OutN}{pos p p2 pos2 apos cpos:Pos}{x:Str}
noncomputable def retN (fn:Rho→Res OD) (ρ:Rho):OutN:=match fn ρ with
 | .ok (.l es)=>.rn es
 | .err x=>.er x (frz ρ)
 | _=>.bad
theorem dr_ret (he:DN X xq e fn):DRB X xq [.Return (some e) pos] (retN fn) :=
 ⟨u3x fun pins s σ H T I z9=>un5 z9 fun B F ρ R q=>u7c he.out pins s σ H T I ⟨B,F,ρ,R,by
  have q:=q.out
  unfold retN at q
  cases h:fn ρ with
  | bad=>rw [h] at q;exact q.elim
  | err x=>rw [h] at q;exact fun v F1 H1 R1 p1=>q v σ F1 H1 R1 p1
  | ok o =>
   rw [h] at q
   cases o with
   | l ds=>exact fun a hh F' H' s n1 n2 e1 r1=>q a hh F' H' (R.st.trans s) n1 (R.st.hh.free n2) e1 r1
   | _=>exact q.elim⟩⟩
noncomputable def thenR (f:Rho→Out) (g:Rho→OutN) (ρ:Rho):OutN:=match f ρ with
 | .nx ρ1=>g ρ1
 | .er x ρ1=>.er x ρ1
 | _=>.bad
theorem u6H (h1:DS X xq st f) (h2:DRB X xq sts g):DRB X xq (st::sts) (thenR f g) :=
 ⟨fun pins s σ H T I z9=>un5 z9 fun B F ρ R q=>u2s h1.out h2.out pins s σ H T I ⟨B,F,ρ,R,⟨by
  have q1:=q.out
  unfold thenR at q1
  generalize f ρ=o at q1
  cases o with
  | nx ρ1=>exact fun σ1 F1 H1 R1=>⟨B,F1,ρ1,R1,⟨q1⟩⟩
  | rt d=>exact q1.elim
  | bk r=>exact q1.elim
  | ct r=>exact q1.elim
  | er x r=>exact q1
  | bad=>exact q1⟩⟩⟩
theorem v1o {K:W.Frag}{B:Hp×Hp}{ρ:Rho}{σ:St}{F H F0 H0:Hp}{f:List D→Res (List D)}{ds:List D}{vs:List V}{Q:VK} (R:Rel K B ρ σ F H) (pv:Rps K F vs ds) (s0:Stp F0 H0 F H)
  (q:(f ds).all (fun es=>∀ a h F' H',Stp F0 H0 F' H'→F' a=none→H0 a=none→H' a=some h→Ro K F' a h (.l es)→Q (.ref a) H') (ErrK K xq B ρ σ)):spN K f vs H Q (fun u _ H'=>∃ a,u=.ref a∧xq (.ref a) σ H') :=
 ⟨F,ds,R.fh,pv,Res.all_mono q (fun es k a h F' H' st n1 n2 e1 r1=>k a h F' H' (s0.trans st) n1 (s0.hh.free n2) e1 r1) fun x k a F' H' st p=>⟨a,rfl,errR R st p k⟩⟩
def CalleeN (P:Program) (w:World) (K:W.Frag) (mg:MG) (base:Heap) (k:Nat) (x:Str) (ps:List Str) (f:List D→Res (List D)):Prop :=
 ∃ a fd,FnOk P w K mg base (CXe P w) k a fd ps (spN K f)∧Binds K fd ps []∧W.keepIn K (.ref a)=true∧mg x=some (.ref a)
theorem dn_fn {P:Program}{w:World}{K:W.Frag}{mg:MG}{base:Heap}{k k':Nat}{ps:List Str}{f:List D→Res (List D)} (hq:XqOk X xq) (h:CalleeN P w K mg base k x ps f) (hr:Room k' X.A) (ha:DA X xq (e::es) fs) (hk:k≤k':=by decide) (hg:Gl X x:=by rfl)
  (eP:X.prog=P:=by rfl) (ew:X.w=w:=by rfl) (eK:X.K=K:=by rfl) (em:X.mg=mg:=by rfl) (eb:X.base=base:=by rfl) (hdb:(x==("__debug__":Str))=false:=by decide):DN X xq (.Call (.Name x p) (e::es) [] pos) (fun ρ=>(fs ρ).bind fun ds=>(f ds).bind fun es=>.ok (.l es)) :=
 ⟨fun pins s σ H Q I z9=>un5 z9 fun B F ρ R q=>by
  subst eP ew eK em eb
  obtain ⟨a,fd,G,hb,hkp,hm⟩:=h
  refine wpAny_Call_Name_kw (u2h I hg hm ?_ hdb)
  refine W.callWith_K (h₀:=X.base) I.ok.mod.kin hkp (thn (ha.out pos pins s σ H _ I (seqA R q fun ds vs F1 H1 s1 R1 p1 q1=>show spN X.K f (vs++[]) H1 Q (fun u _ H'=>∃ a,u=.ref a∧xq (.ref a) σ H') from by rw [List.append_nil];exact v1o R1 p1 s1 (Res.all_bind.mp q1))) fun us s1 ⟨vs,H1,I1,r,q⟩=>⟨I1.kIn,?_⟩) (u0k (u0h ha.ns).1) (u0D (u0h ha.ns).2)
  exact u3w hq G (hr.mono hk) hb .nil I1 r q⟩
def MCalleeN (P:Program) (w:World) (K:W.Frag) (mg:MG) (base:Heap) (k:Nat) (C:Addr) (m:Str) (ps:List Str) (f:List D→Res (List D)):Prop :=
 ∃ a fd,Cls K C∧Meth K C m a∧FnOk P w K mg base (CXe P w) k a fd ps (spN K f)∧Binds K fd ps []
theorem MCalleeN.mx {P:Program}{w:World}{K:W.Frag}{mg:MG}{base:Heap}{k:Nat}{C:Addr}{m:Str}{ps:List Str}{f:List D→Res (List D)} (h:MCalleeN P w K mg base k C m ps f):MCallee P w K mg base k C m ps (asLs f) :=
 let ⟨a,fd,c,hm,G,hb⟩:=h;⟨a,fd,c,hm,G.imp spN_X,hb⟩
end
noncomputable def runN (n m:Nat) (t:Rho→OutN) (ds:List D):Res (List D):=if ds.length=m then (match t (startD n ds) with | .rn es=>.ok es | .er x _=>.err x | .bad=>.bad) else .bad
section
variable {P:Program}{w:World}{K:W.Frag}{mg:MG}{base:Heap}
theorem Fun.okN {x qual:Str}{st:Stmt}{f:Addr}{fd:FuncData}{N ps:List Str}{k:Nat}{t:Rho→OutN} (F:Fun K x qual st f fd) (S:FnScope N ps (defScope st))
  (hbody:∀ (cdv:Value) (A:Around) (outer:List Env) (s:Shared) (H:Hp) (E:XK),Room k (A.deeper (envOfC qual (defScope st) s.heap.objs.size f cdv))→XqOk (cxR P w K mg base N qual (defScope st) f cdv A outer s H E) (xq0 E) →
   DRB (cxR P w K mg base N qual (defScope st) f cdv A outer s H E) (xq0 E) (defBody st) t):FnOk P w K mg base (CXe P w) (k+1) f fd ps (spN K (runN N.length ps.length t)):=by
 obtain ⟨oc,od,kV,doc,pm,an,cdv,ct,osl,rfl,lk,hcd⟩:=F.ex
 refine fn_of lk hcd S (fun vs H Q E h=>?_) fun A outer s H vs Q E hr hsp=>?_
 ·obtain ⟨G,ds,fh,r,q⟩:=h
  rw [r.length]
  unfold runN at q
  split at q
  ·assumption
  ·exact q.elim
 ·obtain ⟨G,ds,fh,r,q⟩:=hsp
  have hst:(cxOf (CXe P w) P w K mg base N qual (defScope st) f cdv A outer s H E).stack=(cxOf (CXe P w) P w K mg base N qual (defScope st) f cdv A outer s H E).env::(cxOf (CXe P w) P w K mg base N qual (defScope st) f cdv A outer s H E).outer∧(cxOf (CXe P w) P w K mg base N qual (defScope st) f cdv A outer s H E).env.frame=some (cxOf (CXe P w) P w K mg base N qual (defScope st) f cdv A outer s H E).env.locals:=⟨rfl,rfl⟩
  have h1:=hbody cdv A outer s H E hr (u3l hst)
  refine ⟨_,PSs.wishTo h1.out ?_,(G,H),G,_,r.begin fh,⟨?_⟩⟩
  ·rintro u s' ⟨n,e,C,d,σ,H',fl,o,rfl,I,hx,tb,hfl,q⟩
   refine u7j I hst o hx tb hfl fun s2 I2 tr=>?_
   exact ⟨e,C,d,H',rfl,I2.os,I2.bare,I2.base,I2.hok,hx,tr.tb.mono o.s0,q e rfl⟩
  ·unfold runN at q
   split at q
   ·generalize t (startD N.length ds)=o at q
    cases o with
    | rn es=>exact q
    | er x ρ=>exact fun v σ F' H' R pv a ea=>by subst ea;exact q a F' H' R.st pv
    | bad=>exact q.elim
   ·exact q.elim
end
end L2
namespace L2
open PySem PySem.Spec PyProof.Rows
section
variable {X:Cx}{xq:XQ}{a b e:Expr}{fa fb fe:Rho→Res D}{pos:Pos}
end
variable {X:Cx}{xq:XQ}
variable {X:Cx}{xq:XQ}
theorem u6n {K:W.Frag}{F:Hp}{v:V}{d:D}:∀ {xs:List V}{ds:List D} (j:Nat),Rps K F xs ds→Rp K F v d→Rps K F (xs.set j v) (ds.set j d)
 | _,_,_,.nil,_=>.nil
 | _,_,0,.cons _ hs,h=>.cons h hs
 | _,_,j+1,.cons h0 hs,h=>.cons h0 (u6n j hs h)
section
variable {X:Cx}{xq:XQ}{i value:Expr}{fi fv:Rho→Res D}{pos:Pos}
noncomputable def setI (ρ:Rho) (j:Nat) (ds:List D) (d:D):D→Out
 | .int k=>match ixN ds.length k with
  | some n=>.nx (ρ.set j (some (.own (.l (ds.set n d)))))
  | none=>.bad
 | _=>.bad
end
section
variable {X:Cx}{xq:XQ}{e:Expr}{es:List Expr}{fe:Rho→Res D}{pos:Pos}
noncomputable def dAddT:D→D→Res D
 | .tup xs,.tup ys=>gd (1≤xs.length∧xs.length+ys.length≤sizeLine) (.ok (.tup (xs++ys)))
 | _,_=>.bad
theorem o_addT:OpR X (binaryOp .Add) (rD X.K dAddT):=by
 intro pins s σ H x y v u Q I rx ry ⟨F,dx,dy,fh,px,py,q⟩
 unfold dAddT at q
 split at q
 ·rename_i xs ys
  obtain ⟨⟨h1,h2⟩,q⟩:=u3L q
  cases px with
  | tup hx rx' =>
   cases py with
   | tup hy ry' =>
    refine op_catT pins s σ H _ _ v u Q I rx ry ⟨_,_,_,_,rfl,rfl,fh.seqT hx,fh.seqT hy,fun z=>?_,by rw [rx'.length,ry'.length];exact h2,fun e=>?_,fun _ p n=>?_⟩
    ·have:=rx'.length
     rw [z] at this
     simp at this
     omega
    ·have e2:ys=[]:=by
      have:=ry'.length
      rw [e] at this
      exact List.length_eq_zero_iff.mp this.symm
     subst e2
     rw [List.append_nil] at q
     exact q _ F H (Stp.refl fh) (.tup hx rx')
    ·exact q _ _ _ (Stp.new fh n) (.tup (.inl (.inl u0g)) ((rx'.append ry').same (Stp.new fh n).ff))
 ·exact q.elim
end
noncomputable def shS:Sl→Option D
 | .val d=>some d
 | .own _=>none
noncomputable def shp (ρ:Rho):List (Option (Option D)):=ρ.map (Option.map shS)
theorem u1I (ρ:Rho) (i:Nat):(shp ρ)[i]?=(ρ[i]?).map (Option.map shS):=by unfold shp;rw [List.getElem?_map]
theorem u3m {ρ ρ':Rho} (h:shp ρ'=shp ρ) {i:Nat}{o:OD} (e:ρ[i]?=some (some (.own o))):∃ o',ρ'[i]?=some (some (.own o')):=by
 have z:(shp ρ')[i]?=(shp ρ)[i]?:=by rw [h]
 rw [u1I,u1I,e] at z
 cases q:ρ'[i]? with
 | none=>rw [q] at z;cases z
 | some y =>
  rw [q] at z
  cases y with
  | none=>cases z
  | some s =>
   cases s with
   | val d=>cases z
   | own o'=>exact ⟨o',rfl⟩
def NotOwn (ρ:Rho) (σ:St) (b:Addr):Prop:=∀ (i:Nat) o,ρ[i]?=some (some (.own o))→σ[i]?≠some (some (.ref b))
theorem NotOwn.of {ρ ρ':Rho}{σ:St}{b:Addr} (h:shp ρ'=shp ρ) (n:NotOwn ρ σ b):NotOwn ρ' σ b:=fun i o e=>let ⟨o',e'⟩:=u3m h.symm e;n i o' e'
structure Mv (K:W.Frag) (B:Hp×Hp) (ρ:Rho) (σ:St) (F H:Hp) (ρ':Rho) (F' H':Hp):Prop where
 rel:Rel K B ρ' σ F' H'
 sh:shp ρ'=shp ρ
 ff:Same F F'
 hh:∀ b o,NotOwn ρ σ b→H b=some o→H' b=some o
 no:∀ b,F b=none→H b≠none→F' b=none
section
variable {K:W.Frag}{B:Hp×Hp}{ρ ρ' ρ1 ρ2:Rho}{σ:St}{F H F' H' F1 H1 F2 H2:Hp}
theorem Mv.refl (R:Rel K B ρ σ F H):Mv K B ρ σ F H ρ F H:=⟨R,rfl,Same.refl F,fun _ _ _ e=>e,fun _ n _=>n⟩
theorem Mv.step (m:Mv K B ρ σ F H ρ1 F1 H1) (s:Stp F1 H1 F2 H2):Mv K B ρ σ F H ρ1 F2 H2 where
 rel:=m.rel.step s
 sh:=m.sh
 ff:=m.ff.trans s.ff
 hh b o n e:=s.hh b o (m.hh b o n e)
 no b n e:=by
  refine s.no b (m.no b n e) ?_
  by_cases q:NotOwn ρ σ b
  ·cases z:H b with
   | none=>exact absurd z e
   | some o=>rw [m.hh b o q z];simp
  ·unfold NotOwn at q
   simp only [Classical.not_forall] at q
   obtain ⟨i,o,e1,e2⟩:=q
   obtain ⟨o',e3⟩:=u3m m.sh e1
   obtain ⟨a,h,p1,p2,p3,p4,p5⟩:=m.rel.own i o' e3
   have e2:σ[i]?=some (some (.ref b)):=Classical.not_not.mp e2
   rw [e2] at p1;cases p1;rw [p4];simp
theorem Mv.of (R:Rel K B ρ σ F H) (s:Stp F H F' H'):Mv K B ρ σ F H ρ F' H':=(Mv.refl R).step s
theorem Mv.dom (m:Mv K B ρ σ F H ρ1 F1 H1) {b:Addr} (e:H b≠none):H1 b≠none:=by
 by_cases q:NotOwn ρ σ b
 ·cases z:H b with
  | none=>exact absurd z e
  | some o=>rw [m.hh b o q z];simp
 ·unfold NotOwn at q
  simp only [Classical.not_forall] at q
  obtain ⟨i,o,e1,e2⟩:=q
  obtain ⟨o',e3⟩:=u3m m.sh e1
  obtain ⟨a,h,p1,p2,p3,p4,p5⟩:=m.rel.own i o' e3
  have e2:σ[i]?=some (some (.ref b)):=Classical.not_not.mp e2
  rw [e2] at p1;cases p1;rw [p4];simp
theorem Mv.free (m:Mv K B ρ σ F H ρ1 F1 H1) {b:Addr} (e:H1 b=none):H b=none:=by
 cases z:H b with
 | none=>rfl
 | some o=>exact absurd e (m.dom (by rw [z];simp))
theorem Mv.trans (x:Mv K B ρ σ F H ρ1 F1 H1) (y:Mv K B ρ1 σ F1 H1 ρ2 F2 H2):Mv K B ρ σ F H ρ2 F2 H2 :=
 ⟨y.rel,y.sh.trans x.sh,x.ff.trans y.ff,fun b o n e=>y.hh b o (n.of x.sh) (x.hh b o n e),fun b n e=>y.no b (x.no b n e) (x.dom e)⟩
end
def liftX (K:W.Frag) (f:Rho→Res (D×Rho)):TE:=fun σ H Q=>∃ B F ρ,Rel K B ρ σ F H ∧
 (f ρ).all (fun r=>∀ v F' H',Mv K B ρ σ F H r.2 F' H'→Rp K F' v r.1→Q v H') (fun _=>False)
def liftXN (K:W.Frag) (f:Rho→Res (OD×Rho)):TE:=fun σ H Q=>∃ B F ρ,Rel K B ρ σ F H ∧
 (f ρ).all (fun r=>∀ a h F' H',Mv K B ρ σ F H r.2 F' H'→F' a=none→H a=none→H' a=some h→Ro K F' a h r.1→Q (.ref a) H') (fun _=>False)
def liftXI (K:W.Frag) (f:Rho→Res (List D×Rho)):TI:=fun σ H R=>∃ B F ρ,Rel K B ρ σ F H ∧
 (f ρ).all (fun r=>∀ J F' H',Mv K B ρ σ F H r.2 F' H'→Feed K F' J r.1→R J H') (fun _=>False)
inductive Ag where
 | v (d:D) | o (j:Nat)
inductive Agr (K:W.Frag) (F:Hp) (σ:St):List V→List Ag→Prop
 | nil:Agr K F σ [] []
 | v {x:V}{d:D}{xs:List V}{as:List Ag}:Rp K F x d→Agr K F σ xs as→Agr K F σ (x::xs) (.v d::as)
 | o {x:V}{j:Nat}{xs:List V}{as:List Ag}:σ[j]?=some (some x)→Agr K F σ xs as→Agr K F σ (x::xs) (.o j::as)
def liftXA (K:W.Frag) (f:Rho→Res (List Ag×Rho)):TA:=fun σ H Q=>∃ B F ρ,Rel K B ρ σ F H ∧
 (f ρ).all (fun r=>∀ vs F' H',Mv K B ρ σ F H r.2 F' H'→Agr K F' σ vs r.1→Q vs H') (fun _=>False)
structure DX (X:Cx) (e:Expr) (f:Rho→Res (D×Rho)):Prop where
 out:PE X e (liftX X.K f)
structure DXN (X:Cx) (e:Expr) (f:Rho→Res (OD×Rho)):Prop where
 out:PE X e (liftXN X.K f)
structure DXI (X:Cx) (tg iter:Expr) (f:Rho→Res (List D×Rho)):Prop where
 out:PI X tg iter (liftXI X.K f)
structure DXA (X:Cx) (es:List Expr) (f:Rho→Res (List Ag×Rho)):Prop where
 out:PA X es (liftXA X.K f)
 ns:es.all notStar=true
section
variable {K:W.Frag}{B:Hp×Hp}{ρ ρ2:Rho}{σ:St}{F H F' H' F2 H2:Hp}
theorem seqX {α:Type}{fa:Rho→Res (D×Rho)}{g:D×Rho→Res α}{P:α→Prop}{T:VK} (R:Rel K B ρ σ F H) (h:((fa ρ).bind g).all P (fun _=>False))
  (k:∀ r v F' H',Mv K B ρ σ F H r.2 F' H'→Rp K F' v r.1→(g r).all P (fun _=>False)→T v H'):liftX K fa σ H T :=
 ⟨B,F,ρ,R,Res.all_mono (Res.all_bind.mp h) (fun r h' v F' H' m p=>k r v F' H' m p h') (fun _ e=>e)⟩
theorem seqXA {α:Type}{fa:Rho→Res (List Ag×Rho)}{g:List Ag×Rho→Res α}{P:α→Prop}{T:List V→Hp→Prop} (R:Rel K B ρ σ F H) (h:((fa ρ).bind g).all P (fun _=>False))
  (k:∀ r v F' H',Mv K B ρ σ F H r.2 F' H'→Agr K F' σ v r.1→(g r).all P (fun _=>False)→T v H'):liftXA K fa σ H T :=
 ⟨B,F,ρ,R,Res.all_mono (Res.all_bind.mp h) (fun r h' v F' H' m p=>k r v F' H' m p h') (fun _ e=>e)⟩
theorem doneX {r:Res D}{Q:VK} (m:Mv K B ρ σ F H ρ2 F2 H2) (h:((noE r).bind fun d=>.ok (d,ρ2)).all (fun r:D×Rho=>∀ v F' H',Mv K B ρ σ F H r.2 F' H'→Rp K F' v r.1→Q v H') (fun _=>False)) :
  r.all (fun d=>∀ v F' H',Stp F2 H2 F' H'→Rp K F' v d→Q v H') (fun _=>False):=by
 cases r with
 | ok d=>exact fun v F' H' s p=>h v F' H' (m.step s) p
 | err x=>exact h
 | bad=>exact h
end
section
variable {X:Cx}{xq:XQ}{a b c e:Expr}{es:List Expr}{fa fb fx:Rho→Res (D×Rho)}{fe:Rho→Res D}{fs:Rho→Res (List Ag×Rho)}{pos pos' p apos cpos:Pos}{x:Str}
theorem DX.of {t:TE} (h:PE X e t) (k:∀ B F ρ σ H Q,Rel X.K B ρ σ F H→(fx ρ).all (fun r=>∀ v F' H',Mv X.K B ρ σ F H r.2 F' H'→Rp X.K F' v r.1→Q v H') (fun _=>False)→t σ H Q):DX X e fx :=
 ⟨fun pins s σ H Q I z9=>un5 z9 fun B F ρ R q=>h pins s σ H Q I (k B F ρ σ H Q R q)⟩
theorem u1B (h:DE X xq e fe):DX X e (fun ρ=>(noE (fe ρ)).bind fun d=>.ok (d,ρ)) :=
 DX.of h.out fun B F ρ σ H Q R q=>⟨B,F,ρ,R,u1L (Res.all_mono (Res.all_bind.mp q) (fun d q v F' H' s p=>q v F' H' (Mv.of R s) p) fun _ z=>z)⟩
theorem x_ixX {g:D→D→Res D} (ho:IxR X (rD X.K g)) (ha:DX X a fa) (hb:DX X b fb) (hs:PlainIx b:=by intro _ _;rfl):DX X (.Subscript a b pos) (fun ρ=>(fa ρ).bind fun x=>(fb x.2).bind fun y=>(noE (g x.1 y.1)).bind fun d=>.ok (d,y.2)) :=
 DX.of (pe_ix ho ha.out hb.out hs) fun B F ρ σ H Q R q=>seqX R q fun x v F1 H1 m1 p1 q1=>seqX m1.rel q1 fun y v2 F2 H2 m2 p2 q2 =>
  ⟨F2,x.1,y.1,m2.rel.fh,p1.same m2.ff,p2,doneX (m1.trans m2) q2⟩
theorem u2m:DXA X [] (fun ρ=>.ok ([],ρ)):=⟨fun pos pins s σ H Q I z9=>un5 z9 fun B F ρ R q=>u2Z pos pins s σ H Q I (q [] F H (Mv.refl R) .nil),rfl⟩
theorem u1r (ha:DX X e fx) (hr:DXA X es fs) (hs:notStar e=true:=by rfl):DXA X (e::es) (fun ρ=>(fx ρ).bind fun d=>(fs d.2).bind fun r=>.ok (.v d.1::r.1,r.2)) :=
 ⟨fun pos pins s σ H Q I z9=>un5 z9 fun B F ρ R q=>pac ha.out hr.out hs pos pins s σ H Q I (seqX R q fun d v F1 H1 m1 p1 q1=>seqXA m1.rel q1 fun r vs F2 H2 m2 p2 q2 =>
  q2 (v::vs) F2 H2 (m1.trans m2) (.v (p1.same m2.ff) p2)),by rw [List.all_cons,hs,hr.ns];rfl⟩
noncomputable def isOwnR (ρ:Rho) (j:Nat):Bool:=match ρ[j]? with
 | some (some (.own _))=>true
 | _=>false
theorem u9g {ρ:Rho}{j:Nat} (h:isOwnR ρ j=true):∃ o,ρ[j]?=some (some (.own o)):=by
 unfold isOwnR at h
 split at h
 ·rename_i o e;exact ⟨o,e⟩
 ·cases h
theorem u2X (j:Nat) (hr:DXA X es fs) (hN:X.N[j]?=some x:=by rfl) (hv:Vis X.env.scope x:=by first | exact Or.inl rfl | exact Or.inr (Or.inl rfl) | exact Or.inr (Or.inr rfl)) (hd:(x==("__debug__":Str))=false:=by decide)
  (hcd:(x==("__classdict__":Str))=false:=by decide):DXA X (.Name x pos::es) (fun ρ=>if isOwnR ρ j=true then (fs ρ).bind fun r=>.ok (.o j::r.1,r.2) else .bad) :=
 ⟨fun pos pins s σ H Q I z9=>un5 z9 fun B F ρ R q=>pac (u1i hN hv hd hcd) hr.out rfl pos pins s σ H Q I (by
  dsimp only at q
  by_cases w:isOwnR ρ j=true
  ·rw [if_pos w] at q
   obtain ⟨o,e⟩:=u9g w
   obtain ⟨a,h,p1,p2⟩:=R.own j o e
   exact ⟨.ref a,p1,seqXA R q fun r vs F2 H2 m2 g2 q2=>q2 (.ref a::vs) F2 H2 m2 (.o p1 g2)⟩
  ·rw [if_neg w] at q;exact q.elim),by rw [List.all_cons,hr.ns];rfl⟩
noncomputable def agv:List Ag→Res (List D)
 | []=>.ok []
 | .v d::as=>(agv as).bind fun ds=>.ok (d::ds)
 | _=>.bad
theorem u6N {K:W.Frag}{F:Hp}{σ:St}:∀ {vs:List V}{as:List Ag}{ds:List D},Agr K F σ vs as→agv as=.ok ds→Rps K F vs ds
 | _,_,_,.nil,e=>by cases e;exact .nil
 | _,_,_,.v (as:=as) h hs,e=>by
  rw [agv] at e
  cases q:agv as with
  | ok es=>rw [q] at e;cases e;exact .cons h (u6N hs q)
  | err x=>rw [q] at e;cases e
  | bad=>rw [q] at e;cases e
 | _,_,_,.o _ _,e=>by cases e
theorem u8k (hm:X.mg "range"=none) (ha:DXA X [a] fs) (hg:Gl X "range":=by rfl) {tg:Expr}:DXI X tg (.Call (.Name "range" p) [a] [] pos) (fun ρ=>(fs ρ).bind fun r=>(noE (agv r.1)).bind fun ds=>(noE (rng1 ds)).bind fun l=>.ok (l,r.2)) :=
 ⟨fun pins s σ H R I z9=>un5 z9 fun B F ρ R' q=>u5s hg hm ha.out (u0k (u0h ha.ns).1) pins s σ H R I (seqXA R' q fun r vs F1 H1 m1 p1 q1=>by
  cases w:agv r.1 with
  | err x=>rw [w] at q1;exact q1.elim
  | bad=>rw [w] at q1;exact q1.elim
  | ok ds =>
   rw [w] at q1
   replace q1:((noE (rng1 ds)).bind _).all _ _:=q1
   have p2:=u6N p1 w
   unfold rng1 at q1
   split at q1
   ·rename_i j
    by_cases c:-(2^62)≤j∧j<2^62
    ·rw [u0F c] at q1
     obtain ⟨v,rfl,pv⟩:=rps1 p2
     cases pv
     exact ⟨j,rfl,c.1,c.2,q1 _ F1 H1 m1 (Feed.rng 0 _)⟩
    ·unfold gd at q1;rw [if_neg c] at q1;exact q1.elim
   ·exact q1.elim)⟩
end
section
variable {K:W.Frag}{B:Hp×Hp}{ρ ρ1:Rho}{σ σ2:St}{F H F' H':Hp}{k i:Nat}{outs:List Nat}{d:D}
end
section
variable {X:Cx}{xq:XQ}{tg iter elt:Expr}{fe:Rho→Res (D×Rho)}{fi:Rho→Res (List D×Rho)}{scope:Scope}{pos:Pos}
theorem Mv.keep {K:W.Frag}{B:Hp×Hp}{ρ ρ1:Rho}{σ:St}{F H F' H':Hp}{a:Addr}{hh:HO} (R:Rel K B ρ σ F H) (m:Mv K B ρ σ F H ρ1 F' H') (n1:F' a=none) (n2:H a=none) (e1:H' a=some hh):Mv K B ρ σ F H ρ1 (upd F' a hh) H':=by
 have sf:Same F' (upd F' a hh):=u0e n1
 have un:∀ {b:Addr},b≠a→F' b=none→upd F' a hh b=none:=fun z n=>by unfold upd;rw [if_neg z];exact n
 refine ⟨⟨⟨m.rel.st.ff.trans sf,fun b u x=>?_,m.rel.st.hh,fun b x y=>un (fun z=>?_) (m.rel.st.no b x y)⟩,m.rel.len,fun j d e=>?_,fun j o e=>?_,m.rel.dis⟩,m.sh,m.ff.trans sf,m.hh,fun b n e=>un (fun z=>e (z ▸ n2)) (m.no b n e)⟩
 ·unfold upd at x
  by_cases z:b=a
  ·rw [if_pos z] at x;cases x;subst z;exact e1
  ·rw [if_neg z] at x;exact m.rel.st.fh b u x
 ·subst z;exact y (R.st.hh.free n2)
 ·obtain ⟨v,p1,p2⟩:=m.rel.val j d e;exact ⟨v,p1,p2.same sf⟩
 ·obtain ⟨b,h,p1,p2,p3,p4,p5⟩:=m.rel.own j o e
  obtain ⟨o',e'⟩:=u3m m.sh.symm e
  obtain ⟨c,h',g1,g2,g3,g4,g5⟩:=R.own j o' e'
  rw [p1] at g1;cases g1
  exact ⟨b,h,p1,un (fun z=>by subst z;rw [n2] at g4;cases g4) p2,p3,p4,Ro.same sf p5⟩
theorem DXN.de {e:Expr}{f:Rho→Res (OD×Rho)} (h:DXN X e f):DX X e (fun ρ=>(f ρ).bind fun r=>.ok (r.1.toD,r.2)) :=
 DX.of h.out fun B F ρ σ H Q R q=>⟨B,F,ρ,R,Res.all_mono (Res.all_bind.mp q) (fun r q1 a hh F' H' m n1 n2 e1 r1=>q1 _ _ _ (m.keep R n1 n2 e1) ((Ro.same (u0e n1) r1).rp u0g)) fun _ z=>z⟩
end
def spM (K:W.Frag) (g:List Sl→Res (D×List Sl)):Sp:=fun vs H Q E=>∃ (F hb:Hp) (sl:List Sl),Rel K (F,hb) (sl.map some) (vs.map some) F H∧(∀ b o,NotOwn (sl.map some) (vs.map some) b→H b=some o→hb b=some o) ∧
 (g sl).all (fun r=>∀ v F' H',Mv K (F,hb) (sl.map some) (vs.map some) F H (r.2.map some) F' H'→Rp K F' v r.1→Q v H') (fun _=>False)
noncomputable def unp:OD→OD
 | .p _ o=>o
 | o=>o
noncomputable def repO (o0 o:OD):OD:=match o0 with
 | .p a _=>.p a o
 | _=>o
theorem Ro.unp {K:W.Frag}{F:Hp}{a:Addr}{h:HO}{o:OD} (r:Ro K F a h o):Ro K F a h (L2.unp o):=by
 cases r with
 | p r=>exact r
 | l r=>exact .l r
 | d r=>exact .d r
 | i r=>exact .i r
 | n r=>exact .n r
theorem Ro.rep {K:W.Frag}{F F':Hp}{a:Addr}{h h':HO}{o0 o:OD} (r0:Ro K F a h' o0) (r:Ro K F' a h o):Ro K F' a h (repO o0 o):=by
 cases r0 with
 | p _=>exact .p r
 | l _=>exact r
 | d _=>exact r
 | i _=>exact r
 | n _=>exact r
noncomputable def slAll (ρ:Rho):List Ag→Res (List Sl)
 | []=>.ok []
 | .v d::as=>(slAll ρ as).bind fun s=>.ok (.val d::s)
 | .o j::as=>match ρ[j]? with
  | some (some (.own o))=>(slAll ρ as).bind fun s=>.ok (.own (unp o)::s)
  | _=>.bad
noncomputable def agO:List Ag→List Nat
 | []=>[]
 | .v _::as=>agO as
 | .o j::as=>j::agO as
noncomputable def slOf (ρ:Rho) (as:List Ag):Res (List Sl):=gd (agO as).Nodup (slAll ρ as)
noncomputable def putB:List Ag→List Sl→Rho→Rho
 | .o j::as,.own o::ss,ρ=>putB as ss (match ρ[j]? with
  | some (some (.own o0))=>ρ.set j (some (.own (repO o0 o)))
  | _=>ρ)
 | _::as,_::ss,ρ=>putB as ss ρ
 | _,_,ρ=>ρ
theorem u8u {ρ:Rho}:∀ {as:List Ag}{sl:List Sl}{i:Nat}{d:D},slAll ρ as=.ok sl→sl[i]?=some (.val d)→as[i]?=some (.v d)
 | [],sl,i,d,h,e=>by cases h;cases e
 | .v d'::as,sl,i,d,h,e=>by
  rw [slAll] at h
  cases q:slAll ρ as with
  | ok s =>
   rw [q] at h;cases h
   cases i with
   | zero=>simp at e;simp [e]
   | succ i=>simpa using u8u q (by simpa using e)
  | err x=>rw [q] at h;cases h
  | bad=>rw [q] at h;cases h
 | .o j::as,sl,i,d,h,e=>by
  rw [slAll] at h
  split at h
  ·cases q:slAll ρ as with
   | ok s =>
    rw [q] at h;cases h
    cases i with
    | zero=>simp at e
    | succ i=>simpa using u8u q (by simpa using e)
   | err x=>rw [q] at h;cases h
   | bad=>rw [q] at h;cases h
  ·cases h
theorem u4h {ρ:Rho}:∀ {as:List Ag}{sl:List Sl}{i:Nat}{o:OD},slAll ρ as=.ok sl→sl[i]?=some (.own o)→∃ j o0,as[i]?=some (.o j)∧ρ[j]?=some (some (.own o0))∧o=unp o0
 | [],sl,i,d,h,e=>by cases h;cases e
 | .v d'::as,sl,i,o,h,e=>by
  rw [slAll] at h
  cases q:slAll ρ as with
  | ok s =>
   rw [q] at h;cases h
   cases i with
   | zero=>simp at e
   | succ i=>simpa using u4h q (by simpa using e)
  | err x=>rw [q] at h;cases h
  | bad=>rw [q] at h;cases h
 | .o j::as,sl,i,o,h,e=>by
  rw [slAll] at h
  split at h
  ·rename_i o0 e0
   cases q:slAll ρ as with
   | ok s =>
    rw [q] at h;cases h
    cases i with
    | zero=>simp at e;exact ⟨j,o0,by simp,e0,e.symm⟩
    | succ i=>simpa using u4h q (by simpa using e)
   | err x=>rw [q] at h;cases h
   | bad=>rw [q] at h;cases h
  ·cases h
theorem u9Y {ρ:Rho}:∀ {as:List Ag}{sl:List Sl}{i j:Nat},slAll ρ as=.ok sl→as[i]?=some (.o j)→∃ o0,sl[i]?=some (.own (unp o0))∧ρ[j]?=some (some (.own o0))
 | [],sl,i,d,h,e=>by cases e
 | .v d'::as,sl,i,j,h,e=>by
  rw [slAll] at h
  cases q:slAll ρ as with
  | ok s =>
   rw [q] at h;cases h
   cases i with
   | zero=>simp at e
   | succ i=>simpa using u9Y q (by simpa using e)
  | err x=>rw [q] at h;cases h
  | bad=>rw [q] at h;cases h
 | .o j'::as,sl,i,j,h,e=>by
  rw [slAll] at h
  split at h
  ·rename_i o0 e0
   cases q:slAll ρ as with
   | ok s =>
    rw [q] at h;cases h
    cases i with
    | zero=>simp at e;subst e;exact ⟨o0,by simp,e0⟩
    | succ i=>simpa using u9Y q (by simpa using e)
   | err x=>rw [q] at h;cases h
   | bad=>rw [q] at h;cases h
  ·cases h
theorem u8v {ρ:Rho}:∀ {as:List Ag}{sl:List Sl},slAll ρ as=.ok sl→sl.length=as.length
 | [],sl,h=>by cases h;rfl
 | .v d'::as,sl,h=>by
  rw [slAll] at h
  cases q:slAll ρ as with
  | ok s=>rw [q] at h;cases h;simp [u8v q]
  | err x=>rw [q] at h;cases h
  | bad=>rw [q] at h;cases h
 | .o j::as,sl,h=>by
  rw [slAll] at h
  split at h
  ·cases q:slAll ρ as with
   | ok s=>rw [q] at h;cases h;simp [u8v q]
   | err x=>rw [q] at h;cases h
   | bad=>rw [q] at h;cases h
  ·cases h
theorem u3T:∀ {as:List Ag}{j:Nat},j∈agO as↔Ag.o j∈as
 | [],j=>by simp [agO]
 | .v d::as,j=>by simp [agO,u3T (as:=as)]
 | .o i::as,j=>by simp [agO,u3T (as:=as)]
theorem u6O:∀ {as:List Ag}{i i' j:Nat},(agO as).Nodup→as[i]?=some (Ag.o j)→as[i']?=some (Ag.o j)→i=i'
 | [],_,_,_,_,e,_=>by cases e
 | .v d::as,i,i',j,n,e,e'=>by
  cases i with
  | zero=>simp at e
  | succ i =>
   cases i' with
   | zero=>simp at e'
   | succ i'=>exact congrArg (·+1) (u6O (as:=as) n (by simpa using e) (by simpa using e'))
 | .o k::as,i,i',j,n,e,e'=>by
  have n:=List.nodup_cons.mp n
  have nm:∀ t,as[t]?=some (Ag.o j)→j≠k:=fun t h z=>n.1 (by subst z;exact u3T.mpr (List.mem_of_getElem? h))
  cases i with
  | zero =>
   simp at e
   cases i' with
   | zero=>rfl
   | succ i'=>exact absurd e.symm (nm i' (by simpa using e'))
  | succ i =>
   cases i' with
   | zero=>simp at e';exact absurd e'.symm (nm i (by simpa using e))
   | succ i'=>exact congrArg (·+1) (u6O (as:=as) n.2 (by simpa using e) (by simpa using e'))
theorem u2r {j:Nat}:∀ {as:List Ag}{ss:List Sl}{ρ:Rho},Ag.o j∉as→(putB as ss ρ)[j]?=ρ[j]?
 | [],_,_,_=>by simp [putB]
 | _::_,[],_,_=>by simp [putB]
 | .v d::as,s::ss,ρ,h=>by rw [putB];exact u2r (fun m=>h (List.mem_cons_of_mem _ m));exact fun _ _ e=>by cases e
 | .o i::as,.val d::ss,ρ,h=>by rw [putB];exact u2r (fun m=>h (List.mem_cons_of_mem _ m));exact fun _ _ _ e=>by cases e
 | .o i::as,.own o::ss,ρ,h=>by
  rw [putB,u2r (fun m=>h (List.mem_cons_of_mem _ m))]
  split
  ·exact u0x fun e=>h (by simp [e])
  ·rfl
theorem u4E {j:Nat}{o o0:OD}:∀ {as:List Ag}{ss:List Sl}{ρ:Rho}{i:Nat},(agO as).Nodup→as[i]?=some (Ag.o j)→ss[i]?=some (.own o)→ρ[j]?=some (some (.own o0))→(putB as ss ρ)[j]?=some (some (.own (repO o0 o)))
 | [],_,_,_,_,e,_,_=>by cases e
 | _::_,[],_,_,_,_,e,_=>by cases e
 | .v d::as,s::ss,ρ,i,n,e,e',q=>by
  cases i with
  | zero=>simp at e
  | succ i=>rw [putB];exact u4E (as:=as) n (by simpa using e) (by simpa using e') q;exact fun _ _ e=>by cases e
 | .o k::as,.val d::ss,ρ,i,n,e,e',q=>by
  have n:=List.nodup_cons.mp n
  cases i with
  | zero=>simp at e'
  | succ i=>rw [putB];exact u4E (as:=as) n.2 (by simpa using e) (by simpa using e') q;exact fun _ _ _ e=>by cases e
 | .o k::as,.own u::ss,ρ,i,n,e,e',q=>by
  have n:=List.nodup_cons.mp n
  cases i with
  | zero =>
   simp at e e'
   subst e e'
   rw [putB,u2r (fun m=>n.1 (u3T.mpr m)),q]
   exact u4i (List.getElem?_eq_some_iff.mp q).1
  | succ i =>
   have hk:j≠k:=fun z=>n.1 (by subst z;exact u3T.mpr (List.mem_of_getElem? (by simpa using e)))
   rw [putB]
   refine u4E (as:=as) n.2 (by simpa using e) (by simpa using e') ?_
   split
   ·rw [u0x hk];exact q
   ·exact q
theorem u3j:∀ {as:List Ag}{ss:List Sl}{ρ:Rho},(putB as ss ρ).length=ρ.length
 | [],_,_=>by simp [putB]
 | _::_,[],_=>by simp [putB]
 | .v d::as,s::ss,ρ=>by rw [putB];exact u3j;exact fun _ _ e=>by cases e
 | .o i::as,.val d::ss,ρ=>by rw [putB];exact u3j;exact fun _ _ _ e=>by cases e
 | .o i::as,.own o::ss,ρ=>by
  rw [putB,u3j]
  split <;> simp
theorem Agr.val {K:W.Frag}{F:Hp}{σ:St}:∀ {vs:List V}{as:List Ag}{i:Nat}{d:D},Agr K F σ vs as→as[i]?=some (.v d)→∃ x,vs[i]?=some x∧Rp K F x d
 | _,_,i,d,.nil,e=>by cases e
 | _,_,0,d,.v h hs,e=>by simp at e;subst e;exact ⟨_,rfl,h⟩
 | _,_,i+1,d,.v h hs,e=>by simpa using hs.val (by simpa using e)
 | _,_,0,d,.o h hs,e=>by simp at e
 | _,_,i+1,d,.o h hs,e=>by simpa using hs.val (by simpa using e)
theorem Agr.own {K:W.Frag}{F:Hp}{σ:St}:∀ {vs:List V}{as:List Ag}{i j:Nat},Agr K F σ vs as→as[i]?=some (Ag.o j)→∃ x,vs[i]?=some x∧σ[j]?=some (some x)
 | _,_,i,d,.nil,e=>by cases e
 | _,_,0,d,.v h hs,e=>by simp at e
 | _,_,i+1,d,.v h hs,e=>by simpa using hs.own (by simpa using e)
 | _,_,0,d,.o h hs,e=>by simp at e;subst e;exact ⟨_,rfl,h⟩
 | _,_,i+1,d,.o h hs,e=>by simpa using hs.own (by simpa using e)
theorem Agr.length {K:W.Frag}{F:Hp}{σ:St}:∀ {vs:List V}{as:List Ag},Agr K F σ vs as→vs.length=as.length
 | _,_,.nil=>rfl
 | _,_,.v _ hs=>congrArg (·+1) hs.length
 | _,_,.o _ hs=>congrArg (·+1) hs.length
theorem map_some {α:Type}{l:List α}{i:Nat}{x:α}:(l.map some)[i]?=some (some x)↔l[i]?=some x:=by
 rw [List.getElem?_map]
 cases l[i]? <;> simp
section
variable {K:W.Frag}{B:Hp×Hp}{ρ:Rho}{σ:St}{F H F' H':Hp}{as:List Ag}{sl sl':List Sl}{vs:List V}
open Classical in
noncomputable def lessH (σ:St) (as:List Ag) (H:Hp):Hp:=fun b=>if ∃ j,Ag.o j∈as∧σ[j]?=some (some (.ref b)) then none else H b
theorem Rel.hand (R:Rel K B ρ σ F H) (h:slAll ρ as=.ok sl) (nd:(agO as).Nodup) (ag:Agr K F σ vs as):Rel K (F,lessH σ as H) (sl.map some) (vs.map some) F H where
 st:=⟨Same.refl F,R.fh,fun b o e=>by
  have e:lessH σ as H b=some o:=e
  unfold lessH at e
  by_cases z:∃ j,Ag.o j∈as∧σ[j]?=some (some (.ref b))
  ·rw [if_pos z] at e;cases e
  ·rw [if_neg z] at e;exact e,fun _ n _=>n⟩
 len:=by rw [List.length_map,List.length_map,ag.length,u8v h]
 val i d e:=by
  obtain ⟨x,h1,h2⟩:=ag.val (u8u h (map_some.mp e))
  exact ⟨x,map_some.mpr h1,h2⟩
 own i o e:=by
  obtain ⟨j,o0,h1,h2,rfl⟩:=u4h h (map_some.mp e)
  obtain ⟨x,h3,h4⟩:=ag.own h1
  obtain ⟨a,hh,p1,p2,p3,p4,p5⟩:=R.own j o0 h2
  rw [p1] at h4;cases h4
  refine ⟨a,hh,map_some.mpr h3,p2,?_,p4,p5.unp⟩
  show lessH σ as H a=none
  unfold lessH
  exact if_pos ⟨j,List.mem_of_getElem? h1,p1⟩
 dis i i' o u a e e' q q':=by
  obtain ⟨j,o0,h1,h2,rfl⟩:=u4h h (map_some.mp e)
  obtain ⟨j',o0',h1',h2',rfl⟩:=u4h h (map_some.mp e')
  obtain ⟨x,h3,h4⟩:=ag.own h1
  obtain ⟨x',h3',h4'⟩:=ag.own h1'
  rw [map_some.mp q] at h3;cases h3
  rw [map_some.mp q'] at h3';cases h3'
  have:=R.dis j j' o0 o0' a h2 h2' h4 h4'
  subst this
  exact u6O nd h1 h1'
theorem u9l (R:Rel K B ρ σ F H) (h:slAll ρ as=.ok sl) (ag:Agr K F σ vs as):∀ b o,NotOwn (sl.map some) (vs.map some) b→H b=some o→lessH σ as H b=some o:=fun b o n e=>by
 unfold lessH
 rw [if_neg]
 ·exact e
 ·rintro ⟨j,m,q⟩
  obtain ⟨t,ht,z⟩:=List.mem_iff_getElem.mp m
  have z:as[t]?=some (Ag.o j):=by rw [← z];simp [ht]
  obtain ⟨o0,h1,h2⟩:=u9Y h z
  obtain ⟨x,h3,h4⟩:=ag.own z
  rw [q] at h4;cases h4
  exact n t _ (map_some.mpr h1) (map_some.mpr h3)
theorem u2q (h:slAll ρ as=.ok sl) (nd:(agO as).Nodup) (sh:shp (sl'.map some)=shp (sl.map some)) (j:Nat):(Ag.o j∉as∧(putB as sl' ρ)[j]?=ρ[j]?)∨∃ (t:Nat) (o0 o':OD),as[t]?=some (Ag.o j)∧ρ[j]?=some (some (.own o0))∧sl'[t]?=some (Sl.own o')∧(putB as sl' ρ)[j]?=some (some (.own (repO o0 o'))):=by
 by_cases m:Ag.o j∈as
 ·obtain ⟨t,ht,z⟩:=List.mem_iff_getElem.mp m
  have z:as[t]?=some (Ag.o j):=by rw [← z];simp [ht]
  obtain ⟨o0,h1,h2⟩:=u9Y h z
  obtain ⟨o',h3⟩:=u3m sh (map_some.mpr h1)
  have h3:=map_some.mp h3
  exact .inr ⟨t,o0,o',z,h2,h3,u4E nd z h3 h2⟩
 ·exact .inl ⟨m,u2r m⟩
theorem Mv.call (R:Rel K B ρ σ F H) (h:slAll ρ as=.ok sl) (nd:(agO as).Nodup) (ag:Agr K F σ vs as) (m:Mv K (F,lessH σ as H) (sl.map some) (vs.map some) F H (sl'.map some) F' H'):Mv K B ρ σ F H (putB as sl' ρ) F' H':=by
 have nw:∀ {b:Addr},(∀ (j:Nat) o,Ag.o j∈as→ρ[j]?=some (some (.own o))→σ[j]?≠some (some (.ref b)))→NotOwn (sl.map some) (vs.map some) b:=fun n x o e z=>by
  obtain ⟨j,o0,h1,h2,rfl⟩:=u4h h (map_some.mp e)
  obtain ⟨y,h3,h4⟩:=ag.own h1
  rw [map_some.mp z] at h3;cases h3
  exact n j o0 (List.mem_of_getElem? h1) h2 h4
 have own0:∀ {j:Nat}{o:OD},(putB as sl' ρ)[j]?=some (some (.own o))→∃ o0,ρ[j]?=some (some (.own o0)):=fun {j o} e=>by
  rcases u2q h nd m.sh j with ⟨_,q⟩ | ⟨t,o0,o',_,q,_⟩
  ·rw [q] at e;exact ⟨o,e⟩
  ·exact ⟨o0,q⟩
 refine ⟨⟨⟨R.st.ff.trans m.ff,m.rel.fh,fun b o e=>?_,fun b n e=>?_⟩,by rw [u3j];exact R.len,fun j u e=>?_,fun j o e=>?_,fun j j' o u a e e'=>?_⟩,?_,m.ff,fun b o n e=>m.hh b o (nw fun j o _ e=>n j o e) e,m.no⟩
 ·refine m.hh b o (nw fun j o' _ e' z=>?_) (R.st.hh b o e)
  obtain ⟨a,hh,p1,p2,p3,_⟩:=R.own j o' e'
  rw [z] at p1;cases p1;rw [p3] at e;cases e
 ·exact m.no b (R.st.no b n e) (u1j R.st.hh e)
 ·rcases u2q h nd m.sh j with ⟨_,q⟩ | ⟨t,o0,o',_,_,_,q⟩
  ·rw [q] at e
   obtain ⟨v,p1,p2⟩:=R.val j u e
   exact ⟨v,p1,p2.same m.ff⟩
  ·rw [q] at e;cases e
 ·rcases u2q h nd m.sh j with ⟨hj,q⟩ | ⟨t,o0,o',h1,h2,h3,q⟩
  ·rw [q] at e
   obtain ⟨a,hh,p1,p2,p3,p4,p5⟩:=R.own j o e
   refine ⟨a,hh,p1,m.no a p2 (by rw [p4];simp),p3,m.hh a hh (nw fun j' o' mj e' z=>?_) p4,Ro.same m.ff p5⟩
   have:=R.dis j j' o o' a e e' p1 z
   exact hj (this ▸ mj)
  ·rw [q] at e;cases e
   obtain ⟨a,hh,p1,p2,p3,p4,p5⟩:=R.own j o0 h2
   obtain ⟨x,h4,h5⟩:=ag.own h1
   rw [p1] at h5;cases h5
   obtain ⟨a',hh',g1,g2,g3,g4,g5⟩:=m.rel.own t o' (map_some.mpr h3)
   rw [map_some.mpr h4] at g1;cases g1
   exact ⟨a,hh',p1,g2,p3,g4,p5.rep g5⟩
 ·obtain ⟨o1,e1⟩:=own0 e
  obtain ⟨o2,e2⟩:=own0 e'
  exact R.dis j j' o1 o2 a e1 e2
 ·apply List.ext_getElem?
  intro j
  rw [u1I,u1I]
  rcases u2q h nd m.sh j with ⟨_,q⟩ | ⟨t,o0,o',_,q1,_,q⟩
  ·rw [q]
  ·rw [q,q1];rfl
end
section
variable {X:Cx}{xq:XQ}{a b c e:Expr}{es:List Expr}{fx:Rho→Res (D×Rho)}{fs:Rho→Res (List Ag×Rho)}{pos pos' p apos cpos:Pos}{x:Str}
theorem x_fn {P:Program}{w:World}{K:W.Frag}{mg:MG}{base:Heap}{k k':Nat}{ps:List Str}{g:List Sl→Res (D×List Sl)} (h:Callee P w K mg base k x ps (spM K g)) (hr:Room k' X.A) (ha:DXA X (e::es) fs) (hk:k≤k':=by decide) (hg:Gl X x:=by rfl)
  (eP:X.prog=P:=by rfl) (ew:X.w=w:=by rfl) (eK:X.K=K:=by rfl) (em:X.mg=mg:=by rfl) (eb:X.base=base:=by rfl) (hdb:(x==("__debug__":Str))=false:=by decide) :
  DX X (.Call (.Name x p) (e::es) [] pos) (fun ρ=>(fs ρ).bind fun r=>(noE (slOf r.2 r.1)).bind fun sl=>(noE (g sl)).bind fun u=>.ok (u.1,putB r.1 u.2 r.2)) :=
 DX.of (pe_fn h hr hk ha.out hg eP ew eK em eb hdb ha.ns) fun B F ρ σ H Q R q=>seqXA R q fun r vs F1 H1 m1 p1 q1=>by
  subst eK
  cases w1:slOf r.2 r.1 with
  | err x=>rw [w1] at q1;exact q1.elim
  | bad=>rw [w1] at q1;exact q1.elim
  | ok sl =>
   rw [w1] at q1
   have w2:(agO r.1).Nodup∧slAll r.2 r.1=.ok sl:=by
    unfold slOf gd at w1
    split at w1
    ·exact ⟨by assumption,w1⟩
    ·cases w1
   refine ⟨F1,lessH σ r.1 H1,sl,by rw [List.append_nil];exact m1.rel.hand w2.2 w2.1 p1,by rw [List.append_nil];exact u9l m1.rel w2.2 p1,?_⟩
   have q2:((noE (g sl)).bind _).all _ _:=q1
   cases w3:g sl with
   | err x=>rw [w3] at q2;exact q2.elim
   | bad=>rw [w3] at q2;exact q2.elim
   | ok u =>
    rw [w3] at q2
    intro v F' H' m p
    rw [List.append_nil] at m
    exact q2 v F' H' (m1.trans (Mv.call m1.rel w2.2 w2.1 p1 m)) p
theorem dsx_n {i:Nat} (hN:X.N.Nodup) (he:DX X e fx) (hi:X.N.findIdx? (fun y=>y==x)=some i:=by rfl) (hx:Loc X.env.scope x:=by first | exact Or.inl rfl | exact Or.inr rfl) (hs:swapsWith e (some (.Name x pos')) pos.line X.env=pure false:=by rfl)
  (hf:X.fn x=true∨X.env.scope.names.lookup x=some .local:=by first | exact .inl rfl | exact .inr rfl):DS X xq (.Assign [.Name x pos'] e pos) (fun ρ=>(noE (fx ρ)).go ρ fun r=>.nx (r.2.set i (some (.val r.1)))) :=
 DS.of (ps_n hN he.out hi hx hs hf) fun B F ρ σ H T R q=>⟨B,F,ρ,R,u1L (Res.all_mono (u0q q.out) (fun r q v F' H' m p=>q _ F' H' (m.rel.set p)) fun _ z=>z)⟩
end
inductive OutM where
 | rm (d:D) (ρ:Rho) | bad
structure OkM (K:W.Frag) (B:Hp×Hp) (T:Ends) (o:OutM):Prop where
 out:match o with
  | .rm d ρ=>∀ v σ F H,Rel K B ρ σ F H→Rp K F v d→T.rt v H
  | .bad=>False
def liftM (K:W.Frag) (f:Rho→OutM):TS:=fun T σ H=>∃ B F ρ,Rel K B ρ σ F H∧OkM K B T (f ρ)
structure DMB (X:Cx) (sts:List Stmt) (f:Rho→OutM):Prop where
 out:PSs X sts (liftM X.K f)
noncomputable def Res.gm {α:Type} (r:Res α) (k:α→OutM):OutM:=match r with
 | .ok a=>k a
 | _=>.bad
@[simp] theorem u8b {α:Type} (a:α) (k:α→OutM):(Res.ok a).gm k=k a:=rfl
@[simp] theorem gm_bad {α:Type} (k:α→OutM):(Res.bad:Res α).gm k=.bad:=rfl
@[simp] theorem gm_err {α:Type} (x:D) (k:α→OutM):(Res.err x:Res α).gm k=.bad:=rfl
noncomputable def thenM (o:Out) (g:Rho→OutM):OutM:=match o with
 | .nx ρ=>g ρ
 | _=>.bad
@[simp] theorem u1R (ρ:Rho) (g:Rho→OutM):thenM (.nx ρ) g=g ρ:=rfl
section
variable {X:Cx}{st:Stmt}{sts:List Stmt}{e c:Expr}{fx:Rho→Res (D×Rho)}{fT:Rho→Res Bool}{f:Rho→Out}{g ga:Rho→OutM}{pos pos' p:Pos}{x:Str}
theorem u9n {α:Type}{r:Res α}{k:α→OutM}{K:W.Frag}{B:Hp×Hp}{T:Ends}{E:D→Prop} (h:OkM K B T (r.gm k)):r.all (fun a=>OkM K B T (k a)) E:=by
 cases r with
 | ok a=>exact h
 | err x=>exact (show False from h.out).elim
 | bad=>exact (show False from h.out).elim
theorem u5M (he:DX X e fx):DMB X [.Return (some e) pos] (fun ρ=>(fx ρ).gm fun r=>.rm r.1 r.2) :=
 ⟨u3x fun pins s σ H T I z9=>un5 z9 fun B F ρ R q=>u7c he.out pins s σ H T I ⟨B,F,ρ,R,Res.all_mono (u9n q) (fun r k v F' H' m p=>k.out v σ F' H' m.rel p) fun _ z=>z⟩⟩
theorem u1P (h1:DS X xqF st f) (h2:DMB X sts g):DMB X (st::sts) (fun ρ=>thenM (f ρ) g) :=
 ⟨fun pins s σ H T I z9=>un5 z9 fun B F ρ R q=>u2s h1.out h2.out pins s σ H T I ⟨B,F,ρ,R,⟨by
  dsimp only at q
  generalize f ρ=o at q
  cases o with
  | nx ρ1=>exact fun σ1 F1 H1 R1=>⟨B,F1,ρ1,R1,q⟩
  | rt d=>exact (show False from q.out).elim
  | bk r=>exact (show False from q.out).elim
  | ct r=>exact (show False from q.out).elim
  | er x r=>exact (show False from q.out).elim
  | bad=>exact (show False from q.out).elim⟩⟩⟩
theorem dm_if {a:List Stmt} (hc:DT X xqF c fT) (ha:DMB X a ga) (hb:DMB X sts g):DMB X (.If c a [] pos::sts) (fun ρ=>(fT (frz ρ)).gm fun k=>if k=true then ga ρ else g ρ) :=
 ⟨fun pins s σ H T I z9=>un5 z9 fun B F ρ R q=>u2s (ps_if hc.out ha.out u6p) hb.out pins s σ H T I ⟨B,F,ρ,R,Res.all_mono (u9n (E:=fun _=>False) q) (fun k q H' s=>by
  cases k with
  | true =>
   rw [if_pos rfl] at q ⊢
   exact ⟨B,F,ρ,R.step s,⟨by
    have q:=q.out
    generalize ga ρ=o at q ⊢
    cases o with
    | rm d ρ'=>exact q
    | bad=>exact q⟩⟩
  | false =>
   rw [if_neg (by decide)] at q ⊢
   exact ⟨B,F,ρ,R.step s,q⟩) fun _ z=>z.elim⟩⟩
end
noncomputable def pinS (A:Nat→Addr):Nat→List Sl→Rho
 | _,[]=>[]
 | i,.val d::r=>some (.val d)::pinS A (i+1) r
 | i,.own o::r=>some (.own (.p (A i) o))::pinS A (i+1) r
noncomputable def unS (A:Nat→Addr):Nat→List Sl→Rho→Res (List Sl)
 | _,[],_=>.ok []
 | i,.val d::r,ρ=>(unS A (i+1) r ρ).bind fun s=>.ok (.val d::s)
 | i,.own _::r,ρ=>match ρ[i]? with
  | some (some (.own (.p a o)))=>if a=A i then (unS A (i+1) r ρ).bind fun s=>.ok (.own o::s) else .bad
  | _=>.bad
noncomputable def runM (n m:Nat) (t:Rho→OutM) (A:Nat→Addr) (sl:List Sl):Res (D×List Sl) :=
 if sl.length=m then (match t (pinS A 0 sl++List.replicate (n - sl.length) none) with
  | .rm d ρ=>(unS A 0 sl ρ).bind fun s=>.ok (d,s)
  | .bad=>.bad) else .bad
open Classical in
noncomputable def gM (n m:Nat) (t:Rho→OutM) (sl:List Sl):Res (D×List Sl):=if h:∃ r,∀ A,runM n m t A sl=.ok r then .ok h.choose else .bad
theorem u6G {n m:Nat}{t:Rho→OutM}{sl:List Sl}{r:D×List Sl} (h:∀ A,runM n m t A sl=.ok r):gM n m t sl=.ok r:=by
 have e:∃ r,∀ A,runM n m t A sl=.ok r:=⟨r,h⟩
 unfold gM
 rw [dif_pos e]
 have:=e.choose_spec (fun _=>0)
 rw [h] at this
 rw [Res.ok.inj this]
theorem u4H (A:Nat→Addr):∀ (sl:List Sl) (k i:Nat),(pinS A k sl)[i]?=(sl[i]?).map fun s=>some (match s with | .val d=>.val d | .own o=>.own (.p (A (k+i)) o))
 | [],k,i=>by simp [pinS]
 | .val d::r,k,0=>by simp [pinS]
 | .own o::r,k,0=>by simp [pinS]
 | .val d::r,k,i+1=>by
  simp only [pinS,List.getElem?_cons_succ]
  rw [u4H A r (k+1) i,show k+1+i=k+(i+1) by omega]
 | .own o::r,k,i+1=>by
  simp only [pinS,List.getElem?_cons_succ]
  rw [u4H A r (k+1) i,show k+1+i=k+(i+1) by omega]
theorem u4G (A:Nat→Addr):∀ (sl:List Sl) (k:Nat),(pinS A k sl).length=sl.length
 | [],k=>rfl
 | .val d::r,k=>by simp [pinS,u4G A r]
 | .own o::r,k=>by simp [pinS,u4G A r]
theorem u6e {A:Nat→Addr}{ρ:Rho}:∀ {sl sl':List Sl}{k i:Nat},unS A k sl ρ=.ok sl'→match sl[i]? with
  | some (.val d)=>sl'[i]?=some (.val d)
  | some (.own _)=>∃ o',sl'[i]?=some (.own o')∧ρ[k+i]?=some (some (.own (.p (A (k+i)) o')))
  | none=>sl'[i]?=none
 | [],sl',k,i,h=>by cases h;simp
 | .val d::r,sl',k,i,h=>by
  rw [unS] at h
  cases q:unS A (k+1) r ρ with
  | ok s =>
   rw [q] at h;cases h
   cases i with
   | zero=>simp
   | succ i =>
    have:=u6e (i:=i) q
    simpa [show k+1+i=k+(i+1) by omega] using this
  | err x=>rw [q] at h;cases h
  | bad=>rw [q] at h;cases h
 | .own o::r,sl',k,i,h=>by
  rw [unS] at h
  split at h
  ·rename_i a o' e
   split at h
   ·rename_i ea
    cases q:unS A (k+1) r ρ with
    | ok s =>
     rw [q] at h;cases h
     cases i with
     | zero=>simp;subst ea;exact e
     | succ i =>
      have:=u6e (i:=i) q
      simpa [show k+1+i=k+(i+1) by omega] using this
    | err x=>rw [q] at h;cases h
    | bad=>rw [q] at h;cases h
   ·cases h
  ·cases h
section
variable {P:Program}{w:World}{K:W.Frag}{mg:MG}{base:Heap}
theorem u2p {N:List Str}{vs:List V}{i:Nat}{x:V} (h:vs[i]?=some x):(start N vs)[i]?=some (some x):=by
 unfold L2.start
 rw [List.getElem?_append_left (by have:=(List.getElem?_eq_some_iff.mp h).1;simpa using this),List.getElem?_map,h];rfl
theorem u2o {A:Nat→Addr}{sl:List Sl}{n i:Nat}{s:Sl} (h:(pinS A 0 sl++List.replicate n none)[i]?=some (some s)):(∃ d,sl[i]?=some (.val d)∧s=.val d)∨∃ o,sl[i]?=some (.own o)∧s=.own (.p (A i) o):=by
 rw [List.getElem?_append] at h
 split at h
 ·rw [u4H,Nat.zero_add] at h
  cases q:sl[i]? with
  | none=>rw [q] at h;cases h
  | some u =>
   rw [q] at h
   cases u with
   | val d=>cases h;exact .inl ⟨d,rfl,rfl⟩
   | own o=>cases h;exact .inr ⟨o,rfl,rfl⟩
 ·rw [List.getElem?_replicate] at h
  split at h <;> cases h
theorem Rel.begin {F hb H:Hp}{N:List Str}{vs:List V}{sl:List Sl}{A:Nat→Addr} (R:Rel K (F,hb) (sl.map some) (vs.map some) F H) (hA:∀ (i:Nat) a,vs[i]?=some (.ref a)→A i=a):Rel K (F,hb) (pinS A 0 sl++List.replicate (N.length - sl.length) none) (start N vs) F H where
 st:=R.st
 len:=by
  have:=R.len
  simp only [List.length_map] at this
  unfold L2.start;simp [u4G,this]
 val i d e:=by
  rcases u2o e with ⟨d',h1,h2⟩ | ⟨o,h1,h2⟩
  ·cases h2
   obtain ⟨v,p1,p2⟩:=R.val i d (map_some.mpr h1)
   exact ⟨v,u2p (map_some.mp p1),p2⟩
  ·cases h2
 own i o e:=by
  rcases u2o e with ⟨d',h1,h2⟩ | ⟨o',h1,h2⟩
  ·cases h2
  ·cases h2
   obtain ⟨a,h,p1,p2,p3,p4,p5⟩:=R.own i o' (map_some.mpr h1)
   have:=hA i a (map_some.mp p1)
   subst this
   exact ⟨_,h,u2p (map_some.mp p1),p2,p3,p4,.p p5⟩
 dis i j o u a e e' q q':=by
  rcases u2o e with ⟨d',h1,h2⟩ | ⟨o1,h1,h2⟩
  ·cases h2
  ·rcases u2o e' with ⟨d',h1',h2'⟩ | ⟨o2,h1',h2'⟩
   ·cases h2'
   ·obtain ⟨a1,_,p1,_⟩:=R.own i o1 (map_some.mpr h1)
    obtain ⟨a2,_,p2,_⟩:=R.own j o2 (map_some.mpr h1')
    have g1:=u2p (N:=N) (map_some.mp p1)
    have g2:=u2p (N:=N) (map_some.mp p2)
    rw [q] at g1;rw [q'] at g2;cases g1;cases g2
    exact R.dis i j o1 o2 a (map_some.mpr h1) (map_some.mpr h1') p1 p2
theorem Mv.leave {F hb H F' H':Hp}{vs:List V}{sl sl':List Sl}{A:Nat→Addr}{ρ:Rho}{σ:St} (R:Rel K (F,hb) (sl.map some) (vs.map some) F H) (hb1:∀ b o,NotOwn (sl.map some) (vs.map some) b→H b=some o→hb b=some o) (hA:∀ (i:Nat) a,vs[i]?=some (.ref a)→A i=a)
  (h:unS A 0 sl ρ=.ok sl') (R':Rel K (F,hb) ρ σ F' H'):Mv K (F,hb) (sl.map some) (vs.map some) F H (sl'.map some) F' H':=by
 have hg:=fun i=>u6e (i:=i) h
 have own1:∀ {i:Nat}{o':OD},sl'[i]?=some (.own o')→∃ o a,sl[i]?=some (.own o)∧vs[i]?=some (.ref a)∧ρ[i]?=some (some (.own (.p a o'))):=fun {i o'} e=>by
  have:=hg i
  cases q:sl[i]? with
  | none=>rw [q] at this;rw [e] at this;cases this
  | some u =>
   rw [q] at this
   cases u with
   | val d=>rw [e] at this;cases this
   | own o =>
    obtain ⟨o2,h1,h2⟩:=this
    rw [e] at h1;cases h1
    rw [Nat.zero_add] at h2
    obtain ⟨a,_,p1,_⟩:=R.own i o (map_some.mpr q)
    exact ⟨o,a,rfl,map_some.mp p1,by rw [hA i a (map_some.mp p1)] at h2;exact h2⟩
 have ro:∀ {i:Nat}{o':OD},sl'[i]?=some (.own o')→∃ a h,vs[i]?=some (.ref a)∧F' a=none∧hb a=none∧H' a=some h∧Ro K F' a h o':=fun {i o'} e=>by
  obtain ⟨o,a,q1,q2,q3⟩:=own1 e
  obtain ⟨a',h',p1,p2,p3,p4,p5⟩:=R'.own i _ q3
  cases p5 with
  | p p5=>exact ⟨a,h',q2,p2,p3,p4,p5⟩
 have ln:sl'.length=sl.length:=by
  refine Nat.le_antisymm (Nat.not_lt.mp fun z=>?_) (Nat.not_lt.mp fun z=>?_)
  ·have:=hg sl.length
   rw [List.getElem?_eq_none (Nat.le_refl _)] at this
   rw [List.getElem?_eq_none_iff] at this
   omega
  ·have:=hg sl'.length
   rw [List.getElem?_eq_getElem z] at this
   cases q:sl[sl'.length] with
   | val d=>rw [q] at this;simp at this
   | own o=>rw [q] at this;simp at this
 refine ⟨⟨R'.st,by have:=R.len;simp only [List.length_map] at this ⊢;rw [this,ln],fun i d e=>?_,fun i o e=>?_,fun i j o u a e e' q q'=>?_⟩,?_,R'.st.ff,fun b o n e=>R'.st.hh b o (hb1 b o n e),fun b n e=>?_⟩
 ·have e:=map_some.mp e
  have:=hg i
  cases q:sl[i]? with
  | none=>rw [q,e] at this;cases this
  | some u =>
   rw [q] at this
   cases u with
   | val d' =>
    rw [e] at this;cases this
    obtain ⟨v,p1,p2⟩:=R.val i d (map_some.mpr q)
    exact ⟨v,p1,p2.same R'.st.ff⟩
   | own o=>obtain ⟨o2,h1,_⟩:=this;rw [e] at h1;cases h1
 ·obtain ⟨a,h,p1,p2⟩:=ro (map_some.mp e)
  exact ⟨a,h,map_some.mpr p1,p2⟩
 ·obtain ⟨o1,_,h1,_⟩:=own1 (map_some.mp e)
  obtain ⟨o2,_,h2,_⟩:=own1 (map_some.mp e')
  exact R.dis i j o1 o2 a (map_some.mpr h1) (map_some.mpr h2) q q'
 ·apply List.ext_getElem?
  intro i
  rw [u1I,u1I,List.getElem?_map,List.getElem?_map]
  have:=hg i
  cases q:sl[i]? with
  | none=>rw [q] at this;rw [this]
  | some u =>
   rw [q] at this
   cases u with
   | val d=>rw [this]
   | own o=>obtain ⟨o2,h1,_⟩:=this;rw [h1];rfl
 ·by_cases z:NotOwn (sl.map some) (vs.map some) b
  ·cases w:H b with
   | none=>exact absurd w e
   | some o=>exact R'.st.no b n (by rw [show (F,hb).2 b=some o from hb1 b o z w];simp)
  ·unfold NotOwn at z
   simp only [Classical.not_forall] at z
   obtain ⟨i,o,e1,e2⟩:=z
   have e2:=Classical.not_not.mp e2
   have:=hg i
   rw [map_some.mp e1] at this
   obtain ⟨o2,h1,_⟩:=this
   obtain ⟨a,h,p1,p2,_⟩:=ro h1
   rw [map_some.mp e2] at p1;cases p1;exact p2
theorem Fun.okM {x qual:Str}{st:Stmt}{f:Addr}{fd:FuncData}{N ps:List Str}{k:Nat}{t:Rho→OutM} (F:Fun K x qual st f fd) (S:FnScope N ps (defScope st))
  (hbody:∀ (cdv:Value) (A:Around) (outer:List Env) (s:Shared) (H:Hp) (E:XK),Room k (A.deeper (envOfC qual (defScope st) s.heap.objs.size f cdv))→DMB (cxOf CX0 P w K mg base N qual (defScope st) f cdv A outer s H E).nox (defBody st) t) :
  FnOk P w K mg base CX0 (k+1) f fd ps (spM K (gM N.length ps.length t)):=by
 have ex:∀ {sl:List Sl}{Q:D×List Sl→Prop},(gM N.length ps.length t sl).all Q (fun _=>False)→∃ r,(∀ A,runM N.length ps.length t A sl=.ok r)∧Q r:=fun {sl Q} q=>by
  unfold gM at q
  split at q
  ·rename_i h;exact ⟨_,h.choose_spec,q⟩
  ·exact q.elim
 refine F.ok S (fun vs H Q E ⟨G,hb,sl,R,h1,q⟩=>?_) fun cdv A outer s H vs Q E hr ⟨G,hb,sl,R,h1,q⟩=>?_
 ·obtain ⟨r,hr,_⟩:=ex q
  have:=hr fun _=>0
  unfold runM at this
  split at this
  ·have l:=R.len
   simp only [List.length_map] at l
   rw [l];assumption
  ·cases this
 ·obtain ⟨r,hr',q⟩:=ex q
  let A0:Nat→Addr:=fun i=>match vs[i]? with
   | some (.ref a)=>a
   | _=>0
  have hA:∀ (i:Nat) a,vs[i]?=some (.ref a)→A0 i=a:=fun i a e=>by
   show (match vs[i]? with | some (.ref a)=>a | _=>0)=a
   rw [e]
  have hz:=hr' A0
  refine ⟨_,(hbody cdv A outer s H E hr).out,(G,hb),G,_,R.begin hA,⟨?_⟩⟩
  unfold runM at hz
  split at hz
  ·generalize t (pinS A0 0 sl++List.replicate (N.length - sl.length) none)=o at hz
   cases o with
   | bad=>cases hz
   | rm d ρ =>
    dsimp only at hz
    cases hu:unS A0 0 sl ρ with
    | bad=>rw [hu] at hz;cases hz
    | err x=>rw [hu] at hz;cases hz
    | ok sl' =>
     rw [hu] at hz;cases hz
     exact fun v σ F' H' R' pv=>q v F' H' (Mv.leave R h1 hA hu R') pv
  ·cases hz
end
noncomputable def getP (ρ:Rho) (i:Nat):Res (Addr×List D):=match ρ[i]? with
 | some (some (.own (.p a (.l ds))))=>.ok (a,ds)
 | _=>.bad
theorem getP_ok {ρ:Rho}{i:Nat}{P:Addr×List D→Prop}{E:D→Prop} (h:(getP ρ i).all P E):∃ a ds,ρ[i]?=some (some (.own (.p a (.l ds))))∧P (a,ds):=by
 unfold getP at h
 split at h
 ·rename_i a d e;exact ⟨a,d,e,h⟩
 ·exact h.elim
section
variable {X:Cx}{xq:XQ}{i value:Expr}{fi fv:Rho→Res D}{pos:Pos}
noncomputable def setP (ρ:Rho) (j:Nat) (a:Addr) (ds:List D) (d:D):D→Out
 | .int k=>match ixN ds.length k with
  | some n=>.nx (ρ.set j (some (.own (.p a (.l (ds.set n d))))))
  | none=>.bad
 | _=>.bad
theorem u4S {x:Str}{p pos':Pos} (j:Nat) (hi:DE X xq i fi) (hv:DE X xq value fv) (hN:X.N[j]?=some x:=by rfl) (hvs:Vis X.env.scope x:=by first | exact Or.inl rfl | exact Or.inr (Or.inl rfl) | exact Or.inr (Or.inr rfl)) (hd:(x==("__debug__":Str))=false:=by decide) (hcd:(x==("__classdict__":Str))=false:=by decide)
  (hs:swapsWithSole [.Subscript (.Name x p) i pos'] value pos.line X.env=pure false:=by rfl) (hw:swappedStores [.Subscript (.Name x p) i pos'] value X.env=pure none:=by rfl)
  (ha:∀ v,assign (.Subscript (.Name x p) i pos') X.env v=(do
   let ov ← holding [v] (eval (.Name x p) X.env)
   let iv ← holding [v,ov] (eval i X.env)
   standAt pos'
   holding [v,ov,iv] (setItem ov iv v)
   release [v,ov,iv] []):=by intro _;rfl)
  (h1:(assignEach [.Subscript (.Name x p) i pos'] X.env).map (·.2)=[assign (.Subscript (.Name x p) i pos') X.env]:=by rfl) :
  DS X xq (.Assign [.Subscript (.Name x p) i pos'] value pos) (fun ρ=>(fv (frz ρ)).go ρ fun d=>(getP ρ j).go ρ fun ds=>(fi ρ).go ρ fun k=>if flatD d=true then setP ρ j ds.1 ds.2 d k else .bad) :=
 DS.of (u8E hv.out (v1t (u1i hN hvs hd hcd) hi.out u6U ha) hs hw h1) fun B F ρ σ H T R q=>by
  obtain ⟨F0,ef,R0⟩:=R.frz
  refine ⟨B,F0,frz ρ,R0,Res.all_mono (u0q q.out) (fun d q1 v F1 H1 st pv=>?_) fun _ z=>(errOf z).frz⟩
  have R1:=R.step (Stp.only R.fh st.hh)
  obtain ⟨ap,ds,eo,q2⟩:=getP_ok (u0q q1)
  obtain ⟨a,h,g1,g2,g3,g4,g5⟩:=R1.own j _ eo
  refine ⟨.ref a,g1,B,F,ρ,R1,Res.all_mono (u0q q2) (fun k q3 y F3 H3 st3 py=>?_) fun _ z=>errOf z⟩
  have R3:=R1.step st3
  obtain ⟨a',h',k1,k2,k3,k4,k5⟩:=R3.own j _ eo
  rw [g1] at k1;cases k1
  by_cases hf:flatD d=true
  ·have q4:(if flatD d=true then setP ρ j ap ds d k else Out.bad).all _ _ _ _ _:=q3
   rw [if_pos hf] at q4
   cases k5 with
   | p k5 =>
   cases k5 with
   | l hr =>
    cases py with
    | int n =>
     unfold setP at q4
     dsimp only at q4
     cases e:ixN ds.length n with
     | none=>rw [e] at q4;exact q4.elim
     | some m =>
      rw [e] at q4
      exact ⟨_,_,n,m,rfl,rfl,k4,by rw [hr.length];exact e,q4 σ F3 _ (R3.write (e:=eo) g1 (.p (.l (u6n m hr (pv.flat hf)))))⟩
    | _=>exact q4.elim
  ·have q4:(if flatD d=true then setP ρ j ap ds d k else Out.bad).all _ _ _ _ _:=q3
   rw [if_neg hf] at q4;exact q4.elim
end
noncomputable def whileD (fT:Rho→Res Bool) (tb:Rho→Out):Nat→Rho→Out
 | 0,_=>.bad
 | n+1,ρ=>(fT (frz ρ)).go ρ fun b=>if b=true then (match tb ρ with
  | .nx ρ2=>whileD fT tb n ρ2
  | .ct ρ2=>whileD fT tb n ρ2
  | .bk ρ2=>.nx ρ2
  | o=>o) else .nx ρ
def notBad:Out→Prop
 | .bad=>False
 | _=>True
open Classical in
noncomputable def wD (fT:Rho→Res Bool) (tb:Rho→Out) (ρ:Rho):Out:=if h:∃ n,notBad (whileD fT tb n ρ) then whileD fT tb h.choose ρ else .bad
theorem u2n {fT:Rho→Res Bool}{tb:Rho→Out}:∀ {n:Nat}{ρ:Rho},notBad (whileD fT tb n ρ)→∀ {m:Nat},n≤m→whileD fT tb m ρ=whileD fT tb n ρ
 | 0,ρ,h,m,_=>h.elim
 | n+1,ρ,h,0,hm=>absurd hm (by omega)
 | n+1,ρ,h,m+1,hm=>by
  rw [whileD] at h
  rw [whileD,whileD]
  cases e:fT (frz ρ) with
  | bad=>rfl
  | err x=>rfl
  | ok b =>
   rw [e] at h
   cases b with
   | false=>rfl
   | true =>
    simp only [go_ok,if_true] at h ⊢
    cases q:tb ρ with
    | nx ρ2=>rw [q] at h;exact u2n h (by omega)
    | ct ρ2=>rw [q] at h;exact u2n h (by omega)
    | _=>rfl
theorem wD_eq {fT:Rho→Res Bool}{tb:Rho→Out}{n:Nat}{ρ:Rho}{o:Out} (e:whileD fT tb n ρ=o) (h:notBad o):wD fT tb ρ=o:=by
 have ex:∃ n,notBad (whileD fT tb n ρ):=⟨n,by rw [e];exact h⟩
 unfold wD
 rw [dif_pos ex]
 have h1:=ex.choose_spec
 rcases Nat.le_total ex.choose n with c | c
 ·rw [← u2n h1 c,e]
 ·rw [u2n (by rw [e];exact h:notBad (whileD fT tb n ρ)) c,e]
section
variable {X:Cx}{xq:XQ}{c:Expr}{body:List Stmt}{fT:Rho→Res Bool}{tb:Rho→Out}{pos:Pos}
theorem u7v (hc:DT X xq c fT) (hb:DB X xq body tb) (hp:PassesOwn (model X.prog X.w) X.A X.env X.xe:=by exact PassesOwn.never):DS X xq (.While c body [] pos) (wD fT tb) :=
 DS.of (v0j hp hc.out hb.out) fun B F ρ σ H T R q=>by
  obtain ⟨n,q⟩:∃ n,OkS X.K xq B T (whileD fT tb n ρ):=by
   unfold wD at q
   split at q
   ·exact ⟨_,q⟩
   ·exact q.out.elim
  refine ⟨fun m σ' H'=>∃ ρ' F',Rel X.K B ρ' σ' F' H'∧OkS X.K xq B T (whileD fT tb m ρ'),⟨n,ρ,F,R,q⟩,?_⟩
  rintro m σ1 H1 ⟨ρ1,F1,R1,q1⟩
  cases m with
  | zero=>exact q1.out.elim
  | succ m =>
   have q1:=q1.out
   rw [whileD] at q1
   refine ⟨B,F1,ρ1,R1,Res.all_mono (u0q q1) (fun b q2 H2 s2=>?_) fun _ z=>errOf z⟩
   have R2:=R1.step s2
   cases b with
   | false=>exact q2 σ1 F1 H2 R2
   | true =>
    rw [if_pos rfl] at q2
    show ∃ N:St→Hp→Prop,_∧_
    refine ⟨fun σ' H'=>∃ ρ' F',Rel X.K B ρ' σ' F' H'∧OkS X.K xq B T (whileD fT tb m ρ'),fun σ' H' p=>⟨m,Nat.lt_succ_self m,p⟩,B,F1,ρ1,R2,⟨?_⟩⟩
    generalize tb ρ1=o at q2
    cases o with
    | nx ρ2=>exact fun σ4 F4 H4 R4=>⟨ρ2,F4,R4,⟨q2⟩⟩
    | ct ρ2=>exact fun σ4 F4 H4 R4=>⟨ρ2,F4,R4,⟨q2⟩⟩
    | bk ρ2=>exact q2
    | rt d=>exact q2
    | er x r=>exact q2
    | bad=>exact q2
end
noncomputable def getW (ρ:Rho) (i:Nat):Res ((List D→OD)×List D):=match ρ[i]? with
 | some (some (.own (.l ds)))=>.ok (OD.l,ds)
 | some (some (.own (.p a (.l ds))))=>.ok (fun es=>.p a (.l es),ds)
 | _=>.bad
theorem getW_ok {K:W.Frag}{B:Hp×Hp}{ρ:Rho}{σ:St}{F H:Hp}{i:Nat}{P:(List D→OD)×List D→Prop}{E:D→Prop} (R:Rel K B ρ σ F H) (h:(getW ρ i).all P E) :
  ∃ o a xs ds mk,ρ[i]?=some (some (.own o))∧σ[i]?=some (some (.ref a))∧H a=some (.lst xs)∧Rps K F xs ds∧(∀ ys es F',Rps K F' ys es→Ro K F' a (.lst ys) (mk es))∧P (mk,ds):=by
 unfold getW at h
 split at h
 ·rename_i ds e
  obtain ⟨a,h',p1,p2,p3,p4,p5⟩:=R.own i _ e
  cases p5 with
  | l r=>exact ⟨_,a,_,ds,_,e,p1,p4,r,fun ys es F' q=>.l q,h⟩
 ·rename_i a0 ds e
  obtain ⟨a,h',p1,p2,p3,p4,p5⟩:=R.own i _ e
  cases p5 with
  | p p5 =>
   cases p5 with
   | l r=>exact ⟨_,_,_,ds,_,e,p1,p4,r,fun ys es F' q=>.p (.l q),h⟩
 ·exact h.elim
theorem Mv.write {K:W.Frag}{B:Hp×Hp}{ρ:Rho}{σ:St}{F H:Hp}{i:Nat}{a:Addr}{h':HO}{o o':OD} (R:Rel K B ρ σ F H) (e:ρ[i]?=some (some (.own o))) (hs:σ[i]?=some (some (.ref a))) (h4:Ro K F a h' o') :
  Mv K B ρ σ F H (ρ.set i (some (.own o'))) F (upd H a h'):=by
 refine ⟨R.write e hs h4,?_,Same.refl F,fun b u n q=>?_,fun b n _=>n⟩
 ·apply List.ext_getElem?
  intro j
  rw [u1I,u1I]
  by_cases c:j=i
  ·subst c;rw [u4i (List.getElem?_eq_some_iff.mp e).1,e];rfl
  ·rw [u0x c]
 ·rw [u0j (fun z=>by subst z;exact n i o e hs)];exact q
theorem u6o {K:W.Frag}{F:Hp}{xs:List V}{ds:List D}{d:D} (r:Rps K F xs ds) (h:ds.getLast?=some d):∃ y,xs[xs.length - 1]?=some y∧Rp K F y d:=by
 rw [List.getLast?_eq_getElem?] at h
 rw [r.length]
 exact r.get h
theorem u5h {K:W.Frag}{F:Hp}{xs:List V}{ds:List D} (r:Rps K F xs ds):Rps K F xs.dropLast ds.dropLast:=by
 rw [List.dropLast_eq_take,List.dropLast_eq_take,r.length]
 exact r.take _
noncomputable def popW (ρ:Rho) (i:Nat) (w:(List D→OD)×List D):Res (D×Rho):=match w.2.getLast? with
 | some d=>.ok (d,ρ.set i (some (.own (w.1 w.2.dropLast))))
 | none=>.bad
section
variable {X:Cx}{x:Str}{p apos cpos:Pos}
theorem x_pop (i:Nat) (hN:X.N[i]?=some x:=by rfl) (hv:Vis X.env.scope x:=by first | exact Or.inl rfl | exact Or.inr (Or.inl rfl) | exact Or.inr (Or.inr rfl)) (hd:(x==("__debug__":Str))=false:=by decide) (hcd:(x==("__classdict__":Str))=false:=by decide)
  (hbase:attributeBase (.Name x p) "pop" X.env (eval (.Name x p) X.env)=eval (.Name x p) X.env:=by rfl) (hline:(apos.endLine==cpos.line)=true:=by rfl) :
  DX X (.Call (.Attribute (.Name x p) "pop" apos) [] [] cpos) (fun ρ=>(getW ρ i).bind (popW ρ i)) :=
 DX.of (v1v PySem.F.plainAttrs_list PySem.F.slot_list_pop PySem.F.type_list_pop mt_pop (u1i hN hv hd hcd) hbase hline) fun B F ρ σ H Q R q=>by
  obtain ⟨o,a,xs,ds,mk,e1,e2,e3,r,hmk,q1⟩:=getW_ok R (Res.all_bind.mp q)
  unfold popW at q1
  dsimp only at q1
  split at q1
  ·rename_i d hl
   obtain ⟨y,hy,py⟩:=u6o r hl
   exact ⟨.ref a,e2,.inl ⟨rfl,_,.inl (.inl e3)⟩,a,xs,y,rfl,rfl,e3,hy,q1 y F _ (Mv.write R e1 e2 (hmk _ _ F (u5h r))) py⟩
  ·exact q1.elim
end
noncomputable def fldV (Cs:List Addr) (f:Str):D→Res D
 | .ins C gs=>if C∈Cs then (match gs.lookup f with | some d=>.ok d | none=>.bad) else .bad
 | _=>.bad
section
variable {X:Cx}{xq:XQ}{o e:Expr}{es:List Expr}{fo:Rho→Res D}{fs:Rho→Res (List D)}{f m:Str}{p pos apos:Pos}{Cs:List Addr}
theorem u0O {K:W.Frag} (c:∀ C∈Cs,Cls K C∧NoAttr K C f) (ho:DE X xq o fo) (eK:X.K=K:=by rfl) (hb:attributeBase o f X.env (eval o X.env)=eval o X.env:=by rfl):DE X xq (.Attribute o f pos) (fun ρ=>(fo ρ).bind (fldV Cs f)):=by
 subst eK
 refine DE.of (v1u ho.out hb) fun B F ρ σ H Q R q=>seqE R q fun d v F1 H1 s1 R1 p1 q1=>?_
 cases p1 with
 | @ins a C dx gs0 gs h1 h2 =>
  unfold fldV at q1
  dsimp only at q1
  by_cases hc:C∈Cs
  ·rw [if_pos hc] at q1
   cases hl:gs.lookup f with
   | none=>rw [hl] at q1;exact q1.elim
   | some d =>
    rw [hl] at q1
    obtain ⟨v,hv,pv⟩:=h2.lookup hl
    exact ⟨a,C,dx,gs0,v,rfl,R1.fh _ _ h1,(c C hc).1,(c C hc).2,hv,q1 v F1 H1 s1 pv⟩
  ·rw [if_neg hc] at q1;exact q1.elim
 | _=>exact q1.elim
noncomputable def isV (Cs:List Addr) (m:Str) (x:D):Res (Addr×D):=match x with
 | .ins C gs=>if C∈Cs∧gs.lookup m=none then .ok (C,x) else .bad
 | _=>.bad
theorem u7p {K:W.Frag}{F:Hp}{v:V}{d:D}{P:Addr×D→Prop}{E:D→Prop} (p:Rp K F v d) (h:(isV Cs m d).all P E):∃ C a dx fs,C∈Cs∧v=.ref a∧F a=some (.ins C dx fs)∧fs.lookup m=none∧P (C,d):=by
 cases p with
 | @ins a C dx fs gs h1 h2 =>
  unfold isV at h
  dsimp only at h
  by_cases hc:C∈Cs∧gs.lookup m=none
  ·rw [if_pos hc] at h
   exact ⟨C,a,dx,fs,hc.1,rfl,h1,u3F h2 hc.2,h⟩
  ·rw [if_neg hc] at h;exact h.elim
 | _=>exact h.elim
theorem u2z {P:Program}{w:World}{K:W.Frag}{mg:MG}{base:Heap}{k k':Nat}{ps:List Str}{g:Addr→List D→Res D}{pl:Sem Bool} (hq:XqOk X xq) (h:∀ C∈Cs,MCallee P w K mg base k C m ps (g C)) (hr:Room k' X.A) (ho:DE X xq o fo) (hk:k≤k':=by decide)
  (eP:X.prog=P:=by rfl) (ew:X.w=w:=by rfl) (eK:X.K=K:=by rfl) (em:X.mg=mg:=by rfl) (eb:X.base=base:=by rfl)
  (ht:eval (.Call (.Attribute o m apos) [] [] pos) X.env=(do
   let ov ← eval o X.env
   standAt apos.atName
   let (f,first) ← holding [ov] (getMethod ov m pl)
   callWith pos f first (backTo pos (starEach [] X.env)) (backToKw pos (keywordEach [] X.env))):=by rfl) :
  DE X xq (.Call (.Attribute o m apos) [] [] pos) (fun ρ=>(fo ρ).bind fun x=>(isV Cs m x).bind fun y=>g y.1 [y.2]):=⟨fun pins s σ H Q I z9=>un5 z9 fun B F ρ R q=>by
 subst eP ew eK em eb
 refine W.methodCall_KW (pl:=pl) (thn (ho.out pins s σ H (fun x H1=>∃ C a dx fs0,C∈Cs∧x=.ref a∧H1 a=some (.ins C dx fs0)∧fs0.lookup m=none∧spX X.K (g C) [.ref a] H1 Q (fun u _ H'=>∃ a,u=.ref a∧xq (.ref a) σ H')) I (seqE R q fun d v F1 H1 s1 R1 p1 q1=>?_)) fun u s1 ⟨x,H1,I1,rx,C,a,dx,fs0,hC,ex,ea,l,q⟩=>?_) ht
 ·obtain ⟨C,a,dx,fs0,hC,rfl,e1,e2,q2⟩:=u7p p1 (Res.all_bind.mp q1)
  exact ⟨C,a,dx,fs0,hC,rfl,R1.fh _ _ e1,e2,u8t R1 (.cons p1 .nil) s1 q2⟩
 ·subst ex
  obtain rfl:u=Value.ref a:=rx
  obtain ⟨fa,fd,c,hm,G,hb⟩:=h C hC
  refine u1V I1 ea c hm l ?_
  exact W.callWith_K0 (first:=[.ref a]) I1.kIn hm.kp (u3w (us:=[.ref a]) (vs:=[.ref a]) hq G (hr.mono hk) hb .nil I1 (.cons rfl .nil) q)⟩
theorem u4W {P:Program}{w:World}{K:W.Frag}{mg:MG}{base:Heap}{k k':Nat}{ps:List Str}{g:Addr→List D→Res D}{pl:Sem Bool} (hq:XqOk X xq) (h:∀ C∈Cs,MCallee P w K mg base k C m ps (g C)) (hr:Room k' X.A) (ho:DE X xq o fo) (ha:DA X xq (e::es) fs) (hk:k≤k':=by decide)
  (eP:X.prog=P:=by rfl) (ew:X.w=w:=by rfl) (eK:X.K=K:=by rfl) (em:X.mg=mg:=by rfl) (eb:X.base=base:=by rfl)
  (ht:eval (.Call (.Attribute o m apos) (e::es) [] pos) X.env=(do
   let ov ← eval o X.env
   standAt apos.atName
   let (f,first) ← holding [ov] (getMethod ov m pl)
   callWith pos f first (backTo pos (starEach (e::es) X.env)) (backToKw pos (keywordEach [] X.env))):=by rfl) :
  DE X xq (.Call (.Attribute o m apos) (e::es) [] pos) (fun ρ=>(fo ρ).bind fun x=>(isV Cs m x).bind fun y=>(fs ρ).bind fun ds=>g y.1 (y.2::ds)):=⟨fun pins s σ H Q I z9=>un5 z9 fun B F ρ R q=>by
 subst eP ew eK em eb
 refine W.methodCall_KW (pl:=pl) (thn (ho.out pins s σ H (fun x H1=>∃ C a dx fs0,C∈Cs∧x=.ref a∧H1 a=some (.ins C dx fs0)∧fs0.lookup m=none∧liftA X.K xq fs σ H1 fun vs H2=>spX X.K (g C) (.ref a::vs) H2 Q (fun u _ H'=>∃ a,u=.ref a∧xq (.ref a) σ H')) I (seqE R q fun d v F1 H1 s1 R1 p1 q1=>?_)) fun u s1 ⟨x,H1,I1,rx,C,a,dx,fs0,hC,ex,ea,l,q⟩=>?_) ht
 ·obtain ⟨C,a,dx,fs0,hC,rfl,e1,e2,q2⟩:=u7p p1 (Res.all_bind.mp q1)
  exact ⟨C,a,dx,fs0,hC,rfl,R1.fh _ _ e1,e2,seqA R1 q2 fun ds vs F2 H2 s2 R2 p2 q3=>u8t R2 (.cons (p1.same s2.ff) p2) (s1.trans s2) q3⟩
 ·subst ex
  obtain rfl:u=Value.ref a:=rx
  obtain ⟨fa,fd,c,hm,G,hb⟩:=h C hC
  refine u1V I1 ea c hm l ?_
  refine W.callWith_K (first:=[.ref a]) (h₀:=X.base) I.ok.mod.kin hm.kp (thn (ha.out pos pins s1 σ H1 _ I1 q) fun us s2 ⟨vs,H2,I2,r,q2⟩=>⟨I2.kIn,?_⟩) (u0k (u0h ha.ns).1) (u0D (u0h ha.ns).2)
  exact u3w (us:=.ref a::us) (vs:=.ref a::vs) hq G (hr.mono hk) hb .nil I2 (.cons rfl r) (by rw [List.append_nil];exact q2)⟩
end
theorem tyN_mem {d:D}{t:String} (h:tyN d=some t):t∈["NoneType","bool","int","str","list","tuple","dict"]:=by
 cases d <;> simp only [tyN,Option.some.injEq,reduceCtorEq] at h <;> subst h <;> decide
structure InK (K:W.Frag) (C:Addr):Prop where
 cl:Cls K C
 ha:W.findIn K (.ref C) "__class__"=some (some (.builtin "object.__class__"))
 hn:W.specialIn K (.builtin "object.__class__") "__get__"=some (some (.builtin "getset_descriptor.__get__"))
 ht:W.takesIn K (.builtin "object.__class__")=some true
 hm:W.mroIn K C (.type "object")=some true
structure IsO (K:W.Frag) (C:Addr) (ti tx:List (Addr×Bool)):Prop where
 i:∀ p∈ti,InK K p.1∧W.kitOne K (.ref p.1) (.ref C)=some p.2
 x:∀ p∈tx,(∃ f,XCls K p.1 f)∧W.kitOne K (.ref p.1) (.ref C)=some p.2
 b:∀ T∈["NoneType","bool","int","str","list","tuple","dict"],W.kitOne K (.type T) (.ref C)=some false
noncomputable def lookB (t:List (Addr×Bool)) (C:Addr):Res D:=match t.lookup C with
 | some b=>.ok (.bl b)
 | none=>.bad
noncomputable def isO (ti tx:List (Addr×Bool)) (d:D):Res D:=match d with
 | .ins C _=>lookB ti C
 | .exc C _=>lookB tx C
 | d=>match tyN d with
  | some _=>.ok (.bl false)
  | none=>.bad
theorem u6A {t:List (Addr×Bool)}{C:Addr}{b:Bool} (h:t.lookup C=some b):(C,b)∈t:=by
 induction t with
 | nil=>cases h
 | cons p r ih =>
  obtain ⟨k,v⟩:=p
  rw [List.lookup_cons] at h
  by_cases q:(C==k)=true
  ·rw [q] at h
   cases h
   rw [beq_iff_eq.mp q]
   exact List.mem_cons_self
  ·rw [Bool.eq_false_iff.mpr q] at h
   exact List.mem_cons_of_mem _ (ih h)
def rIsO (K:W.Frag) (C:Addr) (ti tx:List (Addr×Bool)):List V→Hp→VK→Prop:=fun xs H Q=>∃ v F d b,xs=[v,.ref C]∧Same F H∧Rp K F v d∧isO ti tx d=.ok (.bl b)∧Q (.bl b) H
section
variable {X:Cx}{xq:XQ}{e:Expr}{fe:Rho→Res D}{x c:Str}{p pc pos:Pos}{C:Addr}{ti tx:List (Addr×Bool)}
theorem isO_bl {d y:D} (h:isO ti tx d=.ok y):∃ b,y=.bl b:=by
 unfold isO lookB at h
 split at h
 ·split at h <;> cases h;exact ⟨_,rfl⟩
 ·split at h <;> cases h;exact ⟨_,rfl⟩
 ·split at h <;> cases h;exact ⟨_,rfl⟩
theorem isO_err {d y:D}:isO ti tx d≠.err y:=by
 intro h
 unfold isO lookB at h
 split at h
 ·split at h <;> cases h
 ·split at h <;> cases h
 ·split at h <;> cases h
theorem u7i {t:List (Addr×Bool)}{C:Addr}{b:Bool} (h:lookB t C=.ok (.bl b)):(C,b)∈t:=by
 unfold lookB at h
 cases q:t.lookup C with
 | none=>rw [q] at h;cases h
 | some b'=>rw [q] at h;cases h;exact u6A q
theorem c_isO (h:IsO X.K C ti tx):CallR X (.builtin "isinstance") (rIsO X.K C ti tx):=by
 intro pins s σ H xs us Q I r ⟨v,F,d,b,exs,fh,pv,hd,q⟩
 subst exs
 obtain ⟨u,u',rfl,ru,ru'⟩:=vals2 r
 cases (show u'=Value.ref C from ru')
 have fin:∀ tk,∃ v H',Inv X pins σ H' { s with toks:=tk }∧RelV v (.bool b)∧Q v H':=fun tk=>⟨.bl b,H,I.tok _,rfl,q⟩
 cases ht:tyN d with
 | some t =>
  obtain ⟨Hh,Z,hh,ne⟩:=v1w I ru fh pv ht
  have eb:b=false:=by
   cases d <;> simp only [tyN,reduceCtorEq] at ht <;> (unfold isO at hd;simp only [tyN] at hd;cases hd;rfl)
  subst eb
  exact W.kia_one Z I.kIn hh (h.b t (tyN_mem ht)) ne fun tk=>fin tk
 | none =>
  cases pv with
  | @ins a C' dx fs gs h1 h2 =>
   cases (show u=Value.ref a from ru)
   obtain ⟨K1,e⟩:=h.i _ (u7i (show lookB ti C'=.ok (.bl b) from hd))
   exact u0V I (show RelV (.ref a) (.ref a) from rfl) (.ins (fh _ _ h1) K1.cl K1.ha K1.hn K1.ht K1.hm) e fin
  | @exc a C' dx fs gs h1 h2 h3 =>
   cases (show u=Value.ref a from ru)
   obtain ⟨⟨f,K1⟩,e⟩:=h.x _ (u7i (show lookB tx C'=.ok (.bl b) from hd))
   obtain ⟨xa,_⟩:=(show ObjOk X.prog X.w H s.heap a (XO C' (some dx) a) from I.hok a _ (fh _ _ h1))
   obtain ⟨⟨mA,n,_⟩,_⟩:=(show ObjOk X.prog X.w H s.heap dx (DXO dx fs) from I.hok dx _ (fh _ _ h2))
   obtain ⟨od,_,_,qd,_⟩:=n
   obtain ⟨ox,J⟩:=xa.inst qd
   exact W.kia_one (v0J (dx:=none) (od:=none) K1) I.kIn ⟨ox,_,J⟩ e (fun z=>nomatch z) fin
  | ty T=>simp only [isO,tyN] at hd;cases hd
  | dn _ _=>simp only [isO,tyN] at hd;cases hd
  | _=>cases ht
theorem u6K {K:W.Frag}{mg:MG} (h:IsO K C ti tx) (hC:mg c=some (.ref C)) (hm:mg x=none) (hv:bootBuiltins x=some (.builtin "isinstance")) (ha:DE X xq e fe) (eK:X.K=K:=by rfl) (em:X.mg=mg:=by rfl) (hs:notStar e=true:=by rfl) (hg:Gl X x:=by rfl) (hgc:Gl X c:=by rfl)
  (hn:x≠"__name__":=by decide) (hdb:(x==("__debug__":Str))=false:=by decide) (hdc:(c==("__debug__":Str))=false:=by decide) :
  DE X xq (.Call (.Name x p) [e,.Name c pc] [] pos) (fun ρ=>(fe ρ).bind (isO ti tx)):=by
 subst eK em
 refine DE.of (pcB (c_isO h) hg hm hv (pac ha.out (pac (pe_glob hgc hC (show RelV (.ref C) (.ref C) from rfl) hdc) u2Z) hs) hn hdb (by simp only [List.all_cons,hs];rfl)) fun B F ρ σ H Q R q=>seqE R q fun d v F1 H1 s1 R1 p1 q1=>?_
 cases hd:isO ti tx d with
 | bad=>rw [hd] at q1;exact q1.elim
 | err y=>exact absurd hd isO_err
 | ok y =>
  rw [hd] at q1
  obtain ⟨b,rfl⟩:=isO_bl hd
  exact ⟨v,F1,d,b,rfl,R1.fh,p1,hd,q1 _ _ _ s1 (.bl b)⟩
end
noncomputable def intsOf:List D→Option (List Int)
 | []=>some []
 | .int i::r=>(intsOf r).map (i::·)
 | _=>none
noncomputable def gSum:List D→Res D
 | [.lst ds]=>match intsOf ds with
  | some is=>.ok (.int is.sum)
  | none=>.bad
 | _=>.bad
section
variable {X:Cx}{F:Hp}{K:W.Frag}
theorem u2i:∀ {ds:List D}{is:List Int}{xs:List V}{us:List Value},intsOf ds=some is→Rps K F xs ds→Vals xs us→us.length=is.length∧∀ (i:Nat) (v:Value),us[i]?=some v→∃ t,v=Value.int (is.getD i 0) t
 | [],_,_,_,e,p,r=>by cases e;cases p;cases r;exact ⟨rfl,fun i v h=>by simp at h⟩
 | d::ds,is,_,_,e,p,r=>by
  cases d <;> simp only [intsOf,reduceCtorEq] at e
  rename_i n
  cases q:intsOf ds with
  | none=>rw [q] at e;cases e
  | some is' =>
   rw [q] at e
   cases e
   cases p with
   | cons p1 p2 =>
    cases p1
    cases r with
    | cons r1 r2 =>
     obtain ⟨t,rfl⟩:=r1
     obtain ⟨l1,l2⟩:=u2i q p2 r2
     refine ⟨by simp [l1],fun i v h=>?_⟩
     cases i with
     | zero=>simp only [List.getElem?_cons_zero,Option.some.injEq] at h;exact ⟨t,by rw [← h];rfl⟩
     | succ i=>rw [List.getElem?_cons_succ] at h;obtain ⟨t,ht⟩:=l2 i v h;exact ⟨t,by rw [ht];rfl⟩
theorem u5k (is:List Int):∀ n,n≤is.length→preSum (fun i=>is.getD i 0) n=(is.take n).sum
 | 0,_=>by simp [preSum]
 | n+1,h=>by
  rw [preSum,u5k is n (by omega),List.take_add_one,List.sum_append]
  congr 1
  rw [List.getD_eq_getElem?_getD,List.getElem?_eq_getElem (by omega)]
  simp
theorem c_sum (hc:X.calm=true):CallR X (.builtin "sum") (rDs X.K gSum):=by
 intro pins s σ H xs us Q I r ⟨F,ds,fh,ps,q⟩
 unfold gSum at q
 split at q
 ·rename_i ds
  obtain ⟨v,rfl,pv⟩:=rps1 ps
  cases pv with
  | @lst l zs _ hq hs =>
   cases hb:intsOf ds with
   | none=>simp only [hb] at q;exact q.elim
   | some is =>
    simp only [hb] at q
    obtain ⟨u,rfl,ru⟩:=vals1 r
    cases (show u=Value.ref l from ru)
    obtain ⟨z,its,n,rv,hl,e⟩:=I.lstR (hq.same fh)
    obtain ⟨l1,l2⟩:=u2i hb hs rv
    have hL:s.heap.IsList l its.toArray:=⟨_,e,rfl,n,rfl⟩
    have hlt:l<s.heap.objs.size:=Heap.lt_size e
    refine call_sum_walkAnyS (wpAny_pyIter_list hL ⟨_,_,_,_,_,_,_,fun i=>is.getD i 0,rfl,(Walks.list (A:=X.A.in1) (I.ok.hd hc) s.heap.objs.size l (Nat.ne_of_lt hlt) its.toArray).toS,⟨⟨_,Heap.get?_push_size _ rfl,rfl,rfl⟩,hL.push _⟩,fun b hb=>?_,fun i v h=>l2 i v (by simpa using h),fun s' t' m=>?_⟩)
    ·show b<(s.heap.push _).objs.size
     rw [Heap.size_push]
     rcases List.mem_cons.mp hb with rfl | hb
     ·exact Nat.lt_succ_self _
     ·rcases List.mem_cons.mp hb with rfl | hb
      ·exact Nat.lt_succ_of_lt hlt
      ·cases hb
    ·obtain ⟨h',g',d',tk',os'⟩:=s'
     obtain ⟨m1,m2,m3,m4,m5⟩:=m
     cases m2;cases m3;cases m4
     have I2:Inv X pins σ H { s with heap:=h',toks:=tk' }:=I.kept fun b o eb=>m1 b o (fun hm=>by
      rcases List.mem_cons.mp hm with e1 | hm
      ·exact absurd (e1 ▸ Heap.lt_size eb) (Nat.lt_irrefl _)
      ·cases hm) (Heap.get?_push_of_some _ eb)
     refine ⟨.int is.sum,H,I2,⟨t',?_⟩,q _ F H (Stp.refl fh) (.int _)⟩
     rw [u5k is _ (by simp [l1])]
     simp [l1]
 ·exact q.elim
end
theorem md_args (a v:Value):argsOk "max" ⟨[a],[(Str.ofString "default",v)]⟩:=by unfold argsOk;kernel_rfl
section
variable {prog:Program}{w:World}{A:Around}{R:Result→Shared→Prop}{I:Addr}{fp wr:List Addr}{n:Nat}{P:Nat→Value→Prop}{St:Nat→Heap→Prop}{kw:List (Str×Value)}
theorem md_loop (W:Walks prog w A.in1 I fp wr n P St) (bt:Nat→Nat→Bool) (hcmp:CmpOf prog w A.in1 .Gt P bt) (S:Addr) (hSf:S∉fp) :
  ∀ (k j:Nat) (s:Shared) (vb:Value) (c:Nat),n - (j+1)=k→j+1≤n→St (j+1) s.heap→P (argBest bt j) vb →
  s.heap.get? S=some { cls:=.type "list",dict:=none,data:=.seq #[vb,vb] c,slots:=#[] } →
  (∀ v h' tk,P (argBest bt (n - 1)) v→(∀ b o,b∉wr→b≠S→s.heap.get? b=some o→h'.get? b=some o)→R (.ok (.ret v)) { s with heap:=h',toks:=tk }) →
  codeAny (model prog w) A (.builtin "max.loop" ⟨[.ref I,.none,.ref S],kw⟩) R s:=by
 have hSw:S∉wr:=fun h=>hSf (W.sub _ h)
 have hname:(toString "max"++toString ".loop":String)="max.loop":=by decide
 intro k
 induction k with
 | zero =>
  intro j s vb c hk hj hst hPb hS hR
  have hin:j+1=n:=by omega
  refine codeAny_builtin F.entry_max_loop ?_
  rw [Around.under_plainId F.plain_max_loop _]
  show wpAny _ A.in1 (seqItems? (.ref S) >>= _) _ _ s
  refine wpAny_bind (wpAny_seqItems hS rfl ?_)
  show wpAny _ A.in1 (tryCatch (pyNext (.ref I)) _ >>= _) _ _ s
  refine wpAny_bind (wpAny_tryCatch (W.done s _ _ (hin ▸ hst) fun h' tk hk'=>?_))
  have hS':=hk' S _ hSw hS
  show wpAny _ A.in1 (updateSeq S (fun _=>#[]) >>= _) _ _ _
  refine wpAny_bind ?_
  refine wpAny_updateSeq hS' rfl (wpAny_bind (wpAny_letGo (wpAny_pure ?_)))
  refine hR vb _ tk (by rw [← hin];exact hPb) fun b o hbw hbS e=>(Heap.get?_update_other _ _ (Ne.symm hbS)).trans (hk' b o hbw e)
 | succ k ih =>
  intro j s vb c hk hj hst hPb hS hR
  have hlt:j+1<n:=by omega
  refine codeAny_builtin F.entry_max_loop ?_
  rw [Around.under_plainId F.plain_max_loop _]
  show wpAny _ A.in1 (seqItems? (.ref S) >>= _) _ _ s
  refine wpAny_bind (wpAny_seqItems hS rfl ?_)
  show wpAny _ A.in1 (tryCatch (pyNext (.ref I)) _ >>= _) _ _ s
  refine wpAny_bind (wpAny_tryCatch (W.item (j+1) s _ _ hlt hst fun v h' tk hP hst' hk'=>?_))
  have hS':=hk' S _ hSw hS
  show wpAny _ A.in1 (tryCatch (holding [v,v] (richCompare .Gt v vb >>= _)) _ >>= _) _ _ _
  refine wpAny_bind (wpAny_tryCatch (wpAny_holding (wpAny_bind (hcmp (j+1) (argBest bt j) v vb _ _ _ hP hPb ?_))))
  refine wpAny_bind (wpAny_holding (wpAny_truthy_bool ?_))
  refine wpAny_bind (wpAny_letGo (wpAny_pure ?_))
  cases hb:bt (j+1) (argBest bt j) with
  | true =>
   simp only [if_true]
   refine wpAny_bind ?_
   refine wpAny_updateSeq hS' rfl (wpAny_bind (wpAny_letGo ?_))
   rw [hname]
   refine wpAny_pure ⟨plainId_quiet F.plain_max_loop _,ih (j+1) _ v _ (by omega) hlt (W.frame _ _ _ hst' fun b hbf o e=>?_) (by simp only [argBest,hb,if_true];exact hP) (Heap.get?_update_self _ hS' rfl)
    fun v' h'' tk'' hP' hk''=>?_⟩
   ·exact (Heap.get?_update_other _ _ (fun h:S=b=>hSf (by rw [h];exact hbf))).trans e
   ·exact hR v' h'' tk'' hP' fun b o hbw hbS e=>hk'' b o hbw hbS ((Heap.get?_update_other _ _ (Ne.symm hbS)).trans (hk' b o hbw e))
  | false =>
   simp only [Bool.false_eq_true,if_false]
   refine wpAny_bind (wpAny_letGo ?_)
   rw [hname]
   refine wpAny_pure ⟨plainId_quiet F.plain_max_loop _,ih (j+1) _ vb c (by omega) hlt hst' (by simp only [argBest,hb,Bool.false_eq_true,if_false];exact hPb) hS' fun v' h'' tk'' hP' hk''=>?_⟩
   exact hR v' h'' tk'' hP' fun b o hbw hbS e=>hk'' b o hbw hbS (hk' b o hbw e)
theorem v0B (W:Walks prog w A.in1 I fp wr n P St) (bt:Nat→Nat→Bool) (hcmp:CmpOf prog w A.in1 .Gt P bt) (S:Addr) (hSf:S∉fp) {s:Shared}{c:Nat}{nm:Str}{dv:Value} (hst:St 0 s.heap)
  (hS:s.heap.get? S=some { cls:=.type "list",dict:=none,data:=.seq #[] c,slots:=#[] })
  (hR:∀ v h' tk,(if n=0 then v=dv else P (argBest bt (n - 1)) v)→(∀ b o,b∉wr→b≠S→s.heap.get? b=some o→h'.get? b=some o)→R (.ok (.ret v)) { s with heap:=h',toks:=tk }) :
  codeAny (model prog w) A (.builtin "max.loop" ⟨[.ref I,.none,.ref S],[(nm,dv)]⟩) R s:=by
 have hSw:S∉wr:=fun h=>hSf (W.sub _ h)
 have hname:(toString "max"++toString ".loop":String)="max.loop":=by decide
 refine codeAny_builtin F.entry_max_loop ?_
 rw [Around.under_plainId F.plain_max_loop _]
 show wpAny _ A.in1 (seqItems? (.ref S) >>= _) _ _ s
 refine wpAny_bind (wpAny_seqItems hS rfl ?_)
 show wpAny _ A.in1 (tryCatch (pyNext (.ref I)) _ >>= _) _ _ s
 by_cases hn:n=0
 ·refine wpAny_bind (wpAny_tryCatch (W.done s _ _ (by rw [hn];exact hst) fun h' tk hk'=>?_))
  refine wpAny_bind (wpAny_rule (wpAny_pure ?_))
  exact hR dv h' tk (by rw [if_pos hn]) fun b o hbw _ e=>hk' b o hbw e
 ·refine wpAny_bind (wpAny_tryCatch (W.item 0 s _ _ (by omega) hst fun v h' tk hP hst' hk'=>?_))
  have hS':=hk' S _ hSw hS
  show wpAny _ A.in1 (updateSeq S (fun _=>#[v,v]) >>= _) _ _ _
  refine wpAny_bind ?_
  refine wpAny_updateSeq hS' rfl ?_
  rw [hname]
  refine wpAny_pure ⟨plainId_quiet F.plain_max_loop _,md_loop W bt hcmp S hSf _ 0 _ v _ rfl (by omega) (W.frame _ _ _ hst' fun b hbf o e=>?_) hP (Heap.get?_update_self _ hS' rfl) fun v' h'' tk'' hP' hk''=>?_⟩
  ·exact (Heap.get?_update_other _ _ (fun h:S=b=>hSf (by rw [h];exact hbf))).trans e
  ·exact hR v' h'' tk'' (by rw [if_neg hn];exact hP') fun b o hbw hbS e=>hk'' b o hbw hbS ((Heap.get?_update_other _ _ (Ne.symm hbS)).trans (hk' b o hbw e))
end
section
variable {prog:Program}{w:World}{A:Around}{E:VP}{s:Shared}
theorem md_call {l:Addr}{its:List Value}{c:Nat}{is:List Int}{dv:Value}{Q:VP} (hh:A.handled=none) (e:s.heap.get? l=some { cls:=.type "list",data:=.seq its.toArray c }) (l1:its.length=is.length)
  (l2:∀ (i:Nat) (v:Value),its[i]?=some v→∃ t,v=Value.int (is.getD i 0) t)
  (h:∀ v h' tk,(if is.length=0 then v=dv else ∃ t,v=.int (is.getD (argBest (fun i j=>decide (is.getD i 0 > is.getD j 0)) (is.length - 1)) 0) t)→(∀ b o,s.heap.get? b=some o→h'.get? b=some o)→Q v { s with heap:=h',toks:=tk }) :
  wpAny (model prog w) A (call (.builtin "max") [.ref l] [(Str.ofString "default",dv)]) Q E s:=by
 have hname:(toString "max"++toString ".loop":String)="max.loop":=by decide
 have hL:s.heap.IsList l its.toArray:=⟨_,e,rfl,c,rfl⟩
 have hlt:l<s.heap.objs.size:=Heap.lt_size e
 refine PyProof.Rows.kmk_tree PySem.F.kind_max PySem.F.plain_max PySem.F.entry_max (md_args _ _) ?_
 show wpAny _ A.in1 (Builtin.Builtins.bindParams "max" ["key","default"] 0 ⟨[],[(Str.ofString "default",dv)]⟩ >>= _) _ _ s
 refine wpAny_bind (wpAny_of_eq (show Builtin.Builtins.bindParams "max" ["key","default"] 0 ⟨[],[(Str.ofString "default",dv)]⟩=pure [none,some dv] from rfl) ?_)
 refine wpAny_bind (wpAny_pure ?_)
 refine wpAny_bind (wpAny_pyIter_list hL ?_)
 refine wpAny_bind (wpAny_newObj_type ?_)
 have hS:(s.heap.push { cls:=.type "list_iterator",data:=.fields #[.ref l,.int 0 0] }).objs.size=s.heap.objs.size+1:=Heap.size_push ..
 rw [hname]
 have W:=Walks.list (prog:=prog) (w:=w) (A:=A.in1) hh s.heap.objs.size l (Nat.ne_of_lt hlt) its.toArray
 refine wpAny_pure ⟨plainId_quiet F.plain_max_loop _,v0B W (fun i j=>decide (is.getD i 0 > is.getD j 0)) (CmpOf.ints_gt _ fun i v h=>l2 i v (by simpa using h)) _ (fun hm=>?_) (W.frame _ _ _ ⟨⟨_,Heap.get?_push_size _ rfl,rfl,rfl⟩,hL.push _⟩ fun b _ o e=>Heap.get?_push_of_some _ e) (Heap.get?_push_size _ rfl) fun v h' tk hv hk=>?_⟩
 ·rw [hS] at hm
  rcases List.mem_cons.mp hm with q | hm
  ·exact absurd q (Nat.ne_of_gt (Nat.lt_succ_self _))
  ·rcases List.mem_cons.mp hm with q | hm
   ·exact absurd q (Nat.ne_of_gt (Nat.lt_succ_of_lt hlt))
   ·cases hm
 ·refine h v h' tk ?_ fun b o eb=>hk b o (fun hm=>?_) ?_ (Heap.get?_push_of_some _ (Heap.get?_push_of_some _ eb))
  ·have hz:its.toArray.size=is.length:=by simp [l1]
   rw [hz] at hv
   by_cases q:is.length=0
   ·rw [if_pos q] at hv ⊢;exact hv
   ·rw [if_neg q] at hv ⊢;exact l2 _ _ (by simpa using hv)
  ·rcases List.mem_cons.mp hm with q | hm
   ·exact absurd (q ▸ Heap.lt_size eb) (Nat.lt_irrefl _)
   ·cases hm
  ·rw [hS]
   exact Nat.ne_of_lt (Nat.lt_succ_of_lt (Heap.lt_size eb))
end
noncomputable def mx2 (a b:Int):Int:=if b > a then b else a
noncomputable def gMaxD:D→D→Res D
 | .lst ds,d=>match intsOf ds with
  | some []=>.ok d
  | some (i::r)=>.ok (.int (r.foldl mx2 i))
  | none=>.bad
 | _,_=>.bad
theorem u5X (i:Int) (r:List Int):∀ k,k≤r.length→(i::r).getD (argBest (fun a b=>decide ((i::r).getD a 0 > (i::r).getD b 0)) k) 0=(r.take k).foldl mx2 i
 | 0,_=>by simp [argBest]
 | k+1,h=>by
  have ih:=u5X i r k (by omega)
  have e:r.take (k+1)=r.take k++[r.getD k 0]:=by
   rw [List.take_add_one,List.getD_eq_getElem?_getD,List.getElem?_eq_getElem (by omega)]
   rfl
  rw [e,List.foldl_append]
  generalize (r.take k).foldl mx2 i=m at ih ⊢
  show _=mx2 m (r.getD k 0)
  unfold argBest
  have e2:(i::r).getD (k+1) 0=r.getD k 0:=rfl
  by_cases q:r.getD k 0 > m
  ·rw [if_pos (by rw [decide_eq_true_eq,ih,e2];exact q),e2,mx2,if_pos q]
  ·rw [if_neg (by rw [decide_eq_true_eq,ih,e2];exact q),ih,mx2,if_neg q]
section
variable {X:Cx}{xq:XQ}{e de:Expr}{fe fd:Rho→Res D}{x:Str}{p kp pos:Pos}
theorem d_maxD (hc:X.calm=true) (hm:X.mg x=none) (hv:bootBuiltins x=some (.builtin "max")) (ha:DE X xq e fe) (hd:DE X xq de fd) (hs:notStar e=true:=by rfl) (hg:Gl X x:=by rfl) (hn:x≠"__name__":=by decide) (hdb:(x==("__debug__":Str))=false:=by decide) :
  DE X xq (.Call (.Name x p) [e] [⟨some "default",de,kp⟩] pos) (fun ρ=>(fe ρ).bind fun a=>(fd ρ).bind fun b=>noE (gMaxD a b)):=⟨fun pins s σ H Q I z9=>un5 z9 fun B F ρ R q=>by
 refine wpAny_Call_Name_kw (u1C I hg hm hv ?_ hn hdb)
 have PA1:=pac ha.out (u2Z (X:=X)) hs
 refine callWith_kw (thn (PA1 pos pins s σ H (fun vs H1=>∃ v F1 d1,vs=[v]∧Stp F H F1 H1∧Rel X.K B ρ σ F1 H1∧Rp X.K F1 v d1∧((fd ρ).bind fun b=>noE (gMaxD d1 b)).all (fun d=>∀ v F' H',Stp F H F' H'→Rp X.K F' v d→Q v H') (ErrK X.K xq B ρ σ)) I (seqE R q fun d v F1 H1 s1 R1 p1 q1=>⟨v,F1,d,rfl,s1,R1,p1,q1⟩)) fun us s1 ⟨vs,H1,I1,r1,v,F1,d1,ev,st1,R1,p1,q1⟩=>?_) ?_ ?_
 ·subst ev
  obtain ⟨u,rfl,ru⟩:=vals1 r1
  refine kws_cons (thn (hd.out pins s1 σ H1 (fun v2 H2=>∃ F2 d2,Stp F1 H1 F2 H2∧Rp X.K F2 v2 d2∧(noE (gMaxD d1 d2)).all (fun d=>∀ v F' H',Stp F H F' H'→Rp X.K F' v d→Q v H') (ErrK X.K xq B ρ σ)) I1 (seqE R1 q1 fun d v F2 H2 s2 R2 p2 q2=>⟨F2,d,s2,p2,q2⟩)) fun u2 s2 ⟨v2,H2,I2,r2,F2,d2,st2,p2,q2⟩=>kws_nil ?_)
  show wpAny _ _ (call (.builtin "max") [u] [(Str.ofString "default",u2)]) _ _ _
  have st:=st1.trans st2
  cases d1 with
  | lst ds =>
   cases p1 with
   | @lst l zs _ hq hs =>
    cases (show u=Value.ref l from ru)
    obtain ⟨z,its,n,rv,hl,el⟩:=I2.lstR ((hq.same st2.ff).same st2.fh)
    cases hb:intsOf ds with
    | none=>simp only [gMaxD,hb,noE] at q2;exact q2.elim
    | some is =>
     obtain ⟨l1,l2⟩:=u2i hb hs rv
     refine md_call (I2.ok.hd hc) el l1 l2 fun w h' tk hw k=>?_
     cases is with
     | nil =>
      simp only [gMaxD,hb,noE] at q2
      cases (show w=u2 from by simpa using hw)
      exact ⟨v2,H2,I2.kept k,r2,q2 _ _ _ st p2⟩
     | cons i r =>
      simp only [gMaxD,hb,noE] at q2
      rw [if_neg (by simp)] at hw
      obtain ⟨t,rfl⟩:=hw
      have eb:=u5X i r r.length (Nat.le_refl _)
      rw [List.take_length] at eb
      refine ⟨.int (r.foldl mx2 i),H2,I2.kept k,⟨t,?_⟩,q2 _ F2 H2 st (.int _)⟩
      rw [← eb]
      rfl
  | _=>simp only [gMaxD,noE] at q2;exact q2.elim
 ·rw [u0k hs]
  rfl
 ·rw [u0k hs]
  rfl⟩
end
def ZIt (b:Bool) (h:Heap) (i l:Addr) (k:Nat):Prop:=if b then h.IsTupleIter i l k else h.IsListIter i l k
def ZSq (b:Bool) (h:Heap) (l:Addr) (xs:Array Value):Prop:=if b then h.IsTuple l xs else h.IsList l xs
section
variable {b:Bool}{h h':Heap}{i l c:Addr}{k:Nat}{xs:Array Value}
theorem ZIt.at (x:ZIt b h i l k) (e:∀ o,h.get? i=some o→h'.get? i=some o):ZIt b h' i l k:=by
 cases b
 ·exact Heap.IsListIter.at x e
 ·exact Heap.IsTupleIter.at x e
theorem ZSq.at (x:ZSq b h l xs) (e:∀ o,h.get? l=some o→h'.get? l=some o):ZSq b h' l xs:=by
 cases b
 ·exact Heap.IsList.at x e
 ·obtain ⟨o,a,r⟩:=(show h.IsTuple l xs from x);exact ⟨o,e o a,r⟩
theorem ZIt.extBut (x:ZIt b h i l k) (hs:Heap.ExtBut c h h') (n:i≠c):ZIt b h' i l k:=x.at fun o e=>hs _ _ n e
theorem ZSq.extBut (x:ZSq b h l xs) (hs:Heap.ExtBut c h h') (n:l≠c):ZSq b h' l xs:=x.at fun o e=>hs _ _ n e
theorem ZIt.lt (x:ZIt b h i l k):i<h.objs.size:=by
 cases b
 ·obtain ⟨_,e,_⟩:=(show h.IsListIter i l k from x);exact Heap.lt_size e
 ·obtain ⟨_,e,_⟩:=(show h.IsTupleIter i l k from x);exact Heap.lt_size e
theorem ZSq.lt (x:ZSq b h l xs):l<h.objs.size:=by
 cases b
 ·obtain ⟨_,e,_⟩:=(show h.IsList l xs from x);exact Heap.lt_size e
 ·obtain ⟨_,e,_⟩:=(show h.IsTuple l xs from x);exact Heap.lt_size e
end
abbrev ZG (h:Heap) (z TI TO:Addr) (f0 f1:Value):Prop :=
 h.get? z=some { cls:=.type "zip",dict:=none,data:=.fields #[f0,f1,.bool false,.ref TI,.ref TO],slots:=#[] }
def Fr0 (f:Value):Prop:=f=.none∨∃ a,f=rawInt a
section
variable {prog:Program}{w:World}{A:Around}{E:VP}{s:Shared}
theorem u9U {a:Addr}{Q:Option Obj→Shared→Prop}{M:Model} (h:Q (s.heap.get? a) s):wpAny M A (loadIfAlive a) Q E s:=fun Γ p _=>by
 unfold loadIfAlive
 rw [Sem.wp_loadIfAlive]
 exact wpAny_pure (M:=M) (A:=A) (E:=E) h Γ p ‹_›
theorem u4j {b:Bool}{it l:Addr}{i:Nat}{items:Array Value}{x:Value}{Q:VP} (hit:ZIt b s.heap it l i) (hl:ZSq b s.heap l items) (hx:items[i]?=some x)
  (hQ:∀ h',ZIt b h' it l (i+1)→Heap.SameBut it s.heap h'→Q x { s with heap:=h' }):wpAny (model prog w) A (Builtin.SmallTypes.nextOf (.ref it)) Q E s:=by
 cases b
 ·exact wpAny_nextOf_list_item hit hl hx hQ
 ·exact nx_tup hit hl hx hQ
theorem v0b {b:Bool}{it l:Addr}{i:Nat}{items:Array Value}{Q:VP} (hh:A.handled=none) (hit:ZIt b s.heap it l i) (hl:ZSq b s.heap l items) (hx:items[i]?=none)
  (hE:∀ h' e,Heap.ExtBut it s.heap h'→(∃ o,h'.get? e=some o∧o.cls=.type "StopIteration")→E (.ref e) { s with heap:=h' }):wpAny (model prog w) A (Builtin.SmallTypes.nextOf (.ref it)) Q E s:=by
 cases b
 ·exact wpAny_nextOf_list_end hh hit hl hx hE
 ·exact u7V hh hit hl hx hE
theorem v1h {z TI TO:Addr}{f0 f1:Value}{Q:Bool→Shared→Prop} (hz:ZG s.heap z TI TO f0 f1) (hf:Fr0 f0)
  (hQ:∀ b h' f1',ZG h' z TI TO f0 f1'→Heap.SameBut z s.heap h'→Q b { s with heap:=h' }):wpAny (model prog w) A (Builtin.SmallTypes.ownedTupleIsFree (.ref z)) Q E s:=by
 have hr:Heap.SameBut z s.heap s.heap:=⟨rfl,fun _ _=>rfl⟩
 unfold Builtin.SmallTypes.ownedTupleIsFree
 refine wpAny_bind (wpAny_field hz rfl (x:=f0) rfl ?_)
 rcases hf with rfl | ⟨a,rfl⟩
 ·exact wpAny_pure (hQ true s.heap f1 hz hr)
 ·show wpAny _ _ (loadIfAlive _ >>= _) _ _ _
  refine wpAny_bind (u9U ?_)
  cases hg:s.heap.get? (Int.toNat a) with
  | none=>exact wpAny_pure (hQ true s.heap f1 hz hr)
  | some o =>
   show wpAny _ _ (field (.ref z) 1 >>= _) _ _ _
   refine wpAny_bind (wpAny_field hz rfl (x:=f1) rfl ?_)
   by_cases q:(f1 != .bool true)=true
   ·rw [if_pos q]
    refine wpAny_bind (wpAny_setField_rec hz (by simp) fun h₁ hz₁ hs₁=>wpAny_pure (hQ false h₁ _ hz₁ hs₁))
   ·rw [if_neg q]
    exact wpAny_bind (wpAny_pure (wpAny_pure (hQ false s.heap f1 hz hr)))
end
section
variable {prog:Program}{w:World}{A:Around}{E:VP}{s:Shared}
theorem zg_item {b1 b2:Bool}{z TI TO i1 i2 l1 l2:Addr}{k1 k2:Nat}{xs ys:Array Value}{x y a b f0 f1:Value}{Q:VP} (D:ZipApart z TI TO i1 i2 l1 l2)
  (hz:ZG s.heap z TI TO f0 f1) (hf:Fr0 f0) (hTI:IsPair s.heap TI (.ref i1) (.ref i2)) (hTO:IsPair s.heap TO a b)
  (h1:ZIt b1 s.heap i1 l1 k1) (h2:ZIt b2 s.heap i2 l2 k2) (hl1:ZSq b1 s.heap l1 xs) (hl2:ZSq b2 s.heap l2 ys) (hx:xs[k1]?=some x) (hy:ys[k2]?=some y)
  (hQ:∀ h' f0' f1',ZG h' z TI TO f0' f1'→Fr0 f0'→(∃ a b,IsPair h' TO a b)→ZIt b1 h' i1 l1 (k1+1)→ZIt b2 h' i2 l2 (k2+1)→IsPair h' s.heap.objs.size x y→h'.objs.size=s.heap.objs.size+1 →
   (∀ c o,c≠z→c≠TO→c≠i1→c≠i2→s.heap.get? c=some o→h'.get? c=some o)→Q (.ref s.heap.objs.size) { s with heap:=h' }) :
  wpAny (model prog w) A (Builtin.«zip.__next__» ⟨[.ref z],[]⟩) (fun fin s'=>∃ v,fin=.done (.ret v)∧Q v s') E s:=by
 show wpAny _ _ (field (.ref z) 2 >>= _) _ _ _
 refine wpAny_bind (wpAny_field hz rfl (x:=.bool false) rfl ?_)
 show wpAny _ _ (field (.ref z) 3 >>= _) _ _ _
 refine wpAny_bind (wpAny_field hz rfl (x:=.ref TI) rfl ?_)
 refine wpAny_bind (wpAny_seqItems hTI rfl ?_)
 show wpAny _ _ (Builtin.SmallTypes.ownedTupleIsFree (.ref z) >>= _) _ _ _
 refine wpAny_bind (v1h hz hf fun fb h₀ f1' hz₀ hs₀=>?_)
 cases fb with
 | true =>
  simp only [if_true]
  refine wpAny_bind (wpAny_rule ?_)
  refine wpAny_bind (wpAny_field hz₀ rfl (x:=.ref TO) rfl ?_)
  refine wpAny_bind (wpAny_setField_rec hz₀ (by simp) fun h₁ hz₁ hs₁'=>?_)
  replace hz₁:ZG h₁ z TI TO .ellipsis f1':=hz₁
  have hs₁:Heap.SameBut z s.heap h₁:=⟨hs₁'.1.trans hs₀.1,fun b hb=>(hs₁'.2 b hb).trans (hs₀.2 b hb)⟩
  refine wpAny_bind ?_
  simp only [List.zipIdx_cons,List.zipIdx_nil,List.forIn_cons,List.forIn_nil]
  refine wpAny_bind (wpAny_bind (wpAny_onRaise ?_))
  show wpAny _ _ (Builtin.SmallTypes.nextOf (.ref i1) >>= _) _ _ _
  refine wpAny_bind (u4j (h1.extBut hs₁.extBut D.i1z) (hl1.extBut hs₁.extBut D.l1z) hx fun h₂ h1₂ hs₂=>wpAny_pure ?_)
  have hTO₂:IsPair h₂ TO a b:=hs₂.extBut _ _ D.TOi1 (hs₁.extBut _ _ D.TOz hTO)
  refine wpAny_bind (wpAny_seqItems hTO₂ rfl ?_)
  refine wpAny_bind (wpAny_updateSeq_pair hTO₂ fun h₃ hTO₃ hs₃=>?_)
  replace hTO₃:IsPair h₃ TO x b:=hTO₃
  refine wpAny_bind (wpAny_letGo (wpAny_pure ?_))
  refine wpAny_bind (wpAny_bind (wpAny_onRaise ?_))
  show wpAny _ _ (Builtin.SmallTypes.nextOf (.ref i2) >>= _) _ _ _
  refine wpAny_bind (u4j (((h2.extBut hs₁.extBut D.i2z).extBut hs₂.extBut D.i12.symm).extBut hs₃.extBut D.TOi2.symm)
   (((hl2.extBut hs₁.extBut D.l2z).extBut hs₂.extBut D.l2i1).extBut hs₃.extBut D.l2TO) hy fun h₄ h2₄ hs₄=>wpAny_pure ?_)
  have hTO₄:IsPair h₄ TO x b:=hs₄.extBut _ _ D.TOi2 hTO₃
  refine wpAny_bind (wpAny_seqItems hTO₄ rfl ?_)
  refine wpAny_bind (wpAny_updateSeq_pair hTO₄ fun h₅ hTO₅ hs₅=>?_)
  replace hTO₅:IsPair h₅ TO x y:=hTO₅
  refine wpAny_bind (wpAny_letGo (wpAny_pure (wpAny_pure ?_)))
  refine wpAny_bind (wpAny_seqItems hTO₅ rfl ?_)
  refine wpAny_bind (wpAny_newTuple ?_)
  have hsz:h₅.objs.size=s.heap.objs.size:=by rw [hs₅.1,hs₄.1,hs₃.1,hs₂.1,hs₁.1]
  have hz₅:ZG h₅ z TI TO .ellipsis f1':=hs₅.extBut _ _ D.TOz.symm (hs₄.extBut _ _ D.i2z.symm (hs₃.extBut _ _ D.TOz.symm (hs₂.extBut _ _ D.i1z.symm hz₁)))
  have hk₅:∀ c o,c≠z→c≠TO→c≠i1→c≠i2→s.heap.get? c=some o→h₅.get? c=some o:=fun c o c1 c2 c3 c4 e =>
   hs₅.extBut _ _ c2 (hs₄.extBut _ _ c4 (hs₃.extBut _ _ c2 (hs₂.extBut _ _ c3 (hs₁.extBut _ _ c1 e))))
  have h1₅:ZIt b1 h₅ i1 l1 (k1+1):=((h1₂.extBut hs₃.extBut D.TOi1.symm).extBut hs₄.extBut D.i12).extBut hs₅.extBut D.TOi1.symm
  have h2₅:ZIt b2 h₅ i2 l2 (k2+1):=h2₄.extBut hs₅.extBut D.TOi2.symm
  have hzlt:z<h₅.objs.size:=Heap.lt_size hz₅
  show wpAny _ _ (Builtin.SmallTypes.ownedTupleHandOut (.ref z) (.ref h₅.objs.size) >>= _) _ _ _
  refine wpAny_bind ?_
  unfold Builtin.SmallTypes.ownedTupleHandOut
  have hz₆:ZG (h₅.push { cls:=.type "tuple",data:=.seq #[x,y] }) z TI TO .ellipsis f1':=Heap.get?_push_of_some _ hz₅
  refine wpAny_bind (wpAny_setField_rec hz₆ (by simp) fun h₇ hz₇ hs₇=>?_)
  replace hz₇:ZG h₇ z TI TO (rawInt h₅.objs.size) f1':=hz₇
  refine wpAny_setField_rec hz₇ (by simp) fun h₈ hz₈ hs₈=>?_
  replace hz₈:ZG h₈ z TI TO (rawInt h₅.objs.size) (.bool false):=hz₈
  have up:∀ c o,c≠z→h₅.get? c=some o→h₈.get? c=some o:=fun c o c1 e=>hs₈.extBut _ _ c1 (hs₇.extBut _ _ c1 (Heap.get?_push_of_some _ e))
  have hT₈:IsPair h₈ h₅.objs.size x y:=hs₈.extBut _ _ (Nat.ne_of_gt hzlt) (hs₇.extBut _ _ (Nat.ne_of_gt hzlt) (Heap.get?_push_size _ rfl))
  have hz8:h₈.objs.size=h₅.objs.size+1:=by rw [hs₈.1,hs₇.1,Heap.size_push]
  rw [hsz] at hz₈ hT₈ hz8
  refine wpAny_pure ⟨_,rfl,?_⟩
  show Q (.ref h₅.objs.size) _
  rw [hsz]
  exact hQ h₈ _ _ hz₈ (.inr ⟨_,rfl⟩) ⟨_,_,up _ _ D.TOz hTO₅⟩ (h1₅.at fun o e=>up _ o D.i1z e) (h2₅.at fun o e=>up _ o D.i2z e) hT₈ hz8 fun c o c1 c2 c3 c4 e=>up c o c1 (hk₅ c o c1 c2 c3 c4 e)
 | false =>
  simp only [Bool.false_eq_true,if_false]
  refine wpAny_bind ?_
  rw [← Array.forIn_toList]
  simp only [List.forIn_cons,List.forIn_nil]
  refine wpAny_bind (wpAny_bind (wpAny_holding ?_))
  show wpAny _ _ (Builtin.SmallTypes.nextOf (.ref i1) >>= _) _ _ _
  refine wpAny_bind (u4j (h1.extBut hs₀.extBut D.i1z) (hl1.extBut hs₀.extBut D.l1z) hx fun h₂ h1₂ hs₂=>wpAny_pure (wpAny_pure ?_))
  refine wpAny_bind (wpAny_bind (wpAny_holding ?_))
  show wpAny _ _ (Builtin.SmallTypes.nextOf (.ref i2) >>= _) _ _ _
  refine wpAny_bind (u4j ((h2.extBut hs₀.extBut D.i2z).extBut hs₂.extBut D.i12.symm) ((hl2.extBut hs₀.extBut D.l2z).extBut hs₂.extBut D.l2i1) hy fun h₄ h2₄ hs₄=>wpAny_pure (wpAny_pure ?_))
  refine wpAny_pure ?_
  have hsz:h₄.objs.size=s.heap.objs.size:=by rw [hs₄.1,hs₂.1,hs₀.1]
  have hz₄:ZG h₄ z TI TO f0 f1':=hs₄.extBut _ _ D.i2z.symm (hs₂.extBut _ _ D.i1z.symm hz₀)
  have hTO₄:IsPair h₄ TO a b:=hs₄.extBut _ _ D.TOi2 (hs₂.extBut _ _ D.TOi1 (hs₀.extBut _ _ D.TOz hTO))
  show wpAny _ _ (newTuple [x,y] >>= _) _ _ _
  refine wpAny_bind (wpAny_newTuple (wpAny_pure ⟨_,rfl,?_⟩))
  show Q (.ref h₄.objs.size) _
  have up:∀ c o,h₄.get? c=some o→(h₄.push { cls:=.type "tuple",data:=.seq #[x,y] }).get? c=some o:=fun c o e=>Heap.get?_push_of_some _ e
  have hT₈:IsPair (h₄.push { cls:=.type "tuple",data:=.seq #[x,y] }) h₄.objs.size x y:=Heap.get?_push_size _ rfl
  have hz8:(h₄.push { cls:=.type "tuple",data:=.seq #[x,y] }).objs.size=h₄.objs.size+1:=Heap.size_push ..
  rw [hsz] at hT₈ hz8 ⊢
  exact hQ _ _ _ (up _ _ hz₄) hf ⟨_,_,up _ _ hTO₄⟩ (((h1₂.extBut hs₄.extBut D.i12)).at fun o e=>up _ o e) (h2₄.at fun o e=>up _ o e) hT₈ hz8 fun c o c1 c2 c3 c4 e=>up c o (hs₄.extBut _ _ c4 (hs₂.extBut _ _ c3 (hs₀.extBut _ _ c1 e)))
theorem zg_end {b1 b2:Bool}{z TI TO i1 i2 l1 l2:Addr}{k1 k2:Nat}{xs ys:Array Value}{a b f0 f1:Value}{Q:Fin→Shared→Prop} (hh:A.handled=none) (D:ZipApart z TI TO i1 i2 l1 l2)
  (hz:ZG s.heap z TI TO f0 f1) (hf:Fr0 f0) (hTI:IsPair s.heap TI (.ref i1) (.ref i2)) (hTO:IsPair s.heap TO a b)
  (h1:ZIt b1 s.heap i1 l1 k1) (h2:ZIt b2 s.heap i2 l2 k2) (hl1:ZSq b1 s.heap l1 xs) (hl2:ZSq b2 s.heap l2 ys) (hend:xs[k1]?=none∨ys[k2]?=none)
  (hE:∀ h' e,(∀ c o,c≠z→c≠TO→c≠i1→c≠i2→s.heap.get? c=some o→h'.get? c=some o)→(∃ o,h'.get? e=some o∧o.cls=.type "StopIteration")→E (.ref e) { s with heap:=h' }) :
  wpAny (model prog w) A (Builtin.«zip.__next__» ⟨[.ref z],[]⟩) Q E s:=by
 show wpAny _ _ (field (.ref z) 2 >>= _) _ _ _
 refine wpAny_bind (wpAny_field hz rfl (x:=.bool false) rfl ?_)
 show wpAny _ _ (field (.ref z) 3 >>= _) _ _ _
 refine wpAny_bind (wpAny_field hz rfl (x:=.ref TI) rfl ?_)
 refine wpAny_bind (wpAny_seqItems hTI rfl ?_)
 show wpAny _ _ (Builtin.SmallTypes.ownedTupleIsFree (.ref z) >>= _) _ _ _
 refine wpAny_bind (v1h hz hf fun fb h₀ f1' hz₀ hs₀=>?_)
 cases fb with
 | true =>
  simp only [if_true]
  refine wpAny_bind (wpAny_rule ?_)
  refine wpAny_bind (wpAny_field hz₀ rfl (x:=.ref TO) rfl ?_)
  refine wpAny_bind (wpAny_setField_rec hz₀ (by simp) fun h₁ hz₁ hs₁'=>?_)
  replace hz₁:ZG h₁ z TI TO .ellipsis f1':=hz₁
  have hs₁:Heap.SameBut z s.heap h₁:=⟨hs₁'.1.trans hs₀.1,fun b hb=>(hs₁'.2 b hb).trans (hs₀.2 b hb)⟩
  refine wpAny_bind ?_
  simp only [List.zipIdx_cons,List.zipIdx_nil,List.forIn_cons,List.forIn_nil]
  refine wpAny_bind (wpAny_bind (wpAny_onRaise ?_))
  show wpAny _ _ (Builtin.SmallTypes.nextOf (.ref i1) >>= _) _ _ _
  cases hx:xs[k1]? with
  | none =>
   refine wpAny_bind (v0b hh (h1.extBut hs₁.extBut D.i1z) (hl1.extBut hs₁.extBut D.l1z) hx fun h₂ e hs₂ he=>?_)
   obtain ⟨oe,hoe,hce⟩:=he
   have hz₂:ZG h₂ z TI TO .ellipsis f1':=hs₂ _ _ D.i1z.symm hz₁
   have hez:e≠z:=fun x=>by subst x;rw [hz₂] at hoe;cases hoe;simp at hce
   refine wpAny_setField_rec hz₂ (by simp) fun h₃ _ hs₃=>hE h₃ e (fun c o c1 _ c3 _ x=>hs₃.extBut _ _ c1 (hs₂ _ _ c3 (hs₁.extBut _ _ c1 x))) ⟨oe,hs₃.extBut _ _ hez hoe,hce⟩
  | some x =>
   have hy:ys[k2]?=none:=by rcases hend with h | h;rw [hx] at h;cases h;exact h
   refine wpAny_bind (u4j (h1.extBut hs₁.extBut D.i1z) (hl1.extBut hs₁.extBut D.l1z) hx fun h₂ h1₂ hs₂=>wpAny_pure ?_)
   have hTO₂:IsPair h₂ TO a b:=hs₂.extBut _ _ D.TOi1 (hs₁.extBut _ _ D.TOz hTO)
   refine wpAny_bind (wpAny_seqItems hTO₂ rfl ?_)
   refine wpAny_bind (wpAny_updateSeq_pair hTO₂ fun h₃ hTO₃ hs₃=>?_)
   refine wpAny_bind (wpAny_letGo (wpAny_pure ?_))
   refine wpAny_bind (wpAny_bind (wpAny_onRaise ?_))
   show wpAny _ _ (Builtin.SmallTypes.nextOf (.ref i2) >>= _) _ _ _
   refine wpAny_bind (v0b hh (((h2.extBut hs₁.extBut D.i2z).extBut hs₂.extBut D.i12.symm).extBut hs₃.extBut D.TOi2.symm)
    (((hl2.extBut hs₁.extBut D.l2z).extBut hs₂.extBut D.l2i1).extBut hs₃.extBut D.l2TO) hy fun h₄ e hs₄ he=>?_)
   obtain ⟨oe,hoe,hce⟩:=he
   have hz₄:ZG h₄ z TI TO .ellipsis f1':=hs₄ _ _ D.i2z.symm (hs₃.extBut _ _ D.TOz.symm (hs₂.extBut _ _ D.i1z.symm hz₁))
   have hez:e≠z:=fun x=>by subst x;rw [hz₄] at hoe;cases hoe;simp at hce
   refine wpAny_setField_rec hz₄ (by simp) fun h₅ _ hs₅=>hE h₅ e (fun c o c1 c2 c3 c4 x=>hs₅.extBut _ _ c1 (hs₄ _ _ c4 (hs₃.extBut _ _ c2 (hs₂.extBut _ _ c3 (hs₁.extBut _ _ c1 x))))) ⟨oe,hs₅.extBut _ _ hez hoe,hce⟩
 | false =>
  simp only [Bool.false_eq_true,if_false]
  refine wpAny_bind ?_
  rw [← Array.forIn_toList]
  simp only [List.forIn_cons,List.forIn_nil]
  refine wpAny_bind (wpAny_bind (wpAny_holding ?_))
  show wpAny _ _ (Builtin.SmallTypes.nextOf (.ref i1) >>= _) _ _ _
  cases hx:xs[k1]? with
  | none =>
   exact wpAny_bind (v0b hh (h1.extBut hs₀.extBut D.i1z) (hl1.extBut hs₀.extBut D.l1z) hx fun h₂ e hs₂ he=>hE h₂ e (fun c o c1 _ c3 _ x=>hs₂ _ _ c3 (hs₀.extBut _ _ c1 x)) he)
  | some x =>
   have hy:ys[k2]?=none:=by rcases hend with h | h;rw [hx] at h;cases h;exact h
   refine wpAny_bind (u4j (h1.extBut hs₀.extBut D.i1z) (hl1.extBut hs₀.extBut D.l1z) hx fun h₂ h1₂ hs₂=>wpAny_pure (wpAny_pure ?_))
   refine wpAny_bind (wpAny_bind (wpAny_holding ?_))
   show wpAny _ _ (Builtin.SmallTypes.nextOf (.ref i2) >>= _) _ _ _
   exact wpAny_bind (v0b hh ((h2.extBut hs₀.extBut D.i2z).extBut hs₂.extBut D.i12.symm) ((hl2.extBut hs₀.extBut D.l2z).extBut hs₂.extBut D.l2i1) hy fun h₄ e hs₄ he=>hE h₄ e (fun c o c1 _ c3 c4 x=>hs₄ _ _ c4 (hs₂.extBut _ _ c3 (hs₀.extBut _ _ c1 x))) he)
end
section
variable {X:Cx}{pins:LO}{σ:St}{H H':Hp}{s:Shared}{h':Heap}{fp:List Addr}
theorem Inv.grow {t':Nat} (I:Inv X pins σ H s) (hf:∀ b∈fp,FpOk X pins H b) (k:∀ b o,b∉fp→s.heap.get? b=some o→h'.get? b=some o) (e1:Same H H')
  (e2:∀ b o,s.heap.get? b=some o→H b=none→H' b=none) (e3:∀ b u,H b=none→H' b=some u→ObjOk X.prog X.w H' h' b u):Inv X pins σ H' { s with heap:=h',toks:=t' }:=by
 have nin:∀ b u,H b=some u→b∉fp:=fun b u q z=>by rw [(hf b z).1] at q;cases q
 refine I.call' (ch:=fp) rfl ⟨fun b o q n _ hx=>k b o hx q,fun b o q n _ hx=>⟨o.slots,k b o hx q⟩,fun b o q n _=>e2 b o q n,fun b o q hx=>⟨o,k b o hx q⟩,fun b xs q=>e1 _ _ q,fun b o u q=>e1 _ _ q,fun b ps q=>⟨#[],?_⟩⟩ ?_ I.bare fun b hb=>?_
 ·rw [e1 _ _ q];simp
 ·intro b u q
  cases hb:H b with
  | none=>exact e3 b u hb q
  | some u' =>
   obtain rfl:u'=u:=by rw [e1 _ _ hb] at q;exact Option.some.inj q
   refine (I.hok b u' hb).stay (fun c v hc z=>?_) (fun c z=>e1 _ _ z) fun c xs z=>e1 _ _ z
   rcases hc with rfl | hc
   ·exact k c v (nin c _ hb) z
   ·exact k c v (nin c _ hc) z
 ·obtain ⟨_,f1,_,f3,f4,f5⟩:=hf b hb
  exact ⟨f3,f1,f4,f5⟩
end
section
variable {prog:Program}{w:World}{A:Around}{E:VP}{s:Shared}
structure ZSt (b1 b2:Bool) (z TI TO i1 i2 l1 l2:Addr) (k:Nat) (h:Heap):Prop where
 zp:∃ f0 f1,ZG h z TI TO f0 f1∧Fr0 f0
 ti:IsPair h TI (.ref i1) (.ref i2)
 to:∃ a b,IsPair h TO a b
 a:ZIt b1 h i1 l1 k
 b:ZIt b2 h i2 l2 k
theorem ZSt.keep {b1 b2:Bool}{z TI TO i1 i2 l1 l2:Addr}{k:Nat}{h h':Heap} (x:ZSt b1 b2 z TI TO i1 i2 l1 l2 k h) (e:∀ b∈[z,TI,TO,i1,i2],∀ o,h.get? b=some o→h'.get? b=some o):ZSt b1 b2 z TI TO i1 i2 l1 l2 k h' :=
 ⟨let ⟨f0,f1,p,q⟩:=x.zp;⟨f0,f1,e _ (by simp) _ p,q⟩,e _ (by simp) _ x.ti,let ⟨a,b,p⟩:=x.to;⟨a,b,e _ (by simp) _ p⟩,x.a.at fun o q=>e _ (by simp) o q,x.b.at fun o q=>e _ (by simp) o q⟩
theorem u8h {b1 b2:Bool}{z TI TO i1 i2 l1 l2:Addr}{k:Nat}{xs ys:Array Value}{x y:Value}{Q:Option Value→Shared→Prop} (D:ZipApart z TI TO i1 i2 l1 l2) (st:ZSt b1 b2 z TI TO i1 i2 l1 l2 k s.heap)
  (hl1:ZSq b1 s.heap l1 xs) (hl2:ZSq b2 s.heap l2 ys) (hx:xs[k]?=some x) (hy:ys[k]?=some y)
  (hQ:∀ h',ZSt b1 b2 z TI TO i1 i2 l1 l2 (k+1) h'→IsPair h' s.heap.objs.size x y→(∀ c o,c∉[z,TI,TO,i1,i2]→s.heap.get? c=some o→h'.get? c=some o)→Q (some (.ref s.heap.objs.size)) { s with heap:=h' }) :
  wpAny (model prog w) A (pyNext (.ref z)) Q E s:=by
 obtain ⟨⟨f0,f1,hz,hf⟩,hTI,⟨a,b,hTO⟩,h1,h2⟩:=st
 have hT:s.TypeIs (.ref z) "zip":=⟨_,hz,rfl⟩
 unfold pyNext
 exact wpAny_bind (wpAny_attempt (wpAny_callSpecial?_slot (name:=Str.ofString "__next__") hT F.slot_zip_next
  (wpAny_call_entry F.slot_zip_next hT F.entry_zip_next
   (zg_item D hz hf hTI hTO h1 h2 hl1 hl2 hx hy fun h' f0' f1' a1 a2 a3 a4 a5 a6 a7 a8=>wpAny_pure (hQ h' ⟨⟨f0',f1',a1,a2⟩,a8 _ _ D.TIz D.TITO D.TIi1 D.TIi2 hTI,a3,a4,a5⟩ a6 fun c o hc e=>a8 c o (fun q=>hc (by simp [q])) (fun q=>hc (by simp [q])) (fun q=>hc (by simp [q])) (fun q=>hc (by simp [q])) e)) (F.args_zip_next_1 _))))
theorem v1e {b1 b2:Bool}{z TI TO i1 i2 l1 l2:Addr}{k:Nat}{xs ys:Array Value}{Q:Option Value→Shared→Prop} (hh:A.handled=none) (D:ZipApart z TI TO i1 i2 l1 l2) (st:ZSt b1 b2 z TI TO i1 i2 l1 l2 k s.heap)
  (hl1:ZSq b1 s.heap l1 xs) (hl2:ZSq b2 s.heap l2 ys) (hend:xs[k]?=none∨ys[k]?=none)
  (hQ:∀ h',(∀ c o,c∉[z,TI,TO,i1,i2]→s.heap.get? c=some o→h'.get? c=some o)→Q none { s with heap:=h' }):wpAny (model prog w) A (pyNext (.ref z)) Q E s:=by
 obtain ⟨⟨f0,f1,hz,hf⟩,hTI,⟨a,b,hTO⟩,h1,h2⟩:=st
 have hT:s.TypeIs (.ref z) "zip":=⟨_,hz,rfl⟩
 unfold pyNext
 refine wpAny_bind (wpAny_attempt (wpAny_callSpecial?_slot (name:=Str.ofString "__next__") hT F.slot_zip_next
  (wpAny_call_entry F.slot_zip_next hT F.entry_zip_next (zg_end hh D hz hf hTI hTO h1 h2 hl1 hl2 hend fun h' e hk he=>?_) (F.args_zip_next_1 _))))
 obtain ⟨o,ho,hc⟩:=he
 refine wpAny_bind (wpAny_isInstance (T:="StopIteration") (b:=true) ⟨o,ho,hc⟩ isSubtype_stop ?_)
 exact wpAny_pure (hQ _ fun c o hc e=>hk c o (fun q=>hc (by simp [q])) (fun q=>hc (by simp [q])) (fun q=>hc (by simp [q])) (fun q=>hc (by simp [q])) e)
theorem zn_go {b1 b2:Bool}{es:List Expr}{x1}{pos:Pos}{z TI TO i1 i2 l1 l2 T:Addr}{k:Nat}{Q:Unit→Shared→Prop} (D:ZipApart z TI TO i1 i2 l1 l2) (st:ZSt b1 b2 z TI TO i1 i2 l1 l2 k s.heap)
  (hQ:∀ h',ZSt b1 b2 z TI TO i1 i2 l1 l2 k h'→Heap.SameBut z s.heap h'→Q () { s with heap:=h' }):wpAny (model prog w) A (letOwnedTupleGo (.Tuple es x1 pos) (.ref z) (.ref T)) Q E s:=by
 obtain ⟨⟨f0,f1,hz,hf⟩,hTI,⟨a,b,hTO⟩,h1,h2⟩:=st
 unfold letOwnedTupleGo
 refine wpAny_bind (wpAny_load hz ?_)
 show wpAny _ _ (if (["enumerate","zip","dict_itemiterator","dict_reverseitemiterator","odict_iterator","itertools.zip_longest","itertools.pairwise"].contains "zip" &&
   (#[f0,f1,.bool false,.ref TI,.ref TO]:Array Value)[0]?==some (rawInt T))=true then _ else _) Q E s
 split
 ·refine wpAny_bind (wpAny_rule ?_)
  show wpAny _ _ (setField (.ref z) 0 .none) Q E s
  exact wpAny_setField_rec hz (by simp) fun h' hz' hs'=>hQ h' ⟨⟨_,_,hz',.inl rfl⟩,hs'.extBut _ _ D.TIz hTI,⟨a,b,hs'.extBut _ _ D.TOz hTO⟩,h1.extBut hs'.extBut D.i1z,h2.extBut hs'.extBut D.i2z⟩ hs'
 ·exact wpAny_pure (hQ s.heap ⟨⟨f0,f1,hz,hf⟩,hTI,⟨a,b,hTO⟩,h1,h2⟩ ⟨rfl,fun _ _=>rfl⟩)
theorem u6a {b1 b2:Bool}{z TI TO i1 i2 l1 l2:Addr}{k:Nat}{Q:VP} (st:ZSt b1 b2 z TI TO i1 i2 l1 l2 k s.heap) (h:Q (.ref z) s):wpAny (model prog w) A (pyIter (.ref z)) Q E s:=by
 obtain ⟨⟨f0,f1,hz,hf⟩,_⟩:=st
 have hT:s.TypeIs (.ref z) "zip":=⟨_,hz,rfl⟩
 refine wpAny_pyIter_slot hT F.slot_zip_iter (wpAny_call_entry F.slot_zip_iter hT F.entry_zip_iter ?_ (F.args_zip_iter_1 _))
 show wpAny _ _ (ret (.ref z)) _ _ s
 exact wpAny_pure ⟨_,rfl,"zip",_,hT,F.slot_zip_next.lookup,h⟩
end
abbrev itO (b:Bool) (l:Addr):Obj:={ cls:=.type (if b then "tuple_iterator" else "list_iterator"),data:=.fields #[.ref l,.int 0 0] }
abbrev zg1 (b1:Bool) (h:Heap) (l1:Addr):Heap:=h.push (itO b1 l1)
abbrev zg2 (b1 b2:Bool) (h:Heap) (l1 l2:Addr):Heap:=(zg1 b1 h l1).push (itO b2 l2)
abbrev zg3 (b1 b2:Bool) (h:Heap) (l1 l2:Addr):Heap:=(zg2 b1 b2 h l1 l2).push { cls:=.type "tuple",data:=.seq #[.ref h.objs.size,.ref (zg1 b1 h l1).objs.size] }
abbrev zg4 (b1 b2:Bool) (h:Heap) (l1 l2:Addr):Heap:=(zg3 b1 b2 h l1 l2).push { cls:=.type "tuple",data:=.seq #[.none,.none] }
abbrev zg5 (b1 b2:Bool) (h:Heap) (l1 l2:Addr):Heap:=(zg4 b1 b2 h l1 l2).push { cls:=.type "zip",data:=.fields #[.none,.bool false,.bool false,.ref (zg2 b1 b2 h l1 l2).objs.size,.ref (zg3 b1 b2 h l1 l2).objs.size] }
theorem v1p {prog:Program}{w:World}{A:Around}{E:VP}{s:Shared}{b:Bool}{l:Addr}{xs:Array Value}{Q:VP} (hl:ZSq b s.heap l xs) (h:Q (.ref s.heap.objs.size) { s with heap:=s.heap.push (itO b l) }):wpAny (model prog w) A (pyIter (.ref l)) Q E s:=by
 cases b
 ·exact wpAny_pyIter_list hl h
 ·exact wpAny_pyIter_tuple hl h
theorem v0z (b1 b2:Bool) (l1 l2:Addr) (xs ys:Array Value) :
  Meets (Builtin.«zip.__new__» ⟨[.type "zip",.ref l1,.ref l2],[]⟩) (fun _ R s=>ZSq b1 s.heap l1 xs∧ZSq b2 s.heap l2 ys ∧
   R (.ok (.ret (.ref (zg4 b1 b2 s.heap l1 l2).objs.size))) { s with heap:=zg5 b1 b2 s.heap l1 l2 }) :=
 .of_wp fun prog w A R s h=>by
  obtain ⟨hp,g,d,tk,os⟩:=s;obtain ⟨hl1,hl2,h⟩:=h
  have hsub:=sub_zip
  have hL1:ZSq b1 (Shared.heap ⟨hp,g,d,tk,os⟩) l1 xs:=hl1
  have hL2:ZSq b2 (Shared.heap ⟨hp.push (itO b1 l1),g,d,tk,os⟩) l2 ys:=hl2.at fun o e=>Heap.get?_push_of_some _ e
  wp_walk using v1p hL1,v1p hL2
  exact ⟨_,rfl,h⟩
section
variable {prog:Program}{w:World}{A:Around}{E:VP}{s:Shared}
theorem u9K {b1 b2:Bool}{l1 l2:Addr}{xs ys:Array Value}{Q:VP} (hl1:ZSq b1 s.heap l1 xs) (hl2:ZSq b2 s.heap l2 ys)
  (h:∀ h',ZSt b1 b2 (s.heap.objs.size+4) (s.heap.objs.size+2) (s.heap.objs.size+3) s.heap.objs.size (s.heap.objs.size+1) l1 l2 0 h' →
   (∀ c o,s.heap.get? c=some o→h'.get? c=some o)→Q (.ref (s.heap.objs.size+4)) { s with heap:=h' }) :
  wpAny (model prog w) A (call (.type "zip") [.ref l1,.ref l2]) Q E s:=by
 refine callType_new F.called_zip (by decide) (F.typeCall_zip_2 _ _) (F.newCall_zip_2 _ _) (fun obj=>F.args_object_init_3 obj _ _) F.entry_zip_new
  (v0z b1 b2 l1 l2 xs ys) ⟨hl1,hl2,?_⟩
 have z1:(zg1 b1 s.heap l1).objs.size=s.heap.objs.size+1:=Heap.size_push ..
 have z2:(zg2 b1 b2 s.heap l1 l2).objs.size=s.heap.objs.size+2:=by rw [Heap.size_push,z1]
 have z3:(zg3 b1 b2 s.heap l1 l2).objs.size=s.heap.objs.size+3:=by rw [Heap.size_push,z2]
 have z4:(zg4 b1 b2 s.heap l1 l2).objs.size=s.heap.objs.size+4:=by rw [Heap.size_push,z3]
 have g5:(zg5 b1 b2 s.heap l1 l2).get? (zg4 b1 b2 s.heap l1 l2).objs.size=some _:=Heap.get?_push_size _ rfl
 have g4:(zg5 b1 b2 s.heap l1 l2).get? (zg3 b1 b2 s.heap l1 l2).objs.size=some _:=Heap.get?_push_of_some _ (Heap.get?_push_size _ rfl)
 have g3:(zg5 b1 b2 s.heap l1 l2).get? (zg2 b1 b2 s.heap l1 l2).objs.size=some _:=Heap.get?_push_of_some _ (Heap.get?_push_of_some _ (Heap.get?_push_size _ rfl))
 have g2:(zg5 b1 b2 s.heap l1 l2).get? (zg1 b1 s.heap l1).objs.size=some _:=Heap.get?_push_of_some _ (Heap.get?_push_of_some _ (Heap.get?_push_of_some _ (Heap.get?_push_size _ rfl)))
 have g1:(zg5 b1 b2 s.heap l1 l2).get? s.heap.objs.size=some _:=Heap.get?_push_of_some _ (Heap.get?_push_of_some _ (Heap.get?_push_of_some _ (Heap.get?_push_of_some _ (Heap.get?_push_size _ rfl))))
 show _∧_
 rw [z2,z3,z4] at g5
 rw [z1,z2] at g3
 rw [z3] at g4
 rw [z1] at g2
 rw [z4]
 have mk:∀ (b:Bool) (h:Heap) (i l:Addr),h.get? i=some (itO b l)→ZIt b h i l 0:=fun b h i l e=>by
  cases b
  ·exact ⟨_,e,rfl,rfl⟩
  ·exact ⟨_,e,rfl,rfl⟩
 exact ⟨⟨_,g5,rfl⟩,h _ ⟨⟨_,_,g5,.inl rfl⟩,g3,⟨_,_,g4⟩,mk _ _ _ _ g1,mk _ _ _ _ g2⟩ fun c o x =>
  Heap.get?_push_of_some _ (Heap.get?_push_of_some _ (Heap.get?_push_of_some _ (Heap.get?_push_of_some _ (Heap.get?_push_of_some _ x))))⟩
end
def SqB (b:Bool) (K:W.Frag) (H:Hp) (a:Addr) (xs:List V):Prop:=if b then SqT K H a xs else SqL K H a xs
section
variable {X:Cx}{pins:LO}{σ:St}{H H':Hp}{s:Shared}{b:Bool}{a:Addr}{xs ys:List V}
theorem Inv.sqB (I:Inv X pins σ H s) (h:SqB b X.K H a xs):∃ its,Vals xs its∧ZSq b s.heap a its.toArray:=by
 cases b
 ·obtain ⟨its,rv,pl,hz⟩:=I.list h
  exact ⟨its,rv,pl.isList⟩
 ·obtain ⟨its,rv,pl,hz⟩:=I.tuple h
  exact ⟨its,rv,pl⟩
theorem Inv.sqB_inj (I:Inv X pins σ H s) (h:SqB b X.K H a xs) (h':SqB b X.K H a ys):xs=ys:=by
 cases b
 ·exact I.list_inj h h'
 ·exact I.tuple_inj h h'
end
def ItZ (K:W.Frag) (b1 b2:Bool) (a1 a2:Addr):It :=
 ⟨fun i H=>∃ xs ys x y,SqB b1 K H a1 xs∧SqB b2 K H a2 ys∧xs[i]?=some x∧ys[i]?=some y,
  fun i H v H'=>∃ p x y,H p=none∧v=.ref p∧H'=upd H p (.tup [x,y])∧∀ xs ys,SqB b1 K H a1 xs→SqB b2 K H a2 ys→xs[i]?=some x∧ys[i]?=some y,
  fun i H=>∃ xs ys,SqB b1 K H a1 xs∧SqB b2 K H a2 ys∧(xs.length≤i∨ys.length≤i)⟩
theorem u9W {P:Program}{w:World}{K:W.Frag}{es:List Expr}{k:Nat}{pos:Pos}{b1 b2:Bool}{z TI TO i1 i2 a1 a2:Addr} (D:ZipApart z TI TO i1 i2 a1 a2) :
  Turn P w K (.Tuple es k pos) (ItZ K b1 b2 a1 a2) [z,TI,TO,i1,i2] z (fun i h=>ZSt b1 b2 z TI TO i1 i2 a1 a2 i h) where
 mem:=by simp
 obj:=fun i h st b hb=>by
  obtain ⟨⟨f0,f1,hz,hf⟩,hTI,⟨x,y,hTO⟩,h1,h2⟩:=st
  have it:∀ (b:Bool) (i l:Addr) (k:Nat),ZIt b h i l k→∃ o,h.get? i=some o∧∀ v,o.data≠.cell v:=fun b i l k e=>by
   cases b
   ·obtain ⟨o,a,_,c⟩:=(show h.IsListIter i l k from e);exact ⟨o,a,fun v z=>by rw [c] at z;cases z⟩
   ·obtain ⟨o,a,_,c⟩:=(show h.IsTupleIter i l k from e);exact ⟨o,a,fun v z=>by rw [c] at z;cases z⟩
  simp only [List.mem_cons,List.not_mem_nil,or_false] at hb
  rcases hb with rfl | rfl | rfl | rfl | rfl
  ·exact ⟨_,hz,fun v z=>by cases z⟩
  ·exact ⟨_,hTI,fun v z=>by cases z⟩
  ·exact ⟨_,hTO,fun v z=>by cases z⟩
  ·exact it _ _ _ _ h1
  ·exact it _ _ _ _ h2
 keep:=fun i h h' st k=>st.keep k
 item:=by
  intro X hP hw hK hc i pins s σ H E I hf st hg
  subst hP hw hK
  obtain ⟨xs,ys,x,y,q1,q2,hx,hy⟩:=hg
  obtain ⟨us,rv1,p1⟩:=I.sqB q1
  obtain ⟨ws,rv2,p2⟩:=I.sqB q2
  obtain ⟨u,hu,ru⟩:=rv1.get hx
  obtain ⟨v,hv,rw⟩:=rv2.get hy
  refine u8h D st p1 p2 (x:=u) (y:=v) (by simpa using hu) (by simpa using hv) fun h1 st1 pr k1=>⟨_,rfl,?_⟩
  refine zn_go (s:={ s with heap:=h1 }) D st1 fun h2 st2 sb=>?_
  have hfr:H s.heap.objs.size=none:=I.hok.fresh (Nat.le_refl _)
  have hzl:z<s.heap.objs.size:=by obtain ⟨_,_,e,_⟩:=st.zp;exact Heap.lt_size e
  have pr2:IsPair h2 s.heap.objs.size u v:=sb.extBut _ _ (Nat.ne_of_gt hzl) pr
  have kk:∀ c o,c∉[z,TI,TO,i1,i2]→s.heap.get? c=some o→h2.get? c=some o:=fun c o hc e=>sb.extBut _ _ (fun q=>hc (by simp [q])) (k1 c o hc e)
  have lt:∀ b∈[z,TI,TO,i1,i2],b<s.heap.objs.size:=fun b hb=>by
   simp only [List.mem_cons,List.not_mem_nil,or_false] at hb
   rcases hb with rfl | rfl | rfl | rfl | rfl
   ·exact hzl
   ·exact Heap.lt_size st.ti
   ·obtain ⟨_,_,e⟩:=st.to;exact Heap.lt_size e
   ·exact st.a.lt
   ·exact st.b.lt
  have I2:Inv X pins σ (upd H s.heap.objs.size (.tup [x,y])) { s with heap:=h2,toks:=s.toks }:=I.grow (fp:=[z,TI,TO,i1,i2]) hf kk (u0e hfr) (fun b o e n=>by rw [u0j (Nat.ne_of_lt (Heap.lt_size e))];exact n) fun b w n e=>by
   by_cases hb:b=s.heap.objs.size
   ·subst hb
    rw [u0g] at e
    cases e
    exact ⟨by show 2≤sizeLine;decide,[u,v],.cons ru (.cons rw .nil),⟨_,pr2,rfl,_,rfl⟩⟩
   ·rw [u0j hb,n] at e;cases e
  refine ⟨.ref s.heap.objs.size,_,I2,rfl,⟨s.heap.objs.size,x,y,hfr,rfl,rfl,fun xs' ys' e1 e2=>?_⟩,st2,fun b hb=>?_⟩
  ·rw [I.sqB_inj e1 q1,I.sqB_inj e2 q2];exact ⟨hx,hy⟩
  ·rw [u0j (Nat.ne_of_lt (lt b hb))];exact (hf b hb).1
 done:=by
  intro X hP hw hK hc i pins s σ H E I hf st hg
  subst hP hw hK
  obtain ⟨xs,ys,q1,q2,hx⟩:=hg
  obtain ⟨us,rv1,p1⟩:=I.sqB q1
  obtain ⟨ws,rv2,p2⟩:=I.sqB q2
  have n1:=rv1.length
  have n2:=rv2.length
  refine v1e (I.ok.hd hc) D st p1 p2 (by
   rcases hx with h | h
   ·exact .inl (by simp;omega)
   ·exact .inr (by simp;omega)) fun h' kk=>⟨rfl,I.grow (t':=s.toks) (fp:=[z,TI,TO,i1,i2]) hf kk (Same.refl H) (fun b o e n=>n) fun b w n e=>by rw [n] at e;cases e⟩
 self:=fun _ _ _ _ _ st h=>u6a st h
def iZip (K:W.Frag) (ta:TA):TI:=fun σ H R=>ta σ H fun vs H1=>∃ b1 b2 a1 a2 xs ys,vs=[.ref a1,.ref a2]∧SqB b1 K H1 a1 xs∧SqB b2 K H1 a2 ys∧R (ItZ K b1 b2 a1 a2) H1
noncomputable def zipL (ds es:List D):List D:=(ds.zip es).map fun p=>.tup [p.1,p.2]
noncomputable def rowOf:D→Option (List D)
 | .lst ds=>some ds
 | .tup ds=>some ds
 | _=>none
noncomputable def zip2:List D→Res (List D)
 | [a,b]=>match rowOf a,rowOf b with
  | some x,some y=>.ok (zipL x y)
  | _,_=>.bad
 | _=>.bad
theorem u2E {b:Bool}{K:W.Frag}{H H':Hp}{a:Addr}{xs:List V} (e:Same H H') (h:SqB b K H a xs):SqB b K H' a xs:=by
 cases b
 ·exact e.seq h
 ·exact e.seqT h
theorem Feed.zip {K:W.Frag}{F:Hp}{b1 b2:Bool}{a1 a2:Addr}{xs ys:List V}{ds es:List D} (h1:SqB b1 K F a1 xs) (h2:SqB b2 K F a2 ys) (r1:Rps K F xs ds) (r2:Rps K F ys es):Feed K F (ItZ K b1 b2 a1 a2) (zipL ds es) where
 go i H e hi:=by
  have hi':i<xs.length∧i<ys.length:=by
   rw [r1.length,r2.length]
   unfold zipL at hi
   rw [List.length_map,List.length_zip] at hi
   omega
  exact ⟨xs,ys,xs[i]'hi'.1,ys[i]'hi'.2,u2E e h1,u2E e h2,by simp,by simp⟩
 yld i F1 H x H' d e1 e2 hd y:=by
  obtain ⟨p,u,v,hp,rfl,rfl,y⟩:=y
  obtain ⟨hu,hv⟩:=y xs ys (u2E (e1.trans e2) h1) (u2E (e1.trans e2) h2)
  have hd2:∃ d1 d2,ds[i]?=some d1∧es[i]?=some d2∧d=.tup [d1,d2]:=by
   unfold zipL at hd
   rw [List.getElem?_map,Option.map_eq_some_iff] at hd
   obtain ⟨⟨d1,d2⟩,hz,rfl⟩:=hd
   rw [List.getElem?_zip_eq_some] at hz
   exact ⟨d1,d2,hz.1,hz.2,rfl⟩
  obtain ⟨d1,d2,q1,q2,rfl⟩:=hd2
  obtain ⟨w1,hw1,pw1⟩:=r1.get q1
  obtain ⟨w2,hw2,pw2⟩:=r2.get q2
  rw [hu] at hw1;cases hw1
  rw [hv] at hw2;cases hw2
  have s:=Stp.new (o:=.tup [u,v]) e2 hp
  exact ⟨_,s,.tup (.inl (.inl u0g)) (.cons (pw1.same (e1.trans s.ff)) (.cons (pw2.same (e1.trans s.ff)) .nil))⟩
 stop i H e hi:=⟨xs,ys,u2E e h1,u2E e h2,by
  rw [r1.length,r2.length]
  unfold zipL at hi
  rw [List.length_map,List.length_zip] at hi
  omega⟩
theorem u5i {K:W.Frag}{F:Hp}{v:V}{d:D}{ds:List D} (p:Rp K F v d) (h:rowOf d=some ds):∃ b a xs,v=.ref a∧(∀ H,Same F H→SqB b K H a xs)∧SqB b K F a xs∧Rps K F xs ds:=by
 cases p with
 | @lst a xs _ hq hs=>cases h;exact ⟨false,a,xs,rfl,fun H e=>.inl (hq.same e),.inl hq,hs⟩
 | @tup a xs _ hq hs=>cases h;exact ⟨true,a,xs,rfl,fun H e=>e.seqT hq,hq,hs⟩
 | _=>cases h
section
variable {X:Cx}{xq:XQ}{a b:Expr}{ta:TA}{p pos tp:Pos}{es:List Expr}{k:Nat}{fa:Rho→Res (List D)}
theorem pi_zip (hg:Gl X "zip") (hm:X.mg "zip"=none) (ha:PA X [a,b] ta) (hs:([a,b]:List Expr).all notStar=true:=by rfl):PI X (.Tuple es k tp) (.Call (.Name "zip" p) [a,b] [] pos) (iZip X.K ta):=by
 intro pins s σ H R I h
 refine Call_ (u1C I hg hm (show bootBuiltins "zip"=some (.type "zip") by decide +kernel) (PyProof.Rows.callWith_type1 (thn (ha pos pins s σ H _ I h) fun us s1 ⟨vs,H1,I1,r1,q1⟩=>?_) (u0k (u0h hs).1) (u0D (u0h hs).2)))
 obtain ⟨b1,b2,a1,a2,xs,ys,e,h1,h2,q⟩:=q1
 subst e
 obtain ⟨u1,u2,rfl,ru1,ru2⟩:=vals2 r1
 cases (show u1=Value.ref a1 from ru1)
 cases (show u2=Value.ref a2 from ru2)
 obtain ⟨us,rv1,p1⟩:=I1.sqB h1
 obtain ⟨ws,rv2,p2⟩:=I1.sqB h2
 refine u9K p1 p2 fun h' st kk=>u6a st ?_
 have D:=zipApart_new p1.lt p2.lt
 refine ⟨s1.heap.objs.size+4,_,_,ItZ X.K b1 b2 a1 a2,H1,rfl,I1.kept (t':=s1.toks) kk,u9W D,st,fun c hc=>?_,q⟩
 have hb:s1.heap.objs.size≤c:=by
  simp only [List.mem_cons,List.not_mem_nil,or_false] at hc
  rcases hc with rfl | rfl | rfl | rfl | rfl
  ·exact Nat.le_add_right _ _
  ·exact Nat.le_add_right _ _
  ·exact Nat.le_add_right _ _
  ·exact Nat.le_refl _
  ·exact Nat.le_add_right _ _
 exact I1.fpOk hb (I1.hok.fresh hb)
theorem di_zip (hm:X.mg "zip"=none) (ha:DA X xq [a,b] fa) (hg:Gl X "zip":=by rfl):DI X xq (.Tuple es k tp) (.Call (.Name "zip" p) [a,b] [] pos) (fun ρ=>(fa ρ).bind zip2) :=
 ⟨fun pins s σ H R I z9=>un5 z9 fun B F ρ R' q=>pi_zip hg hm ha.out ha.ns pins s σ H R I (seqA R' q fun ds vs F1 H1 s1 R1 p1 q1=>by
  unfold zip2 at q1
  split at q1
  ·rename_i d e
   obtain ⟨v,w,rfl,pv,pw⟩:=rps2 p1
   cases hx:rowOf d with
   | none=>rw [hx] at q1;exact q1.elim
   | some x =>
    cases hy:rowOf e with
    | none=>rw [hx,hy] at q1;exact q1.elim
    | some y =>
     rw [hx,hy] at q1
     obtain ⟨b1,a1,xs,rfl,g1,g1',t1⟩:=u5i pv hx
     obtain ⟨b2,a2,ys,rfl,g2,g2',t2⟩:=u5i pw hy
     exact ⟨b1,b2,a1,a2,xs,ys,rfl,g1 _ R1.fh,g2 _ R1.fh,q1 _ F1 H1 s1 (Feed.zip g1' g2' t1 t2)⟩
  ·exact q1.elim)⟩
end
section
variable {X:Cx}{xq:XQ}{o:Expr}{fo:Rho→Res D}{m:Str}{p pos apos:Pos}{Cs:List Addr}
theorem u9D {P:Program}{w:World}{K:W.Frag}{mg:MG}{base:Heap}{k k':Nat}{ps:List Str}{g:Addr→List D→Res (List D)}{pl:Sem Bool} (hq:XqOk X xq) (h:∀ C∈Cs,MCalleeN P w K mg base k C m ps (g C)) (hr:Room k' X.A) (ho:DE X xq o fo) (hk:k≤k':=by decide)
  (eP:X.prog=P:=by rfl) (ew:X.w=w:=by rfl) (eK:X.K=K:=by rfl) (em:X.mg=mg:=by rfl) (eb:X.base=base:=by rfl)
  (ht:eval (.Call (.Attribute o m apos) [] [] pos) X.env=(do
   let ov ← eval o X.env
   standAt apos.atName
   let (f,first) ← holding [ov] (getMethod ov m pl)
   callWith pos f first (backTo pos (starEach [] X.env)) (backToKw pos (keywordEach [] X.env))):=by rfl) :
  DN X xq (.Call (.Attribute o m apos) [] [] pos) (fun ρ=>(fo ρ).bind fun x=>(isV Cs m x).bind fun y=>(g y.1 [y.2]).bind fun es=>.ok (.l es)):=⟨fun pins s σ H Q I z9=>un5 z9 fun B F ρ R q=>by
 subst eP ew eK em eb
 refine W.methodCall_KW (pl:=pl) (thn (ho.out pins s σ H (fun x H1=>∃ C a dx fs0,C∈Cs∧x=.ref a∧H1 a=some (.ins C dx fs0)∧fs0.lookup m=none∧spN X.K (g C) [.ref a] H1 Q (fun u _ H'=>∃ a,u=.ref a∧xq (.ref a) σ H')) I (seqE R q fun d v F1 H1 s1 R1 p1 q1=>?_)) fun u s1 ⟨x,H1,I1,rx,C,a,dx,fs0,hC,ex,ea,l,q⟩=>?_) ht
 ·obtain ⟨C,a,dx,fs0,hC,rfl,e1,e2,q2⟩:=u7p p1 (Res.all_bind.mp q1)
  exact ⟨C,a,dx,fs0,hC,rfl,R1.fh _ _ e1,e2,v1o R1 (.cons p1 .nil) s1 (Res.all_bind.mp q2)⟩
 ·subst ex
  obtain rfl:u=Value.ref a:=rx
  obtain ⟨fa,fd,c,hm,G,hb⟩:=h C hC
  refine u1V I1 ea c hm l ?_
  exact W.callWith_K0 (first:=[.ref a]) I1.kIn hm.kp (u3w (us:=[.ref a]) (vs:=[.ref a]) hq G (hr.mono hk) hb .nil I1 (.cons rfl .nil) q)⟩
end
noncomputable def dIsB:D→D→Res D
 | .bl a,.bl b=>.ok (.bl (a==b))
 | d,e=>dIs d e
noncomputable def dIsNotB:D→D→Res D
 | .bl a,.bl b=>.ok (.bl (!(a==b)))
 | d,e=>dIsNot d e
section
variable {X:Cx}
theorem u1T:OpR X (compareOp .IsNot) (rD X.K dIsNotB):=by
 intro pins s σ H x y v u Q I rx ry ⟨F,dx,dy,fh,px,py,q⟩
 unfold dIsNotB at q
 split at q
 ·cases px;cases py
  cases rx;cases ry
  exact isnot_bool (v1x I (q _ F H (Stp.refl fh) (.bl _)) rfl)
 ·exact o_isnot pins s σ H x y v u Q I rx ry ⟨F,_,_,fh,px,py,q⟩
end
def ZAcc (n0:Nat) (fp:List Addr) (xs ys:Array Value) (acc:Array Value) (h:Heap):Prop :=
 (∀ (j:Nat) (v:Value),acc[j]?=some v→∃ T x y,v=.ref T∧IsPair h T x y∧n0≤T∧T∉fp∧xs[j]?=some x∧ys[j]?=some y)∧∀ (j j':Nat) (v:Value),acc[j]?=some v→acc[j']?=some v→j=j'
theorem ZAcc.keep {n0:Nat}{fp:List Addr}{xs ys acc:Array Value}{h h':Heap} (a:ZAcc n0 fp xs ys acc h) (k:∀ b o,b∉fp→h.get? b=some o→h'.get? b=some o):ZAcc n0 fp xs ys acc h':=⟨fun j v e=>by
 obtain ⟨T,x,y,e1,e2,e3,e4,e5⟩:=a.1 j v e
 exact ⟨T,x,y,e1,k _ _ e4 e2,e3,e4,e5⟩,a.2⟩
section
variable {prog:Program}{w:World}{A:Around}{R:Result→Shared→Prop}
theorem zl_loop {b1 b2:Bool}{z TI TO i1 i2 l1 l2 S:Addr}{xs ys:Array Value}{n0:Nat} (hh:A.handled=none) (D:ZipApart z TI TO i1 i2 l1 l2) (hS:S∉[z,TI,TO,i1,i2]) (hl1:l1∉S::[z,TI,TO,i1,i2]) (hl2:l2∉S::[z,TI,TO,i1,i2]) (hn:min xs.size ys.size≤sizeLine) (res:Value) :
  ∀ (k i:Nat) (s:Shared) (acc:Array Value) (c:Nat),min xs.size ys.size - i=k→i≤min xs.size ys.size→n0≤s.heap.objs.size→ZSt b1 b2 z TI TO i1 i2 l1 l2 i s.heap→ZSq b1 s.heap l1 xs→ZSq b2 s.heap l2 ys →
  s.heap.get? S=some { cls:=.type "list",dict:=none,data:=.seq acc c,slots:=#[] }→acc.size=i→ZAcc n0 (S::[z,TI,TO,i1,i2]) xs ys acc s.heap →
  (∀ h' acc' c',(∀ b o,b∉S::[z,TI,TO,i1,i2]→s.heap.get? b=some o→h'.get? b=some o)→h'.get? S=some { cls:=.type "list",dict:=none,data:=.seq acc' c',slots:=#[] }→acc'.size=min xs.size ys.size →
   ZAcc n0 (S::[z,TI,TO,i1,i2]) xs ys acc' h'→R (.ok (.ret res)) { s with heap:=h' }) →
  codeAny (model prog w) A (.builtin "list.extend.loop" ⟨[.ref S,.ref z,res],[]⟩) R s:=by
 have sub:∀ b,b∉S::[z,TI,TO,i1,i2]→b∉[z,TI,TO,i1,i2]:=fun b h q=>h (List.mem_cons_of_mem _ q)
 intro k
 induction k with
 | zero =>
  intro i s acc c hk hi h0 hst q1 q2 hs ha hz hR
  have hin:i=min xs.size ys.size:=by omega
  refine codeAny_builtin F.entry_extend_loop ?_
  rw [Around.under_plainId F.plain_extend_loop _]
  show wpAny _ A.in1 (pyNext (.ref z) >>= _) _ _ s
  refine wpAny_bind (v1e (A:=A.in1) hh D hst q1 q2 (by
   rcases Nat.le_total xs.size ys.size with h | h
   ·exact .inl (by rw [Array.getElem?_eq_none_iff];omega)
   ·exact .inr (by rw [Array.getElem?_eq_none_iff];omega)) fun h' kk=>?_)
  exact wpAny_pure (hR h' acc c (fun b o hb e=>kk b o (sub b hb) e) (kk S _ hS hs) (by omega) (hz.keep fun b o hb e=>kk b o (sub b hb) e))
 | succ k ih =>
  intro i s acc c hk hi h0 hst q1 q2 hs ha hz hR
  have hlt:i<min xs.size ys.size:=by omega
  refine codeAny_builtin F.entry_extend_loop ?_
  rw [Around.under_plainId F.plain_extend_loop _]
  show wpAny _ A.in1 (pyNext (.ref z) >>= _) _ _ s
  have hx:xs[i]?=some (xs[i]'(by omega)):=Array.getElem?_eq_getElem (by omega)
  have hy:ys[i]?=some (ys[i]'(by omega)):=Array.getElem?_eq_getElem (by omega)
  refine wpAny_bind (u8h D hst q1 q2 hx hy fun h' st' pr kk=>?_)
  have hs':=kk S _ hS hs
  show wpAny _ A.in1 (updateSeq S (·.push (.ref s.heap.objs.size)) >>= _) _ _ _
  refine wpAny_bind ?_
  have oth:∀ b o,b≠S→h'.get? b=some o→(h'.update S (Obj.mapSeq (·.push (.ref s.heap.objs.size)))).get? b=some o:=fun b o hb e=>(Heap.get?_update_other _ _ (Ne.symm hb)).trans e
  have all:∀ b o,b∉S::[z,TI,TO,i1,i2]→s.heap.get? b=some o→(h'.update S (Obj.mapSeq (·.push (.ref s.heap.objs.size)))).get? b=some o:=fun b o hb e=>oth b o (fun q=>hb (by simp [q])) (kk b o (sub b hb) e)
  have lts:∀ b∈S::[z,TI,TO,i1,i2],b<s.heap.objs.size:=fun b hb=>by
   simp only [List.mem_cons,List.not_mem_nil,or_false] at hb
   rcases hb with rfl | rfl | rfl | rfl | rfl | rfl
   ·exact Heap.lt_size hs
   ·obtain ⟨_,_,e,_⟩:=hst.zp;exact Heap.lt_size e
   ·exact Heap.lt_size hst.ti
   ·obtain ⟨_,_,e⟩:=hst.to;exact Heap.lt_size e
   ·exact hst.a.lt
   ·exact hst.b.lt
  have hnew:s.heap.objs.size∉S::[z,TI,TO,i1,i2]:=fun hm=>Nat.lt_irrefl _ (lts _ hm)
  refine wpAny_updateSeq hs' rfl (wpAny_pure ⟨plainId_quiet F.plain_extend_loop _,ih (i+1) _ (acc.push (.ref s.heap.objs.size)) _ (by omega) hlt ?_ (st'.keep fun b hb o e=>oth b o (fun q=>hS (q ▸ hb)) e) (q1.at fun o e=>all _ o hl1 e) (q2.at fun o e=>all _ o hl2 e) (Heap.get?_update_self _ hs' rfl) (by rw [Array.size_push,ha]) ?_ fun h'' acc' c' k2 hS2 ha2 hz2=>?_⟩)
   (by rw [ha];omega) (by show (acc.push _).size≤sizeLine+1;rw [Array.size_push,ha];omega)
  ·have e1:=Heap.lt_size (oth _ _ (fun q=>hnew (by simp [q])) pr)
   exact Nat.le_trans h0 (Nat.le_of_lt e1)
  ·have old:∀ (j:Nat),acc[j]?≠some (.ref s.heap.objs.size):=fun j e=>by
    obtain ⟨T,x,y,e1,e2,_⟩:=hz.1 j _ e
    cases e1
    exact Nat.lt_irrefl _ (Heap.lt_size e2)
   refine ⟨fun j v e=>?_,fun j j' v e e'=>?_⟩
   ·rw [Array.getElem?_push] at e
    by_cases hj:j=acc.size
    ·rw [if_pos hj] at e
     cases e
     rw [hj,ha]
     exact ⟨_,_,_,rfl,oth _ _ (fun q=>hnew (by simp [q])) pr,h0,hnew,hx,hy⟩
    ·rw [if_neg hj] at e
     exact (hz.keep all).1 j v e
   ·rw [Array.getElem?_push] at e e'
    by_cases hj:j=acc.size
    ·by_cases hj':j'=acc.size
     ·rw [hj,hj']
     ·rw [if_pos hj] at e;rw [if_neg hj'] at e'
      cases e
      exact absurd e' (old j')
    ·by_cases hj':j'=acc.size
     ·rw [if_neg hj] at e;rw [if_pos hj'] at e'
      cases e'
      exact absurd e (old j)
     ·rw [if_neg hj] at e;rw [if_neg hj'] at e'
      exact hz.2 j j' v e e'
  ·exact hR h'' acc' c' (fun b o hb e=>k2 b o hb (all b o hb e)) hS2 ha2 hz2
end
theorem u7K:typeLookup (.type "zip") "__len__"=pure none:=by rw [typeLookup_type,builtinLookup_eq_fast];kernel_rfl
theorem u6b:typeLookup (.type "zip") "__length_hint__"=pure none:=by rw [typeLookup_type,builtinLookup_eq_fast];kernel_rfl
section
variable {prog:Program}{w:World}{A:Around}{E:VP}{s:Shared}{R:Result→Shared→Prop}
theorem zl_ext {b1 b2:Bool}{z TI TO i1 i2 l1 l2 S:Addr}{xs ys:Array Value}{n0 c₀:Nat}{res:Value} (hh:A.handled=none) (D:ZipApart z TI TO i1 i2 l1 l2) (hSn:S∉[z,TI,TO,i1,i2]) (hl1:l1∉S::[z,TI,TO,i1,i2]) (hl2:l2∉S::[z,TI,TO,i1,i2]) (hn:min xs.size ys.size≤sizeLine)
  (h0:n0≤s.heap.objs.size) (hst:ZSt b1 b2 z TI TO i1 i2 l1 l2 0 s.heap) (q1:ZSq b1 s.heap l1 xs) (q2:ZSq b2 s.heap l2 ys) (hS:s.heap.get? S=some { cls:=.type "list",data:=.seq #[] c₀ })
  (hR:∀ h' acc' c',(∀ b o,b∉S::[z,TI,TO,i1,i2]→s.heap.get? b=some o→h'.get? b=some o)→h'.get? S=some { cls:=.type "list",dict:=none,data:=.seq acc' c',slots:=#[] }→acc'.size=min xs.size ys.size →
   ZAcc n0 (S::[z,TI,TO,i1,i2]) xs ys acc' h'→R (.ok (.ret res)) { s with heap:=h' }) :
  wpAny (model prog w) A.in1 (Builtin.List.listExtendWith (.ref S) (.ref z) res)
   (fun fin s'=>match fin with | .done f=>R (.ok f) s' | .again c'=>c'.quiet=true∧codeAny (model prog w) A c' R s') (fun e s'=>R (.error e) s') s:=by
 have hSI:S≠z:=fun e=>hSn (by simp [e])
 have hT:s.TypeIs (.ref z) "zip":=by obtain ⟨_,_,e,_⟩:=hst.zp;exact ⟨_,e,rfl⟩
 unfold Builtin.List.listExtendWith
 refine wpAny_bind (wpAny_typeOf hT ?_)
 have h1:Builtin.List.listSameRef (.ref S) (.ref z)=false:=by simp [Builtin.List.listSameRef,hSI]
 have h2:(Value.type "zip"==Value.type "list")=false:=by decide
 have h3:(Value.type "zip"==Value.type "tuple")=false:=by decide
 simp only [h1,h2,h3,Bool.or_false,Bool.false_eq_true,if_false]
 refine wpAny_bind (u6a hst ?_)
 refine wpAny_bind (wpAny_holding ?_)
 unfold Builtin.List.listLengthHint
 refine wpAny_bind (wpAny_specialOf hT u7K ?_)
 show wpAny _ A.in1 (specialOf (Value.ref z) (Str.ofString "__length_hint__") >>= _) _ _ _
 refine wpAny_bind (wpAny_specialOf hT u6b ?_)
 refine wpAny_pure ?_
 show wpAny _ A.in1 (rule "list.extend.makes-room" >>= fun _=>Builtin.List.listTouch (.ref S) >>= fun _ =>
  again (.builtin "list.extend.loop" ⟨[.ref S,.ref z,res],[]⟩)) _ _ _
 refine wpAny_bind (wpAny_rule ?_)
 refine wpAny_bind ?_
 show wpAny _ A.in1 (updateSeq S (·.push .none) >>= fun _=>updateSeq S (·.pop)) _ _ _
 refine wpAny_bind (wpAny_updateSeq hS rfl ?_)
 have hS₂:=Heap.get?_update_self (Obj.mapSeq (·.push Value.none)) hS rfl
 refine wpAny_updateSeq (hz:=by seq_fits) hS₂ rfl ?_
 have hS₃:=Heap.get?_update_self (Obj.mapSeq (·.pop)) hS₂ rfl
 have oth:∀ b o,b≠S→s.heap.get? b=some o→((s.heap.update S (Obj.mapSeq (·.push Value.none))).update S (Obj.mapSeq (·.pop))).get? b=some o :=
  fun b o hb e=>(Heap.get?_update_other _ _ (Ne.symm hb)).trans ((Heap.get?_update_other _ _ (Ne.symm hb)).trans e)
 have hz:((s.heap.update S (Obj.mapSeq (·.push Value.none))).update S (Obj.mapSeq (·.pop))).objs.size=s.heap.objs.size:=by rw [(Heap.SameBut.update ..).1,(Heap.SameBut.update ..).1]
 refine wpAny_pure ⟨plainId_quiet F.plain_extend_loop _,zl_loop hh D hSn hl1 hl2 hn res _ 0 _ _ _ rfl (Nat.zero_le _) (by rw [hz];exact h0) (hst.keep fun b hb o e=>oth b o (fun q=>hSn (q ▸ hb)) e)
  (q1.at fun o e=>oth _ o (fun q=>hl1 (by simp [q])) e) (q2.at fun o e=>oth _ o (fun q=>hl2 (by simp [q])) e) hS₃ (by simp) ⟨fun j v e=>by simp at e,fun j j' v e=>by simp at e⟩ fun h' acc' c' k e1 e2 e3=>hR h' acc' c' (fun b o hb e=>k b o hb (oth b o (fun q=>hb (by simp [q])) e)) e1 e2 e3⟩
theorem call_zl {b1 b2:Bool}{z TI TO i1 i2 l1 l2:Addr}{xs ys:Array Value}{n0:Nat}{Q:VP} (hh:A.handled=none) (D:ZipApart z TI TO i1 i2 l1 l2) (hn:min xs.size ys.size≤sizeLine)
  (n1:l1∉[z,TI,TO,i1,i2]) (n2:l2∉[z,TI,TO,i1,i2])
  (h0:n0≤s.heap.objs.size) (hst:ZSt b1 b2 z TI TO i1 i2 l1 l2 0 s.heap) (q1:ZSq b1 s.heap l1 xs) (q2:ZSq b2 s.heap l2 ys)
  (hQ:∀ h' acc' c',(∀ b o,b∉[z,TI,TO,i1,i2]→s.heap.get? b=some o→h'.get? b=some o)→h'.get? s.heap.objs.size=some { cls:=.type "list",dict:=none,data:=.seq acc' c',slots:=#[] }→acc'.size=min xs.size ys.size →
   ZAcc n0 (s.heap.objs.size::[z,TI,TO,i1,i2]) xs ys acc' h'→Q (.ref s.heap.objs.size) { s with heap:=h' }) :
  wpAny (model prog w) A (call (.type "list") [.ref z]) Q E s:=by
 have lts:∀ b∈[z,TI,TO,i1,i2],b<s.heap.objs.size:=fun b hb=>by
  simp only [List.mem_cons,List.not_mem_nil,or_false] at hb
  rcases hb with rfl | rfl | rfl | rfl | rfl
  ·obtain ⟨_,_,e,_⟩:=hst.zp;exact Heap.lt_size e
  ·exact Heap.lt_size hst.ti
  ·obtain ⟨_,_,e⟩:=hst.to;exact Heap.lt_size e
  ·exact hst.a.lt
  ·exact hst.b.lt
 have hSn:s.heap.objs.size∉[z,TI,TO,i1,i2]:=fun hm=>Nat.lt_irrefl _ (lts _ hm)
 have m1:l1∉s.heap.objs.size::[z,TI,TO,i1,i2]:=fun hm=>by
  rcases List.mem_cons.mp hm with e | e
  ·exact absurd (e ▸ q1.lt) (Nat.lt_irrefl _)
  ·exact n1 e
 have m2:l2∉s.heap.objs.size::[z,TI,TO,i1,i2]:=fun hm=>by
  rcases List.mem_cons.mp hm with e | e
  ·exact absurd (e ▸ q2.lt) (Nat.lt_irrefl _)
  ·exact n2 e
 refine callType_codes (Q₁:=fun obj s₁=>obj=.ref s.heap.objs.size∧s₁={ s with heap:=s.heap.push { cls:=.type "list",data:=.seq #[] } }) F.called_list (F.typeCall_list_1 _) F.entry_list_init
  (code_list_new _ ⟨rfl,rfl⟩) fun obj s₁ h₁=>?_
 obtain ⟨rfl,rfl⟩:=h₁
 have hS:(s.heap.push { cls:=.type "list",data:=.seq #[] }).get? s.heap.objs.size=some { cls:=.type "list",data:=.seq #[] }:=Heap.get?_push_size _ rfl
 refine ⟨⟨_,hS,rfl⟩,F.args_list_init_2 _ _,?_⟩
 show wpAny _ _ (do let old ← Builtin.List.listItems (.ref s.heap.objs.size);Builtin.List.listUpdate (.ref s.heap.objs.size) (fun _=>#[]);letGo old.toList.reverse;Builtin.List.listExtendWith (.ref s.heap.objs.size) (.ref z) .none) _ _ _
 refine wpAny_bind ?_
 unfold Builtin.List.listItems
 refine wpAny_bind (wpAny_seqItems hS rfl (wpAny_pure ?_))
 show wpAny _ _ (updateSeq s.heap.objs.size (fun _=>#[]) >>= fun _=>letGo (#[]:Array Value).toList.reverse >>= fun _=>Builtin.List.listExtendWith (.ref s.heap.objs.size) (.ref z) .none) _ _ _
 refine wpAny_bind (wpAny_updateSeq hS rfl ?_)
 have hS₂:=Heap.get?_update_self (Obj.mapSeq (fun _=>(#[]:Array Value))) hS rfl
 have oth:∀ b o,s.heap.get? b=some o→((s.heap.push { cls:=.type "list",data:=.seq #[] }).update s.heap.objs.size (Obj.mapSeq (fun _=>(#[]:Array Value)))).get? b=some o :=
  fun b o e=>(Heap.get?_update_other _ _ (Nat.ne_of_gt (Heap.lt_size e))).trans (Heap.get?_push_of_some _ e)
 refine wpAny_bind (wpAny_letGo ?_)
 have hz:((s.heap.push { cls:=.type "list",data:=.seq #[] }).update s.heap.objs.size (Obj.mapSeq (fun _=>(#[]:Array Value)))).objs.size=s.heap.objs.size+1:=by rw [(Heap.SameBut.update ..).1,Heap.size_push]
 refine zl_ext (A:=A.in1) hh D hSn m1 m2 hn (by rw [hz];exact Nat.le_succ_of_le h0) (hst.keep fun b hb o e=>oth b o e) (q1.at fun o e=>oth _ o e) (q2.at fun o e=>oth _ o e) hS₂ fun h' acc' c' k e1 e2 e3=>?_
 exact ⟨rfl,hQ h' acc' c' (fun b o hb e=>k b o (fun hm=>by
  rcases List.mem_cons.mp hm with q | q
  ·exact absurd (q ▸ Heap.lt_size e) (Nat.lt_irrefl _)
  ·exact hb q) (oth b o e)) e1 e2 e3⟩
end
noncomputable def ixT (n:Nat) (T:Nat→Addr) (b:Addr):Option Nat:=(List.range n).find? fun j=>T j==b
noncomputable def prs (H:Hp) (n:Nat) (T:Nat→Addr) (xs ys:List V):Hp:=fun b=>match ixT n T b with
 | some j=>some (.tup [xs.getD j .non,ys.getD j .non])
 | none=>H b
section
variable {n:Nat}{T:Nat→Addr}{b:Addr}{j:Nat}{H F:Hp}{xs ys:List V}
theorem u7o (h:ixT n T b=some j):j<n∧T j=b:=by
 unfold ixT at h
 have h1:=List.find?_some h
 have h2:=List.mem_of_find?_eq_some h
 exact ⟨List.mem_range.mp h2,by simpa using h1⟩
theorem u2x (h:∀ j,j<n→T j≠b):ixT n T b=none:=by
 unfold ixT
 rw [List.find?_eq_none]
 intro j hj
 simpa using h j (List.mem_range.mp hj)
theorem ixT_at (inj:∀ i j,i<n→j<n→T i=T j→i=j) (hj:j<n):ixT n T (T j)=some j:=by
 cases h:ixT n T (T j) with
 | none =>
  unfold ixT at h
  rw [List.find?_eq_none] at h
  have:=h j (List.mem_range.mpr hj)
  simp at this
 | some i=>obtain ⟨a,e⟩:=u7o h;rw [inj i j a hj e]
theorem u2t (h:∀ j,j<n→H (T j)=none):Same H (prs H n T xs ys):=fun b u e=>by
 unfold prs
 rw [u2x fun j hj q=>by rw [← q,h j hj] at e;cases e]
 exact e
theorem prs_le (h:∀ j,j<n→F (T j)=none) (e:Same F H):Same (prs F n T xs ys) (prs H n T xs ys):=fun b u q=>by
 unfold prs at q ⊢
 cases hi:ixT n T b with
 | some j=>rw [hi] at q;exact q
 | none=>rw [hi] at q;exact e _ _ q
end
section
variable {X:Cx}{pins:LO}{σ:St}{H:Hp}{s:Shared}{h':Heap}{n S c t':Nat}{T:Nat→Addr}{xs ys:List V}
abbrev vT (n:Nat) (T:Nat→Addr):List V:=(List.range n).map fun j=>V.ref (T j)
theorem v1l {T:Nat→Addr}:∀ (l:List Nat),Vals (l.map fun j=>V.ref (T j)) (l.map fun j=>Value.ref (T j))
 | []=>.nil
 | _::l=>.cons rfl (v1l l)
theorem Inv.pairs {S:Addr} (I:Inv X pins σ H s) (kk:∀ b o,s.heap.get? b=some o→h'.get? b=some o) (hS:s.heap.objs.size≤S) (hn:n≤sizeLine)
  (eS:h'.get? S=some { cls:=.type "list",dict:=none,data:=.seq ((List.range n).map fun j=>Value.ref (T j)).toArray c,slots:=#[] })
  (hT:∀ j,j<n→∃ u v,RelV (xs.getD j .non) u∧RelV (ys.getD j .non) v∧IsPair h' (T j) u v∧s.heap.objs.size≤T j∧T j≠S) (inj:∀ i j,i<n→j<n→T i=T j→i=j) :
  Inv X pins σ (upd (prs H n T xs ys) S (.lst (vT n T))) { s with heap:=h',toks:=t' }:=by
 have fS:H S=none:=I.hok.fresh hS
 have fT:∀ j,j<n→H (T j)=none:=fun j hj=>by obtain ⟨_,_,_,_,_,q,_⟩:=hT j hj;exact I.hok.fresh q
 have nS:prs H n T xs ys S=none:=by
  unfold prs
  rw [u2x fun j hj q=>by obtain ⟨_,_,_,_,_,_,e⟩:=hT j hj;exact e q]
  exact fS
 refine I.grow (fp:=[]) (fun b hb=>nomatch hb) (fun b o _ e=>kk b o e) ((u2t fT).trans (u0e nS)) (fun b o e nb=>?_) fun b u nb e=>?_
 ·have lb:=Heap.lt_size e
  rw [u0j (Nat.ne_of_lt (Nat.lt_of_lt_of_le lb hS))]
  unfold prs
  rw [u2x fun j hj q=>by obtain ⟨_,_,_,_,_,l,_⟩:=hT j hj;rw [q] at l;exact absurd lb (Nat.not_lt.mpr l)]
  exact nb
 ·by_cases hb:b=S
  ·subst hb
   rw [u0g] at e
   cases e
   exact ⟨by rw [List.length_map,List.length_range];exact hn,_,c,v1l _,eS⟩
  ·rw [u0j hb] at e
   unfold prs at e
   cases hi:ixT n T b with
   | none=>rw [hi,nb] at e;cases e
   | some j =>
    rw [hi] at e
    cases e
    obtain ⟨hj,rfl⟩:=u7o hi
    obtain ⟨u,v,r1,r2,pr,_⟩:=hT j hj
    exact ⟨by show 2≤sizeLine;decide,[u,v],.cons r1 (.cons r2 .nil),⟨_,pr,rfl,_,rfl⟩⟩
end
theorem rps_T {K:W.Frag}{F:Hp}{T:Nat→Addr}:∀ (l:List Nat) (ds:List D),l.length=ds.length→(∀ (i j:Nat) d,l[i]?=some j→ds[i]?=some d→Rp K F (.ref (T j)) d)→Rps K F (l.map fun j=>V.ref (T j)) ds
 | [],[],_,_=>.nil
 | j::l,d::ds,hl,h=>.cons (h 0 j d rfl rfl) (rps_T l ds (by simpa using hl) fun i j d e1 e2=>h (i+1) j d (by simpa using e1) (by simpa using e2))
noncomputable def zipN:List D→Res OD:=fun ds=>(zip2 ds).bind fun r=>.ok (.l r)
section
variable {X:Cx}{xq:XQ}{a b:Expr}{p pos p2 pos2:Pos}{fa:Rho→Res (List D)}
theorem v1D (hc:X.calm=true) (hm:X.mg "list"=none) (hm2:X.mg "zip"=none) (ha:DA X xq [a,b] fa) (hg:Gl X "list":=by rfl) (hg2:Gl X "zip":=by rfl) :
  DN X xq (.Call (.Name "list" p) [.Call (.Name "zip" p2) [a,b] [] pos2] [] pos) (fun ρ=>(fa ρ).bind zipN):=⟨fun pins s σ H Q I z9=>un5 z9 fun B F ρ R q=>by
 refine Call_ (u1C I hg hm (show bootBuiltins "list"=some (.type "list") by decide +kernel) (PyProof.Rows.callWith_type1 ?_ rfl rfl))
 show wpAny _ _ (spliced ((false,eval (.Call (.Name "zip" p2) [a,b] [] pos2) X.env)::[])) _ _ s
 refine Calls.spliced_cons ?_
 refine Call_ (u1C I hg2 hm2 (show bootBuiltins "zip"=some (.type "zip") by decide +kernel) (PyProof.Rows.callWith_type1 (thn (ha.out pos2 pins s σ H (fun vs H1=>∃ b1 b2 a1 a2 xs ys ds es F1,vs=[.ref a1,.ref a2]∧SqB b1 X.K H1 a1 xs∧SqB b2 X.K H1 a2 ys∧Rps X.K F1 xs ds∧Rps X.K F1 ys es∧Stp F H F1 H1 ∧
   (∀ a h F' H',Stp F H F' H'→F' a=none→H a=none→H' a=some h→Ro X.K F' a h (.l (zipL ds es))→Q (.ref a) H')) I (seqA R q fun ds vs F1 H1 s1 R1 p1 q1=>?_)) fun us s1 ⟨vs,H1,I1,r1,q1⟩=>?_) (u0k (u0h ha.ns).1) (u0D (u0h ha.ns).2)))
 ·unfold zipN zip2 at q1
  split at q1
  ·rename_i d e
   obtain ⟨v,w,rfl,pv,pw⟩:=rps2 p1
   cases hx:rowOf d with
   | none=>rw [hx] at q1;exact q1.elim
   | some x =>
    cases hy:rowOf e with
    | none=>rw [hx,hy] at q1;exact q1.elim
    | some y =>
     rw [hx,hy] at q1
     obtain ⟨b1,a1,xs,rfl,g1,g1',t1⟩:=u5i pv hx
     obtain ⟨b2,a2,ys,rfl,g2,g2',t2⟩:=u5i pw hy
     exact ⟨b1,b2,a1,a2,xs,ys,x,y,F1,rfl,g1 _ R1.fh,g2 _ R1.fh,t1,t2,s1,q1⟩
  ·exact q1.elim
 ·obtain ⟨b1,b2,a1,a2,xs,ys,ds,es,F1,e,h1,h2,t1,t2,st1,q⟩:=q1
  subst e
  obtain ⟨u1,u2,rfl,ru1,ru2⟩:=vals2 r1
  cases (show u1=Value.ref a1 from ru1)
  cases (show u2=Value.ref a2 from ru2)
  obtain ⟨us,rv1,p1⟩:=I1.sqB h1
  obtain ⟨ws,rv2,p2⟩:=I1.sqB h2
  refine u9K p1 p2 fun hA zst kk=>Calls.spliced_nil ?_
  have D:=zipApart_new p1.lt p2.lt
  have hh:X.A.handled=none:=I1.ok.hd hc
  have l1:=rv1.length
  have l2:=rv2.length
  have z1:xs.length≤sizeLine:=by
   cases b1
   ·obtain ⟨_,_,_,z⟩:=I1.list h1;exact z
   ·obtain ⟨_,_,_,z⟩:=I1.tuple h1;exact z
  have hmin:min us.toArray.size ws.toArray.size≤sizeLine:=by simp only [List.size_toArray];omega
  have lA:s1.heap.objs.size≤hA.objs.size:=by
   have:=Heap.lt_size zst.ti
   exact Nat.le_of_lt (Nat.lt_of_le_of_lt (Nat.le_add_right _ _) this)
  have new:∀ c∈[s1.heap.objs.size+4,s1.heap.objs.size+2,s1.heap.objs.size+3,s1.heap.objs.size,s1.heap.objs.size+1],s1.heap.objs.size≤c:=fun c hc=>by
   simp only [List.mem_cons,List.not_mem_nil,or_false] at hc
   rcases hc with rfl | rfl | rfl | rfl | rfl
   ·exact Nat.le_add_right _ _
   ·exact Nat.le_add_right _ _
   ·exact Nat.le_add_right _ _
   ·exact Nat.le_refl _
   ·exact Nat.le_add_right _ _
  refine call_zl (s:={ s1 with heap:=hA }) (n0:=s1.heap.objs.size) hh D hmin (fun hm=>absurd p1.lt (Nat.not_lt.mpr (new _ hm))) (fun hm=>absurd p2.lt (Nat.not_lt.mpr (new _ hm))) lA zst (p1.at fun o e=>kk _ o e) (p2.at fun o e=>kk _ o e) fun h' acc c kB eS esz ez=>?_
  let T:Nat→Addr:=fun j=>match acc[j]? with | some (.ref t)=>t | _=>0
  let n:=min us.length ws.length
  have hsz:acc.size=n:=by rw [esz];simp only [List.size_toArray];rfl
  have item:∀ j,j<n→acc[j]?=some (.ref (T j))∧∃ x y,IsPair h' (T j) x y∧s1.heap.objs.size≤T j∧T j≠hA.objs.size∧us[j]?=some x∧ws[j]?=some y:=fun j hj=>by
   have e:acc[j]?=some (acc[j]'(by omega)):=Array.getElem?_eq_getElem (by omega)
   obtain ⟨t,x,y,e1,e2,e3,e4,e5,e6⟩:=ez.1 j _ e
   have et:T j=t:=by show (match acc[j]? with | some (.ref t)=>t | _=>0)=t;rw [e,e1]
   rw [et]
   exact ⟨by rw [e,e1],x,y,e2,e3,fun q=>e4 (by rw [q];exact List.mem_cons_self),by simpa using e5,by simpa using e6⟩
  have inj:∀ i j,i<n→j<n→T i=T j→i=j:=fun i j hi hj e=>ez.2 i j _ (item i hi).1 (by rw [e];exact (item j hj).1)
  have eacc:acc=((List.range n).map fun j=>Value.ref (T j)).toArray:=by
   apply Array.ext_getElem?
   intro j
   by_cases hj:j<n
   ·rw [(item j hj).1];simp [hj]
   ·rw [Array.getElem?_eq_none (by omega)];simp [hj]
  rw [eacc] at eS
  have fT:∀ j,j<n→H1 (T j)=none:=fun j hj=>by obtain ⟨_,_,_,_,q,_⟩:=item j hj;exact I1.hok.fresh q
  have fT1:∀ j,j<n→F1 (T j)=none:=fun j hj=>st1.fh.free (fT j hj)
  have fS:H1 hA.objs.size=none:=I1.hok.fresh lA
  have prS:∀ (G:Hp),G hA.objs.size=none→prs G n T xs ys hA.objs.size=none:=fun G g=>by
   unfold prs
   rw [u2x fun j hj q=>by obtain ⟨_,_,_,_,_,e,_⟩:=item j hj;exact e q]
   exact g
  have I2:=I1.pairs (t':=s1.toks) (S:=hA.objs.size) (n:=n) (T:=T) (xs:=xs) (ys:=ys) (c:=c) (fun b o e=>kB b o (fun hm=>absurd (Heap.lt_size e) (Nat.not_lt.mpr (new _ hm))) (kk b o e)) lA (by show min us.length ws.length≤_;omega) eS (fun j hj=>by
   obtain ⟨_,x,y,e2,e3,e4,e5,e6⟩:=item j hj
   have hx:xs[j]?=some (xs.getD j .non):=by
    rw [List.getD_eq_getElem?_getD,List.getElem?_eq_getElem (show j<xs.length from by have:j<min us.length ws.length:=hj;omega)];rfl
   have hy:ys[j]?=some (ys.getD j .non):=by
    rw [List.getD_eq_getElem?_getD,List.getElem?_eq_getElem (show j<ys.length from by have:j<min us.length ws.length:=hj;omega)];rfl
   obtain ⟨u,hu,ru⟩:=rv1.get hx
   obtain ⟨v,hv,rv⟩:=rv2.get hy
   rw [e5] at hu;cases hu
   rw [e6] at hv;cases hv
   exact ⟨x,y,ru,rv,e2,e3,e4⟩) inj
  have ssame:Same (prs F1 n T xs ys) (upd (prs H1 n T xs ys) hA.objs.size (.lst (vT n T))):=(prs_le fT1 st1.fh).trans (u0e (prS H1 fS))
  refine ⟨.ref hA.objs.size,_,I2,rfl,q _ (.lst (vT n T)) (prs F1 n T xs ys) _ (st1.trans ⟨u2t fT1,ssame,(u2t fT).trans (u0e (prS H1 fS)),fun b f1 hb=>?_⟩) (prS F1 (st1.fh.free fS)) (st1.hh.free fS) u0g (.l (rps_T _ _ ?_ fun i j d e1 e2=>?_))⟩
  ·unfold prs
   rw [u2x fun j hj e=>hb (by rw [← e];exact fT j hj)]
   exact f1
  ·have:=t1.length
   have:=t2.length
   unfold zipL
   rw [List.length_range,List.length_map,List.length_zip]
   show min us.length ws.length=_
   omega
  ·have hi:i<n∧j=i:=by
    have l:=(List.getElem?_eq_some_iff.mp e1).1
    rw [List.length_range] at l
    rw [List.getElem?_range l] at e1
    exact ⟨l,(Option.some.inj e1).symm⟩
   obtain ⟨hi,rfl⟩:=hi
   unfold zipL at e2
   rw [List.getElem?_map,Option.map_eq_some_iff] at e2
   obtain ⟨⟨d1,d2⟩,hz,rfl⟩:=e2
   rw [List.getElem?_zip_eq_some] at hz
   obtain ⟨x,hx,px⟩:=t1.get hz.1
   obtain ⟨y,hy,py⟩:=t2.get hz.2
   have e3:prs F1 n T xs ys (T j)=some (.tup [x,y]):=by
    unfold prs
    rw [ixT_at inj hi]
    simp only [List.getD_eq_getElem?_getD,hx,hy,Option.getD_some]
   exact .tup (.inl (.inl e3)) (.cons (px.same (u2t fT1)) (.cons (py.same (u2t fT1)) .nil))⟩
end
section
variable {prog:Program}{w:World}{A:Around}{E:VP}{s:Shared}{R:Result→Shared→Prop}
variable {I:Addr}{fp wr:List Addr}{G:Array GenState→Array GenState→Prop}{n:Nat}{P:Nat→Value→Prop}{St:Nat→Shared→Prop}{T:String}
def Hints (prog:Program) (w:World) (A:Around) (I:Addr) (St:Nat→Shared→Prop):Prop:=∀ (s:Shared) (Q:Bool→Shared→Prop) (E:VP),St 0 s→(∀ b tk,s.toks≤tk→Q b { s with toks:=tk })→wpAny (model prog w) A (Builtin.List.listLengthHint (.ref I)) Q E s
theorem ext_it (W:WalksS prog w A.in1 I fp wr G n P St) (hH:Hints prog w A.in1 I St) (hT:∀ i s,St i s→s.TypeIs (.ref I) T) (n1:(Value.type T==Value.type "list")=false) (n2:(Value.type T==Value.type "tuple")=false) (S:Addr) (res:Value) (c₀:Nat) (hst:St 0 s) (hSf:S∉fp) (hI:I∈fp)
  (hS:s.heap.get? S=some { cls:=.type "list",data:=.seq #[] c₀ }) (hn:n≤sizeLine)
  (hR:∀ s' acc' c',Moved (S::wr) G s s'→s'.heap.get? S=some { cls:=.type "list",dict:=none,data:=.seq acc' c',slots:=#[] }→ItemsOf P acc' n→R (.ok (.ret res)) s') :
  wpAny (model prog w) A.in1 (Builtin.List.listExtendWith (.ref S) (.ref I) res)
   (fun fin s'=>match fin with | .done f=>R (.ok f) s' | .again c'=>c'.quiet=true∧codeAny (model prog w) A c' R s') (fun e s'=>R (.error e) s') s:=by
 have hSI:S≠I:=fun e=>hSf (e ▸ hI)
 unfold Builtin.List.listExtendWith
 refine wpAny_bind (wpAny_typeOf (hT 0 _ hst) ?_)
 have h1:Builtin.List.listSameRef (.ref S) (.ref I)=false:=by simp [Builtin.List.listSameRef,hSI]
 simp only [h1,n1,n2,Bool.or_false,Bool.false_eq_true,if_false]
 refine wpAny_bind (W.self 0 _ _ _ hst ?_)
 refine wpAny_bind (wpAny_holding (hH s _ _ hst fun b tk htk=>?_))
 have hst2:St 0 { s with toks:=tk }:=W.frame 0 s s.heap tk hst htk fun b _ o e=>e
 have m0:Moved (S::wr) G s { s with toks:=tk }:=(Moved.refl W.grefl).then_heap htk fun b o _ e=>e
 split
 ·refine wpAny_bind (wpAny_rule ?_)
  refine wpAny_bind ?_
  show wpAny _ A.in1 (updateSeq S (·.push .none) >>= fun _=>updateSeq S (·.pop)) _ _ _
  refine wpAny_bind (wpAny_updateSeq hS rfl ?_)
  have hS₂:=Heap.get?_update_self (Obj.mapSeq (·.push Value.none)) hS rfl
  refine wpAny_updateSeq (hz:=by seq_fits) hS₂ rfl ?_
  have hS₃:=Heap.get?_update_self (Obj.mapSeq (·.pop)) hS₂ rfl
  have oth:∀ b o,b≠S→s.heap.get? b=some o→((s.heap.update S (Obj.mapSeq (·.push Value.none))).update S (Obj.mapSeq (·.pop))).get? b=some o :=
   fun b o hb e=>(Heap.get?_update_other _ _ (Ne.symm hb)).trans ((Heap.get?_update_other _ _ (Ne.symm hb)).trans e)
  refine wpAny_pure ⟨plainId_quiet F.plain_extend_loop _,codeAny_extend_loopS W hn _ hSf _ n 0 _ _ _ rfl (Nat.zero_le _)
   (W.frame 0 s _ tk hst htk fun b hb o e=>oth b o (fun h=>hSf (h ▸ hb)) e) hS₃ (ItemsOf.nil P) fun s' acc' c' hm hS' hacc=>?_⟩
  exact hR s' acc' c' (Moved.trans W.gtrans ((Moved.refl W.grefl).then_heap htk fun b o hb e=>oth b o (fun h=>hb (h ▸ List.mem_cons_self)) e) hm) hS' hacc
 ·exact wpAny_pure ⟨plainId_quiet F.plain_extend_loop _,codeAny_extend_loopS W hn _ hSf _ n 0 _ _ _ rfl (Nat.zero_le _) hst2 hS (ItemsOf.nil P) fun s' acc' c' hm hS' hacc=>hR s' acc' c' (Moved.trans W.gtrans m0 hm) hS' hacc⟩
theorem u3b {Q:VP} (W:WalksS prog w A.in1.in1 I fp wr G n P St) (hH:Hints prog w A.in1.in1 I St) (hT:∀ i s,St i s→s.TypeIs (.ref I) T) (n1:(Value.type T==Value.type "list")=false) (n2:(Value.type T==Value.type "tuple")=false) (hst:St 0 s) (hfp:∀ b∈fp,b<s.heap.objs.size) (hI:I∈fp) (hn:n≤sizeLine)
  (hQ:∀ s' acc' c',Moved (s.heap.objs.size::wr) G { s with heap:=s.heap.push { cls:=.type "list",data:=.seq #[] } } s' →
   s'.heap.get? s.heap.objs.size=some { cls:=.type "list",dict:=none,data:=.seq acc' c',slots:=#[] }→ItemsOf P acc' n→Q (.ref s.heap.objs.size) s') :
  wpAny (model prog w) A (call (.type "list") [.ref I]) Q E s:=by
 have hSf:s.heap.objs.size∉fp:=fun hm=>Nat.lt_irrefl _ (hfp _ hm)
 refine callType_codes (Q₁:=fun obj s₁=>obj=.ref s.heap.objs.size∧s₁={ s with heap:=s.heap.push { cls:=.type "list",data:=.seq #[] } }) F.called_list (F.typeCall_list_1 _) F.entry_list_init
  (code_list_new _ ⟨rfl,rfl⟩) fun obj s₁ h₁=>?_
 obtain ⟨rfl,rfl⟩:=h₁
 have hS:(s.heap.push { cls:=.type "list",data:=.seq #[] }).get? s.heap.objs.size=some { cls:=.type "list",data:=.seq #[] }:=Heap.get?_push_size _ rfl
 have st1:=W.frame 0 s _ s.toks hst (Nat.le_refl _) fun b _ o e=>Heap.get?_push_of_some { cls:=.type "list",data:=.seq #[] } e
 refine ⟨⟨_,hS,rfl⟩,F.args_list_init_2 _ _,?_⟩
 show wpAny _ A.in1.in1 (do let old ← Builtin.List.listItems (.ref s.heap.objs.size);Builtin.List.listUpdate (.ref s.heap.objs.size) (fun _=>#[]);letGo old.toList.reverse;Builtin.List.listExtendWith (.ref s.heap.objs.size) (.ref I) .none) _ _ _
 refine wpAny_bind ?_
 unfold Builtin.List.listItems
 refine wpAny_bind (wpAny_seqItems hS rfl (wpAny_pure ?_))
 show wpAny _ A.in1.in1 (updateSeq s.heap.objs.size (fun _=>#[]) >>= fun _=>letGo (#[]:Array Value).toList.reverse >>= fun _=>Builtin.List.listExtendWith (.ref s.heap.objs.size) (.ref I) .none) _ _ _
 refine wpAny_bind (wpAny_updateSeq hS rfl ?_)
 have hS₂:=Heap.get?_update_self (Obj.mapSeq (fun _=>(#[]:Array Value))) hS rfl
 have oth:∀ b o,b≠s.heap.objs.size→(s.heap.push { cls:=.type "list",data:=.seq #[] }).get? b=some o→((s.heap.push { cls:=.type "list",data:=.seq #[] }).update s.heap.objs.size (Obj.mapSeq (fun _=>(#[]:Array Value)))).get? b=some o :=
  fun b o hb e=>(Heap.get?_update_other _ _ (Ne.symm hb)).trans e
 refine wpAny_bind (wpAny_letGo ?_)
 refine ext_it W hH hT n1 n2 _ .none _ (W.frame 0 _ _ _ st1 (Nat.le_refl _) fun b hb o e=>oth b o (fun h=>hSf (h ▸ hb)) e) hSf hI hS₂ hn fun s' acc' c' hm hS' hacc=>?_
 exact ⟨rfl,hQ s' acc' c' (Moved.trans W.gtrans ((Moved.refl W.grefl).then_heap (Nat.le_refl _) fun b o hb e=>oth b o (fun h=>hb (h ▸ List.mem_cons_self)) e) hm) hS' hacc⟩
end
theorem v0d:typeLookup (.type "reversed") "__len__"=pure none:=by rw [typeLookup_type,builtinLookup_eq_fast];kernel_rfl
theorem u6m:Slot "reversed" "__length_hint__" "reversed.__length_hint__":=.of (owner:="reversed") (n:="__length_hint__") (by rw [typeLookup_type,builtinLookup_eq_fast];kernel_rfl) (by decide +kernel) (by decide +kernel) (by decide +kernel) (by first | exact .inl (by decide +kernel) | exact .inr (by decide +kernel)) (by rw [isSubtype_type];kernel_rfl)
theorem v0f:entryFor table "reversed.__length_hint__"=some Builtin.«reversed.__length_hint__»:=entryFor_of_tree (by kernel_rfl)
theorem v0h (a:Value):argsOk "reversed.__length_hint__" ⟨[a],[]⟩:=by
 unfold argsOk;rw [signature?_of (id:="reversed.__length_hint__") (n:=['_','_','t','n','i','h','_','h','t','g','n','e','l','_','_']) (o:=['d','e','s','r','e','v','e','r']) (by kernel_rfl) u8y];kernel_rfl
theorem v0c:splitId "reversed.__length_hint__"=some ("reversed","__length_hint__"):=by decide +kernel
section
variable {P:Program}{w:World}{A:Around}{E:VP}{s:Shared}
theorem u9V (hh:A.handled=none) (I l:Addr) (hne:l≠I) (items:Array Value) (hz:(items.size:Int)<2^63) :
  Walks P w A I [I,l] [I] items.size (fun i v=>items[items.size - 1 - i]?=some v) (fun i h=>i≤items.size∧IsRv h I l ((items.size:Int) - 1 - (i:Int))∧h.IsTuple l items) where
 sub:=fun b hb=>by simp at hb;simp [hb]
 frame:=fun _ _ _ x hk=>⟨x.1,hk I (by simp) _ x.2.1,x.2.2.at fun o e=>hk l (by simp) o e⟩
 item:=fun i s Q E hi x hQ=>by
  have e:(items.size:Int) - 1 - (i:Int)=((items.size - 1 - i:Nat):Int):=by omega
  have hit:=x.2.1
  rw [e] at hit
  have hx:items[items.size - 1 - i]?=some (items[items.size - 1 - i]'(by omega)):=Array.getElem?_eq_getElem (by omega)
  refine nx_rv hit x.2.2 hz hx fun h' t hit' hs'=>?_
  have e2:((items.size - 1 - i:Nat):Int) - 1=(items.size:Int) - 1 - ((i+1:Nat):Int):=by omega
  rw [e2] at hit'
  exact hQ _ h' t hx ⟨hi,hit',x.2.2.at fun o eo=>(hs'.2 l hne).trans eo⟩ fun b o hb eo=>hs'.extBut b o (fun h=>hb (by simp [h])) eo
 done:=fun s Q E x hQ=>by
  have e:(items.size:Int) - 1 - (items.size:Int)=-1:=by omega
  have hit:=x.2.1
  rw [e] at hit
  exact u8W hh hit fun h' he'=>hQ h' s.toks fun b o hb eo=>he' b o (fun h=>hb (by simp [h])) eo
 self:=fun _ _ _ _ x hQ=>it_rv x.2.1 hQ
theorem hint_rv {I l:Addr}{items:Array Value}{Q:Bool→Shared→Prop} (hz:items.size≤sizeLine) (hI:IsRv s.heap I l ((items.size:Int) - 1)) (hl:s.heap.IsTuple l items) (h:∀ b tk,s.toks≤tk→Q b { s with toks:=tk }) :
  wpAny (model P w) A (Builtin.List.listLengthHint (.ref I)) Q E s:=by
 unfold Builtin.List.listLengthHint
 refine wpAny_bind (wpAny_specialOf hI.ty v0d ?_)
 dsimp only
 rw [if_neg (by decide)]
 rw [if_neg (by decide)]
 refine wpAny_bind (wpAny_specialOf hI.ty u6m.lookup ?_)
 dsimp only
 rw [v0c]
 dsimp only
 refine wpAny_bind (wpAny_isInstance (T:="reversed") (b:=true) hI.ty F.sub_reversed_self ?_)
 rw [if_neg (by decide)]
 rw [if_neg (by decide +kernel)]
 refine wpAny_bind (wpAny_rule ?_)
 refine wpAny_bind (wpAny_of_eq (u6m.bind (.ref I)) ?_)
 refine wpAny_bind (wpAny_attempt (wpAny_call_entry u6m hI.ty v0f ?_ (v0h _)))
 unfold Builtin.«reversed.__length_hint__»
 have hzi:(items.size:Int)<2^63:=Int.lt_of_le_of_lt (Int.ofNat_le.mpr hz) (by decide +kernel)
 refine wpAny_bind (wpAny_of_eq (a:=Value.ref I) rfl ?_)
 refine wpAny_bind (wpAny_field hI rfl (x:=.ref l) rfl ?_)
 rw [if_neg (by simp)]
 refine wpAny_bind (len_tuple (show IsTup s.heap l items from hl) hzi (wpAny_bind (wpAny_of_eq (a:=some (items.size:Int)) rfl ?_)))
 dsimp only
 refine wpAny_bind (wpAny_field hI rfl (x:=rawInt ((items.size:Int) - 1)) rfl ?_)
 show wpAny _ _ (if (items.size:Int)<(items.size:Int) - 1+1 then _ else _) _ _ _
 rw [if_neg (by omega)]
 have e:(items.size:Int) - 1+1=(items.size:Int):=by omega
 rw [e]
 refine wpAny_ret_mkInt ?_
 dsimp only
 generalize hN:(items.size:Int)=N at hzi ⊢
 have ea:∀ (k:Int) (t:Tok),asInt? (.int k t)=pure (some k):=fun _ _=>rfl
 rw [ea,pure_bind]
 dsimp only
 have f1:Builtin.List.listFitsIndex N=true:=fitsIndex_both (Int.le_trans (by decide +kernel) (hN ▸ Int.natCast_nonneg _)) hzi
 rw [f1,if_neg (by decide),if_neg (by omega),← hN,Int.toNat_natCast,notLongL hz,if_neg (by decide)]
 refine wpAny_pure ?_
 generalize ((items.size:Int) != 0)=bb
 exact h bb _ (by omega)
end
theorem v0F:typeLookup (.type "list_reverseiterator") "__len__"=pure none:=by rw [typeLookup_type,builtinLookup_eq_fast];kernel_rfl
theorem lr_hint:Slot "list_reverseiterator" "__length_hint__" "list_reverseiterator.__length_hint__":=.of (owner:="list_reverseiterator") (n:="__length_hint__") (by rw [typeLookup_type,builtinLookup_eq_fast];kernel_rfl) (by decide +kernel) (by decide +kernel) (by decide +kernel) (by first | exact .inl (by decide +kernel) | exact .inr (by decide +kernel)) (by rw [isSubtype_type];kernel_rfl)
theorem v0E:splitId "list_reverseiterator.__length_hint__"=some ("list_reverseiterator","__length_hint__"):=by decide +kernel
theorem sub_lr:isSubtype (.type "list_reverseiterator") (.type "list_reverseiterator")=pure true:=by rw [isSubtype_type];kernel_rfl
section
variable {P:Program}{w:World}{A:Around}{E:VP}{s:Shared}
theorem hint_lr {I:Addr}{Q:Bool→Shared→Prop} (hT:s.TypeIs (.ref I) "list_reverseiterator") (h:Q false s) :
  wpAny (model P w) A (Builtin.List.listLengthHint (.ref I)) Q E s:=by
 unfold Builtin.List.listLengthHint
 refine wpAny_bind (wpAny_specialOf hT v0F ?_)
 dsimp only
 rw [if_neg (by decide)]
 rw [if_neg (by decide)]
 refine wpAny_bind (wpAny_specialOf hT lr_hint.lookup ?_)
 dsimp only
 rw [v0E]
 dsimp only
 refine wpAny_bind (wpAny_isInstance (T:="list_reverseiterator") (b:=true) hT sub_lr ?_)
 rw [if_neg (by decide)]
 rw [if_pos (by decide +kernel)]
 rw [if_neg (by decide +kernel)]
 exact wpAny_pure h
theorem rev_acc {us:List Value}{acc:Array Value} (h:ItemsOf (fun i v=>us.toArray[us.toArray.size - 1 - i]?=some v) acc us.toArray.size):acc=us.reverse.toArray:=by
 apply Array.ext_getElem?
 intro j
 by_cases hj:j<acc.size
 ·have e:acc[j]?=some (acc[j]'hj):=Array.getElem?_eq_getElem hj
  have q:=h.2 j _ e
  have hs:acc.size=us.length:=by have:=h.1;simpa using this
  rw [List.size_toArray] at q
  rw [e,← q]
  simp
  rw [List.getElem?_reverse (by omega)]
 ·have hs:acc.size=us.length:=by have:=h.1;simpa using this
  rw [Array.getElem?_eq_none (by omega)]
  simp
  omega
theorem v0G {b:Bool}{l:Addr}{us:List Value}{Q:VP} (hh:A.handled=none) (hz:us.length≤sizeLine) (hl:ZSq b s.heap l us.toArray)
  (hQ:∀ h' c tk,(∀ b o,s.heap.get? b=some o→h'.get? b=some o)→h'.get? (s.heap.objs.size+1)=some { cls:=.type "list",dict:=none,data:=.seq us.reverse.toArray c,slots:=#[] }→Q (.ref (s.heap.objs.size+1)) { s with heap:=h',toks:=tk }) :
  wpAny (model P w) A (call (.type "reversed") [.ref l]) (fun v s2=>wpAny (model P w) A (call (.type "list") [v]) Q E s2) E s:=by
 have hzi:(us.toArray.size:Int)<2^63:=by rw [List.size_toArray];exact Int.lt_of_le_of_lt (Int.ofNat_le.mpr hz) (by decide +kernel)
 have hz2:us.toArray.size≤sizeLine:=by rw [List.size_toArray];exact hz
 have lt:=hl.lt
 have ne:l≠s.heap.objs.size:=Nat.ne_of_lt lt
 have e0:(us.toArray.size:Int) - 1 - ((0:Nat):Int)=(us.toArray.size:Int) - 1:=by omega
 have fin:∀ (O:Obj) (t:Nat) (s':Shared) (acc:Array Value) (c:Nat),Moved ((s.heap.push O).objs.size::[s.heap.objs.size]) (fun a b=>b=a) { s with heap:=(s.heap.push O).push { cls:=.type "list",data:=.seq #[] },toks:=t } s' →
   s'.heap.get? (s.heap.push O).objs.size=some { cls:=.type "list",dict:=none,data:=.seq acc c,slots:=#[] }→ItemsOf (fun i v=>us.toArray[us.toArray.size - 1 - i]?=some v) acc us.toArray.size→Q (.ref (s.heap.push O).objs.size) s':=by
  intro O t s' acc c hm hS hacc
  obtain ⟨h',g',d',tk',os'⟩:=s'
  have eg:g'=s.gens:=hm.gens
  have ed:d'=s.drawn:=hm.drawn
  have eo:os'=s.os:=hm.os
  subst eg ed eo
  have ez:(s.heap.push O).objs.size=s.heap.objs.size+1:=Heap.size_push ..
  rw [rev_acc hacc] at hS
  rw [ez] at hS hm ⊢
  refine hQ h' c tk' (fun b o e=>hm.heap b o (fun hb=>?_) (Heap.get?_push_of_some _ (Heap.get?_push_of_some _ e))) hS
  have:=Heap.lt_size e
  simp only [List.mem_cons,List.not_mem_nil,or_false] at hb
  rcases hb with rfl | rfl
  ·exact absurd this (Nat.not_lt.mpr (Nat.le_succ _))
  ·exact absurd this (Nat.lt_irrefl _)
 cases b
 ·have hl:s.heap.IsList l us.toArray:=hl
  refine call_reversed_list hl ?_
  have st0:(0:Nat)≤us.toArray.size∧(s.heap.push (revObj l ((us.toArray.size:Int) - 1))).IsRevIter s.heap.objs.size l ((us.toArray.size:Int) - 1 - ((0:Nat):Int))∧(s.heap.push (revObj l ((us.toArray.size:Int) - 1))).IsList l us.toArray :=
   ⟨Nat.zero_le _,⟨_,Heap.get?_push_size _ rfl,rfl,by rw [e0];rfl⟩,hl.at fun o e=>Heap.get?_push_of_some _ e⟩
  refine u3b (T:="list_reverseiterator") ((Walks.listRev (show A.in1.in1.handled=none by simp [hh]) s.heap.objs.size l ne us.toArray).toS) (fun s' Q' E' st h=>hint_lr st.2.1.typeIs (h false s'.toks (Nat.le_refl _))) (fun i s' st=>st.2.1.typeIs) (by decide) (by decide) st0 ?_ (by simp) hz2 fun s' acc c hm hS hacc=>fin _ _ s' acc c hm hS hacc
  intro b hb
  simp only [List.mem_cons,List.not_mem_nil,or_false] at hb
  rcases hb with rfl | rfl
  ·exact Heap.lt_size (Heap.get?_push_size _ rfl)
  ·exact Nat.lt_of_lt_of_le lt (by show _≤(s.heap.push _).objs.size;rw [Heap.size_push];exact Nat.le_succ _)
 ·have hl:s.heap.IsTuple l us.toArray:=hl
  refine call_rv hl hzi fun t=>?_
  have st0:(0:Nat)≤us.toArray.size∧IsRv (s.heap.push (rvO l ((us.toArray.size:Int) - 1))) s.heap.objs.size l ((us.toArray.size:Int) - 1 - ((0:Nat):Int))∧(s.heap.push (rvO l ((us.toArray.size:Int) - 1))).IsTuple l us.toArray :=
   ⟨Nat.zero_le _,by rw [e0];exact Heap.get?_push_size _ rfl,hl.at fun o e=>Heap.get?_push_of_some _ e⟩
  refine u3b (T:="reversed") ((u9V (show A.in1.in1.handled=none by simp [hh]) s.heap.objs.size l ne us.toArray hzi).toS) (fun s' Q' E' st h=>hint_rv hz2 (by rw [← e0];exact st.2.1) st.2.2 h) (fun i s' st=>st.2.1.ty) (by decide) (by decide) st0 ?_ (by simp) hz2 fun s' acc c hm hS hacc=>fin _ _ s' acc c hm hS hacc
  intro b hb
  simp only [List.mem_cons,List.not_mem_nil,or_false] at hb
  rcases hb with rfl | rfl
  ·exact Heap.lt_size (Heap.get?_push_size _ rfl)
  ·exact Nat.lt_of_lt_of_le lt (by show _≤(s.heap.push _).objs.size;rw [Heap.size_push];exact Nat.le_succ _)
end
noncomputable def revN:List D→Res OD
 | [d]=>match rowOf d with
  | some x=>.ok (.l x.reverse)
  | none=>.bad
 | _=>.bad
theorem Vals.rev {xs:List V}{us:List Value} (h:Vals xs us):Vals xs.reverse us.reverse:=by
 induction h with
 | nil=>exact .nil
 | cons a b ih =>
  rw [List.reverse_cons,List.reverse_cons]
  exact ih.append (.cons a .nil)
theorem Rps.rev {K:W.Frag}{F:Hp}:∀ {xs:List V}{ds:List D},Rps K F xs ds→Rps K F xs.reverse ds.reverse
 | _,_,.nil=>.nil
 | _,_,.cons a b=>by
  rw [List.reverse_cons,List.reverse_cons]
  exact rps_appR (Rps.rev b) (.cons a .nil)
where rps_appR {K:W.Frag}{F:Hp}:∀ {xs ys:List V}{ds es:List D},Rps K F xs ds→Rps K F ys es→Rps K F (xs++ys) (ds++es)
 | _,_,_,_,.nil,h=>h
 | _,_,_,_,.cons a b,h=>.cons a (rps_appR b h)
section
variable {X:Cx}{xq:XQ}{a:Expr}{p pos p2 pos2:Pos}{fa:Rho→Res (List D)}
theorem v1E (hc:X.calm=true) (hm:X.mg "list"=none) (hm2:X.mg "reversed"=none) (ha:DA X xq [a] fa) (hg:Gl X "list":=by rfl) (hg2:Gl X "reversed":=by rfl) :
  DN X xq (.Call (.Name "list" p) [.Call (.Name "reversed" p2) [a] [] pos2] [] pos) (fun ρ=>(fa ρ).bind revN):=⟨fun pins s σ H Q I z9=>un5 z9 fun B F ρ R q=>by
 refine Call_ (u1C I hg hm (show bootBuiltins "list"=some (.type "list") by decide +kernel) (PyProof.Rows.callWith_type1 ?_ rfl rfl))
 show wpAny _ _ (spliced ((false,eval (.Call (.Name "reversed" p2) [a] [] pos2) X.env)::[])) _ _ s
 refine Calls.spliced_cons ?_
 refine Call_ (u1C I hg2 hm2 (show bootBuiltins "reversed"=some (.type "reversed") by decide +kernel) (PyProof.Rows.callWith_type1 (thn (ha.out pos2 pins s σ H (fun vs H1=>∃ b1 a1 xs ds F1,vs=[.ref a1]∧SqB b1 X.K H1 a1 xs∧Rps X.K F1 xs ds∧Stp F H F1 H1 ∧
   (∀ a h F' H',Stp F H F' H'→F' a=none→H a=none→H' a=some h→Ro X.K F' a h (.l ds.reverse)→Q (.ref a) H')) I (seqA R q fun ds vs F1 H1 s1 R1 p1 q1=>?_)) fun us s1 ⟨vs,H1,I1,r1,q1⟩=>?_) (u0k (u0h ha.ns).1) (u0D (u0h ha.ns).2)))
 ·unfold revN at q1
  split at q1
  ·rename_i d
   obtain ⟨v,rfl,pv⟩:=rps1 p1
   cases hx:rowOf d with
   | none=>rw [hx] at q1;exact q1.elim
   | some x =>
    rw [hx] at q1
    obtain ⟨b1,a1,xs,rfl,g1,g1',t1⟩:=u5i pv hx
    exact ⟨b1,a1,xs,x,F1,rfl,g1 _ R1.fh,t1,s1,q1⟩
  ·exact q1.elim
 ·obtain ⟨b1,a1,xs,ds,F1,e,h1,t1,st1,q⟩:=q1
  subst e
  obtain ⟨u1,rfl,ru1⟩:=vals1 r1
  cases (show u1=Value.ref a1 from ru1)
  obtain ⟨us,rv1,p1⟩:=I1.sqB h1
  have hh:X.A.handled=none:=I1.ok.hd hc
  have l1:=rv1.length
  have z1:xs.length≤sizeLine:=by
   cases b1
   ·obtain ⟨_,_,_,z⟩:=I1.list h1;exact z
   ·obtain ⟨_,_,_,z⟩:=I1.tuple h1;exact z
  refine thn (v0G hh (by omega) p1 fun h' c tk kk eS=>?_) fun v s2 h2=>Calls.spliced_nil h2
  have lA:s1.heap.objs.size≤s1.heap.objs.size+1:=Nat.le_succ _
  have fS:H1 (s1.heap.objs.size+1)=none:=I1.hok.fresh lA
  have I2:=I1.laid (t':=tk) (a:=s1.heap.objs.size+1) (o:=.lst xs.reverse) kk lA ⟨by rw [List.length_reverse];exact z1,us.reverse,c,rv1.rev,eS⟩
  exact ⟨.ref (s1.heap.objs.size+1),_,I2,rfl,q _ (.lst xs.reverse) F1 _ (st1.trans ⟨Same.refl _,st1.fh.trans (u0e fS),u0e fS,fun b f1 hb=>f1⟩) (st1.fh.free fS) (st1.hh.free fS) u0g (.l t1.rev)⟩⟩
end
def MCalleeF (P:Program) (w:World) (K:W.Frag) (mg:MG) (base:Heap) (k:Nat) (C:Addr) (m:Str) (ps:List Str) (f:FD):Prop :=
 ∃ a fd,Cls K C∧Meth K C m a∧FnOk P w K mg base CX0 k a fd ps (spF K f)∧Binds K fd ps []
section
variable {X:Cx}{xq:XQ}{o e:Expr}{es:List Expr}{fo:Rho→Res D}{fs:Rho→Res (List D)}{f m:Str}{p pos apos:Pos}{Cs:List Addr}
theorem u1Y {P:Program}{w:World}{K:W.Frag}{mg:MG}{base:Heap}{k k':Nat}{ps:List Str}{g:Addr→List D→Res D}{pl:Sem Bool} (h:∀ C∈Cs,MCalleeF P w K mg base k C m ps (g C)) (hr:Room k' X.A) (ho:DE X xq o fo) (hk:k≤k':=by decide)
  (eP:X.prog=P:=by rfl) (ew:X.w=w:=by rfl) (eK:X.K=K:=by rfl) (em:X.mg=mg:=by rfl) (eb:X.base=base:=by rfl)
  (ht:eval (.Call (.Attribute o m apos) [] [] pos) X.env=(do
   let ov ← eval o X.env
   standAt apos.atName
   let (f,first) ← holding [ov] (getMethod ov m pl)
   callWith pos f first (backTo pos (starEach [] X.env)) (backToKw pos (keywordEach [] X.env))):=by rfl) :
  DE X xq (.Call (.Attribute o m apos) [] [] pos) (fun ρ=>(fo ρ).bind fun x=>(isV Cs m x).bind fun y=>noE (g y.1 [y.2])):=⟨fun pins s σ H Q I z9=>un5 z9 fun B F ρ R q=>by
 subst eP ew eK em eb
 refine W.methodCall_KW (pl:=pl) (thn (ho.out pins s σ H (fun x H1=>∃ C a dx fs0,C∈Cs∧x=.ref a∧H1 a=some (.ins C dx fs0)∧fs0.lookup m=none∧spF X.K (g C) [.ref a] H1 Q E0) I (seqE R q fun d v F1 H1 s1 R1 p1 q1=>?_)) fun u s1 ⟨x,H1,I1,rx,C,a,dx,fs0,hC,ex,ea,l,q⟩=>?_) ht
 ·obtain ⟨C,a,dx,fs0,hC,rfl,e1,e2,q2⟩:=u7p p1 (Res.all_bind.mp q1)
  refine ⟨C,a,dx,fs0,hC,rfl,R1.fh _ _ e1,e2,F1,[d],R1.fh,.cons p1 .nil,?_⟩
  have q2:(noE (g C [d])).all _ _:=q2
  cases e:g C [d] with
  | ok d=>rw [e] at q2;exact fun v F' H' st pv=>q2 v F' H' (s1.trans st) pv
  | err x=>rw [e] at q2;exact q2.elim
  | bad=>rw [e] at q2;exact q2.elim
 ·subst ex
  obtain rfl:u=Value.ref a:=rx
  obtain ⟨fa,fd,c,hm,G,hb⟩:=h C hC
  refine u1V I1 ea c hm l ?_
  exact W.callWith_K0 (first:=[.ref a]) I1.kIn hm.kp (v1q (us:=[.ref a]) (vs:=[.ref a]) G (hr.mono hk) hb .nil pass0 I1 (.cons rfl .nil) q)⟩
end
def spIni (K:W.Frag) (C:Addr) (g:List D→Res (List (Str×D))):Sp:=fun vs H Q _=>∃ F a dx rest ds,vs=.ref a::rest∧Same F H∧F a=none∧H a=some (.ins C dx [])∧Rps K F rest ds ∧
 (g ds).all (fun gs=>∀ dx' fs F' H',Stp F (wo H a) F' H'→F' a=none→H' a=some (.ins C dx' fs)→Rpf K F' fs gs→Q .non H') (fun _=>False)
section
variable {P:Program}{w:World}{K:W.Frag}{mg:MG}{base:Heap}
theorem Fun.okI0 {x qual:Str}{st:Stmt}{f C:Addr}{fd:FuncData}{N ps:List Str}{k:Nat}{g:List D→Res (List (Str×D))} (F:Fun K x qual st f fd) (S:FnScope N ps (defScope st)) (len:∀ ds gs,g ds=.ok gs→ds.length+1=ps.length)
  (hbody:∀ (cdv:Value) (A:Around) (outer:List Env) (s:Shared) (H:Hp) (E:XK),Room k (A.deeper (envOfC qual (defScope st) s.heap.objs.size f cdv)) →
   ∃ t,DB (cxOf CX0 P w K mg base N qual (defScope st) f cdv A outer s H E).nox xqF (defBody st) t∧∀ a ds gs,g ds=.ok gs→outI a C (t (startI N.length a C ds))=.ok gs):FnOk P w K mg base CX0 (k+1) f fd ps (spIni K C g) :=
 F.ok S (fun vs H Q E ⟨G,a,dx,rest,ds,e1,fh,fa,ha,r,q⟩=>by
  subst e1
  rw [List.length_cons,r.length]
  cases e:g ds with
  | ok d=>exact len ds d e
  | err x=>rw [e] at q;exact q.elim
  | bad=>rw [e] at q;exact q.elim) fun cdv A outer s H vs Q E hr ⟨G,a,dx,rest,ds,e1,fh,fa,ha,r,q⟩=>by
  subst e1
  obtain ⟨t,h1,h2⟩:=hbody cdv A outer s H E hr
  refine ⟨_,h1.out,(G,wo H a),G,_,u9O fh fa ha r,⟨?_⟩⟩
  cases e:g ds with
  | err x=>rw [e] at q;exact q.elim
  | bad=>rw [e] at q;exact q.elim
  | ok gs =>
   rw [e] at q
   have z:=h2 a ds gs e
   generalize t (startI N.length a C ds)=o at z
   cases o with
   | nx ρ =>
    intro σ F' H' R
    unfold outI at z
    dsimp only at z
    split at z
    ·rename_i a' C' gs' e
     split at z
     ·rename_i c
      obtain ⟨rfl,rfl⟩:=c
      cases z
      obtain ⟨b,h,p1,p2,p3,p4,p5⟩:=R.own 0 _ e
      cases p5 with
      | i hr=>exact q _ _ F' H' R.st p2 p4 hr
     ·cases z
    ·cases z
   | rt d'=>cases z
   | bk ρ=>cases z
   | ct ρ=>cases z
   | er x ρ=>cases z
   | bad=>cases z
end
def KCalleeF (P:Program) (w:World) (K:W.Frag) (mg:MG) (base:Heap) (k:Nat) (x:Str) (C:Addr) (ps:List Str) (g:List D→Res (List (Str×D))):Prop :=
 ∃ f fd,Mk K C f∧FnOk P w K mg base CX0 k f fd ps (spIni K C g)∧Binds K fd ps []∧mg x=some (.ref C)
section
variable {X:Cx}{xq:XQ}{e:Expr}{es:List Expr}{fs:Rho→Res (List D)}{x:Str}{p pos:Pos}{C f:Addr}
theorem u8B {k:Nat}{fd:FuncData}{ps:List Str}{sp:Sp}{pins:LO}{σ:St}{H:Hp}{s:Shared}{Q:VK}{us:List Value}{vs:List V} (M:Mk X.K C f) (F:FnOk X.prog X.w X.K X.mg X.base CX0 k f fd ps sp) (hr:Room (k+1) X.A) (hb:Binds X.K fd ps [])
  (I:Inv X pins σ H s) (r:Vals vs us)
  (h:∀ x dx,H x=none→H dx=none→dx≠x→sp (.ref x::vs) (upd (upd H dx (.own x)) x (.ins C dx [])) (fun v H2=>v=.non∧Q (.ref x) H2) E0) :
  wpAny (model X.prog X.w) X.A (call (.ref C) us) (EP X pins σ Q) X.xe s:=by
 have hc:=h (s.heap.objs.size+1) s.heap.objs.size (I.hok.fresh (Nat.le_succ _)) (I.hok.fresh (Nat.le_refl _)) (Nat.ne_of_lt (Nat.lt_succ_self _))
 have I2:=Inv.made (C:=C) I
 have r2:Vals (V.ref (s.heap.objs.size+1)::vs) (Value.ref (s.heap.objs.size+1)::us):=.cons rfl r
 have hl:(Value.ref (s.heap.objs.size+1)::us++[]).length=ps.length:=by
  have e:=r2.length
  rw [F.len _ _ _ _ hc] at e
  rw [List.append_nil]
  exact e.symm
 have hb2:=hb _ (Value.ref (s.heap.objs.size+1)::us) I2.kIn hl
 rw [List.append_nil] at hb2
 refine wpAny_call (v0D (f:=f) I.kIn M.makes M.init (beq_iff_eq.mp M.fn) (codeAny_mono (F.run _ X.stack _ _ ⟨Value.ref (s.heap.objs.size+1)::us,[]⟩ (Value.ref (s.heap.objs.size+1)::us) _ _ _ (hr.make C us [])
  (I2.env0.make C us []) hb2 r2 hc) fun r s' hq'=>?_))
 cases r with
 | error e=>exact False.elim hq'
 | ok fl =>
  cases fl with
  | ret u =>
   obtain ⟨v,H',I3,rv,ev,q3⟩:=I2.after hq'
   subst ev
   exact ⟨rv,⟨V.ref (s.heap.objs.size+1),H',I3,rfl,q3⟩⟩
  | next=>exact False.elim hq'
  | brk=>exact False.elim hq'
  | cont=>exact False.elim hq'
theorem u0P {P:Program}{w:World}{K:W.Frag}{mg:MG}{base:Heap}{k k':Nat}{ps:List Str}{g:List D→Res (List (Str×D))} (h:KCalleeF P w K mg base k x C ps g) (hr:Room k' X.A) (ha:DA X xq (e::es) fs) (hk:k+1≤k':=by decide) (hg:Gl X x:=by rfl)
  (eP:X.prog=P:=by rfl) (ew:X.w=w:=by rfl) (eK:X.K=K:=by rfl) (em:X.mg=mg:=by rfl) (eb:X.base=base:=by rfl) (hdb:(x==("__debug__":Str))=false:=by decide) :
  DE X xq (.Call (.Name x p) (e::es) [] pos) (fun ρ=>(fs ρ).bind fun ds=>(noE (g ds)).bind fun gs=>.ok (.ins C gs)):=⟨fun pins s σ H Q I z9=>un5 z9 fun B F ρ R q=>by
 subst eP ew eK em eb
 obtain ⟨fi,fd,M,G,hb,hm⟩:=h
 refine wpAny_Call_Name_kw (u2h I hg hm ?_ hdb)
 refine W.callWith_K (h₀:=X.base) I.ok.mod.kin M.kp (thn (ha.out pos pins s σ H (fun vs H1=>∀ x dx,H1 x=none→H1 dx=none→dx≠x→spIni X.K C g (.ref x::vs) (upd (upd H1 dx (.own x)) x (.ins C dx [])) (fun v H2=>v=.non∧Q (.ref x) H2) E0) I (seqA R q fun ds vs F1 H1 s1 R1 p1 q1=>?_)) fun us s1 ⟨vs,H1,I1,r,q⟩=>⟨I1.kIn,?_⟩) (u0k (u0h ha.ns).1) (u0D (u0h ha.ns).2)
 ·intro y dx n1 n2 n3
  have sH:Same H1 (wo (upd (upd H1 dx (.own y)) y (.ins C dx [])) y):=fun b o e=>by
   have b1:b≠y:=fun z=>by subst z;rw [n1] at e;cases e
   have b2:b≠dx:=fun z=>by subst z;rw [n2] at e;cases e
   rw [wo_ne b1,u0j b1,u0j b2];exact e
  refine ⟨F1,y,dx,_,ds,rfl,R1.fh.trans (sH.trans (u8m _ _)),R1.fh.free n1,u0g,p1,?_⟩
  cases eg:g ds with
  | bad=>rw [eg] at q1;exact q1.elim
  | err z=>rw [eg] at q1;exact q1.elim
  | ok gs =>
   rw [eg] at q1
   intro dx' fs0 F' H' st fa ha' pf
   refine ⟨rfl,?_⟩
   have st2:Stp F1 H1 (upd F' y (.ins C dx' fs0)) H':=⟨st.ff.trans (u0e fa),fun b u z=>by
    unfold upd at z
    by_cases zz:b=y
    ·rw [if_pos zz] at z;cases z;subst zz;exact ha'
    ·rw [if_neg zz] at z;exact st.fh b u z,sH.trans st.hh,fun b z1 z2=>by
    unfold upd
    by_cases zz:b=y
    ·subst zz;exact absurd n1 z2
    ·rw [if_neg zz];exact st.no b z1 (u1j sH z2)⟩
   exact q1 _ _ _ (s1.trans st2) (.ins u0g (pf.same (u0e fa)))
 ·exact u8B M G (hr.mono hk) hb I1 r q⟩
end
noncomputable def retO (i:Nat) (ρ:Rho):OutN:=match ρ[i]? with
 | some (some (.own (.l es)))=>.rn es
 | _=>.bad
section
variable {X:Cx}{xq:XQ}{x:Str}{p pos:Pos}
theorem dr_own (i:Nat) (hN:X.N[i]?=some x:=by rfl) (hv:Vis X.env.scope x:=by first | exact Or.inl rfl | exact Or.inr (Or.inl rfl) | exact Or.inr (Or.inr rfl)) (hd:(x==("__debug__":Str))=false:=by decide) (hcd:(x==("__classdict__":Str))=false:=by decide) :
  DRB X xq [.Return (some (.Name x p)) pos] (retO i) :=
 ⟨u3x fun pins s σ H T I z9=>un5 z9 fun B F ρ R q=>u7c (u1i hN hv hd hcd) pins s σ H T I (by
  have q:=q.out
  unfold retO at q
  split at q
  ·rename_i es e
   split at e
   ·rename_i es' e2
    cases e
    obtain ⟨a,h,p1,p2,p3,p4,p5⟩:=R.own i _ e2
    exact ⟨.ref a,p1,q a h F H R.st p2 p3 p4 p5⟩
   ·cases e
  ·rename_i e
   split at e <;> cases e
  ·exact q.elim)⟩
end
section
variable {X:Cx}{xq:XQ}{o e f:Expr}{fi ff:Rho→Res D}{pos apos cpos:Pos}{x:Str}
end
noncomputable def wo2 (H:Hp) (a c:Addr):Hp:=fun b=>if b=a∨b=c then none else H b
theorem wo2_in {H:Hp}{a c b:Addr}{o:HO} (e:wo2 H a c b=some o):H b=some o:=by
 unfold wo2 at e
 split at e
 ·cases e
 ·exact e
theorem u8n {H:Hp}{a c b:Addr} (h1:b≠a) (h2:b≠c):wo2 H a c b=H b:=by
 unfold wo2
 rw [if_neg]
 rintro (h | h)
 ·exact h1 h
 ·exact h2 h
section
variable {X:Cx}{xq:XQ}{a b c:Expr}{fa fc:Rho→Res OD}{fb:Rho→Res D}{x:Str}{p pos:Pos}
theorem v1G {P:Program}{w:World}{K:W.Frag}{mg:MG}{base:Heap}{k k':Nat}{ps:List Str}{g:List Sl→Res (D×List Sl)} (h:Callee P w K mg base k x ps (spM K g)) (hr:Room k' X.A) (ha:DN X xq a fa) (hb:DE X xq b fb) (hc:DN X xq c fc) (hk:k≤k':=by decide) (hg:Gl X x:=by rfl)
  (eP:X.prog=P:=by rfl) (ew:X.w=w:=by rfl) (eK:X.K=K:=by rfl) (em:X.mg=mg:=by rfl) (eb:X.base=base:=by rfl) (hdb:(x==("__debug__":Str))=false:=by decide) (h1:notStar a=true:=by rfl) (h2:notStar b=true:=by rfl) (h3:notStar c=true:=by rfl) :
  DE X xq (.Call (.Name x p) [a,b,c] [] pos) (fun ρ=>(fa ρ).bind fun o1=>(fb ρ).bind fun d=>(fc ρ).bind fun o2=>(noE (g [.own o1,.val d,.own o2])).bind fun r=>.ok r.1) :=
 DE.of (pe_fn h hr hk (pac ha.out (pac hb.out (pac hc.out u2Z h3) h2) h1) hg eP ew eK em eb hdb (by simp only [List.all_cons,h1,h2,h3];rfl)) fun B F ρ σ H Q R q=>by
  subst eK
  have q1:=Res.all_bind.mp q
  refine ⟨B,F,ρ,R,Res.all_mono q1 (fun o1 q1 a1 g1 F1 H1 s1 n1 m1 e1 r1=>?_) fun y e=>e⟩
  have q2:=Res.all_bind.mp q1
  have R1:=R.step s1
  refine ⟨B,F1,ρ,R1,Res.all_mono q2 (fun d q2 v F2 H2 s2 pv=>?_) fun y e=>e⟩
  have q3:=Res.all_bind.mp q2
  have R2:=R1.step s2
  refine ⟨B,F2,ρ,R2,Res.all_mono q3 (fun o2 q3 a2 g2 F3 H3 s3 n3 m3 e3 r3=>?_) fun y e=>e⟩
  have ne1:H1 a1≠none:=by rw [e1];exact fun z=>nomatch z
  have e1':H2 a1=some g1:=s2.hh _ _ e1
  have e1'':H3 a1=some g1:=s3.hh _ _ e1'
  have n1':F2 a1=none:=s2.no _ n1 ne1
  have n1'':F3 a1=none:=s3.no _ n1' (by rw [e1'];exact fun z=>nomatch z)
  have ne12:a1≠a2:=fun z=>by rw [z,m3] at e1';cases e1'
  have r1':Ro X.K F3 a1 g1 o1:=(Ro.same s2.ff r1).same s3.ff
  have pv':Rp X.K F3 v d:=pv.same s3.ff
  have s13:Stp F H F3 H3:=(s1.trans s2).trans s3
  have hN:H a2=none:=by
   cases z:H a2 with
   | none=>rfl
   | some o=>rw [(s1.trans s2).hh _ _ z] at m3;cases m3
  have base:Stp F3 (wo2 H3 a1 a2) F3 H3:=⟨Same.refl _,s3.fh,fun b o e=>wo2_in e,fun _ n _=>n⟩
  refine ⟨F3,wo2 H3 a1 a2,[.own o1,.val d,.own o2],⟨base,rfl,fun i y e=>?_,fun i o e=>?_,fun i j o u b' w1 w2 w3 w4=>?_⟩,fun b o nb e=>?_,?_⟩
  ·match i,e with
   | 1,e=>cases e;exact ⟨v,rfl,pv'⟩
   | 0,e=>cases e
   | 2,e=>cases e
  ·match i,e with
   | 0,e=>cases e;exact ⟨a1,g1,rfl,n1'',if_pos (.inl rfl),e1'',r1'⟩
   | 2,e=>cases e;exact ⟨a2,g2,rfl,n3,if_pos (.inr rfl),e3,r3⟩
   | 1,e=>cases e
  ·have ci:∀ (i:Nat) o,([some (.own o1),some (.val d),some (.own o2)]:Rho)[i]?=some (some (.own o))→i=0∨i=2:=fun i o e=>by
    match i,e with
    | 0,_=>exact .inl rfl
    | 2,_=>exact .inr rfl
    | 1,e=>cases e
   rcases ci i o w1 with rfl | rfl <;> rcases ci j u w2 with rfl | rfl
   ·rfl
   ·cases w3;cases w4;exact absurd rfl ne12
   ·cases w3;cases w4;exact absurd rfl ne12
   ·rfl
  ·rw [u8n (fun z=>nb 0 o1 rfl (by rw [z];rfl)) (fun z=>nb 2 o2 rfl (by rw [z];rfl))]
   exact e
  ·cases eg:g [.own o1,.val d,.own o2] with
   | bad=>rw [eg] at q3;exact q3.elim
   | err y=>rw [eg] at q3;exact q3.elim
   | ok r =>
    rw [eg] at q3
    intro v' F' H' m pv2
    have st:Stp F3 (wo2 H3 a1 a2) F' H':=m.rel.st
    refine q3 v' F' H' ⟨s13.ff.trans st.ff,st.fh,fun b o e=>?_,fun b z1 z2=>?_⟩ pv2
    ·have b1:b≠a1:=fun z=>by rw [z,m1] at e;cases e
     have b2:b≠a2:=fun z=>by rw [z,hN] at e;cases e
     exact st.hh b o (by rw [u8n b1 b2];exact s13.hh _ _ e)
    ·have b1:b≠a1:=fun z=>z2 (by rw [z];exact m1)
     have b2:b≠a2:=fun z=>z2 (by rw [z];exact hN)
     refine st.no b (s13.no b z1 z2) ?_
     rw [u8n b1 b2]
     exact u1j s13.hh z2
end
def liftXT (K:W.Frag) (f:Rho→Res (Bool×Rho)):TT:=fun σ H Q=>∃ B F ρ,Rel K B ρ σ F H ∧
 (f ρ).all (fun r=>∀ F' H',Mv K B ρ σ F H r.2 F' H'→Q r.1 H') (fun _=>False)
structure DXT (X:Cx) (e:Expr) (f:Rho→Res (Bool×Rho)):Prop where
 out:PT X e (liftXT X.K f)
structure DXW (X:Cx) (e:Expr) (f:Rho→Res (Bool×Rho)):Prop where
 out:PW X e (liftXT X.K f)
section
variable {X:Cx}{xq:XQ}{a b e:Expr}{es rest:List Expr}{fa fb:Rho→Res (D×Rho)}{fA:Rho→Res Bool}{fX fY:Rho→Res (Bool×Rho)}{fs:Rho→Res (List Ag×Rho)}{pos:Pos}
theorem DXT.of {t:TT} (h:PT X e t) (k:∀ B F ρ σ H Q,Rel X.K B ρ σ F H→(fX ρ).all (fun r=>∀ F' H',Mv X.K B ρ σ F H r.2 F' H'→Q r.1 H') (fun _=>False)→t σ H Q):DXT X e fX :=
 ⟨fun pins s σ H Q I z9=>un5 z9 fun B F ρ R q=>h pins s σ H Q I (k B F ρ σ H Q R q)⟩
theorem u8j (h:DT X xq e fA):DXT X e (fun ρ=>(noE (fA (frz ρ))).bind fun k=>.ok (k,ρ)) :=
 DXT.of h.out fun B F ρ σ H Q R q=>⟨B,F,ρ,R,u1L (Res.all_mono (Res.all_bind.mp q) (fun k q H' s=>q F H' (Mv.of R s)) fun _ z=>z)⟩
theorem xt_cmp {op:CmpOp}{g:D→D→Res D} (ho:OpR X (compareOp op) (rD X.K g)) (ha:DX X a fa) (hb:DX X b fb) (hm:behindInMarks op b=false:=by first | exact nomark _ | with_unfolding_all rfl) :
  DXT X (.Compare a [op] [b] pos) (fun ρ=>(fa ρ).bind fun x=>(fb x.2).bind fun y=>(noE (g x.1 y.1)).bind fun w=>(noE (asB w)).bind fun k=>.ok (k,y.2)) :=
 DXT.of (u8D ho ha.out hb.out hm) fun B F ρ σ H Q R q=>seqX R q fun x v F1 H1 m1 p1 q1=>seqX m1.rel q1 fun y v2 F2 H2 m2 p2 q2=>⟨F2,x.1,y.1,m2.rel.fh,p1.same m2.ff,p2,by
  have q3:=Res.all_bind.mp q2
  generalize g x.1 y.1=r at q3
  cases r with
  | err x=>exact q3
  | bad=>exact q3
  | ok w =>
   replace q3:((noE (asB w)).bind _).all _ _:=q3
   cases w with
   | bl k=>exact fun v3 F3 H3 s3 p3=>⟨k,p3.blI,q3 F3 H3 ((m1.trans m2).step s3)⟩
   | _=>exact q3.elim⟩
theorem xt_w (h:DXW X e fX):DXT X e fX:=⟨h.out.pt⟩
theorem xw_or1 (ha:DXT X a fX):DXW X (.BoolOp .Or [a] pos) fX:=⟨v1r ha.out⟩
theorem xw_or (ha:DXT X a fX) (hb:DXW X (.BoolOp .Or (b::rest) pos) fY):DXW X (.BoolOp .Or (a::b::rest) pos) (fun ρ=>(fX ρ).bind fun k=>if k.1=true then .ok (true,k.2) else fY k.2) :=
 ⟨fun wh pins s σ H Q I z9=>un5 z9 fun B F ρ R q=>pw_or ha.out hb.out wh pins s σ H Q I ⟨B,F,ρ,R,Res.all_mono (Res.all_bind.mp q) (fun k q1 F1 H1 m1=>by
  obtain ⟨k,ρ1⟩:=k
  cases k with
  | true=>exact q1 F1 H1 m1
  | false=>exact ⟨B,F1,ρ1,m1.rel,Res.all_mono (show (fY ρ1).all _ _ from q1) (fun r q F2 H2 m2=>q F2 H2 (m1.trans m2)) fun _ z=>z⟩) fun _ z=>z⟩⟩
theorem xn_lst (h:DXA X es fs):DXN X (.List es pos) (fun ρ=>(fs ρ).bind fun r=>(noE (agv r.1)).bind fun ds=>szD ds (.ok (.l ds,r.2))) :=
 ⟨fun pins s σ H Q I z9=>un5 z9 fun B F ρ R q=>u8O h.out pins s σ H Q I (seqXA R q fun r vs F1 H1 m1 p1 q1=>by
  cases w:agv r.1 with
  | err x=>rw [w] at q1;exact q1.elim
  | bad=>rw [w] at q1;exact q1.elim
  | ok ds =>
   rw [w] at q1
   obtain ⟨hz,q2⟩:=u6R (show (szD ds _).all _ _ from q1)
   have p2:=u6N p1 w
   exact ⟨p2.length ▸ hz,fun p n=>q2 p _ F1 _ (m1.step (Stp.only m1.rel.fh (u0e n))) (m1.rel.fh.free n) (m1.free n) u0g (.l p2)⟩)⟩
end
section
variable {X:Cx}{xq:XQ}{tg e c:Expr}{fx:Rho→Res (D×Rho)}{pos p apos cpos:Pos}{x:Str}
theorem dsx_for {iter:Expr}{body:List Stmt}{fi:Rho→Res (List D×Rho)}{ix:List Nat}{g:D→Rho→Res Rho}{tb:Rho→Out} (hc:X.calm=true) (hi:DXI X tg iter fi) (hg:DG X tg ix g) (hb:DB X xq body tb)
  (hp:PassesOwn (model X.prog X.w) X.A X.env X.xe:=by exact PassesOwn.never) (hs:∀ x,foldedSetIterable iter X.env x=pure x:=by intro _;rfl) :
  DS X xq (.For tg iter body [] pos) (fun ρ=>(noE (fi ρ)).go ρ fun ds=>forD g tb ds.1 ds.2) :=
 DS.of (v1s hp hc hi.out hg.out hb.out hs) fun B F ρ σ H T R q=>⟨B,F,ρ,R,u1L (Res.all_mono (u0q q.out) (fun dr q J F0 H0 m0 fd=>by
  obtain ⟨ds,ρ0⟩:=dr
  have R0:=m0.rel
  obtain ⟨C,hC⟩:∃ C:Hp×Hp,C=(F0,B.2):=⟨_,rfl⟩
  refine ⟨fun i m σ' H'=>m=ds.length - i∧i≤ds.length∧∃ ρ' F',Rel X.K C ρ' σ' F' H'∧OkS X.K xq C T (forD g tb (ds.drop i) ρ'),
   ⟨ds.length,rfl,Nat.zero_le _,ρ0,F0,hC ▸ R0.rebase,hC ▸ OkS.rebase R0.st ⟨q⟩⟩,?_⟩
  rintro i m σ' H' ⟨rfl,hi,ρ',F',R',q'⟩
  have e0:Same F0 F':=by have:=R'.st.ff;rw [hC] at this;exact this
  by_cases hlt:i<ds.length
  ·right
   refine ⟨fd.go i H' (e0.trans R'.fh) hlt,fun σ2 H2=>i+1≤ds.length∧∃ ρ2 F2,Rel X.K C ρ2 σ2 F2 H2∧OkS X.K xq C T (forD g tb (ds.drop (i+1)) ρ2),
    fun σ2 H2 p=>⟨ds.length - (i+1),by omega,rfl,p.1,p.2⟩,fun x H2 y=>?_⟩
   have hd:ds[i]?=some ds[i]:=by simp [hlt]
   obtain ⟨F2,s2,p2⟩:=fd.yld i F' H' x H2 _ e0 R'.fh hd y
   have eqn:ds.drop i=ds[i]::ds.drop (i+1):=by rw [List.drop_eq_getElem_cons hlt]
   rw [eqn] at q'
   have q2:=u0q q'.out
   refine ⟨C,F2,ρ',_,R'.step s2,p2,?_⟩
   generalize g ds[i] ρ'=r at q2
   cases r with
   | err x=>exact q2
   | bad=>exact q2
   | ok ρ1 =>
    intro σ3 R3 l3 k3
    refine ⟨C,F2,ρ1,R3,⟨?_⟩⟩
    have q3:(match tb ρ1 with | .nx ρ2=>forD g tb (ds.drop (i+1)) ρ2 | .ct ρ2=>forD g tb (ds.drop (i+1)) ρ2 | .bk ρ2=>.nx ρ2 | o=>o).all _ _ _ _ _:=q2
    generalize tb ρ1=o at q3
    cases o with
    | nx ρ2=>exact fun σ4 F4 H4 R4=>⟨hlt,ρ2,F4,R4,⟨q3⟩⟩
    | ct ρ2=>exact fun σ4 F4 H4 R4=>⟨hlt,ρ2,F4,R4,⟨q3⟩⟩
    | bk ρ2=>exact q3
    | rt d=>exact q3
    | er x r=>exact q3
    | bad=>exact q3
  ·left
   have e:i=ds.length:=by omega
   subst e
   rw [List.drop_length] at q'
   exact ⟨fd.stop _ H' (e0.trans R'.fh) (Nat.le_refl _),q'.out σ' F' H' R'⟩) fun x q=>q)⟩
theorem dsx_app (i:Nat) (he:DX X e fx) (hN:X.N[i]?=some x:=by rfl) (hv:Vis X.env.scope x:=by first | exact Or.inl rfl | exact Or.inr (Or.inl rfl) | exact Or.inr (Or.inr rfl)) (hd:(x==("__debug__":Str))=false:=by decide) (hcd:(x==("__classdict__":Str))=false:=by decide)
  (hs:notStar e=true:=by rfl) (hbase:attributeBase (.Name x p) "append" X.env (eval (.Name x p) X.env)=eval (.Name x p) X.env:=by rfl) (hline:(apos.endLine==cpos.line)=true:=by rfl)
  (hsw:swapsWith (.Call (.Attribute (.Name x p) "append" apos) [e] [] cpos) none pos.line X.env=pure false:=by rfl) :
  DS X xq (.Expr (.Call (.Attribute (.Name x p) "append" apos) [e] [] cpos) pos) (fun ρ=>(getL ρ i).go ρ fun _=>(noE (fx ρ)).go ρ fun r=>(getL r.2 i).go ρ fun ds=>if ds.length<sizeLine then .nx (r.2.set i (some (.own (.l (ds++[r.1]))))) else .bad) :=
 DS.of (u3y (pbm PySem.F.plainAttrs_list PySem.F.slot_list_append PySem.F.type_list_append u5A (u1i hN hv hd hcd) (pac he.out u2Z hs) (by rw [List.all_cons,hs];rfl) rfl hbase hline) hsw) fun B F ρ σ H T R q=>by
  obtain ⟨ds0,e1,q1⟩:=u2j (u0q q.out)
  obtain ⟨l,h,h1,h2,h3,h4,h5⟩:=R.own i _ e1
  cases h5 with
  | l hs0 =>
   refine ⟨.ref l,h1,.inl ⟨rfl,_,.inl (.inl h4)⟩,B,F,ρ,R,u1L (Res.all_mono (u0q q1) (fun r q2 v F' H' m pv=>?_) fun _ z=>z)⟩
   obtain ⟨ds,e2,q3⟩:=u2j (u0q q2)
   obtain ⟨l2,g,g1,g2,g3,g4,g5⟩:=m.rel.own i _ e2
   rw [h1] at g1;cases g1
   cases g5 with
   | l gs =>
    by_cases hz:ds.length<sizeLine
    ·rw [if_pos hz] at q3
     exact ⟨l,_,v,rfl,rfl,g4,by rw [gs.length];exact hz,q3 σ F' _ (m.rel.write (e:=e2) h1 (.l (gs.append (.cons pv .nil))))⟩
    ·rw [if_neg hz] at q3;exact q3.elim
theorem dmx_if {a sts:List Stmt}{fT:Rho→Res (Bool×Rho)}{g ga:Rho→OutM} (hc:DXT X c fT) (ha:DMB X a ga) (hb:DMB X sts g):DMB X (.If c a [] pos::sts) (fun ρ=>(fT ρ).gm fun k=>if k.1=true then ga k.2 else g k.2) :=
 ⟨fun pins s σ H T I z9=>un5 z9 fun B F ρ R q=>u2s (ps_if hc.out ha.out u6p) hb.out pins s σ H T I ⟨B,F,ρ,R,Res.all_mono (u9n (E:=fun _=>False) q) (fun k q F' H' m=>by
  obtain ⟨k,ρ1⟩:=k
  cases k with
  | true =>
   rw [if_pos rfl] at q ⊢
   exact ⟨B,F',ρ1,m.rel,⟨by
    have q:=q.out
    generalize ga ρ1=o at q ⊢
    cases o with
    | rm d ρ'=>exact q
    | bad=>exact q⟩⟩
  | false =>
   have q:OkM X.K B _ (g ρ1):=q
   rw [if_neg (show ¬ (false=true) by decide)]
   exact ⟨B,F',ρ1,m.rel,q⟩) fun _ z=>z.elim⟩⟩
end
section
variable {K:W.Frag}{B:Hp×Hp}{ρ:Rho}{σ:St}{F H:Hp}{j:Nat}{o:OD}
theorem Rel.fix1 (R:Rel K B ρ σ F H) (e:ρ[j]?=some (some (.own o))):∃ F',Same F F'∧Rel K B (ρ.set j (some (.val o.toD))) σ F' H:=by
 obtain ⟨a,h,p1,p2,p3,p4,p5⟩:=R.own j o e
 have sf:Same F (upd F a h):=u0e p2
 have un:∀ {b:Addr},b≠a→F b=none→upd F a h b=none:=fun z n=>by unfold upd;rw [if_neg z];exact n
 refine ⟨_,sf,⟨⟨R.st.ff.trans sf,fun b u x=>?_,R.st.hh,fun b x y=>un (fun z=>y (z ▸ p3)) (R.st.no b x y)⟩,by rw [R.len];simp,fun i d w=>?_,fun i o' w=>?_,fun i i' o1 o2 b w w'=>?_⟩⟩
 ·unfold upd at x
  by_cases z:b=a
  ·rw [if_pos z] at x;cases x;subst z;exact p4
  ·rw [if_neg z] at x;exact R.st.fh b u x
 ·rcases u0u w with ⟨rfl,_,z⟩ | ⟨_,z⟩
  ·cases z
   exact ⟨.ref a,p1,Ro.rp (Ro.same sf p5) u0g⟩
  ·obtain ⟨v,q1,q2⟩:=R.val i d z;exact ⟨v,q1,q2.same sf⟩
 ·rcases u0u w with ⟨_,_,z⟩ | ⟨hij,z⟩
  ·cases z
  ·obtain ⟨b,h',q1,q2,q3,q4,q5⟩:=R.own i o' z
   exact ⟨b,h',q1,un (fun y=>hij (R.dis i j o' o b z e q1 (y ▸ p1))) q2,q3,q4,Ro.same sf q5⟩
 ·rcases u0u w with ⟨_,_,z⟩ | ⟨_,z⟩
  ·cases z
  ·rcases u0u w' with ⟨_,_,z'⟩ | ⟨_,z'⟩
   ·cases z'
   ·exact R.dis i i' o1 o2 b z z'
end
noncomputable def fix1 (j:Nat) (ρ:Rho):Rho:=match ρ[j]? with
 | some (some (.own o))=>ρ.set j (some (.val o.toD))
 | _=>ρ
theorem dm_fix {X:Cx}{sts:List Stmt}{g:Rho→OutM} (j:Nat) (h:DMB X sts g):DMB X sts (fun ρ=>g (fix1 j ρ)) :=
 ⟨fun pins s σ H T I z9=>un5 z9 fun B F ρ R q=>h.out pins s σ H T I (by
  replace q:OkM X.K B T (g (fix1 j ρ)):=q
  unfold fix1 at q
  split at q
  ·rename_i o e
   obtain ⟨F',_,R'⟩:=R.fix1 e
   exact ⟨B,F',_,R',q⟩
  ·exact ⟨B,F,ρ,R,q⟩)⟩
section
variable {X:Cx}
theorem v0t:OpR X (binaryOp .Add) (fun x y H Q=>∃ a b ys,x=.ref a∧y=.ref b∧SqT X.K H a []∧SqT X.K H b ys∧Q (.ref b) H):=by
 intro pins s σ H x y v u Q I rx ry h
 obtain ⟨a,b,ys,rfl,rfl,ha,hb,q⟩:=h
 cases rx
 cases ry
 obtain ⟨its,r1,p1,_⟩:=I.tuple ha
 obtain ⟨its2,r2,p2,_⟩:=I.tuple hb
 obtain rfl:its=[]:=r1.nil_iff.mpr rfl
 obtain ⟨⟨cls,dd,data,sl⟩,ho,hc,n,hd⟩:=id p1
 obtain ⟨⟨cls2,dd2,data2,sl2⟩,ho2,hc2,n2,hd2⟩:=id p2
 simp only at hc hd hc2 hd2
 subst hc hd hc2 hd2
 exact concat_meets ⟨_,ho,rfl⟩ ⟨_,ho2,rfl⟩ noFill_tuple_add seq_tuple_add PySem.F.slot_tuple_add PySem.F.entry_tuple_add (PySem.F.args_tuple_add_2 _ _)
  (tuple_addW0 a b _ its2.toArray n n2 dd dd2 sl sl2 (by simp)) ⟨ho,ho2,.ref b,H,I,rfl,q⟩
noncomputable def dAddU:D→D→Res D
 | .tup xs,.tup ys=>gd (xs.length+ys.length≤sizeLine) (.ok (.tup (xs++ys)))
 | .int i,.int j=>.ok (.int (i+j))
 | _,_=>.bad
theorem u8V:OpR X (binaryOp .Add) (rD X.K dAddU):=by
 intro pins s σ H x y v u Q I rx ry ⟨F,dx,dy,fh,px,py,q⟩
 unfold dAddU at q
 split at q
 ·rename_i xs ys
  obtain ⟨h2,q⟩:=u3L q
  cases xs with
  | cons x0 xs=>exact o_addT pins s σ H _ _ v u Q I rx ry ⟨F,_,_,fh,px,py,by show (gd _ _).all _ _;rw [u0F ⟨by simp,h2⟩];exact q⟩
  | nil =>
   cases px with
   | tup hx rx' =>
    cases py with
    | tup hy ry' =>
     cases rx'
     exact v0t pins s σ H _ _ v u Q I rx ry ⟨_,_,_,rfl,rfl,fh.seqT hx,fh.seqT hy,q _ F H (Stp.refl fh) (.tup hy ry')⟩
 ·rename_i i j
  exact u1f pins s σ H _ _ v u Q I rx ry ⟨F,_,_,fh,px,py,q⟩
 ·exact q.elim
end
section
variable {X:Cx}{xq:XQ}{i value:Expr}{fi fv:Rho→Res D}{pos:Pos}
noncomputable def ixO (ds:List D):D→Res D
 | .int k=>match atI ds k with
  | some d=>.ok d
  | none=>.bad
 | _=>.bad
theorem d_ixO {x:Str}{p:Pos} (j:Nat) (hi:DE X xq i fi) (hN:X.N[j]?=some x:=by rfl) (hvs:Vis X.env.scope x:=by first | exact Or.inl rfl | exact Or.inr (Or.inl rfl) | exact Or.inr (Or.inr rfl)) (hd:(x==("__debug__":Str))=false:=by decide) (hcd:(x==("__classdict__":Str))=false:=by decide)
  (hs:PlainIx i:=by intro _ _;rfl):DE X xq (.Subscript (.Name x p) i pos) (fun ρ=>(getL ρ j).bind fun ds=>(fi ρ).bind (ixO ds)) :=
 DE.of (pe_ix u9d (u1i hN hvs hd hcd) hi.out hs) fun B F ρ σ H Q R q=>by
  obtain ⟨ds,eo,q1⟩:=u2j (Res.all_bind.mp q)
  obtain ⟨a,h,g1,g2,g3,g4,g5⟩:=R.own j _ eo
  refine ⟨.ref a,g1,seqE R q1 fun k y F1 H1 s1 R1 py q2=>?_⟩
  obtain ⟨a',h',k1,k2,k3,k4,k5⟩:=R1.own j _ eo
  rw [g1] at k1;cases k1
  cases k5 with
  | l hr =>
   cases py with
   | int n =>
    unfold ixO at q2
    dsimp only at q2
    cases e:atI ds n with
    | none=>rw [e] at q2;exact q2.elim
    | some d =>
     rw [e] at q2
     obtain ⟨w,h1,h2⟩:=u9Q hr e
     exact ⟨_,_,n,w,rfl,rfl,.inl (.inl k4),h1,q2 w F1 H1 s1 h2⟩
   | _=>exact q2.elim
theorem v0X {x:Str}{p pos':Pos} (j:Nat) (hi:DE X xq i fi) (hv:DE X xq value fv) (hN:X.N[j]?=some x:=by rfl) (hvs:Vis X.env.scope x:=by first | exact Or.inl rfl | exact Or.inr (Or.inl rfl) | exact Or.inr (Or.inr rfl)) (hd:(x==("__debug__":Str))=false:=by decide) (hcd:(x==("__classdict__":Str))=false:=by decide)
  (hs:swapsWithSole [.Subscript (.Name x p) i pos'] value pos.line X.env=pure false:=by rfl) (hw:swappedStores [.Subscript (.Name x p) i pos'] value X.env=pure none:=by rfl)
  (ha:∀ v,assign (.Subscript (.Name x p) i pos') X.env v=(do
   let ov ← holding [v] (eval (.Name x p) X.env)
   let iv ← holding [v,ov] (eval i X.env)
   standAt pos'
   holding [v,ov,iv] (setItem ov iv v)
   release [v,ov,iv] []):=by intro _;rfl)
  (h1:(assignEach [.Subscript (.Name x p) i pos'] X.env).map (·.2)=[assign (.Subscript (.Name x p) i pos') X.env]:=by rfl) :
  DS X xq (.Assign [.Subscript (.Name x p) i pos'] value pos) (fun ρ=>(fv ρ).go ρ fun d=>(getL ρ j).go ρ fun ds=>(fi ρ).go ρ fun k=>setI ρ j ds d k) :=
 DS.of (u8E hv.out (v1t (u1i hN hvs hd hcd) hi.out u6U ha) hs hw h1) fun B F ρ σ H T R q=>by
  refine ⟨B,F,ρ,R,Res.all_mono (u0q q.out) (fun d q1 v F1 H1 st pv=>?_) fun _ z=>errOf z⟩
  have R1:=R.step st
  obtain ⟨ds,eo,q2⟩:=u2j (u0q q1)
  obtain ⟨a,h,g1,g2,g3,g4,g5⟩:=R1.own j _ eo
  refine ⟨.ref a,g1,B,F1,ρ,R1,Res.all_mono (u0q q2) (fun k q3 y F3 H3 st3 py=>?_) fun _ z=>errOf z⟩
  have R3:=R1.step st3
  obtain ⟨a',h',k1,k2,k3,k4,k5⟩:=R3.own j _ eo
  rw [g1] at k1;cases k1
  have q4:(setI ρ j ds d k).all _ _ _ _ _:=q3
  cases k5 with
  | l hr =>
   cases py with
   | int n =>
    unfold setI at q4
    dsimp only at q4
    cases e:ixN ds.length n with
    | none=>rw [e] at q4;exact q4.elim
    | some m =>
     rw [e] at q4
     exact ⟨a,_,n,m,rfl,rfl,k4,by rw [hr.length];exact e,q4 σ F3 _ (R3.write (e:=eo) g1 (.l (u6n m hr (pv.same st3.ff))))⟩
   | _=>exact q4.elim
end
section
variable {X:Cx}
end
section
variable {X:Cx}{xq:XQ}
end
section
variable {X:Cx}{xq:XQ}
end
end L2
namespace K11
open PySem L2 KW PySem.Spec PyProof.Rows
def top (i:Nat):Stmt:=PySem.Challenge.pw_rulestable_k11_trees_told.main.body.getD i (.Pass ⟨0,0,0,0⟩)
def meth (i j:Nat):Stmt:=match top i with
 | .ClassDef (body:=b) ..=>b.getD j (.Pass ⟨0,0,0,0⟩)
 | _=>.Pass ⟨0,0,0,0⟩
theorem hu64 {A:Around}{k:Nat} (hr:Room k A):A.units+64<cLine:=by have:=hr.un;omega
structure Adr where
 NoPlace:Addr
 TableError:Addr
 Tree:Addr
 Leaf:Addr
 Node:Addr
structure Txt (K:W.Frag) (mg:MG) (A:Adr):Prop where
 z_isinstance:mg "isinstance"=none
 z_str:mg "str"=none
 z_int:mg "int"=none
 z_bool:mg "bool"=none
 z_list:mg "list"=none
 z_tuple:mg "tuple"=none
 z_dict:mg "dict"=none
 z_len:mg "len"=none
 z_all:mg "all"=none
 z_range:mg "range"=none
 z_enumerate:mg "enumerate"=none
 z_zip:mg "zip"=none
 z_reversed:mg "reversed"=none
 z_max:mg "max"=none
 z_min:mg "min"=none
 z_sum:mg "sum"=none
 m_NoPlace:mg "NoPlace"=some (.ref A.NoPlace)
 b_NoPlace:XBase K A.NoPlace
 m_TableError:mg "TableError"=some (.ref A.TableError)
 b_TableError:XBase K A.TableError
 m_Tree:mg "Tree"=some (.ref A.Tree)
 m_Leaf:mg "Leaf"=some (.ref A.Leaf)
 m_Node:mg "Node"=some (.ref A.Node)
 c_Leaf:Cls K A.Leaf
 c_Node:Cls K A.Node
 na_Leaf_sign:NoAttr K A.Leaf "sign"
 na_Leaf_tree_size:NoAttr K A.Leaf "tree_size"
 na_Leaf_tree_depth:NoAttr K A.Leaf "tree_depth"
 na_Node_number:NoAttr K A.Node "number"
 na_Node_children:NoAttr K A.Node "children"
 na_Node_tree_size:NoAttr K A.Node "tree_size"
 na_Node_tree_depth:NoAttr K A.Node "tree_depth"
 ne:A.Leaf≠A.Node
 x_place:XRead K "place" [A.NoPlace]
 o_Tree:IsO K A.Tree [(A.Leaf,true),(A.Node,true)] [(A.NoPlace,false)]
 o_Leaf:IsO K A.Leaf [(A.Leaf,true),(A.Node,false)] [(A.NoPlace,false)]
 o_Node:IsO K A.Node [(A.Leaf,false),(A.Node,true)] [(A.NoPlace,false)]
 o_NoPlace:IsO K A.NoPlace [(A.Leaf,false),(A.Node,false)] [(A.NoPlace,true)]
section
variable {K:W.Frag}{mg:MG}{A:Adr}
theorem Txt.f_sign (T:Txt K mg A):∀ C∈[A.Leaf],Cls K C∧NoAttr K C "sign":=by
 intro C h
 simp only [List.mem_cons,List.not_mem_nil,or_false] at h
 subst h
 exact ⟨T.c_Leaf,T.na_Leaf_sign⟩
theorem Txt.f_number (T:Txt K mg A):∀ C∈[A.Node],Cls K C∧NoAttr K C "number":=by
 intro C h
 simp only [List.mem_cons,List.not_mem_nil,or_false] at h
 subst h
 exact ⟨T.c_Node,T.na_Node_number⟩
theorem Txt.f_children (T:Txt K mg A):∀ C∈[A.Node],Cls K C∧NoAttr K C "children":=by
 intro C h
 simp only [List.mem_cons,List.not_mem_nil,or_false] at h
 subst h
 exact ⟨T.c_Node,T.na_Node_children⟩
theorem Txt.f_tree_size (T:Txt K mg A):∀ C∈[A.Leaf,A.Node],Cls K C∧NoAttr K C "tree_size":=by
 intro C h
 simp only [List.mem_cons,List.not_mem_nil,or_false] at h
 rcases h with rfl | rfl
 ·exact ⟨T.c_Leaf,T.na_Leaf_tree_size⟩
 ·exact ⟨T.c_Node,T.na_Node_tree_size⟩
theorem Txt.f_tree_depth (T:Txt K mg A):∀ C∈[A.Leaf,A.Node],Cls K C∧NoAttr K C "tree_depth":=by
 intro C h
 simp only [List.mem_cons,List.not_mem_nil,or_false] at h
 rcases h with rfl | rfl
 ·exact ⟨T.c_Leaf,T.na_Leaf_tree_depth⟩
 ·exact ⟨T.c_Node,T.na_Node_tree_depth⟩
end
abbrev u2O:Stmt:=top 5
theorem u6k:FnScope ["thing"] ["thing"] (defScope u2O):=⟨rfl,rfl,rfl,by decide +kernel,rfl,by decide +kernel,by decide +kernel⟩
abbrev u1z:Stmt:=top 10
theorem u3Y:FnScope ["tree"] ["tree"] (defScope u1z):=⟨rfl,rfl,rfl,by decide +kernel,rfl,by decide +kernel,by decide +kernel⟩
abbrev u1t:Stmt:=top 11
theorem u0Q:FnScope ["tree","path","along","place","children"] ["tree","path"] (defScope u1t):=⟨rfl,rfl,rfl,by decide +kernel,rfl,by decide +kernel,by decide +kernel⟩
abbrev u1b:Stmt:=top 12
theorem u3d:FnScope ["tree","path"] ["tree","path"] (defScope u1b):=⟨rfl,rfl,rfl,by decide +kernel,rfl,by decide +kernel,by decide +kernel⟩
abbrev u4z:Stmt:=top 13
theorem u1J:FnScope ["tree","path","other","told","node","place"] ["tree","path","other"] (defScope u4z):=⟨rfl,rfl,rfl,by decide +kernel,rfl,by decide +kernel,by decide +kernel⟩
abbrev u0Y:Stmt:=top 14
theorem u2H:FnScope ["one","other"] ["one","other"] (defScope u0Y):=⟨rfl,rfl,rfl,by decide +kernel,rfl,by decide +kernel,by decide +kernel⟩
abbrev u6l:Stmt:=top 15
theorem u4y:FnScope ["one","other","waiting","pair"] ["one","other"] (defScope u6l):=⟨rfl,rfl,rfl,by decide +kernel,rfl,by decide +kernel,by decide +kernel⟩
abbrev u1a:Stmt:=meth 7 0
theorem u3W:FnScope ["self"] ["self"] (defScope u1a):=⟨rfl,rfl,rfl,by decide +kernel,rfl,by decide +kernel,by decide +kernel⟩
abbrev u0T:Stmt:=meth 7 1
theorem u3p:FnScope ["self"] ["self"] (defScope u0T):=⟨rfl,rfl,rfl,by decide +kernel,rfl,by decide +kernel,by decide +kernel⟩
abbrev u0S:Stmt:=meth 7 2
theorem u0M:FnScope ["self","told","waiting","tree"] ["self"] (defScope u0S):=⟨rfl,rfl,rfl,by decide +kernel,rfl,by decide +kernel,by decide +kernel⟩
abbrev u1u:Stmt:=meth 7 3
theorem u5g:FnScope ["self","path"] ["self","path"] (defScope u1u):=⟨rfl,rfl,rfl,by decide +kernel,rfl,by decide +kernel,by decide +kernel⟩
abbrev u1v:Stmt:=meth 8 0
theorem u3X:FnScope ["self","sign"] ["self","sign"] (defScope u1v):=⟨rfl,rfl,rfl,by decide +kernel,rfl,by decide +kernel,by decide +kernel⟩
abbrev u0X:Stmt:=meth 8 1
theorem u2G:FnScope ["self"] ["self"] (defScope u0X):=⟨rfl,rfl,rfl,by decide +kernel,rfl,by decide +kernel,by decide +kernel⟩
abbrev u0B:Stmt:=meth 9 0
theorem u1Z:FnScope ["self","number","children","trees"] ["self","number","children"] (defScope u0B):=⟨rfl,rfl,rfl,by decide +kernel,rfl,by decide +kernel,by decide +kernel⟩
abbrev u0W:Stmt:=meth 9 1
theorem u2F:FnScope ["self"] ["self"] (defScope u0W):=⟨rfl,rfl,rfl,by decide +kernel,rfl,by decide +kernel,by decide +kernel⟩
abbrev u2N:Stmt:=top 17
theorem u6j:FnScope ["_law_script","_law_k"] ["_law_script","_law_k"] (defScope u2N):=⟨rfl,rfl,rfl,by decide +kernel,rfl,by decide +kernel,by decide +kernel⟩
abbrev u2K:Stmt:=top 18
theorem u2c:FnScope ["_law_cell_here","_law_k","_law_number"] ["_law_cell_here","_law_k"] (defScope u2K):=⟨rfl,rfl,rfl,by decide +kernel,rfl,by decide +kernel,by decide +kernel⟩
abbrev u1K:Stmt:=top 19
theorem u4x:FnScope ["_law_cell_here"] ["_law_cell_here"] (defScope u1K):=⟨rfl,rfl,rfl,by decide +kernel,rfl,by decide +kernel,by decide +kernel⟩
abbrev u2M:Stmt:=top 20
theorem u3t:FnScope ["_law_left","_law_many","_law_found"] ["_law_left","_law_many"] (defScope u2M):=⟨rfl,rfl,rfl,by decide +kernel,rfl,by decide +kernel,by decide +kernel⟩
abbrev u2L:Stmt:=top 21
theorem u3r:FnScope ["_law_left","_law_some"] ["_law_left"] (defScope u2L):=⟨rfl,rfl,rfl,by decide +kernel,rfl,by decide +kernel,by decide +kernel⟩
abbrev u2e:Stmt:=top 22
theorem u1g:FnScope ["_law_left","_law_deep","_law_room","_law_children","_law_number","_law_k"] ["_law_left","_law_deep","_law_room"] (defScope u2e):=⟨rfl,rfl,rfl,by decide +kernel,rfl,by decide +kernel,by decide +kernel⟩
abbrev u1S:Stmt:=top 23
theorem u6i:FnScope ["_law_model"] ["_law_model"] (defScope u1S):=⟨rfl,rfl,rfl,by decide +kernel,rfl,by decide +kernel,by decide +kernel⟩
abbrev u4A:Stmt:=top 24
theorem u3s:FnScope ["_law_tree","_law_model","_law_child","_law_one"] ["_law_tree","_law_model"] (defScope u4A):=⟨rfl,rfl,rfl,by decide +kernel,rfl,by decide +kernel,by decide +kernel⟩
abbrev u1x:Stmt:=top 25
theorem u0U:FnScope ["_law_model","_law_found","_law_k","_law_child"] ["_law_model"] (defScope u1x):=⟨rfl,rfl,rfl,by decide +kernel,rfl,by decide +kernel,by decide +kernel⟩
abbrev u4B:Stmt:=top 26
theorem u3u:FnScope ["_law_model","_law_path","_law_place"] ["_law_model","_law_path"] (defScope u4B):=⟨rfl,rfl,rfl,by decide +kernel,rfl,by decide +kernel,by decide +kernel⟩
abbrev u2f:Stmt:=top 27
theorem u0m:FnScope ["_law_model","_law_signs","_law_size","_law_deep","_law_child","_law_some","_law_many","_law_depth"] ["_law_model"] (defScope u2f):=⟨rfl,rfl,rfl,by decide +kernel,rfl,by decide +kernel,by decide +kernel⟩
abbrev u2J:Stmt:=top 28
theorem u0H:FnScope ["_law_tree","_law_model","_law_signs","_law_size","_law_deep","_law_told_here","_law_number","_law_due"] ["_law_tree","_law_model"] (defScope u2J):=⟨rfl,rfl,rfl,by decide +kernel,rfl,by decide +kernel,by decide +kernel⟩
abbrev u2I:Stmt:=top 29
theorem u3q:FnScope ["_law_model","_law_path","_law_other_here","_law_children"] ["_law_model","_law_path","_law_other_here"] (defScope u2I):=⟨rfl,rfl,rfl,by decide +kernel,rfl,by decide +kernel,by decide +kernel⟩
abbrev u1w:Stmt:=top 30
theorem u0R:FnScope ["_law_tree","_law_path","_law_way","_law_caught","e"] ["_law_tree","_law_path","_law_way"] (defScope u1w):=⟨rfl,rfl,rfl,by decide +kernel,rfl,by decide +kernel,by decide +kernel⟩
abbrev u0N:Stmt:=top 31
theorem u0s:FnScope ["_law_model","_law_paths_here","_law_cell_here","_law_path","_law_here","_law_many","_law_some"] ["_law_model","_law_paths_here","_law_cell_here"] (defScope u0N):=⟨rfl,rfl,rfl,by decide +kernel,rfl,by decide +kernel,by decide +kernel⟩
abbrev u2d:Stmt:=top 32
theorem u0I:FnScope ["_law_model","_law_path","_law_cell_here","_law_here","_law_number","_law_children","_law_other_here"] ["_law_model","_law_path","_law_cell_here"] (defScope u2d):=⟨rfl,rfl,rfl,by decide +kernel,rfl,by decide +kernel,by decide +kernel⟩
abbrev u1y:Stmt:=top 33
theorem u0w:FnScope ["_law_tree","_law_model","_law_one","_law_two","_law_due","_law_path","_law_handed"] ["_law_tree","_law_model"] (defScope u1y):=⟨rfl,rfl,rfl,by decide +kernel,rfl,by decide +kernel,by decide +kernel⟩
abbrev u2g:Stmt:=top 34
theorem u0J:FnScope ["_law_number","_law_long","_law_tree","_law_k","_law_path","_law_other_here"] ["_law_number","_law_long"] (defScope u2g):=⟨rfl,rfl,rfl,by decide +kernel,rfl,by decide +kernel,by decide +kernel⟩
abbrev u4C:Stmt:=top 35
theorem u1h:FnScope ["_law_script","_law_model","_law_other_here","_law_tree","_law_paths_here","_law_path","_law_handed","_law_here","_law_k","_law_bad","_law_children","_law_above","_law_cell_here"] ["_law_script"] (defScope u4C):=⟨rfl,rfl,rfl,by decide +kernel,rfl,by decide +kernel,by decide +kernel⟩
inductive Md where
 | leaf (s:Str)
 | node (n:Int) (cs:List Md)
theorem Md.ind {P:Md→Prop} (hl:∀ s,P (.leaf s)) (hn:∀ n cs,(∀ c∈cs,P c)→P (.node n cs)) (m:Md):P m :=
 Md.rec (motive_1:=P) (motive_2:=fun ms=>∀ c∈ms,P c) hl hn (fun c h=>nomatch h) (fun m ms h1 h2 c h=>by
  rcases List.mem_cons.mp h with e | h
  ·rw [e];exact h1
  ·exact h2 c h) m
mutual
noncomputable def toD:Md→D
 | .leaf s=>.str s
 | .node n cs=>.tup [.int n,.lst (toDs cs)]
noncomputable def toDs:List Md→List D
 | []=>[]
 | m::ms=>toD m::toDs ms
end
mutual
noncomputable def sz:Md→Nat
 | .leaf _=>1
 | .node _ cs=>szs cs+1
noncomputable def szs:List Md→Nat
 | []=>0
 | m::ms=>sz m+szs ms
end
mutual
noncomputable def dp:Md→Nat
 | .leaf _=>1
 | .node _ cs=>dps cs+1
noncomputable def dps:List Md→Nat
 | []=>0
 | m::ms=>max (dp m) (dps ms)
end
mutual
noncomputable def yd:Md→List Str
 | .leaf s=>[s]
 | .node _ cs=>yds cs
noncomputable def yds:List Md→List Str
 | []=>[]
 | m::ms=>yd m++yds ms
end
mutual
noncomputable def tr (A:Adr):Md→D
 | .leaf s=>.ins A.Leaf [("sign",.str s),("tree_size",.int 1),("tree_depth",.int 1)]
 | .node n cs=>.ins A.Node [("number",.int n),("children",.tup (trs A cs)),("tree_size",.int (1+szs cs)),("tree_depth",.int (1+dps cs))]
noncomputable def trs (A:Adr):List Md→List D
 | []=>[]
 | m::ms=>tr A m::trs A ms
end
theorem u0G:∀ ms,toDs ms=ms.map toD
 | []=>rfl
 | m::ms=>by rw [toDs,u0G ms];rfl
theorem u2b (A:Adr):∀ ms,trs A ms=ms.map (tr A)
 | []=>rfl
 | m::ms=>by rw [trs,u2b A ms];rfl
theorem u1s (ms:List Md):(toDs ms).length=ms.length:=by rw [u0G];simp
theorem u0E (A:Adr) (ms:List Md):(trs A ms).length=ms.length:=by rw [u2b];simp
inductive Ok:Md→Prop
 | leaf {s:Str} (h:PyData.strOk s=true) (l:s.length≤1000):Ok (.leaf s)
 | node {n:Int}{cs:List Md} (h0:0≤n) (h1:n<1000) (hl:cs.length≤1000) (hc:∀ c∈cs,Ok c):Ok (.node n cs)
noncomputable def tsz:D→Int
 | .ins _ gs=>match gs.lookup ("tree_size":Str) with
  | some (.int i)=>i
  | _=>0
 | _=>0
noncomputable def tdp:D→Int
 | .ins _ gs=>match gs.lookup ("tree_depth":Str) with
  | some (.int i)=>i
  | _=>0
 | _=>0
inductive Kid (A:Adr):D→Prop
 | mk {C:Addr}{gs:List (Str×D)}{i j:Int} (h:C=A.Leaf∨C=A.Node) (hi:gs.lookup ("tree_size":Str)=some (.int i)) (hj:gs.lookup ("tree_depth":Str)=some (.int j)) (h1:gs.lookup ("size":Str)=none) (h2:gs.lookup ("depth":Str)=none):Kid A (.ins C gs)
theorem u7m (A:Adr) (m:Md):Kid A (tr A m):=by
 cases m with
 | leaf s=>exact .mk (.inl rfl) (i:=1) (j:=1) (by rfl) (by rfl) (by rfl) (by rfl)
 | node n cs=>exact .mk (.inr rfl) (i:=1+szs cs) (j:=1+dps cs) (by rfl) (by rfl) (by rfl) (by rfl)
theorem v1n (A:Adr) (m:Md):tsz (tr A m)=sz m:=by
 cases m with
 | leaf s=>rfl
 | node n cs=>show (1+(szs cs:Int))=((szs cs+1:Nat):Int);omega
theorem u8s (A:Adr) (m:Md):tdp (tr A m)=dp m:=by
 cases m with
 | leaf s=>rfl
 | node n cs=>show (1+(dps cs:Int))=((dps cs+1:Nat):Int);omega
noncomputable def sumT (ds:List D):Int:=(ds.map tsz).sum
noncomputable def maxT (ds:List D):Int:=match ds.map tdp with
 | []=>0
 | i::r=>r.foldl mx2 i
theorem u6S (A:Adr):∀ ms,sumT (trs A ms)=szs ms
 | []=>rfl
 | m::ms=>by
  have:=u6S A ms
  unfold sumT at this ⊢
  rw [trs,List.map_cons,List.sum_cons,this,v1n,szs]
  omega
theorem u7t (A:Adr):∀ (ms:List Md) (k:Nat),((trs A ms).map tdp).foldl mx2 (k:Int)=((max k (dps ms):Nat):Int)
 | [],k=>by simp [trs,dps]
 | m::ms,k=>by
  have e:mx2 (k:Int) (dp m:Int)=((max k (dp m):Nat):Int):=by
   unfold mx2
   split <;> omega
  rw [trs,List.map_cons,List.foldl_cons,u8s,e,u7t A ms,dps]
  congr 1
  omega
theorem v0C (A:Adr) (ms:List Md):maxT (trs A ms)=dps ms:=by
 cases ms with
 | nil=>rfl
 | cons m ms =>
  show ((trs A ms).map tdp).foldl mx2 (tdp (tr A m))=_
  rw [u8s,u7t,dps]
theorem u6B {n:Nat} (h:n≤1000):n≤sizeLine:=Nat.le_trans h (by decide)
@[simp] theorem u5b {α:Type}{ds:List D}{k:Res α} (h:ds.length≤1000):szD ds k=k:=szD_pos (u6B h)
noncomputable def kids:Md→List Md
 | .leaf _=>[]
 | .node _ cs=>cs
theorem u5B {A:Adr}{C:Addr}:C∈[A.Leaf,A.Node]↔C=A.Leaf∨C=A.Node:=by simp
structure LeafM (A:Adr) (g:Addr→List D→Res D):Prop where
 l:∀ d,g A.Leaf [d]=.ok (.bl true)
 n:∀ d,g A.Node [d]=.ok (.bl false)
noncomputable def isLeafB:Md→Bool
 | .leaf _=>true
 | .node _ _=>false
theorem u5G (A:Adr) (m:Md) {x:Str} (h:x∉([("sign":Str),"tree_size","tree_depth","number","children"]:List Str)):isV [A.Leaf,A.Node] x (tr A m)=.ok (match m with | .leaf _=>A.Leaf | .node _ _=>A.Node,tr A m):=by
 simp only [List.mem_cons,List.not_mem_nil,or_false,not_or] at h
 obtain ⟨h1,h2,h3,h4,h5⟩:=h
 have b1:=beq_false_of_ne h1
 have b2:=beq_false_of_ne h2
 have b3:=beq_false_of_ne h3
 have b4:=beq_false_of_ne h4
 have b5:=beq_false_of_ne h5
 cases m <;> simp [isV,tr,List.lookup,b1,b2,b3,b4,b5]
theorem u0K {A:Adr}{g:Addr→List D→Res D} (p:LeafM A g) (m:Md):((isV [A.Leaf,A.Node] "is_leaf" (tr A m)).bind fun y=>noE (g y.1 [y.2]))=.ok (.bl (isLeafB m)):=by
 rw [u5G A m (by decide +kernel)]
 cases m with
 | leaf s=>show noE (g A.Leaf _)=_;rw [p.l];rfl
 | node n cs=>show noE (g A.Node _)=_;rw [p.n];rfl
theorem u0L (A:Adr) (n:Int) (cs:List Md):fldV [A.Node] "children" (tr A (.node n cs))=.ok (.tup (trs A cs)):=by
 show (if A.Node∈[A.Node] then _ else _)=_
 rw [if_pos (by simp)]
 rfl
theorem u1W (A:Adr) (n:Int) (cs:List Md):fldV [A.Node] "number" (tr A (.node n cs))=.ok (.int n):=by
 show (if A.Node∈[A.Node] then _ else _)=_
 rw [if_pos (by simp)]
 rfl
theorem u4Q (A:Adr) (s:Str):fldV [A.Leaf] "sign" (tr A (.leaf s))=.ok (.str s):=by
 show (if A.Leaf∈[A.Leaf] then _ else _)=_
 rw [if_pos (by simp)]
 rfl
structure Whole (G:FD):Prop where
 i:∀ i,G [.int i]=.ok (.bl true)
 b:∀ b,G [.bl b]=.ok (.bl false)
 s:∀ s,G [.str s]=.ok (.bl false)
 n:G [.non]=.ok (.bl false)
 l:∀ ds,G [.lst ds]=.ok (.bl false)
section
variable {P:Program}{w:World}{K:W.Frag}{mg:MG}{base:Heap}{f:Addr}{fd:FuncData}{A:Adr}
theorem u6x (F:Fun K "is_whole" "is_whole" u2O f fd) (T:Txt K mg A):∃ G,FnOk P w K mg base CX0 1 f fd ["thing"] (spF K G)∧Whole G:=by
 refine ⟨_,F.okT (k:=0) u6k (fun cdv Ar outer s H E hr=>u0f (u0i (u4d (d_B u1Q T.z_isinstance (by decide +kernel) (u0a (dv 0) (u0a (d_ty T.z_int (T:="int") (by decide +kernel)) u0b))) (u6J (d_not (d_B u1Q T.z_isinstance (by decide +kernel) (u0a (dv 0) (u0a (d_ty T.z_bool (T:="bool") (by decide +kernel)) u0b)))))))),?_⟩
 refine ⟨fun i=>?_,fun b=>?_,fun s=>?_,?_,fun ds=>?_⟩ <;> (simp [runT,startD];rfl)
theorem u3A (F:Fun K "is_leaf" "Leaf.is_leaf" u0X f fd) (T:Txt K mg A):∃ G,FnOk P w K mg base CX0 1 f fd ["self"] (spF K G)∧∀ d,G [d]=.ok (.bl true):=by
 refine ⟨_,F.okT (k:=0) u2G (fun cdv Ar outer s H E hr=>u0f (u0i d_bl)),?_⟩
 intro d
 simp [runT,startD]
theorem u3z (F:Fun K "is_leaf" "Node.is_leaf" u0W f fd) (T:Txt K mg A):∃ G,FnOk P w K mg base CX0 1 f fd ["self"] (spF K G)∧∀ d,G [d]=.ok (.bl false):=by
 refine ⟨_,F.okT (k:=0) u2F (fun cdv Ar outer s H E hr=>u0f (u0i d_bl)),?_⟩
 intro d
 simp [runT,startD]
theorem u2Y (F:Fun K "size" "Tree.size" u1a f fd) (T:Txt K mg A):∃ G,FnOk P w K mg base CX0 1 f fd ["self"] (spF K G)∧∀ d,Kid A d→G [d]=.ok (.int (tsz d)):=by
 refine ⟨_,F.okT (k:=0) u3W (fun cdv Ar outer s H E hr=>u0f (u0i (u0O T.f_tree_size (dv 0)))),?_⟩
 intro d h
 cases h with
 | mk h hi hj h1 h2 =>
  rw [← u5B] at h
  simp [runT,startD,fldV,h,hi,tsz]
theorem u2v (F:Fun K "depth" "Tree.depth" u0T f fd) (T:Txt K mg A):∃ G,FnOk P w K mg base CX0 1 f fd ["self"] (spF K G)∧∀ d,Kid A d→G [d]=.ok (.int (tdp d)):=by
 refine ⟨_,F.okT (k:=0) u3p (fun cdv Ar outer s H E hr=>u0f (u0i (u0O T.f_tree_depth (dv 0)))),?_⟩
 intro d h
 cases h with
 | mk h hi hj h1 h2 =>
  rw [← u5B] at h
  simp [runT,startD,fldV,h,hj,tdp]
theorem u4c {g_is_leaf:Addr→List D→Res D} (m_is_leaf:∀ C∈[A.Leaf,A.Node],MCalleeF P w K mg base 1 C "is_leaf" ["self"] (g_is_leaf C)) (p_is_leaf:LeafM A g_is_leaf) (F:Fun K "children_of" "children_of" u1z f fd) (T:Txt K mg A):∃ G,FnOk P w K mg base CX0 2 f fd ["tree"] (spF K G)∧∀ m,G [tr A m]=.ok (.tup (trs A (kids m))):=by
 refine ⟨_,F.okT (k:=1) u3Y (fun cdv Ar outer s H E hr=>u0f (u0i (d_ife (u0n (u1Y m_is_leaf hr (dv 0))) (u1G u0b) (u0O T.f_children (dv 0))))),?_⟩
 intro m
 simp [runT,startD,u0K p_is_leaf]
 cases m with
 | leaf s=>simp [isLeafB,kids,trs]
 | node n cs=>simp [isLeafB,u0L,kids]
end
noncomputable def gLeaf:List D→Res (List (Str×D))
 | [d]=>.ok [("sign",d),("tree_size",.int 1),("tree_depth",.int 1)]
 | _=>.bad
open Classical in
noncomputable def gNode (A:Adr):List D→Res (List (Str×D))
 | [n,c]=>match rowOf c with
  | some ds=>if (∀ d∈ds,Kid A d)∧ds.length≤1000 then .ok [("number",n),("children",.tup ds),("tree_size",.int (1+sumT ds)),("tree_depth",.int (1+maxT ds))] else .bad
  | none=>.bad
 | _=>.bad
theorem v0R (A:Adr) (n:Int) (ms:List Md) (h:ms.length≤1000) {c:D} (e:rowOf c=some (trs A ms)):gNode A [.int n,c]=.ok [("number",.int n),("children",.tup (trs A ms)),("tree_size",.int (1+szs ms)),("tree_depth",.int (1+dps ms))]:=by
 have k:(∀ d∈trs A ms,Kid A d)∧(trs A ms).length≤1000:=⟨fun d m=>by
  rw [u2b] at m
  obtain ⟨x,_,rfl⟩:=List.mem_map.mp m
  exact u7m A x,by rw [u0E];exact h⟩
 unfold gNode
 simp only [e]
 rw [if_pos k,u6S,v0C]
theorem getI0 (a C:Addr) (gs:List (Str×D)) (ρ:Rho):getI (some (.own (.i a C gs))::ρ) 0=.ok (a,C,gs):=rfl
theorem outI0 (a C:Addr) (gs:List (Str×D)) (ρ:Rho):outI a C (.nx (some (.own (.i a C gs))::ρ))=.ok gs:=if_pos ⟨rfl,rfl⟩
theorem u7b (f:Str) (d:D):putG f d []=[(f,d)]:=rfl
theorem u1A {f g:Str}{d x:D}{r:List (Str×D)} (h:g≠f):putG f d ((g,x)::r)=(g,x)::putG f d r:=if_neg h
theorem lk_ne {f g:Str}{x:D}{r:List (Str×D)} (h:f≠g):List.lookup f ((g,x)::r)=List.lookup f r:=by rw [List.lookup_cons,beq_false_of_ne h]
theorem lk_eq {f:Str}{x:D}{r:List (Str×D)}:List.lookup f ((f,x)::r)=some x:=by rw [List.lookup_cons];simp
theorem comp1 {fT:Rho→Res Bool}{fe:Rho→Res D}{ds:List D} (h:D→D) (k:∀ d∈ds,fT [some (.val d)]=.ok true∧fe [some (.val d)]=.ok (h d)):compD (fun d ρ=>.ok (ρ.set 0 (some (.val d)))) fT fe [none] ds=.ok (ds.map h) :=
 u5Q h fun d hd=>⟨[some (.val d)],rfl,(k d hd).1,(k d hd).2⟩
theorem u9c {A:Adr}{d:D} (h:Kid A d):isO [(A.Leaf,true),(A.Node,true)] [(A.NoPlace,false)] d=.ok (.bl true):=by
 cases h with
 | @mk C gs i j h hi hj h1 h2 =>
  have e:List.lookup C [(A.Leaf,true),(A.Node,true)]=some true:=by
   rw [List.lookup_cons]
   by_cases c:(C==A.Leaf)=true
   ·rw [c]
   ·rw [Bool.eq_false_iff.mpr c,List.lookup_cons]
    rcases h with h | h
    ·rw [h] at c;simp at c
    ·rw [h];simp
  show lookB _ C=_
  unfold lookB
  rw [e]
theorem u7n {A:Adr}{d:D}{g:Addr→List D→Res D} (p:∀ C d,C∈[A.Leaf,A.Node]→Kid A d→g C [d]=.ok (.int (tsz d))) (h:Kid A d):((isV [A.Leaf,A.Node] "size" d).bind fun y=>noE (g y.1 [y.2]))=.ok (.int (tsz d)):=by
 cases id h with
 | @mk C gs i j hC hi hj h1 h2 =>
  have hm:=u5B.mpr hC
  unfold isV
  simp only [hm,h1,and_self,if_true,Res.bind_ok]
  rw [p C _ hm h]
  rfl
theorem u5F {A:Adr}{d:D}{g:Addr→List D→Res D} (p:∀ C d,C∈[A.Leaf,A.Node]→Kid A d→g C [d]=.ok (.int (tdp d))) (h:Kid A d):((isV [A.Leaf,A.Node] "depth" d).bind fun y=>noE (g y.1 [y.2]))=.ok (.int (tdp d)):=by
 cases id h with
 | @mk C gs i j hC hi hj h1 h2 =>
  have hm:=u5B.mpr hC
  unfold isV
  simp only [hm,h2,and_self,if_true,Res.bind_ok]
  rw [p C _ hm h]
  rfl
theorem items_t (ds:List D):items (.tup ds)=.ok ds:=rfl
theorem u1d (ds:List D):items (.lst ds)=.ok ds:=rfl
theorem rhoC10 (ρ:Rho):rhoC 1 [] ρ=[none]:=rfl
theorem u4M (h:D→Int):∀ ds:List D,intsOf (ds.map fun d=>.int (h d))=some (ds.map h)
 | []=>rfl
 | d::ds=>by rw [List.map_cons,intsOf,u4M h ds];rfl
theorem v1k {fT:Rho→Res Bool}{tb:Rho→Out} (S:Nat→Rho→Prop) (Q:Out→Prop) (hQ:∀ o,Q o→notBad o)
  (step:∀ n ρ,S n ρ→(fT (frz ρ)=.ok false∧Q (.nx ρ))∨(fT (frz ρ)=.ok true∧((∃ ρ2 n2,n2<n∧tb ρ=.nx ρ2∧S n2 ρ2)∨∃ v,tb ρ=.rt v∧Q (.rt v)))) (n:Nat) (ρ:Rho) (h:S n ρ):Q (wD fT tb ρ):=by
 suffices ∃ k,Q (whileD fT tb k ρ) by
  obtain ⟨k,q⟩:=this
  rw [wD_eq rfl (hQ _ q)]
  exact q
 induction n using Nat.strongRecOn generalizing ρ with
 | ind n ih =>
  rcases step n ρ h with ⟨e,q⟩ | ⟨e,⟨ρ2,n2,l,e2,h2⟩ | ⟨v,e2,q⟩⟩
  ·exact ⟨1,by simp only [whileD,e,go_ok];exact q⟩
  ·obtain ⟨k,q⟩:=ih n2 l ρ2 h2
   exact ⟨k+1,by simp only [whileD,e,go_ok,e2];exact q⟩
  ·exact ⟨1,by simp only [whileD,e,go_ok,e2];exact q⟩
section
variable {P:Program}{w:World}{K:W.Frag}{mg:MG}{base:Heap}{f:Addr}{fd:FuncData}{A:Adr}
theorem u5r (F:Fun K "__init__" "Leaf.__init__" u1v f fd) (T:Txt K mg A):FnOk P w K mg base CX0 1 f fd ["self","sign"] (spIni K A.Leaf gLeaf) :=
 F.okI0 (k:=0) u3X (fun ds gs h=>by
  match ds,h with
  | [d],h=>rfl
  | [],h=>cases h
  | _::_::_,h=>cases h) (fun cdv Ar outer s H E hr=>⟨_,u0c (u3P 0 T.c_Leaf T.na_Leaf_sign (dv 1))
  (u0c (u3P 0 T.c_Leaf T.na_Leaf_tree_size u0d)
  (u0f (u3P 0 T.c_Leaf T.na_Leaf_tree_depth u0d))),fun a ds gs h=>by
  match ds,h with
  | [d],h =>
   cases h
   have n1:("sign":Str)≠"tree_size":=by decide +kernel
   have n2:("sign":Str)≠"tree_depth":=by decide +kernel
   have n3:("tree_size":Str)≠"tree_depth":=by decide +kernel
   simp [startI,startD,getI0,outI0,u7b,u1A n1,u1A n2,u1A n3]
  | [],h=>cases h
  | _::_::_,h=>cases h⟩)
theorem u5q {g_size:Addr→List D→Res D} (m_size:∀ C∈[A.Leaf,A.Node],MCalleeF P w K mg base 1 C "size" ["self"] (g_size C)) {g_depth:Addr→List D→Res D} (m_depth:∀ C∈[A.Leaf,A.Node],MCalleeF P w K mg base 1 C "depth" ["self"] (g_depth C)) (p_size:∀ C d,C∈[A.Leaf,A.Node]→Kid A d→g_size C [d]=.ok (.int (tsz d))) (p_depth:∀ C d,C∈[A.Leaf,A.Node]→Kid A d→g_depth C [d]=.ok (.int (tdp d))) (F:Fun K "__init__" "Node.__init__" u0B f fd) (T:Txt K mg A):FnOk P w K mg base CX0 2 f fd ["self","number","children"] (spIni K A.Node (gNode A)) :=
 F.okI0 (k:=1) u1Z (fun ds gs h=>by
  match ds,h with
  | [n,c],h=>rfl
  | [],h=>cases h
  | [_],h=>cases h
  | _::_::_::_,h=>cases h) (fun cdv Ar outer s H E hr=>⟨_,u0c (u3P 0 T.c_Node T.na_Node_number (dv 1))
  (u0c (u3P 0 T.c_Node T.na_Node_children (d_T u9N T.z_tuple (by decide +kernel) (u0a (dv 2) u0b)))
  (u0c (u7x ["child"] [] rfl (u1q (sc:=defScope u0B) (N:=["self","number","children","trees"]) (by decide +kernel)) u1Z.nd (u1k (d_fldO 0 T.c_Node T.na_Node_children)) (dg_n (show (["child"]:List Str).Nodup by decide +kernel)) (df_one (u0n (u6K T.o_Tree T.m_Tree T.z_isinstance (by decide +kernel) (dv 0)))) (dv 0))
  (u0c (u3P 0 T.c_Node T.na_Node_tree_size (d_op u1f u0d (d_B (c_sum rfl) T.z_sum (by decide +kernel) (u0a (DN.de (u4V ["child"] [] rfl (u1q (sc:=defScope u0B) (N:=["self","number","children","trees"]) (by decide +kernel)) (u1k (dv 3)) (dg_n (show (["child"]:List Str).Nodup by decide +kernel)) u5N (u1Y m_size hr (dv 0)))) u0b))))
  (u0f (u3P 0 T.c_Node T.na_Node_tree_depth (d_op u1f u0d (d_maxD rfl T.z_max (by decide +kernel) (DN.de (u4V ["child"] [] rfl (u1q (sc:=defScope u0B) (N:=["self","number","children","trees"]) (by decide +kernel)) (u1k (dv 3)) (dg_n (show (["child"]:List Str).Nodup by decide +kernel)) u5N (u1Y m_depth hr (dv 0)))) u0d))))))),fun a ds gs h=>by
  match ds,h with
  | [n,c],h =>
   unfold gNode at h
   simp only at h
   split at h
   ·rename_i ds e
    split at h
    ·rename_i hk
     cases h
     have et:gTuple [c]=.ok (.tup ds):=by
      cases c <;> first | (cases e;rfl) | cases e
     have n1:("number":Str)≠"children":=by decide +kernel
     have n2:("number":Str)≠"tree_size":=by decide +kernel
     have n3:("number":Str)≠"tree_depth":=by decide +kernel
     have n4:("children":Str)≠"tree_size":=by decide +kernel
     have n5:("children":Str)≠"tree_depth":=by decide +kernel
     have n6:("tree_size":Str)≠"tree_depth":=by decide +kernel
     have hz:ds.length≤sizeLine:=Nat.le_trans hk.2 (by decide)
     have c1:=comp1 (ds:=ds) (fT:=fun ρ=>((getV ρ 0).bind (isO [(A.Leaf,true),(A.Node,true)] [(A.NoPlace,false)])).bind asB) (fe:=fun ρ=>getV ρ 0) id fun d m=>⟨by simp [u9c (hk.1 d m)],rfl⟩
     have c2:=comp1 (ds:=ds) (fT:=fun x=>Res.ok true) (fe:=fun ρ=>(getV ρ 0).bind fun x=>(isV [A.Leaf,A.Node] (Str.ofString "size") x).bind fun y=>noE (g_size y.fst [y.snd])) (fun d=>.int (tsz d)) fun d m=>⟨rfl,by simp [u7n p_size (hk.1 d m)]⟩
     have c3:=comp1 (ds:=ds) (fT:=fun x=>Res.ok true) (fe:=fun ρ=>(getV ρ 0).bind fun x=>(isV [A.Leaf,A.Node] (Str.ofString "depth") x).bind fun y=>noE (g_depth y.fst [y.snd])) (fun d=>.int (tdp d)) fun d m=>⟨rfl,by simp [u5F p_depth (hk.1 d m)]⟩
     rw [List.map_id] at c1
     have es:gSum [.lst (ds.map fun d=>.int (tsz d))]=.ok (.int (sumT ds)):=by
      unfold gSum
      simp only [u4M]
      rfl
     have em:gMaxD (.lst (ds.map fun d=>.int (tdp d))) (.int 0)=.ok (.int (maxT ds)):=by
      unfold gMaxD maxT
      simp only [u4M]
      cases ds <;> rfl
     simp [startI,startD,getI0,outI0,et,u7b,u1A n1,u1A n2,u1A n3,u1A n4,u1A n5,u1A n6,lk_ne n1.symm,lk_eq,items_t,u1d,rhoC10,u0F hz,c1,c2,c3,es,em,dAdd]
    ·cases h
   ·cases h
  | [],h=>cases h
  | [_],h=>cases h
  | _::_::_::_,h=>cases h⟩)
end
theorem u9H {z:Str} (h:PyData.strOk z=true):cmpD (.str z)=.ok (.str z):=by
 unfold cmpD
 rw [show (D.str z).py=some (.str z) from rfl]
 simp [SeqAt.shaped,PyData.canLay0,h,PyData.depth]
theorem eqS {a b:Str} (h:PyData.strOk a=true) (k:PyData.strOk b=true):dEqX (.str a) (.str b)=.ok (.bl (decide (a=b))):=by
 unfold dEqX
 rw [if_neg (show ¬ lenNe (.str a) (.str b)=true from Bool.false_ne_true)]
 by_cases c:a=b
 ·subst c
  rw [if_pos ⟨rfl,rfl,Nat.zero_le _⟩]
  simp
 ·rw [if_neg (fun z=>c (D.str.inj z.1))]
  unfold dEq
  rw [u9H h,u9H k]
  show Res.ok (D.bl (a==b))=_
  simp [c]
theorem eqI (i j:Int):dEqX (.int i) (.int j)=.ok (.bl (decide (i=j))):=by
 unfold dEqX
 rw [if_neg (show ¬ lenNe (.int i) (.int j)=true from Bool.false_ne_true)]
 by_cases c:i=j
 ·subst c
  rw [if_pos ⟨rfl,rfl,Nat.zero_le _⟩]
  simp
 ·rw [if_neg (fun z=>c (D.int.inj z.1))]
  show Res.ok (D.bl (i==j))=_
  simp [c]
noncomputable def hereB:Md→Md→Bool
 | .leaf s,.leaf t=>decide (s=t)
 | .node n cs,.node n' cs'=>decide (n=n')&&decide (cs.length=cs'.length)
 | _,_=>false
theorem u8L {ρ:Rho}{i:Nat}{l:List D}{x:D} (h:ρ[i]?=some (some (.own (.l (l++[x]))))):(getW ρ i).bind (popW ρ i)=.ok (x,ρ.set i (some (.own (.l l)))):=by
 unfold getW
 rw [h]
 show popW ρ i (OD.l,l++[x])=_
 unfold popW
 simp
theorem u6f {m:Md}:0<sz m:=by cases m <;> simp [sz]
theorem u2C:∀ (a b:List Md),szs (a++b)=szs a+szs b
 | [],b=>by simp [szs]
 | m::a,b=>by simp [szs,u2C a b];omega
theorem u6c:∀ (a b:List Md),yds (a++b)=yds a++yds b
 | [],b=>rfl
 | m::a,b=>by simp [yds,u6c a b]
theorem u4t (A:Adr) (a b:List Md):trs A (a++b)=trs A a++trs A b:=by simp [u2b]
theorem u6C:∀ ms:List Md,ms.length≤szs ms
 | []=>Nat.le_refl _
 | m::ms=>by have:=u6C ms;have:=u6f (m:=m);simp [szs];omega
theorem u9R (m:Md):(yd m).length≤sz m:=by
 refine Md.ind (P:=fun m=>(yd m).length≤sz m) (fun s=>by simp [yd,sz]) (fun n cs h=>?_) m
 have:∀ ms:List Md,(∀ c∈ms,(yd c).length≤sz c)→(yds ms).length≤szs ms:=fun ms=>by
  induction ms with
  | nil=>intro _;exact Nat.le_refl _
  | cons x ms ih =>
   intro h
   have h1:=h x List.mem_cons_self
   have h2:=ih fun c hc=>h c (List.mem_cons_of_mem _ hc)
   simp [yds,szs]
   omega
 have:=this cs h
 simp [yd,sz]
 omega
noncomputable def prs (A:Adr) (ps:List (Md×Md)):List D:=ps.map fun p=>.tup [tr A p.1,tr A p.2]
noncomputable def szp:List (Md×Md)→Nat
 | []=>0
 | p::ps=>sz p.1+szp ps
theorem prs_app (A:Adr) (a b:List (Md×Md)):prs A (a++b)=prs A a++prs A b:=by simp [prs]
theorem u8G (A:Adr) (a:List (Md×Md)):(prs A a).length=a.length:=by simp [prs]
theorem u4v:∀ a b,szp (a++b)=szp a+szp b
 | [],b=>by simp [szp]
 | p::a,b=>by simp [szp,u4v a b];omega
theorem u6g:∀ ps,ps.length≤szp ps
 | []=>Nat.le_refl _
 | p::ps=>by have:=u6g ps;have:=u6f (m:=p.1);simp [szp];omega
theorem u6Q:∀ (a b:List Md),szp (a.zip b)≤szs a
 | [],b=>by simp [szp]
 | x::a,[]=>by simp [szp]
 | x::a,y::b=>by have:=u6Q a b;simp [szp,szs];omega
theorem szp_zip {a b:Md} (h:hereB a b=true):szp ((kids a).zip (kids b))<sz a:=by
 have:=u6Q (kids a) (kids b)
 cases a <;> simp [sz,kids,szp,szs] at *
 omega
theorem u8F (A:Adr):∀ (a b:List Md),zipL (trs A a) (trs A b)=prs A (a.zip b)
 | [],b=>rfl
 | x::a,[]=>rfl
 | x::a,y::b=>by
  have:=u8F A a b
  unfold zipL prs at *
  simp [trs] at *
  exact this
theorem here_ne {a b:Md} (h:hereB a b=false):a≠b:=fun e=>by
 subst e
 cases a <;> simp [hereB] at h
theorem u8i:∀ {a b:List Md},a.length=b.length→(a=b↔∀ p∈a.zip b,p.1=p.2)
 | [],[],_=>by simp
 | x::a,y::b,h=>by
  have:=u8i (a:=a) (b:=b) (by simpa using h)
  simp
  rw [this]
  simp
 | [],_::_,h=>by simp at h
 | _::_,[],h=>by simp at h
theorem v0O {a b:Md} (h:hereB a b=true):a=b↔∀ p∈(kids a).zip (kids b),p.1=p.2:=by
 cases a with
 | leaf s =>
  cases b with
  | leaf t=>simp [hereB] at h;simp [kids,h]
  | node n cs=>simp [hereB] at h
 | node n cs =>
  cases b with
  | leaf t=>simp [hereB] at h
  | node n' cs' =>
   simp [hereB] at h
   rw [← u8i (show (kids (.node n cs)).length=(kids (.node n' cs')).length from h.2)]
   simp [kids,h.1]
theorem Ok.kid {m c:Md} (h:Ok m) (hc:c∈kids m):Ok c:=by
 cases h with
 | leaf=>cases hc
 | node h0 h1 hl h=>exact h c hc
section
variable {P:Program}{w:World}{K:W.Frag}{mg:MG}{base:Heap}{f:Addr}{fd:FuncData}{A:Adr}
theorem u2P {g_is_leaf:Addr→List D→Res D} (m_is_leaf:∀ C∈[A.Leaf,A.Node],MCalleeF P w K mg base 1 C "is_leaf" ["self"] (g_is_leaf C)) (p_is_leaf:LeafM A g_is_leaf) (F:Fun K "are_alike_here" "are_alike_here" u0Y f fd) (T:Txt K mg A):∃ G,FnOk P w K mg base CX0 2 f fd ["one","other"] (spF K G)∧∀ a b,Ok a→Ok b→G [tr A a,tr A b]=.ok (.bl (hereB a b)):=by
 refine ⟨_,F.okT (k:=1) u2H (fun cdv Ar outer s H E hr=>u0c (u0C (dt_w (u1e (u0n (u1Y m_is_leaf hr (dv 0))) (u0Z (u0n (u1Y m_is_leaf hr (dv 1)))))) (u0f (u0i (u4d (u1Y m_is_leaf hr (dv 0)) (u4d (u1Y m_is_leaf hr (dv 1)) (u6J (u3R (u1F (hu64 hr)) (u0O T.f_sign (dv 0)) (u0O T.f_sign (dv 1)))))))) u0p)
  (u0f (u0i (u4d (u3R (u1F (hu64 hr)) (u0O T.f_number (dv 0)) (u0O T.f_number (dv 1))) (u6J (u3R (u1F (hu64 hr)) (d_B u3h T.z_len (by decide +kernel) (u0a (u0O T.f_children (dv 0)) u0b)) (d_B u3h T.z_len (by decide +kernel) (u0a (u0O T.f_children (dv 1)) u0b)))))))),?_⟩
 intro a b ha hb
 simp [runT,startD,u0K p_is_leaf]
 cases ha with
 | leaf h l =>
  cases hb with
  | leaf h2 l2=>simp [isLeafB,u4Q,eqS h h2,hereB,u0K p_is_leaf]
  | node=>simp [isLeafB,hereB,u0K p_is_leaf]
 | @node n cs h0 h1 hl hc =>
  cases hb with
  | leaf h2 l2=>simp [isLeafB,hereB,u0K p_is_leaf]
  | @node n' cs' k0 k1 kl kc =>
   simp [isLeafB,u1W,u0L,gLen,eqI,hereB,u0E]
   by_cases c:n=n' <;> simp [c,u1W,u0L,gLen,eqI,hereB,u0E]
   omega
theorem u2u {g_is_leaf:Addr→List D→Res D} (m_is_leaf:∀ C∈[A.Leaf,A.Node],MCalleeF P w K mg base 1 C "is_leaf" ["self"] (g_is_leaf C)) (p_is_leaf:LeafM A g_is_leaf) (F:Fun K "signs" "Tree.signs" u0S f fd) (T:Txt K mg A):∃ G,FnOk P w K mg base (CXe P w) 2 f fd ["self"] (spN K G)∧∀ m,sz m≤10000→G [tr A m]=.ok ((yd m).map D.str):=by
 refine ⟨_,F.okN (k:=1) u0M (fun cdv Ar outer s H E hr hq=>u6H (u3a u0M.nd (u2y u0b))
  (u6H (u3a u0M.nd (u2y (u0a (dv 0) u0b)))
  (u6H (u7v (u0r o_gt (d_B u3h T.z_len (by decide +kernel) (u0a (dv 2) u0b)) u0d) (u0c (dsx_n u0M.nd (x_pop 2))
   (u0f (u0C (u0n (u1Y m_is_leaf hr (dv 3))) (u0f (u9B 1 (u0O T.f_sign (dv 3)))) (u0f (v1C 2 (DN.de (v1E rfl T.z_list T.z_reversed (u0a (u0O T.f_children (dv 3)) u0b)))))))) hq.ps)
  (dr_own 1)))),?_⟩
 intro m hz
 simp [L2.runN,thenR,startD]
 generalize hI:wD _ _ _=o
 have q:∃ ρ,o=.nx ρ∧ρ[1]?=some (some (.own (.l ((yd m).map D.str)))):=by
  rw [← hI]
  refine v1k (S:=fun n ρ=>∃ done todo x,ρ=[some (.val (tr A m)),some (.own (.l (done.map D.str))),some (.own (.l (trs A todo).reverse)),x]∧done++yds todo=yd m∧szs todo=n∧n≤10000)
   (Q:=fun o=>∃ ρ,o=.nx ρ∧ρ[1]?=some (some (.own (.l ((yd m).map D.str))))) (fun o ⟨ρ,e,_⟩=>by rw [e];trivial) (fun n ρ h=>?_) (sz m) _ ⟨[],[m],none,by simp [trs],by simp [yds],by simp [szs],hz⟩
  obtain ⟨done,todo,x,rfl,hy,hn,hb⟩:=h
  cases todo with
  | nil =>
   left
   refine ⟨by simp [gLen,trs],_,rfl,?_⟩
   simp [yds] at hy
   simp [hy]
  | cons c todo =>
   right
   have hl:=u6C todo
   have hs:=u6f (m:=c)
   simp only [szs] at hn
   refine ⟨by simp [gLen,u0E],.inl ?_⟩
   have pw:=u8L (ρ:=[some (.val (tr A m)),some (.own (.l (done.map D.str))),some (.own (.l (trs A (c::todo)).reverse)),x]) (i:=2) (l:=(trs A todo).reverse) (x:=tr A c) (by simp [trs])
   have hdn:done.length≤10000:=by
    have h1:=congrArg List.length hy
    have h2:=u9R m
    simp at h1
    omega
   rw [pw]
   cases c with
   | leaf s =>
    refine ⟨_,szs todo,by omega,by simp [u0K p_is_leaf,isLeafB,u4Q];rw [if_pos (Nat.lt_of_le_of_lt hdn (by decide))],done++[s],todo,_,by simp;exact rfl,?_,rfl,by omega⟩
    rw [← hy];simp [yds,yd]
   | node k cs =>
    have hc:=u6C cs
    simp only [sz] at hn
    refine ⟨_,szs (cs++todo),by rw [u2C];omega,by simp [u0K p_is_leaf,isLeafB,u0L,revN,rowOf];rw [if_pos (Nat.le_trans (show _≤20000 by rw [u0E,u0E];omega) (by decide))],done,cs++todo,_,by simp [u4t];exact rfl,?_,rfl,by rw [u2C];omega⟩
    rw [← hy,u6c];simp [yds,yd]
 obtain ⟨ρ,rfl,e1⟩:=q
 simp [retO,e1]
theorem v0l {G_children_of:FD} (c_children_of:Callee P w K mg base 2 "children_of" ["tree"] (spF K G_children_of)) {G_are_alike_here:FD} (c_are_alike_here:Callee P w K mg base 2 "are_alike_here" ["one","other"] (spF K G_are_alike_here)) (p_children_of:∀ m,G_children_of [tr A m]=.ok (.tup (trs A (kids m)))) (p_are_alike_here:∀ a b,Ok a→Ok b→G_are_alike_here [tr A a,tr A b]=.ok (.bl (hereB a b))) (F:Fun K "alike" "alike" u6l f fd) (T:Txt K mg A):∃ G,FnOk P w K mg base CX0 3 f fd ["one","other"] (spF K G)∧∀ a b,Ok a→Ok b→sz a≤10000→∃ c,G [tr A a,tr A b]=.ok (.bl c)∧(c=true↔a=b):=by
 refine ⟨_,F.okT (k:=2) u4y (fun cdv Ar outer s H E hr=>u0c (u3a u4y.nd (u2y (u0a (u1G (u0a (dv 0) (u0a (dv 1) u0b))) u0b)))
  (u0c (u7v (u0r o_gt (d_B u3h T.z_len (by decide +kernel) (u0a (dv 2) u0b)) u0d) (u0c (dsx_n u4y.nd (x_pop 2))
   (u0c (u0C (u0y (u0n (d_fn c_are_alike_here hr (u0a (d_ix x_ix (dv 3) u0d) (u0a (d_ix x_ix (dv 3) u0d) u0b))))) (u0f (u0i d_bl)) u0p)
   (u0f (v1C 2 (DN.de (v1D rfl T.z_list T.z_zip (u0a (d_fn c_children_of hr (u0a (d_ix x_ix (dv 3) u0d) u0b)) (u0a (d_fn c_children_of hr (u0a (d_ix x_ix (dv 3) u0d) u0b)) u0b)))))))))
  (u0f (u0i d_bl)))),?_⟩
 intro a b ha hb hz
 simp [runT,startD]
 generalize hI:wD _ _ _=o
 have q:(∃ ρ,o=.nx ρ∧a=b)∨(o=.rt (.bl false)∧a≠b):=by
  rw [← hI]
  refine v1k (S:=fun n ρ=>∃ todo x,ρ=[some (.val (tr A a)),some (.val (tr A b)),some (.own (.l (prs A todo))),x]∧(a=b↔∀ p∈todo,p.1=p.2)∧(∀ p∈todo,Ok p.1∧Ok p.2)∧szp todo=n∧n≤10000)
   (Q:=fun o=>(∃ ρ,o=.nx ρ∧a=b)∨(o=.rt (.bl false)∧a≠b)) (fun o h=>by rcases h with ⟨ρ,e,_⟩ | ⟨e,_⟩ <;> (rw [e];trivial)) (fun n ρ h=>?_) (sz a) _ ⟨[(a,b)],none,rfl,by simp,by simp;exact ⟨ha,hb⟩,by simp [szp],hz⟩
  obtain ⟨todo,x,rfl,hab,hok,hn,hl⟩:=h
  rcases List.eq_nil_or_concat todo with rfl | ⟨todo,p,rfl⟩
  ·left
   refine ⟨by simp [gLen,prs],.inl ⟨_,rfl,hab.mpr fun p h=>nomatch h⟩⟩
  ·right
   obtain ⟨p1,p2⟩:=p
   rw [List.concat_eq_append] at *
   have ok:=hok (p1,p2) (by simp)
   have pw:=u8L (ρ:=[some (.val (tr A a)),some (.val (tr A b)),some (.own (.l (prs A (todo++[(p1,p2)])))),x]) (i:=2) (l:=prs A todo) (x:=.tup [tr A p1,tr A p2]) (by simp [prs])
   have i0:dIx (.tup [tr A p1,tr A p2]) (.int 0)=.ok (tr A p1):=rfl
   have i1:dIx (.tup [tr A p1,tr A p2]) (.int 1)=.ok (tr A p2):=rfl
   refine ⟨by simp [gLen,prs],?_⟩
   rw [pw]
   cases hh:hereB p1 p2 with
   | false =>
    right
    refine ⟨_,by simp [i0,i1,p_are_alike_here _ _ ok.1 ok.2,hh],.inr ⟨rfl,fun e=>?_⟩⟩
    exact here_ne hh (hab.mp e (p1,p2) (by simp))
   | true =>
    left
    have hs:=u4v todo [(p1,p2)]
    have hz2:=szp_zip hh
    have hk:=v0O hh
    have l1:=u6g todo
    have l2:=u6g ((kids p1).zip (kids p2))
    simp [szp] at hs
    refine ⟨_,szp (todo++(kids p1).zip (kids p2)),by rw [u4v];omega,by simp [i0,i1,p_are_alike_here _ _ ok.1 ok.2,hh,p_children_of,zipN,zip2,rowOf,u8F];rw [if_pos (Nat.le_trans (show _≤20000 by rw [u8G,u8G];omega) (by decide))],todo++(kids p1).zip (kids p2),_,by simp [prs_app];exact rfl,?_,fun p m=>?_,rfl,by rw [u4v];omega⟩
    ·rw [hab]
     constructor
     ·intro h p m
      rcases List.mem_append.mp m with m | m
      ·exact h p (by simp [m])
      ·exact hk.mp (h (p1,p2) (by simp)) p m
     ·intro h p m
      rcases List.mem_append.mp m with m | m
      ·exact h p (by simp [m])
      ·obtain rfl:=List.mem_singleton.mp m
       exact hk.mpr fun p m=>h p (by simp [m])
    ·rcases List.mem_append.mp m with m | m
     ·exact hok p (by simp [m])
     ·obtain ⟨x1,x2⟩:=p
      have m:=List.of_mem_zip m
      exact ⟨ok.1.kid m.1,ok.2.kid m.2⟩
 rcases q with ⟨ρ,rfl,e⟩ | ⟨rfl,e⟩
 ·exact .inr (by simp [e])
 ·exact .inl (by simp [e])
end
noncomputable def alongN:Md→List Nat→List Md
 | m,[]=>[m]
 | m,i::is=>m::(match (kids m)[i]? with
  | some c=>alongN c is
  | none=>[])
noncomputable def atN:Md→List Nat→Md
 | m,[]=>m
 | m,i::is=>match (kids m)[i]? with
  | some c=>atN c is
  | none=>m
noncomputable def withN:Md→List Nat→Md→Md
 | _,[],o=>o
 | m,i::is,o=>match m with
  | .leaf s=>.leaf s
  | .node n cs=>match cs[i]? with
   | some c=>.node n (cs.set i (withN c is o))
   | none=>.node n cs
inductive Pth:Md→List Nat→Prop
 | nil {m:Md}:Pth m []
 | cons {m c:Md}{i:Nat}{is:List Nat} (h:(kids m)[i]?=some c) (t:Pth c is):Pth m (i::is)
abbrev pI (is:List Nat):List D:=is.map fun (i:Nat)=>.int (i:Int)
inductive NoPl (n:Nat):D→Prop
 | lo {i:Int} (h:i<0):NoPl n (.int i)
 | hi {i:Int} (h:(n:Int)≤i):NoPl n (.int i)
 | b {b:Bool}:NoPl n (.bl b)
 | s {s:Str}:NoPl n (.str s)
 | n:NoPl n .non
 | l {ds:List D}:NoPl n (.lst ds)
mutual
theorem u9k (A:Adr):∀ m,hardD (tr A m)=true
 | .leaf s=>rfl
 | .node n cs=>by
  show (true&&(hardDs (trs A cs)&&(true&&(true&&true))))=true
  rw [u4O A cs];rfl
theorem u4O (A:Adr):∀ ms,hardDs (trs A ms)=true
 | []=>rfl
 | m::ms=>by rw [trs,hardDs,u9k A m,u4O A ms];rfl
end
theorem u1N {g:D→Rho→Res Rho}{tb:Rho→Out} (S:List D→Rho→Prop) (Q:Out→Prop) (nil:∀ ρ,S [] ρ→Q (.nx ρ))
  (cons:∀ d ds ρ,S (d::ds) ρ→∃ ρ1,g d ρ=.ok ρ1∧((∃ ρ2,tb ρ1=.nx ρ2∧S ds ρ2)∨(∃ v,tb ρ1=.rt v∧Q (.rt v))∨∃ x ρ2,tb ρ1=.er x ρ2∧Q (.er x ρ2))):∀ ds ρ,S ds ρ→Q (forD g tb ds ρ)
 | [],ρ,h=>nil ρ h
 | d::ds,ρ,h=>by
  obtain ⟨ρ1,e,k⟩:=cons d ds ρ h
  simp only [forD,e,u3D,go_ok]
  rcases k with ⟨ρ2,k1,k2⟩ | ⟨v,k1,k2⟩ | ⟨x,ρ2,k1,k2⟩
  ·rw [k1];exact u1N S Q nil cons ds ρ2 k2
  ·rw [k1];exact k2
  ·rw [k1];exact k2
noncomputable def isV0:Option Sl→Bool
 | some (.own _)=>false
 | _=>true
theorem own5 {a b c d:D}{l:List D}{x:Option Sl} (h:isV0 x=true):ownL [some (.val a),some (.val b),some (.own (.l l)),some (.val d),x]=true:=by
 unfold ownL
 match x,h with
 | none,_=>rfl
 | some (.val _),_=>rfl
theorem ng:dNeg (.int 1)=.ok (.int (-1)):=rfl
theorem v0H (ds:List D):gLen [.tup ds]=.ok (.int ds.length):=rfl
theorem u1M (l:List D) (x:D):dIx (.lst (l++[x])) (.int (-1))=.ok x:=by
 show (match atI (l++[x]) (-1) with | some d=>Res.ok d | none=>.bad)=_
 have:atI (l++[x]) (-1)=some x:=by
  unfold atI ixN
  rw [if_neg (by omega),if_pos (by simp;omega)]
  simp
  rw [show (-1+((l.length:Int)+1)).toNat=l.length by omega]
  simp
 rw [this]
theorem ix_t (A:Adr) {ms:List Md}{i:Nat}{c:Md} (h:ms[i]?=some c):dIx (.tup (trs A ms)) (.int (i:Int))=.ok (tr A c):=by
 have hl:=(List.getElem?_eq_some_iff.mp h).1
 show (match atI (trs A ms) (i:Int) with | some d=>Res.ok d | none=>.bad)=_
 have:atI (trs A ms) (i:Int)=some (tr A c):=by
  unfold atI ixN
  rw [if_pos (by omega),if_pos (by rw [u0E];omega)]
  simp [u2b,h]
 rw [this]
theorem u5Z:∀ (m:Md) (is:List Nat),(alongN m is).length≤is.length+1
 | m,[]=>by simp [alongN]
 | m,i::is=>by
  unfold alongN
  cases h:(kids m)[i]? with
  | none=>simp
  | some c=>have:=u5Z c is;simp;omega
section
variable {P:Program}{w:World}{K:W.Frag}{mg:MG}{base:Heap}{f:Addr}{fd:FuncData}{A:Adr}
structure Along (A:Adr) (G:FD):Prop where
 ok:∀ m is,Pth m is→is.length≤1000→G [tr A m,.lst (pI is)]=.ok (.lst (trs A (alongN m is)))
 no:∀ m is x,Pth m is→is.length≤1000→NoPl (kids (atN m is)).length x→G [tr A m,.lst (pI is++[x])]=.err (.exc A.NoPlace [("place",.lst (pI is++[x]))])
 nl:∀ m d,gIsA [d,.ty "list"]=.ok (.bl false)→G [tr A m,d]=.err (.exc A.NoPlace [("place",d)])
theorem u4q {A:Adr}:∀ {m:Md}{is:List Nat},Pth m is→∃ l,alongN m is=l++[atN m is]
 | m,[],_=>⟨[],rfl⟩
 | m,i::is,.cons h t=>by
  obtain ⟨l,e⟩:=u4q (A:=A) t
  exact ⟨m::l,by simp [alongN,atN,h,e]⟩
noncomputable def upN:Md→List Nat→List (Md×Nat)
 | _,[]=>[]
 | m,i::is=>match (kids m)[i]? with
  | some c=>upN c is++[(m,i)]
  | none=>[]
theorem v1f (A:Adr):∀ {m:Md}{is:List Nat},Pth m is→(zipL (trs A (alongN m is)) (pI is)).reverse=(upN m is).map fun p=>.tup [tr A p.1,.int (p.2:Int)]
 | m,[],_=>by simp [zipL,alongN,upN,trs]
 | m,i::is,.cons (c:=c) h t=>by
  have ih:=v1f A t
  unfold zipL at ih ⊢
  simp [alongN,h,trs,upN] at ih ⊢
  exact ih
theorem u3Z {G_is_whole:FD} (c_is_whole:Callee P w K mg base 1 "is_whole" ["thing"] (spF K G_is_whole)) {G_children_of:FD} (c_children_of:Callee P w K mg base 2 "children_of" ["tree"] (spF K G_children_of)) (x_NoPlace:XCalleeF P w K mg base 1 "NoPlace" A.NoPlace ["self","place"] ["place"]) (p_is_whole:Whole G_is_whole) (p_children_of:∀ m,G_children_of [tr A m]=.ok (.tup (trs A (kids m)))) (F:Fun K "trees_along" "trees_along" u1t f fd) (T:Txt K mg A):∃ G,FnOk P w K mg base (CXe P w) 3 f fd ["tree","path"] (spX K G)∧(∀ m is tl,Pth m is→is.length≤1000→(tl=[]∨∃ x,tl=[x]∧NoPl (kids (atN m is)).length x)→G [tr A m,.lst (pI is++tl)]=match tl with | []=>.ok (.lst (trs A (alongN m is))) | _::_=>.err (.exc A.NoPlace [("place",.lst (pI is++tl))]))∧(∀ m d,gIsA [d,.ty "list"]=.ok (.bl false)→G [tr A m,d]=.err (.exc A.NoPlace [("place",d)])):=by
 refine ⟨_,F.okTX (k:=2) u0Q (fun cdv Ar outer s H E hr hq=>u0c (u0C (u0y (u0n (d_B u1Q T.z_isinstance (by decide +kernel) (u0a (dv 1) (u0a (d_ty T.z_list (T:="list") (by decide +kernel)) u0b))))) (u0f (u7w hq rfl x_NoPlace hr (u0a (dv 1) u0b))) u0p)
  (u0c (u3a u0Q.nd (u2y (u0a (dv 0) u0b)))
  (u0c (u1D rfl (u1k (dv 1)) (dg_n u0Q.nd)
  (u0c (ds_n u0Q.nd (DE.hard (d_fn c_children_of hr (u0a (d_ix x_ix (dv 2) (d_un u_neg u0d)) u0b))))
   (u0c (u0C (dt_w (u1e (u0y (u0n (d_fn c_is_whole hr (u0a (dv 3) u0b)))) (u0Z (u0y (v0W o_le o_lt u0d (dv 3) (d_B u3h T.z_len (by decide +kernel) (u0a (dv 4) u0b))))))) (u0f (u7w hq rfl x_NoPlace hr (u0a (dv 1) u0b))) u0p)
   (u0f (u9B 2 (d_ix x_ix (dv 4) (dv 3)))))) hq.ps)
  (u0f (u0i (dv 2)))))),?_⟩
 constructor
 ·intro m is tl hp hl ht
  generalize hP:D.lst (pI is++tl)=path
  have hg:gIsA [path,.ty "list"]=.ok (.bl true):=by rw [← hP];rfl
  have hi:items path=.ok (pI is++tl):=by rw [← hP];rfl
  simp [runX,startD,hg,hi]
  generalize hI:forD _ _ _ _=o
  have q:(tl=[]∧∃ ρ,o=.nx ρ∧ρ[2]?=some (some (.own (.l (trs A (alongN m is))))))∨(tl≠[]∧∃ ρ,o=.er (.exc A.NoPlace [("place",path)]) ρ):=by
   rw [← hI]
   refine u1N (S:=fun ds ρ=>∃ al m' js x1 x2,ρ=[some (.val (tr A m)),some (.val path),some (.own (.l (trs A al++[tr A m']))),x1,x2]∧isV0 x2=true∧ds=pI js++tl∧Pth m' js∧al++alongN m' js=alongN m is∧atN m' js=atN m is)
    (Q:=fun o=>(tl=[]∧∃ ρ,o=.nx ρ∧ρ[2]?=some (some (.own (.l (trs A (alongN m is))))))∨(tl≠[]∧∃ ρ,o=.er (.exc A.NoPlace [("place",path)]) ρ)) ?_ ?_ _ _ ⟨[],m,is,none,none,rfl,rfl,rfl,hp,rfl,rfl⟩
   ·rintro ρ ⟨al,m',js,x1,x2,rfl,hx2,e,hj,ha,hat⟩
    obtain ⟨e1,e2⟩:=List.append_eq_nil_iff.mp e.symm
    obtain rfl:js=[]:=by simpa using e1
    refine .inl ⟨e2,_,rfl,?_⟩
    rw [← ha]
    simp [alongN,u4t,trs]
   ·rintro d ds ρ ⟨al,m',js,x1,x2,rfl,hx2,e,hj,ha,hat⟩
    refine ⟨_,rfl,?_⟩
    have hh:hardC [some (.val (tr A m)),some (.val path),some (.own (.l (trs A al++[tr A m']))),some (.val d),x2] (.tup (trs A (kids m')))=.ok (.tup (trs A (kids m'))):=by
     unfold hardC
     rw [if_pos ⟨own5 (c:=.non) hx2,u4O A _⟩]
    have hal:al.length≤1001:=by
     have h1:=u5Z m is
     rw [← ha] at h1
     simp at h1
     omega
    have hal2:al.length+1<sizeLine:=Nat.lt_of_le_of_lt (show _≤2000 by omega) (by decide)
    cases hj with
    | nil =>
     rcases ht with rfl | ⟨x,rfl,hx⟩
     ·simp at e
     ·obtain ⟨rfl,rfl⟩:d=x∧ds=[]:=by simpa using e
      rw [← hat] at hx
      cases hx with
      | lo h=>exact .inr (.inr ⟨_,_,by simp [ng,u1M,p_children_of,hh,p_is_whole.i,v0H,u0E,Int.not_le.mpr h];rfl,.inr ⟨by simp,_,rfl⟩⟩)
      | @hi i h =>
       have h:((kids m').length:Int)≤i:=h
       have h0:(0:Int)≤i:=by omega
       exact .inr (.inr ⟨_,_,by simp [ng,u1M,p_children_of,hh,p_is_whole.i,v0H,u0E,h0,h];rfl,.inr ⟨by simp,_,rfl⟩⟩)
      | b=>exact .inr (.inr ⟨_,_,by simp [ng,u1M,p_children_of,hh,p_is_whole.b];rfl,.inr ⟨by simp,_,rfl⟩⟩)
      | s=>exact .inr (.inr ⟨_,_,by simp [ng,u1M,p_children_of,hh,p_is_whole.s];rfl,.inr ⟨by simp,_,rfl⟩⟩)
      | n=>exact .inr (.inr ⟨_,_,by simp [ng,u1M,p_children_of,hh,p_is_whole.n];rfl,.inr ⟨by simp,_,rfl⟩⟩)
      | l=>exact .inr (.inr ⟨_,_,by simp [ng,u1M,p_children_of,hh,p_is_whole.l];rfl,.inr ⟨by simp,_,rfl⟩⟩)
    | @cons _ c j js h t =>
     obtain ⟨rfl,rfl⟩:d=.int (j:Int)∧ds=pI js++tl:=by simpa using e
     have hc:((j:Int)<((kids m').length:Int)):=by
      have:=(List.getElem?_eq_some_iff.mp h).1
      omega
     refine .inl ⟨_,by simp [ng,u1M,p_children_of,hh,p_is_whole.i,v0H,u0E,hc,ix_t A h,hal2];rfl,al++[m'],c,js,_,_,by simp [u4t,trs];exact ⟨rfl,rfl⟩,rfl,rfl,t,?_,?_⟩
     ·rw [← ha];simp [alongN,h]
     ·rw [← hat];simp [atN,h]
  rcases q with ⟨rfl,ρ,rfl,e⟩ | ⟨hn,ρ,rfl⟩
  ·have:getV (frz ρ) 2=.ok (.lst (trs A (alongN m is))):=by
    unfold getV frz
    rw [List.getElem?_map,e]
    rfl
   simp [this]
  ·cases tl with
   | nil=>exact absurd rfl hn
   | cons y tl=>simp
 ·intro m d h
  simp [runX,startD,h]
theorem v0k {G:FD} (h:(∀ m is tl,Pth m is→is.length≤1000→(tl=[]∨∃ x,tl=[x]∧NoPl (kids (atN m is)).length x)→G [tr A m,.lst (pI is++tl)]=match tl with | []=>.ok (.lst (trs A (alongN m is))) | _::_=>.err (.exc A.NoPlace [("place",.lst (pI is++tl))]))∧(∀ m d,gIsA [d,.ty "list"]=.ok (.bl false)→G [tr A m,d]=.err (.exc A.NoPlace [("place",d)]))):Along A G where
 ok m is p l:=by have:=h.1 m is [] p l (.inl rfl);simpa using this
 no m is x p l n:=h.1 m is [x] p l (.inr ⟨x,rfl,n⟩)
 nl:=h.2
theorem u4k {G_trees_along:FD} (c_trees_along:CalleeX P w K mg base 3 "trees_along" ["tree","path"] G_trees_along) (p_trees_along:Along A G_trees_along) (F:Fun K "at" "Tree.at" u1u f fd) (T:Txt K mg A):∃ G,FnOk P w K mg base (CXe P w) 4 f fd ["self","path"] (spX K G)∧(∀ m is,Pth m is→is.length≤1000→G [tr A m,.lst (pI is)]=.ok (tr A (atN m is)))∧(∀ m is x,Pth m is→is.length≤1000→NoPl (kids (atN m is)).length x→G [tr A m,.lst (pI is++[x])]=.err (.exc A.NoPlace [("place",.lst (pI is++[x]))]))∧(∀ m d,gIsA [d,.ty "list"]=.ok (.bl false)→G [tr A m,d]=.err (.exc A.NoPlace [("place",d)])):=by
 refine ⟨_,F.okTX (k:=3) u5g (fun cdv Ar outer s H E hr hq=>u0f (u0i (d_ix x_ix (u2V hq c_trees_along hr (u0a (dv 0) (u0a (dv 1) u0b))) (d_un u_neg u0d)))),?_⟩
 refine ⟨fun m is p l=>?_,fun m is x p l n=>?_,fun m d h=>?_⟩
 ·obtain ⟨z,e⟩:=u4q (A:=A) p
  simp [runX,startD,p_trees_along.ok m is p l,e,u4t,trs,ng,u1M]
 ·simp [runX,startD,p_trees_along.no m is x p l n]
 ·simp [runX,startD,p_trees_along.nl m d h]
theorem v1H {α:Type} (l:List α) (i:Nat):cutC l none (some (i:Int))=l.take i:=by
 unfold cutC
 rw [HT.sIx_none,HT.sIx_nat]
 simp
theorem u7C {α:Type} (l:List α) (i:Nat):cutC l (some (i:Int)) none=l.drop i:=by
 unfold cutC
 rw [HT.sIx_none,HT.sIx_nat]
 by_cases h:i≤l.length
 ·rw [Nat.min_eq_left h,List.take_of_length_le (by simp)]
 ·rw [Nat.min_eq_right (by omega),List.drop_of_length_le (by omega:l.length≤i)]
  simp
theorem sl_lo {l:List D}{i:Nat} (h:i<l.length):dSl (.tup l) none (some (i:Int))=.ok (.tup (l.take i)):=by
 show (if HT.sIx l.length 0 none=0∧HT.sIx l.length l.length (some (i:Int))=l.length then Res.bad else Res.ok (D.tup (cutC _ _ _)))=_
 rw [if_neg (by rw [HT.sIx_nat];omega),v1H]
theorem sl_hi {l:List D}{i:Nat} (h:0<l.length):dSl (.tup l) (some ((i+1:Nat):Int)) none=.ok (.tup (l.drop (i+1))):=by
 show (if HT.sIx l.length 0 (some ((i+1:Nat):Int))=0∧HT.sIx l.length l.length none=l.length then Res.bad else Res.ok (D.tup (cutC _ _ _)))=_
 rw [if_neg (by rw [HT.sIx_nat];omega),u7C]
theorem u5f {α:Type}:∀ {l:List α}{i:Nat}{x:α},i<l.length→l.take i++[x]++l.drop (i+1)=l.set i x
 | [],_,_,h=>by simp at h
 | y::l,0,x,_=>by simp
 | y::l,i+1,x,h=>by
  have:=u5f (l:=l) (i:=i) (x:=x) (by simpa using h)
  simp at this ⊢
  exact this
noncomputable def upW:List (Md×Nat)→Md→Md
 | [],o=>o
 | (m,i)::r,o=>match m with
  | .leaf s=>upW r (.leaf s)
  | .node n cs=>upW r (.node n (cs.set i o))
theorem u6d:∀ (a b:List (Md×Nat)) (o:Md),upW (a++b) o=upW b (upW a o)
 | [],b,o=>rfl
 | (m,i)::a,b,o=>by
  cases m with
  | leaf s=>exact u6d a b _
  | node n cs=>exact u6d a b _
theorem u8o:∀ {m:Md}{is:List Nat},Pth m is→∀ o,upW (upN m is) o=withN m is o
 | m,[],_,o=>rfl
 | .leaf s,i::is,.cons h t,o=>by simp [kids] at h
 | .node n cs,i::is,.cons (c:=c) h t,o=>by
  have h':cs[i]?=some c:=h
  have:=u8o t o
  simp [upN,kids,h',withN,u6d,this,upW]
def UpOk (l:List (Md×Nat)):Prop:=∀ p∈l,∃ n cs,p.1=.node n cs∧p.2<cs.length∧cs.length≤1000
theorem up_ok:∀ {m:Md}{is:List Nat},Pth m is→Ok m→UpOk (upN m is)
 | m,[],_,_=>fun p h=>by simp [upN] at h
 | .leaf s,i::is,.cons h t,_=>by simp [kids] at h
 | .node n cs,i::is,.cons (c:=c) h t,k=>fun p m=>by
  have h':cs[i]?=some c:=h
  cases k with
  | node h0 h1 hl hc =>
   simp [upN,kids,h'] at m
   rcases m with m | rfl
   ·exact up_ok t (hc c (List.mem_of_getElem? h')) p m
   ·exact ⟨n,cs,rfl,(List.getElem?_eq_some_iff.mp h').1,hl⟩
theorem trs_set (A:Adr) (cs:List Md) (i:Nat) (o:Md):(trs A cs).set i (tr A o)=trs A (cs.set i o):=by simp [u2b,List.map_set]
theorem u3e {G_trees_along:FD} (c_trees_along:CalleeX P w K mg base 3 "trees_along" ["tree","path"] G_trees_along) (p_trees_along:Along A G_trees_along) (F:Fun K "nodes_upwards" "nodes_upwards" u1b f fd) (T:Txt K mg A):∃ G,FnOk P w K mg base (CXe P w) 4 f fd ["tree","path"] (spX K G)∧(∀ m is,Pth m is→is.length≤1000→G [tr A m,.lst (pI is)]=.ok (.lst ((upN m is).map fun p=>.tup [tr A p.1,.int (p.2:Int)])))∧(∀ m is x,Pth m is→is.length≤1000→NoPl (kids (atN m is)).length x→G [tr A m,.lst (pI is++[x])]=.err (.exc A.NoPlace [("place",.lst (pI is++[x]))]))∧(∀ m d,gIsA [d,.ty "list"]=.ok (.bl false)→G [tr A m,d]=.err (.exc A.NoPlace [("place",d)])):=by
 refine ⟨_,F.okTX (k:=3) u3d (fun cdv Ar outer s H E hr hq=>u0f (u0i (DN.de (v1E rfl T.z_list T.z_reversed (u0a (DN.de (v1D rfl T.z_list T.z_zip (u0a (u2V hq c_trees_along hr (u0a (dv 0) (u0a (dv 1) u0b))) (u0a (dv 1) u0b)))) u0b))))),?_⟩
 refine ⟨fun m is p l=>?_,fun m is x p l n=>?_,fun m d h=>?_⟩
 ·simp [runX,startD,p_trees_along.ok m is p l,zipN,zip2,rowOf,revN]
  exact v1f A p
 ·simp [runX,startD,p_trees_along.no m is x p l n]
 ·simp [runX,startD,p_trees_along.nl m d h]
theorem u8H {G_nodes_upwards:FD} (c_nodes_upwards:CalleeX P w K mg base 4 "nodes_upwards" ["tree","path"] G_nodes_upwards) {g_Node:List D→Res (List (Str×D))} (k_Node:KCalleeF P w K mg base 2 "Node" A.Node ["self","number","children"] g_Node) (p_nodes_upwards:(∀ m is,Pth m is→is.length≤1000→G_nodes_upwards [tr A m,.lst (pI is)]=.ok (.lst ((upN m is).map fun p=>.tup [tr A p.1,.int (p.2:Int)])))∧(∀ m is x,Pth m is→is.length≤1000→NoPl (kids (atN m is)).length x→G_nodes_upwards [tr A m,.lst (pI is++[x])]=.err (.exc A.NoPlace [("place",.lst (pI is++[x]))]))∧(∀ m d,gIsA [d,.ty "list"]=.ok (.bl false)→G_nodes_upwards [tr A m,d]=.err (.exc A.NoPlace [("place",d)]))) (p_Node:∀ (n:Int) (ms:List Md),ms.length≤1000→∀ {c:D},rowOf c=some (trs A ms)→g_Node [.int n,c]=.ok [("number",.int n),("children",.tup (trs A ms)),("tree_size",.int (1+szs ms)),("tree_depth",.int (1+dps ms))]) (F:Fun K "put_in" "put_in" u4z f fd) (T:Txt K mg A):∃ G,FnOk P w K mg base (CXe P w) 5 f fd ["tree","path","other"] (spX K G)∧(∀ m is o,Pth m is→is.length≤1000→Ok m→G [tr A m,.lst (pI is),tr A o]=.ok (tr A (withN m is o)))∧(∀ m is x o,Pth m is→is.length≤1000→NoPl (kids (atN m is)).length x→G [tr A m,.lst (pI is++[x]),o]=.err (.exc A.NoPlace [("place",.lst (pI is++[x]))]))∧(∀ m d o,gIsA [d,.ty "list"]=.ok (.bl false)→G [tr A m,d,o]=.err (.exc A.NoPlace [("place",d)])):=by
 refine ⟨_,F.okTX (k:=4) u1J (fun cdv Ar outer s H E hr hq=>u0c (ds_n u1J.nd (dv 2))
  (u0c (u1D rfl (u1k (u2V hq c_nodes_upwards hr (u0a (dv 0) (u0a (dv 1) u0b)))) (u3Q (n:=2) rfl (u0t (dg_n u1J.nd) (u0t (dg_n u1J.nd) u2k)))
  (u0f (ds_n u1J.nd (u0P k_Node hr (u0a (u0O T.f_number (dv 4)) (u0a (d_op u8V (d_op u8V (d_sl (u0O T.f_children (dv 4)) u2U (u2T (dv 5))) (u1G (u0a (dv 3) u0b))) (d_sl (u0O T.f_children (dv 4)) (u2T (d_op u8V (dv 5) u0d)) u2U)) u0b))))) hq.ps)
  (u0f (u0i (dv 3))))),?_⟩
 refine ⟨fun m is o p l k=>?_,fun m is x o p l n=>?_,fun m d o h=>?_⟩
 ·simp [runX,startD,p_nodes_upwards.1 m is p l,u1d]
  generalize hI:forD _ _ _ _=u
  have q:∃ ρ,u=.nx ρ∧ρ[3]?=some (some (.val (tr A (withN m is o)))):=by
   rw [← hI]
   refine u1N (S:=fun ds ρ=>∃ l o' x1 x2,ρ=[some (.val (tr A m)),some (.val (.lst (pI is))),some (.val (tr A o)),some (.val (tr A o')),x1,x2]∧ds=l.map (fun p=>.tup [tr A p.1,.int (p.2:Int)])∧UpOk l∧upW l o'=withN m is o)
    (Q:=fun u=>∃ ρ,u=.nx ρ∧ρ[3]?=some (some (.val (tr A (withN m is o))))) ?_ ?_ _ _ ⟨upN m is,o,none,none,rfl,rfl,up_ok p k,u8o p o⟩
   ·rintro ρ ⟨l,o',x1,x2,rfl,e,_,ew⟩
    obtain rfl:l=[]:=by simpa using e.symm
    exact ⟨_,rfl,by rw [← ew];rfl⟩
   ·rintro d ds ρ ⟨l,o',x1,x2,rfl,e,hu,ew⟩
    cases l with
    | nil=>simp at e
    | cons p l =>
     obtain ⟨rfl,rfl⟩:d=.tup [tr A p.1,.int (p.2:Int)]∧ds=l.map (fun p=>.tup [tr A p.1,.int (p.2:Int)]):=by simpa using e
     obtain ⟨n,cs,e1,e2,e3⟩:=hu p List.mem_cons_self
     obtain ⟨p1,i⟩:=p
     subst e1
     have e2:i<cs.length:=e2
     refine ⟨_,rfl,.inl ?_⟩
     have s1:dSl (.tup (trs A cs)) none (some (i:Int))=.ok (.tup ((trs A cs).take i)):=sl_lo (by rw [u0E];exact e2)
     have s2:dSl (.tup (trs A cs)) (some ((i:Int)+1)) none=.ok (.tup ((trs A cs).drop (i+1))):=sl_hi (by rw [u0E];omega)
     have a1:dAddU (.tup ((trs A cs).take i)) (.tup [tr A o'])=.ok (.tup ((trs A cs).take i++[tr A o'])):=u0F (Nat.le_trans (show _≤2000 by simp [u0E];omega) (by decide))
     have a2:dAddU (.tup ((trs A cs).take i++[tr A o'])) (.tup ((trs A cs).drop (i+1)))=.ok (.tup (trs A (cs.set i o'))):=by
      rw [← trs_set,← u5f (by rw [u0E];exact e2)]
      exact u0F (Nat.le_trans (show _≤2000 by simp [u0E];omega) (by decide))
     have a3:dAddU (.int (i:Int)) (.int 1)=.ok (.int ((i:Int)+1)):=rfl
     have g1:=p_Node n (cs.set i o') (by simpa using e3) (c:=.tup (trs A (cs.set i o'))) rfl
     refine ⟨_,by simp [u1W,u0L,s1,s2,a1,a2,a3,g1,asI];exact ⟨rfl,rfl,rfl⟩,l,.node n (cs.set i o'),_,_,rfl,rfl,fun p m=>hu p (List.mem_cons_of_mem _ m),ew⟩
  obtain ⟨ρ,rfl,e⟩:=q
  have:getV (frz ρ) 3=.ok (tr A (withN m is o)):=by unfold getV frz;rw [List.getElem?_map,e];rfl
  simp [this]
 ·simp [runX,startD,p_nodes_upwards.2.1 m is x p l n]
 ·simp [runX,startD,p_nodes_upwards.2.2 m d h]
end
theorem u7Z {l:List D}{i:Nat}{d:D} (h:l[i]?=some d):dIx (.lst l) (.int (i:Int))=.ok d:=by
 have hl:=(List.getElem?_eq_some_iff.mp h).1
 show (match atI l (i:Int) with | some d=>Res.ok d | none=>.bad)=_
 have:atI l (i:Int)=some d:=by
  unfold atI ixN
  rw [if_pos (by omega),if_pos (by omega)]
  simpa using h
 rw [this]
abbrev dN (n:Nat):D:=.int (n:Int)
theorem u9i (k m:Nat):intL (k:Int) (m+1)=dN k::intL ((k+1:Nat):Int) m:=by
 simp [intL,List.range_succ_eq_map,Function.comp_def,dN]
 intro a _
 omega
theorem u5J {g:D→Rho→Res Rho}{tb:Rho→Out} (n:Nat) (S:Nat→Rho→Prop) (Q:Out→Prop) (nil:∀ ρ,S n ρ→Q (.nx ρ))
  (cons:∀ k ρ,k<n→S k ρ→∃ ρ1,g (dN k) ρ=.ok ρ1∧((∃ ρ2,tb ρ1=.nx ρ2∧S (k+1) ρ2)∨∃ v,tb ρ1=.rt v∧Q (.rt v))):∀ m k ρ,k+m=n→S k ρ→Q (forD g tb (intL (k:Int) m) ρ)
 | 0,k,ρ,e,h=>by subst e;exact nil ρ h
 | m+1,k,ρ,e,h=>by
  rw [u9i]
  obtain ⟨ρ1,e1,z⟩:=cons k ρ (by omega) h
  simp only [forD,e1,u3D,go_ok]
  rcases z with ⟨ρ2,k1,k2⟩ | ⟨v,k1,k2⟩
  ·rw [k1];exact u5J n S Q nil cons m (k+1) ρ2 (by omega) k2
  ·rw [k1];exact k2
theorem v0S {g:D→Rho→Res Rho}{tb:Rho→Out}{n:Nat} (S:Nat→Rho→Prop) (Q:Out→Prop) {ρ:Rho} (h0:S 0 ρ) (nil:∀ ρ,S n ρ→Q (.nx ρ))
  (cons:∀ k ρ,k<n→S k ρ→∃ ρ1,g (dN k) ρ=.ok ρ1∧((∃ ρ2,tb ρ1=.nx ρ2∧S (k+1) ρ2)∨∃ v,tb ρ1=.rt v∧Q (.rt v))):Q (forD g tb (intL 0 n) ρ) :=
 u5J n S Q nil cons n 0 ρ (by omega) h0
theorem u7r (n:Nat):(intL 0 n).length=n:=by simp [intL]
theorem ix_m {α:Type}{c:α→D}{rs:List α}{i:Nat} (h:i<rs.length):dIx (.lst (rs.map c)) (.int (i:Int))=.ok (c rs[i]):=u7Z (by rw [List.getElem?_map,List.getElem?_eq_getElem h];rfl)
theorem u6E (x y:D) (l:List D):dIx (.lst (x::y::l)) (.int 1)=.ok y:=u7Z (i:=1) rfl
theorem u6D (x y z:D) (l:List D):dIx (.lst (x::y::z::l)) (.int 2)=.ok z:=u7Z (i:=2) rfl
theorem modI (a:Int) {b:Nat} (h:0<b):∃ m:Nat,a%(b:Int)=(m:Int)∧m<b:=by
 have h1:=Int.emod_nonneg a (show (b:Int)≠0 by omega)
 have h2:=Int.emod_lt_of_pos a (show (0:Int)<(b:Int) by omega)
 exact ⟨(a%b).toNat,by omega,by omega⟩
theorem modZ (a:Int) {b:Int} (h:0<b):∃ m:Nat,a%b=(m:Int)∧(m:Int)<b:=by
 have h1:=Int.emod_nonneg a (show b≠0 by omega)
 have h2:=Int.emod_lt_of_pos a h
 exact ⟨(a%b).toNat,by omega,by omega⟩
@[simp] theorem u0o (i j:Int):dMulX (.int i) (.int j)=gd (CMul i j) (.ok (.int (i*j))):=Eq.trans rfl rfl
@[simp] theorem add_ii (i j:Int):dAdd (.int i) (.int j)=.ok (.int (i+j)):=Eq.trans rfl rfl
theorem u1c {i j:Int} (h:0<j):dMod (.int i) (.int j)=.ok (.int (i%j)):=if_pos h
theorem u9E {i j:Int} (h:0<j) (h2:j<2^64):dDiv (.int i) (.int j)=.ok (.int (i / j)):=if_pos ⟨h,h2⟩
theorem rng_n {n:Nat} (h:n≤1000):rng1 [.int (n:Int)]=.ok (intL 0 n):=by
 show gd _ _=_
 rw [u0F (by omega),Int.toNat_natCast]
theorem bindN {α β:Type} (a:α) (f:α→Res β):(Res.ok a).bind f=f a:=Eq.trans rfl rfl
theorem goN {α:Type} (a:α) (ρ:Rho) (k:α→Out):(Res.ok a).go ρ k=k a:=Eq.trans rfl rfl
theorem thenN (ρ:Rho) (f:Rho→Out):(Out.nx ρ).andThen f=f ρ:=Eq.trans rfl rfl
theorem thenMN (ρ:Rho) (g:Rho→OutM):thenM (.nx ρ) g=g ρ:=Eq.trans rfl rfl
theorem gmN {α:Type} (a:α) (k:α→OutM):(Res.ok a).gm k=k a:=Eq.trans rfl rfl
theorem u2w (x:D) (l:List D):dIx (.lst (x::l)) (.int 0)=.ok x:=u7Z (i:=0) rfl
theorem skolem {α β:Type} [Inhabited β] {P:α→Prop}{Q:α→β→Prop} (h:∀ x,P x→∃ y,Q x y):∃ f:α→β,∀ x,P x→Q x (f x):=by
 classical
 refine ⟨fun x=>if h':∃ y,Q x y then h'.choose else default,fun x px=>?_⟩
 have h':=h x px
 simp only [dif_pos h']
 exact h'.choose_spec
abbrev scr (ns:List Int):D:=.lst (ns.map D.int)
@[simp] theorem toD_p (a:Addr) (o:OD):(OD.p a o).toD=o.toD:=rfl
@[simp] theorem getP_zero (a:Addr) (ds:List D) (ρ:Rho):getP (some (.own (.p a (.l ds)))::ρ) 0=.ok (a,ds):=rfl
abbrev stm (a c:Int) (k:Nat):OD:=.l [.int a,.int c,dN k]
def Draw (G:List Sl→Res (D×List Sl)):Prop:=∀ (a c:Int) (k b:Nat),0<b→b<1000→k<1000→∃ (m:Nat) (a':Int),m<b∧G [.own (stm a c k),.val (dN b)]=.ok (dN m,[.own (stm a' c (k+1)),.val (dN b)])
noncomputable def SIGNS:List Str:=["a","b","+","*","(",")","id","0","12","[]","<=","z9z9z9","?","if"]
theorem u6T:∀ x∈SIGNS,PyData.strOk x=true∧x.length≤1000:=by decide +kernel
def Sign (G:List Sl→Res (D×List Sl)):Prop:=∀ (a c:Int) (k:Nat),k<1000→∃ (s:Str) (a':Int),s∈SIGNS∧G [.own (stm a c k)]=.ok (.str s,[.own (stm a' c (k+1))])
section
variable {P:Program}{w:World}{K:W.Frag}{mg:MG}{base:Heap}{f:Addr}{fd:FuncData}{A:Adr}
theorem u6s (F:Fun K "_law_stir" "_law_stir" u2K f fd) (T:Txt K mg A):∃ G,FnOk P w K mg base CX0 1 f fd ["_law_cell_here","_law_k"] (spF K G)∧∀ (c:Int) (k:Nat),k≤1000→∃ n:Int,G [.int c,dN k]=.ok (.int n):=by
 refine ⟨_,F.okT (k:=0) u2c (fun cdv Ar outer s H E hr=>u0c (ds_n u2c.nd (d_op u1X (d_op u1f (d_op u1f (d_op u2a (d_op u1X (dv 0) u0d) u0d) (d_op u2a u0d (dv 1))) u0d) u0d))
  (u0c (ds_n u2c.nd (d_op u1X (d_op u2a (dv 2) (dv 2)) u0d))
  (u0f (u0i (d_op u1X (d_op u1f (d_op u1f (d_op u2a (dv 2) (dv 2)) (d_op u2a u0d (dv 2))) u0d) u0d))))),?_⟩
 intro c k hk
 obtain ⟨m,e,hm⟩:=modZ c (b:=2147483647) (by omega)
 obtain ⟨m2,e2,hm2⟩:=modZ ((m:Int)*48271+69621*(k:Int)+7) (b:=2147483647) (by omega)
 obtain ⟨m3,e3,hm3⟩:=modZ ((m2:Int)*m2) (b:=2147483629) (by omega)
 have c1:CMul (m:Int) 48271:=.inr ⟨by omega,by omega⟩
 have c2:CMul 69621 (k:Int):=.inl ⟨by omega,by omega⟩
 have c3:CMul (m2:Int) m2:=.inr ⟨by omega,by omega⟩
 have c4:CMul (m3:Int) m3:=.inr ⟨by omega,by omega⟩
 have c5:CMul 16807 (m3:Int):=.inl ⟨by omega,by omega⟩
 refine ⟨((m3:Int)*m3+16807*m3+11)%2147483587,?_⟩
 have r1:dMod (.int c) (.int 2147483647)=.ok (.int m):=by rw [u1c (by omega),e]
 have r2:dMod (.int ((m:Int)*48271+69621*(k:Int)+7)) (.int 2147483647)=.ok (.int m2):=by rw [u1c (by omega),e2]
 have r3:dMod (.int ((m2:Int)*m2)) (.int 2147483629)=.ok (.int m3):=by rw [u1c (by omega),e3]
 have r4:dMod (.int ((m3:Int)*m3+16807*m3+11)) (.int 2147483587)=.ok (.int (((m3:Int)*m3+16807*m3+11)%2147483587)):=u1c (by omega)
 have s1:dMulX (.int m) (.int 48271)=.ok (.int (m*48271)):=by rw [u0o,u0F c1]
 have s2:dMulX (.int 69621) (.int k)=.ok (.int (69621*k)):=by rw [u0o,u0F c2]
 have s3:dMulX (.int m2) (.int m2)=.ok (.int (m2*m2)):=by rw [u0o,u0F c3]
 have s4:dMulX (.int m3) (.int m3)=.ok (.int (m3*m3)):=by rw [u0o,u0F c4]
 have s5:dMulX (.int 16807) (.int m3)=.ok (.int (16807*m3)):=by rw [u0o,u0F c5]
 simp [runT,startD,r1,r2,r3,r4,s1,s2,s3,s4,s5,-u1n,-u0o,-Res.bind_ok,-L2.go_ok,-Out.then_nx,bindN,goN,thenN]
theorem u6w (F:Fun K "_law_cell" "_law_cell" u2N f fd) (T:Txt K mg A):∃ G,FnOk P w K mg base CX0 1 f fd ["_law_script","_law_k"] (spF K G)∧∀ (ns:List Int) (k:Nat),∃ c:Int,G [scr ns,dN k]=.ok (.int c):=by
 refine ⟨_,F.okT (k:=0) u6j (fun cdv Ar outer s H E hr=>u0c (u0C (u0r o_lt (dv 1) (d_B u3h T.z_len (by decide +kernel) (u0a (dv 0) u0b))) (u0f (u0i (d_ix x_ix (dv 0) (dv 1)))) u0p)
  (u0f (u0i u0d))),?_⟩
 intro ns k
 by_cases h:k<ns.length
 ·have h':(k:Int)<ns.length:=by omega
  exact ⟨ns[k],by simp [runT,startD,gLen,h,h',ix_m h]⟩
 ·have h':¬ (k:Int)<ns.length:=by omega
  exact ⟨0,by simp [runT,startD,gLen,h,h']⟩
theorem u4F (F:Fun K "_law_stream" "_law_stream" u1K f fd) (T:Txt K mg A):∃ G,FnOk P w K mg base (CXe P w) 1 f fd ["_law_cell_here"] (spN K G)∧∀ c:Int,G [.int c]=.ok [.int (c - 1000000000000000000),.int c,dN 0]:=by
 refine ⟨_,F.okN (k:=0) u4x (fun cdv Ar outer s H E hr hq=>dr_ret (u2y (u0a (d_op o_sub (dv 0) (d_op o_pow u0d u0d)) (u0a (dv 0) (u0a u0d u0b))))),?_⟩
 intro c
 have cp:CPow 10 18:=by decide
 have r0:dPow (.int 10) (.int 18)=.ok (.int 1000000000000000000):=by
  show gd _ _=_
  rw [u0F cp]
  rfl
 simp [L2.runN,startD,retN,r0,-u1n]
theorem u6v {G__law_stir:FD} (c__law_stir:Callee P w K mg base 1 "_law_stir" ["_law_cell_here","_law_k"] (spF K G__law_stir)) (p_stir:∀ (c:Int) (k:Nat),k≤1000→∃ n:Int,G__law_stir [.int c,dN k]=.ok (.int n)) (F:Fun K "_law_draw" "_law_draw" u2M f fd) (T:Txt K mg A):∃ G,FnOk P w K mg base CX0 2 f fd ["_law_left","_law_many"] (spM K G)∧Draw G:=by
 refine ⟨_,F.okM (k:=1) u3t (fun cdv Ar outer s H E hr=>u1P (u4S 0 u0d (d_op u1f (d_ix x_ix (dv 0) u0d) u0d))
  (dm_if (u0r o_ge (d_ix x_ix (dv 0) u0d) (d_op o_pow u0d u0d)) (u1P (ds_n u3t.nd (DE.flat (d_op u1X (d_ix x_ix (dv 0) u0d) (dv 1))))
   (u1P (u4S 0 u0d (d_op o_div (d_ix x_ix (dv 0) u0d) (dv 1)))
   (u5M (u1B (xq:=xqF) (dv 2)))))
  (u5M (u1B (xq:=xqF) (DE.flat (d_op u1X (d_op o_div (d_fn c__law_stir hr (u0a (d_ix x_ix (dv 0) u0d) (u0a (d_ix x_ix (dv 0) u0d) u0b))) u0d) (dv 1))))))),?_⟩
 intro a c k b hb hb2 hk
 have cp:CPow 10 18:=by decide
 have r0:dPow (.int 10) (.int 18)=.ok (.int 1000000000000000000):=by
  show gd _ _=_
  rw [u0F cp]
  rfl
 have hb':(0:Int)<b:=by omega
 by_cases hc:(1000000000000000000:Int)≤c
 ·obtain ⟨m,e,hm⟩:=modI a (b:=b) hb
  have r1:dMod (.int a) (.int b)=.ok (.int m):=by rw [u1c hb',e]
  have r2:dDiv (.int a) (.int b)=.ok (.int (a / b)):=by rw [u9E hb' (by omega)]
  refine ⟨m,a / b,hm,u6G fun A=>?_⟩
  simp [runM,pinS,unS,u2w,u6E,u6D,setP,ixN,flatD,flatC,hc,r0,r1,r2,-u1n]
 ·obtain ⟨t,et⟩:=p_stir c (k+1) (by omega)
  obtain ⟨m,e,hm⟩:=modI (t / 8) (b:=b) hb
  have r1:dMod (.int (t / 8)) (.int b)=.ok (.int m):=by rw [u1c hb',e]
  have r2:dDiv (.int t) (.int 8)=.ok (.int (t / 8)):=by rw [u9E (by omega) (by omega)]
  have et:G__law_stir [.int c,.int ((k:Int)+1)]=.ok (.int t):=et
  refine ⟨m,a,hm,u6G fun A=>?_⟩
  simp [runM,pinS,unS,u2w,u6E,u6D,setP,ixN,flatD,flatC,hc,r0,et,r1,r2,-u1n]
theorem u6t {g_law_draw:List Sl→Res (D×List Sl)} (c__law_draw:Callee P w K mg base 2 "_law_draw" ["_law_left","_law_many"] (spM K g_law_draw)) (p_draw:Draw g_law_draw) (F:Fun K "_law_sign" "_law_sign" u2L f fd) (T:Txt K mg A):∃ G,FnOk P w K mg base CX0 3 f fd ["_law_left"] (spM K G)∧Sign G:=by
 refine ⟨_,F.okM (k:=2) u3r (fun cdv Ar outer s H E hr=>u1P (ds_n u3r.nd (u0A (u0a u0z (u0a u0z (u0a u0z (u0a u0z (u0a u0z (u0a u0z (u0a u0z (u0a u0z (u0a u0z (u0a u0z (u0a u0z (u0a u0z (u0a u0z (u0a u0z u0b))))))))))))))))
  (u5M (x_ixX x_ix (u1B (xq:=xqF) (dv 1)) (x_fn c__law_draw hr (u2X 0 (u1r (u1B (xq:=xqF) u0d) u2m)))))),?_⟩
 intro a c k hk
 obtain ⟨m,a',hm,e⟩:=p_draw a c k 14 (by omega) (by omega) hk
 have e:g_law_draw [.own (stm a c k),.val (.int 14)]=.ok (dN m,[.own (stm a' c (k+1)),.val (.int 14)]):=e
 have ex:dIx (.lst [.str "a",.str "b",.str "+",.str "*",.str "(",.str ")",.str "id",.str "0",.str "12",.str "[]",.str "<=",.str "z9z9z9",.str "?",.str "if"]) (dN m)=.ok (.str SIGNS[m]):=u7Z (by
  rw [show ([.str "a",.str "b",.str "+",.str "*",.str "(",.str ")",.str "id",.str "0",.str "12",.str "[]",.str "<=",.str "z9z9z9",.str "?",.str "if"]:List D)=SIGNS.map D.str from rfl,List.getElem?_map,List.getElem?_eq_getElem (show m<SIGNS.length from hm)]
  rfl)
 refine ⟨SIGNS[m],a',List.getElem_mem _,u6G fun A=>?_⟩
 simp [runM,pinS,unS,u5b,isOwnR,slOf,slAll,agO,unp,putB,repO,e,ex,-u1n,-u0o,-Res.bind_ok,-L2.go_ok,-Out.then_nx,bindN,goN,thenN,-u1R,-u8b,thenMN,gmN]
end
inductive Gd:Md→Prop
 | leaf {s:Str} (h:s∈SIGNS):Gd (.leaf s)
 | node {n:Int}{cs:List Md} (h0:0≤n) (h1:n<20) (hl:cs.length≤4) (hc:∀ c∈cs,Gd c):Gd (.node n cs)
theorem Gd.ok:∀ {m:Md},Gd m→Ok m
 | _,.leaf h=>.leaf (u6T _ h).1 (u6T _ h).2
 | _,.node h0 h1 hl hc=>.node h0 (by omega) (by omega) fun c m=>(hc c m).ok
def Grow (d:Nat) (G:List Sl→Res (D×List Sl)):Prop:=∀ (a c:Int) (k r e:Nat),e<d→1≤r→k+4*r≤900→∃ (m:Md) (a':Int) (k' r':Nat),Gd m∧dp m≤e+1∧sz m+r'≤r∧k'+4*r'≤k+4*r ∧
 G [.own (stm a c k),.val (dN e),.own (.l [dN r])]=.ok (toD m,[.own (stm a' c k'),.val (dN e),.own (.l [dN r'])])
@[simp] theorem getP_succ (x:Option Sl) (ρ:Rho) (i:Nat):getP (x::ρ) (i+1)=getP ρ i:=rfl
theorem u8S (o:OD) (ρ:Rho):isOwnR (some (.own o)::ρ) 0=true:=rfl
theorem u8R (x:Option Sl) (ρ:Rho) (i:Nat):isOwnR (x::ρ) (i+1)=isOwnR ρ i:=rfl
abbrev GS:=Int×Nat×Nat
noncomputable def loopG (Gr:GS→Md×GS):Nat→GS→List Md×GS
 | 0,s=>([],s)
 | n+1,s=>if 0<s.2.2 then ((Gr s).1::(loopG Gr n (Gr s).2).1,(loopG Gr n (Gr s).2).2) else loopG Gr n s
structure GrOk (e:Nat) (Gr:GS→Md×GS):Prop where
 ok:∀ s:GS,1≤s.2.2→s.2.1+4*s.2.2≤900→Gd (Gr s).1∧dp (Gr s).1≤e+1∧sz (Gr s).1+(Gr s).2.2.2≤s.2.2∧(Gr s).2.2.1+4*(Gr s).2.2.2≤s.2.1+4*s.2.2
theorem u6z {e:Nat}{Gr:GS→Md×GS} (h:GrOk e Gr):∀ (n:Nat) (s:GS),s.2.1+4*s.2.2≤900→(∀ m∈(loopG Gr n s).1,Gd m)∧dps (loopG Gr n s).1≤e+1∧szs (loopG Gr n s).1+(loopG Gr n s).2.2.2≤s.2.2∧(loopG Gr n s).2.2.1+4*(loopG Gr n s).2.2.2≤s.2.1+4*s.2.2∧(loopG Gr n s).1.length≤n
 | 0,s,_=>by simp [loopG,dps,szs]
 | n+1,s,hs=>by
  unfold loopG
  split
  ·rename_i c
   obtain ⟨h1,h2,h3,h4⟩:=h.ok s c hs
   obtain ⟨i1,i2,i3,i4,i5⟩:=u6z h n (Gr s).2 (by omega)
   refine ⟨fun m hm=>?_,?_,?_,by dsimp only;omega,by simp;exact i5⟩
   ·rcases List.mem_cons.mp hm with rfl | hm
    ·exact h1
    ·exact i1 m hm
   ·simp only [dps];omega
   ·simp only [szs];omega
  ·obtain ⟨i1,i2,i3,i4,i5⟩:=u6z h n s hs
   exact ⟨i1,i2,i3,i4,by omega⟩
noncomputable abbrev gRho (A:Nat→Addr) (c:Int) (e:Nat) (s:GS) (cs:List Md) (num:D) (x:Option Sl):Rho:=[some (.own (.p (A 0) (stm s.1 c s.2.1))),some (.val (dN e)),some (.own (.p (A 2) (.l [dN s.2.2]))),some (.own (.l (toDs cs))),some (.val num),x]
theorem u6P (a b:List Md):toDs (a++b)=toDs a++toDs b:=by simp [u0G]
theorem u3M {g:D→Rho→Res Rho}{tb:Rho→Out}{A:Nat→Addr}{c:Int}{e:Nat}{num:D}{Gr:GS→Md×GS}{e1:Nat} (ok:GrOk e1 Gr) (hg:∀ d s cs x,g d (gRho A c e s cs num x)=.ok (gRho A c e s cs num (some (.val d))))
  (h1:∀ s cs x,0<s.2.2→s.2.1+4*s.2.2≤900→cs.length≤900→tb (gRho A c e s cs num x)=.nx (gRho A c e (Gr s).2 (cs++[(Gr s).1]) num x)) (h0:∀ s cs x,s.2.2=0→tb (gRho A c e s cs num x)=.nx (gRho A c e s cs num x)) :
  ∀ (ds:List D) (s:GS) (cs:List Md) (x:Option Sl),s.2.1+4*s.2.2≤900→cs.length+ds.length≤900→∃ x',forD g tb ds (gRho A c e s cs num x)=.nx (gRho A c e (loopG Gr ds.length s).2 (cs++(loopG Gr ds.length s).1) num x')
 | [],s,cs,x,_,_=>⟨x,by simp [forD,loopG]⟩
 | d::ds,s,cs,x,hs,hl=>by
  simp only [List.length_cons] at hl
  by_cases c0:0<s.2.2
  ·obtain ⟨_,_,o3,o4⟩:=ok.ok s c0 hs
   obtain ⟨x',ih⟩:=u3M ok hg h1 h0 ds (Gr s).2 (cs++[(Gr s).1]) (some (.val d)) (by omega) (by simp;omega)
   refine ⟨x',?_⟩
   rw [forD,hg,u3D,go_ok,h1 s cs (some (.val d)) c0 hs (by omega)]
   show forD g tb ds _=_
   rw [ih]
   simp [loopG,c0]
  ·obtain ⟨x',ih⟩:=u3M ok hg h1 h0 ds s cs (some (.val d)) hs (by omega)
   refine ⟨x',?_⟩
   rw [forD,hg,u3D,go_ok,h0 s cs (some (.val d)) (by omega)]
   show forD g tb ds _=_
   rw [ih]
   simp [loopG,c0]
theorem fix_g (A:Nat→Addr) (c:Int) (e:Nat) (s:GS) (cs:List Md) (num:D) (x:Option Sl):fix1 3 (gRho A c e s cs num x)=[some (.own (.p (A 0) (stm s.1 c s.2.1))),some (.val (dN e)),some (.own (.p (A 2) (.l [dN s.2.2]))),some (.val (.lst (toDs cs))),some (.val num),x]:=rfl
noncomputable instance:Inhabited Md:=⟨.leaf ""⟩
section
variable {P:Program}{w:World}{K:W.Frag}{mg:MG}{base:Heap}{f:Addr}{fd:FuncData}{A:Adr}
theorem u5n {k:Nat} (h3:3≤k) {g_law_draw:List Sl→Res (D×List Sl)} (c__law_draw:Callee P w K mg base 2 "_law_draw" ["_law_left","_law_many"] (spM K g_law_draw)) {g_law_sign:List Sl→Res (D×List Sl)} (c__law_sign:Callee P w K mg base 3 "_law_sign" ["_law_left"] (spM K g_law_sign)) {g_law_grown:List Sl→Res (D×List Sl)} (c__law_grown:Callee P w K mg base k "_law_grown" ["_law_left","_law_deep","_law_room"] (spM K g_law_grown)) (p_draw:Draw g_law_draw) (p_sign:Sign g_law_sign) {d:Nat} (p_grown:Grow d g_law_grown) (F:Fun K "_law_grown" "_law_grown" u2e f fd) (T:Txt K mg A):∃ G,FnOk P w K mg base CX0 (k+1) f fd ["_law_left","_law_deep","_law_room"] (spM K G)∧Grow (d+1) G:=by
 refine ⟨_,F.okM (k:=k) u1g (fun cdv Ar outer s H E hr=>u1P (u4S 2 u0d (d_op o_sub (d_ix x_ix (dv 2) u0d) u0d))
  (dmx_if (xt_w (xw_or (u8j (xq:=xqF) (u0r (u1F (hu64 hr)) (dv 1) u0d)) (xw_or (u8j (xq:=xqF) (u0r o_lt (d_ix x_ix (dv 2) u0d) u0d)) (xw_or1 (xt_cmp (u1F (hu64 hr)) (x_fn c__law_draw (hk:=by omega) hr (u2X 0 (u1r (u1B (xq:=xqF) u0d) u2m))) (u1B (xq:=xqF) u0d)))))) (u5M (x_fn c__law_sign (hk:=by omega) hr (u2X 0 u2m)))
  (u1P (u3a u1g.nd (u2y u0b))
  (u1P (dsx_n u1g.nd (x_ixX x_ix (DXN.de (xn_lst (u1r (x_fn c__law_draw (hk:=by omega) hr (u2X 0 (u1r (u1B (xq:=xqF) u0d) u2m))) (u1r (x_fn c__law_draw (hk:=by omega) hr (u2X 0 (u1r (u1B (xq:=xqF) u0d) u2m))) u2m)))) (u1B (xq:=xqF) (DE.flat (d_op u1X (d_ix x_ix (dv 0) u0d) u0d)))))
  (u1P (dsx_for rfl (u8k T.z_range (u1r (x_fn c__law_draw (hk:=by omega) hr (u2X 0 (u1r (u1B (xq:=xqF) u0d) u2m))) u2m)) (dg_n u1g.nd)
  (u0f (u0C (u0r o_gt (d_ix x_ix (dv 2) u0d) u0d) (u0f (dsx_app 3 (x_fn c__law_grown (hk:=by omega) hr (u2X 0 (u1r (u1B (xq:=xqF) (d_op o_sub (dv 1) u0d)) (u2X 2 u2m)))))) u0p)))
  (dm_fix 3 (u5M (u1B (xq:=xqF) (u1G (u0a (dv 4) (u0a (dv 3) u0b))))))))))),?_⟩
 intro a c k0 r e he hr1 hb
 obtain ⟨r,rfl⟩:∃ r1,r=r1+1:=⟨r - 1,by omega⟩
 have s1:dSub (dN (r+1)) (.int 1)=.ok (dN r):=by
  show Res.ok (D.int (((r+1:Nat):Int) - 1))=_
  congr 2
  omega
 by_cases c0:e=0
 ·subst c0
  obtain ⟨s,a',hs,es⟩:=p_sign a c k0 (by omega)
  refine ⟨.leaf s,a',k0+1,r,.leaf hs,by simp [dp],by simp [sz];omega,by omega,u6G fun A=>?_⟩
  have q0:dEqX (dN 0) (.int 0)=.ok (.bl true):=eqI _ _
  simp [runM,pinS,unS,u2w,setP,ixN,flatD,flatC,u8S,u8R,slOf,slAll,agO,unp,putB,repO,s1,q0,es,toD,-u1n,-u0o,-Res.bind_ok,-L2.go_ok,-Out.then_nx,bindN,goN,thenN,-u1R,-u8b,thenMN,gmN]
 ·have q0:dEqX (dN e) (.int 0)=.ok (.bl false):=by rw [eqI];simp;omega
  by_cases c1:r=0
  ·subst c1
   obtain ⟨s,a',hs,es⟩:=p_sign a c k0 (by omega)
   refine ⟨.leaf s,a',k0+1,0,.leaf hs,by simp [dp],by simp [sz],by omega,u6G fun A=>?_⟩
   simp [runM,pinS,unS,u2w,setP,ixN,flatD,flatC,u8S,u8R,slOf,slAll,agO,unp,putB,repO,s1,q0,es,toD,-u1n,-u0o,-Res.bind_ok,-L2.go_ok,-Out.then_nx,bindN,goN,thenN,-u1R,-u8b,thenMN,gmN]
  ·have hr:¬ ((r:Int)<1):=by omega
   obtain ⟨m1,a1,hm1,e1⟩:=p_draw a c k0 5 (by omega) (by omega) (by omega)
   have e1:g_law_draw [.own (stm a c k0),.val (.int 5)]=.ok (dN m1,[.own (stm a1 c (k0+1)),.val (.int 5)]):=e1
   by_cases c2:m1=0
   ·subst c2
    obtain ⟨s,a',hs,es⟩:=p_sign a1 c (k0+1) (by omega)
    have q1:dEqX (dN 0) (.int 0)=.ok (.bl true):=eqI _ _
    refine ⟨.leaf s,a',k0+1+1,r,.leaf hs,by simp [dp],by simp [sz];omega,by omega,u6G fun A=>?_⟩
    simp [runM,pinS,unS,u2w,setP,ixN,flatD,flatC,u8S,u8R,slOf,slAll,agO,unp,putB,repO,s1,q0,q1,hr,e1,es,toD,-u1n,-u0o,-Res.bind_ok,-L2.go_ok,-Out.then_nx,bindN,goN,thenN,-u1R,-u8b,thenMN,gmN]
   ·have q1:dEqX (dN m1) (.int 0)=.ok (.bl false):=by rw [eqI];simp;omega
    obtain ⟨n1,a2,hn1,e2⟩:=p_draw a1 c (k0+1) 3 (by omega) (by omega) (by omega)
    have e2:g_law_draw [.own (stm a1 c (k0+1)),.val (.int 3)]=.ok (dN n1,[.own (stm a2 c (k0+1+1)),.val (.int 3)]):=e2
    obtain ⟨n2,a3,hn2,e3⟩:=p_draw a2 c (k0+1+1) 20 (by omega) (by omega) (by omega)
    have e3:g_law_draw [.own (stm a2 c (k0+1+1)),.val (.int 20)]=.ok (dN n2,[.own (stm a3 c (k0+1+1+1)),.val (.int 20)]):=e3
    obtain ⟨n3,a4,hn3,e4⟩:=p_draw a3 c (k0+1+1+1) 5 (by omega) (by omega) (by omega)
    have e4:g_law_draw [.own (stm a3 c (k0+1+1+1)),.val (.int 5)]=.ok (dN n3,[.own (stm a4 c (k0+1+1+1+1)),.val (.int 5)]):=e4
    obtain ⟨m4,em,hm4⟩:=modI ((k0+1+1+1:Nat):Int) (b:=2) (by omega)
    have r1:dMod (dN (k0+1+1+1)) (.int 2)=.ok (dN m4):=by
     show dMod (.int ((k0+1+1+1:Nat):Int)) (.int 2)=_
     rw [u1c (by omega)]
     exact congrArg (fun z=>Res.ok (D.int z)) em
    obtain ⟨num,hnum,ex⟩:∃ num:Nat,num<20∧dIx (.lst [dN n1,dN n2]) (dN m4)=.ok (dN num):=by
     match m4,hm4 with
     | 0,_=>exact ⟨n1,by omega,rfl⟩
     | 1,_=>exact ⟨n2,by omega,rfl⟩
    obtain ⟨e,rfl⟩:∃ e',e=e'+1:=⟨e - 1,by omega⟩
    obtain ⟨Gr,hG⟩:=skolem (α:=GS) (β:=Md×GS) (P:=fun s=>1≤s.2.2∧s.2.1+4*s.2.2≤900) (Q:=fun s y=>Gd y.1∧dp y.1≤e+1∧sz y.1+y.2.2.2≤s.2.2∧y.2.2.1+4*y.2.2.2≤s.2.1+4*s.2.2∧g_law_grown [.own (stm s.1 c s.2.1),.val (dN e),.own (.l [dN s.2.2])]=.ok (toD y.1,[.own (stm y.2.1 c y.2.2.1),.val (dN e),.own (.l [dN y.2.2.2])])) (fun s h=>by
     obtain ⟨m,a',k',r',h1,h2,h3,h4,h5⟩:=p_grown s.1 c s.2.1 s.2.2 e (by omega) h.1 h.2
     exact ⟨(m,a',k',r'),h1,h2,h3,h4,h5⟩)
    have ok:GrOk e Gr:=⟨fun s h1 h2=>let ⟨x1,x2,x3,x4,_⟩:=hG s ⟨h1,h2⟩;⟨x1,x2,x3,x4⟩⟩
    obtain ⟨l1,l2,l3,l4,l5⟩:=u6z ok n3 (a4,k0+1+1+1+1,r) (by dsimp only;omega)
    dsimp only at l3 l4
    refine ⟨.node num (loopG Gr n3 (a4,k0+1+1+1+1,r)).1,(loopG Gr n3 (a4,k0+1+1+1+1,r)).2.1,(loopG Gr n3 (a4,k0+1+1+1+1,r)).2.2.1,(loopG Gr n3 (a4,k0+1+1+1+1,r)).2.2.2,.node (by omega) (by omega) (by omega) l1,by simp only [dp];omega,by simp only [sz];omega,by omega,u6G fun A=>?_⟩
    simp [runM,pinS,unS,u2w,u6D,setP,ixN,flatD,flatC,u8S,u8R,slOf,slAll,agO,agv,unp,putB,repO,s1,q0,q1,hr,e1,e2,e3,e4,ex,r1,rng_n (show n3≤1000 by omega),-u1n,-u0o,-Res.bind_ok,-L2.go_ok,-Out.then_nx,bindN,goN,thenN,-u1R,-u8b,thenMN,gmN]
    generalize hI:forD _ _ _ _=o
    obtain ⟨x5,e5⟩:∃ x5,o=.nx (gRho A c (e+1) (loopG Gr n3 (a4,k0+1+1+1+1,r)).2 (loopG Gr n3 (a4,k0+1+1+1+1,r)).1 (dN num) x5):=by
     rw [← hI]
     have key:=fun {g:D→Rho→Res Rho}{tb:Rho→Out} hg h1 h0=>u3M (g:=g) (tb:=tb) (A:=A) (c:=c) (e:=e+1) (num:=dN num) ok hg h1 h0 (intL 0 n3) (a4,k0+1+1+1+1,r) [] none (by dsimp only;omega) (by rw [u7r];simp;omega)
     rw [u7r] at key
     refine key (fun d s cs x=>rfl) (fun s cs x hs1 hs2 hcs=>?_) (fun s cs x hs0=>?_)
     ·obtain ⟨_,_,_,_,eg⟩:=hG s ⟨hs1,hs2⟩
      have h':(0:Int)<(s.2.2:Int):=by omega
      have s2:dSub (dN (e+1)) (.int 1)=.ok (dN e):=by
       show Res.ok (D.int (((e+1:Nat):Int) - 1))=_
       congr 2
       omega
      have hz:cs.length<sizeLine:=Nat.lt_of_le_of_lt hcs (by decide)
      simp [u2w,h',s2,u8S,u8R,slOf,slAll,agO,unp,putB,repO,eg,u1s,hz,-u1n,-u0o,-Res.bind_ok,-L2.go_ok,-Out.then_nx,bindN,goN,thenN]
      rw [if_pos hs1,gRho,u6P]
      rfl
     ·have h':¬ (0:Int)<(s.2.2:Int):=by omega
      simp [u2w,h',-u1n,-u0o,-Res.bind_ok,-L2.go_ok,-Out.then_nx,bindN,goN,thenN]
      intro z
      omega
    rw [e5]
    simp [fix_g,toD,-u1n,-u0o,-Res.bind_ok,-L2.go_ok,-Out.then_nx,bindN,goN,thenN,-u1R,-u8b,thenMN,gmN]
end
def Made (A:Adr) (d:Nat) (G:FD):Prop:=∀ m,dp m≤d→Ok m→G [toD m]=.ok (tr A m)
def IsM (A:Adr) (d:Nat) (G:FD):Prop:=∀ m,dp m≤d→Ok m→G [tr A m,toD m]=.ok (.bl true)
theorem u4r (s:Str):gIsA [toD (.leaf s),.ty "str"]=.ok (.bl true):=rfl
theorem u2B (n:Int) (cs:List Md):gIsA [toD (.node n cs),.ty "str"]=.ok (.bl false):=rfl
theorem ix_n0 (n:Int) (cs:List Md):dIx (toD (.node n cs)) (.int 0)=.ok (.int n):=rfl
theorem u6F (n:Int) (cs:List Md):dIx (toD (.node n cs)) (.int 1)=.ok (.lst (toDs cs)):=rfl
theorem u1m:∀ {cs:List Md}{c:Md},c∈cs→dp c≤dps cs
 | x::cs,c,h=>by
  rcases List.mem_cons.mp h with rfl | h
  ·simp [dps];omega
  ·have:=u1m h;simp [dps];omega
theorem comp1m {α:Type}{c:α→D}{fT:Rho→Res Bool}{fe:Rho→Res D}{ds:List α} (h:α→D) (k:∀ d∈ds,fT [some (.val (c d))]=.ok true∧fe [some (.val (c d))]=.ok (h d)):compD (fun d ρ=>.ok (ρ.set 0 (some (.val d)))) fT fe [none] (ds.map c)=.ok (ds.map h):=by
 induction ds with
 | nil=>rfl
 | cons x ds ih =>
  have h1:=k x List.mem_cons_self
  have h2:=ih fun d m=>k d (List.mem_cons_of_mem _ m)
  simp [compD,h1.1,h1.2,h2]
theorem isO_l (A:Adr) (b1 b2:Bool) (tx:List (Addr×Bool)) (s:Str):isO [(A.Leaf,b1),(A.Node,b2)] tx (tr A (.leaf s))=.ok (.bl b1):=by
 show lookB _ A.Leaf=_
 unfold lookB
 simp [List.lookup]
theorem isO_n {A:Adr} (ne:A.Leaf≠A.Node) (b1 b2:Bool) (tx:List (Addr×Bool)) (n:Int) (cs:List Md):isO [(A.Leaf,b1),(A.Node,b2)] tx (tr A (.node n cs))=.ok (.bl b2):=by
 show lookB _ A.Node=_
 unfold lookB
 have:(A.Node==A.Leaf)=false:=beq_false_of_ne ne.symm
 simp [List.lookup,this]
theorem eq_self (s:Str):dEqX (.str s) (.str s)=.ok (.bl true):=by
 unfold dEqX
 rw [if_neg (show ¬ lenNe (.str s) (.str s)=true from Bool.false_ne_true),if_pos ⟨rfl,rfl,Nat.zero_le _⟩]
theorem neI (i j:Int):dNeX (.int i) (.int j)=.ok (.bl (decide (i≠j))):=by
 unfold dNeX
 rw [if_neg (show ¬ lenNe (.int i) (.int j)=true from Bool.false_ne_true)]
 show Res.ok (D.bl (!(i==j)))=_
 by_cases h:i=j <;> simp [h]
theorem v1g (A:Adr):∀ cs:List Md,zipL (trs A cs) (toDs cs)=cs.map fun c=>.tup [tr A c,toD c]
 | []=>rfl
 | c::cs=>by
  have:=v1g A cs
  unfold zipL at *
  simp [trs,toDs] at *
  exact this
theorem a_tup (ds:List D):gIsA [.tup ds,.ty "tuple"]=.ok (.bl true):=rfl
theorem u9b (ds:List D):gLen [.lst ds]=.ok (.int ds.length):=rfl
mutual
noncomputable def pathsN:Md→List (List Nat)
 | .leaf _=>[[]]
 | .node _ cs=>[]::pathsL 0 cs
noncomputable def pathsL:Nat→List Md→List (List Nat)
 | _,[]=>[]
 | k,c::cs=>(pathsN c).map (k::·)++pathsL (k+1) cs
end
mutual
theorem u5u:∀ m,(pathsN m).length=sz m
 | .leaf _=>rfl
 | .node _ cs=>by simp [pathsN,sz,u2Q 0 cs]
theorem u2Q:∀ k cs,(pathsL k cs).length=szs cs
 | _,[]=>rfl
 | k,c::cs=>by simp [pathsL,szs,u5u c,u2Q (k+1) cs]
end
abbrev pD (p:List Nat):D:=.lst (pI p)
abbrev pDs (ps:List (List Nat)):List D:=ps.map pD
theorem v1i:∀ a:List Md,(yds a).length≤szs a
 | []=>Nat.le_refl _
 | m::a=>by have:=v1i a;have:=u9R m;simp [yds,szs];omega
theorem u6I:∀ a b:List Md,dps (a++b)=max (dps a) (dps b)
 | [],b=>by simp [dps]
 | m::a,b=>by simp [dps,u6I a b,Nat.max_assoc]
def PathsM (d:Nat) (G:FD):Prop:=∀ m,dp m≤d→Ok m→sz m≤500→dp m≤500→G [toD m]=.ok (.lst (pDs (pathsN m)))
def CountM (d:Nat) (G:FD):Prop:=∀ m,dp m≤d→Ok m→sz m≤1000→G [toD m]=.ok (.tup [.lst ((yd m).map D.str),.int (sz m),.int (dp m)])
def WithM (d:Nat) (G:FD):Prop:=∀ m is o,is.length<d→Pth m is→Ok m→G [toD m,pD is,toD o]=.ok (toD (withN m is o))
theorem u4u:∀ {cs:List Md}{c:Md},c∈cs→sz c≤szs cs
 | x::cs,c,h=>by
  rcases List.mem_cons.mp h with rfl | h
  ·simp [szs]
  ·have:=u4u h;simp [szs];omega
theorem u3U {x y:List D} (h:x.length+y.length≤10000):dAdd (.lst x) (.lst y)=.ok (.lst (x++y)):=u0F (Nat.le_trans h (by decide))
theorem ix_mm {α:Type}{c:α→D}{rs:List α}{i:Nat}{x:α} (h:rs[i]?=some x):dIx (.lst (rs.map c)) (.int (i:Int))=.ok (c x):=u7Z (by rw [List.getElem?_map,h];rfl)
mutual
theorem u7e:∀ m,∀ p∈pathsN m,p.length≤dp m
 | .leaf _,p,h=>by simp [pathsN] at h;simp [h]
 | .node _ cs,p,h=>by
  simp [pathsN] at h
  rcases h with rfl | h
  ·simp
  ·have:=u5w cs 0 p h
   simp [dp]
   omega
theorem u5w:∀ (cs:List Md) (k:Nat),∀ p∈pathsL k cs,p.length≤dps cs+1
 | [],k,p,h=>by simp [pathsL] at h
 | c::cs,k,p,h=>by
  simp [pathsL] at h
  rcases h with ⟨q,h,rfl⟩ | h
  ·have:=u7e c q h
   simp [dps]
   omega
  ·have:=u5w cs (k+1) p h
   simp [dps]
   omega
end
mutual
theorem u5t:∀ m,∀ p∈pathsN m,Pth m p
 | .leaf _,p,h=>by simp [pathsN] at h;subst h;exact .nil
 | .node n cs,p,h=>by
  simp [pathsN] at h
  rcases h with rfl | h
  ·exact .nil
  ·obtain ⟨i,c,q,rfl,h1,h2⟩:=u5v cs 0 p h
   exact .cons (show cs[0+i]?=some c by simpa using h1) h2
theorem u5v:∀ (cs:List Md) (k:Nat),∀ p∈pathsL k cs,∃ i c q,p=(k+i)::q∧cs[i]?=some c∧Pth c q
 | [],k,p,h=>by simp [pathsL] at h
 | c::cs,k,p,h=>by
  simp [pathsL] at h
  rcases h with ⟨q,h,rfl⟩ | h
  ·exact ⟨0,c,q,rfl,rfl,u5t c q h⟩
  ·obtain ⟨i,c',q,rfl,h1,h2⟩:=u5v cs (k+1) p h
   exact ⟨i+1,c',q,by rw [show k+1+i=k+(i+1) by omega],by simpa using h1,h2⟩
end
section
variable {P:Program}{w:World}{K:W.Frag}{mg:MG}{base:Heap}{f:Addr}{fd:FuncData}{A:Adr}
theorem u6u {k:Nat} (h3:3≤k) {G__law_made:FD} (c__law_made:Callee P w K mg base k "_law_made" ["_law_model"] (spF K G__law_made)) {g_Node:List D→Res (List (Str×D))} (k_Node:KCalleeF P w K mg base 2 "Node" A.Node ["self","number","children"] g_Node) {g_Leaf:List D→Res (List (Str×D))} (k_Leaf:KCalleeF P w K mg base 1 "Leaf" A.Leaf ["self","sign"] g_Leaf) (p_Node:∀ (n:Int) (ms:List Md),ms.length≤1000→∀ {c:D},rowOf c=some (trs A ms)→g_Node [.int n,c]=.ok [("number",.int n),("children",.tup (trs A ms)),("tree_size",.int (1+szs ms)),("tree_depth",.int (1+dps ms))]) (p_Leaf:∀ s:Str,g_Leaf [.str s]=.ok [("sign",.str s),("tree_size",.int 1),("tree_depth",.int 1)]) {d:Nat} (p_made:Made A d G__law_made) (F:Fun K "_law_made" "_law_made" u1S f fd) (T:Txt K mg A):∃ G,FnOk P w K mg base CX0 (k+1) f fd ["_law_model"] (spF K G)∧Made A (d+1) G:=by
 refine ⟨_,F.okT (k:=k) u6i (fun cdv Ar outer s H E hr=>u0c (u0C (u0n (d_B u1Q T.z_isinstance (by decide +kernel) (u0a (dv 0) (u0a (d_ty T.z_str (T:="str") (by decide +kernel)) u0b)))) (u0f (u0i (u0P k_Leaf (hk:=by omega) hr (u0a (dv 0) u0b)))) u0p)
  (u0f (u0i (u0P k_Node (hk:=by omega) hr (u0a (d_ix x_ix (dv 0) u0d) (u0a (DN.de (u4V ["_law_child"] [] rfl (u1q (sc:=defScope u1S) (N:=["_law_model"]) (by decide +kernel)) (u1k (d_ix x_ix (dv 0) u0d)) (dg_n (show (["_law_child"]:List Str).Nodup by decide +kernel)) u5N (d_fn c__law_made (hk:=by omega) hr (u0a (dv 0) u0b)))) u0b)))))),?_⟩
 intro m hd ok
 cases ok with
 | @leaf s h l =>
  have pl:g_Leaf [toD (.leaf s)]=.ok [("sign",.str s),("tree_size",.int 1),("tree_depth",.int 1)]:=p_Leaf s
  simp [runT,startD,u4r,pl,tr]
 | @node n cs h0 h1 hl hc =>
  have hz:(toDs cs).length≤sizeLine:=by rw [u1s];exact u6B hl
  have c1:compD (fun d ρ=>.ok (ρ.set 0 (some (.val d)))) (fun x=>Res.ok true) (fun ρ=>((getV ρ 0).bind fun d=>Res.ok [d]).bind fun ds=>noE (G__law_made ds)) [none] (toDs cs)=.ok (trs A cs):=by
   rw [u0G,u2b]
   refine comp1m (tr A) fun c m=>⟨rfl,?_⟩
   have:=u1m m
   simp only [dp] at hd
   simp [p_made c (by omega) (hc c m)]
  have g1:=p_Node n cs hl (c:=.lst (trs A cs)) rfl
  simp [runT,startD,u2B,ix_n0,u6F,u1d,rhoC10,u0F hz,c1,g1]
  rfl
theorem u8I {k:Nat} (h3:3≤k) {G__law_is:FD} (c__law_is:Callee P w K mg base k "_law_is" ["_law_tree","_law_model"] (spF K G__law_is)) {d:Nat} (p_is:IsM A d G__law_is) (F:Fun K "_law_is" "_law_is" u4A f fd) (T:Txt K mg A):∃ G,FnOk P w K mg base CX0 (k+1) f fd ["_law_tree","_law_model"] (spF K G)∧IsM A (d+1) G:=by
 refine ⟨_,F.okT (k:=k) u3s (fun cdv Ar outer s H E hr=>u0c (u0C (u0n (d_B u1Q T.z_isinstance (by decide +kernel) (u0a (dv 1) (u0a (d_ty T.z_str (T:="str") (by decide +kernel)) u0b)))) (u0f (u0i (u4d (u6K T.o_Leaf T.m_Leaf T.z_isinstance (by decide +kernel) (dv 0)) (u4d (d_not (u6K T.o_Node T.m_Node T.z_isinstance (by decide +kernel) (dv 0))) (u6J (u3R (u1F (hu64 hr)) (u0O T.f_sign (dv 0)) (dv 1))))))) u0p)
  (u0c (u0C (dt_w (u1e (u0y (u0n (u6K T.o_Node T.m_Node T.z_isinstance (by decide +kernel) (dv 0)))) (u1e (u0n (u6K T.o_Leaf T.m_Leaf T.z_isinstance (by decide +kernel) (dv 0))) (u0Z (u0r (u2R (hu64 hr)) (u0O T.f_number (dv 0)) (d_ix x_ix (dv 1) u0d)))))) (u0f (u0i d_bl)) u0p)
  (u0c (u0C (dt_w (u1e (u0y (u0n (d_B u1Q T.z_isinstance (by decide +kernel) (u0a (u0O T.f_children (dv 0)) (u0a (d_ty T.z_tuple (T:="tuple") (by decide +kernel)) u0b))))) (u0Z (u0r (u2R (hu64 hr)) (d_B u3h T.z_len (by decide +kernel) (u0a (u0O T.f_children (dv 0)) u0b)) (d_B u3h T.z_len (by decide +kernel) (u0a (d_ix x_ix (dv 1) u0d) u0b)))))) (u0f (u0i d_bl)) u0p)
  (u0c (u1D rfl (di_zip T.z_zip (u0a (u0O T.f_children (dv 0)) (u0a (d_ix x_ix (dv 1) u0d) u0b))) (u3Q (n:=2) rfl (u0t (dg_n u3s.nd) (u0t (dg_n u3s.nd) u2k)))
  (u0f (u0C (u0y (u0n (d_fn c__law_is (hk:=by omega) hr (u0a (dv 2) (u0a (dv 3) u0b))))) (u0f (u0i d_bl)) u0p)))
  (u0f (u0i d_bl)))))),?_⟩
 intro m hd ok
 cases ok with
 | @leaf s h l =>
  have es:dEqX (.str s) (toD (.leaf s))=.ok (.bl true):=eq_self s
  simp [runT,startD,u4r,isO_l,u4Q,es]
 | @node n cs h0 h1 hl hc =>
  simp [runT,startD,u2B,isO_n T.ne,u1W,u0L,ix_n0,u6F,neI,a_tup,v0H,u9b,u0E,u1s,zip2,rowOf,v1g]
  generalize hI:forD _ _ _ _=o
  have q:∃ ρ,o=.nx ρ:=by
   rw [← hI]
   refine u1N (S:=fun ds ρ=>∃ cs' x1 x2,ρ=[some (.val (tr A (.node n cs))),some (.val (toD (.node n cs))),x1,x2]∧ds=cs'.map (fun c=>.tup [tr A c,toD c])∧∀ c∈cs',c∈cs) (Q:=fun o=>∃ ρ,o=.nx ρ) (fun ρ _=>⟨ρ,rfl⟩) ?_ _ _ ⟨cs,none,none,rfl,rfl,fun c m=>m⟩
   rintro d1 ds ρ ⟨cs',x1,x2,rfl,e,hm⟩
   cases cs' with
   | nil=>simp at e
   | cons c cs' =>
    obtain ⟨rfl,rfl⟩:d1=.tup [tr A c,toD c]∧ds=cs'.map (fun c=>.tup [tr A c,toD c]):=by simpa using e
    have hc1:=hm c List.mem_cons_self
    have:=u1m hc1
    simp only [dp] at hd
    refine ⟨_,rfl,.inl ⟨_,by simp [p_is c (by omega) (hc c hc1)];exact ⟨rfl,rfl⟩,cs',_,_,rfl,rfl,fun x m=>hm x (List.mem_cons_of_mem _ m)⟩⟩
  obtain ⟨ρ,rfl⟩:=q
  simp
theorem u8J (F:Fun K "_law_at" "_law_at" u4B f fd) (T:Txt K mg A):∃ G,FnOk P w K mg base CX0 1 f fd ["_law_model","_law_path"] (spF K G)∧∀ m is,Pth m is→G [toD m,pD is]=.ok (toD (atN m is)):=by
 refine ⟨_,F.okT (k:=0) u3u (fun cdv Ar outer s H E hr=>u0c (u1D rfl (u1k (dv 1)) (dg_n u3u.nd)
  (u0f (ds_n u3u.nd (d_ix x_ix (d_ix x_ix (dv 0) u0d) (dv 2)))))
  (u0f (u0i (dv 0)))),?_⟩
 intro m is hp
 simp [runT,startD,u1d]
 generalize hI:forD _ _ _ _=o
 have q:∃ ρ,o=.nx ρ∧ρ[0]?=some (some (.val (toD (atN m is)))):=by
  rw [← hI]
  refine u1N (S:=fun ds ρ=>∃ m' js x,ρ=[some (.val (toD m')),some (.val (pD is)),x]∧ds=pI js∧Pth m' js∧atN m' js=atN m is) (Q:=fun o=>∃ ρ,o=.nx ρ∧ρ[0]?=some (some (.val (toD (atN m is))))) ?_ ?_ _ _ ⟨m,is,none,rfl,rfl,hp,rfl⟩
  ·rintro ρ ⟨m',js,x,rfl,e,hj,ha⟩
   obtain rfl:js=[]:=by simpa using e
   exact ⟨_,rfl,by rw [← ha];rfl⟩
  ·rintro d ds ρ ⟨m',js,x,rfl,e,hj,ha⟩
   cases hj with
   | nil=>simp at e
   | @cons _ c j js h t =>
    obtain ⟨rfl,rfl⟩:d=.int (j:Int)∧ds=pI js:=by simpa using e
    cases m' with
    | leaf s=>simp [kids] at h
    | node n cs =>
     have h':cs[j]?=some c:=h
     have e1:dIx (.lst (toDs cs)) (.int (j:Int))=.ok (toD c):=by rw [u0G];exact ix_mm h'
     exact ⟨_,rfl,.inl ⟨_,by simp [u6F,e1];rfl,c,js,_,rfl,rfl,t,by rw [← ha];simp [atN,h]⟩⟩
 obtain ⟨ρ,rfl,e⟩:=q
 have:getV (frz ρ) 0=.ok (toD (atN m is)):=by unfold getV frz;rw [List.getElem?_map,e];rfl
 simp [this]
theorem u5o {k:Nat} (h3:3≤k) {G__law_count:FD} (c__law_count:Callee P w K mg base k "_law_count" ["_law_model"] (spF K G__law_count)) {d:Nat} (p_count:CountM d G__law_count) (F:Fun K "_law_count" "_law_count" u2f f fd) (T:Txt K mg A):∃ G,FnOk P w K mg base CX0 (k+1) f fd ["_law_model"] (spF K G)∧CountM (d+1) G:=by
 refine ⟨_,F.okT (k:=k) u0m (fun cdv Ar outer s H E hr=>u0c (u0C (u0n (d_B u1Q T.z_isinstance (by decide +kernel) (u0a (dv 0) (u0a (d_ty T.z_str (T:="str") (by decide +kernel)) u0b)))) (u0f (u0i (u1G (u0a (u0A (u0a (dv 0) u0b)) (u0a u0d (u0a u0d u0b)))))) u0p)
  (u0c (ds_n u0m.nd (u0A u0b))
  (u0c (ds_n u0m.nd u0d)
  (u0c (ds_n u0m.nd u0d)
  (u0c (u1D rfl (u1k (d_ix x_ix (dv 0) u0d)) (dg_n u0m.nd)
  (u0c (u9z (d_fn c__law_count (hk:=by omega) hr (u0a (dv 4) u0b)) (u3Q (n:=3) rfl (u0t (dg_n u0m.nd) (u0t (dg_n u0m.nd) (u0t (dg_n u0m.nd) u2k)))))
   (u0c (ds_n u0m.nd (d_op u1f (dv 1) (dv 5)))
   (u0c (ds_n u0m.nd (d_op u1f (dv 2) (dv 6)))
   (u0f (ds_n u0m.nd (d_B (c_max rfl) T.z_max (by decide +kernel) (u0a (dv 3) (u0a (dv 7) u0b)))))))))
  (u0f (u0i (u1G (u0a (dv 1) (u0a (dv 2) (u0a (d_op u1f (dv 3) u0d) u0b))))))))))),?_⟩
 intro m hd ok hz
 cases ok with
 | @leaf s h l =>
  simp [runT,startD,u4r]
  exact ⟨rfl,rfl,rfl⟩
 | @node n cs h0 h1 hl hc =>
  simp [runT,startD,u2B,u6F,u1d]
  generalize hI:forD _ _ _ _=o
  have q:∃ x4 x5 x6 x7,o=.nx [some (.val (toD (.node n cs))),some (.val (.lst ((yds cs).map D.str))),some (.val (.int (szs cs+1:Nat))),some (.val (dN (dps cs))),x4,x5,x6,x7]:=by
   rw [← hI]
   refine u1N (S:=fun ds ρ=>∃ a b x4 x5 x6 x7,cs=a++b∧ds=toDs b∧ρ=[some (.val (toD (.node n cs))),some (.val (.lst ((yds a).map D.str))),some (.val (.int (szs a+1:Nat))),some (.val (dN (dps a))),x4,x5,x6,x7]) (Q:=fun o=>∃ x4 x5 x6 x7,o=.nx [some (.val (toD (.node n cs))),some (.val (.lst ((yds cs).map D.str))),some (.val (.int (szs cs+1:Nat))),some (.val (dN (dps cs))),x4,x5,x6,x7]) ?_ ?_ _ _ ⟨[],cs,none,none,none,none,rfl,rfl,rfl⟩
   ·rintro ρ ⟨a,b,x4,x5,x6,x7,e1,e2,rfl⟩
    cases b with
    | nil=>rw [List.append_nil] at e1;subst e1;exact ⟨_,_,_,_,rfl⟩
    | cons=>simp [toDs] at e2
   ·rintro d1 ds ρ ⟨a,b,x4,x5,x6,x7,e1,e2,rfl⟩
    cases b with
    | nil=>simp [toDs] at e2
    | cons c b =>
     obtain ⟨rfl,rfl⟩:d1=toD c∧ds=toDs b:=by simpa [toDs] using e2
     have hc1:c∈cs:=by rw [e1];simp
     have hd1:=u1m hc1
     have hs1:=u4u hc1
     simp only [dp,sz] at hd hz
     have hsz:=u2C a (c::b)
     rw [← e1] at hsz
     simp only [szs] at hsz
     have y1:(yds a).length≤szs a:=by
      exact v1i a
     have y2:=u9R c
     have ea:dAdd (.lst ((yds a).map D.str)) (.lst ((yd c).map D.str))=.ok (.lst ((yds (a++[c])).map D.str)):=by
      rw [u3U (by simp;omega),u6c]
      simp [yds]
     have em:gMax [dN (dps a),.int (dp c:Int)]=.ok (dN (dps (a++[c]))):=by
      rw [u6I]
      show Res.ok (D.int _)=_
      congr 2
      simp [dps]
      split <;> omega
     refine ⟨_,rfl,.inl ⟨[some (.val (toD (.node n cs))),some (.val (.lst ((yds (a++[c])).map D.str))),some (.val (.int ((szs (a++[c])+1:Nat):Int))),some (.val (dN (dps (a++[c])))),some (.val (toD c)),some (.val (.lst ((yd c).map D.str))),some (.val (.int (sz c))),some (.val (.int (dp c)))],?_,a++[c],b,_,_,_,_,by rw [e1];simp,rfl,rfl⟩⟩
     have at3:∀ a b c:D,asT 3 (.tup [a,b,c])=.ok [a,b,c]:=fun _ _ _=>rfl
     simp [p_count c (by omega) (hc c hc1) (by omega),ea,em,at3,u2C,szs]
     omega
  obtain ⟨x4,x5,x6,x7,rfl⟩:=q
  simp [yd,sz,dp]
end
theorem u4l:∀ (a b:List Md) (k:Nat),pathsL k (a++b)=pathsL k a++pathsL (k+a.length) b
 | [],b,k=>by simp [pathsL]
 | m::a,b,k=>by
  have:=u4l a b (k+1)
  simp [pathsL,this,show k+1+a.length=k+(a.length+1) by omega]
theorem comp2m {α:Type}{c:α→D}{x:Option Sl}{fe:Rho→Res D}{ds:List α} (h:α→D) (k:∀ d∈ds,fe [some (.val (c d)),x]=.ok (h d)):compD (fun d ρ=>.ok (ρ.set 0 (some (.val d)))) (fun _=>.ok true) fe [none,x] (ds.map c)=.ok (ds.map h):=by
 induction ds with
 | nil=>rfl
 | cons y ds ih =>
  have h1:=k y List.mem_cons_self
  have h2:=ih fun d m=>k d (List.mem_cons_of_mem _ m)
  simp [compD,h1,h2]
theorem v1y:dEqX (.lst []) (.lst [])=.ok (.bl true):=by
 unfold dEqX
 rw [if_neg (show ¬ lenNe (.lst []) (.lst [])=true from Bool.false_ne_true),if_pos ⟨rfl,rfl,by decide⟩]
theorem u9w (d:D) (ds:List D):dEqX (.lst (d::ds)) (.lst [])=.ok (.bl false):=by
 unfold dEqX
 rw [if_pos (show lenNe (.lst (d::ds)) (.lst [])=true from rfl)]
theorem setI_n {ρ:Rho}{j i:Nat}{ds:List D}{d:D} (h:i<ds.length):setI ρ j ds d (.int (i:Int))=.nx (ρ.set j (some (.own (.l (ds.set i d))))):=by
 have e:ixN ds.length (i:Int)=some i:=by
  unfold ixN
  rw [if_pos (by omega),if_pos (by omega)]
  simp
 unfold setI
 simp only [e]
theorem rhoC12 (a b c d:Option Sl):rhoC 1 [2] [a,b,c,d]=[none,c]:=by simp [rhoC]
noncomputable def enumN (k:Nat):List Md→List D
 | []=>[]
 | m::ms=>.tup [.int (k:Int),toD m]::enumN (k+1) ms
theorem u5L:∀ (ms:List Md) (k:Nat),((toDs ms).zipIdx k).map (fun p=>D.tup [.int ((p.2:Nat):Int),p.1])=enumN k ms
 | [],k=>rfl
 | m::ms,k=>by
  have:=u5L ms (k+1)
  simp [toDs,enumN] at *
  exact this
section
variable {P:Program}{w:World}{K:W.Frag}{mg:MG}{base:Heap}{f:Addr}{fd:FuncData}{A:Adr}
theorem u6q {k:Nat} (h3:3≤k) {G__law_with:FD} (c__law_with:Callee P w K mg base k "_law_with" ["_law_model","_law_path","_law_other_here"] (spF K G__law_with)) {d:Nat} (p_with:WithM d G__law_with) (F:Fun K "_law_with" "_law_with" u2I f fd) (T:Txt K mg A):∃ G,FnOk P w K mg base CX0 (k+1) f fd ["_law_model","_law_path","_law_other_here"] (spF K G)∧WithM (d+1) G:=by
 refine ⟨_,F.okT (k:=k) u3q (fun cdv Ar outer s H E hr=>u0c (u0C (u0r (u1F (hu64 hr)) (dv 1) (u0A u0b)) (u0f (u0i (dv 2))) u0p)
  (u0c (u3a u3q.nd (u4U T.z_list (u0a (d_ix x_ix (dv 0) u0d) u0b)))
  (u0c (v0X 3 (d_ix x_ix (dv 1) u0d) (d_fn c__law_with (hk:=by omega) hr (u0a (d_ixO 3 (d_ix x_ix (dv 1) u0d)) (u0a (d_sl (dv 1) (u2T u0d) u2U) (u0a (dv 2) u0b)))))
  (u0f (u0i (u1G (u0a (d_ix x_ix (dv 0) u0d) (u0a (dv 3) u0b)))))))),?_⟩
 intro m is o hl hp ok
 cases hp with
 | nil =>
  have e0:dEqX (pD []) (.lst [])=.ok (.bl true):=v1y
  generalize hP:pD []=pp at e0 ⊢
  simp [runT,startD,e0,withN]
 | @cons _ c i is h t =>
  have e0:dEqX (pD (i::is)) (.lst [])=.ok (.bl false):=u9w _ _
  cases ok with
  | leaf=>simp [kids] at h
  | @node n cs h0 h1 hcl hc =>
   have h':cs[i]?=some c:=h
   have hi:=(List.getElem?_eq_some_iff.mp h').1
   have e1:dIx (pD (i::is)) (.int 0)=.ok (.int (i:Int)):=u2w _ _
   have e2:dSl (pD (i::is)) (some 1) none=.ok (pD is):=by
    show Res.ok (D.lst (cutC (pI (i::is)) (some ((1:Nat):Int)) none))=_
    rw [u7C]
    rfl
   have e3:ixO (toDs cs) (.int (i:Int))=.ok (toD c):=by
    show (match atI (toDs cs) (i:Int) with | some d=>Res.ok d | none=>.bad)=_
    have:atI (toDs cs) (i:Int)=some (toD c):=by
     unfold atI ixN
     rw [if_pos (by omega),if_pos (by rw [u1s];omega)]
     simp [u0G,h']
    rw [this]
   have ew:=p_with c is o (by simp at hl;omega) t (hc c (List.mem_of_getElem? h'))
   generalize hP:pD (i::is)=pp at e0 e1 e2 ⊢
   have sq:seqOf [.lst (toDs cs)]=.ok (.l (toDs cs)):=rfl
   have st:∀ (ρ:Rho) (x:D),setI ρ 3 (toDs cs) x (.int (i:Int))=.nx (ρ.set 3 (some (.own (.l ((toDs cs).set i x))))):=fun ρ x=>setI_n (by rw [u1s];exact hi)
   have et:toD (withN (.node n cs) (i::is) o)=.tup [.int n,.lst ((toDs cs).set i (toD (withN c is o)))]:=by
    rw [withN]
    simp only [h']
    rw [toD,u0G,u0G,List.map_set]
   rw [et]
   simp [runT,startD,e0,e1,e2,e3,ew,ix_n0,u6F,asI,sq,st]
theorem u5l {k:Nat} (h3:3≤k) {G__law_paths:FD} (c__law_paths:Callee P w K mg base k "_law_paths" ["_law_model"] (spF K G__law_paths)) {d:Nat} (p_paths:PathsM d G__law_paths) (F:Fun K "_law_paths" "_law_paths" u1x f fd) (T:Txt K mg A):∃ G,FnOk P w K mg base CX0 (k+1) f fd ["_law_model"] (spF K G)∧PathsM (d+1) G:=by
 refine ⟨_,F.okT (k:=k) u0U (fun cdv Ar outer s H E hr=>u0c (ds_n u0U.nd (u0A (u0a (u0A u0b) u0b)))
  (u0c (u0C (u0y (u0n (d_B u1Q T.z_isinstance (by decide +kernel) (u0a (dv 0) (u0a (d_ty T.z_str (T:="str") (by decide +kernel)) u0b))))) (u0f (u1D rfl (di_enum T.z_enumerate (u0a (d_ix x_ix (dv 0) u0d) u0b)) (u3Q (n:=2) rfl (u0t (dg_n u0U.nd) (u0t (dg_n u0U.nd) u2k)))
   (u0f (ds_n u0U.nd (d_op u1f (dv 1) (DN.de (u4V ["_law_path"] [2] rfl (u1q (sc:=defScope u1x) (N:=["_law_model","_law_found","_law_k","_law_child"]) (by decide +kernel)) (u1k (d_fn c__law_paths (hk:=by omega) hr (u0a (dv 3) u0b))) (dg_n (show (["_law_path","_law_k"]:List Str).Nodup by decide +kernel)) u5N (d_op u1f (u0A (u0a (dv 1) u0b)) (dv 0))))))))) u0p)
  (u0f (u0i (dv 1))))),?_⟩
 intro m hd ok hz hdd
 cases ok with
 | @leaf s h l =>
  simp [runT,startD,u4r,pathsN]
 | @node n cs h0 h1 hl hc =>
  have en:enum1 [.lst (toDs cs)]=.ok (enumN 0 cs):=congrArg Res.ok (u5L cs 0)
  simp [runT,startD,u2B,u6F,en]
  generalize hI:forD _ _ _ _=o
  have q:∃ x2 x3,o=.nx [some (.val (toD (.node n cs))),some (.val (.lst (pDs ([]::pathsL 0 cs)))),x2,x3]:=by
   rw [← hI]
   refine u1N (S:=fun ds ρ=>∃ a b x2 x3,cs=a++b∧ds=enumN a.length b∧ρ=[some (.val (toD (.node n cs))),some (.val (.lst (pDs ([]::pathsL 0 a)))),x2,x3]) (Q:=fun o=>∃ x2 x3,o=.nx [some (.val (toD (.node n cs))),some (.val (.lst (pDs ([]::pathsL 0 cs)))),x2,x3]) ?_ ?_ _ _ ⟨[],cs,none,none,rfl,rfl,rfl⟩
   ·rintro ρ ⟨a,b,x2,x3,e1,e2,rfl⟩
    cases b with
    | nil=>rw [List.append_nil] at e1;subst e1;exact ⟨_,_,rfl⟩
    | cons=>simp [enumN] at e2
   ·rintro d1 ds ρ ⟨a,b,x2,x3,e1,e2,rfl⟩
    cases b with
    | nil=>simp [enumN] at e2
    | cons c b =>
     obtain ⟨rfl,rfl⟩:d1=.tup [.int (a.length:Int),toD c]∧ds=enumN (a.length+1) b:=by simpa [enumN] using e2
     have hc1:c∈cs:=by rw [e1];simp
     have hd1:=u1m hc1
     have hs1:=u4u hc1
     simp only [dp,sz] at hd hz hdd
     have hsz:=u2C a (c::b)
     rw [← e1] at hsz
     simp only [szs] at hsz
     have l1:=u2Q 0 a
     have l2:=u5u c
     have pc:=p_paths c (by omega) (hc c hc1) (by omega) (by omega)
     have hzz:(pDs (pathsN c)).length≤sizeLine:=Nat.le_trans (show _≤1000 by simp;omega) (by decide)
     have cm:=comp2m (c:=pD) (x:=some (.val (.int (a.length:Int)))) (fe:=fun ρ=>(((getV ρ 1).bind fun d=>Res.ok [d]).bind fun ds=>szD ds (Res.ok (D.lst ds))).bind fun x=>(getV ρ 0).bind fun y=>noE (dAdd x y)) (ds:=pathsN c) (fun p=>pD (a.length::p)) fun p hp=>by
      have:=u7e c p hp
      have:dAdd (.lst [.int (a.length:Int)]) (pD p)=.ok (pD (a.length::p)):=u3U (by simp;omega)
      simp [this]
     have ea:dAdd (.lst (pDs ([]::pathsL 0 a))) (.lst ((pathsN c).map fun p=>pD (a.length::p)))=.ok (.lst (pDs ([]::pathsL 0 (a++[c])))):=by
      rw [u3U (by simp;omega),u4l]
      simp [pathsL]
     refine ⟨_,rfl,.inl ⟨[some (.val (toD (.node n cs))),some (.val (.lst (pDs ([]::pathsL 0 (a++[c]))))),some (.val (.int (a.length:Int))),some (.val (toD c))],?_,a++[c],b,_,_,by rw [e1];simp,by simp,rfl⟩⟩
     have at2:∀ a b:D,asT 2 (.tup [a,b])=.ok [a,b]:=fun _ _=>rfl
     simp only [List.set_cons_succ,List.set_cons_zero,u3K,u3J,bindN,pc,u3D,u1d,u0F hzz,rhoC12,cm,u7O,ea,goN]
  obtain ⟨x2,x3,rfl⟩:=q
  simp [pathsN]
end
theorem eqv_str (a b:Str):PyData.eqv (.str a) (.str b)=(a==b):=rfl
theorem u6Z:∀ ss:List Str,D.pys (ss.map D.str)=some (ss.map PyData.str)
 | []=>rfl
 | z::ss=>by simp [D.pys,D.py,u6Z ss]
theorem u7k:∀ {ss:List Str},(∀ b∈ss,PyData.strOk b=true)→PyData.canLayAll0 (ss.map PyData.str)=true
 | [],_=>rfl
 | z::ss,h=>by
  have h1:=h z List.mem_cons_self
  have h2:=u7k fun b hb=>h b (List.mem_cons_of_mem _ hb)
  simp [PyData.canLayAll0,PyData.canLay0,h1,h2]
theorem u7A:∀ ss:List Str,PyData.depthAll (ss.map PyData.str)≤1
 | []=>by simp [PyData.depthAll]
 | z::ss=>by
  have:=u7A ss
  simp [PyData.depthAll,PyData.depth]
  omega
theorem u3O:∀ as:List Str,PyData.eqvAll (as.map PyData.str) (as.map PyData.str)=true
 | []=>rfl
 | a::as=>by
  show (PyData.eqv (.str a) (.str a)&&PyData.eqvAll (as.map PyData.str) (as.map PyData.str))=_
  rw [u3O as,eqv_str]
  simp
theorem v1b {ss:List Str} (h:∀ b∈ss,PyData.strOk b=true):cmpD (.lst (ss.map D.str))=.ok (.list (ss.map PyData.str)):=by
 have e:(D.lst (ss.map D.str)).py=some (.list (ss.map PyData.str)):=by simp [D.py,u6Z]
 have s:SeqAt.shaped (.list (ss.map PyData.str))=true:=by
  have d:=u7A ss
  simp [SeqAt.shaped,PyData.canLay0,u7k h,PyData.depth]
  omega
 unfold cmpD
 rw [e]
 simp [s]
theorem v0w {ss:List Str} (h:∀ b∈ss,PyData.strOk b=true):dNe (.lst (ss.map D.str)) (.lst (ss.map D.str))=.ok (.bl false):=by
 unfold dNe
 rw [v1b h]
 show Res.ok (D.bl (!PyData.eqvAll (ss.map PyData.str) (ss.map PyData.str)))=_
 rw [u3O]
 rfl
theorem u7a:∀ ss:List Int,D.pys (ss.map D.int)=some (ss.map PyData.int)
 | []=>rfl
 | z::ss=>by simp [D.pys,D.py,u7a ss]
theorem u7l:∀ ss:List Int,PyData.canLayAll0 (ss.map PyData.int)=true
 | []=>rfl
 | z::ss=>by simp [PyData.canLayAll0,PyData.canLay0,u7l ss]
theorem u7B:∀ ss:List Int,PyData.depthAll (ss.map PyData.int)≤1
 | []=>by simp [PyData.depthAll]
 | z::ss=>by
  have:=u7B ss
  simp [PyData.depthAll,PyData.depth]
  omega
theorem u5K:∀ as:List Int,PyData.eqvAll (as.map PyData.int) (as.map PyData.int)=true
 | []=>rfl
 | a::as=>by
  show (PyData.eqv (.int a) (.int a)&&PyData.eqvAll (as.map PyData.int) (as.map PyData.int))=_
  rw [u5K as,show PyData.eqv (.int a) (.int a)=(a==a) from rfl]
  simp
theorem v1c (ss:List Int):cmpD (.lst (ss.map D.int))=.ok (.list (ss.map PyData.int)):=by
 have e:(D.lst (ss.map D.int)).py=some (.list (ss.map PyData.int)):=by simp [D.py,u7a]
 have s:SeqAt.shaped (.list (ss.map PyData.int))=true:=by
  have d:=u7B ss
  simp [SeqAt.shaped,PyData.canLay0,u7l ss,PyData.depth]
  omega
 unfold cmpD
 rw [e]
 simp [s]
theorem v0x (ss:List Int):dNe (.lst (ss.map D.int)) (.lst (ss.map D.int))=.ok (.bl false):=by
 unfold dNe
 rw [v1c]
 show Res.ok (D.bl (!PyData.eqvAll (ss.map PyData.int) (ss.map PyData.int)))=_
 rw [u5K]
 rfl
theorem u1p (ds:List D):¬ lenNe (.lst ds) (.lst ds)=true:=by cases ds <;> exact Bool.false_ne_true
theorem u4L {ss:List Str} (h:∀ b∈ss,PyData.strOk b=true):dNeX (.lst (ss.map D.str)) (.lst (ss.map D.str))=.ok (.bl false):=by
 unfold dNeX
 rw [if_neg (u1p _),v0w h]
theorem pI_int (is:List Nat):pI is=(is.map Int.ofNat).map D.int:=by simp
theorem u7g (is:List Nat):dNeX (pD is) (pD is)=.ok (.bl false):=by
 unfold dNeX
 rw [if_neg (u1p _)]
 show dNe (.lst (pI is)) (.lst (pI is))=_
 rw [pI_int,v0x]
theorem u3k {d:D} (h:selfD d=true) (k:depD d≤60) (n:¬ lenNe d d=true):dEqX d d=.ok (.bl true):=by
 unfold dEqX
 rw [if_neg n,if_pos ⟨rfl,h,k⟩]
theorem u3n:∀ ss:List Str,selfDs (ss.map D.str)=true∧depDs (ss.map D.str)=0
 | []=>⟨rfl,rfl⟩
 | s::ss=>by
  have:=u3n ss
  simp [selfDs,selfD,depDs,depD,this]
theorem u4R (ss:List Str):dEqX (.lst (ss.map D.str)) (.lst (ss.map D.str))=.ok (.bl true) :=
 u3k (u3n ss).1 (by simp [depD,(u3n ss).2]) (u1p _)
mutual
theorem u9S:∀ {m:Md},Ok m→∀ s∈yd m,PyData.strOk s=true
 | .leaf s,.leaf h l,x,hx=>by simp [yd] at hx;subst hx;exact h
 | .node n cs,.node _ _ _ hc,x,hx=>v1j cs hc x hx
theorem v1j:∀ cs:List Md,(∀ c∈cs,Ok c)→∀ s∈yds cs,PyData.strOk s=true
 | [],_,x,hx=>by simp [yds] at hx
 | c::cs,h,x,hx=>by
  simp [yds] at hx
  rcases hx with hx | hx
  ·exact u9S (h c List.mem_cons_self) x hx
  ·exact v1j cs (fun c m=>h c (List.mem_cons_of_mem _ m)) x hx
end
structure Sub (K:W.Frag) (A:Adr):Prop where
 xb:xbB K A.NoPlace=true
 sb:subK K A.NoPlace A.TableError=true
structure AtM (A:Adr) (g:Addr→List D→Res D):Prop where
 ok:∀ C∈[A.Leaf,A.Node],∀ m is,Pth m is→is.length≤1000→g C [tr A m,pD is]=.ok (tr A (atN m is))
 no:∀ C∈[A.Leaf,A.Node],∀ m is x,Pth m is→is.length≤1000→NoPl (kids (atN m is)).length x→g C [tr A m,.lst (pI is++[x])]=.err (.exc A.NoPlace [("place",.lst (pI is++[x]))])
 nl:∀ C∈[A.Leaf,A.Node],∀ m d,gIsA [d,.ty "list"]=.ok (.bl false)→g C [tr A m,d]=.err (.exc A.NoPlace [("place",d)])
structure PutM (A:Adr) (G:FD):Prop where
 ok:∀ m is o,Pth m is→is.length≤1000→Ok m→G [tr A m,pD is,tr A o]=.ok (tr A (withN m is o))
 no:∀ m is x o,Pth m is→is.length≤1000→NoPl (kids (atN m is)).length x→G [tr A m,.lst (pI is++[x]),o]=.err (.exc A.NoPlace [("place",.lst (pI is++[x]))])
 nl:∀ m d o,gIsA [d,.ty "list"]=.ok (.bl false)→G [tr A m,d,o]=.err (.exc A.NoPlace [("place",d)])
structure Bad (m:Md) (p:D):Prop where
 h:(∃ is x,p=.lst (pI is++[x])∧Pth m is∧is.length≤1000∧NoPl (kids (atN m is)).length x)∨gIsA [p,.ty "list"]=.ok (.bl false)
 s:selfD p=true
 d:depD p≤60
 b:∃ b,gIsA [p,.ty "bool"]=.ok (.bl b)
 n:¬ lenNe p p=true
theorem Bad.at {A:Adr}{g:Addr→List D→Res D} (a:AtM A g) {m:Md}{p:D} (h:Bad m p):((isV [A.Leaf,A.Node] "at" (tr A m)).bind fun y=>g y.1 [y.2,p])=.err (.exc A.NoPlace [("place",p)]):=by
 rw [u5G A m (by decide +kernel)]
 have k:∀ C∈[A.Leaf,A.Node],g C [tr A m,p]=.err (.exc A.NoPlace [("place",p)]):=fun C hC=>by
  rcases h.h with ⟨is,x,rfl,h1,h2,h3⟩ | h
  ·exact a.no C hC m is x h1 h2 h3
  ·exact a.nl C hC m p h
 have h1:=k A.Leaf (by simp)
 have h2:=k A.Node (by simp)
 cases m <;> simp [h1,h2]
theorem Bad.put {A:Adr}{G:FD} (a:PutM A G) {m:Md}{p o:D} (h:Bad m p):G [tr A m,p,o]=.err (.exc A.NoPlace [("place",p)]):=by
 rcases h.h with ⟨is,x,rfl,h1,h2,h3⟩ | h
 ·exact a.no m is x o h1 h2 h3
 ·exact a.nl m p o h
theorem u8w {A:Adr}{g:Addr→List D→Res D} (p:∀ C d,C∈[A.Leaf,A.Node]→Kid A d→g C [d]=.ok (.int (tsz d))) (m:Md):((isV [A.Leaf,A.Node] "size" (tr A m)).bind fun y=>noE (g y.1 [y.2]))=.ok (.int (sz m)):=by
 rw [u7n p (u7m A m),v1n]
theorem u7z {A:Adr}{g:Addr→List D→Res D} (p:∀ C d,C∈[A.Leaf,A.Node]→Kid A d→g C [d]=.ok (.int (tdp d))) (m:Md):((isV [A.Leaf,A.Node] "depth" (tr A m)).bind fun y=>noE (g y.1 [y.2]))=.ok (.int (dp m)):=by
 rw [u5F p (u7m A m),u8s]
def SignsM (A:Adr) (g:Addr→List D→Res (List D)):Prop:=∀ C∈[A.Leaf,A.Node],∀ m,sz m≤10000→g C [tr A m]=.ok ((yd m).map D.str)
theorem u9Z {A:Adr}{g:Addr→List D→Res (List D)} (p:SignsM A g) (m:Md) (h:sz m≤10000):((isV [A.Leaf,A.Node] "signs" (tr A m)).bind fun y=>(g y.1 [y.2]).bind fun es=>Res.ok (OD.l es))=.ok (.l ((yd m).map D.str)):=by
 rw [u5G A m (by decide +kernel)]
 have h1:=p A.Leaf (by simp) m h
 have h2:=p A.Node (by simp) m h
 cases m <;> simp [h1,h2]
theorem u1H {A:Adr}{g:Addr→List D→Res (List D)} (p:SignsM A g) (m:Md) (h:sz m≤10000):((isV [A.Leaf,A.Node] "signs" (tr A m)).bind fun y=>asLs (g y.1) [y.2])=.ok (.lst ((yd m).map D.str)):=by
 rw [u5G A m (by decide +kernel)]
 have h1:=p A.Leaf (by simp) m h
 have h2:=p A.Node (by simp) m h
 cases m <;> simp [asLs,h1,h2]
theorem v0L (A:Adr) (m:Md):isO [(A.Leaf,true),(A.Node,true)] [(A.NoPlace,false)] (tr A m)=.ok (.bl true):=u9c (u7m A m)
theorem a_str_m (m:Md):gIsA [toD m,.ty "str"]=.ok (.bl (isLeafB m)):=by cases m <;> rfl
theorem neX_bl (b c:Bool):dNeX (.bl b) (.bl c)=.ok (.bl (b != c)):=by cases b <;> cases c <;> rfl
theorem v1z (b:Bool):dEqX (.bl b) (.bl b)=.ok (.bl true):=u3k rfl (by simp [depD]) (by cases b <;> exact Bool.false_ne_true)
section
variable {P:Program}{w:World}{K:W.Frag}{mg:MG}{base:Heap}{f:Addr}{fd:FuncData}{A:Adr}
theorem u6r {G__law_count:FD} (c__law_count:Callee P w K mg base 13 "_law_count" ["_law_model"] (spF K G__law_count)) {g_is_leaf:Addr→List D→Res D} (m_is_leaf:∀ C∈[A.Leaf,A.Node],MCalleeF P w K mg base 1 C "is_leaf" ["self"] (g_is_leaf C)) {g_size:Addr→List D→Res D} (m_size:∀ C∈[A.Leaf,A.Node],MCalleeF P w K mg base 1 C "size" ["self"] (g_size C)) {g_depth:Addr→List D→Res D} (m_depth:∀ C∈[A.Leaf,A.Node],MCalleeF P w K mg base 1 C "depth" ["self"] (g_depth C)) {g_signs:Addr→List D→Res (List D)} (mn_signs:∀ C∈[A.Leaf,A.Node],MCalleeN P w K mg base 2 C "signs" ["self"] (g_signs C)) (p_is_leaf:LeafM A g_is_leaf) (p_size:∀ C d,C∈[A.Leaf,A.Node]→Kid A d→g_size C [d]=.ok (.int (tsz d))) (p_depth:∀ C d,C∈[A.Leaf,A.Node]→Kid A d→g_depth C [d]=.ok (.int (tdp d))) (p_signs:SignsM A g_signs) {d:Nat} (p_count:CountM d G__law_count) (F:Fun K "_law_told" "_law_told" u2J f fd) (T:Txt K mg A):∃ G,FnOk P w K mg base (CXe P w) 14 f fd ["_law_tree","_law_model"] (spX K G)∧∀ m,dp m≤d→Ok m→sz m≤1000→G [tr A m,toD m]=.ok (.bl true):=by
 refine ⟨_,F.okTX (k:=13) u0H (fun cdv Ar outer s H E hr hq=>u0c (u9z (d_fn c__law_count hr (u0a (dv 1) u0b)) (u3Q (n:=3) rfl (u0t (dg_n u0H.nd) (u0t (dg_n u0H.nd) (u0t (dg_n u0H.nd) u2k)))))
  (u0c (u0C (dt_w (v1B (u0r (u1F (hu64 hr)) (d_op u1X (dv 3) u0d) u0d) (u9y (dt_w (u1e (u0r (u2R (hu64 hr)) (u1Y m_depth hr (dv 0)) (dv 4)) (u0Z (u0r (u2R (hu64 hr)) (u1Y m_size hr (dv 0)) (dv 3)))))))) (u0f (u0i d_bl)) u0p)
  (u0c (u3a u0H.nd (u9D hq mn_signs hr (dv 0)))
  (u0c (u0C (dt_w (u1e (u0y (u0n (u6K T.o_Tree T.m_Tree T.z_isinstance (by decide +kernel) (dv 0)))) (u1e (u0y (u0n (d_B u1Q T.z_isinstance (by decide +kernel) (u0a (dv 5) (u0a (d_ty T.z_list (T:="list") (by decide +kernel)) u0b))))) (u0Z (u0r (u2R (hu64 hr)) (dv 5) (dv 2)))))) (u0f (u0i d_bl)) u0p)
  (u0c (u0C (dt_w (u1e (u0y (u0n (d_B u1Q T.z_isinstance (by decide +kernel) (u0a (u1Y m_is_leaf hr (dv 0)) (u0a (d_ty T.z_bool (T:="bool") (by decide +kernel)) u0b))))) (u0Z (u0r (u2R (hu64 hr)) (u1Y m_is_leaf hr (dv 0)) (d_B u1Q T.z_isinstance (by decide +kernel) (u0a (dv 1) (u0a (d_ty T.z_str (T:="str") (by decide +kernel)) u0b))))))) (u0f (u0i d_bl)) u0p)
  (u0c (u9B 5 u0z)
  (u0c (u1D rfl (u1k (u0A (u0a (u1G (u0a (u1Y m_size hr (dv 0)) (u0a (dv 3) u0b))) (u0a (u1G (u0a (u1Y m_depth hr (dv 0)) (u0a (dv 4) u0b))) u0b)))) (u3Q (n:=2) rfl (u0t (dg_n u0H.nd) (u0t (dg_n u0H.nd) u2k)))
  (u0f (u0C (dt_w (u1e (u0y (u0n (d_B u1Q T.z_isinstance (by decide +kernel) (u0a (dv 6) (u0a (d_ty T.z_int (T:="int") (by decide +kernel)) u0b))))) (u1e (u0n (d_B u1Q T.z_isinstance (by decide +kernel) (u0a (dv 6) (u0a (d_ty T.z_bool (T:="bool") (by decide +kernel)) u0b)))) (u0Z (u0r (u2R (hu64 hr)) (dv 6) (dv 7)))))) (u0f (u0i d_bl)) u0p)) hq.ps)
  (u0f (u0i (u3R (u1F (hu64 hr)) (u2z hq (fun C h=>(mn_signs C h).mx) hr (dv 0)) (dv 2))))))))))),?_⟩
 intro m hd ok hz
 have at3:∀ a b c:D,asT 3 (.tup [a,b,c])=.ok [a,b,c]:=fun _ _ _=>rfl
 have at2:∀ a b:D,asT 2 (.tup [a,b])=.ok [a,b]:=fun _ _=>rfl
 have hs:=u9Z p_signs m (by omega)
 have hs2:=u1H p_signs m (by omega)
 have n1:=u4L (u9S ok)
 have e1:=u4R (yd m)
 have r2:dMod (.int (sz m:Int)) (.int 2)=.ok (.int ((sz m:Int)%2)):=u1c (by omega)
 have ab:∀ b:Bool,gIsA [.bl b,.ty "bool"]=.ok (.bl true):=fun _=>rfl
 have al:∀ l:List D,gIsA [.lst l,.ty "list"]=.ok (.bl true):=fun _=>rfl
 have ai:∀ i:Int,gIsA [.int i,.ty "int"]=.ok (.bl true):=fun _=>rfl
 have aj:∀ i:Int,gIsA [.int i,.ty "bool"]=.ok (.bl false):=fun _=>rfl
 have yl:=u9R m
 have hz2:(yd m).length<sizeLine:=Nat.lt_of_le_of_lt (show _≤1000 by omega) (by decide)
 simp [runX,startD,p_count m hd ok hz,at3,r2,u8w p_size,u7z p_depth,hs,u0K p_is_leaf,eqI,neI,v0L,n1,al,ab,neX_bl,a_str_m,hz2,u1d,forD,at2,ai,aj,hs2,e1]
theorem u4a {G_put_in:FD} (c_put_in:CalleeX P w K mg base 5 "put_in" ["tree","path","other"] G_put_in) {g_Leaf:List D→Res (List (Str×D))} (k_Leaf:KCalleeF P w K mg base 1 "Leaf" A.Leaf ["self","sign"] g_Leaf) {g_at:Addr→List D→Res D} (m_at:∀ C∈[A.Leaf,A.Node],MCallee P w K mg base 4 C "at" ["self","path"] (g_at C)) (S:Sub K A) (p_at:AtM A g_at) (p_put:PutM A G_put_in) (p_Leaf:∀ s:Str,g_Leaf [.str s]=.ok [("sign",.str s),("tree_size",.int 1),("tree_depth",.int 1)]) (F:Fun K "_law_refused" "_law_refused" u1w f fd) (T:Txt K mg A):∃ G,FnOk P w K mg base (CXe P w) 6 f fd ["_law_tree","_law_path","_law_way"] (spX K G)∧∀ m p w,w=0∨w=1→Bad m p→G [tr A m,p,.int w]=.ok (.bl true):=by
 refine ⟨_,F.okTX (k:=5) u0R (fun cdv Ar outer s H E hr hq=>u0c (ds_n u0R.nd d_non)
  (u0c (ds_try ⟨rfl,rfl⟩ (fun pn xq1 hq=>u0f (u0C (u0r (u1F (hu64 hr)) (dv 2) u0d) (u0f (u9A (u4W hq m_at hr (dv 0) (u0a (dv 1) u0b)))) (u0f (u9A (u2V hq c_put_in hr (u0a (dv 0) (u0a (dv 1) (u0a (u0P k_Leaf hr (u0a u0z u0b)) u0b))))))))
  (dh_asK (i:=4) ⟨rfl,rfl⟩ u0R.nd T.m_TableError T.b_TableError (fun ex=>u0f (ds_n u0R.nd (dv 4)))
  (dh_nil hq)))
  (u0c (u0C (u0y (u0n (u6K T.o_NoPlace T.m_NoPlace T.z_isinstance (by decide +kernel) (dv 3)))) (u0f (u0i d_bl)) u0p)
  (u0f (u0i (u4d (u3R (u1F (hu64 hr)) (v1F T.x_place (dv 3)) (dv 1)) (u6J (u3R (u1F (hu64 hr)) (d_B u1Q T.z_isinstance (by decide +kernel) (u0a (v1F T.x_place (dv 3)) (u0a (d_ty T.z_bool (T:="bool") (by decide +kernel)) u0b))) (d_B u1Q T.z_isinstance (by decide +kernel) (u0a (dv 1) (u0a (d_ty T.z_bool (T:="bool") (by decide +kernel)) u0b))))))))))),?_⟩
 intro m p w hw hb
 have e0:=eqI w 0
 have h1:=hb.at p_at
 have h2:=fun o=>hb.put (o:=o) p_put
 obtain ⟨b,h3⟩:=hb.b
 have h4:=u3k hb.s hb.d hb.n
 have io:isO [(A.Leaf,false),(A.Node,false)] [(A.NoPlace,true)] (.exc A.NoPlace [("place",p)])=.ok (.bl true):=by
  show lookB _ A.NoPlace=_
  unfold lookB
  simp [List.lookup]
 rcases hw with rfl | rfl
 ·simp [runX,startD,e0,h1,h3,h4,v1z,hdAs,S.xb,S.sb,io,lk_eq]
 ·simp [runX,startD,e0,h2,h3,h4,v1z,p_Leaf,hdAs,S.xb,S.sb,io,lk_eq]
end
theorem u2l {m:Md}{is:List Nat}{x:D} (hp:Pth m is) (hl:is.length≤1000) (n:NoPl (kids (atN m is)).length x) (hs:selfD x=true) (hd:depD x≤10):Bad m (.lst (pI is++[x])):=by
 have h1:∀ js:List Nat,selfDs (pI js++[x])=true∧depDs (pI js++[x])≤10:=fun js=>by
  induction js with
  | nil=>simp [selfDs,depDs,hs];exact hd
  | cons j js ih =>
   have:selfDs (D.int (j:Int)::(pI js++[x]))=true∧depDs (D.int (j:Int)::(pI js++[x]))≤10:=by
    simp only [selfDs,selfD,depDs,depD,Bool.true_and]
    exact ⟨ih.1,by omega⟩
   simpa using this
 exact ⟨.inl ⟨is,x,rfl,hp,hl,n⟩,(h1 is).1,by have:=(h1 is).2;simp only [depD];omega,⟨false,rfl⟩,u1p _⟩
theorem u3o:∀ is:List Nat,selfDs (pI is)=true∧depDs (pI is)=0
 | []=>⟨rfl,rfl⟩
 | i::is=>by
  have:=u3o is
  simp only [List.map_cons,selfDs,selfD,depDs,depD,this]
  exact ⟨rfl,rfl⟩
theorem comp2 {x:Option Sl}{fe:Rho→Res D} (h:D→D) {ds:List D} (k:∀ d∈ds,fe [some (.val d),x]=.ok (h d)):compD (fun d ρ=>.ok (ρ.set 0 (some (.val d)))) (fun _=>.ok true) fe [none,x] ds=.ok (ds.map h):=by
 have:=comp2m (c:=id) (x:=x) (fe:=fe) (ds:=ds) h k
 simpa using this
abbrev things (n:Nat):List D:=[.int (n:Int),.int (-1),.bl true,.str "0",.non,.lst [.int 0],.int 100000000000000000000]
abbrev badL (is:List Nat) (n:Nat):List D:=(things n).map (fun x=>D.lst (pI is++[x]))++[.tup (pI is),.non,.int 0,.str "",.bl true,.dct [],.str "[]"]
theorem bad_all {m:Md}{is:List Nat} (hp:Pth m is) (hl:is.length≤1000) (hk:(kids (atN m is)).length≤1000):∀ p∈badL is (kids (atN m is)).length,Bad m p:=fun p hm=>by
 rcases List.mem_append.mp hm with hm | hm
 ·obtain ⟨x,hx,rfl⟩:=List.mem_map.mp hm
  simp only [things,List.mem_cons,List.not_mem_nil,or_false] at hx
  rcases hx with rfl | rfl | rfl | rfl | rfl | rfl | rfl
  ·exact u2l hp hl (.hi (Int.le_refl _)) rfl (by simp [depD])
  ·exact u2l hp hl (.lo (by omega)) rfl (by simp [depD])
  ·exact u2l hp hl .b rfl (by simp [depD])
  ·exact u2l hp hl .s rfl (by simp [depD])
  ·exact u2l hp hl .n rfl (by simp [depD])
  ·exact u2l hp hl .l rfl (by simp [depD,depDs])
  ·exact u2l hp hl (.hi (by omega)) rfl (by simp [depD])
 ·simp only [List.mem_cons,List.not_mem_nil,or_false] at hm
  rcases hm with rfl | rfl | rfl | rfl | rfl | rfl | rfl
  ·exact ⟨.inr rfl,(u3o is).1,by simp [depD,(u3o is).2],⟨_,rfl⟩,Bool.false_ne_true⟩
  ·exact ⟨.inr rfl,rfl,by simp [depD],⟨_,rfl⟩,Bool.false_ne_true⟩
  ·exact ⟨.inr rfl,rfl,by simp [depD],⟨_,rfl⟩,Bool.false_ne_true⟩
  ·exact ⟨.inr rfl,rfl,by simp [depD],⟨_,rfl⟩,Bool.false_ne_true⟩
  ·exact ⟨.inr rfl,rfl,by simp [depD],⟨_,rfl⟩,Bool.false_ne_true⟩
  ·exact ⟨.inr rfl,rfl,by simp [depD],⟨_,rfl⟩,Bool.false_ne_true⟩
  ·exact ⟨.inr rfl,rfl,by simp [depD],⟨_,rfl⟩,Bool.false_ne_true⟩
theorem ok_at:∀ {m:Md}{is:List Nat},Pth m is→Ok m→Ok (atN m is)
 | m,[],_,ok=>ok
 | m,i::is,.cons h t,ok=>by
  simp only [atN,h]
  exact ok_at t (ok.kid (List.mem_of_getElem? h))
theorem rhoC13 (a b c d e f g:Option Sl):rhoC 1 [3] [a,b,c,d,e,f,g]=[none,d]:=by simp [rhoC]
section
variable {P:Program}{w:World}{K:W.Frag}{mg:MG}{base:Heap}{f:Addr}{fd:FuncData}{A:Adr}
theorem u3f {G__law_at:FD} (c__law_at:Callee P w K mg base 1 "_law_at" ["_law_model","_law_path"] (spF K G__law_at)) (p_at:∀ m is,Pth m is→G__law_at [toD m,pD is]=.ok (toD (atN m is))) (F:Fun K "_law_bad_paths" "_law_bad_paths" u0N f fd) (T:Txt K mg A):∃ G,FnOk P w K mg base CX0 2 f fd ["_law_model","_law_paths_here","_law_cell_here"] (spF K G)∧∀ m (ps:List (List Nat)) (c:Int),(∀ p∈ps,Pth m p∧p.length≤900)→ps≠[]→Ok m→∃ l,G [toD m,.lst (pDs ps),.int c]=.ok (.lst l)∧∀ p∈l,Bad m p:=by
 refine ⟨_,F.okT (k:=1) u0s (fun cdv Ar outer s H E hr=>u0c (ds_n u0s.nd (d_ix x_ix (dv 1) (d_op u1X (dv 2) (d_B u3h T.z_len (by decide +kernel) (u0a (dv 1) u0b)))))
  (u0c (ds_n u0s.nd (d_fn c__law_at hr (u0a (dv 0) (u0a (dv 3) u0b))))
  (u0c (ds_n u0s.nd u0d)
  (u0c (u0C (u0y (u0n (d_B u1Q T.z_isinstance (by decide +kernel) (u0a (dv 4) (u0a (d_ty T.z_str (T:="str") (by decide +kernel)) u0b))))) (u0f (ds_n u0s.nd (d_B u3h T.z_len (by decide +kernel) (u0a (d_ix x_ix (dv 4) u0d) u0b)))) u0p)
  (u0c (u7x ["_law_thing"] [3] rfl (u1q (sc:=defScope u0N) (N:=["_law_model","_law_paths_here","_law_cell_here","_law_path","_law_here","_law_many","_law_some"]) (by decide +kernel)) u0s.nd (u1k (u0A (u0a (dv 5) (u0a (d_un u_neg u0d) (u0a d_bl (u0a u0z (u0a d_non (u0a (u0A (u0a u0d u0b)) (u0a (d_op o_pow u0d u0d) u0b))))))))) (dg_n (show (["_law_thing","_law_path"]:List Str).Nodup by decide +kernel)) u5N (d_op u1f (dv 1) (u0A (u0a (dv 0) u0b))))
  (u0f (u0i (d_op u1f (dv 6) (u0A (u0a (d_T u9N T.z_tuple (by decide +kernel) (u0a (dv 3) u0b)) (u0a d_non (u0a u0d (u0a u0z (u0a d_bl (u0a (DN.de dd_new) (u0a u0z u0b)))))))))))))))),?_⟩
 intro m ps c hp hne ok
 have hl:0<ps.length:=List.length_pos_iff.mpr hne
 obtain ⟨i,ei,hi⟩:=modI c (b:=ps.length) hl
 have r1:dMod (.int c) (.int (ps.length:Int))=.ok (.int (i:Int)):=by rw [u1c (by omega),ei]
 have r2:dIx (.lst (pDs ps)) (.int (i:Int))=.ok (pD ps[i]):=ix_mm (List.getElem?_eq_getElem hi)
 obtain ⟨h1,h2⟩:=hp ps[i] (List.getElem_mem hi)
 generalize ps[i]=is at r2 h1 h2
 have r3:=p_at m is h1
 have rp:dPow (.int 10) (.int 20)=.ok (.int 100000000000000000000):=by
  show gd _ _=_
  rw [u0F (show CPow 10 20 by decide)]
  rfl
 have ll:gLen [.lst (pDs ps)]=.ok (.int (ps.length:Int)):=by rw [u9b];simp
 have hk:(kids (atN m is)).length≤1000:=by
  have:=ok_at h1 ok
  generalize atN m is=y at this
  cases this with
  | leaf=>simp [kids]
  | node _ _ hl _=>exact hl
 refine ⟨_,?_,bad_all h1 (by omega) hk⟩
 have cm:∀ n:Nat,compD (fun d ρ=>.ok (ρ.set 0 (some (.val d)))) (fun _=>.ok true) (fun ρ=>(getV ρ 1).bind fun x=>(((getV ρ 0).bind fun d=>Res.ok [d]).bind fun ds=>szD ds (Res.ok (D.lst ds))).bind fun y=>noE (dAdd x y)) [none,some (.val (pD is))] (things n)=.ok ((things n).map fun x=>.lst (pI is++[x])):=fun n=>comp2 (fun x=>.lst (pI is++[x])) fun d hd=>by
  have:dAdd (pD is) (.lst [d])=.ok (.lst (pI is++[d])):=u3U (by simp;omega)
  simp [this]
 have hz:7≤sizeLine:=u6B (by decide)
 have ea:∀ n:Nat,dAdd (.lst ((things n).map fun x=>.lst (pI is++[x]))) (.lst [.tup (pI is),.non,.int 0,.str "",.bl true,.dct [],.str "[]"])=.ok (.lst (badL is n)):=fun n=>u3U (by simp)
 have et:gTuple [pD is]=.ok (.tup (pI is)):=rfl
 have pw:gd (CPow 10 20) (Res.ok (D.int 100000000000000000000))=.ok (.int 100000000000000000000):=u0F (by decide)
 have z7:∀ (a:D) (r:Res D),szD [a,.non,.int 0,.str "",.bl true,.dct [],.str "[]"] r=r:=fun a r=>u5b (by simp)
 have od:(OD.d []).toD=.dct []:=rfl
 generalize hP:pD is=pp at r2 r3 cm et
 cases ha:atN m is with
 | leaf s =>
  rw [ha] at r3
  have cm0:=cm 0
  have ea0:=ea 0
  simp only [things,List.map_cons,List.map_nil,show ((0:Nat):Int)=0 from rfl] at cm0 ea0
  rw [show (kids (Md.leaf s)).length=0 from rfl]
  simp [runT,startD,ll,r1,r2,r3,u4r,ng,pw,u1d,rhoC13,hz,et,od]
  rw [cm0]
  simp only [Res.bind_ok,L2.go_ok,Out.then_nx,u9p,u9r,u3K,u3J,u7O,et,u3D,z7,ea0,u8T]
 | node n cs =>
  rw [ha] at r3
  have cm0:=cm cs.length
  have ea0:=ea cs.length
  simp only [things,List.map_cons,List.map_nil] at cm0 ea0
  rw [show (kids (Md.node n cs)).length=cs.length from rfl]
  simp [runT,startD,ll,r1,r2,r3,u2B,u6F,u9b,u1s,ng,pw,u1d,rhoC13,hz,et,od]
  rw [cm0]
  simp only [Res.bind_ok,L2.go_ok,Out.then_nx,u9p,u9r,u3K,u3J,u7O,et,u3D,z7,ea0,u8T]
end
theorem u4Z:∀ {m:Md}{is:List Nat}{o:Md},Pth m is→withN m is o=m→o=atN m is
 | m,[],o,_,h=>h
 | .leaf s,i::is,o,.cons h t,e=>by simp [kids] at h
 | .node n cs,i::is,o,.cons (c:=c) h t,e=>by
  have h':cs[i]?=some c:=h
  have hi:=(List.getElem?_eq_some_iff.mp h').1
  rw [withN] at e
  simp only [h'] at e
  have e2:=(Md.node.inj e).2
  have e3:(cs.set i (withN c is o))[i]?=cs[i]?:=by rw [e2]
  rw [List.getElem?_set_self hi,h'] at e3
  have:=u4Z t (Option.some.inj e3)
  simp only [atN,h]
  exact this
theorem u4I:∀ {m:Md}{is:List Nat}{o:Md},Pth m is→Ok m→Ok o→Ok (withN m is o)
 | m,[],o,_,_,h=>h
 | .leaf s,i::is,o,.cons h t,_,_=>by simp [kids] at h
 | .node n cs,i::is,o,.cons (c:=c) h t,ok,h2=>by
  have h':cs[i]?=some c:=h
  rw [withN]
  simp only [h']
  cases ok with
  | node h0 h1 hl hc =>
   refine .node h0 h1 (by simpa using hl) fun x hx=>?_
   rcases List.mem_or_eq_of_mem_set hx with hx | rfl
   ·exact hc x hx
   ·exact u4I t (hc c (List.mem_of_getElem? h')) h2
theorem u9C {cs:List Md}{d:Nat} (h:∀ c∈cs,dp c≤d):dps cs≤d:=by
 induction cs with
 | nil=>exact Nat.zero_le _
 | cons c cs ih =>
  have h1:=h c List.mem_cons_self
  have h2:=ih fun x m=>h x (List.mem_cons_of_mem _ m)
  simp only [dps]
  omega
theorem u4T:∀ {m:Md}{is:List Nat}{o:Md},Pth m is→dp (withN m is o)≤max (dp m) (is.length+dp o)
 | m,[],o,_=>by simp [withN];omega
 | .leaf s,i::is,o,.cons h t=>by simp [kids] at h
 | .node n cs,i::is,o,.cons (c:=c) h t=>by
  have h':cs[i]?=some c:=h
  rw [withN]
  simp only [h',dp,List.length_cons]
  have ih:=u4T (o:=o) t
  have hc:=u1m (List.mem_of_getElem? h')
  have:dps (cs.set i (withN c is o))≤max (dps cs) (is.length+dp o):=u9C fun x hx=>by
   rcases List.mem_or_eq_of_mem_set hx with hx | rfl
   ·have:=u1m hx;omega
   ·omega
  omega
theorem v0Z:∀ {m:Md}{is:List Nat},Pth m is→is.length+dp (atN m is)≤dp m
 | m,[],_=>by simp [atN]
 | .leaf s,i::is,.cons h t=>by simp [kids] at h
 | .node n cs,i::is,.cons (c:=c) h t=>by
  have h':cs[i]?=some c:=h
  have ih:=v0Z t
  have hc:=u1m (List.mem_of_getElem? h')
  simp only [atN,h,dp,List.length_cons]
  omega
theorem gd_at:∀ {m:Md}{is:List Nat},Pth m is→Gd m→Gd (atN m is)
 | m,[],_,g=>g
 | .leaf s,i::is,.cons h t,_=>by simp [kids] at h
 | .node n cs,i::is,.cons (c:=c) h t,g=>by
  have h':cs[i]?=some c:=h
  cases g with
  | node h0 h1 hl hc =>
   simp only [atN,h]
   exact gd_at t (hc c (List.mem_of_getElem? h'))
theorem q_no:("q":Str)∉SIGNS:=by decide +kernel
theorem q_ok:Ok (.leaf "q"):=.leaf (by decide +kernel) (by decide +kernel)
theorem a_ok:Ok (.leaf "a"):=.leaf (by decide +kernel) (by decide +kernel)
theorem b_ok:Ok (.leaf "b"):=.leaf (by decide +kernel) (by decide +kernel)
theorem toD_q:toD (.leaf "q")=.str "q":=rfl
theorem u4K {n:Int}{cs cs':List Md}{k:Int} (g:Ok (.node n cs)) (h0:0≤k) (h1:k<1000) (hl:cs'.length≤1000) (h:∀ c∈cs',c∈cs∨Ok c):Ok (.node k cs'):=by
 cases g with
 | node _ _ _ hc=>exact .node h0 h1 hl fun c m=>(h c m).elim (hc c) id
section
variable {P:Program}{w:World}{K:W.Frag}{mg:MG}{base:Heap}{f:Addr}{fd:FuncData}{A:Adr}
theorem u5m {G__law_at:FD} (c__law_at:Callee P w K mg base 1 "_law_at" ["_law_model","_law_path"] (spF K G__law_at)) {G__law_with:FD} (c__law_with:Callee P w K mg base 13 "_law_with" ["_law_model","_law_path","_law_other_here"] (spF K G__law_with)) {d:Nat} (p_at:∀ m is,Pth m is→G__law_at [toD m,pD is]=.ok (toD (atN m is))) (p_with:WithM d G__law_with) (F:Fun K "_law_other" "_law_other" u2d f fd) (T:Txt K mg A):∃ G,FnOk P w K mg base CX0 14 f fd ["_law_model","_law_path","_law_cell_here"] (spF K G)∧∀ m is (c:Int),Pth m is→is.length<d→Gd m→∃ m',G [toD m,pD is,.int c]=.ok (toD m')∧m'≠m∧Ok m'∧dp m'≤dp m+1:=by
 refine ⟨_,F.okT (k:=13) u0I (fun cdv Ar outer s H E hr=>u0c (ds_n u0I.nd (d_fn c__law_at hr (u0a (dv 0) (u0a (dv 1) u0b))))
  (u0c (u0C (u0n (d_B u1Q T.z_isinstance (by decide +kernel) (u0a (dv 3) (u0a (d_ty T.z_str (T:="str") (by decide +kernel)) u0b)))) (u0f (u0i (d_fn c__law_with hr (u0a (dv 0) (u0a (dv 1) (u0a u0z u0b)))))) u0p)
  (u0c (u9z (dv 3) (u3Q (n:=2) rfl (u0t (dg_n u0I.nd) (u0t (dg_n u0I.nd) u2k))))
  (u0c (ds_n u0I.nd (d_ix x_ix (u0A (u0a (u1G (u0a (d_op u1X (d_op u1f (dv 4) u0d) u0d) (u0a (dv 5) u0b))) (u0a (u1G (u0a (dv 4) (u0a (d_op u1f (d_sl (dv 5) u2U (u2T u0d)) (u0A (u0a u0z u0b))) u0b))) (u0a (u1G (u0a (dv 4) (u0a (d_sl (dv 5) (u2T u0d) u2U) u0b))) u0b)))) (d_op u1X (dv 2) u0d)))
  (u0c (u0C (dt_w (v1B (u0r (u1F (hu64 hr)) (dv 5) (u0A u0b)) (u9y (u0r (u1F (hu64 hr)) (d_op u1X (dv 2) u0d) u0d)))) (u0f (ds_n u0I.nd (u1G (u0a (dv 4) (u0a (u0A (u0a u0z u0b)) u0b))))) u0p)
  (u0f (u0i (d_fn c__law_with hr (u0a (dv 0) (u0a (dv 1) (u0a (dv 6) u0b))))))))))),?_⟩
 intro m is c hp hl g
 have r3:=p_at m is hp
 have w:∀ o,G__law_with [toD m,pD is,toD o]=.ok (toD (withN m is o)):=fun o=>p_with m is o hl hp g.ok
 have wq:=w (.leaf "q")
 rw [toD_q] at wq
 have hd:=v0Z hp
 have fin:∀ o,o≠atN m is→Ok o→dp o≤dp (atN m is)+1→∃ m',Res.ok (toD (withN m is o))=.ok (toD m')∧m'≠m∧Ok m'∧dp m'≤dp m+1:=fun o h1 h2 h3 =>
  ⟨withN m is o,rfl,fun e=>h1 (u4Z hp e),u4I hp g.ok h2,by have:=u4T (o:=o) hp;omega⟩
 have gh:=gd_at hp g
 generalize pD is=pp at r3 w wq
 cases ha:atN m is with
 | leaf s =>
  rw [ha] at r3 gh fin
  obtain ⟨m',e,f⟩:=fin (.leaf "q") (fun e=>by cases e;cases gh with | leaf h=>exact q_no h) q_ok (by simp [dp])
  refine ⟨m',?_,f⟩
  rw [← e]
  simp [runT,startD,r3,u4r,wq]
 | node n cs =>
  rw [ha] at r3 gh fin
  cases gh with
  | node h0 h1 hcl hc =>
   have okh:Ok (.node n cs):=(Gd.node h0 h1 hcl hc).ok
   obtain ⟨i,ei,hi⟩:=modI c (b:=3) (by omega)
   have r1:dMod (.int c) (.int 3)=.ok (.int (i:Int)):=by rw [u1c (by omega)];exact congrArg (fun z=>Res.ok (D.int z)) ei
   have r4:dMod (.int (n+1)) (.int 20)=.ok (.int ((n+1)%20)):=u1c (by omega)
   have s1:dSl (.lst (toDs cs)) none (some 3)=.ok (.lst (toDs (cs.take 3))):=by
    show Res.ok (D.lst (cutC _ none (some ((3:Nat):Int))))=_
    rw [v1H,u0G,u0G,List.map_take]
   have s2:dSl (.lst (toDs cs)) (some 1) none=.ok (.lst (toDs (cs.drop 1))):=by
    show Res.ok (D.lst (cutC _ (some ((1:Nat):Int)) none))=_
    rw [u7C,u0G,u0G,List.map_drop]
   have s3:dAdd (.lst (toDs (cs.take 3))) (.lst [.str "q"])=.ok (.lst (toDs (cs.take 3++[.leaf "q"]))):=by
    rw [u3U (by rw [u1s];simp;omega),u6P]
    rfl
   have ee:dEqX (.lst (toDs cs)) (.lst [])=.ok (.bl cs.isEmpty):=by
    cases cs with
    | nil=>exact v1y
    | cons=>exact u9w _ _
   have wn:∀ k cs',G__law_with [toD m,pp,.tup [.int k,.lst (toDs cs')]]=.ok (toD (withN m is (.node k cs'))):=fun k cs'=>w (.node k cs')
   have at2:∀ a b:D,asT 2 (.tup [a,b])=.ok [a,b]:=fun _ _=>rfl
   have aN:asT 2 (toD (.node n cs))=.ok [.int n,.lst (toDs cs)]:=rfl
   have eI:=eqI (i:Int) 2
   match i,hi with
   | 0,_ =>
    obtain ⟨m',e,f⟩:=fin (.node ((n+1)%20) cs) (fun e=>by have:=(Md.node.inj e).1;omega) (u4K okh (by omega) (by omega) (by omega) fun c m=>.inl m) (by simp [dp])
    refine ⟨m',?_,f⟩
    rw [← e]
    have r1:dMod (.int c) (.int 3)=.ok (.int 0):=r1
    have e2:dEqX (.int 0) (.int 2)=.ok (.bl false):=eqI 0 2
    cases hb:cs.isEmpty <;> simp [runT,startD,r3,u2B,aN,r4,r1,s1,s2,s3,asI,u2w,u6E,u6D,wn,ee,hb,e2]
   | 1,_ =>
    obtain ⟨m',e,f⟩:=fin (.node n (cs.take 3++[.leaf "q"])) (fun e=>by
     have e1:=(Md.node.inj e).2
     have:Md.leaf "q"∈cs:=by rw [← e1];simp
     cases hc _ this with | leaf h=>exact q_no h) (u4K okh h0 (by omega) (by simp;omega) fun c m=>by
      rcases List.mem_append.mp m with m | m
      ·exact .inl (List.mem_of_mem_take m)
      ·rw [List.mem_singleton.mp m];exact .inr q_ok) (by
      have:dps (cs.take 3)≤dps cs:=u9C fun c m=>u1m (List.mem_of_mem_take m)
      simp only [dp,u6I,dps]
      omega)
    refine ⟨m',?_,f⟩
    rw [← e]
    have r1:dMod (.int c) (.int 3)=.ok (.int 1):=r1
    have e2:dEqX (.int 1) (.int 2)=.ok (.bl false):=eqI 1 2
    cases hb:cs.isEmpty <;> simp [runT,startD,r3,u2B,aN,r4,r1,s1,s2,s3,asI,u2w,u6E,u6D,wn,ee,hb,e2]
   | 2,_ =>
    have r1:dMod (.int c) (.int 3)=.ok (.int 2):=r1
    have e2:dEqX (.int 2) (.int 2)=.ok (.bl true):=eqI 2 2
    cases hb:cs.isEmpty with
    | true =>
     have hcs:=List.isEmpty_iff.mp hb
     obtain ⟨m',e,f⟩:=fin (.node n [.leaf "a"]) (fun e=>by have:=(Md.node.inj e).2;rw [hcs] at this;cases this) (u4K okh h0 (by omega) (by simp) fun c m=>by rw [List.mem_singleton.mp m];exact .inr a_ok) (by rw [hcs];simp [dp,dps])
     refine ⟨m',?_,f⟩
     rw [← e]
     have wa:G__law_with [toD m,pp,.tup [.int n,.lst [.str "a"]]]=.ok (toD (withN m is (.node n [.leaf "a"]))):=w (.node n [.leaf "a"])
     simp [runT,startD,r3,u2B,aN,r4,r1,s1,s2,s3,asI,u2w,u6E,u6D,wa,ee,hb,e2]
    | false =>
     obtain ⟨m',e,f⟩:=fin (.node n (cs.drop 1)) (fun e=>by
      have:=congrArg List.length (Md.node.inj e).2
      cases cs with
      | nil=>simp at hb
      | cons x cs=>simp at this) (u4K okh h0 (by omega) (by simp;omega) fun c m=>.inl (List.mem_of_mem_drop m)) (by
      have:dps (cs.drop 1)≤dps cs:=u9C fun c m=>u1m (List.mem_of_mem_drop m)
      simp only [dp]
      omega)
     refine ⟨m',?_,f⟩
     rw [← e]
     simp [runT,startD,r3,u2B,aN,r4,r1,s1,s2,s3,asI,u2w,u6E,u6D,wn,ee,hb,e2]
end
abbrev D1 (m:Md):Md:=.node 3 [m,m]
abbrev D2 (m:Md):Md:=.node 4 [D1 m,D1 m]
theorem d2_ok {m:Md} (h:Ok m):Ok (D2 m):=by
 have h1:Ok (D1 m):=.node (by decide) (by decide) (by simp) fun c hc=>by
  simp at hc;rw [hc];exact h
 exact .node (by decide) (by decide) (by simp) fun c hc=>by
  simp at hc;rw [hc];exact h1
theorem u7h {A:Adr}{g_Node:List D→Res (List (Str×D))} (p_Node:∀ (n:Int) (ms:List Md),ms.length≤1000→∀ {c:D},rowOf c=some (trs A ms)→g_Node [.int n,c]=.ok [("number",.int n),("children",.tup (trs A ms)),("tree_size",.int (1+szs ms)),("tree_depth",.int (1+dps ms))]) (n:Int) (ms:List Md) (h:ms.length≤1000) {c:D} (e:rowOf c=some (trs A ms)) :
  ((noE (g_Node [.int n,c])).bind fun gs=>Res.ok (D.ins A.Node gs))=.ok (tr A (.node n ms)):=by
 rw [p_Node n ms h e]
 rfl
theorem u8Z {A:Adr}{g_Leaf:List D→Res (List (Str×D))} (p_Leaf:∀ s:Str,g_Leaf [.str s]=.ok [("sign",.str s),("tree_size",.int 1),("tree_depth",.int 1)]) (s:Str):((noE (g_Leaf [.str s])).bind fun gs=>Res.ok (D.ins A.Leaf gs))=.ok (tr A (.leaf s)):=by
 rw [p_Leaf s]
 rfl
theorem isnB (a b:Bool):dIsNotB (.bl a) (.bl b)=.ok (.bl (!(a==b))):=rfl
theorem u8Y {x:D}{k:Nat} (h:k≤1000):dMulX (.lst [x]) (.int (k:Int))=.ok (.lst (List.replicate k x)):=by
 show gd _ (Res.ok (D.lst (List.replicate (k:Int).toNat [x]).flatten))=_
 rw [u0F ⟨by omega,by omega,Nat.le_trans (show _≤1000 by simp;omega) (by decide)⟩,Int.toNat_natCast]
 congr 2
 induction k with
 | zero=>rfl
 | succ k ih=>rw [List.replicate_succ,List.flatten_cons,ih (by omega)];rfl
theorem at_tr {A:Adr}{g:Addr→List D→Res D} (a:AtM A g) {m:Md}{is:List Nat} (h:Pth m is) (hl:is.length≤1000):((isV [A.Leaf,A.Node] "at" (tr A m)).bind fun y=>g y.1 [y.2,pD is])=.ok (tr A (atN m is)):=by
 rw [u5G A m (by decide +kernel)]
 have h1:=a.ok A.Leaf (by simp) m is h hl
 have h2:=a.ok A.Node (by simp) m is h hl
 cases m <;> simp [h1,h2]
noncomputable def chn (s:Str) (n:Int):Nat→Md
 | 0=>.leaf s
 | k+1=>.node ((n+k)%20) [chn s n k,.leaf "b"]
abbrev zs (k:Nat):List Nat:=List.replicate k 0
theorem u6L (s:Str) (n:Int):∀ k,Pth (chn s n k) (zs k)
 | 0=>.nil
 | k+1=>.cons (c:=chn s n k) rfl (u6L s n k)
theorem u9J {s:Str} (h:Ok (.leaf s)) (n:Int):∀ k,Ok (chn s n k)
 | 0=>h
 | k+1=>.node (by omega) (by omega) (by simp) fun c hc=>by
  simp at hc
  rcases hc with rfl | rfl
  ·exact u9J h n k
  ·exact b_ok
theorem u7E (s t:Str) (n:Int):∀ k,withN (chn s n k) (zs k) (.leaf t)=chn t n k
 | 0=>rfl
 | k+1=>by
  have:=u7E s t n k
  show withN (.node ((n+k)%20) [chn s n k,.leaf "b"]) (0::zs k) (.leaf t)=_
  rw [withN]
  simp [this,chn]
theorem v1J (s:Str) (n:Int):∀ k,atN (chn s n k) (zs k)=.leaf s
 | 0=>rfl
 | k+1=>by
  have:=v1J s n k
  show atN (.node ((n+k)%20) [chn s n k,.leaf "b"]) (0::zs k)=_
  simp [atN,kids,this]
theorem u7G (s:Str) (n:Int):∀ k,Pth (chn s n (k+1)) (zs k)∧∃ i,atN (chn s n (k+1)) (zs k)=.node i [.leaf s,.leaf "b"]
 | 0=>⟨.nil,_,rfl⟩
 | k+1=>by
  obtain ⟨h1,i,h2⟩:=u7G s n k
  refine ⟨.cons (c:=chn s n (k+1)) rfl h1,i,?_⟩
  show atN (.node ((n+(k+1:Nat))%20) [chn s n (k+1),.leaf "b"]) (0::zs k)=_
  simp [atN,kids,h2]
theorem v1I (s:Str) (n:Int):∀ k,dp (chn s n k)=k+1
 | 0=>rfl
 | k+1=>by have:=v1I s n k;simp [chn,dp,dps,this]
theorem u7F (s:Str) (n:Int):∀ k,sz (chn s n k)=2*k+1
 | 0=>rfl
 | k+1=>by have:=u7F s n k;simp [chn,sz,szs,this];omega
theorem u7D (s:Str) (n:Int):∀ k,yd (chn s n k)=s::List.replicate k "b"
 | 0=>rfl
 | k+1=>by
  have:=u7D s n k
  simp only [chn,yd,yds,this]
  rw [List.replicate_succ']
  simp
section
variable {P:Program}{w:World}{K:W.Frag}{mg:MG}{base:Heap}{f:Addr}{fd:FuncData}{A:Adr}
theorem u4b {G_put_in:FD} (c_put_in:CalleeX P w K mg base 5 "put_in" ["tree","path","other"] G_put_in) {G_alike:FD} (c_alike:Callee P w K mg base 3 "alike" ["one","other"] (spF K G_alike)) {G__law_made:FD} (c__law_made:Callee P w K mg base 15 "_law_made" ["_law_model"] (spF K G__law_made)) {G__law_is:FD} (c__law_is:Callee P w K mg base 13 "_law_is" ["_law_tree","_law_model"] (spF K G__law_is)) {G__law_with:FD} (c__law_with:Callee P w K mg base 13 "_law_with" ["_law_model","_law_path","_law_other_here"] (spF K G__law_with)) {G__law_told:FD} (c__law_told:CalleeX P w K mg base 14 "_law_told" ["_law_tree","_law_model"] G__law_told) {g_Node:List D→Res (List (Str×D))} (k_Node:KCalleeF P w K mg base 2 "Node" A.Node ["self","number","children"] g_Node) {g_Leaf:List D→Res (List (Str×D))} (k_Leaf:KCalleeF P w K mg base 1 "Leaf" A.Leaf ["self","sign"] g_Leaf) (p_Node:∀ (n:Int) (ms:List Md),ms.length≤1000→∀ {c:D},rowOf c=some (trs A ms)→g_Node [.int n,c]=.ok [("number",.int n),("children",.tup (trs A ms)),("tree_size",.int (1+szs ms)),("tree_depth",.int (1+dps ms))]) (p_Leaf:∀ s:Str,g_Leaf [.str s]=.ok [("sign",.str s),("tree_size",.int 1),("tree_depth",.int 1)]) (p_alike:∀ a b,Ok a→Ok b→sz a≤10000→∃ c,G_alike [tr A a,tr A b]=.ok (.bl c)∧(c=true↔a=b)) {d:Nat} (p_put:PutM A G_put_in) (p_made:Made A d G__law_made) (p_is:IsM A d G__law_is) (p_with:WithM 3 G__law_with) (p_told:∀ m,dp m≤d→Ok m→sz m≤1000→G__law_told [tr A m,toD m]=.ok (.bl true)) (F:Fun K "_law_doubled" "_law_doubled" u1y f fd) (T:Txt K mg A):∃ G,FnOk P w K mg base (CXe P w) 16 f fd ["_law_tree","_law_model"] (spX K G)∧∀ m,dp m+2≤d→Ok m→4*sz m+3≤1000→G [tr A m,toD m]=.ok (.bl true):=by
 refine ⟨_,F.okTX (k:=15) u0w (fun cdv Ar outer s H E hr hq=>u0c (ds_n u0w.nd (u0P k_Node hr (u0a u0d (u0a (u0A (u0a (dv 0) (u0a (dv 0) u0b))) u0b))))
  (u0c (ds_n u0w.nd (u0P k_Node hr (u0a u0d (u0a (u1G (u0a (dv 2) (u0a (dv 2) u0b))) u0b))))
  (u0c (ds_n u0w.nd (u1G (u0a u0d (u0a (u0A (u0a (u1G (u0a u0d (u0a (u0A (u0a (dv 1) (u0a (dv 1) u0b))) u0b))) (u0a (u1G (u0a u0d (u0a (u0A (u0a (dv 1) (u0a (dv 1) u0b))) u0b))) u0b))) u0b))))
  (u0c (u0C (dt_w (u1e (u0y (u0n (u2V hq c__law_told hr (u0a (dv 3) (u0a (dv 4) u0b))))) (u1e (u0y (u0n (d_fn c__law_is hr (u0a (dv 3) (u0a (dv 4) u0b))))) (u0Z (u0r u1T (d_fn c_alike hr (u0a (dv 3) (u0a (d_fn c__law_made hr (u0a (dv 4) u0b)) u0b))) d_bl))))) (u0f (u0i d_bl)) u0p)
  (u0c (u1D rfl (u1k (u0A (u0a (u0A (u0a u0d u0b)) (u0a (u0A (u0a u0d u0b)) (u0a (u0A (u0a u0d (u0a u0d u0b))) (u0a (u0A (u0a u0d (u0a u0d u0b))) u0b)))))) (dg_n u0w.nd)
  (u0c (ds_n u0w.nd (DN.de (u4U T.z_list (u0a (dv 5) u0b))))
   (u0f (u0C (dt_w (u1e (u0y (u0n (d_fn c__law_is hr (u0a (u2V hq c_put_in hr (u0a (dv 3) (u0a (dv 6) (u0a (u0P k_Leaf hr (u0a u0z u0b)) u0b)))) (u0a (d_fn c__law_with hr (u0a (dv 4) (u0a (dv 5) (u0a u0z u0b)))) u0b))))) (u0Z (u0r (u2R (hu64 hr)) (dv 6) (dv 5))))) (u0f (u0i d_bl)) u0p))) hq.ps)
  (u0f (u0i (d_fn c__law_is hr (u0a (dv 3) (u0a (dv 4) u0b)))))))))),?_⟩
 intro m hd ok hz
 have ok2:=d2_ok ok
 have hs:sz (D2 m)≤1000:=by simp [sz,szs];omega
 have hdp:dp (D2 m)≤d:=by simp [dp,dps];omega
 have n1:=u7h p_Node 3 [m,m] (by simp) (c:=.lst [tr A m,tr A m]) rfl
 have n2:=u7h p_Node 4 [D1 m,D1 m] (by simp) (c:=.tup [tr A (D1 m),tr A (D1 m)]) rfl
 have ed:(D.tup [.int 4,.lst [.tup [.int 3,.lst [toD m,toD m]],.tup [.int 3,.lst [toD m,toD m]]]])=toD (D2 m):=rfl
 have t1:=p_told (D2 m) hdp ok2 hs
 have t2:=p_is (D2 m) hdp ok2
 have t3:=p_made (D2 m) hdp ok2
 obtain ⟨c,t4,hc⟩:=p_alike (D2 m) (D2 m) ok2 ok2 (by omega)
 obtain rfl:c=true:=hc.mpr rfl
 have sq:∀ l:List D,seqOf [.lst l]=.ok (.l l):=fun _=>rfl
 have l1:=u8Z (A:=A) p_Leaf "q"
 simp [runX,startD,n1,n2,ed,t1,t2,t3,t4,isnB,u1d,-toD,-tr]
 generalize hI:forD _ _ _ _=o
 have q:∃ x5 x6,o=.nx [some (.val (tr A m)),some (.val (toD m)),some (.val (tr A (D1 m))),some (.val (tr A (D2 m))),some (.val (toD (D2 m))),x5,x6]:=by
  rw [← hI]
  have k0:(kids (D2 m))[0]?=some (D1 m):=rfl
  have k1:(kids (D2 m))[1]?=some (D1 m):=rfl
  have j0:(kids (D1 m))[0]?=some m:=rfl
  have j1:(kids (D1 m))[1]?=some m:=rfl
  refine u1N (S:=fun ds ρ=>∃ ps x5 x6,ρ=[some (.val (tr A m)),some (.val (toD m)),some (.val (tr A (D1 m))),some (.val (tr A (D2 m))),some (.val (toD (D2 m))),x5,x6]∧ds=pDs ps∧∀ p∈ps,Pth (D2 m) p∧p.length≤2) (Q:=fun o=>∃ x5 x6,o=.nx [some (.val (tr A m)),some (.val (toD m)),some (.val (tr A (D1 m))),some (.val (tr A (D2 m))),some (.val (toD (D2 m))),x5,x6]) (fun ρ ⟨ps,x5,x6,e,_⟩=>⟨x5,x6,by rw [e]⟩) ?_ _ _ ⟨[[0],[1],[0,1],[1,0]],none,none,rfl,rfl,fun p hp=>by
   simp only [List.mem_cons,List.not_mem_nil,or_false] at hp
   rcases hp with rfl | rfl | rfl | rfl
   ·exact ⟨.cons k0 .nil,by simp⟩
   ·exact ⟨.cons k1 .nil,by simp⟩
   ·exact ⟨.cons k0 (.cons j1 .nil),by simp⟩
   ·exact ⟨.cons k1 (.cons j0 .nil),by simp⟩⟩
  rintro d1 ds ρ ⟨ps,x5,x6,rfl,e,hp⟩
  cases ps with
  | nil=>simp at e
  | cons p ps =>
   obtain ⟨rfl,rfl⟩:d1=pD p∧ds=pDs ps:=by simpa using e
   obtain ⟨h1,h2⟩:=hp p List.mem_cons_self
   have u1:=p_put.ok (D2 m) p (.leaf "q") h1 (by omega) ok2
   have u2:G__law_with [toD (D2 m),pD p,.str "q"]=.ok (toD (withN (D2 m) p (.leaf "q"))):=p_with (D2 m) p (.leaf "q") (by omega) h1 ok2
   have hm:1≤dp m:=by cases m <;> simp [dp]
   have u3:=p_is (withN (D2 m) p (.leaf "q")) (by
    have:=u4T (o:=.leaf "q") h1
    have e1:dp (D2 m)=dp m+2:=by simp [dp,dps]
    have e2:dp (.leaf "q")=1:=rfl
    omega) (u4I h1 ok2 q_ok)
   have u4:=u7g p
   have sq:seqOf [pD p]=.ok (.l (pI p)):=rfl
   have tl:(OD.l (pI p)).toD=pD p:=rfl
   generalize hP:pD p=pp at u1 u2 u4 sq tl
   refine ⟨_,rfl,.inl ⟨_,by simp [sq,tl,l1,u1,u2,u3,u4,-toD,-tr,-u7O];exact ⟨rfl,rfl⟩,ps,_,_,rfl,rfl,fun p m=>hp p (List.mem_cons_of_mem _ m)⟩⟩
 obtain ⟨x5,x6,rfl⟩:=q
 simp [t2]
theorem u5p {G_put_in:FD} (c_put_in:CalleeX P w K mg base 5 "put_in" ["tree","path","other"] G_put_in) {G_alike:FD} (c_alike:Callee P w K mg base 3 "alike" ["one","other"] (spF K G_alike)) {g_size:Addr→List D→Res D} (m_size:∀ C∈[A.Leaf,A.Node],MCalleeF P w K mg base 1 C "size" ["self"] (g_size C)) {g_depth:Addr→List D→Res D} (m_depth:∀ C∈[A.Leaf,A.Node],MCalleeF P w K mg base 1 C "depth" ["self"] (g_depth C)) {g_Node:List D→Res (List (Str×D))} (k_Node:KCalleeF P w K mg base 2 "Node" A.Node ["self","number","children"] g_Node) {g_Leaf:List D→Res (List (Str×D))} (k_Leaf:KCalleeF P w K mg base 1 "Leaf" A.Leaf ["self","sign"] g_Leaf) {g_signs:Addr→List D→Res (List D)} (mn_signs:∀ C∈[A.Leaf,A.Node],MCalleeN P w K mg base 2 C "signs" ["self"] (g_signs C)) {g_at:Addr→List D→Res D} (m_at:∀ C∈[A.Leaf,A.Node],MCallee P w K mg base 4 C "at" ["self","path"] (g_at C)) (p_Node:∀ (n:Int) (ms:List Md),ms.length≤1000→∀ {c:D},rowOf c=some (trs A ms)→g_Node [.int n,c]=.ok [("number",.int n),("children",.tup (trs A ms)),("tree_size",.int (1+szs ms)),("tree_depth",.int (1+dps ms))]) (p_Leaf:∀ s:Str,g_Leaf [.str s]=.ok [("sign",.str s),("tree_size",.int 1),("tree_depth",.int 1)]) (p_alike:∀ a b,Ok a→Ok b→sz a≤10000→∃ c,G_alike [tr A a,tr A b]=.ok (.bl c)∧(c=true↔a=b)) (p_put:PutM A G_put_in) (p_size:∀ C d,C∈[A.Leaf,A.Node]→Kid A d→g_size C [d]=.ok (.int (tsz d))) (p_depth:∀ C d,C∈[A.Leaf,A.Node]→Kid A d→g_depth C [d]=.ok (.int (tdp d))) (p_signs:SignsM A g_signs) (p_at:AtM A g_at) (F:Fun K "_law_chain" "_law_chain" u2g f fd) (T:Txt K mg A):∃ G,FnOk P w K mg base (CXe P w) 6 f fd ["_law_number","_law_long"] (spX K G)∧∀ (n:Int) (k:Nat),1≤k→k≤499→G [.int n,.int (k:Int)]=.ok (.bl true):=by
 refine ⟨_,F.okTX (k:=5) u0J (fun cdv Ar outer s H E hr hq=>u0c (ds_n u0J.nd (u0P k_Leaf hr (u0a u0z u0b)))
  (u0c (u1D rfl (u9G T.z_range (u0a (dv 1) u0b)) (dg_n u0J.nd)
  (u0f (ds_n u0J.nd (u0P k_Node hr (u0a (d_op u1X (d_op u1f (dv 0) (dv 3)) u0d) (u0a (u0A (u0a (dv 2) (u0a (u0P k_Leaf hr (u0a u0z u0b)) u0b))) u0b))))) hq.ps)
  (u0c (ds_n u0J.nd (d_op u2a (u0A (u0a u0d u0b)) (dv 1)))
  (u0c (ds_n u0J.nd (u2V hq c_put_in hr (u0a (dv 2) (u0a (dv 4) (u0a (u0P k_Leaf hr (u0a u0z u0b)) u0b)))))
  (u0c (u0C (dt_w (u1e (u0r (u2R (hu64 hr)) (u1Y m_depth hr (dv 2)) (d_op u1f (dv 1) u0d)) (u1e (u0r (u2R (hu64 hr)) (u1Y m_size hr (dv 2)) (d_op u1f (d_op u2a u0d (dv 1)) u0d)) (u0Z (u0r (u2R (hu64 hr)) (u2z hq (fun C h=>(mn_signs C h).mx) hr (dv 2)) (d_op u1f (u0A (u0a u0z u0b)) (d_op u2a (u0A (u0a u0z u0b)) (dv 1)))))))) (u0f (u0i d_bl)) u0p)
  (u0c (u0C (dt_w (u1e (u0r (u2R (hu64 hr)) (u2z hq (fun C h=>(mn_signs C h).mx) hr (dv 5)) (d_op u1f (u0A (u0a u0z u0b)) (d_op u2a (u0A (u0a u0z u0b)) (dv 1)))) (u1e (u0r u1T (d_fn c_alike hr (u0a (dv 2) (u0a (dv 5) u0b))) d_bl) (u0Z (u0r u1T (d_fn c_alike hr (u0a (dv 2) (u0a (dv 2) u0b))) d_bl))))) (u0f (u0i d_bl)) u0p)
  (u0f (u0i (u4d (u3R (u1F (hu64 hr)) (u2z hq (fun C h=>(mn_signs C h).mx) hr (u4W hq m_at hr (dv 2) (u0a (dv 4) u0b))) (u0A (u0a u0z u0b))) (u4d (u3R (u1F (hu64 hr)) (u2z hq (fun C h=>(mn_signs C h).mx) hr (u4W hq m_at hr (dv 5) (u0a (d_sl (dv 4) (u2T u0d) u2U) u0b))) (u0A (u0a u0z (u0a u0z u0b)))) (u6J (u3R (u1F (hu64 hr)) (dv 4) (d_op u2a (u0A (u0a u0d u0b)) (dv 1)))))))))))))),?_⟩
 intro n k hk1 hk
 have l1:∀ s:Str,((noE (g_Leaf [.str s])).bind fun gs=>Res.ok (D.ins A.Leaf gs))=.ok (tr A (.leaf s)):=u8Z (A:=A) p_Leaf
 have rg:=rng_n (n:=k) (by omega)
 simp [runX,startD,l1,rg,-u1n,-u0o,-Res.bind_ok,-L2.go_ok,-Out.then_nx,bindN,goN,thenN]
 generalize hI:forD _ _ _ _=o
 have q:∃ x3,o=.nx [some (.val (.int n)),some (.val (.int (k:Int))),some (.val (tr A (chn "a" n k))),x3,none,none]:=by
  rw [← hI]
  refine v0S (n:=k) (S:=fun i ρ=>∃ x3,ρ=[some (.val (.int n)),some (.val (.int (k:Int))),some (.val (tr A (chn "a" n i))),x3,none,none]) (Q:=fun o=>∃ x3,o=.nx [some (.val (.int n)),some (.val (.int (k:Int))),some (.val (tr A (chn "a" n k))),x3,none,none]) ⟨none,rfl⟩ (fun ρ ⟨x3,e⟩=>⟨x3,by rw [e]⟩) ?_
  rintro i ρ hi ⟨x3,rfl⟩
  have r1:dMod (.int (n+(i:Int))) (.int 20)=.ok (.int ((n+(i:Int))%20)):=u1c (by omega)
  have n1:=u7h p_Node ((n+(i:Int))%20) [chn "a" n i,.leaf "b"] (by simp) (c:=.lst [tr A (chn "a" n i),tr A (.leaf "b")]) rfl
  refine ⟨_,rfl,.inl ⟨_,by simp [l1,r1,n1,-tr,-u1n,-u0o,-Res.bind_ok,-L2.go_ok,-Out.then_nx,bindN,goN,thenN];exact ⟨rfl,rfl⟩,_,rfl⟩⟩
 obtain ⟨x3,rfl⟩:=q
 obtain ⟨j,rfl⟩:∃ j,k=j+1:=⟨k - 1,by omega⟩
 have oa:=u9J a_ok n (j+1)
 have oq:=u9J q_ok n (j+1)
 have za:sz (chn "a" n (j+1))≤10000:=by rw [u7F];omega
 have zq:sz (chn "q" n (j+1))≤10000:=by rw [u7F];omega
 have mz:dMulX (.lst [.int 0]) (.int ((j+1:Nat):Int))=.ok (pD (zs (j+1))):=by
  rw [u8Y (by omega)]
  simp
 have mb:dMulX (.lst [.str "b"]) (.int ((j+1:Nat):Int))=.ok (.lst (List.replicate (j+1) (.str "b"))):=u8Y (by omega)
 have m2:dMulX (.int 2) (.int ((j+1:Nat):Int))=.ok (.int (2*((j+1:Nat):Int))):=by rw [u0o,u0F (.inl ⟨by omega,by omega⟩)]
 have u1:=p_put.ok (chn "a" n (j+1)) (zs (j+1)) (.leaf "q") (u6L _ _ _) (by simp;omega) oa
 rw [u7E] at u1
 have ya:∀ s:Str,dAdd (.lst [.str s]) (.lst (List.replicate (j+1) (.str "b")))=.ok (.lst ((yd (chn s n (j+1))).map D.str)):=fun s=>by
  rw [u3U (by simp;omega),u7D]
  simp
 have yq:=ya "q"
 have ya:=ya "a"
 have sa:=u1H p_signs _ za
 have sq:=u1H p_signs _ zq
 have na:=u4L (u9S oa)
 have nq:=u4L (u9S oq)
 obtain ⟨c1,e1,i1⟩:=p_alike _ _ oa oq za
 obtain rfl:c1=false:=by
  cases c1 with
  | false=>rfl
  | true =>
   have:=congrArg yd (i1.mp rfl)
   rw [u7D,u7D] at this
   exact absurd (List.cons.inj this).1 (by decide +kernel)
 obtain ⟨c2,e2,i2⟩:=p_alike _ _ oa oa za
 obtain rfl:c2=true:=i2.mpr rfl
 have t1:=at_tr p_at (u6L "a" n (j+1)) (by simp;omega)
 rw [v1J] at t1
 obtain ⟨hp1,i,h1⟩:=u7G "q" n j
 have t2:=at_tr p_at hp1 (by simp;omega)
 rw [h1] at t2
 have v1:=u1H p_signs (.leaf "a") (by simp [sz])
 have v2:=u1H p_signs (.node i [.leaf "q",.leaf "b"]) (by simp [sz,szs])
 have w1:dEqX (.lst ((yd (.leaf "a")).map D.str)) (.lst [.str "a"])=.ok (.bl true):=u4R ["a"]
 have w2:dEqX (.lst ((yd (.node i [.leaf "q",.leaf "b"])).map D.str)) (.lst [.str "q",.str "b"])=.ok (.bl true):=u4R ["q","b"]
 have w3:dEqX (pD (zs (j+1))) (pD (zs (j+1)))=.ok (.bl true):=u3k (u3o _).1 (by show depDs (pI (zs (j+1)))+1≤60;rw [(u3o _).2];decide) (u1p _)
 have sl:dSl (pD (zs (j+1))) (some 1) none=.ok (pD (zs j)):=by
  show Res.ok (D.lst (cutC (pI (zs (j+1))) (some ((1:Nat):Int)) none))=_
  rw [u7C]
  rfl
 have d1:dNeX (.int (dp (chn "a" n (j+1)):Int)) (.int (((j+1:Nat):Int)+1))=.ok (.bl false):=by rw [neI,v1I];simp
 have d2:dNeX (.int (sz (chn "a" n (j+1)):Int)) (.int (2*((j+1:Nat):Int)+1))=.ok (.bl false):=by rw [neI,u7F];simp
 generalize pD (zs (j+1))=pp at mz u1 t1 w3 sl
 generalize pD (zs j)=pq at t2 sl
 generalize ((j+1:Nat):Int)=kk at mz mb m2 d1 d2
 generalize chn "a" n (j+1)=ca at *
 generalize chn "q" n (j+1)=cq at *
 obtain ⟨y3,fx⟩:∃ y,∀ ρ:Rho,frz (x3::ρ)=y::frz ρ:=⟨_,fun _=>rfl⟩
 have dt:=u7z p_depth ca
 have st:=u8w p_size ca
 simp [mz,mb,m2,u1,ya,yq,sa,sq,na,nq,e1,e2,t1,t2,v1,v2,w1,w2,w3,sl,d1,d2,dt,st,asI,isnB,fx,-u1n,-u0o,-Res.bind_ok,-L2.go_ok,-Out.then_nx,bindN,goN,thenN]
end
theorem sz_at:∀ {m:Md}{is:List Nat},Pth m is→sz (atN m is)≤sz m
 | m,[],_=>Nat.le_refl _
 | .leaf s,i::is,.cons h t=>by simp [kids] at h
 | .node n cs,i::is,.cons (c:=c) h t=>by
  have h':cs[i]?=some c:=h
  have:=sz_at t
  have:=u4u (List.mem_of_getElem? h')
  simp only [atN,h,sz]
  omega
noncomputable def sv:Option D→Option Sl
 | some d=>some (.val d)
 | none=>none
theorem u9q (o:Option D) (ρ:Rho):frz (sv o::ρ)=sv o::frz ρ:=by cases o <;> rfl
theorem u5x (o:Option D) (ρ:Rho):ownL (sv o::ρ)=ownL ρ:=by cases o <;> rfl
theorem u8Q (d:D) (ρ:Rho):ownL (some (.val d)::ρ)=ownL ρ:=rfl
theorem own_l (l:List D) (ρ:Rho):ownL (some (.own (.l l))::ρ)=ownL ρ:=rfl
theorem own_n (ρ:Rho):ownL (none::ρ)=ownL ρ:=rfl
theorem v0P {ρ:Rho}{d:D} (h:ownL ρ=true) (k:hardD d=true):hardC ρ d=.ok d:=if_pos ⟨h,k⟩
theorem u7d (m:Md):pathsN m≠[]:=by cases m <;> simp [pathsN]
section
variable {P:Program}{w:World}{K:W.Frag}{mg:MG}{base:Heap}{f:Addr}{fd:FuncData}{A:Adr}
theorem pr_law {G_put_in:FD} (c_put_in:CalleeX P w K mg base 5 "put_in" ["tree","path","other"] G_put_in) {G_alike:FD} (c_alike:Callee P w K mg base 3 "alike" ["one","other"] (spF K G_alike)) {G__law_cell:FD} (c__law_cell:Callee P w K mg base 1 "_law_cell" ["_law_script","_law_k"] (spF K G__law_cell)) {G__law_at:FD} (c__law_at:Callee P w K mg base 1 "_law_at" ["_law_model","_law_path"] (spF K G__law_at)) {G__law_made:FD} (c__law_made:Callee P w K mg base 15 "_law_made" ["_law_model"] (spF K G__law_made)) {G__law_is:FD} (c__law_is:Callee P w K mg base 13 "_law_is" ["_law_tree","_law_model"] (spF K G__law_is)) {G__law_paths:FD} (c__law_paths:Callee P w K mg base 13 "_law_paths" ["_law_model"] (spF K G__law_paths)) {G__law_with:FD} (c__law_with:Callee P w K mg base 13 "_law_with" ["_law_model","_law_path","_law_other_here"] (spF K G__law_with)) {G__law_told:FD} (c__law_told:CalleeX P w K mg base 14 "_law_told" ["_law_tree","_law_model"] G__law_told) {G__law_refused:FD} (c__law_refused:CalleeX P w K mg base 6 "_law_refused" ["_law_tree","_law_path","_law_way"] G__law_refused) {G__law_bad_paths:FD} (c__law_bad_paths:Callee P w K mg base 2 "_law_bad_paths" ["_law_model","_law_paths_here","_law_cell_here"] (spF K G__law_bad_paths)) {G__law_other:FD} (c__law_other:Callee P w K mg base 14 "_law_other" ["_law_model","_law_path","_law_cell_here"] (spF K G__law_other)) {G__law_doubled:FD} (c__law_doubled:CalleeX P w K mg base 16 "_law_doubled" ["_law_tree","_law_model"] G__law_doubled) {G__law_chain:FD} (c__law_chain:CalleeX P w K mg base 6 "_law_chain" ["_law_number","_law_long"] G__law_chain) {g_Node:List D→Res (List (Str×D))} (k_Node:KCalleeF P w K mg base 2 "Node" A.Node ["self","number","children"] g_Node) {g_Leaf:List D→Res (List (Str×D))} (k_Leaf:KCalleeF P w K mg base 1 "Leaf" A.Leaf ["self","sign"] g_Leaf) {g_at:Addr→List D→Res D} (m_at:∀ C∈[A.Leaf,A.Node],MCallee P w K mg base 4 C "at" ["self","path"] (g_at C)) {g_law_grown:List Sl→Res (D×List Sl)} (c__law_grown:Callee P w K mg base 10 "_law_grown" ["_law_left","_law_deep","_law_room"] (spM K g_law_grown)) {g_stream:List D→Res (List D)} (cn__law_stream:CalleeN P w K mg base 1 "_law_stream" ["_law_cell_here"] g_stream) (p_Node:∀ (n:Int) (ms:List Md),ms.length≤1000→∀ {c:D},rowOf c=some (trs A ms)→g_Node [.int n,c]=.ok [("number",.int n),("children",.tup (trs A ms)),("tree_size",.int (1+szs ms)),("tree_depth",.int (1+dps ms))]) (p_Leaf:∀ s:Str,g_Leaf [.str s]=.ok [("sign",.str s),("tree_size",.int 1),("tree_depth",.int 1)]) (p_alike:∀ a b,Ok a→Ok b→sz a≤10000→∃ c,G_alike [tr A a,tr A b]=.ok (.bl c)∧(c=true↔a=b)) (p_put:PutM A G_put_in) (p_at:AtM A g_at) (p_cell:∀ (ns:List Int) (k:Nat),∃ c:Int,G__law_cell [scr ns,dN k]=.ok (.int c)) (p_stream:∀ c:Int,g_stream [.int c]=.ok [.int (c - 1000000000000000000),.int c,dN 0]) (p_grown:Grow 7 g_law_grown) (p_made:Made A 12 G__law_made) (p_is:IsM A 10 G__law_is) (p_paths:PathsM 10 G__law_paths) (p_lat:∀ m is,Pth m is→G__law_at [toD m,pD is]=.ok (toD (atN m is))) (p_with:WithM 10 G__law_with) (p_told:∀ m,dp m≤10→Ok m→sz m≤1000→G__law_told [tr A m,toD m]=.ok (.bl true)) (p_refused:∀ m p w,w=0∨w=1→Bad m p→G__law_refused [tr A m,p,.int w]=.ok (.bl true)) (p_bad:∀ m (ps:List (List Nat)) (c:Int),(∀ p∈ps,Pth m p∧p.length≤900)→ps≠[]→Ok m→∃ l,G__law_bad_paths [toD m,.lst (pDs ps),.int c]=.ok (.lst l)∧∀ p∈l,Bad m p) (p_other:∀ m is (c:Int),Pth m is→is.length<10→Gd m→∃ m',G__law_other [toD m,pD is,.int c]=.ok (toD m')∧m'≠m∧Ok m'∧dp m'≤dp m+1) (p_doubled:∀ m,dp m+2≤10→Ok m→4*sz m+3≤1000→G__law_doubled [tr A m,toD m]=.ok (.bl true)) (p_chain:∀ (n:Int) (k:Nat),1≤k→k≤499→G__law_chain [.int n,.int (k:Int)]=.ok (.bl true)) (F:Fun K "law" "law" u4C f fd) (T:Txt K mg A):∃ G,FnOk P w K mg base (CXe P w) 17 f fd ["_law_script"] (spX K G)∧∀ ns:List Int,G [scr ns]=.ok (.bl true):=by
 refine ⟨_,F.okTX (k:=16) u1h (fun cdv Ar outer s H E hr hq=>u0c (ds_n u1h.nd (v1G c__law_grown hr (dn_fn hq cn__law_stream hr (u0a (d_fn c__law_cell hr (u0a (dv 0) (u0a u0d u0b))) u0b)) u0d (u2y (u0a u0d u0b))))
  (u0c (ds_n u1h.nd (v1G c__law_grown hr (dn_fn hq cn__law_stream hr (u0a (d_fn c__law_cell hr (u0a (dv 0) (u0a u0d u0b))) u0b)) u0d (u2y (u0a u0d u0b))))
  (u0c (ds_n u1h.nd (d_fn c__law_made hr (u0a (dv 1) u0b)))
  (u0c (ds_n u1h.nd (d_fn c__law_paths hr (u0a (dv 1) u0b)))
  (u0c (u1D rfl (u1k (dv 4)) (dg_n u1h.nd)
  (u0c (ds_n u1h.nd (DN.de (u4U T.z_list (u0a (dv 5) u0b))))
   (u0c (ds_n u1h.nd (u4W hq m_at hr (dv 3) (u0a (dv 6) u0b)))
   (u0f (u0C (dt_w (u1e (u0r (u2R (hu64 hr)) (dv 6) (dv 5)) (u1e (u0y (u0n (d_fn c__law_is hr (u0a (dv 7) (u0a (d_fn c__law_at hr (u0a (dv 1) (u0a (dv 5) u0b))) u0b))))) (u0Z (u0y (u0n (u2V hq c__law_told hr (u0a (dv 7) (u0a (d_fn c__law_at hr (u0a (dv 1) (u0a (dv 5) u0b))) u0b))))))))) (u0f (u0i d_bl)) u0p)))) hq.ps)
  (u0c (u1D rfl (u9F T.z_range (u0a u0d (u0a (d_B (c_max rfl) T.z_max (by decide +kernel) (u0a u0d (u0a (d_B (c_min rfl) T.z_min (by decide +kernel) (u0a (d_B u3h T.z_len (by decide +kernel) (u0a (dv 0) u0b)) (u0a u0d u0b))) u0b))) u0b))) (dg_n u1h.nd)
  (u0c (ds_n u1h.nd (d_ix x_ix (dv 4) (d_op u1X (d_fn c__law_cell hr (u0a (dv 0) (u0a (dv 8) u0b))) (d_B u3h T.z_len (by decide +kernel) (u0a (dv 4) u0b)))))
   (u0c (u0C (u0y (u0n (d_fn c__law_is hr (u0a (u2V hq c_put_in hr (u0a (dv 3) (u0a (DN.de (u4U T.z_list (u0a (dv 5) u0b))) (u0a (d_fn c__law_made hr (u0a (dv 2) u0b)) u0b)))) (u0a (d_fn c__law_with hr (u0a (dv 1) (u0a (dv 5) (u0a (dv 2) u0b)))) u0b))))) (u0f (u0i d_bl)) u0p)
   (u0c (u0C (u0r u1T (d_fn c_alike hr (u0a (dv 3) (u0a (d_fn c__law_made hr (u0a (d_fn c__law_other hr (u0a (dv 1) (u0a (dv 5) (u0a (d_op o_div (d_fn c__law_cell hr (u0a (dv 0) (u0a (dv 8) u0b))) u0d) u0b)))) u0b)) u0b))) d_bl) (u0f (u0i d_bl)) u0p)
   (u0f (u1D rfl (u1k (d_fn c__law_bad_paths hr (u0a (dv 1) (u0a (dv 4) (u0a (d_fn c__law_cell hr (u0a (dv 0) (u0a (dv 8) u0b))) u0b))))) (dg_n u1h.nd)
   (u0f (u0C (dt_w (u1e (u0y (u0n (u2V hq c__law_refused hr (u0a (dv 3) (u0a (dv 9) (u0a u0d u0b)))))) (u0Z (u0y (u0n (u2V hq c__law_refused hr (u0a (dv 3) (u0a (dv 9) (u0a u0d u0b))))))))) (u0f (u0i d_bl)) u0p)) hq.ps))))) hq.ps)
  (u0c (u3a u1h.nd (u2y (u0a (dv 3) (u0a (u0P k_Leaf hr (u0a u0z u0b)) u0b))))
  (u0c (ds_n u1h.nd (DE.hard (u0P k_Node hr (u0a u0d (u0a (dv 10) u0b)))))
  (u0c (v0Y 10)
  (u0c (u0C (dt_w (u1e (u0y (u0n (d_fn c__law_is hr (u0a (dv 11) (u0a (u1G (u0a u0d (u0a (u0A (u0a (dv 1) (u0a u0z u0b))) u0b))) u0b))))) (u0Z (u0y (u0n (u2V hq c__law_doubled hr (u0a (dv 3) (u0a (dv 1) u0b)))))))) (u0f (u0i d_bl)) u0p)
  (u0c (u0C (dt_w (u1e (u0r u1T (d_fn c_alike hr (u0a (dv 3) (u0a (d_fn c__law_made hr (u0a (dv 1) u0b)) u0b))) d_bl) (u0Z (u0r u1T (d_fn c_alike hr (u0a (dv 3) (u0a (dv 11) u0b))) d_bl)))) (u0f (u0i d_bl)) u0p)
  (u0c (ds_n u1h.nd (d_fn c__law_cell hr (u0a (dv 0) (u0a u0d u0b))))
  (u0f (u0i (u4d (d_fn c__law_is hr (u0a (dv 3) (u0a (dv 1) u0b))) (u6J (u2V hq c__law_chain hr (u0a (d_op u1X (dv 12) u0d) (u0a (d_ix x_ix (u0A (u0a u0d (u0a u0d u0b))) (d_T c_int T.z_int (by decide +kernel) (u0a (u3R (u1F (hu64 hr)) (d_op u1X (dv 12) u0d) u0d) u0b))) u0b))))))))))))))))))),?_⟩
 intro ns
 obtain ⟨c0,ec0⟩:=p_cell ns 0
 have ec0:G__law_cell [scr ns,.int 0]=.ok (.int c0):=ec0
 obtain ⟨c1,ec1⟩:=p_cell ns 1
 have ec1:G__law_cell [scr ns,.int 1]=.ok (.int c1):=ec1
 obtain ⟨m,a1,k1,r1,gm,dm,sm,_,em⟩:=p_grown (c0 - 1000000000000000000) c0 0 50 6 (by omega) (by omega) (by omega)
 have em:g_law_grown [.own (.l [.int (c0 - 1000000000000000000),.int c0,dN 0]),.val (.int 6),.own (.l [.int 50])]=.ok (toD m,[.own (stm a1 c0 k1),.val (dN 6),.own (.l [dN r1])]):=em
 obtain ⟨o,a2,k2,r2,go,do_,so,_,eo⟩:=p_grown (c1 - 1000000000000000000) c1 0 9 3 (by omega) (by omega) (by omega)
 have eo:g_law_grown [.own (.l [.int (c1 - 1000000000000000000),.int c1,dN 0]),.val (.int 3),.own (.l [.int 9])]=.ok (toD o,[.own (stm a2 c1 k2),.val (dN 3),.own (.l [dN r2])]):=eo
 have okm:=gm.ok
 have oko:=go.ok
 have mk:=p_made m (by omega) okm
 have mko:=p_made o (by omega) oko
 have pa:=p_paths m (by omega) okm (by omega) (by omega)
 have pth:∀ p∈pathsN m,Pth m p∧p.length≤6:=fun p hp=>by
  have h1:=u5t m p hp
  have h2:=v0Z h1
  have h3:1≤dp (atN m p):=by cases atN m p <;> simp [dp]
  exact ⟨h1,by omega⟩
 simp [runX,startD,ec0,ec1,p_stream,em,eo,mk,pa,u1d,-u1n,-u0o,-Res.bind_ok,-L2.go_ok,-Out.then_nx,bindN,goN,thenN]
 generalize hI:forD _ _ _ _=u
 have q:∃ x5 x6 x7,u=.nx [some (.val (scr ns)),some (.val (toD m)),some (.val (toD o)),some (.val (tr A m)),some (.val (.lst (pDs (pathsN m)))),sv x5,sv x6,sv x7,none,none,none,none,none]:=by
  rw [← hI]
  refine u1N (S:=fun ds ρ=>∃ ps x5 x6 x7,ρ=[some (.val (scr ns)),some (.val (toD m)),some (.val (toD o)),some (.val (tr A m)),some (.val (.lst (pDs (pathsN m)))),sv x5,sv x6,sv x7,none,none,none,none,none]∧ds=pDs ps∧∀ p∈ps,p∈pathsN m) (Q:=fun u=>∃ x5 x6 x7,u=.nx [some (.val (scr ns)),some (.val (toD m)),some (.val (toD o)),some (.val (tr A m)),some (.val (.lst (pDs (pathsN m)))),sv x5,sv x6,sv x7,none,none,none,none,none]) (fun ρ ⟨ps,x5,x6,x7,e,_⟩=>⟨x5,x6,x7,by rw [e]⟩) ?_ _ _ ⟨pathsN m,none,none,none,rfl,rfl,fun p hp=>hp⟩
  rintro d ds ρ ⟨ps,x5,x6,x7,rfl,e,hps⟩
  cases ps with
  | nil=>simp at e
  | cons p ps =>
   obtain ⟨rfl,rfl⟩:d=pD p∧ds=pDs ps:=by simpa using e
   obtain ⟨h1,h2⟩:=pth p (hps p List.mem_cons_self)
   have v1:=at_tr p_at h1 (by omega)
   have v2:=p_lat m p h1
   have h3:=v0Z h1
   have h4:=sz_at h1
   have h5:=ok_at h1 okm
   have v3:=p_is (atN m p) (by omega) h5
   have v4:=p_told (atN m p) (by omega) h5 (by omega)
   have v5:=u7g p
   have sq:seqOf [pD p]=.ok (.l (pI p)):=rfl
   have tl:(OD.l (pI p)).toD=pD p:=rfl
   generalize hP:pD p=pp at v1 v2 v5 sq tl
   refine ⟨_,rfl,.inl ⟨_,by simp [sq,tl,v1,v2,v3,v4,v5,sv,-u7O,-u1n,-u0o,-Res.bind_ok,-L2.go_ok,-Out.then_nx,bindN,goN,thenN],ps,some pp,some pp,some (tr A (atN m p)),rfl,rfl,fun p m=>hps p (List.mem_cons_of_mem _ m)⟩⟩
 obtain ⟨x5,x6,x7,rfl⟩:=q
 clear hI
 have ll:gLen [.lst (pDs (pathsN m))]=.ok (.int ((pathsN m).length:Int)):=by rw [u9b];simp
 have hpl:0<(pathsN m).length:=List.length_pos_iff.mpr (u7d m)
 have l0:gLen [scr ns]=.ok (.int (ns.length:Int)):=by rw [u9b];simp
 obtain ⟨mn,emn,hmn⟩:∃ mn:Int,gMin [.int (ns.length:Int),.int 10]=.ok (.int mn)∧mn≤10:=⟨_,rfl,by split <;> omega⟩
 obtain ⟨mx,emx,hmx,hmx2⟩:∃ mx:Int,gMax [.int 4,.int mn]=.ok (.int mx)∧4≤mx∧mx≤10:=⟨_,rfl,by split <;> omega,by split <;> omega⟩
 obtain ⟨es,erg,hes⟩:∃ es,rng2 [.int 2,.int mx]=.ok es∧∀ d∈es,∃ k:Nat,d=dN k:=by
  refine ⟨intL 2 (mx - 2).toNat,?_,fun d hd=>?_⟩
  ·show gd _ _=_
   rw [u0F (by omega)]
  ·simp [intL] at hd
   obtain ⟨k,_,rfl⟩:=hd
   exact ⟨2+k,by simp⟩
 simp [l0,emn,emx,erg,-u1n,-u0o,-Res.bind_ok,-L2.go_ok,-Out.then_nx,bindN,goN,thenN]
 generalize hI:forD _ _ _ _=u
 have q:∃ x5 x6 x7 x8 x9,u=.nx [some (.val (scr ns)),some (.val (toD m)),some (.val (toD o)),some (.val (tr A m)),some (.val (.lst (pDs (pathsN m)))),sv x5,sv x6,sv x7,sv x8,sv x9,none,none,none]:=by
  rw [← hI]
  refine u1N (S:=fun ds ρ=>∃ x5 x6 x7 x8 x9,ρ=[some (.val (scr ns)),some (.val (toD m)),some (.val (toD o)),some (.val (tr A m)),some (.val (.lst (pDs (pathsN m)))),sv x5,sv x6,sv x7,sv x8,sv x9,none,none,none]∧∀ d∈ds,∃ k:Nat,d=dN k) (Q:=fun u=>∃ x5 x6 x7 x8 x9,u=.nx [some (.val (scr ns)),some (.val (toD m)),some (.val (toD o)),some (.val (tr A m)),some (.val (.lst (pDs (pathsN m)))),sv x5,sv x6,sv x7,sv x8,sv x9,none,none,none]) (fun ρ ⟨x5,x6,x7,x8,x9,e,_⟩=>⟨x5,x6,x7,x8,x9,by rw [e]⟩) ?_ _ _ ⟨x5,x6,x7,none,none,rfl,hes⟩
  rintro d ds ρ ⟨x5,x6,x7,x8,x9,rfl,hds⟩
  obtain ⟨k,rfl⟩:=hds d List.mem_cons_self
  obtain ⟨c,ec⟩:=p_cell ns k
  obtain ⟨i,ei,hi⟩:=modI c (b:=(pathsN m).length) hpl
  have r1:dMod (.int c) (.int ((pathsN m).length:Int))=.ok (.int (i:Int)):=by rw [u1c (by omega),ei]
  have r2:dIx (.lst (pDs (pathsN m))) (.int (i:Int))=.ok (pD (pathsN m)[i]):=ix_mm (List.getElem?_eq_getElem hi)
  obtain ⟨h1,h2⟩:=pth (pathsN m)[i] (List.getElem_mem hi)
  generalize (pathsN m)[i]=p at r2 h1 h2
  have r3:dDiv (.int c) (.int 64)=.ok (.int (c / 64)):=u9E (by omega) (by omega)
  have v1:=p_put.ok m p o h1 (by omega) okm
  have v2:=p_with m p o (by omega) h1 okm
  have v3:=p_is (withN m p o) (by have:=u4T (o:=o) h1;omega) (u4I h1 okm oko)
  obtain ⟨m',v4,ne,okm',dm'⟩:=p_other m p (c / 64) h1 (by omega) gm
  have v5:=p_made m' (by omega) okm'
  obtain ⟨cc,v6,icc⟩:=p_alike m m' okm okm' (by omega)
  obtain rfl:cc=false:=by
   cases cc with
   | false=>rfl
   | true=>exact absurd (icc.mp rfl).symm ne
  obtain ⟨l,v7,hl⟩:=p_bad m (pathsN m) c (fun p hp=>⟨(pth p hp).1,by have:=(pth p hp).2;omega⟩) (u7d m) okm
  have sq:seqOf [pD p]=.ok (.l (pI p)):=rfl
  have tl:(OD.l (pI p)).toD=pD p:=rfl
  generalize hP:pD p=pp at r2 v1 v2 v4 sq tl
  generalize hL:D.lst (pDs (pathsN m))=pl at r2 ll v7 ⊢
  have it:items (.lst l)=.ok l:=rfl
  refine ⟨_,rfl,.inl ?_⟩
  simp [ec,ll,r1,r2,r3,v1,v2,v3,v4,v5,v6,v7,mko,isnB,sq,tl,it,u9q,-u7O,-u1n,-u0o,-Res.bind_ok,-L2.go_ok,-Out.then_nx,bindN,goN,thenN]
  generalize hJ:forD _ _ _ _=v
  have qi:∃ y9,v=.nx [some (.val (scr ns)),some (.val (toD m)),some (.val (toD o)),some (.val (tr A m)),some (.val pl),some (.val pp),sv x6,sv x7,some (.val (dN k)),sv y9,none,none,none]:=by
   rw [← hJ]
   refine u1N (S:=fun ds ρ=>∃ y9,ρ=[some (.val (scr ns)),some (.val (toD m)),some (.val (toD o)),some (.val (tr A m)),some (.val pl),some (.val pp),sv x6,sv x7,some (.val (dN k)),sv y9,none,none,none]∧∀ p∈ds,Bad m p) (Q:=fun v=>∃ y9,v=.nx [some (.val (scr ns)),some (.val (toD m)),some (.val (toD o)),some (.val (tr A m)),some (.val pl),some (.val pp),sv x6,sv x7,some (.val (dN k)),sv y9,none,none,none]) (fun ρ ⟨y9,e,_⟩=>⟨y9,by rw [e]⟩) ?_ _ _ ⟨x9,rfl,hl⟩
   rintro d ds ρ ⟨y9,rfl,hb⟩
   have b0:=p_refused m d 0 (.inl rfl) (hb d List.mem_cons_self)
   have b1:=p_refused m d 1 (.inr rfl) (hb d List.mem_cons_self)
   exact ⟨_,rfl,.inl ⟨_,by simp [b0,b1,u9q,-u1n,-u0o,-Res.bind_ok,-L2.go_ok,-Out.then_nx,bindN,goN,thenN];rfl,some d,rfl,fun p m=>hb p (List.mem_cons_of_mem _ m)⟩⟩
  obtain ⟨y9,rfl⟩:=qi
  exact ⟨_,rfl,⟨some pp,x6,x7,some (dN k),y9,rfl⟩,fun d m=>hds d (List.mem_cons_of_mem _ m)⟩
 obtain ⟨x5,x6,x7,x8,x9,rfl⟩:=q
 clear hI
 have l1:=u8Z (A:=A) p_Leaf "b"
 have n1:=u7h p_Node 1 [m,.leaf "b"] (by simp) (c:=.lst [tr A m,tr A (.leaf "b")]) rfl
 have okA:Ok (.node 1 [m,.leaf "b"]):=.node (by omega) (by omega) (by simp) fun c hc=>by
  simp at hc
  rcases hc with rfl | rfl
  ·exact okm
  ·exact b_ok
 have hh:hardD (tr A (.node 1 [m,.leaf "b"]))=true:=u9k A _
 have i1:G__law_is [tr A (.node 1 [m,.leaf "b"]),.tup [.int 1,.lst [toD m,.str "b"]]]=.ok (.bl true):=p_is (.node 1 [m,.leaf "b"]) (by simp [dp,dps];omega) okA
 have i2:=p_doubled m (by omega) okm (by omega)
 have i3:=p_is m (by omega) okm
 obtain ⟨q1,e1,j1⟩:=p_alike m m okm okm (by omega)
 obtain rfl:q1=true:=j1.mpr rfl
 obtain ⟨q2,e2,j2⟩:=p_alike m (.node 1 [m,.leaf "b"]) okm okA (by omega)
 obtain rfl:q2=false:=by
  cases q2 with
  | false=>rfl
  | true =>
   have:=congrArg sz (j2.mp rfl)
   simp [sz,szs] at this
   omega
 obtain ⟨w1,ew1,hw1⟩:=modI c0 (b:=20) (by omega)
 have t1:dMod (.int c0) (.int 20)=.ok (.int (w1:Int)):=by rw [u1c (by omega)];exact congrArg (fun z=>Res.ok (D.int z)) ew1
 have t2:dMod (.int c0) (.int 8)=.ok (.int (c0%8)):=u1c (by omega)
 have t3:=eqI (c0%8) 3
 have ch1:G__law_chain [.int (w1:Int),.int 60]=.ok (.bl true):=p_chain (w1:Int) 60 (by omega) (by omega)
 have ch2:G__law_chain [.int (w1:Int),.int 499]=.ok (.bl true):=p_chain (w1:Int) 499 (by omega) (by omega)
 generalize hT:tr A (.node 1 [m,.leaf "b"])=ta at n1 hh i1 e2
 have hC:hardC [some (.val (scr ns)),some (.val (toD m)),some (.val (toD o)),some (.val (tr A m)),some (.val (.lst (pDs (pathsN m)))),sv x5,sv x6,sv x7,sv x8,sv x9,some (.own (.l [tr A m,tr A (.leaf "b")])),none,none] ta=.ok ta:=v0P (by rw [u8Q,u8Q,u8Q,u8Q,u8Q,u5x,u5x,u5x,u5x,u5x,own_l,own_n,own_n];rfl) hh
 have cl:∀ b:Bool,gInt [.bl b]=.ok (.int (if b then 1 else 0)):=fun _=>rfl
 simp [l1,n1,hC,i1,i2,i3,mk,e1,e2,ec0,isnB,t1,t2,t3,u9q,cl,-u1n,-u0o,-Res.bind_ok,-L2.go_ok,-Out.then_nx,bindN,goN,thenN]
 by_cases h8:c0%8=3
 ·simp [h8,u6E,ch2]
 ·simp [h8,u2w,ch1]
end
noncomputable def noLst (K:W.Frag):Bool:=K.all fun p=>match p.2.cls with
 | .type T=>!(T=="list")
 | _=>true
theorem v0v {K:W.Frag} (h:noLst K=true) {a:Addr}{o:Obj} (e:K.lookup a=some o):o.cls≠.type "list":=fun z=>by
 have hm:(a,o)∈K:=by
  unfold noLst at h
  clear h
  induction K with
  | nil=>cases e
  | cons p K ih =>
   obtain ⟨b,u⟩:=p
   rw [List.lookup_cons] at e
   split at e
   ·rename_i q
    cases e
    rw [beq_iff_eq.mp q]
    exact List.mem_cons_self
   ·exact List.mem_cons_of_mem _ (ih e)
 have:=List.all_eq_true.mp h _ hm
 simp only [z] at this
 simp at this
theorem u6X {K:W.Frag}{F:Hp}:∀ ns:List Int,Rps K F (ns.map V.int) (ns.map D.int)
 | []=>.nil
 | n::ns=>.cons (.int n) (u6X ns)
def spLaw7 (K:W.Frag):Sp:=fun vs H Q _=>∃ (a:Addr) (ns:List Int),vs=[.ref a]∧SqL K H a (ns.map V.int)∧∀ H',Q (.bl true) H'
theorem law_imp {P:Program}{w:World}{K:W.Frag}{mg:MG}{base:Heap}{k:Nat}{f:Addr}{fd:FuncData}{ps:List Str}{G:FD} (nl:noLst K=true) (h:FnOk P w K mg base (CXe P w) k f fd ps (spX K G)) (p:∀ ns:List Int,G [scr ns]=.ok (.bl true)) :
  FnOk P w K mg base (CXe P w) k f fd ps (spLaw7 K):=h.imp fun vs H Q E ⟨a,ns,e,hs,q⟩=>by
 subst e
 rcases hs with hs | ⟨o,its,n,e1,e2,_⟩
 ·refine ⟨H,[scr ns],Same.refl H,.cons (.lst hs (u6X ns)) .nil,?_⟩
  rw [p ns]
  intro v F' H' st pv
  cases pv
  exact q H'
 ·exact absurd e2 (v0v nl e1)
theorem s_xf {X:Cx}{o value:Expr}{ta tv:TE}{f:Str}{pos pos':Pos} (ha:JE X o ta) (hv:JE X value tv) (hs:swapsWith value (some (.Attribute o f pos')) pos.line X.env=pure false:=by rfl):JS X (.Assign [.Attribute o f pos'] value pos) (sXF X.K ta tv f):=⟨ps_xf ha.out hv.out hs⟩
section
variable {P:Program}{w:World}{K:W.Frag}{mg:MG}{base:Heap}{f C:Addr}{fd:FuncData}
theorem ok_x {q fl:Str}{st:Stmt}{p1 p2 p3 p4:Pos} (F:Fun K "__init__" q st f fd) (S:FnScope ["self",fl] ["self",fl] (defScope st)) (hb:defBody st=[.Assign [.Attribute (.Name "self" p1) fl p2] (.Name fl p3) p4]) (e1:(fl==("__debug__":Str))=false) (e2:(fl==("__classdict__":Str))=false) (c:XCls K C f) (n:NoAttr K C fl):FnOk P w K mg base CX0 1 f fd ["self",fl] (spXI C [fl]):=by
 have vi:∀ x∈(["self",fl]:List Str),Vis (defScope st) x:=fun x hx=>(S.par x hx).elim .inl fun z=>.inr (.inl z)
 refine F.okJ S (fun vs H Q E h=>?_) (fun cdv A outer s H vs Q E hr h=>?_)
 ·obtain ⟨a,args,n',rfl,hl,_⟩:=h
  rw [List.length_cons,hl];rfl
 obtain ⟨a,args,n',rfl,hl,ha,q⟩:=h
 match args,hl,q with
 | [v],_,q =>
  rw [hb]
  refine ⟨_,b_one (s_xf (ev 0 rfl (vi _ (by simp))) (ev 1 rfl (vi _ (by simp)) e1 e2)),?_⟩
  exact ⟨_,rfl,_,rfl,a,C,f,n',rfl,c,n,ha,fun dx h1 h2=>q dx h1 h2⟩
end
def AtF (K:W.Frag) (x:Str) (st:Stmt):Prop:=∃ f oc od kV dc pm an cd ct sl,W.nsIn K mainGlobals x=some (some (.ref f))∧K.lookup f=some ⟨oc,od,.func (W.fnOf x x (defArgs st) (defBody st) (defScope st) .none kV dc pm an cd ct),sl⟩∧W.codeIn K cd x=true∧W.keepIn K (.ref f)=true
def AtY (K:W.Frag) (C:Addr) (x q:Str) (st:Stmt):Prop:=∃ f oc od kV dc pm an cd ct sl,W.findIn K (.ref C) x=some (some (.ref f))∧W.isFn K (.ref f)=true∧K.lookup f=some ⟨oc,od,.func (W.fnOf x q (defArgs st) (defBody st) (defScope st) .none kV dc pm an cd ct),sl⟩∧W.codeIn K cd q=true∧W.keepIn K (.ref f)=true
def AtX (K:W.Frag) (C:Addr) (x q fl:Str) (st:Stmt):Prop:=W.nsIn K mainGlobals x=some (some (.ref C))∧∃ f oc od kV dc pm an cd ct sl,W.findIn K (.ref C) "__init__"=some (some (.ref f))∧K.lookup f=some ⟨oc,od,.func (W.fnOf "__init__" q (defArgs st) (defBody st) (defScope st) .none kV dc pm an cd ct),sl⟩∧W.codeIn K cd q=true∧W.keepIn K (.ref f)=true∧xcB K C f=true∧W.findIn K (.ref C) fl=some none∧xbB K C=true
section
variable {P:Program}{w:World}{K:W.Frag}{h:Heap}{mg:MG}{base:Heap}{f C:Addr}{fd:FuncData}{x q fl m:Str}{st:Stmt}{k:Nat}{ps:List Str}{p1 p2 p3 p4 p5:Str}
theorem AtF.go (a:AtF K x st) (X:K.In h) (G:h.Ns mainGlobals mg):∃ f fd,Fun K x x st f fd∧mg x=some (.ref f)∧W.keepIn K (.ref f)=true:=by
 obtain ⟨f,oc,od,kV,dc,pm,an,cd,ct,sl,h1,h2,h3,h4⟩:=a
 exact ⟨f,_,u7s h2 h3 h4,W.mg_of X G h1,h4⟩
theorem AtY.go (a:AtY K C x q st):∃ f fd,Fun K x q st f fd∧Meth K C x f:=by
 obtain ⟨f,oc,od,kV,dc,pm,an,cd,ct,sl,h1,h2,h3,h4,h5⟩:=a
 exact ⟨f,_,u7s h3 h4 h5,h1,h2,h5⟩
theorem AtX.go (a:AtX K C x q fl st) (X:K.In h) (G:h.Ns mainGlobals mg):∃ f fd,Fun K "__init__" q st f fd∧XCls K C f∧NoAttr K C fl∧mg x=some (.ref C)∧XBase K C:=by
 obtain ⟨h0,f,oc,od,kV,dc,pm,an,cd,ct,sl,h1,h2,h3,h4,h5,h6,h7⟩:=a
 exact ⟨f,_,u7s h2 h3 h4,xcls_of h5,h6,W.mg_of X G h0,u4s h7⟩
abbrev bA (x q:Str) (st:Stmt) (us:List Value) (l:List (Str×Value)):Prop:=∀ (kV doc pm:Value) (an:Option Addr) (cdv ct:Value),bindArgs (W.fnOf x q (defArgs st) (defBody st) (defScope st) .none kV doc pm an cdv ct) ⟨us,[]⟩=pure l
theorem _root_.L2.Fun.b1 (F:Fun K x q st f fd) (e:∀ a,bA x q st [a] [(p1,a)]):Binds K fd [p1] []:=F.binds fun kV doc pm an cdv ct us hl=>match us,hl with | [a],_=>e a kV doc pm an cdv ct
theorem _root_.L2.Fun.b2 (F:Fun K x q st f fd) (e:∀ a b,bA x q st [a,b] [(p1,a),(p2,b)]):Binds K fd [p1,p2] []:=F.binds fun kV doc pm an cdv ct us hl=>match us,hl with | [a,b],_=>e a b kV doc pm an cdv ct
theorem _root_.L2.Fun.b3 (F:Fun K x q st f fd) (e:∀ a b c,bA x q st [a,b,c] [(p1,a),(p2,b),(p3,c)]):Binds K fd [p1,p2,p3] []:=F.binds fun kV doc pm an cdv ct us hl=>match us,hl with | [a,b,c],_=>e a b c kV doc pm an cdv ct
theorem _root_.L2.Fun.b4 (F:Fun K x q st f fd) (e:∀ a b c d,bA x q st [a,b,c,d] [(p1,a),(p2,b),(p3,c),(p4,d)]):Binds K fd [p1,p2,p3,p4] []:=F.binds fun kV doc pm an cdv ct us hl=>match us,hl with | [a,b,c,d],_=>e a b c d kV doc pm an cdv ct
theorem _root_.L2.Fun.b5 (F:Fun K x q st f fd) (e:∀ a b c d g,bA x q st [a,b,c,d,g] [(p1,a),(p2,b),(p3,c),(p4,d),(p5,g)]):Binds K fd [p1,p2,p3,p4,p5] []:=F.binds fun kV doc pm an cdv ct us hl=>match us,hl with | [a,b,c,d,g],_=>e a b c d g kV doc pm an cdv ct
theorem mkC {g:FD} (H:FnOk P w K mg base CX0 k f fd ps (spF K g)) (b:Binds K fd ps []) (kp:W.keepIn K (.ref f)=true) (a:mg x=some (.ref f)):Callee P w K mg base k x ps (spF K g):=⟨f,fd,H,b,kp,a⟩
theorem mkX {g:FD} (H:FnOk P w K mg base (CXe P w) k f fd ps (spX K g)) (b:Binds K fd ps []) (kp:W.keepIn K (.ref f)=true) (a:mg x=some (.ref f)):CalleeX P w K mg base k x ps g:=⟨f,fd,H,b,kp,a⟩
theorem mkN {g:List D→Res (List D)} (H:FnOk P w K mg base (CXe P w) k f fd ps (spN K g)) (b:Binds K fd ps []) (kp:W.keepIn K (.ref f)=true) (a:mg x=some (.ref f)):CalleeN P w K mg base k x ps g:=⟨f,fd,H,b,kp,a⟩
theorem mkM {g:FD} (c:Cls K C) (m:Meth K C x f) (H:FnOk P w K mg base (CXe P w) k f fd ps (spX K g)) (b:Binds K fd ps []):MCallee P w K mg base k C x ps g:=⟨f,fd,c,m,H,b⟩
theorem mkMN {g:List D→Res (List D)} (c:Cls K C) (m:Meth K C x f) (H:FnOk P w K mg base (CXe P w) k f fd ps (spN K g)) (b:Binds K fd ps []):MCalleeN P w K mg base k C x ps g:=⟨f,fd,c,m,H,b⟩
theorem mkE (H:FnOk P w K mg base CX0 1 f fd ["self",fl] (spXI C [fl])) (b:Binds K fd ["self",fl] []) (c:XCls K C f) (a:mg x=some (.ref C)):XCalleeF P w K mg base 1 x C ["self",fl] [fl]:=⟨f,fd,c,H,b,a⟩
end
section
variable {P:Program}{w:World}{K:W.Frag}{mg:MG}{base:Heap}{f C:Addr}{fd:FuncData}{x:Str}{ps:List Str}{k:Nat}{A:Adr}
theorem mkW {g:List Sl→Res (D×List Sl)} (H:FnOk P w K mg base CX0 k f fd ps (spM K g)) (b:Binds K fd ps []) (kp:W.keepIn K (.ref f)=true) (a:mg x=some (.ref f)):Callee P w K mg base k x ps (spM K g):=⟨f,fd,H,b,kp,a⟩
theorem mkF {g:FD} (c:Cls K C) (m:Meth K C x f) (H:FnOk P w K mg base CX0 k f fd ps (spF K g)) (b:Binds K fd ps []):MCalleeF P w K mg base k C x ps g:=⟨f,fd,c,m,H,b⟩
theorem two {α:Type}{R:Addr→α→Prop} (h1:∃ g,R A.Leaf g) (h2:∃ g,R A.Node g):∃ g:Addr→α,∀ C∈[A.Leaf,A.Node],R C (g C):=by
 classical
 obtain ⟨g1,h1⟩:=h1
 obtain ⟨g2,h2⟩:=h2
 refine ⟨fun C=>if C=A.Leaf then g1 else g2,fun C hC=>?_⟩
 by_cases c:C=A.Leaf
 ·rw [c];simp only [if_true];exact h1
 ·rcases u5B.mp hC with h | h
  ·exact absurd h c
  ·simp only [if_neg c];rw [h];exact h2
theorem bad0:FnOk P w K mg base CX0 k f fd ps (spF K fun _=>.bad):=⟨fun vs H Q E ⟨F,ds,_,_,q⟩=>q.elim,fun A outer s H args us vs Q E _ _ _ _ ⟨F,ds,_,_,q⟩=>q.elim⟩
theorem badM0:FnOk P w K mg base CX0 k f fd ps (spM K fun _=>.bad):=⟨fun vs H Q E ⟨F,hb,sl,_,_,q⟩=>q.elim,fun A outer s H args us vs Q E _ _ _ _ ⟨F,hb,sl,_,_,q⟩=>q.elim⟩
theorem recF {R:Nat→(List D→Res D)→Prop} (r0:R 0 fun _=>.bad) (b:Binds K fd ps []) (kp:W.keepIn K (.ref f)=true) (a:mg x=some (.ref f))
  (step:∀ k d g,3≤k→Callee P w K mg base k x ps (spF K g)→R d g→∃ G,FnOk P w K mg base CX0 (k+1) f fd ps (spF K G)∧R (d+1) G):∀ d,∃ G,Callee P w K mg base (3+d) x ps (spF K G)∧R d G
 | 0=>⟨_,mkC bad0 b kp a,r0⟩
 | d+1=>by
  obtain ⟨g,c,r⟩:=recF r0 b kp a step d
  obtain ⟨G,H,r'⟩:=step (3+d) d g (by omega) c r
  exact ⟨G,mkC H b kp a,r'⟩
theorem recM {R:Nat→(List Sl→Res (D×List Sl))→Prop} (r0:R 0 fun _=>.bad) (b:Binds K fd ps []) (kp:W.keepIn K (.ref f)=true) (a:mg x=some (.ref f))
  (step:∀ k d g,3≤k→Callee P w K mg base k x ps (spM K g)→R d g→∃ G,FnOk P w K mg base CX0 (k+1) f fd ps (spM K G)∧R (d+1) G):∀ d,∃ G,Callee P w K mg base (3+d) x ps (spM K G)∧R d G
 | 0=>⟨_,mkW badM0 b kp a,r0⟩
 | d+1=>by
  obtain ⟨g,c,r⟩:=recM r0 b kp a step d
  obtain ⟨G,H,r'⟩:=step (3+d) d g (by omega) c r
  exact ⟨G,mkW H b kp a,r'⟩
theorem u7y (m:Md):1≤dp m:=by cases m <;> simp [dp]
end
set_option maxHeartbeats 0 in
theorem all_mk {l:W.OpenLaw}{w:World}{K:W.Frag}{h:Heap}{mg:MG}{fa fl CNoPlace CTableError CTree CLeaf CNode:Addr} (X:K.In h) (G:h.Ns mainGlobals mg) (hfa:mg "law"=some (.ref fa)) {odl anl:Option Addr}{sll:Array (Option Value)}{ocl kVl dcl pml cdl ctl:Value}
  (h0:AtF K "is_whole" u2O) (h1:AtF K "children_of" u1z) (h2:AtF K "trees_along" u1t) (h3:AtF K "nodes_upwards" u1b) (h4:AtF K "put_in" u4z) (h5:AtF K "are_alike_here" u0Y) (h6:AtF K "alike" u6l) (h7:AtF K "_law_cell" u2N) (h8:AtF K "_law_stir" u2K) (h9:AtF K "_law_stream" u1K) (h10:AtF K "_law_draw" u2M) (h11:AtF K "_law_sign" u2L) (h12:AtF K "_law_grown" u2e) (h13:AtF K "_law_made" u1S) (h14:AtF K "_law_is" u4A) (h15:AtF K "_law_paths" u1x) (h16:AtF K "_law_at" u4B) (h17:AtF K "_law_count" u2f) (h18:AtF K "_law_told" u2J) (h19:AtF K "_law_with" u2I) (h20:AtF K "_law_refused" u1w) (h21:AtF K "_law_bad_paths" u0N) (h22:AtF K "_law_other" u2d) (h23:AtF K "_law_doubled" u1y) (h24:AtF K "_law_chain" u2g) (xNoPlace:AtX K CNoPlace "NoPlace" "NoPlace.__init__" "place" (meth 3 0)) (gT:W.nsIn K mainGlobals "TableError"=some (some (.ref CTableError))∧xbB K CTableError=true) (s_b:subK K CNoPlace CTableError=true) (b_x:xbB K CNoPlace=true) (gTree:W.nsIn K mainGlobals "Tree"=some (some (.ref CTree))) (gLeaf:W.nsIn K mainGlobals "Leaf"=some (some (.ref CLeaf))) (gNode:W.nsIn K mainGlobals "Node"=some (some (.ref CNode))) (pgLeaf:W.plainGet K CLeaf Str.empty=true) (hdLeaf:W.hasDictIn K CLeaf=true) (poLeaf:W.plainOver K CLeaf=true) (saLeaf:W.findIn K (.ref CLeaf) "__setattr__"=some (some (.builtin "object.__setattr__"))) (mkLeaf:W.makesIn K CLeaf=true) (kpLeaf:W.keepIn K (.ref CLeaf)=true) (haLeaf:W.findIn K (.ref CLeaf) "__class__"=some (some (.builtin "object.__class__"))) (hmLeaf:W.mroIn K CLeaf (.type "object")=some true) (inLeaf:AtY K CLeaf "__init__" "Leaf.__init__" u1v) (msizeLeaf:AtY K CLeaf "size" "Tree.size" u1a) (mdepthLeaf:AtY K CLeaf "depth" "Tree.depth" u0T) (msignsLeaf:AtY K CLeaf "signs" "Tree.signs" u0S) (matLeaf:AtY K CLeaf "at" "Tree.at" u1u) (mis_leafLeaf:AtY K CLeaf "is_leaf" "Leaf.is_leaf" u0X) (na_Leaf_sign:W.findIn K (.ref CLeaf) "sign"=some none) (na_Leaf_tree_size:W.findIn K (.ref CLeaf) "tree_size"=some none) (na_Leaf_tree_depth:W.findIn K (.ref CLeaf) "tree_depth"=some none) (pgNode:W.plainGet K CNode Str.empty=true) (hdNode:W.hasDictIn K CNode=true) (poNode:W.plainOver K CNode=true) (saNode:W.findIn K (.ref CNode) "__setattr__"=some (some (.builtin "object.__setattr__"))) (mkNode:W.makesIn K CNode=true) (kpNode:W.keepIn K (.ref CNode)=true) (haNode:W.findIn K (.ref CNode) "__class__"=some (some (.builtin "object.__class__"))) (hmNode:W.mroIn K CNode (.type "object")=some true) (inNode:AtY K CNode "__init__" "Node.__init__" u0B) (msizeNode:AtY K CNode "size" "Tree.size" u1a) (mdepthNode:AtY K CNode "depth" "Tree.depth" u0T) (msignsNode:AtY K CNode "signs" "Tree.signs" u0S) (matNode:AtY K CNode "at" "Tree.at" u1u) (mis_leafNode:AtY K CNode "is_leaf" "Node.is_leaf" u0W) (na_Node_number:W.findIn K (.ref CNode) "number"=some none) (na_Node_children:W.findIn K (.ref CNode) "children"=some none) (na_Node_tree_size:W.findIn K (.ref CNode) "tree_size"=some none) (na_Node_tree_depth:W.findIn K (.ref CNode) "tree_depth"=some none) (hn:W.specialIn K (.builtin "object.__class__") "__get__"=some (some (.builtin "getset_descriptor.__get__"))) (ht:W.takesIn K (.builtin "object.__class__")=some true) (k_Leaf_Tree:W.kitOne K (.ref CLeaf) (.ref CTree)=some true) (k_Node_Tree:W.kitOne K (.ref CNode) (.ref CTree)=some true) (k_NoPlace_Tree:W.kitOne K (.ref CNoPlace) (.ref CTree)=some false) (kb_Tree:∀ T∈(["NoneType","bool","int","str","list","tuple","dict"]:List String),W.kitOne K (.type T) (.ref CTree)=some false) (k_Leaf_Leaf:W.kitOne K (.ref CLeaf) (.ref CLeaf)=some true) (k_Node_Leaf:W.kitOne K (.ref CNode) (.ref CLeaf)=some false) (k_NoPlace_Leaf:W.kitOne K (.ref CNoPlace) (.ref CLeaf)=some false) (kb_Leaf:∀ T∈(["NoneType","bool","int","str","list","tuple","dict"]:List String),W.kitOne K (.type T) (.ref CLeaf)=some false) (k_Leaf_Node:W.kitOne K (.ref CLeaf) (.ref CNode)=some false) (k_Node_Node:W.kitOne K (.ref CNode) (.ref CNode)=some true) (k_NoPlace_Node:W.kitOne K (.ref CNoPlace) (.ref CNode)=some false) (kb_Node:∀ T∈(["NoneType","bool","int","str","list","tuple","dict"]:List String),W.kitOne K (.type T) (.ref CNode)=some false) (k_Leaf_NoPlace:W.kitOne K (.ref CLeaf) (.ref CNoPlace)=some false) (k_Node_NoPlace:W.kitOne K (.ref CNode) (.ref CNoPlace)=some false) (k_NoPlace_NoPlace:W.kitOne K (.ref CNoPlace) (.ref CNoPlace)=some true) (kb_NoPlace:∀ T∈(["NoneType","bool","int","str","list","tuple","dict"]:List String),W.kitOne K (.type T) (.ref CNoPlace)=some false) (ne:CLeaf≠CNode) (nl:noLst K=true) (zz:∀ x∈(["isinstance","str","int","bool","list","tuple","dict","len","all","range","enumerate","zip","reversed","max","min","sum"]:List Str),W.nsIn K mainGlobals x=some none) (al:W.nsIn K mainGlobals "law"=some (some (.ref fl))) (ll:K.lookup fl=some ⟨ocl,odl,.func (W.fnOf "law" "law" (defArgs u4C) (defBody u4C) (defScope u4C) .none kVl dcl pml anl cdl ctl),sll⟩) (cl:W.codeIn K cdl "law"=true) (kl:W.keepIn K (.ref fl)=true)
  : ∃ fd:FuncData,(∀ (s:Shared) (v:Value),BindsTo s fd ⟨[v],[]⟩ [("_law_script",v)])∧∀ base:Heap,K.In base→base.Ns mainGlobals mg→FnOk l.prog w K mg base (CXe l.prog w) 17 fa fd ["_law_script"] (spLaw7 K):=by
 cases hfa.symm.trans (W.mg_of X G al)
 refine Classical.byContradiction fun hZ=>?_
 obtain ⟨_,_,FNoPlace,XNoPlace,NNoPlace,MNoPlace,BNoPlace⟩:=xNoPlace.go X G
 let A:Adr:=⟨CNoPlace,CTableError,CTree,CLeaf,CNode⟩
 have clsLeaf:Cls K CLeaf:=⟨pgLeaf,hdLeaf,poLeaf,saLeaf⟩
 have ikLeaf:InK K CLeaf:=⟨clsLeaf,haLeaf,hn,ht,hmLeaf⟩
 have clsNode:Cls K CNode:=⟨pgNode,hdNode,poNode,saNode⟩
 have ikNode:InK K CNode:=⟨clsNode,haNode,hn,ht,hmNode⟩
 have xp:XRead K "place" [CNoPlace]:=by
  intro C hC
  rw [List.mem_singleton.mp hC]
  exact ⟨⟨_,XNoPlace⟩,NNoPlace⟩
 have oTree:IsO K CTree [(CLeaf,true),(CNode,true)] [(CNoPlace,false)]:=⟨fun p hp=>by
  simp only [List.mem_cons,List.not_mem_nil,or_false] at hp
  rcases hp with rfl | rfl
  ·exact ⟨ikLeaf,k_Leaf_Tree⟩
  ·exact ⟨ikNode,k_Node_Tree⟩,fun p hp=>by
  rw [List.mem_singleton.mp hp]
  exact ⟨⟨_,XNoPlace⟩,k_NoPlace_Tree⟩,kb_Tree⟩
 have oLeaf:IsO K CLeaf [(CLeaf,true),(CNode,false)] [(CNoPlace,false)]:=⟨fun p hp=>by
  simp only [List.mem_cons,List.not_mem_nil,or_false] at hp
  rcases hp with rfl | rfl
  ·exact ⟨ikLeaf,k_Leaf_Leaf⟩
  ·exact ⟨ikNode,k_Node_Leaf⟩,fun p hp=>by
  rw [List.mem_singleton.mp hp]
  exact ⟨⟨_,XNoPlace⟩,k_NoPlace_Leaf⟩,kb_Leaf⟩
 have oNode:IsO K CNode [(CLeaf,false),(CNode,true)] [(CNoPlace,false)]:=⟨fun p hp=>by
  simp only [List.mem_cons,List.not_mem_nil,or_false] at hp
  rcases hp with rfl | rfl
  ·exact ⟨ikLeaf,k_Leaf_Node⟩
  ·exact ⟨ikNode,k_Node_Node⟩,fun p hp=>by
  rw [List.mem_singleton.mp hp]
  exact ⟨⟨_,XNoPlace⟩,k_NoPlace_Node⟩,kb_Node⟩
 have oNoPlace:IsO K CNoPlace [(CLeaf,false),(CNode,false)] [(CNoPlace,true)]:=⟨fun p hp=>by
  simp only [List.mem_cons,List.not_mem_nil,or_false] at hp
  rcases hp with rfl | rfl
  ·exact ⟨ikLeaf,k_Leaf_NoPlace⟩
  ·exact ⟨ikNode,k_Node_NoPlace⟩,fun p hp=>by
  rw [List.mem_singleton.mp hp]
  exact ⟨⟨_,XNoPlace⟩,k_NoPlace_NoPlace⟩,kb_NoPlace⟩
 have T:Txt K mg A:={ z_isinstance:=W.mg_none_of X G (zz _ (by decide)),z_str:=W.mg_none_of X G (zz _ (by decide)),z_int:=W.mg_none_of X G (zz _ (by decide)),z_bool:=W.mg_none_of X G (zz _ (by decide)),z_list:=W.mg_none_of X G (zz _ (by decide)),z_tuple:=W.mg_none_of X G (zz _ (by decide)),z_dict:=W.mg_none_of X G (zz _ (by decide)),z_len:=W.mg_none_of X G (zz _ (by decide)),z_all:=W.mg_none_of X G (zz _ (by decide)),z_range:=W.mg_none_of X G (zz _ (by decide)),z_enumerate:=W.mg_none_of X G (zz _ (by decide)),z_zip:=W.mg_none_of X G (zz _ (by decide)),z_reversed:=W.mg_none_of X G (zz _ (by decide)),z_max:=W.mg_none_of X G (zz _ (by decide)),z_min:=W.mg_none_of X G (zz _ (by decide)),z_sum:=W.mg_none_of X G (zz _ (by decide)),m_NoPlace:=MNoPlace,b_NoPlace:=BNoPlace,m_TableError:=W.mg_of X G gT.1,b_TableError:=u4s gT.2,m_Tree:=W.mg_of X G gTree,m_Leaf:=W.mg_of X G gLeaf,m_Node:=W.mg_of X G gNode,c_Leaf:=clsLeaf,na_Leaf_sign:=na_Leaf_sign,na_Leaf_tree_size:=na_Leaf_tree_size,na_Leaf_tree_depth:=na_Leaf_tree_depth,c_Node:=clsNode,na_Node_number:=na_Node_number,na_Node_children:=na_Node_children,na_Node_tree_size:=na_Node_tree_size,na_Node_tree_depth:=na_Node_tree_depth,o_Tree:=oTree,o_Leaf:=oLeaf,o_Node:=oNode,o_NoPlace:=oNoPlace,ne:=ne,x_place:=xp }
 have S:Sub K A:=⟨b_x,s_b⟩
 obtain ⟨_,_,F0,a0,kk0⟩:=h0.go X G
 obtain ⟨_,_,F1,a1,kk1⟩:=h1.go X G
 obtain ⟨_,_,F2,a2,kk2⟩:=h2.go X G
 obtain ⟨_,_,F3,a3,kk3⟩:=h3.go X G
 obtain ⟨_,_,F4,a4,kk4⟩:=h4.go X G
 obtain ⟨_,_,F5,a5,kk5⟩:=h5.go X G
 obtain ⟨_,_,F6,a6,kk6⟩:=h6.go X G
 obtain ⟨_,_,F7,a7,kk7⟩:=h7.go X G
 obtain ⟨_,_,F8,a8,kk8⟩:=h8.go X G
 obtain ⟨_,_,F9,a9,kk9⟩:=h9.go X G
 obtain ⟨_,_,F10,a10,kk10⟩:=h10.go X G
 obtain ⟨_,_,F11,a11,kk11⟩:=h11.go X G
 obtain ⟨_,_,F12,a12,kk12⟩:=h12.go X G
 obtain ⟨_,_,F13,a13,kk13⟩:=h13.go X G
 obtain ⟨_,_,F14,a14,kk14⟩:=h14.go X G
 obtain ⟨_,_,F15,a15,kk15⟩:=h15.go X G
 obtain ⟨_,_,F16,a16,kk16⟩:=h16.go X G
 obtain ⟨_,_,F17,a17,kk17⟩:=h17.go X G
 obtain ⟨_,_,F18,a18,kk18⟩:=h18.go X G
 obtain ⟨_,_,F19,a19,kk19⟩:=h19.go X G
 obtain ⟨_,_,F20,a20,kk20⟩:=h20.go X G
 obtain ⟨_,_,F21,a21,kk21⟩:=h21.go X G
 obtain ⟨_,_,F22,a22,kk22⟩:=h22.go X G
 obtain ⟨_,_,F23,a23,kk23⟩:=h23.go X G
 obtain ⟨_,_,F24,a24,kk24⟩:=h24.go X G
 have FL:=u7s (st:=u4C) ll cl kl
 obtain ⟨_,_,FinLeaf,ninLeaf⟩:=inLeaf.go
 obtain ⟨_,_,FsizeLeaf,nsizeLeaf⟩:=msizeLeaf.go
 obtain ⟨_,_,FdepthLeaf,ndepthLeaf⟩:=mdepthLeaf.go
 obtain ⟨_,_,FsignsLeaf,nsignsLeaf⟩:=msignsLeaf.go
 obtain ⟨_,_,FatLeaf,natLeaf⟩:=matLeaf.go
 obtain ⟨_,_,Fis_leafLeaf,nis_leafLeaf⟩:=mis_leafLeaf.go
 obtain ⟨_,_,FinNode,ninNode⟩:=inNode.go
 obtain ⟨_,_,FsizeNode,nsizeNode⟩:=msizeNode.go
 obtain ⟨_,_,FdepthNode,ndepthNode⟩:=mdepthNode.go
 obtain ⟨_,_,FsignsNode,nsignsNode⟩:=msignsNode.go
 obtain ⟨_,_,FatNode,natNode⟩:=matNode.go
 obtain ⟨_,_,Fis_leafNode,nis_leafNode⟩:=mis_leafNode.go
 refine hZ ⟨W.fnOf "law" "law" (defArgs u4C) (defBody u4C) (defScope u4C) .none kVl dcl pml anl cdl ctl,fun s v=>.of_eq rfl,fun base _ _=>Classical.byContradiction fun hY=>?_⟩
 have x_NoPlace:=mkE (ok_x (P:=l.prog) (w:=w) (base:=base) FNoPlace ⟨rfl,rfl,rfl,by decide +kernel,rfl,by decide +kernel,by decide +kernel⟩ rfl rfl rfl XNoPlace NNoPlace) (FNoPlace.b2 fun _ _ _ _ _ _ _ _=>rfl) XNoPlace MNoPlace
 obtain ⟨_,H,q0⟩:=u6x (P:=l.prog) (w:=w) (base:=base)  F0 T
 have c_is_whole:=mkC H (F0.b1 fun _ _ _ _ _ _ _=>rfl) kk0 a0
 have p_is_whole:=q0
 obtain ⟨g_is_leaf,t_is_leaf⟩:=two (A:=A) (R:=fun C g=>MCalleeF l.prog w K mg base 1 C "is_leaf" ["self"] g∧(C=A.Leaf→∀ d,g [d]=.ok (.bl true))∧(C=A.Node→∀ d,g [d]=.ok (.bl false)))
  (by
   obtain ⟨G,H,p⟩:=u3A (P:=l.prog) (w:=w) (base:=base)  Fis_leafLeaf T
   exact ⟨G,mkF clsLeaf nis_leafLeaf H (Fis_leafLeaf.b1 fun _ _ _ _ _ _ _=>rfl),fun _=>p,fun e=>absurd e ne⟩)
  (by
   obtain ⟨G,H,p⟩:=u3z (P:=l.prog) (w:=w) (base:=base)  Fis_leafNode T
   exact ⟨G,mkF clsNode nis_leafNode H (Fis_leafNode.b1 fun _ _ _ _ _ _ _=>rfl),fun e=>absurd e.symm ne,fun _=>p⟩)
 have m_is_leaf:=fun C h=>(t_is_leaf C h).1
 have p_is_leaf:LeafM A g_is_leaf:=⟨fun d=>(t_is_leaf A.Leaf (by simp)).2.1 rfl d,fun d=>(t_is_leaf A.Node (by simp)).2.2 rfl d⟩
 obtain ⟨g_size,t_size⟩:=two (A:=A) (R:=fun C g=>MCalleeF l.prog w K mg base 1 C "size" ["self"] g∧∀ d,Kid A d→g [d]=.ok (.int (tsz d)))
  (by
   obtain ⟨G,H,p⟩:=u2Y (P:=l.prog) (w:=w) (base:=base)  FsizeLeaf T
   exact ⟨G,mkF clsLeaf nsizeLeaf H (FsizeLeaf.b1 fun _ _ _ _ _ _ _=>rfl),p⟩)
  (by
   obtain ⟨G,H,p⟩:=u2Y (P:=l.prog) (w:=w) (base:=base)  FsizeNode T
   exact ⟨G,mkF clsNode nsizeNode H (FsizeNode.b1 fun _ _ _ _ _ _ _=>rfl),p⟩)
 have m_size:=fun C h=>(t_size C h).1
 have p_size:=fun C d h=>(t_size C h).2 d
 obtain ⟨g_depth,t_depth⟩:=two (A:=A) (R:=fun C g=>MCalleeF l.prog w K mg base 1 C "depth" ["self"] g∧∀ d,Kid A d→g [d]=.ok (.int (tdp d)))
  (by
   obtain ⟨G,H,p⟩:=u2v (P:=l.prog) (w:=w) (base:=base)  FdepthLeaf T
   exact ⟨G,mkF clsLeaf ndepthLeaf H (FdepthLeaf.b1 fun _ _ _ _ _ _ _=>rfl),p⟩)
  (by
   obtain ⟨G,H,p⟩:=u2v (P:=l.prog) (w:=w) (base:=base)  FdepthNode T
   exact ⟨G,mkF clsNode ndepthNode H (FdepthNode.b1 fun _ _ _ _ _ _ _=>rfl),p⟩)
 have m_depth:=fun C h=>(t_depth C h).1
 have p_depth:=fun C d h=>(t_depth C h).2 d
 have k_Leaf:KCalleeF l.prog w K mg base 1 "Leaf" A.Leaf ["self","sign"] K11.gLeaf:=⟨_,_,⟨mkLeaf,ninLeaf.1,ninLeaf.fn,kpLeaf⟩,u5r (P:=l.prog) (w:=w) (base:=base) FinLeaf T,(FinLeaf.b2 fun _ _ _ _ _ _ _ _=>rfl),W.mg_of X G gLeaf⟩
 have k_Node:KCalleeF l.prog w K mg base 2 "Node" A.Node ["self","number","children"] (K11.gNode A):=⟨_,_,⟨mkNode,ninNode.1,ninNode.fn,kpNode⟩,u5q (P:=l.prog) (w:=w) (base:=base) m_size m_depth p_size p_depth FinNode T,(FinNode.b3 fun _ _ _ _ _ _ _ _ _=>rfl),W.mg_of X G gNode⟩
 have p_Leaf:∀ s:Str,K11.gLeaf [.str s]=.ok [("sign",.str s),("tree_size",.int 1),("tree_depth",.int 1)]:=fun _=>rfl
 have p_Node:∀ (n:Int) (ms:List Md),ms.length≤1000→∀ {c:D},rowOf c=some (trs A ms)→K11.gNode A [.int n,c]=.ok [("number",.int n),("children",.tup (trs A ms)),("tree_size",.int (1+szs ms)),("tree_depth",.int (1+dps ms))]:=fun n ms h=>v0R A n ms h
 obtain ⟨_,H,q1⟩:=u4c (P:=l.prog) (w:=w) (base:=base) m_is_leaf p_is_leaf F1 T
 have c_children_of:=mkC H (F1.b1 fun _ _ _ _ _ _ _=>rfl) kk1 a1
 have p_children_of:=q1
 obtain ⟨_,H,q5⟩:=u2P (P:=l.prog) (w:=w) (base:=base) m_is_leaf p_is_leaf F5 T
 have c_are_alike_here:=mkC H (F5.b2 fun _ _ _ _ _ _ _ _=>rfl) kk5 a5
 have p_are_alike_here:=q5
 obtain ⟨_,H,q6⟩:=v0l (P:=l.prog) (w:=w) (base:=base) c_children_of c_are_alike_here p_children_of p_are_alike_here F6 T
 have c_alike:=mkC H (F6.b2 fun _ _ _ _ _ _ _ _=>rfl) kk6 a6
 have p_alike:=q6
 obtain ⟨_,H,q2⟩:=u3Z (P:=l.prog) (w:=w) (base:=base) c_is_whole c_children_of x_NoPlace p_is_whole p_children_of F2 T
 have c_trees_along:=mkX H (F2.b2 fun _ _ _ _ _ _ _ _=>rfl) kk2 a2
 have p_trees_along:=v0k q2
 obtain ⟨g_at,t_at⟩:=two (A:=A) (R:=fun C g=>MCallee l.prog w K mg base 4 C "at" ["self","path"] g∧(∀ m is,Pth m is→is.length≤1000→g [tr A m,.lst (pI is)]=.ok (tr A (atN m is)))∧(∀ m is x,Pth m is→is.length≤1000→NoPl (kids (atN m is)).length x→g [tr A m,.lst (pI is++[x])]=.err (.exc A.NoPlace [("place",.lst (pI is++[x]))]))∧(∀ m d,gIsA [d,.ty "list"]=.ok (.bl false)→g [tr A m,d]=.err (.exc A.NoPlace [("place",d)])))
  (by
   obtain ⟨G,H,p⟩:=u4k (P:=l.prog) (w:=w) (base:=base) c_trees_along p_trees_along FatLeaf T
   exact ⟨G,mkM clsLeaf natLeaf H (FatLeaf.b2 fun _ _ _ _ _ _ _ _=>rfl),p⟩)
  (by
   obtain ⟨G,H,p⟩:=u4k (P:=l.prog) (w:=w) (base:=base) c_trees_along p_trees_along FatNode T
   exact ⟨G,mkM clsNode natNode H (FatNode.b2 fun _ _ _ _ _ _ _ _=>rfl),p⟩)
 have m_at:=fun C h=>(t_at C h).1
 have p_at:AtM A g_at:=⟨fun C h=>(t_at C h).2.1,fun C h=>(t_at C h).2.2.1,fun C h=>(t_at C h).2.2.2⟩
 obtain ⟨_,H,q3⟩:=u3e (P:=l.prog) (w:=w) (base:=base) c_trees_along p_trees_along F3 T
 have c_nodes_upwards:=mkX H (F3.b2 fun _ _ _ _ _ _ _ _=>rfl) kk3 a3
 have p_nodes_upwards:=q3
 obtain ⟨_,H,q4⟩:=u8H (P:=l.prog) (w:=w) (base:=base) c_nodes_upwards k_Node p_nodes_upwards p_Node F4 T
 have c_put_in:=mkX H (F4.b3 fun _ _ _ _ _ _ _ _ _=>rfl) kk4 a4
 have p_put:PutM A _:=⟨q4.1,q4.2.1,q4.2.2⟩
 obtain ⟨g_signs,t_signs⟩:=two (A:=A) (R:=fun C g=>MCalleeN l.prog w K mg base 2 C "signs" ["self"] g∧∀ m,sz m≤10000→g [tr A m]=.ok ((yd m).map D.str))
  (by
   obtain ⟨G,H,p⟩:=u2u (P:=l.prog) (w:=w) (base:=base) m_is_leaf p_is_leaf FsignsLeaf T
   exact ⟨G,mkMN clsLeaf nsignsLeaf H (FsignsLeaf.b1 fun _ _ _ _ _ _ _=>rfl),p⟩)
  (by
   obtain ⟨G,H,p⟩:=u2u (P:=l.prog) (w:=w) (base:=base) m_is_leaf p_is_leaf FsignsNode T
   exact ⟨G,mkMN clsNode nsignsNode H (FsignsNode.b1 fun _ _ _ _ _ _ _=>rfl),p⟩)
 have mn_signs:=fun C h=>(t_signs C h).1
 have p_signs:SignsM A g_signs:=fun C h=>(t_signs C h).2
 obtain ⟨_,H,q7⟩:=u6w (P:=l.prog) (w:=w) (base:=base)  F7 T
 have c__law_cell:=mkC H (F7.b2 fun _ _ _ _ _ _ _ _=>rfl) kk7 a7
 have p_cell:=q7
 obtain ⟨_,H,q8⟩:=u6s (P:=l.prog) (w:=w) (base:=base)  F8 T
 have c__law_stir:=mkC H (F8.b2 fun _ _ _ _ _ _ _ _=>rfl) kk8 a8
 have p_stir:=q8
 obtain ⟨_,H,q9⟩:=u4F (P:=l.prog) (w:=w) (base:=base)  F9 T
 have cn__law_stream:=mkN H (F9.b1 fun _ _ _ _ _ _ _=>rfl) kk9 a9
 have p_stream:=q9
 obtain ⟨_,H,q10⟩:=u6v (P:=l.prog) (w:=w) (base:=base) c__law_stir p_stir F10 T
 have c__law_draw:=mkW H (F10.b2 fun _ _ _ _ _ _ _ _=>rfl) kk10 a10
 have p_draw:=q10
 obtain ⟨_,H,q11⟩:=u6t (P:=l.prog) (w:=w) (base:=base) c__law_draw p_draw F11 T
 have c__law_sign:=mkW H (F11.b1 fun _ _ _ _ _ _ _=>rfl) kk11 a11
 have p_sign:=q11
 obtain ⟨_,c__law_grown,p_grown⟩:=recM (x:="_law_grown") (R:=Grow) (fun a c k r e h=>by omega) (F12.b3 fun _ _ _ _ _ _ _ _ _=>rfl) kk12 a12 (fun k d g hk cf rf=>u5n (P:=l.prog) (w:=w) (base:=base) hk c__law_draw c__law_sign cf p_draw p_sign rf F12 T) 7
 obtain ⟨_,c__law_made,p_made⟩:=recF (x:="_law_made") (R:=Made A) (fun m h=>by have:=u7y m;omega) (F13.b1 fun _ _ _ _ _ _ _=>rfl) kk13 a13 (fun k d g hk cf rf=>u6u (P:=l.prog) (w:=w) (base:=base) hk cf k_Node k_Leaf p_Node p_Leaf rf F13 T) 12
 obtain ⟨_,c__law_is,p_is⟩:=recF (x:="_law_is") (R:=IsM A) (fun m h=>by have:=u7y m;omega) (F14.b2 fun _ _ _ _ _ _ _ _=>rfl) kk14 a14 (fun k d g hk cf rf=>u8I (P:=l.prog) (w:=w) (base:=base) hk cf rf F14 T) 10
 obtain ⟨_,c__law_paths,p_paths⟩:=recF (x:="_law_paths") (R:=PathsM) (fun m h=>by have:=u7y m;omega) (F15.b1 fun _ _ _ _ _ _ _=>rfl) kk15 a15 (fun k d g hk cf rf=>u5l (P:=l.prog) (w:=w) (base:=base) hk cf rf F15 T) 10
 obtain ⟨_,c__law_count,p_count⟩:=recF (x:="_law_count") (R:=CountM) (fun m h=>by have:=u7y m;omega) (F17.b1 fun _ _ _ _ _ _ _=>rfl) kk17 a17 (fun k d g hk cf rf=>u5o (P:=l.prog) (w:=w) (base:=base) hk cf rf F17 T) 10
 obtain ⟨_,c__law_with,p_with⟩:=recF (x:="_law_with") (R:=WithM) (fun m is o h=>by omega) (F19.b3 fun _ _ _ _ _ _ _ _ _=>rfl) kk19 a19 (fun k d g hk cf rf=>u6q (P:=l.prog) (w:=w) (base:=base) hk cf rf F19 T) 10
 obtain ⟨_,H,q16⟩:=u8J (P:=l.prog) (w:=w) (base:=base)  F16 T
 have c__law_at:=mkC H (F16.b2 fun _ _ _ _ _ _ _ _=>rfl) kk16 a16
 have p_lat:=q16
 obtain ⟨_,H,q18⟩:=u6r (P:=l.prog) (w:=w) (base:=base) c__law_count m_is_leaf m_size m_depth mn_signs p_is_leaf p_size p_depth p_signs p_count F18 T
 have c__law_told:=mkX H (F18.b2 fun _ _ _ _ _ _ _ _=>rfl) kk18 a18
 have p_told:=q18
 obtain ⟨_,H,q20⟩:=u4a (P:=l.prog) (w:=w) (base:=base) c_put_in k_Leaf m_at S p_at p_put p_Leaf F20 T
 have c__law_refused:=mkX H (F20.b3 fun _ _ _ _ _ _ _ _ _=>rfl) kk20 a20
 have p_refused:=q20
 obtain ⟨_,H,q21⟩:=u3f (P:=l.prog) (w:=w) (base:=base) c__law_at p_lat F21 T
 have c__law_bad_paths:=mkC H (F21.b3 fun _ _ _ _ _ _ _ _ _=>rfl) kk21 a21
 have p_bad:=q21
 obtain ⟨_,H,q22⟩:=u5m (P:=l.prog) (w:=w) (base:=base) c__law_at c__law_with p_lat p_with F22 T
 have c__law_other:=mkC H (F22.b3 fun _ _ _ _ _ _ _ _ _=>rfl) kk22 a22
 have p_other:=q22
 have p_made10:Made A 10 _:=fun m h=>p_made m (by omega)
 have p_with3:WithM 3 _:=fun m is o h=>p_with m is o (by omega)
 obtain ⟨_,H,q23⟩:=u4b (P:=l.prog) (w:=w) (base:=base) c_put_in c_alike c__law_made c__law_is c__law_with c__law_told k_Node k_Leaf p_Node p_Leaf p_alike p_put p_made10 p_is p_with3 p_told F23 T
 have c__law_doubled:=mkX H (F23.b2 fun _ _ _ _ _ _ _ _=>rfl) kk23 a23
 have p_doubled:=q23
 obtain ⟨_,H,q24⟩:=u5p (P:=l.prog) (w:=w) (base:=base) c_put_in c_alike m_size m_depth k_Node k_Leaf mn_signs m_at p_Node p_Leaf p_alike p_put p_size p_depth p_signs p_at F24 T
 have c__law_chain:=mkX H (F24.b2 fun _ _ _ _ _ _ _ _=>rfl) kk24 a24
 have p_chain:=q24
 obtain ⟨_,H,pL⟩:=pr_law (P:=l.prog) (w:=w) (base:=base) c_put_in c_alike c__law_cell c__law_at c__law_made c__law_is c__law_paths c__law_with c__law_told c__law_refused c__law_bad_paths c__law_other c__law_doubled c__law_chain k_Node k_Leaf m_at c__law_grown cn__law_stream p_Node p_Leaf p_alike p_put p_at p_cell p_stream p_grown p_made p_is p_paths p_lat p_with p_told p_refused p_bad p_other p_doubled p_chain FL T
 exact hY (law_imp nl H pL)
theorem walk {l:W.OpenLaw}{q:Program}{loose:List Str}{XP:(Str→Option Value)→Heap→Prop}{YP:World→Heap→Prop}{d:DefRec}{K:Params→W.Frag} (hn:l.most=some 63) (hdf:d.params.defaults=[])
  (hY:∀ (w:World) (h:Heap),YP w h→(K w.params).In h)
  (F:∀ (w:World) (mg:MG) (fa:Addr) (h:Heap),(K w.params).In h→h.Ns mainGlobals mg→mg d.name=some (.ref fa) →
   ∃ fd:FuncData,(∀ (s:Shared) (u:Value),BindsTo s fd ⟨[u],[]⟩ [("_law_script",u)])∧∀ base:Heap,(K w.params).In base→base.Ns mainGlobals mg→FnOk l.prog w (K w.params) mg base (CXe l.prog w) 17 fa fd ["_law_script"] (spLaw7 (K w.params))) :
  W.WalkO q loose XP YP l.row.toRowW d [] (fun f vs=>PySem.call f vs) :=
 L2.walk_of (n:=63) (k:=17) (x:="_law_script") (CX:=fun w=>CXe l.prog w) (sp:=fun w=>spLaw7 (K w.params)) hn (by decide) hdf ⟨rfl,by decide,by decide⟩ hY F (fun _ H a ns hl hO hS=>⟨a,ns,rfl,hS,fun _=>rfl⟩) fun _ _ _ _ _ ⟨_,_,_,_,_,_,_,_,_,_,_,z⟩=>z
end K11
end
namespace PySem.W.Fast
def tw5259938427517174842:=True
def tw1687753390408872898:=True
def tw10514378918395256419:=True
def tw17699005311546508391:=True
def tw16900888730459058011:=True
def tw11249443246645538174:=True
def tw3887965736515349963:=True
def tw5131952867718529502:=True
def tw16963478418751718927:=True
def tw462772654418357847:=True
def tw544341544866843515:=True
def tw92817801334781672:=True
def tw15914667001994304618:=True
def tw7045014761246124635:=True
def tw11942061712996688770:=True
def tw1409487155448317694:=True
def tw4624784592445078686:=True
def tw7505263471052853826:=True
def tw8226383393050342110:=True
def tw9966215661045157907:=True
def tw802518069845618775:=True
def tw4396452539216104701:=True
def tw17494221280857824853:=True
def tw6119624490445586483:=True
def tw14220169689999308393:=True
def tw13091896295280270135:=True
def tw10570313452425091106:=True
def tw17826678453611712797:=True
def tw6722611007075721831:=True
def tw16046211362445532332:=True
def tw15945916669779739913:=True
def tw6596486885399707837:=True
def tw14306284178177175828:=True
def tw495375490530157809:=True
def tw7934022771131006213:=True
def tw10128742734786554934:=True
def tw8927321343156362924:=True
def tw13309823853219512331:=True
def tw9168471334574057373:=True
def tw6028333651383952038:=True
def tw1538272598764529391:=True
def tw10975565429433241724:=True
def tw6993093803509197445:=True
def tw11057197334828128704:=True
def tw67065809282063808:=True
def tw2812385868047430834:=True
def tw18233738589915292792:=True
def tw17549396906612586361:=True
def tw10296860795365651639:=True
def tw7018246932681511415:=True
def tw14410997294635975633:=True
def tw18330509259245250773:=True
def tw2114993778184537086:=True
def tw4999871849772726390:=True
def tw6923276607826312020:=True
def tw14796993549126558667:=True
def tw16595717267206442583:=True
def tw4516371427289374244:=True
def tw17474807077038372872:=True
def tw15015184919369238103:=True
def tw14848448563912249490:=True
def tw16099788552452333540:=True
def tw4265301571287974982:=True
def tw5734127582849794630:=True
def tw13090457229813281286:=True
def tw409355357223502793:=True
def tw15023701022064549881:=True
def tw12915408103401627059:=True
def tw15297197562292352796:=True
def tw4303330901597881393:=True
def tw11184235901036747136:=True
def tw15821068688701163057:=True
def tw16496587320041484917:=True
def tw8688313005686823680:=True
def tw13192858404599237882:=True
def tw10792771214820984241:=True
def tw10187432713848150546:=True
def tw10807141112717651435:=True
def tw15317596567839458475:=True
def tw13139434484120204959:=True
def tw2452825382242465527:=True
def tw688033905707746210:=True
def tw17630321787620713342:=True
def tw4283231828360962698:=True
def tw11228935969832274568:=True
def tw5506505658974748719:=True
def tw8484828664662020951:=True
def tw2999201203256175885:=True
def tw8071215655454259422:=True
def tw10254227261485046838:=True
def tw16737793584113995599:=True
def tw5924202559271913115:=True
def tw4582525328347891263:=True
def tw3279675853013750463:=True
def tw14727804625411623078:=True
def tw6576272267016774045:=True
def tw10506164501940620948:=True
def tw1178898133996563803:=True
def tw12694256349837473262:=True
def tw4500484657067006788:=True
def tw18383711432651679314:=True
def tw1669575603971838220:=True
def tw13870983136349098203:=True
def tw3909288355549586815:=True
def tw9763961423012786727:=True
def tw7256590163934403844:=True
def tw14549927244949087615:=True
def tw17759736711365226925:=True
def tw17322110993489395803:=True
def tw9383872649570322457:=True
def tw17214370567800985591:=True
def tw17381200705153067201:=True
def tw9800254881663566664:=True
def tw9554298467973092359:=True
def tw17384839613162173279:=True
def tw1954911553694969878:=True
def tw9149464319187415342:=True
def tw1043814810832836850:=True
def tw3703849977738755697:=True
def tw16038404558819034672:=True
def tw7653585194365072712:=True
def tw7438936253849368710:=True
def tw13763425334649316270:=True
def tw15119750095446503885:=True
def tw217903911013986230:=True
def tw11014242371788747858:=True
def tw12404109339675308403:=True
def tw10110689445630955658:=True
def tw13587792068956234924:=True
def tw6722990907193475194:=True
def tw14304095454059740670:=True
def tw17843060196552018517:=True
def tw16372694618856940834:=True
def tw5438606568814921994:=True
def tw14214616580716340410:=True
def tw2807442780124543658:=True
def tw213762489002460486:=True
def tw16501535866796926997:=True
def tw4505493996573970320:=True
def tw8989229841596838950:=True
def tw1864459144938639135:=True
def tw5834786051518588697:=True
def tw14286384118072015528:=True
def tw9797535986023552104:=True
def tw9698296332990055688:=True
def tw16385434311375574199:=True
def tw7345827068636477065:=True
def tw3376722852384916990:=True
def tw4676367192012467410:=True
def tw17860514419416757196:=True
def tw2547169237943683367:=True
def tw14427935851280572374:=True
def tw12858265537945624011:=True
def tw16727770813880732497:=True
def tw11341061917689657045:=True
def tw7089608784746338597:=True
def tw2810086213999022031:=True
def tw11164909000926339512:=True
def tw11498888495182580886:=True
def tw11296129504373872986:=True
def tw17816105583643298027:=True
def tw16234811488197702145:=True
def tw5634278817307160578:=True
def tw10806329175950746152:=True
def tw6772023362664222926:=True
def tw11185454053954114550:=True
def tw7391846606851748253:=True
def tw604424074744055440:=True
def tw15058084950642932757:=True
def tw5073284262652245766:=True
def tw12309712818357270590:=True
def tw2177323211529566197:=True
def tw182753094109987255:=True
def tw16798890566860925873:=True
def tw14539626925959082987:=True
def tw5445015589667212248:=True
def tw454570380934484282:=True
def tw17688171395899152231:=True
def tw13748957079654591598:=True
def tw8279668015398955443:=True
def tw32703115458159140:=True
def tw16430710335260396523:=True
def tw11826611259795843665:=True
def tw12508056361434211704:=True
def tw4298817970823414921:=True
def tw16743975544995388896:=True
def tw18052786763514968087:=True
def tw334709960656486770:=True
def tw2009799691984076996:=True
def tw14671836369498072740:=True
def tw12319518837237717902:=True
end PySem.W.Fast
open PySem PySem.W PyProof.Rows
set_option maxRecDepth 100000 in
set_option maxHeartbeats 0 in
theorem PySem.Challenge.cw_rulestable_k11_trees_told_holds : PySem.Challenge.rw_rulestable_k11_trees_told.Holds := by
  w_on; o_law; k_head; (case hw => w_witness2)
  k_fill
  refine K11.walk (l := PySem.Challenge.rw_rulestable_k11_trees_told) rfl rfl (fun w h Y => PySem.W.kIn_of Y) ?F
  case F =>
    intro w mg fa h KX G hmg
    refine' K11.all_mk KX G hmg ?h0 ?h1 ?h2 ?h3 ?h4 ?h5 ?h6 ?h7 ?h8 ?h9 ?h10 ?h11 ?h12 ?h13 ?h14 ?h15 ?h16 ?h17 ?h18 ?h19 ?h20 ?h21 ?h22 ?h23 ?h24 ?h25 ?h26 ?h27 ?h28 ?h29 ?h30 ?h31 ?h32 ?h33 ?h34 ?h35 ?h36 ?h37 ?h38 ?h39 ?h40 ?h41 ?h42 ?h43 ?h44 ?h45 ?h46 ?h47 ?h48 ?h49 ?h50 ?h51 ?h52 ?h53 ?h54 ?h55 ?h56 ?h57 ?h58 ?h59 ?h60 ?h61 ?h62 ?h63 ?h64 ?h65 ?h66 ?h67 ?h68 ?h69 ?h70 ?h71 ?h72 ?h73 ?h74 ?h75 ?h76 ?h77 ?h78 ?h79 ?h80 ?h81 ?h82 ?h83 ?h84 ?h85 ?h86 ?h87 ?h88 ?h89 ?h90 ?h91
    case h0 | h1 | h2 | h3 | h4 | h5 | h6 | h7 | h8 | h9 | h10 | h11 | h12 | h13 | h14 | h15 | h16 | h17 | h18 | h19 | h20 | h21 | h22 | h23 | h24 => exact ⟨_, _, _, _, _, _, _, _, _, _, by k_is, by k_is, by k_is, by k_is⟩
    case h25 => exact ⟨by k_is, _, _, _, _, _, _, _, _, _, _, by k_is, by k_is, by k_is, by k_is, by kernel_rfl, by k_is, by kernel_rfl⟩
    case h26 => exact ⟨by k_is, by kernel_rfl⟩
    case h27 | h28 => kernel_rfl
    case h29 | h30 | h31 => k_is
    case h32 | h33 | h34 | h35 | h36 | h37 | h38 | h39 => first | k_is | kernel_rfl
    case h40 | h41 | h42 | h43 | h44 | h45 => exact ⟨_, _, _, _, _, _, _, _, _, _, by k_is, by first | k_is | kernel_rfl, by k_is, by k_is, by k_is⟩
    case h46 | h47 | h48 | h49 | h50 | h51 | h52 | h53 | h54 | h55 | h56 => first | k_is | kernel_rfl
    case h57 | h58 | h59 | h60 | h61 | h62 => exact ⟨_, _, _, _, _, _, _, _, _, _, by k_is, by first | k_is | kernel_rfl, by k_is, by k_is, by k_is⟩
    case h63 | h64 | h65 | h66 | h67 | h68 | h69 | h70 | h71 => first | k_is | kernel_rfl
    case h72 => intro x hx; simp only [List.mem_cons, List.not_mem_nil, or_false] at hx; rcases hx with rfl | rfl | rfl | rfl | rfl | rfl | rfl <;> first | k_is | kernel_rfl
    case h73 | h74 | h75 => first | k_is | kernel_rfl
    case h76 => intro x hx; simp only [List.mem_cons, List.not_mem_nil, or_false] at hx; rcases hx with rfl | rfl | rfl | rfl | rfl | rfl | rfl <;> first | k_is | kernel_rfl
    case h77 | h78 | h79 => first | k_is | kernel_rfl
    case h80 => intro x hx; simp only [List.mem_cons, List.not_mem_nil, or_false] at hx; rcases hx with rfl | rfl | rfl | rfl | rfl | rfl | rfl <;> first | k_is | kernel_rfl
    case h81 | h82 | h83 => first | k_is | kernel_rfl
    case h84 => intro x hx; simp only [List.mem_cons, List.not_mem_nil, or_false] at hx; rcases hx with rfl | rfl | rfl | rfl | rfl | rfl | rfl <;> first | k_is | kernel_rfl
    case h85 => decide
    case h86 => kernel_rfl
    case h87 => intro x hx; simp only [List.mem_cons, List.not_mem_nil, or_false] at hx; rcases hx with rfl | rfl | rfl | rfl | rfl | rfl | rfl | rfl | rfl | rfl | rfl | rfl | rfl | rfl | rfl | rfl <;> k_is
    case h88 | h89 | h90 | h91 => k_is
