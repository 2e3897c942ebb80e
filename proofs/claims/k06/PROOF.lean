import PyProof.Rows.All
import Wide.All
import OpenK.AllK
import Wide.FinOn
import Lean
import PyProof.EqAt
import PyProof.EqKinds
import PyProof.TupleCall
import PyProof.Rows.SetFrom
import PyProof.Rows.SortStr
import KE.KDictSum
import KE.KEqDict
import KE.KDictLaws
import PyProof.StrOps2
import PySem.Challenge.RW_rulestable_k06_what_a_grammar_tells
set_option Elab.async false
set_option linter.all false
set_option maxRecDepth 100000
section
set_option tactic.hygienic false
abbrev VP:=PySem.Value→PySem.Shared→Prop
abbrev LO:=List (PySem.Addr×PySem.Obj)
abbrev MG:=PySem.Str→Option PySem.Value
namespace L2
open PySem PySem.Spec PyProof.Rows
abbrev Key:=Sum Int Str
noncomputable def keyIs:Key→Value→Bool
 | .inl k,v=>Value.isInt k v
 | .inr x,v=>Value.isStrOf x v
noncomputable def keyH (w:World):Key→Int
 | .inl k=>hashInt k
 | .inr x=>hashStr w x
theorem u0C:∀ {k:Key}{v:Value},keyIs k v=true→(∃ i t,k=Sum.inl i∧v=Value.int i t)∨(∃ x t,k=Sum.inr x∧v=Value.str x t)
 | .inl i,v,h=>by
  obtain ⟨t,e⟩:=Value.isInt_shape (k:=i) (v:=v) h
  exact .inl ⟨i,t,rfl,e⟩
 | .inr x,v,h=>by
  obtain ⟨t,e⟩:=Value.isStrOf_shape (x:=x) (v:=v) h
  exact .inr ⟨x,t,rfl,e⟩
theorem v1I (i:Int) (t:Tok):keyIs (.inl i) (.int i t)=true:=by simp [keyIs,Value.isInt]
theorem v1H (x:Str) (t:Tok):keyIs (.inr x) (.str x t)=true:=by simp [keyIs,Value.isStrOf]
theorem key_ll (a b:Int):decide ((Sum.inl a:Key)=Sum.inl b)=(a==b):=by
 by_cases e:a=b
 ·subst e;simp
 ·have h:¬ (Sum.inl a:Key)=Sum.inl b:=fun q=>e (Sum.inl.inj q)
  rw [decide_eq_false h]
  exact (beq_eq_false_iff_ne.mpr e).symm
theorem key_rr (a b:Str):decide ((Sum.inr a:Key)=Sum.inr b)=decide (a=b):=by
 by_cases e:a=b
 ·subst e;simp
 ·have h:¬ (Sum.inr a:Key)=Sum.inr b:=fun q=>e (Sum.inr.inj q)
  rw [decide_eq_false h,decide_eq_false e]
theorem key_lr (a:Int) (b:Str):decide ((Sum.inl a:Key)=Sum.inr b)=false:=decide_eq_false (fun q=>nomatch q)
theorem key_rl (a:Str) (b:Int):decide ((Sum.inr a:Key)=Sum.inl b)=false:=decide_eq_false (fun q=>nomatch q)
noncomputable def mixKind (prog:Program) (w:World):PySem.KeyKind prog w Key where
 is:=keyIs
 hash:=keyH w
 inj:=fun v a b ha hb=>by
  rcases u0C ha with ⟨i,t,rfl,rfl⟩ | ⟨x,t,rfl,rfl⟩
  ·rcases u0C hb with ⟨j,u,rfl,e⟩ | ⟨y,u,rfl,e⟩
   ·injection e with e1 _;rw [e1]
   ·exact nomatch e
  ·rcases u0C hb with ⟨j,u,rfl,e⟩ | ⟨y,u,rfl,e⟩
   ·exact nomatch e
   ·injection e with e1 _;rw [e1]
 byValue:=fun k v h=>by
  rcases u0C h with ⟨i,t,rfl,rfl⟩ | ⟨x,t,rfl,rfl⟩ <;> rfl
 pyHash:=fun hv h=>by
  rcases u0C hv with ⟨i,t,rfl,rfl⟩ | ⟨x,t,rfl,rfl⟩
  ·exact wpAny_pyHash_int h
  ·exact wpAny_pyHash_str h
 eqBool:=fun hu hv h=>by
  rcases u0C hu with ⟨i,t,rfl,rfl⟩ | ⟨x,t,rfl,rfl⟩
  ·rcases u0C hv with ⟨j,u,rfl,rfl⟩ | ⟨y,u,rfl,rfl⟩
   ·rw [key_ll] at h;exact wpAny_eqBool_int h
   ·rw [key_lr] at h;exact SeqAt.EqAt.int_str i t y u _ _ _ _ h
  ·rcases u0C hv with ⟨j,u,rfl,rfl⟩ | ⟨y,u,rfl,rfl⟩
   ·rw [key_rl] at h;exact SeqAt.EqAt.str_int x t j u _ _ _ _ h
   ·rw [key_rr] at h;exact wpAny_eqBool_str h
 «strs»:=fun k x t v h=>by
  rcases u0C h with ⟨i,u,rfl,e⟩ | ⟨y,u,rfl,e⟩
  ·exact nomatch e
  ·injection e with e1 _
   subst e1
   cases v <;> rfl
theorem v0v (prog:Program) (w:World) (k:Key) (v:Value):(mixKind prog w).is k v=keyIs k v:=rfl
theorem u2Y (prog:Program) (w:World) (i:Int) (t:Tok):(mixKind prog w).is (.inl i) (.int i t)=true:=v1I i t
theorem u2X (prog:Program) (w:World) (x:Str) (t:Tok):(mixKind prog w).is (.inr x) (.str x t)=true:=v1H x t
inductive V where
 | non | bl (b:Bool) | int (i:Int) | str (x:Str) | byt (b:Array UInt8) | flt (b:UInt64) | ref (a:Addr) | ty (n:String)
 deriving DecidableEq
def RelV:V→Value→Prop
 | .non,u=>u=Value.none
 | .bl b,u=>u=Value.bool b
 | .int i,u=>∃ t,u=Value.int i t
 | .str x,u=>∃ t,u=Value.str x t
 | .byt b,u=>∃ t,u=Value.bytes b t
 | .flt b,u=>∃ t,u=Value.float b t
 | .ref a,u=>u=Value.ref a
 | .ty n,u=>u=Value.type n
abbrev Vals:List V→List Value→Prop:=Paired RelV
theorem Vals.length {xs:List V}{us:List Value} (r:Vals xs us):xs.length=us.length:=Paired.length r
theorem Vals.get:∀ {xs:List V}{us:List Value}{i:Nat}{x:V},Vals xs us→xs[i]?=some x→∃ u,us[i]?=some u∧RelV x u
 | _,_,_,_,.nil,e=>by simp at e
 | _,_,0,_,.cons r _,e=>by simp at e;subst e;exact ⟨_,rfl,r⟩
 | _,_,i+1,x,.cons _ t,e=>by
  obtain ⟨u,h1,h2⟩:=Vals.get (i:=i) (x:=x) t (by simpa using e)
  exact ⟨u,by simpa using h1,h2⟩
theorem Vals.append:∀ {xs ys:List V}{us ws:List Value},Vals xs us→Vals ys ws→Vals (xs++ys) (us++ws)
 | _,_,_,_,.nil,s=>s
 | _,_,_,_,.cons r t,s=>.cons r (Vals.append t s)
theorem Vals.take:∀ {xs:List V}{us:List Value} (n:Nat),Vals xs us→Vals (xs.take n) (us.take n)
 | _,_,0,_=>.nil
 | _,_,_+1,.nil=>.nil
 | _,_,n+1,.cons r t=>.cons r (Vals.take n t)
theorem Vals.drop:∀ {xs:List V}{us:List Value} (n:Nat),Vals xs us→Vals (xs.drop n) (us.drop n)
 | _,_,0,r=>r
 | _,_,_+1,.nil=>.nil
 | _,_,n+1,.cons _ t=>Vals.drop n t
def RelO:Option V→Option Value→Prop
 | some v,some u=>RelV v u
 | none,none=>True
 | _,_=>False
noncomputable def KV {κ:Type}:List (κ×V)→List (κ×Value)→Prop:=Paired fun (p:κ×V) (q:κ×Value)=>p.1=q.1∧RelV p.2 q.2
noncomputable def kV:Key→V
 | .inl i=>.int i
 | .inr x=>.str x
inductive HO where
 /-- a list -/
 | lst (xs:List V)
 /-- a tuple (never changes) -/
 | tup (xs:List V)
 /-- a dict whose keys are ints and texts;one whose keys are tuples of ints and texts (the empty one is both) -/
 | dK (kvs:List (Key×V)) | dT (kvs:List (List Key×V))
 /-- a set of ints: its members,its size -/
 | set (S:Int→Bool) (n:Nat)
 /-- an instance of the class at C,its dict at dx,its attributes -/
 | ins (C dx:Addr) (fs:List (Str×V))
 /-- the dict of the instance at x -/
 | own (x:Addr)
 /-- the dict of an exception -/
 | xd (fs:List (Str×V))
 /-- a bound method,f of x -/
 | met (f x:Addr)
 /-- a range object lo,lo+1,.. below hi -/
 | rng (lo hi:Int)
 /-- a thing that is known to the object (the script;a dict while a loop walks it): read,never written while it is so -/
 | frz (o:Obj) (u:HO)
 /-- a code object's table -/
 | tbl (ps:Array Value)
 /-- any other thing,by what is true of its one object (a def of one's own: SetO a S n:=HO.ext fun h=>..) -/
 | ext (φ:Heap→Prop)
abbrev Hp:=Addr→Option HO
noncomputable def upd (H:Hp) (a:Addr) (o:HO):Hp:=fun b=>if b=a then some o else H b
theorem u0g {H:Hp}{a:Addr}{o:HO}:upd H a o a=some o:=by unfold upd;rw [if_pos rfl]
theorem u0l {H:Hp}{a b:Addr}{o:HO} (h:b≠a):upd H a o b=H b:=by unfold upd;rw [if_neg h]
theorem upd_upd {H:Hp}{a:Addr}{o u:HO}:upd (upd H a o) a u=upd H a u:=by
 funext b;unfold upd;split <;> rfl
theorem ne_of {H:Hp}{a b:Addr}{o u:HO} (h:H a=some o) (h':H b=some u) (d:o≠u):a≠b:=by
 intro e;subst e;rw [h] at h';exact d (Option.some.inj h')
theorem u0t {H:Hp}{a b:Addr}{o:HO} (h:H a=some o) (h':H b=none):a≠b:=by
 intro e;subst e;rw [h] at h';cases h'
section
variable (P:Program) (w:World)
def ObjOk (H:Hp) (h:Heap) (a:Addr):HO→Prop
 | .lst xs=>xs.length≤sizeLine∧∃ (its:List Value) (n:Nat),Vals xs its∧h.get? a=some { cls:=.type "list",data:=.seq its.toArray n }
 | .tup xs=>xs.length≤sizeLine∧∃ its:List Value,Vals xs its∧IsTup h a its.toArray
 | .dK kvs=>kvs.length≤sizeLine∧(a==sysModules)=false∧∃ vs,KV kvs vs∧h.DictOf (mixKind P w) a vs
 | .dT kvs=>kvs.length≤sizeLine∧(a==sysModules)=false∧∃ xs:List (List Key×Addr×Value),
   Paired (fun (p:List Key×V) (q:List Key×Addr×Value)=>p.1=q.1∧H q.2.1=some (.tup (p.1.map kV))∧RelV p.2 q.2.2) kvs xs ∧
   ∃ o es ep,h.get? a=some o∧o.ExactDict∧o.data=.dict es ep∧es.toList=xs.map (entryOfKey (tupleKind (mixKind P w)))∧(xs.map (·.1)).Nodup
 | .set S n=>h.SetOf (intKind P w) a S n
 | .ins C dx fs=>H dx=some (.own a)∧fs.length≤1000∧dx≠a∧h.get? a=some (W.instObj C dx) ∧
   ∃ mA,h.Ns1 dx mA∧(∀ f,RelO (fs.lookup f) (mA f))∧PySem.Within mA (fs.map (·.1))
 | .own _=>∃ o,h.get? a=some o
 | .xd fs=>∃ mA,h.Ns1 a mA∧∀ f,RelO (fs.lookup f) (mA f)
 | .rng lo hi=>∃ t u v,h.get? a=some { cls:=.type "range",data:=.fields #[.int lo t,.int hi u,.int 1 v] }
 | .frz o u=>h.get? a=some o∧ObjOk H h a u
 | .tbl ps=>h.get? a=some { cls:=.none,data:=.fields ps }
 | .met f x=>h.get? a=some (W.methodObj (.ref f) (.ref x))
 | .ext φ=>φ h∧(∃ o,h.get? a=some o)∧∀ h1 h2:Heap,φ h1→(∀ o,h1.get? a=some o→h2.get? a=some o)→φ h2
def HOk (H:Hp) (h:Heap):Prop:=∀ a o,H a=some o→ObjOk P w H h a o
end
section
variable {P:Program}{w:World}{H H':Hp}{h h':Heap}{a:Addr}{o:HO}
theorem ObjOk.lt (x:ObjOk P w H h a o):a<h.objs.size:=by
 cases o with
 | lst xs=>obtain ⟨_,_,_,_,e⟩:=x;exact Heap.lt_size e
 | tup xs=>obtain ⟨_,_,_,p⟩:=x;exact p.lt
 | dK kvs=>obtain ⟨_,_,_,_,o,_,_,e,_⟩:=x;exact Heap.lt_size e
 | dT kvs=>obtain ⟨_,_,_,_,o,_,_,e,_⟩:=x;exact Heap.lt_size e
 | set S n=>obtain ⟨o,_,_,_,e,_⟩:=x;exact Heap.lt_size e
 | ins C dx fs=>obtain ⟨_,_,_,e,_⟩:=x;exact Heap.lt_size e
 | own y=>obtain ⟨_,e⟩:=x;exact Heap.lt_size e
 | xd fs=>obtain ⟨_,⟨_,_,_,e,_⟩,_⟩:=x;exact Heap.lt_size e
 | rng lo hi=>obtain ⟨_,_,_,e⟩:=x;exact Heap.lt_size e
 | frz ob u=>obtain ⟨e,_⟩:=x;exact Heap.lt_size e
 | tbl ps=>exact Heap.lt_size (show h.get? a=some _ from x)
 | met f y=>exact Heap.lt_size (show h.get? a=some _ from x)
 | ext φ=>obtain ⟨_,⟨_,e⟩,_⟩:=x;exact Heap.lt_size e
theorem Paired.mapP {α β:Type}{F G:α→β→Prop}:∀ {l₁:List α}{l₂:List β},Paired F l₁ l₂→(∀ a b,F a b→G a b)→Paired G l₁ l₂
 | _,_,.nil,_=>.nil
 | _,_,.cons r t,f=>.cons (f _ _ r) (Paired.mapP t f)
theorem ObjOk.stay (x:ObjOk P w H h a o) (k:∀ b u,(b=a∨H b=some (.own a))→h.get? b=some u→h'.get? b=some u)
  (ho:∀ b,H b=some (.own a)→H' b=some (.own a)) (ht:∀ b xs,H b=some (.tup xs)→H' b=some (.tup xs)):ObjOk P w H' h' a o:=by
 induction o with
 | lst xs=>obtain ⟨z,its,n,r,e⟩:=x;exact ⟨z,its,n,r,k _ _ (.inl rfl) e⟩
 | tup xs=>obtain ⟨z,its,r,ob,e,c⟩:=x;exact ⟨z,its,r,ob,k _ _ (.inl rfl) e,c⟩
 | dK kvs=>obtain ⟨z,y,vs,r,ob,es,ep,e,c⟩:=x;exact ⟨z,y,vs,r,ob,es,ep,k _ _ (.inl rfl) e,c⟩
 | dT kvs =>
  obtain ⟨z,y,xs,r,ob,es,ep,e,c⟩:=x
  exact ⟨z,y,xs,Paired.mapP r fun p q z=>⟨z.1,ht _ _ z.2.1,z.2.2⟩,ob,es,ep,k _ _ (.inl rfl) e,c⟩
 | set S n=>obtain ⟨ob,es,ep,t,e,c⟩:=x;exact ⟨ob,es,ep,t,k _ _ (.inl rfl) e,c⟩
 | ins C dx fs =>
  obtain ⟨d,z,ne,e,mA,⟨od,es,ep,e2,c⟩,r⟩:=x
  exact ⟨ho _ d,z,ne,k _ _ (.inl rfl) e,mA,⟨od,es,ep,k _ _ (.inr d) e2,c⟩,r⟩
 | own y=>obtain ⟨ob,e⟩:=x;exact ⟨ob,k _ _ (.inl rfl) e⟩
 | xd fs=>obtain ⟨mA,⟨od,es,ep,e,c⟩,r⟩:=x;exact ⟨mA,⟨od,es,ep,k _ _ (.inl rfl) e,c⟩,r⟩
 | rng lo hi=>obtain ⟨t,u,v,e⟩:=x;exact ⟨t,u,v,k _ _ (.inl rfl) e⟩
 | frz ob u ih=>obtain ⟨e,q⟩:=x;exact ⟨k _ _ (.inl rfl) e,ih q⟩
 | tbl ps =>
  have e:h.get? a=some { cls:=.none,data:=.fields ps }:=x
  show h'.get? a=some { cls:=.none,data:=.fields ps }
  exact k a _ (.inl rfl) e
 | met f y =>
  have e:h.get? a=some (W.methodObj (.ref f) (.ref y)):=x
  show h'.get? a=some (W.methodObj (.ref f) (.ref y))
  exact k a _ (.inl rfl) e
 | ext φ=>obtain ⟨p,⟨o,e⟩,st⟩:=x;exact ⟨st _ _ p fun o q=>k _ _ (.inl rfl) q,⟨o,k _ _ (.inl rfl) e⟩,st⟩
theorem HOk.lt (x:HOk P w H h) (e:H a=some o):a<h.objs.size:=(x a o e).lt
theorem HOk.fresh (x:HOk P w H h) (e:h.objs.size≤a):H a=none:=by
 cases q:H a with
 | none=>rfl
 | some u=>exact absurd (Nat.lt_of_lt_of_le (x.lt q) e) (Nat.lt_irrefl _)
theorem HOk.kept (x:HOk P w H h) (k:∀ b u,h.get? b=some u→h'.get? b=some u):HOk P w H h':=fun a o e =>
 (x a o e).stay (fun b u _ q=>k b u q) (fun _ q=>q) fun _ _ q=>q
theorem HOk.laid (x:HOk P w H h) (k:∀ b u,h.get? b=some u→h'.get? b=some u) (hp:h.objs.size≤a) (new:ObjOk P w (upd H a o) h' a o):HOk P w (upd H a o) h':=fun b u e=>by
 have hn:=x.fresh hp
 by_cases hb:b=a
 ·subst hb;rw [u0g] at e;cases e;exact new
 ·rw [u0l hb] at e
  exact (x b u e).stay (fun c v _ q=>k c v q) (fun c q=>by rw [u0l (u0t q hn)];exact q) fun c xs q=>by rw [u0l (u0t q hn)];exact q
end
def Rd (H:Hp) (a:Addr) (u:HO):Prop:=H a=some u∨∃ o,H a=some (.frz o u)
theorem Rd.ok {P:Program}{w:World}{H:Hp}{h:Heap}{a:Addr}{u:HO} (r:Rd H a u) (x:HOk P w H h):ObjOk P w H h a u:=by
 rcases r with r | ⟨o,r⟩
 ·exact x a u r
 ·obtain ⟨_,q⟩:=x a _ r
  exact q
def Mut:Option HO→Prop
 | some (.lst _)=>True
 | some (.dK _)=>True
 | some (.dT _)=>True
 | some (.set _ _)=>True
 | some (.ins _ _ _)=>True
 | some (.ext _)=>True
 | _=>False
section
variable {P:Program}{w:World}{H:Hp}{h h':Heap}{x e:Addr}{o':HO}
theorem HOk.write (ok:HOk P w H h) (mu:Mut (H x)) (he:e=x∨H e=some (.own x)) (k:∀ b u,b≠e→h.get? b=some u→h'.get? b=some u) (heo:∃ u,h'.get? e=some u)
  (new:ObjOk P w (upd H x o') h' x o'):HOk P w (upd H x o') h':=fun b u q=>by
 have nown:∀ c y,H c=some (.own y)→c≠x:=fun c y r z=>by subst z;rw [r] at mu;exact mu
 have ntup:∀ c xs,H c=some (.tup xs)→c≠x:=fun c xs r z=>by subst z;rw [r] at mu;exact mu
 by_cases hb:b=x
 ·subst hb;rw [u0g] at q;cases q;exact new
 ·rw [u0l hb] at q
  by_cases hbe:b=e
  ·have q':H b=some (.own x):=by
    rcases he with z | z
    ·exact absurd (hbe.trans z) hb
    ·rw [hbe];exact z
   rw [q] at q';cases q'
   obtain ⟨v,hv⟩:=heo
   exact ⟨v,by rw [hbe];exact hv⟩
  ·refine (ok b u q).stay (fun c v hc r=>k c v ?_ r) (fun c r=>by rw [u0l (nown c b r)];exact r) fun c xs r=>by rw [u0l (ntup c xs r)];exact r
   rcases hc with rfl | hc
   ·exact hbe
   ·rintro rfl
    rcases he with z | z
    ·exact nown c b hc z
    ·rw [hc] at z;cases z;exact hb rfl
end
structure Un (fs ex:List Addr) (H H':Hp) (h h':Heap):Prop where
 keep:∀ b o,h.get? b=some o→H b=none→b∉fs→b∉ex→h'.get? b=some o
 slot:∀ b o,h.get? b=some o→H b=none→b∈fs→b∉ex→∃ sl,h'.get? b=some { o with slots:=sl }
 free:∀ b o,h.get? b=some o→H b=none→b∉ex→H' b=none
 there:∀ b o,h.get? b=some o→b∉ex→∃ o',h'.get? b=some o'
 tups:∀ b xs,H b=some (.tup xs)→H' b=some (.tup xs)
 frzs:∀ b o u,H b=some (.frz o u)→H' b=some (.frz o u)
 tbls:∀ b ps,H b=some (.tbl ps)→∃ more,H' b=some (.tbl (ps++more))
section
variable {fs fs' ex ex':List Addr}{H H1 H2:Hp}{h h1 h2 h':Heap}{a x e:Addr}{o:HO}
theorem Un.any (u:Un fs ex H H1 h h1) {b:Addr}{ob:Obj} (q:h.get? b=some ob) (n:H b=none) (hx:b∉ex):∃ sl,h1.get? b=some { ob with slots:=sl }:=by
 by_cases hb:b∈fs
 ·exact u.slot b ob q n hb hx
 ·exact ⟨ob.slots,u.keep b ob q n hb hx⟩
theorem Un.kept (k:∀ b u,h.get? b=some u→h'.get? b=some u):Un fs ex H H h h' :=
 ⟨fun b ob q _ _ _=>k b ob q,fun b ob q _ _ _=>⟨ob.slots,k b ob q⟩,fun _ _ _ n _=>n,fun b ob q _=>⟨ob,k b ob q⟩,fun _ _ q=>q,fun _ _ _ q=>q,fun _ ps q=>⟨#[],by rw [q];simp⟩⟩
theorem Un.refl:Un fs ex H H h h:=Un.kept fun _ _ q=>q
theorem Un.laid (k:∀ b u,h.get? b=some u→h'.get? b=some u) (hp:h.objs.size≤a) (hn:H a=none):Un fs ex H (upd H a o) h h' where
 keep:=fun b u q _ _ _=>k b u q
 slot:=fun b u q _ _ _=>⟨u.slots,k b u q⟩
 free:=fun b u q n _=>by rw [u0l (Nat.ne_of_lt (Nat.lt_of_lt_of_le (Heap.lt_size q) hp))];exact n
 there:=fun b u q _=>⟨u,k b u q⟩
 tups:=fun b xs q=>by rw [u0l (u0t q hn)];exact q
 frzs:=fun b u xs q=>by rw [u0l (u0t q hn)];exact q
 tbls:=fun b ps q=>⟨#[],by rw [u0l (u0t q hn),q];simp⟩
theorem Un.write (mu:Mut (H x)) (he:e=x∨H e=some (.own x)) (k:∀ b u,b≠e→h.get? b=some u→h'.get? b=some u) (heo:∃ u,h'.get? e=some u):Un fs ex H (upd H x o) h h':=by
 have hx:∀ b,H b=none→b≠x:=fun b n z=>by subst z;rw [n] at mu;exact mu
 have hb:∀ b,H b=none→b≠e:=fun b n z=>by
  subst z
  rcases he with r | r
  ·exact hx b n r
  ·rw [n] at r;cases r
 have hm:∀ b u,H b=some u→¬ Mut (some u)→b≠x:=fun b u q nm z=>by subst z;rw [q] at mu;exact nm mu
 refine ⟨fun b u q n _ _=>k b u (hb b n) q,fun b u q n _ _=>⟨u.slots,k b u (hb b n) q⟩,fun b u q n _=>by rw [u0l (hx b n)];exact n,fun b u q _=>?_,
  fun b xs q=>by rw [u0l (hm b _ q fun z=>z)];exact q,fun b u xs q=>by rw [u0l (hm b _ q fun z=>z)];exact q,fun b ps q=>⟨#[],by rw [u0l (hm b _ q fun z=>z),q];simp⟩⟩
 by_cases hbe:b=e
 ·subst hbe;exact heo
 ·exact ⟨u,k b u hbe q⟩
end
noncomputable def trk (h:Heap) (H:Hp):List Addr:=(List.range h.objs.size).filter fun a=>(H a).isSome
noncomputable def hidT (h:Heap) (H:Hp):Heap:=W.hideAll h (trk h H)
theorem v1T (h:Heap) (H:Hp):(hidT h H).objs.size=h.objs.size:=W.hideAll_size _ _
theorem v3H {h:Heap}{H:Hp}{b:Addr}{o:Obj} (e:h.get? b=some o) (n:H b=none):(hidT h H).get? b=some o :=
 W.hideAll_get _ e fun hm=>by
  have q:(H b).isSome=true:=(List.mem_filter.mp hm).2
  rw [n] at q;simp at q
theorem of_hidT {h:Heap}{H:Hp}{b:Addr}{o:Obj} (e:(hidT h H).get? b=some o):h.get? b=some o∧H b=none:=by
 have e':h.get? b=some o:=W.of_hideAll (trk h H) e
 refine ⟨e',?_⟩
 cases q:H b with
 | none=>rfl
 | some x =>
  have hm:b∈trk h H:=List.mem_filter.mpr ⟨List.mem_range.mpr (Heap.lt_size e'),by simp [q]⟩
  have z:(hidT h H).get? b=none:=W.hideAll_none (trk h H) hm
  rw [z] at e;cases e
structure Mod (K:W.Frag) (mg:MG) (base:Heap):Prop where
 kin:K.In base
 glob:base.Ns mainGlobals mg
 blt:∃ mb,base.Ns builtinsNs mb∧∀ x:Str,x≠"__name__"→mb x=bootBuiltins x
 nolimit:base.NoLimit
structure Cx where
 prog:Program
 w:World
 K:W.Frag
 mg:Str→Option Value
 base:Heap
 A:Around
 N:List Str
 s₀:Shared
 H₀:Hp
 env:Env
 outer:List Env
 stack:List Env
 ex:List Addr
 fn:Str→Bool
 calm:Bool
 pn:LO
 xe:Value→Shared→Prop
noncomputable def frs (l:List Env):List Addr:=l.filterMap (·.frame)
noncomputable abbrev Cx.fs (X:Cx):List Addr:=frs X.outer
def Vis (sc:Scope) (x:Str):Prop:=sc.names.lookup x=some .local∨sc.names.lookup x=some .cell∨sc.names.lookup x=some .free
def Loc (sc:Scope) (x:Str):Prop:=sc.names.lookup x=some .local∨sc.names.lookup x=some .cell
def Look (env:Env) (h:Heap) (m:MG) (x:Str) (u:Value):Prop :=
 (env.kindOf x=some .local∧m x=some u)∨((env.kindOf x=some .cell∨env.kindOf x=some .free)∧∃ c,env.cells.lookup x=some c∧h.IsCell c (some u))
structure Cx.Ok (X:Cx):Prop where
 mod:Mod X.K X.mg X.base
 kind:X.env.scope.kind=.function
 glob:X.env.globals=mainGlobals
 blt:X.env.builtins=builtinsNs
 above:X.s₀.heap.objs.size≤X.env.locals
 inj:∀ x y c,X.env.cells.lookup x=some c→X.env.cells.lookup y=some c→x=y
 has:∀ x,(X.env.kindOf x=some .cell∨X.env.kindOf x=some .free)→∃ c,X.env.cells.lookup x=some c
 cab:∀ x c,X.fn x=true→X.env.cells.lookup x=some c→X.s₀.heap.objs.size≤c
 hd:X.calm=true→X.A.handled=none
 frames:X.A.frames=some X.stack
 stk:X.stack=X.outer∨(X.stack=X.env::X.outer∧X.env.frame=some X.env.locals)
 exf:∀ b∈X.ex,b≠X.env.locals∧∀ x c,X.env.cells.lookup x=some c→c≠b
 bs:∀ b o,X.base.get? b=some o→X.s₀.heap.get? b=some o∧X.H₀ b=none
 bsz:X.base.objs.size≤X.s₀.heap.objs.size
 noex:∀ b o,X.base.get? b=some o→b∉X.ex
 exfs:∀ b∈X.ex,b∉X.fs
 funs:X.s₀.heap.FunFrames X.base X.outer
 frf:∀ b∈X.fs,X.H₀ b=none
structure Inv (X:Cx) (pins:LO) (σ:List (Option V)) (H:Hp) (s:Shared):Prop where
 ok:X.Ok
 os:s.os=X.s₀.os
 bare:AllBare s.gens
 base:Un X.fs X.ex X.H₀ H X.s₀.heap s.heap
 loc:∃ m,s.heap.Ns X.env.locals m∧∀ (i:Nat) (x:Str) (v:V),X.N[i]?=some x→σ[i]?=some (some v)→Vis X.env.scope x→∃ u,RelV v u∧Look X.env s.heap m x u
 cell:∀ x c,X.env.cells.lookup x=some c→∃ v,s.heap.IsCell c v
 free:H X.env.locals=none
 freeC:∀ x c,X.env.cells.lookup x=some c→H c=none
 pin:∀ p∈X.pn++pins,s.heap.get? p.1=some p.2∧H p.1=none∧p.1≠X.env.locals∧p.1∉X.fs∧∀ v,p.2.data≠.cell v
 hok:HOk X.prog X.w H s.heap
 len:σ.length=X.N.length
section
variable {X:Cx}{pins:LO}{σ:List (Option V)}{H H':Hp}{s:Shared}{h':Heap}
theorem Cx.Ok.nofr (ok:X.Ok) {b:Addr}{o:Obj} (e:X.base.get? b=some o):b∉X.fs:=fun hb=>by
 have:=(ok.funs.mem hb).1
 rw [e] at this;cases this
theorem Inv.bs (I:Inv X pins σ H s):∀ b o,X.base.get? b=some o→s.heap.get? b=some o∧H b=none:=fun b o e =>
 ⟨I.base.keep b o (I.ok.bs b o e).1 (I.ok.bs b o e).2 (I.ok.nofr e) (I.ok.noex b o e),I.base.free b o (I.ok.bs b o e).1 (I.ok.bs b o e).2 (I.ok.noex b o e)⟩
theorem Inv.bk (I:Inv X pins σ H s):∀ b o,X.base.get? b=some o→s.heap.get? b=some o:=fun b o e=>(I.bs b o e).1
theorem Inv.mod (I:Inv X pins σ H s):Mod X.K X.mg X.base:=I.ok.mod
theorem Inv.kIn (I:Inv X pins σ H s):X.K.In s.heap:=I.ok.mod.kin.keeps I.bk
theorem Inv.fr (I:Inv X pins σ H s):∃ m,Fr X.base X.env.locals s.heap m :=
 let ⟨m,hn,_⟩:=I.loc
 ⟨m,hn,I.bk,Nat.le_trans I.ok.bsz I.ok.above⟩
theorem Inv.lt (I:Inv X pins σ H s):X.env.locals<s.heap.objs.size:=let ⟨_,hn,_⟩:=I.loc;hn.lt
theorem Inv.sz (I:Inv X pins σ H s):X.s₀.heap.objs.size≤s.heap.objs.size:=Nat.le_trans I.ok.above (Nat.le_of_lt I.lt)
theorem Inv.nofs (I:Inv X pins σ H s) {a:Addr} (h:s.heap.objs.size≤a):a∉X.fs:=fun hb=>by
 obtain ⟨_,o,ho,_⟩:=I.ok.funs.mem hb
 exact absurd (Nat.lt_of_lt_of_le (Heap.lt_size ho) (Nat.le_trans I.sz h)) (Nat.lt_irrefl _)
theorem Inv.cne (I:Inv X pins σ H s):∀ x c,X.env.cells.lookup x=some c→c≠X.env.locals:=fun x c e z=>by
 obtain ⟨v,o,ho,hd⟩:=I.cell x c e
 obtain ⟨m,⟨o',es,ep,ho',hd',_⟩,_⟩:=I.loc
 rw [z,ho'] at ho;cases ho;rw [hd'] at hd;cases hd
theorem Inv.funs (I:Inv X pins σ H s):s.heap.FunFrames X.base X.outer:=by
 have all:∀ (l:List Env),(∀ b∈frs l,b∈X.fs)→X.s₀.heap.FunFrames X.base l→s.heap.FunFrames X.base l:=by
  intro l
  induction l with
  | nil=>intro _ _;trivial
  | cons env r ih =>
   intro hs hl
   obtain ⟨hk,⟨L,o,hf,hn,ho,hd⟩,hr⟩:=hl
   have hL:L∈X.fs:=hs L (by unfold frs;rw [List.filterMap_cons,hf];exact List.mem_cons_self)
   obtain ⟨sl,e⟩:=I.base.slot L o ho (I.ok.frf L hL) hL fun z=>I.ok.exfs L z hL
   exact ⟨hk,⟨L,_,hf,hn,e,hd⟩,ih (fun b hb=>hs b (by unfold frs;rw [List.filterMap_cons,hf];exact List.mem_cons_of_mem _ hb)) hr⟩
 exact all X.outer (fun _ hb=>hb) I.ok.funs
theorem Inv.stack (I:Inv X pins σ H s):s.heap.FunFrames X.base X.stack:=by
 rcases I.ok.stk with e | ⟨e,hf⟩
 ·rw [e];exact I.funs
 ·rw [e]
  obtain ⟨m,hn,_⟩:=I.loc
  refine .cons (by rw [I.ok.kind];decide) hf hn ?_ I.funs
  exact Heap.get?_none_of_le (Nat.le_trans I.ok.bsz I.ok.above)
theorem Inv.stkSub (I:Inv X pins σ H s):∀ b∈frs X.stack,b∈X.env.locals::X.fs:=fun b hb=>by
 rcases I.ok.stk with e | ⟨e,hf⟩
 ·rw [e] at hb;exact List.mem_cons_of_mem _ hb
 ·rw [e] at hb
  unfold frs at hb
  rw [List.filterMap_cons,hf] at hb
  exact hb
theorem Inv.stkFree (I:Inv X pins σ H s):∀ b∈frs X.stack,H b=none:=fun b hb=>by
 rcases List.mem_cons.mp (I.stkSub b hb) with e | hb
 ·rw [e];exact I.free
 ·obtain ⟨_,o,ho,_⟩:=I.ok.funs.mem hb
  exact I.base.free b o ho (I.ok.frf b hb) fun z=>I.ok.exfs b z hb
theorem Inv.step {g':Array GenState}{t':Nat}{d':Drawn}{ch:List Addr} (I:Inv X pins σ H s)
  (hch:∀ b∈ch,(b∈X.ex∨X.s₀.heap.objs.size≤b)∧b≠X.env.locals∧(∀ x c,X.env.cells.lookup x=some c→c≠b)∧∀ p∈X.pn++pins,p.1≠b)
  (keep:∀ b o,b≠X.env.locals→b∉X.fs→b∉ch→s.heap.get? b=some o→H b=none→h'.get? b=some o)
  (slot:∀ b o,b≠X.env.locals→b∈X.fs→b∉ch→s.heap.get? b=some o→H b=none→∃ sl,h'.get? b=some { o with slots:=sl }) (free:∀ b o,b∉ch→s.heap.get? b=some o→H b=none→H' b=none)
  (there:∀ b o,b∉ch→s.heap.get? b=some o→∃ o',h'.get? b=some o')
  (tups:∀ b xs,H b=some (.tup xs)→H' b=some (.tup xs)) (frzs:∀ b o u,H b=some (.frz o u)→H' b=some (.frz o u)) (tbls:∀ b ps,H b=some (.tbl ps)→∃ more,H' b=some (.tbl (ps++more)))
  (ns:∀ m,s.heap.Ns X.env.locals m→h'.Ns X.env.locals m) (hok:HOk X.prog X.w H' h') (hg:AllBare g') :
  Inv X pins σ H' { s with heap:=h',gens:=g',drawn:=d',toks:=t' }:=by
 have neL:∀ b o,X.s₀.heap.get? b=some o→b≠X.env.locals:=fun b o e=>Nat.ne_of_lt (Nat.lt_of_lt_of_le (Heap.lt_size e) I.ok.above)
 have neC:∀ b o,X.s₀.heap.get? b=some o→b∉X.ex→b∉ch:=fun b o e hx hb=>by
  rcases (hch b hb).1 with z | z
  ·exact hx z
  ·exact absurd (Nat.lt_of_lt_of_le (Heap.lt_size e) z) (Nat.lt_irrefl _)
 have cellK:∀ x c,X.env.cells.lookup x=some c→∀ v,s.heap.IsCell c v→h'.IsCell c v:=fun x c e v ⟨o,ho,hd⟩=>by
  have nch:c∉ch:=fun z=>(hch c z).2.2.1 x c e rfl
  by_cases hc:c∈X.fs
  ·obtain ⟨sl,q⟩:=slot c o (I.cne x c e) hc nch ho (I.freeC x c e)
   exact ⟨_,q,hd⟩
  ·exact ⟨o,keep c o (I.cne x c e) hc nch ho (I.freeC x c e),hd⟩
 refine ⟨I.ok,I.os,hg,⟨fun b o e n hb hx=>?_,fun b o e n hb hx=>?_,fun b o e n hx=>?_,fun b o e hx=>?_,fun b xs e=>tups b xs (I.base.tups b xs e),fun b o xs e=>frzs b o xs (I.base.frzs b o xs e),fun b ps e=>?_⟩,?_,fun x c e=>?_,?_,fun x c e=>?_,fun p hp=>?_,hok,I.len⟩
 ·exact keep b o (neL b o e) hb (neC b o e hx) (I.base.keep b o e n hb hx) (I.base.free b o e n hx)
 ·obtain ⟨sl,e1⟩:=I.base.slot b o e n hb hx
  obtain ⟨sl',e2⟩:=slot b _ (neL b o e) hb (neC b o e hx) e1 (I.base.free b o e n hx)
  exact ⟨sl',e2⟩
 ·obtain ⟨o',e1⟩:=I.base.there b o e hx
  exact free b o' (neC b o e hx) e1 (I.base.free b o e n hx)
 ·obtain ⟨o',e1⟩:=I.base.there b o e hx
  exact there b o' (neC b o e hx) e1
 ·obtain ⟨m1,e1⟩:=I.base.tbls b ps e
  obtain ⟨m2,e2⟩:=tbls b _ e1
  exact ⟨m1++m2,by rw [e2,Array.append_assoc]⟩
 ·obtain ⟨m,hn,hl⟩:=I.loc
  refine ⟨m,ns m hn,fun i x v e1 e2 e3=>?_⟩
  obtain ⟨u,r,l⟩:=hl i x v e1 e2 e3
  refine ⟨u,r,?_⟩
  rcases l with l | ⟨k,c,e,z⟩
  ·exact .inl l
  ·exact .inr ⟨k,c,e,cellK x c e _ z⟩
 ·obtain ⟨v,z⟩:=I.cell x c e
  exact ⟨v,cellK x c e v z⟩
 ·obtain ⟨m,⟨o,_,_,ho,_⟩,_⟩:=I.loc
  exact free _ o (fun z=>(hch _ z).2.1 rfl) ho I.free
 ·obtain ⟨v,o,ho,hd⟩:=I.cell x c e
  exact free c o (fun z=>(hch c z).2.2.1 x c e rfl) ho (I.freeC x c e)
 ·obtain ⟨e,n,ne,nf,d⟩:=I.pin p hp
  have nch:p.1∉ch:=fun z=>(hch p.1 z).2.2.2 p hp rfl
  exact ⟨keep p.1 p.2 ne nf nch e n,free p.1 p.2 nch e n,ne,nf,d⟩
theorem Inv.un {t':Nat} (I:Inv X pins σ H s) (u:Un X.fs [] H H' s.heap h') (hok:HOk X.prog X.w H' h'):Inv X pins σ H' { s with heap:=h',toks:=t' }:=by
 obtain ⟨m,⟨o,es,ep,ho,r⟩,_⟩:=id I.loc
 obtain ⟨sl,hL⟩:=u.any ho I.free (by simp)
 exact I.step (g':=s.gens) (d':=s.drawn) (ch:=[]) (fun _ z=>nomatch z) (fun b o _ hb _ e n=>u.keep b o e n hb (by simp)) (fun b o _ hb _ e n=>u.slot b o e n hb (by simp)) (fun b o _ e n=>u.free b o e n (by simp)) (fun b o _ e=>u.there b o e (by simp)) u.tups u.frzs u.tbls (fun m' hm=>by
  obtain ⟨o',es',ep',ho',r'⟩:=hm
  rw [ho] at ho';cases ho'
  exact ⟨_,es',ep',hL,r'⟩) hok I.bare
theorem Inv.call {g':Array GenState}{t':Nat}{d':Drawn}{ch:List Addr} (I:Inv X pins σ H s) (u:Un (frs X.stack) ch H H' s.heap h') (hok:HOk X.prog X.w H' h') (hg:AllBare g')
  (hch:∀ b∈ch,(b∈X.ex∨X.s₀.heap.objs.size≤b)∧b≠X.env.locals∧(∀ x c,X.env.cells.lookup x=some c→c≠b)∧∀ p∈X.pn++pins,p.1≠b) :
  Inv X pins σ H' { s with heap:=h',gens:=g',drawn:=d',toks:=t' }:=by
 obtain ⟨m,⟨o,es,ep,ho,r⟩,_⟩:=id I.loc
 obtain ⟨sl,hL⟩:=u.any ho I.free fun z=>(hch _ z).2.1 rfl
 exact I.step (ch:=ch) hch (fun b o hL hb hc e n=>u.keep b o e n (fun z=>(List.mem_cons.mp (I.stkSub b z)).elim hL hb) hc) (fun b o _ _ hc e n=>u.any e n hc) (fun b o hc e n=>u.free b o e n hc) (fun b o hc e=>u.there b o e hc) u.tups u.frzs u.tbls (fun m' hm=>by
  obtain ⟨o',es',ep',ho',r'⟩:=hm
  rw [ho] at ho';cases ho'
  exact ⟨_,es',ep',hL,r'⟩) hok hg
theorem Inv.turned {t':Nat}{it:Addr} (I:Inv X pins σ H s) (k:∀ b o,b≠it→s.heap.get? b=some o→h'.get? b=some o) (hn:H it=none) (hL:it≠X.env.locals)
  (h1:it∈X.ex∨X.s₀.heap.objs.size≤it) (h2:∀ x c,X.env.cells.lookup x=some c→c≠it) (h3:∀ p∈X.pn++pins,p.1≠it):Inv X pins σ H { s with heap:=h',toks:=t' }:=by
 have nit:∀ b u,H b=some u→b≠it:=fun b u e z=>by rw [z,hn] at e;cases e
 refine I.step (g':=s.gens) (d':=s.drawn) (ch:=[it]) (fun b hb=>?_) (fun b o _ _ hc e _=>k b o (fun z=>hc (by simp [z])) e) (fun b o _ _ hc e _=>⟨o.slots,k b o (fun z=>hc (by simp [z])) e⟩) (fun _ _ _ _ n=>n)
  (fun b o hc e=>⟨o,k b o (fun z=>hc (by simp [z])) e⟩) (fun _ _ e=>e) (fun _ _ _ e=>e) (fun b ps e=>⟨#[],by rw [e];simp⟩) (fun m hm=>?_) (fun b u e=>?_) I.bare
 ·have e:b=it:=by simpa using hb
  subst e
  exact ⟨h1,hL,h2,h3⟩
 ·obtain ⟨o,es,ep,ho,r⟩:=hm
  exact ⟨o,es,ep,k _ o (Ne.symm hL) ho,r⟩
 ·refine (I.hok b u e).stay (fun c v hc q=>k c v ?_ q) (fun _ q=>q) fun _ _ q=>q
  rcases hc with z | z
  ·rw [z];exact nit b u e
  ·exact nit c _ z
theorem Inv.tok (I:Inv X pins σ H s) (t:Nat):Inv X pins σ H { s with toks:=t }:=I.un (h':=s.heap) (t':=t) Un.refl I.hok
theorem Inv.kept {t':Nat} (I:Inv X pins σ H s) (k:∀ b u,s.heap.get? b=some u→h'.get? b=some u):Inv X pins σ H { s with heap:=h',toks:=t' }:=I.un (Un.kept k) (I.hok.kept k)
theorem Inv.laid {a:Addr}{o:HO}{t':Nat} (I:Inv X pins σ H s) (k:∀ b u,s.heap.get? b=some u→h'.get? b=some u) (hp:s.heap.objs.size≤a) (new:ObjOk X.prog X.w (upd H a o) h' a o) :
  Inv X pins σ (upd H a o) { s with heap:=h',toks:=t' }:=I.un (Un.laid k hp (I.hok.fresh hp)) (I.hok.laid k hp new)
theorem Inv.write {x e:Addr}{o:HO}{t':Nat} (I:Inv X pins σ H s) (mu:Mut (H x)) (he:e=x∨H e=some (.own x)) (k:∀ b u,b≠e→s.heap.get? b=some u→h'.get? b=some u) (heo:∃ u,h'.get? e=some u)
  (new:ObjOk X.prog X.w (upd H x o) h' x o):Inv X pins σ (upd H x o) { s with heap:=h',toks:=t' }:=I.un (Un.write mu he k heo) (I.hok.write mu he k heo new)
theorem Inv.weak {σ':List (Option V)} (I:Inv X pins σ H s) (hl:σ'.length=σ.length) (w:∀ (i:Nat) v,σ'[i]?=some (some v)→σ[i]?=some (some v)):Inv X pins σ' H s :=
 ⟨I.ok,I.os,I.bare,I.base,let ⟨m,hn,hl'⟩:=I.loc;⟨m,hn,fun i x v e1 e2 e3=>hl' i x v e1 (w i v e2) e3⟩,I.cell,I.free,I.freeC,I.pin,I.hok,hl.trans I.len⟩
theorem Inv.pins_of {pins':LO} (I:Inv X pins σ H s) (h:∀ p∈pins',s.heap.get? p.1=some p.2∧H p.1=none∧p.1≠X.env.locals∧p.1∉X.fs∧∀ v,p.2.data≠.cell v):Inv X pins' σ H s :=
 ⟨I.ok,I.os,I.bare,I.base,I.loc,I.cell,I.free,I.freeC,fun p hp=>(List.mem_append.mp hp).elim (fun z=>I.pin p (List.mem_append_left _ z)) (h p),I.hok,I.len⟩
theorem u6b {N:List Str} (hN:N.Nodup) {i j:Nat}{x:Str} (a:N[i]?=some x) (b:N[j]?=some x):i=j:=by
 obtain ⟨h1,e1⟩:=List.getElem?_eq_some_iff.mp a
 obtain ⟨h2,e2⟩:=List.getElem?_eq_some_iff.mp b
 exact (List.getElem_inj hN).mp (e1.trans e2.symm)
theorem u6I {M:Model}{A:Around}{E:VP}{i:Nat}{x:Str}{v:V}{u:Value}{Q:Unit→Shared→Prop} (I:Inv X pins σ H s) (hN:X.N.Nodup) (hi:X.N[i]?=some x) (hx:Loc X.env.scope x) (r:RelV v u)
  (h:∀ s',Inv X pins (σ.set i (some v)) H s'→(∃ a,Heap.SameBut a s.heap s'.heap∧(a=X.env.locals∨X.env.cells.lookup x=some a))→Q () s') (hf:X.fn x=true∨X.env.scope.names.lookup x=some .local:=by first | exact .inl rfl | exact .inr rfl | assumption):wpAny M A (storeName X.env x u) Q E s:=by
 obtain ⟨m,hn,hl⟩:=id I.loc
 have hcls:(X.env.scope.kind==.class||(X.env.scope.kind==.module&&X.env.locals != X.env.globals))=false:=by rw [I.ok.kind];rfl
 have hiσ:i<σ.length:=by rw [I.len];exact (List.getElem?_eq_some_iff.mp hi).1
 have cne:=I.cne
 have tracked:∀ {a:Addr}{h':Heap},(∃ o,s.heap.get? a=some o∧H a=none)→Heap.SameBut a s.heap h'→HOk X.prog X.w H h':=fun {a h'} ha hs b ob e=>by
  obtain ⟨_,_,hfree⟩:=ha
  refine (I.hok b ob e).stay (fun c w' hc q=>(hs.2 c ?_).trans q) (fun _ q=>q) fun _ _ q=>q
  rintro rfl
  rcases hc with rfl | hc
  ·rw [hfree] at e;cases e
  ·rw [hfree] at hc;cases hc
 rcases hx with hk | hk
 ·refine wpAny_storeName_local hk hn (fun h' hn' hs=>?_) hcls
  obtain ⟨oL,_,_,hoL,_⟩:=id hn
  refine h _ ⟨I.ok,I.os,I.bare,⟨fun b o e n hb hx=>?_,fun b o e n hb hx=>?_,I.base.free,fun b o e hx=>?_,I.base.tups,I.base.frzs,I.base.tbls⟩,⟨_,hn',fun j y v' e1 e2 e3=>?_⟩,fun y c e=>?_,I.free,I.freeC,fun p hp=>?_,tracked ⟨oL,hoL,I.free⟩ hs,by simpa using I.len⟩ ⟨_,hs,.inl rfl⟩
  ·exact (hs.2 b (Nat.ne_of_lt (Nat.lt_of_lt_of_le (Heap.lt_size e) I.ok.above))).trans (I.base.keep b o e n hb hx)
  ·obtain ⟨sl,e1⟩:=I.base.slot b o e n hb hx
   exact ⟨sl,(hs.2 b (Nat.ne_of_lt (Nat.lt_of_lt_of_le (Heap.lt_size e) I.ok.above))).trans e1⟩
  ·obtain ⟨o',e1⟩:=I.base.there b o e hx
   exact ⟨o',(hs.2 b (Nat.ne_of_lt (Nat.lt_of_lt_of_le (Heap.lt_size e) I.ok.above))).trans e1⟩
  ·by_cases hj:j=i
   ·subst hj
    rw [hi] at e1;cases e1
    rw [List.getElem?_set_self hiσ] at e2
    cases e2
    exact ⟨u,r,.inl ⟨hk,by simp⟩⟩
   ·rw [List.getElem?_set_ne (Ne.symm hj)] at e2
    obtain ⟨u',r',q⟩:=hl j y v' e1 e2 e3
    refine ⟨u',r',?_⟩
    rcases q with ⟨k,e⟩ | ⟨k,c,e,z⟩
    ·refine .inl ⟨k,?_⟩
     have:y≠x:=fun e=>hj (u6b hN e1 (e ▸ hi))
     simp [this,e]
    ·exact .inr ⟨k,c,e,z.sameBut hs (cne y c e)⟩
  ·obtain ⟨w',z⟩:=I.cell y c e
   exact ⟨w',z.sameBut hs (cne y c e)⟩
  ·obtain ⟨e,n,ne,nf,d⟩:=I.pin p hp
   exact ⟨(hs.2 p.1 ne).trans e,n,ne,nf,d⟩
 ·have hfn:X.fn x=true:=by
   rcases hf with z | z
   ·exact z
   ·rw [z] at hk;cases hk
  obtain ⟨c,hc⟩:=I.ok.has x (.inl hk)
  obtain ⟨w',z⟩:=I.cell x c hc
  refine wpAny_storeName_cell I.ok.kind hk hc z (fun h' hc' hs=>?_)
  obtain ⟨oc,hoc,hocd⟩:=id z
  refine h { s with heap:=h' } ⟨I.ok,I.os,I.bare,⟨fun b o e n hb hx=>?_,fun b o e n hb hx=>?_,I.base.free,fun b o e hx=>?_,I.base.tups,I.base.frzs,I.base.tbls⟩,⟨m,hn.sameBut hs (Ne.symm (cne x c hc)),fun j y v' e1 e2 e3=>?_⟩,fun y c' e=>?_,I.free,I.freeC,fun p hp=>?_,tracked ⟨oc,hoc,I.freeC x c hc⟩ hs,by simpa using I.len⟩ ⟨c,hs,.inr hc⟩
  ·exact (hs.2 b (Nat.ne_of_lt (Nat.lt_of_lt_of_le (Heap.lt_size e) (I.ok.cab x c hfn hc)))).trans (I.base.keep b o e n hb hx)
  ·obtain ⟨sl,e1⟩:=I.base.slot b o e n hb hx
   exact ⟨sl,(hs.2 b (Nat.ne_of_lt (Nat.lt_of_lt_of_le (Heap.lt_size e) (I.ok.cab x c hfn hc)))).trans e1⟩
  ·obtain ⟨o',e1⟩:=I.base.there b o e hx
   exact ⟨o',(hs.2 b (Nat.ne_of_lt (Nat.lt_of_lt_of_le (Heap.lt_size e) (I.ok.cab x c hfn hc)))).trans e1⟩
  ·by_cases hj:j=i
   ·subst hj
    rw [hi] at e1;cases e1
    rw [List.getElem?_set_self hiσ] at e2
    cases e2
    exact ⟨u,r,.inr ⟨.inl hk,c,hc,hc'⟩⟩
   ·rw [List.getElem?_set_ne (Ne.symm hj)] at e2
    obtain ⟨u',r',q⟩:=hl j y v' e1 e2 e3
    refine ⟨u',r',?_⟩
    rcases q with q | ⟨k,c',e,z'⟩
    ·exact .inl q
    ·refine .inr ⟨k,c',e,z'.sameBut hs ?_⟩
     rintro rfl
     exact hj (u6b hN e1 (I.ok.inj _ _ _ e hc ▸ hi))
  ·by_cases hcc:c'=c
   ·subst hcc;exact ⟨_,hc'⟩
   ·obtain ⟨w2,z2⟩:=I.cell y c' e
    exact ⟨w2,z2.sameBut hs hcc⟩
  ·obtain ⟨e,n,ne,nf,d⟩:=I.pin p hp
   refine ⟨(hs.2 p.1 ?_).trans e,n,ne,nf,d⟩
   intro q
   rw [q,hoc] at e
   have q':oc=p.2:=Option.some.inj e
   exact d w' (by rw [← q'];exact hocd)
theorem u4k {M:Model}{A:Around}{E:VP}{i:Nat}{x:Str}{v:V}{u:Value}{Q:Unit→Shared→Prop} (I:Inv X pins σ H s) (hN:X.N.Nodup) (hi:X.N[i]?=some x) (hx:Loc X.env.scope x) (r:RelV v u)
  (h:∀ s',Inv X pins (σ.set i (some v)) H s'→Q () s') (hf:X.fn x=true∨X.env.scope.names.lookup x=some .local:=by first | exact .inl rfl | exact .inr rfl | assumption):wpAny M A (storeName X.env x u) Q E s :=
 u6I I hN hi hx r (fun s' I' _=>h s' I') hf
theorem Inv.call' {s':Shared}{ch:List Addr} (I:Inv X pins σ H s) (ho:s'.os=s.os) (u:Un (frs X.stack) ch H H' s.heap s'.heap) (hok:HOk X.prog X.w H' s'.heap) (hg:AllBare s'.gens)
  (hch:∀ b∈ch,(b∈X.ex∨X.s₀.heap.objs.size≤b)∧b≠X.env.locals∧(∀ x c,X.env.cells.lookup x=some c→c≠b)∧∀ p∈X.pn++pins,p.1≠b):Inv X pins σ H' s':=by
 obtain ⟨h',g',d',t',o'⟩:=s'
 have e:o'=s.os:=ho
 subst e
 exact I.call (g':=g') (t':=t') (d':=d') u hok hg hch
end
abbrev XK:=Value→Option Addr→Hp→Prop
abbrev St:=List (Option V)
abbrev VK:=V→Hp→Prop
abbrev TE:=St→Hp→VK→Prop
abbrev TT:=St→Hp→(Bool→Hp→Prop)→Prop
abbrev TA:=St→Hp→(List V→Hp→Prop)→Prop
structure Ends where
 nx:St→Hp→Prop
 rt:VK
 bk:St→Hp→Prop:=fun _ _=>False
 ct:St→Hp→Prop:=fun _ _=>False
abbrev TS:=Ends→St→Hp→Prop
def EP (X:Cx) (pins:LO) (σ:St) (Q:VK) (u:Value) (s':Shared):Prop:=∃ v H',Inv X pins σ H' s'∧RelV v u∧Q v H'
def TP (X:Cx) (pins:LO) (σ:St) (Q:Bool→Hp→Prop) (b:Bool) (s':Shared):Prop:=∃ H',Inv X pins σ H' s'∧Q b H'
def AP (X:Cx) (pins:LO) (σ:St) (Q:List V→Hp→Prop) (us:List Value) (s':Shared):Prop:=∃ vs H',Inv X pins σ H' s'∧Vals vs us∧Q vs H'
def SP (X:Cx) (pins:LO) (D:Ends) (f:Flow) (s':Shared):Prop :=
 match f with
 | .next=>∃ σ' H',Inv X pins σ' H' s'∧D.nx σ' H'
 | .brk=>∃ σ' H',Inv X pins σ' H' s'∧D.bk σ' H'
 | .cont=>∃ σ' H',Inv X pins σ' H' s'∧D.ct σ' H'
 | .ret u=>∃ v σ' H',Inv X pins σ' H' s'∧RelV v u∧D.rt v H'
def PE (X:Cx) (e:Expr) (t:TE):Prop :=
 ∀ (pins:LO) (s:Shared) (σ:St) (H:Hp) (Q:VK),Inv X pins σ H s→t σ H Q→wpAny (model X.prog X.w) X.A (eval e X.env) (EP X pins σ Q) X.xe s
def PT (X:Cx) (e:Expr) (t:TT):Prop :=
 ∀ (pins:LO) (s:Shared) (σ:St) (H:Hp) (Q:Bool→Hp→Prop),Inv X pins σ H s→t σ H Q→wpAny (model X.prog X.w) X.A (isTrue e X.env (eval e X.env)) (TP X pins σ Q) X.xe s
def PW (X:Cx) (e:Expr) (t:TT):Prop :=
 ∀ (whole:Sem Value) (pins:LO) (s:Shared) (σ:St) (H:Hp) (Q:Bool→Hp→Prop),Inv X pins σ H s→t σ H Q→wpAny (model X.prog X.w) X.A (isTrue e X.env whole) (TP X pins σ Q) X.xe s
theorem PW.pt {X:Cx}{e:Expr}{t:TT} (h:PW X e t):PT X e t:=h _
def PA (X:Cx) (es:List Expr) (t:TA):Prop :=
 ∀ (pos:Pos) (pins:LO) (s:Shared) (σ:St) (H:Hp) (Q:List V→Hp→Prop),Inv X pins σ H s→t σ H Q→wpAny (model X.prog X.w) X.A (spliced (backTo pos (starEach es X.env))) (AP X pins σ Q) X.xe s
def PS (X:Cx) (st:Stmt) (t:TS):Prop :=
 ∀ (pins:LO) (s:Shared) (σ:St) (H:Hp) (D:Ends),Inv X pins σ H s→t D σ H→wpAny (model X.prog X.w) X.A (exec st X.env) (SP X pins D) X.xe s
def PSs (X:Cx) (st:List Stmt) (t:TS):Prop :=
 ∀ (pins:LO) (s:Shared) (σ:St) (H:Hp) (D:Ends),Inv X pins σ H s→t D σ H→wpAny (model X.prog X.w) X.A (execs st X.env) (SP X pins D) X.xe s
theorem thn {α:Type}{t:Sem α}{Q Q':α→Shared→Prop}{M:Model}{A:Around}{E:VP}{s:Shared} (h:wpAny M A t Q E s) (hQ:∀ a s,Q a s→Q' a s):wpAny M A t Q' E s:=wpAny_mono h hQ fun _ _ x=>x
section
variable {X:Cx}
theorem bin {a b:Expr}{ta tb:TE} (ha:PE X a ta) (hb:PE X b tb) {pins:LO}{s:Shared}{σ:St}{H:Hp}{R:V→V→Hp→Prop} (I:Inv X pins σ H s) (h:ta σ H fun x H1=>tb σ H1 fun y H2=>R x y H2)
  {α:Type}{Q:α→Shared→Prop}{f:Value→Value→Sem α}
  (hf:∀ v u s2 x y H2,Inv X pins σ H2 s2→RelV x v→RelV y u→R x y H2→wpAny (model X.prog X.w) X.A (f v u) Q X.xe s2) :
  wpAny (model X.prog X.w) X.A (eval a X.env) (fun v s₁=>wpAny (model X.prog X.w) X.A (eval b X.env) (fun u s₂=>wpAny (model X.prog X.w) X.A (f v u) Q X.xe s₂) X.xe s₁) X.xe s:=by
 refine thn (ha pins s σ H _ I h) fun v s1 ⟨x,H1,I1,r1,q1⟩=>?_
 refine thn (hb pins s1 σ H1 _ I1 q1) fun u s2 ⟨y,H2,I2,r2,q2⟩=>?_
 exact hf v u s2 x y H2 I2 r1 r2 q2
def tVar (i:Nat):TE:=fun σ H Q=>∃ v,σ[i]?=some (some v)∧Q v H
def tC (v:V):TE:=fun _ H Q=>Q v H
theorem u2D {i:Nat}{x:Str}{pos:Pos} (hN:X.N[i]?=some x) (hv:Vis X.env.scope x) (hd:(x==("__debug__":Str))=false:=by decide) (hcd:(x==("__classdict__":Str))=false:=by decide):PE X (.Name x pos) (tVar i):=by
 intro pins s σ H Q I h
 obtain ⟨v,e,h⟩:=h
 obtain ⟨m,hn,hl⟩:=I.loc
 obtain ⟨u,r,l⟩:=hl i x v hN e hv
 have fin:EP X pins σ Q u s:=⟨v,H,I,r,h⟩
 rcases l with ⟨hk,hm⟩ | ⟨hk,c,hc,hcell⟩
 ·exact wpAny_Name (wpAny_loadName_local I.ok.kind hk hn hm fin) hd
 ·rcases hk with hk | hk
  ·exact wpAny_Name (wpAny_loadName_cell I.ok.kind hk hc hcell fin) hd
  ·exact wpAny_Name (wpAny_loadName_free I.ok.kind hk hc hcell fin hcd) hd
theorem pe_int {i j pos}:PE X (.Constant (.int i) j pos) (tC (.int i)):=fun _ _ _ H _ I h=>wpAny_Constant_int ⟨.int i,H,I.tok _,⟨_,rfl⟩,h⟩
theorem pe_bl {b j pos}:PE X (.Constant (.bool b) j pos) (tC (.bl b)):=fun _ _ _ H _ I h=>Constant_bool ⟨.bl b,H,I,rfl,h⟩
theorem pe_non {j pos}:PE X (.Constant .none j pos) (tC .non):=fun _ _ _ H _ I h=>Constant_none ⟨.non,H,I,rfl,h⟩
theorem pe_str {x j pos}:PE X (.Constant (.str x) j pos) (tC (.str x)):=fun _ _ _ H _ I h=>Calls.Constant_str ⟨.str x,H,I.tok _,⟨_,rfl⟩,h⟩
def Gl (X:Cx) (x:Str):Prop:=X.env.kindOf x=some .globalImplicit
theorem u2o {E:VP}{pins:LO}{s:Shared}{σ:St}{H:Hp}{x:Str}{u:Value}{pos:Pos}{Q:VP} (I:Inv X pins σ H s) (hg:Gl X x) (hm:X.mg x=some u) (h:Q u s)
  (hd:(x==("__debug__":Str))=false:=by decide):wpAny (model X.prog X.w) X.A (eval (.Name x pos) X.env) Q E s :=
 Calls.Name_function_global I.ok.kind hg (Calls.loadGlobal_global (by rw [I.ok.glob];exact I.mod.glob.keeps I.bk) hm h) hd
theorem u3U {E:VP}{pins:LO}{s:Shared}{σ:St}{H:Hp}{x:Str}{u:Value}{pos:Pos}{Q:VP} (I:Inv X pins σ H s) (hg:Gl X x) (hm:X.mg x=none) (hv:bootBuiltins x=some u) (h:Q u s)
  (hn:x≠"__name__":=by decide) (hd:(x==("__debug__":Str))=false:=by decide):wpAny (model X.prog X.w) X.A (eval (.Name x pos) X.env) Q E s:=by
 obtain ⟨mb,h1,h2⟩:=I.mod.blt
 exact Calls.Name_function_global I.ok.kind hg (Calls.loadGlobal_builtin (by rw [I.ok.glob];exact I.mod.glob.keeps I.bk) hm (by rw [I.ok.blt];exact h1.keeps I.bk) ((h2 x hn).trans hv) h) hd
theorem pe_glob {x:Str}{v:V}{u:Value}{pos:Pos} (hg:Gl X x) (hm:X.mg x=some u) (r:RelV v u) (hd:(x==("__debug__":Str))=false:=by decide):PE X (.Name x pos) (tC v) :=
 fun _ _ _ H _ I h=>u2o I hg hm ⟨v,H,I,r,h⟩ hd
theorem pe_bltn {x:Str}{v:V}{u:Value}{pos:Pos} (hg:Gl X x) (hm:X.mg x=none) (hv:bootBuiltins x=some u) (r:RelV v u) (hn:x≠"__name__":=by decide) (hd:(x==("__debug__":Str))=false:=by decide):PE X (.Name x pos) (tC v) :=
 fun _ _ _ H _ I h=>u3U I hg hm hv ⟨v,H,I,r,h⟩ hn hd
variable {a b:Expr}{ta tb:TE}{pos:Pos}
def PC (X:Cx) (op:CmpOp) (a b:Expr) (t:TE):Prop :=
 ∀ (pins:LO) (s:Shared) (σ:St) (H:Hp) (Q:VK),Inv X pins σ H s→t σ H Q →
  wpAny (model X.prog X.w) X.A (eval a X.env) (fun v s₁=>wpAny (model X.prog X.w) X.A (eval b X.env) (fun u s₂=>wpAny (model X.prog X.w) X.A (compareOp op v u) (EP X pins σ Q) X.xe s₂) X.xe s₁) X.xe s
def tB (t:TE):TT:=fun σ H Q=>t σ H fun x H1=>∃ c,x=.bl c∧Q c H1
theorem pt_cmp {op:CmpOp}{t:TE} (h:PC X op a b t) (h1:behindInMarks op b=false:=by first | exact nobehind _ (by decide) (by decide) | rfl):PT X (.Compare a [op] [b] pos) (tB t):=by
 intro pins s σ H Q I hw
 refine wpAny_isTrue_Compare1 (thn (h pins s σ H _ I hw) fun v s1 h1=>thn h1 fun u s2 h2=>thn h2 fun c s3 ⟨x,H1,I1,r1,q1⟩=>?_) h1
 obtain ⟨d,rfl,q⟩:=q1
 cases r1
 exact wpAny_truthy_bool ⟨H1,I1,q⟩
theorem pt_val {e:Expr}{t:TE} (h:PE X e t) (he:∀ whole,isTrue e X.env whole=(do let v ← whole;standAt e.pos;holding [v] (truthy v)):=by intro _;rfl):PT X e (tB t):=by
 intro pins s σ H Q I hw
 refine isTrue_plain (thn (h pins s σ H _ I hw) fun v s1 ⟨x,H1,I1,r1,q1⟩=>?_) (he _)
 obtain ⟨d,rfl,q⟩:=q1
 cases r1
 exact wpAny_truthy_bool ⟨H1,I1,q⟩
variable {tA tB':TT}{rest:List Expr}
def tAnd (t u:TT):TT:=fun σ H Q=>t σ H fun c H1=>if c=true then u σ H1 Q else Q false H1
def tOr (t u:TT):TT:=fun σ H Q=>t σ H fun c H1=>if c=true then Q true H1 else u σ H1 Q
def tNot (t:TT):TT:=fun σ H Q=>t σ H fun c H1=>Q (!c) H1
theorem pw_and1 (ha:PT X a tA):PW X (.BoolOp .And [a] pos) tA:=by
 intro wh pins s σ H Q I h
 refine isTrue_and (thn (ha pins s σ H Q I h) fun c s1 e=>?_)
 cases c with
 | true=>exact isTrue_and_nil e
 | false=>exact e
theorem pw_or1 (ha:PT X a tA):PW X (.BoolOp .Or [a] pos) tA:=by
 intro wh pins s σ H Q I h
 refine isTrue_or (thn (ha pins s σ H Q I h) fun c s1 e=>?_)
 cases c with
 | false=>exact isTrue_or_nil e
 | true=>exact e
theorem pw_and (ha:PT X a tA) (hb:PW X (.BoolOp .And (b::rest) pos) tB'):PW X (.BoolOp .And (a::b::rest) pos) (tAnd tA tB'):=by
 intro wh pins s σ H Q I h
 refine isTrue_and (thn (ha pins s σ H _ I h) fun c s1 ⟨H1,I1,q1⟩=>?_)
 cases c with
 | true=>exact hb wh pins s1 σ H1 Q I1 q1
 | false=>exact ⟨H1,I1,q1⟩
theorem pw_or (ha:PT X a tA) (hb:PW X (.BoolOp .Or (b::rest) pos) tB'):PW X (.BoolOp .Or (a::b::rest) pos) (tOr tA tB'):=by
 intro wh pins s σ H Q I h
 refine isTrue_or (thn (ha pins s σ H _ I h) fun c s1 ⟨H1,I1,q1⟩=>?_)
 cases c with
 | true=>exact ⟨H1,I1,q1⟩
 | false=>exact hb wh pins s1 σ H1 Q I1 q1
theorem pt_not (ha:PT X a tA):PT X (.UnaryOp .Not a pos) (tNot tA):=by
 intro pins s σ H Q I h
 exact isTrue_not (ha pins s σ H (fun c H1=>Q (!c) H1) I h)
def tAndV (ta tb:TE):TE:=fun σ H Q=>ta σ H fun x H1=>∃ c,x=.bl c∧if c=true then tb σ H1 Q else Q (.bl false) H1
def tOrV (ta tb:TE):TE:=fun σ H Q=>ta σ H fun x H1=>∃ c,x=.bl c∧if c=true then Q (.bl true) H1 else tb σ H1 Q
def tNotV (ta:TE):TE:=fun σ H Q=>ta σ H fun x H1=>∃ c,x=.bl c∧Q (.bl (!c)) H1
theorem pe_one {op}{t:TE} (h:PE X a t):PE X (.BoolOp op [a] pos) t:=fun pins s σ H Q I hw=>BoolOp_one (h pins s σ H Q I hw)
theorem pe_and (ha:PE X a ta) (hb:PE X (.BoolOp .And (b::rest) pos) tb):PE X (.BoolOp .And (a::b::rest) pos) (tAndV ta tb):=by
 intro pins s σ H Q I h
 refine BoolOp_and (thn (ha pins s σ H _ I h) fun v s1 ⟨x,H1,I1,r1,q1⟩=>?_)
 obtain ⟨c,rfl,q1⟩:=q1
 cases r1
 refine wpAny_truthy_bool ?_
 cases c with
 | true=>exact hb pins s1 σ H1 Q I1 q1
 | false=>exact ⟨.bl false,H1,I1,rfl,q1⟩
theorem pe_or (ha:PE X a ta) (hb:PE X (.BoolOp .Or (b::rest) pos) tb):PE X (.BoolOp .Or (a::b::rest) pos) (tOrV ta tb):=by
 intro pins s σ H Q I h
 refine BoolOp_or (thn (ha pins s σ H _ I h) fun v s1 ⟨x,H1,I1,r1,q1⟩=>?_)
 obtain ⟨c,rfl,q1⟩:=q1
 cases r1
 refine wpAny_truthy_bool ?_
 cases c with
 | false=>exact hb pins s1 σ H1 Q I1 q1
 | true=>exact ⟨.bl true,H1,I1,rfl,q1⟩
theorem pe_not (ha:PE X a ta):PE X (.UnaryOp .Not a pos) (tNotV ta):=by
 intro pins s σ H Q I h
 refine UnaryOp_ (thn (ha pins s σ H _ I h) fun v s1 ⟨x,H1,I1,r1,q1⟩=>?_)
 obtain ⟨c,rfl,q1⟩:=q1
 cases r1
 exact not_of (wpAny_truthy_bool ⟨.bl (!c),H1,I1,rfl,q1⟩)
def tIf (t:TT) (ta tb:TE):TE:=fun σ H Q=>t σ H fun c H1=>if c=true then ta σ H1 Q else tb σ H1 Q
theorem v3h {c:Expr} (hc:PT X c tA) (ha:PE X a ta) (hb:PE X b tb):PE X (.IfExp c a b pos) (tIf tA ta tb):=by
 intro pins s σ H Q I h
 refine wpAny_IfExp (thn (hc pins s σ H _ I h) fun d s1 ⟨H1,I1,q1⟩=>?_)
 cases d with
 | true=>exact ha pins s1 σ H1 Q I1 q1
 | false=>exact hb pins s1 σ H1 Q I1 q1
end
def SqL (K:W.Frag) (H:Hp) (a:Addr) (xs:List V):Prop :=
 Rd H a (.lst xs) ∨
  ∃ (o:Obj) (its:Array Value) (n:Nat),K.lookup a=some o∧o.cls=.type "list"∧o.dict=none∧o.data=.seq its n∧its.size≤sizeLine∧Vals xs its.toList
def SqT (K:W.Frag) (H:Hp) (a:Addr) (xs:List V):Prop :=
 Rd H a (.tup xs) ∨
  ∃ (o:Obj) (its:Array Value) (n:Nat),K.lookup a=some o∧o.cls=.type "tuple"∧o.data=.seq its n∧its.size≤sizeLine∧Vals xs its.toList
noncomputable def absV:Value→Option V
 | .none=>some .non
 | .bool b=>some (.bl b)
 | .int i _=>some (.int i)
 | .str x _=>some (.str x)
 | .bytes b _=>some (.byt b)
 | .float b _=>some (.flt b)
 | .ref a=>some (.ref a)
 | .type n=>some (.ty n)
 | _=>none
theorem RelV.abs {x:V}{u:Value} (r:RelV x u):absV u=some x:=by
 cases x with
 | non=>cases r;rfl
 | bl _=>cases r;rfl
 | int _=>obtain ⟨t,rfl⟩:=r;rfl
 | str _=>obtain ⟨t,rfl⟩:=r;rfl
 | byt _=>obtain ⟨t,rfl⟩:=r;rfl
 | flt _=>obtain ⟨t,rfl⟩:=r;rfl
 | ref _=>cases r;rfl
 | ty _=>cases r;rfl
theorem RelV.inj {x y:V}{u:Value} (r:RelV x u) (q:RelV y u):x=y:=Option.some.inj (r.abs.symm.trans q.abs)
theorem Vals.inj:∀ {xs ys:List V}{us:List Value},Vals xs us→Vals ys us→xs=ys
 | _,_,_,.nil,.nil=>rfl
 | _,_,_,.cons r t,.cons r' t'=>by rw [r.inj r',Vals.inj t t']
section
variable {X:Cx}{pins:LO}{σ:St}{H:Hp}{s:Shared}{a:Addr}{xs ys:List V}
theorem Inv.list (I:Inv X pins σ H s) (h:SqL X.K H a xs):∃ its:List Value,Vals xs its∧PlainL s.heap a its.toArray∧xs.length≤sizeLine:=by
 rcases h with h | ⟨o,its,n,hk,hc,hd,hs,hz,r⟩
 ·obtain ⟨z,its,n,r,e⟩:=h.ok I.hok
  exact ⟨its,r,⟨_,n,e,rfl,rfl,rfl⟩,z⟩
 ·refine ⟨its.toList,r,⟨o,n,I.kIn a o hk,hc,hd,by simpa using hs⟩,?_⟩
  have e:=r.length
  simp only [Array.length_toList] at e
  omega
theorem Inv.tuple (I:Inv X pins σ H s) (h:SqT X.K H a xs):∃ its:List Value,Vals xs its∧IsTup s.heap a its.toArray∧xs.length≤sizeLine:=by
 rcases h with h | ⟨o,its,n,hk,hc,hs,hz,r⟩
 ·obtain ⟨z,its,r,p⟩:=h.ok I.hok
  exact ⟨its,r,p,z⟩
 ·refine ⟨its.toList,r,⟨o,I.kIn a o hk,hc,n,by simpa using hs⟩,?_⟩
  have e:=r.length
  simp only [Array.length_toList] at e
  omega
theorem Inv.list_inj (I:Inv X pins σ H s) (h:SqL X.K H a xs) (h':SqL X.K H a ys):xs=ys:=by
 obtain ⟨its,r,⟨o,n,e,_,_,d⟩,_⟩:=I.list h
 obtain ⟨its',r',⟨o',n',e',_,_,d'⟩,_⟩:=I.list h'
 rw [e] at e';cases e'
 rw [d] at d'
 injection d' with d1 _
 have:its=its':=by simpa using congrArg Array.toList d1
 subst this
 exact r.inj r'
theorem Inv.tuple_inj (I:Inv X pins σ H s) (h:SqT X.K H a xs) (h':SqT X.K H a ys):xs=ys:=by
 obtain ⟨its,r,⟨o,e,_,n,d⟩,_⟩:=I.tuple h
 obtain ⟨its',r',⟨o',e',_,n',d'⟩,_⟩:=I.tuple h'
 rw [e] at e';cases e'
 rw [d] at d'
 injection d' with d1 _
 have:its=its':=by simpa using congrArg Array.toList d1
 subst this
 exact r.inj r'
end
abbrev Cx.wish (X:Cx) (E:VP):Cx:={ X with xe:=E }
abbrev Cx.nox (X:Cx):Cx:=X.wish fun _ _=>False
theorem Cx.Ok.wish {X:Cx} (ok:X.Ok) (E:VP):(X.wish E).Ok :=
 ⟨ok.mod,ok.kind,ok.glob,ok.blt,ok.above,ok.inj,ok.has,ok.cab,ok.hd,ok.frames,ok.stk,ok.exf,ok.bs,ok.bsz,ok.noex,ok.exfs,ok.funs,ok.frf⟩
theorem Cx.Ok.unwish {X:Cx}{E:VP} (ok:(X.wish E).Ok):X.Ok :=
 ⟨ok.mod,ok.kind,ok.glob,ok.blt,ok.above,ok.inj,ok.has,ok.cab,ok.hd,ok.frames,ok.stk,ok.exf,ok.bs,ok.bsz,ok.noex,ok.exfs,ok.funs,ok.frf⟩
section
variable {X:Cx}{pins:LO}{σ:St}{H:Hp}{s:Shared}{E:VP}
theorem Inv.wish (I:Inv X pins σ H s) (E:VP):Inv (X.wish E) pins σ H s:=⟨I.ok.wish E,I.os,I.bare,I.base,I.loc,I.cell,I.free,I.freeC,I.pin,I.hok,I.len⟩
theorem Inv.unwish (I:Inv (X.wish E) pins σ H s):Inv X pins σ H s:=⟨I.ok.unwish,I.os,I.bare,I.base,I.loc,I.cell,I.free,I.freeC,I.pin,I.hok,I.len⟩
theorem SP.unwish {D:Ends}{f:Flow}{s':Shared} (h:SP (X.wish E) pins D f s'):SP X pins D f s':=by
 cases f with
 | next=>obtain ⟨σ',H',I,q⟩:=h;exact ⟨σ',H',I.unwish,q⟩
 | brk=>obtain ⟨σ',H',I,q⟩:=h;exact ⟨σ',H',I.unwish,q⟩
 | cont=>obtain ⟨σ',H',I,q⟩:=h;exact ⟨σ',H',I.unwish,q⟩
 | ret u=>obtain ⟨v,σ',H',I,r,q⟩:=h;exact ⟨v,σ',H',I.unwish,r,q⟩
theorem PSs.nox {st:List Stmt}{t:TS} (h:PSs X.nox st t):PSs X st t:=fun pins s σ H D I hw =>
 wpAny_mono (h pins s σ H D (I.wish _) hw) (fun _ _ q=>q.unwish) fun _ _ z=>False.elim z
end
section
variable {X:Cx}{st:Stmt}{rest:List Stmt}{t u:TS}{e:Expr}{te:TE}{pos:Pos}
def tNext:TS:=fun D σ H=>D.nx σ H
def tSeq (t u:TS):TS:=fun D σ H=>t { D with nx:=u D } σ H
theorem pss_nil:PSs X [] tNext:=fun _ _ σ H _ I h=>wpAny_execs_nil ⟨σ,H,I,h⟩
theorem u8U (h1:PS X st t) (h2:PSs X rest u):PSs X (st::rest) (tSeq t u):=by
 intro pins s σ H D I h
 refine wpAny_execs_cons (thn (h1 pins s σ H { D with nx:=u D } I h) fun f s1 q=>?_)
 cases f with
 | next =>
  obtain ⟨σ',H',I',q⟩:=q
  exact h2 pins s1 σ' H' D I' q
 | ret v=>exact q
 | brk=>exact q
 | cont=>exact q
theorem u8h (h1:PS X st t):PSs X [st] t:=by
 intro pins s σ H D I h
 refine wpAny_execs_cons (thn (h1 pins s σ H D I h) fun f s1 q=>?_)
 cases f with
 | next=>exact wpAny_execs_nil q
 | ret v=>exact q
 | brk=>exact q
 | cont=>exact q
theorem Inv.quiet {pins:LO}{σ:St}{H:Hp}{s:Shared} (I:Inv X pins σ H s):interactive X.env=false:=by simp [interactive,I.ok.kind]
def tDrop (te:TE):TS:=fun D σ H=>te σ H fun _ H1=>D.nx σ H1
theorem u2U (he:PE X e te) (hs:swapsWith e none pos.line X.env=pure false:=by rfl):PS X (.Expr e pos) (tDrop te):=by
 intro pins s σ H D I h
 exact wpAny_Expr_any (thn (he pins s σ H _ I h) fun v s1 ⟨x,H1,I1,r1,q1⟩=>⟨σ,H1,I1,q1⟩) I.quiet hs
def tRet (te:TE):TS:=fun D σ H=>te σ H D.rt
theorem v4f (he:PE X e te):PS X (.Return (some e) pos) (tRet te):=by
 intro pins s σ H D I h
 exact wpAny_Return_some (thn (he pins s σ H _ I h) fun v s1 ⟨x,H1,I1,r1,q1⟩=>⟨x,σ,H1,I1,r1,q1⟩)
def tIfS (c:TT) (t u:TS):TS:=fun D σ H=>c σ H fun b H1=>if b=true then t D σ H1 else u D σ H1
theorem ps_if {c:Expr}{a b:List Stmt}{tc:TT} (hc:PT X c tc) (ha:PSs X a t) (hb:PSs X b u):PS X (.If c a b pos) (tIfS tc t u):=by
 intro pins s σ H D I h
 refine wpAny_If (thn (hc pins s σ H _ I h) fun d s1 ⟨H1,I1,q1⟩=>?_)
 cases d with
 | true=>exact ha pins s1 σ H1 D I1 q1
 | false=>exact hb pins s1 σ H1 D I1 q1
end
abbrev TG:=V→St→Hp→(St→Hp→Prop)→Prop
abbrev TGs:=List V→St→Hp→(St→Hp→Prop)→Prop
def PG (X:Cx) (target:Expr) (t:TG):Prop :=
 ∀ (pins:LO) (s:Shared) (σ:St) (H:Hp) (v:V) (u:Value) (Q:St→Hp→Prop),Inv X pins σ H s→RelV v u→t v σ H Q →
  wpAny (model X.prog X.w) X.A (assign target X.env u) (fun _ s'=>∃ σ' H',Inv X pins σ' H' s'∧Q σ' H') X.xe s
def PGs (X:Cx) (ts:List Expr) (t:TGs):Prop :=
 ∀ (pins:LO) (s:Shared) (σ:St) (H:Hp) (vs:List V) (us:List Value) (Q:St→Hp→Prop),Inv X pins σ H s→Vals vs us→t vs σ H Q →
  wpAny (model X.prog X.w) X.A (assignInOrder ((assignEach ts X.env).map (·.2)) us) (fun _ s'=>∃ σ' H',Inv X pins σ' H' s'∧Q σ' H') X.xe s
section
variable {X:Cx}{pos:Pos}
def gName (i:Nat):TG:=fun v σ H Q=>Q (σ.set i (some v)) H
theorem pg_name {i:Nat}{x:Str} (hN:X.N.Nodup) (hi:X.N[i]?=some x) (hx:Loc X.env.scope x) (hf:X.fn x=true∨X.env.scope.names.lookup x=some .local:=by first | exact .inl rfl | exact .inr rfl | assumption):PG X (.Name x pos) (gName i):=by
 intro pins s σ H v u Q I r h
 exact wpAny_assign_Name (u4k I hN hi hx r (fun s' I'=>⟨_,H,I',h⟩) hf)
def gNil:TGs:=fun vs σ H Q=>vs=[]∧Q σ H
def gCons (t:TG) (u:TGs):TGs:=fun vs σ H Q=>∃ v r,vs=v::r∧t v σ H fun σ' H'=>u r σ' H' Q
theorem pgs_nil:PGs X [] gNil:=by
 intro pins s σ H vs us Q I r h
 obtain ⟨e,h⟩:=h
 subst e
 cases r
 exact assignInOrder_nil ⟨σ,H,I,h⟩
theorem v3f {e:Expr}{es:List Expr}{t:TG}{u:TGs} (h1:PG X e t) (h2:PGs X es u)
  (hs:(assignEach (e::es) X.env).map (·.2)=assign e X.env::(assignEach es X.env).map (·.2):=by rfl):PGs X (e::es) (gCons t u):=by
 intro pins s σ H vs us Q I r h
 obtain ⟨v,vr,e1,h⟩:=h
 subst e1
 cases r with
 | cons r rr =>
  rw [hs]
  refine assignInOrder_cons (thn (h1 pins s σ H _ _ _ I r h) fun _ s1 ⟨σ1,H1,I1,q1⟩=>?_)
  exact h2 pins s1 σ1 H1 _ _ Q I1 rr q1
def gTup (K:W.Frag) (n:Nat) (t:TGs):TG:=fun v σ H Q=>∃ a xs,v=.ref a∧SqT K H a xs∧xs.length=n∧t xs σ H Q
theorem pg_tup {es:List Expr}{k:Nat}{t:TGs}{n:Nat} (hc:X.calm=true) (h:PGs X es t)
  (hn:(assignEach es X.env).length=n:=by rfl) (hst:(assignEach es X.env).findIdx? (·.1)=none:=by rfl):PG X (.Tuple es k pos) (gTup X.K n t):=by
 intro pins s σ H v u Q I r hw
 obtain ⟨a,xs,e1,hq,hl,hw⟩:=hw
 subst e1
 cases r
 obtain ⟨its,rv,ht,hz⟩:=I.tuple hq
 refine assign_Tuple_tuple (I.ok.hd hc) ht (by simp [hn,← hl,rv.length]) hst fun h' hx=>?_
 have I1:Inv X pins σ H { s with heap:=h' }:=I.kept (t':=s.toks) fun b o e=>hx b o (Nat.ne_of_lt (Heap.lt_size e)) e
 exact h pins _ σ H xs _ Q I1 (by simpa using rv) hw
def tAsg (te:TE) (g:TG):TS:=fun D σ H=>te σ H fun x H1=>g x σ H1 D.nx
theorem ps_set {i:Nat}{x:Str}{e:Expr}{te:TE}{pos':Pos} (hN:X.N.Nodup) (hi:X.N[i]?=some x) (hx:Loc X.env.scope x) (he:PE X e te) (hs:swapsWith e (some (.Name x pos')) pos.line X.env=pure false:=by rfl) (hf:X.fn x=true∨X.env.scope.names.lookup x=some .local:=by first | exact .inl rfl | exact .inr rfl | assumption) :
  PS X (.Assign [.Name x pos'] e pos) (tAsg te (gName i)):=by
 intro pins s σ H D I h
 refine wpAny_Assign_Name (thn (he pins s σ H _ I h) fun v s1 ⟨y,H1,I1,r1,q1⟩=>?_) hs
 exact u4k I1 hN hi hx r1 (fun s2 I2=>⟨_,H1,I2,q1⟩) hf
end
structure It where
 go:Nat→Hp→Prop
 yld:Nat→Hp→V→Hp→Prop
 stop:Nat→Hp→Prop
def FpOk (X:Cx) (pins:LO) (H:Hp) (b:Addr):Prop :=
 H b=none∧b≠X.env.locals∧b∉X.fs∧(b∈X.ex∨X.s₀.heap.objs.size≤b)∧(∀ x c,X.env.cells.lookup x=some c→c≠b)∧∀ p∈X.pn++pins,p.1≠b
theorem Inv.fpOk {X:Cx}{pins:LO}{σ:St}{H H':Hp}{s:Shared}{b:Addr} (I:Inv X pins σ H s) (hb:s.heap.objs.size≤b) (hn:H' b=none):FpOk X pins H' b:=by
 refine ⟨hn,Nat.ne_of_gt (Nat.lt_of_lt_of_le I.lt hb),I.nofs hb,.inr (Nat.le_trans I.sz hb),fun x c e z=>?_,fun p hp z=>?_⟩
 ·obtain ⟨v,q⟩:=I.cell x c e
  exact absurd (Nat.lt_of_lt_of_le q.lt (by rw [z];exact hb)) (Nat.lt_irrefl _)
 ·exact absurd (Nat.lt_of_lt_of_le (Heap.lt_size (I.pin p hp).1) (by rw [z];exact hb)) (Nat.lt_irrefl _)
structure Turn (P:Program) (w:World) (K:W.Frag) (tg:Expr) (J:It) (fp:List Addr) (it:Addr) (tn:Nat→Heap→Prop):Prop where
 mem:it∈fp
 obj:∀ i h,tn i h→∀ b∈fp,∃ o,h.get? b=some o∧∀ v,o.data≠.cell v
 keep:∀ i h h',tn i h→(∀ b∈fp,∀ o,h.get? b=some o→h'.get? b=some o)→tn i h'
 item:∀ (X:Cx),X.prog=P→X.w=w→X.K=K→X.calm=true→∀ (i:Nat) (pins:LO) (s:Shared) (σ:St) (H:Hp) (E:VP),Inv X pins σ H s→(∀ b∈fp,FpOk X pins H b)→tn i s.heap→J.go i H →
  wpAny (model P w) X.A (pyNext (.ref it)) (fun r s1=>∃ u,r=some u ∧
   wpAny (model P w) X.A (letOwnedTupleGo tg (.ref it) u) (fun _ s2=>∃ x H',Inv X pins σ H' s2∧RelV x u∧J.yld i H x H'∧tn (i+1) s2.heap∧∀ b∈fp,H' b=none) E s1) E s
 done:∀ (X:Cx),X.prog=P→X.w=w→X.K=K→X.calm=true→∀ (i:Nat) (pins:LO) (s:Shared) (σ:St) (H:Hp) (E:VP),Inv X pins σ H s→(∀ b∈fp,FpOk X pins H b)→tn i s.heap→J.stop i H →
  wpAny (model P w) X.A (pyNext (.ref it)) (fun r s1=>r=none∧Inv X pins σ H s1) E s
 self:∀ (A:Around) (i:Nat) (s:Shared) (Q:VP) (E:VP),tn i s.heap→Q (.ref it) s→wpAny (model P w) A (pyIter (.ref it)) Q E s
abbrev TI:=St→Hp→(It→Hp→Prop)→Prop
def PIE (X:Cx) (pins:LO) (σ:St) (tg:Expr) (R:It→Hp→Prop) (itv:Value) (s2:Shared):Prop :=
 ∃ (it:Addr) (fp:List Addr) (tn:Nat→Heap→Prop) (J:It) (H':Hp),itv=.ref it∧Inv X pins σ H' s2∧Turn X.prog X.w X.K tg J fp it tn∧tn 0 s2.heap∧(∀ b∈fp,FpOk X pins H' b)∧R J H'
def PI (X:Cx) (tg iter:Expr) (wi:TI):Prop :=
 ∀ (pins:LO) (s:Shared) (σ:St) (H:Hp) (R:It→Hp→Prop),Inv X pins σ H s→wi σ H R →
  wpAny (model X.prog X.w) X.A (eval iter X.env) (fun v s1=>wpAny (model X.prog X.w) X.A (pyIter v) (PIE X pins σ tg R) X.xe s1) X.xe s
theorem v0B {M:Model}{A:Around}{E:VP}{s:Shared}{tg:Expr}{it:Addr}{u:Value}{o:Obj}{n:String}{vs:Array Value}{Q:Unit→Shared→Prop} (ho:s.heap.get? it=some o) (hc:o.cls=.type n) (hd:o.data=.fields vs)
  (hn:["enumerate","zip","dict_itemiterator","dict_reverseitemiterator","odict_iterator","itertools.zip_longest","itertools.pairwise"].contains n=false) (hQ:Q () s):wpAny M A (letOwnedTupleGo tg (.ref it) u) Q E s:=by
 unfold letOwnedTupleGo
 cases tg <;> first
  | exact wpAny_pure hQ
  | (cases u <;> first
    | exact wpAny_pure hQ
    | (refine wpAny_bind (wpAny_load ho ?_)
       rw [hc,hd]
       show wpAny M A (if (["enumerate","zip","dict_itemiterator","dict_reverseitemiterator","odict_iterator","itertools.zip_longest","itertools.pairwise"].contains n&&vs[0]?==some (rawInt _))=true then _ else _) Q E s
       rw [if_neg (by intro h;rw [hn,Bool.false_and] at h;cases h)]
       exact wpAny_pure hQ))
def Itl (K:W.Frag) (a:Addr):It :=
 ⟨fun i H=>∃ xs x,SqL K H a xs∧xs[i]?=some x,fun i H x H'=>H'=H∧∀ xs,SqL K H a xs→xs[i]?=some x,fun i H=>∃ xs,SqL K H a xs∧xs.length≤i⟩
def Itt (K:W.Frag) (a:Addr):It :=
 ⟨fun i H=>∃ xs x,SqT K H a xs∧xs[i]?=some x,fun i H x H'=>H'=H∧∀ xs,SqT K H a xs→xs[i]?=some x,fun i H=>∃ xs,SqT K H a xs∧xs.length≤i⟩
def Itr (lo:Int) (n:Nat):It:=⟨fun i _=>i<n,fun i H x H'=>H'=H∧x=.int (lo+i),fun i _=>n≤i⟩
theorem v0Q {P:Program}{w:World}{K:W.Frag}{tg:Expr} (a it:Addr):Turn P w K tg (Itl K a) [it] it (fun i h=>h.IsListIter it a i) where
 mem:=by simp
 obj:=fun i h st b hb=>by
  have e:b=it:=by simpa using hb
  subst e
  obtain ⟨o,e,c,d⟩:=st
  exact ⟨o,e,fun v z=>by rw [d] at z;cases z⟩
 keep:=fun i h h' st k=>st.at fun o e=>k it (by simp) o e
 item:=by
  intro X hP hw hK hc i pins s σ H E I hf st hg
  subst hP hw hK
  obtain ⟨xs,x,hq,hx⟩:=hg
  obtain ⟨its,rv,p,hz⟩:=I.list hq
  obtain ⟨u,hu,ru⟩:=rv.get hx
  obtain ⟨f0,f1,f2,f3,f4,f5⟩:=hf it (by simp)
  refine wpAny_pyNext_list_item st p.isList (x:=u) (by simpa using hu) fun h' st' sb=>?_
  have I1:Inv X pins σ H { s with heap:=h' }:=I.turned (t':=s.toks) (fun b o hb e=>(sb.2 b hb).trans e) f0 f1 f3 f4 f5
  obtain ⟨o,e,c,d⟩:=id st'
  exact ⟨u,rfl,v0B (s:={ s with heap:=h' }) e c d (by decide) ⟨x,H,I1,ru,⟨rfl,fun ys hy=>by rw [I.list_inj hy hq];exact hx⟩,st',fun b hb=>(hf b hb).1⟩⟩
 done:=by
  intro X hP hw hK hc i pins s σ H E I hf st hg
  subst hP hw hK
  obtain ⟨xs,hq,hx⟩:=hg
  obtain ⟨its,rv,p,hz⟩:=I.list hq
  obtain ⟨f0,f1,f2,f3,f4,f5⟩:=hf it (by simp)
  have hl:=rv.length
  exact wpAny_pyNext_list_end (I.ok.hd hc) st p.isList (by simp;omega) fun h' eb=>⟨rfl,I.turned (t':=s.toks) (fun b o hb e=>eb b o hb e) f0 f1 f3 f4 f5⟩
 self:=fun _ _ _ _ _ st h=>wpAny_pyIter_listiter st h
theorem u9K {P:Program}{w:World}{K:W.Frag}{tg:Expr} (a it:Addr):Turn P w K tg (Itt K a) [it] it (fun i h=>h.IsTupleIter it a i) where
 mem:=by simp
 obj:=fun i h st b hb=>by
  have e:b=it:=by simpa using hb
  subst e
  obtain ⟨o,e,c,d⟩:=st
  exact ⟨o,e,fun v z=>by rw [d] at z;cases z⟩
 keep:=fun i h h' st k=>st.at fun o e=>k it (by simp) o e
 item:=by
  intro X hP hw hK hc i pins s σ H E I hf st hg
  subst hP hw hK
  obtain ⟨xs,x,hq,hx⟩:=hg
  obtain ⟨its,rv,p,hz⟩:=I.tuple hq
  obtain ⟨u,hu,ru⟩:=rv.get hx
  obtain ⟨f0,f1,f2,f3,f4,f5⟩:=hf it (by simp)
  refine wpAny_pyNext_tuple_item st (show s.heap.IsTuple a its.toArray from p) (x:=u) (by simpa using hu) fun h' st' sb=>?_
  have I1:Inv X pins σ H { s with heap:=h' }:=I.turned (t':=s.toks) (fun b o hb e=>(sb.2 b hb).trans e) f0 f1 f3 f4 f5
  obtain ⟨o,e,c,d⟩:=id st'
  exact ⟨u,rfl,v0B (s:={ s with heap:=h' }) e c d (by decide) ⟨x,H,I1,ru,⟨rfl,fun ys hy=>by rw [I.tuple_inj hy hq];exact hx⟩,st',fun b hb=>(hf b hb).1⟩⟩
 done:=by
  intro X hP hw hK hc i pins s σ H E I hf st hg
  subst hP hw hK
  obtain ⟨xs,hq,hx⟩:=hg
  obtain ⟨its,rv,p,hz⟩:=I.tuple hq
  obtain ⟨f0,f1,f2,f3,f4,f5⟩:=hf it (by simp)
  have hl:=rv.length
  exact wpAny_pyNext_tuple_end (I.ok.hd hc) st (show s.heap.IsTuple a its.toArray from p) (by simp;omega) fun h' eb=>⟨rfl,I.turned (t':=s.toks) (fun b o hb e=>eb b o hb e) f0 f1 f3 f4 f5⟩
 self:=fun _ _ _ _ _ st h=>wpAny_pyIter_tupleiter st h
theorem u9L {P:Program}{w:World}{K:W.Frag}{tg:Expr} (it:Addr) (lo:Int) (n:Nat):Turn P w K tg (Itr lo n) [it] it (fun i h=>IsRangeIter h it (lo+(i:Nat)*1) ((n:Int) - (i:Nat)) 1) where
 mem:=by simp
 obj:=fun i h st b hb=>by
  have e:b=it:=by simpa using hb
  subst e
  exact ⟨_,st,fun v z=>by
   have z':Data.fields _=Data.cell v:=z
   cases z'⟩
 keep:=fun i h h' st k=>k it (by simp) _ st
 item:=by
  intro X hP hw hK hc i pins s σ H E I hf st hg
  subst hP hw hK
  obtain ⟨f0,f1,f2,f3,f4,f5⟩:=hf it (by simp)
  have W:=Walks.range (prog:=X.prog) (w:=X.w) (I.ok.hd hc) it lo 1 n
  refine W.item i s _ _ hg st fun v h' tk hv st' kk=>?_
  obtain ⟨t,rfl⟩:=hv
  have I1:Inv X pins σ H { s with heap:=h',toks:=tk }:=I.turned (fun b o hb e=>kk b o (by simpa using hb) e) f0 f1 f3 f4 f5
  refine ⟨_,rfl,v0B (s:={ s with heap:=h',toks:=tk }) (n:="range_iterator") st' rfl rfl (by decide) ⟨.int (lo+i),H,I1,⟨t,?_⟩,⟨rfl,rfl⟩,st',fun b hb=>(hf b hb).1⟩⟩
  rw [Int.mul_one]
 done:=by
  intro X hP hw hK hc i pins s σ H E I hf st hg
  subst hP hw hK
  obtain ⟨f0,f1,f2,f3,f4,f5⟩:=hf it (by simp)
  exact wpAny_pyNext_range_end (I.ok.hd hc) st (by have:n≤i:=hg;omega) fun h' eb=>⟨rfl,I.turned (t':=s.toks) (fun b o hb e=>eb b o hb e) f0 f1 f3 f4 f5⟩
 self:=fun _ _ _ _ _ st h=>wpAny_pyIter_rangeiter st h
section
variable {X:Cx}{tg:Expr}
def iList (K:W.Frag) (tl:TE):TI:=fun σ H R=>tl σ H fun x H1=>∃ a,x=.ref a∧(∃ xs,SqL K H1 a xs)∧R (Itl K a) H1
def iTup (K:W.Frag) (tl:TE):TI:=fun σ H R=>tl σ H fun x H1=>∃ a,x=.ref a∧(∃ xs,SqT K H1 a xs)∧R (Itt K a) H1
theorem v1m {l:Expr}{tl:TE} (hl:PE X l tl):PI X tg l (iList X.K tl):=by
 intro pins s σ H R I h
 refine thn (hl pins s σ H _ I h) fun v s1 ⟨x,H1,I1,r1,q1⟩=>?_
 obtain ⟨a,e,⟨xs,hq⟩,q⟩:=q1
 subst e
 cases r1
 obtain ⟨its,rv,p,hz⟩:=I1.list hq
 refine wpAny_pyIter_list p.isList ?_
 refine ⟨s1.heap.objs.size,[s1.heap.objs.size],_,_,H1,rfl,I1.kept (t':=s1.toks) fun b o e=>Heap.get?_push_of_some _ e,v0Q a _,⟨_,Heap.get?_push_size _ rfl,rfl,rfl⟩,fun b hb=>?_,q⟩
 have e:b=s1.heap.objs.size:=by simpa using hb
 subst e
 exact I1.fpOk (Nat.le_refl _) (I1.hok.fresh (Nat.le_refl _))
theorem pi_tup {l:Expr}{tl:TE} (hl:PE X l tl):PI X tg l (iTup X.K tl):=by
 intro pins s σ H R I h
 refine thn (hl pins s σ H _ I h) fun v s1 ⟨x,H1,I1,r1,q1⟩=>?_
 obtain ⟨a,e,⟨xs,hq⟩,q⟩:=q1
 subst e
 cases r1
 obtain ⟨its,rv,p,hz⟩:=I1.tuple hq
 refine wpAny_pyIter_tuple (show s1.heap.IsTuple a its.toArray from p) ?_
 refine ⟨s1.heap.objs.size,[s1.heap.objs.size],_,_,H1,rfl,I1.kept (t':=s1.toks) fun b o e=>Heap.get?_push_of_some _ e,u9K a _,⟨_,Heap.get?_push_size _ rfl,rfl,rfl⟩,fun b hb=>?_,q⟩
 have e:b=s1.heap.objs.size:=by simpa using hb
 subst e
 exact I1.fpOk (Nat.le_refl _) (I1.hok.fresh (Nat.le_refl _))
theorem u8S {pins:LO}{σ:St}{H:Hp}{s:Shared}{R:It→Hp→Prop}{E:VP}{lo hi:Int}{t u v:Tok}{tk:Nat} (I:Inv X pins σ H s) (h1:-(2^62)≤lo) (h2:lo<2^62) (h3:-(2^62)≤hi) (h4:hi<2^62)
  (q:R (Itr lo (hi - lo).toNat) H):wpAny (model X.prog X.w) X.A (pyIter (.ref s.heap.objs.size)) (PIE X pins σ tg R) E { s with heap:=s.heap.push { cls:=.type "range",data:=.fields #[.int lo t,.int hi u,.int 1 v] },toks:=tk }:=by
 refine wpAny_pyIter_range (IsRange.new ..) (small_one h1 h2 h3 h4) ?_
 have I1:Inv X pins σ H { s with heap:=s.heap.push { cls:=.type "range",data:=.fields #[.int lo t,.int hi u,.int 1 v] },toks:=tk }:=I.kept fun b o e=>Heap.get?_push_of_some _ e
 refine ⟨(s.heap.push { cls:=.type "range",data:=.fields #[.int lo t,.int hi u,.int 1 v] }).objs.size,[(s.heap.push { cls:=.type "range",data:=.fields #[.int lo t,.int hi u,.int 1 v] }).objs.size],_,_,H,rfl,
  I1.kept (t':=tk) fun b o e=>Heap.get?_push_of_some _ e,u9L _ lo (hi - lo).toNat,?_,fun b hb=>?_,q⟩
 ·have e1:lo+((0:Nat):Int)*1=lo:=by simp
  have e2:(((hi - lo).toNat:Nat):Int) - ((0:Nat):Int)=Builtin.Range.rangeSize lo hi 1:=by rw [rangeSize_one];split <;> omega
  show IsRangeIter _ _ (lo+((0:Nat):Int)*1) ((((hi - lo).toNat:Nat):Int) - ((0:Nat):Int)) 1
  rw [e1,e2]
  exact Heap.get?_push_size _ rfl
 ·have e:b=(s.heap.push { cls:=.type "range",data:=.fields #[.int lo t,.int hi u,.int 1 v] }).objs.size:=by simpa using hb
  subst e
  exact I1.fpOk (Nat.le_refl _) (I1.hok.fresh (Nat.le_refl _))
def iRng1 (ta:TA):TI:=fun σ H R=>ta σ H fun vs H1=>∃ j:Int,vs=[.int j]∧-(2^62)≤j∧j<2^62∧R (Itr 0 j.toNat) H1
def iRng2 (ta:TA):TI:=fun σ H R=>ta σ H fun vs H1=>∃ i j:Int,vs=[.int i,.int j]∧(-(2^62)≤i∧i<2^62∧-(2^62)≤j∧j<2^62)∧R (Itr i (j - i).toNat) H1
theorem v1l {a:Expr}{ta:TA}{p pos:Pos} (hg:Gl X "range") (hm:X.mg "range"=none) (ha:PA X [a] ta) (hs:starEach [a] X.env=[(false,eval a X.env)]:=by rfl):PI X tg (.Call (.Name "range" p) [a] [] pos) (iRng1 ta):=by
 intro pins s σ H R I h
 refine Call_ (u3U I hg hm boot_range (PyProof.Rows.callWith_type1 (thn (ha pos pins s σ H _ I h) fun us s1 ⟨vs,H1,I1,r1,q1⟩=>?_) hs rfl))
 obtain ⟨j,e,q1,q2,q⟩:=q1
 subst e
 cases r1 with
 | cons r rr =>
  cases rr
  obtain ⟨t,rfl⟩:=r
  exact call_range_1 (u8S I1 (by omega) (by omega) q1 q2 (by simpa using q))
theorem v1k {a b:Expr}{ta:TA}{p pos:Pos} (hg:Gl X "range") (hm:X.mg "range"=none) (ha:PA X [a,b] ta) (hs:starEach [a,b] X.env=[(false,eval a X.env),(false,eval b X.env)]:=by rfl) (hs2:starEach [b] X.env=[(false,eval b X.env)]:=by rfl) :
  PI X tg (.Call (.Name "range" p) [a,b] [] pos) (iRng2 ta):=by
 intro pins s σ H R I h
 refine Call_ (u3U I hg hm boot_range (PyProof.Rows.callWith_type1 (thn (ha pos pins s σ H _ I h) fun us s1 ⟨vs,H1,I1,r1,q1⟩=>?_) (by rw [hs,hs2]) (by rw [hs2];rfl)))
 obtain ⟨i,j,e,⟨q1,q2,q3,q4⟩,q⟩:=q1
 subst e
 cases r1 with
 | cons r rr =>
  cases rr with
  | cons r' rr =>
   cases rr
   obtain ⟨t,rfl⟩:=r
   obtain ⟨t',rfl⟩:=r'
   exact call_range_2 (u8S I1 q1 q2 q3 q4 q)
def tFor (wi:TI) (g:TG) (tb:TS):TS:=fun D σ H=>wi σ H fun J H1=>∃ W:Nat→Nat→St→Hp→Prop,(∃ m,W 0 m σ H1)∧∀ i m σ H,W i m σ H →
 (J.stop i H∧D.nx σ H)∨(J.go i H∧∃ N:St→Hp→Prop,(∀ σ' H',N σ' H'→∃ m',m'<m∧W (i+1) m' σ' H')∧∀ x H',J.yld i H x H'→g x σ H' fun σ2 H2=>tb { D with nx:=N,ct:=N,bk:=D.nx } σ2 H2)
noncomputable def pinsAt (fp:List Addr) (h:Heap):LO:=fp.filterMap fun b=>(h.get? b).map fun o=>(b,o)
theorem u2x {fp:List Addr}{h:Heap}{b:Addr}{o:Obj} (hb:b∈fp) (e:h.get? b=some o):(b,o)∈pinsAt fp h:=List.mem_filterMap.mpr ⟨b,hb,by rw [e];rfl⟩
theorem v1s {fp:List Addr}{h:Heap}{p:Addr×Obj} (hp:p∈pinsAt fp h):p.1∈fp∧h.get? p.1=some p.2:=by
 obtain ⟨b,hb,e⟩:=List.mem_filterMap.mp hp
 cases q:h.get? b with
 | none=>rw [q] at e;cases e
 | some o =>
  rw [q] at e
  have e':(b,o)=p:=Option.some.inj e
  subst e'
  exact ⟨hb,q⟩
theorem Inv.pinned {pins:LO}{σ:St}{H:Hp}{s:Shared}{fp:List Addr} (I:Inv X pins σ H s) (hf:∀ b∈fp,FpOk X pins H b) (ho:∀ b∈fp,∃ o,s.heap.get? b=some o∧∀ v,o.data≠.cell v):Inv X (pins++pinsAt fp s.heap) σ H s :=
 I.pins_of fun p hp=>(List.mem_append.mp hp).elim (fun z=>I.pin p (List.mem_append_right _ z)) fun z=>by
  obtain ⟨hb,e⟩:=v1s z
  obtain ⟨f0,f1,f2,_⟩:=hf p.1 hb
  obtain ⟨o,e',d⟩:=ho p.1 hb
  rw [e] at e';cases e'
  exact ⟨e,f0,f1,f2,d⟩
theorem Inv.unpinned {pins pl:LO}{σ:St}{H:Hp}{s:Shared} (I:Inv X (pins++pl) σ H s):Inv X pins σ H s:=I.pins_of fun p hp=>I.pin p (List.mem_append_right _ (List.mem_append_left _ hp))
theorem ps_for {iter:Expr}{body:List Stmt}{wi:TI}{g:TG}{tb:TS}{pos:Pos} (hp:PassesOwn (model X.prog X.w) X.A X.env X.xe) (hc:X.calm=true) (hi:PI X tg iter wi) (hg:PG X tg g) (hb:PSs X body tb)
  (hs:∀ x,foldedSetIterable iter X.env x=pure x:=by intro _;rfl):PS X (.For tg iter body [] pos) (tFor wi g tb):=by
 intro pins s σ H D I h
 refine wpAny_For (thn (hi pins s σ H _ I h) fun v s1 h1=>thn h1 fun itv s2 h2=>?_) hs
 obtain ⟨it,fp,tn,J,H2,e,I2,T,st2,f2,W,⟨m0,w0⟩,turn⟩:=h2
 subst e
 have stat:∀ {H':Hp},(∀ b∈fp,H' b=none)→∀ b∈fp,FpOk X pins H' b:=fun hn b hb=>⟨hn b hb,(f2 b hb).2⟩
 refine codeAny_forLoop_any (fun n s'=>∃ i σ' H',Inv X pins σ' H' s'∧tn i s'.heap∧(∀ b∈fp,H' b=none)∧W i n σ' H') ?_ m0 ⟨0,σ,H2,I2,st2,fun b hb=>(f2 b hb).1,w0⟩
 rintro n s3 ⟨i,σ3,H3,I3,st3,fr3,w3⟩
 rcases turn i n σ3 H3 w3 with ⟨stop,qn⟩ | ⟨go,N,hN,step⟩
 ·refine wpAny_passesOwn hp (thn (T.done X rfl rfl rfl hc i pins s3 σ3 H3 X.xe I3 (stat fr3) st3 stop) fun r s4 ⟨hr,I4⟩=>?_)
  subst hr
  exact wpAny_execs_nil ⟨σ3,H3,I4,qn⟩
 ·refine wpAny_passesOwn hp (thn (T.item X rfl rfl rfl hc i pins s3 σ3 H3 X.xe I3 (stat fr3) st3 go) fun r s4 ⟨u,hr,h4⟩=>?_)
  subst hr
  refine wpAny_passesOwn hp (thn h4 fun _ s5 ⟨x,H5,I5,r5,y5,st5,fr5⟩=>?_)
  have I5':=I5.pinned (stat fr5) (T.obj _ _ st5)
  refine wpAny_passesOwn hp (thn (hg _ s5 σ3 H5 x u _ I5' r5 (step x H5 y5)) fun _ s6 ⟨σ6,H6,I6,q6⟩=>?_)
  refine wpAny_passesOwn hp (thn (hb _ s6 σ6 H6 _ I6 q6) fun f s7 q7=>?_)
  have again:∀ {σ7:St}{H7:Hp},Inv X (pins++pinsAt fp s5.heap) σ7 H7 s7→N σ7 H7→∃ m,m<n∧∃ i σ' H',Inv X pins σ' H' s7∧tn i s7.heap∧(∀ b∈fp,H' b=none)∧W i m σ' H':=fun {σ7 H7} I7 n7=>by
   obtain ⟨m',hm,w7⟩:=hN σ7 H7 n7
   refine ⟨m',hm,i+1,σ7,H7,I7.unpinned,T.keep _ _ _ st5 fun b hb o e=>(I7.pin (b,o) (List.mem_append_right _ (List.mem_append_right _ (u2x hb e)))).1,fun b hb=>?_,w7⟩
   obtain ⟨o,e,d⟩:=T.obj _ _ st5 b hb
   exact (I7.pin (b,o) (List.mem_append_right _ (List.mem_append_right _ (u2x hb e)))).2.1
  cases f with
  | next=>obtain ⟨σ7,H7,I7,n7⟩:=q7;exact again I7 n7
  | cont=>obtain ⟨σ7,H7,I7,n7⟩:=q7;exact again I7 n7
  | brk=>obtain ⟨σ7,H7,I7,q7⟩:=q7;exact ⟨σ7,H7,I7.unpinned,q7⟩
  | ret v=>obtain ⟨x7,σ7,H7,I7,r7,q7⟩:=q7;exact ⟨x7,σ7,H7,I7.unpinned,r7,q7⟩
end
abbrev R2:=V→V→Hp→VK→Prop
def OpR (X:Cx) (f:Value→Value→Sem Value) (r:R2):Prop :=
 ∀ (pins:LO) (s:Shared) (σ:St) (H:Hp) (x y:V) (v u:Value) (Q:VK),Inv X pins σ H s→RelV x v→RelV y u→r x y H Q →
  wpAny (model X.prog X.w) X.A (f v u) (EP X pins σ Q) X.xe s
def UnR (X:Cx) (f:Value→Sem Value) (r:V→Hp→VK→Prop):Prop :=
 ∀ (pins:LO) (s:Shared) (σ:St) (H:Hp) (x:V) (v:Value) (Q:VK),Inv X pins σ H s→RelV x v→r x H Q →
  wpAny (model X.prog X.w) X.A (f v) (EP X pins σ Q) X.xe s
def CallR (X:Cx) (f:Value) (r:List V→Hp→VK→Prop):Prop :=
 ∀ (pins:LO) (s:Shared) (σ:St) (H:Hp) (xs:List V) (us:List Value) (Q:VK),Inv X pins σ H s→Vals xs us→r xs H Q →
  wpAny (model X.prog X.w) X.A (call f us) (EP X pins σ Q) X.xe s
def TruR (X:Cx) (r:V→Hp→(Bool→Hp→Prop)→Prop):Prop :=
 ∀ (pins:LO) (s:Shared) (σ:St) (H:Hp) (x:V) (v:Value) (Q:Bool→Hp→Prop),Inv X pins σ H s→RelV x v→r x H Q →
  wpAny (model X.prog X.w) X.A (truthy v) (TP X pins σ Q) X.xe s
def tOp (r:R2) (ta tb:TE):TE:=fun σ H Q=>ta σ H fun x H1=>tb σ H1 fun y H2=>r x y H2 Q
def tUn (r:V→Hp→VK→Prop) (ta:TE):TE:=fun σ H Q=>ta σ H fun x H1=>r x H1 Q
def rI (C:Int→Int→Prop) (g:Int→Int→V):R2:=fun x y H Q=>∃ i j,x=.int i∧y=.int j∧C i j∧Q (g i j) H
def rI0 (g:Int→Int→V):R2:=fun x y H Q=>∃ i j,x=.int i∧y=.int j∧Q (g i j) H
def rU (g:Int→V):V→Hp→VK→Prop:=fun x H Q=>∃ i,x=.int i∧Q (g i) H
section
variable {X:Cx}{a b c:Expr}{ta tb tc:TE}{pos:Pos}
theorem binT (ha:PE X a ta) (hb:PE X b tb) {pins:LO}{s:Shared}{σ:St}{H:Hp}{R:V→V→Hp→Prop} (I:Inv X pins σ H s)
  (h:ta σ H fun x H1=>tb σ H1 fun y H2=>R x y H2) {Q:VP}{f:Value→Value→Sem Value}
  (hf:∀ v u s2 x y H2,Inv X pins σ H2 s2→RelV x v→RelV y u→R x y H2→wpAny (model X.prog X.w) X.A (f v u) Q X.xe s2) :
  wpAny (model X.prog X.w) X.A (eval a X.env) (fun v s₁=>wpAny (model X.prog X.w) X.A (eval b X.env) (fun u s₂=>wpAny (model X.prog X.w) X.A (f v u) Q X.xe s₂) X.xe s₁) X.xe s:=by
 refine thn (ha pins s σ H _ I h) fun v s1 ⟨x,H1,I1,r1,q1⟩=>?_
 refine thn (hb pins s1 σ H1 _ I1 q1) fun u s2 ⟨y,H2,I2,r2,q2⟩=>?_
 exact hf v u s2 x y H2 I2 r1 r2 q2
theorem pe_op {op:Operator}{r:R2} (ho:OpR X (binaryOp op) r) (ha:PE X a ta) (hb:PE X b tb):PE X (.BinOp a op b pos) (tOp r ta tb):=by
 intro pins s σ H Q I h
 exact wpAny_BinOp (binT ha hb I h fun v u s2 x y H2 I2 rx ry q=>ho pins s2 σ H2 x y v u Q I2 rx ry q)
theorem pe_un {op:UnaryOp}{r:V→Hp→VK→Prop} (ho:UnR X (unaryOp op) r) (ha:PE X a ta):PE X (.UnaryOp op a pos) (tUn r ta):=by
 intro pins s σ H Q I h
 exact UnaryOp_ (thn (ha pins s σ H _ I h) fun v s1 ⟨x,H1,I1,r1,q1⟩=>ho pins s1 σ H1 x v Q I1 r1 q1)
theorem opI {f:Value→Value→Sem Value}{C:Int→Int→Prop}{g:Int→Int→Int}
  (rule:∀ (i j:Int) (t u:Tok) (s:Shared) (Q:VP) (E:VP),C i j→Q (.int (g i j) s.toks) { s with toks:=s.toks+1 }→wpAny (model X.prog X.w) X.A (f (.int i t) (.int j u)) Q E s) :
  OpR X f (rI C fun i j=>.int (g i j)):=by
 intro pins s σ H x y v u Q I rx ry h
 obtain ⟨i,j,rfl,rfl,hc,q⟩:=h
 obtain ⟨t,rfl⟩:=rx
 obtain ⟨t',rfl⟩:=ry
 exact rule i j t t' s _ _ hc ⟨.int (g i j),H,I.tok _,⟨_,rfl⟩,q⟩
theorem opI0 {f:Value→Value→Sem Value}{g:Int→Int→Int}
  (rule:∀ (i j:Int) (t u:Tok) (s:Shared) (Q:VP) (E:VP),Q (.int (g i j) s.toks) { s with toks:=s.toks+1 }→wpAny (model X.prog X.w) X.A (f (.int i t) (.int j u)) Q E s) :
  OpR X f (rI0 fun i j=>.int (g i j)):=by
 intro pins s σ H x y v u Q I rx ry h
 obtain ⟨i,j,rfl,rfl,q⟩:=h
 obtain ⟨t,rfl⟩:=rx
 obtain ⟨t',rfl⟩:=ry
 exact rule i j t t' s _ _ ⟨.int (g i j),H,I.tok _,⟨_,rfl⟩,q⟩
theorem opB0 {f:Value→Value→Sem Value}{g:Int→Int→Bool}
  (rule:∀ (i j:Int) (t u:Tok) (s:Shared) (Q:VP) (E:VP),Q (.bool (g i j)) s→wpAny (model X.prog X.w) X.A (f (.int i t) (.int j u)) Q E s) :
  OpR X f (rI0 fun i j=>.bl (g i j)):=by
 intro pins s σ H x y v u Q I rx ry h
 obtain ⟨i,j,rfl,rfl,q⟩:=h
 obtain ⟨t,rfl⟩:=rx
 obtain ⟨t',rfl⟩:=ry
 exact rule i j t t' s _ _ ⟨.bl (g i j),H,I,rfl,q⟩
def CPow (i j:Int):Prop:=0≤j∧j≤1000000∧i.natAbs<2^64
def CMul (i j:Int):Prop:=(-(2^64)<i∧i<2^64)∨(-(2^64)<j∧j<2^64)
theorem CMul.ok {i j:Int} (h:CMul i j):IntMulOk i j:=by
 rcases h with ⟨h1,h2⟩ | ⟨h1,h2⟩
 ·exact .of_left (intBits_le_64 h1 h2)
 ·exact .of_right (intBits_le_64 h1 h2)
theorem op_add:OpR X (binaryOp .Add) (rI0 fun i j=>.int (i+j)):=opI0 fun _ _ _ _ _ _ _ q=>add_int q
theorem op_sub:OpR X (binaryOp .Sub) (rI0 fun i j=>.int (i - j)):=opI0 fun _ _ _ _ _ _ _ q=>sub_int q
theorem op_mul:OpR X (binaryOp .Mult) (rI CMul fun i j=>.int (i*j)):=opI fun _ _ _ _ _ _ _ hc q=>mul_int q hc.ok
theorem op_mod:OpR X (binaryOp .Mod) (rI (fun _ j=>0<j) fun i j=>.int (i%j)):=opI fun i j _ _ _ _ _ hc q=>by
 have h1:(0:Int)<j:=hc
 exact mod_int' (by omega) (by rw [Int.fmod_eq_emod_of_nonneg i (by omega)];exact q)
theorem op_pow:OpR X (binaryOp .Pow) (rI CPow fun i j=>.int (i^j.toNat)):=opI fun _ _ _ _ _ _ _ hc q=>pow_int_small hc.1 hc.2.1 hc.2.2 q
theorem unI {f:Value→Sem Value}{g:Int→Int}
  (rule:∀ (i:Int) (t:Tok) (s:Shared) (Q:VP) (E:VP),Q (.int (g i) s.toks) { s with toks:=s.toks+1 }→wpAny (model X.prog X.w) X.A (f (.int i t)) Q E s) :
  UnR X f (rU fun i=>.int (g i)):=by
 intro pins s σ H x v Q I rx h
 obtain ⟨i,rfl,q⟩:=h
 obtain ⟨t,rfl⟩:=rx
 exact rule i t s _ _ ⟨.int (g i),H,I.tok _,⟨_,rfl⟩,q⟩
theorem un_neg:UnR X (unaryOp .USub) (rU fun i=>.int (-i)):=unI fun _ _ _ _ _ q=>neg_int q
theorem v2d {pins:LO}{σ:St}{H:Hp}{s:Shared}{Q:VK}{k k':Bool} (I:Inv X pins σ H s) (q:Q (.bl k) H) (e:k=k'):EP X pins σ Q (.bool k') s:=by
 subst e
 exact ⟨.bl k,H,I,rfl,q⟩
theorem op_lt:OpR X (compareOp .Lt) (rI0 fun i j=>.bl (decide (i<j))):=opB0 fun _ _ _ _ _ _ _ q=>lt_int q
theorem op_le:OpR X (compareOp .LtE) (rI0 fun i j=>.bl (decide (i≤j))):=opB0 fun _ _ _ _ _ _ _ q=>le_int q
theorem op_gt:OpR X (compareOp .Gt) (rI0 fun i j=>.bl (decide (j<i))):=opB0 fun _ _ _ _ _ _ _ q=>gt_int q
theorem op_ge:OpR X (compareOp .GtE) (rI0 fun i j=>.bl (decide (j≤i))):=opB0 fun _ _ _ _ _ _ _ q=>ge_int q
theorem v1o:OpR X (compareOp .In) (fun x y H Q=>∃ i j,x=.str i∧y=.str j∧Q (.bl (!(Builtin.Str.occurrences j i 0 j.length 1).isEmpty)) H):=by
 intro pins s σ H x y v u Q I rx ry h
 obtain ⟨i,j,rfl,rfl,q⟩:=h
 obtain ⟨t,rfl⟩:=rx
 obtain ⟨t',rfl⟩:=ry
 exact in_str (v2d I q rfl)
theorem op_isN:OpR X (compareOp .Is) (fun x y H Q=>y=.non∧Q (.bl (decide (x=.non))) H):=by
 intro pins s σ H x y v u Q I rx ry h
 obtain ⟨rfl,q⟩:=h
 cases ry
 refine is_none_gen (v2d I q ?_)
 cases x <;> first
  | (cases rx;rfl)
  | (obtain ⟨t,rfl⟩:=rx;rfl)
theorem op_notN:OpR X (compareOp .IsNot) (fun x y H Q=>y=.non∧Q (.bl (!decide (x=.non))) H):=by
 intro pins s σ H x y v u Q I rx ry h
 obtain ⟨rfl,q⟩:=h
 cases ry
 refine isnot_none_gen (v2d I q ?_)
 cases x <;> first
  | (cases rx;rfl)
  | (obtain ⟨t,rfl⟩:=rx;rfl)
theorem nomark (b:Expr) {op:CmpOp} (h:op≠.In:=by decide) (h2:op≠.NotIn:=by decide):behindInMarks op b=false:=by
 have e1:(op==CmpOp.In)=false:=by cases op <;> first | rfl | exact absurd rfl h
 have e2:(op==CmpOp.NotIn)=false:=by cases op <;> first | rfl | exact absurd rfl h2
 cases b <;> simp [behindInMarks,e1,e2]
theorem pe_cmpR {op:CmpOp}{r:R2} (ho:OpR X (compareOp op) r) (ha:PE X a ta) (hb:PE X b tb) (hm:behindInMarks op b=false):PE X (.Compare a [op] [b] pos) (tOp r ta tb):=by
 intro pins s σ H Q I h
 exact wpAny_Compare1 (binT ha hb I h fun v u s2 x y H2 I2 rx ry q=>ho pins s2 σ H2 x y v u Q I2 rx ry q) hm
def tTest (t:TE):TT:=fun σ H Q=>t σ H fun x H'=>∃ k,x=.bl k∧Q k H'
theorem pt_cmpR {op:CmpOp}{r:R2} (ho:OpR X (compareOp op) r) (ha:PE X a ta) (hb:PE X b tb) (hm:behindInMarks op b=false):PT X (.Compare a [op] [b] pos) (tTest (tOp r ta tb)):=by
 intro pins s σ H Q I h
 refine wpAny_isTrue_Compare1 (thn (ha pins s σ H _ I h) fun v s1 ⟨x,H1,I1,r1,q1⟩=>thn (hb pins s1 σ H1 _ I1 q1) fun u s2 ⟨y,H2,I2,r2,q2⟩ =>
  thn (ho pins s2 σ H2 x y v u _ I2 r1 r2 q2) fun c s3 ⟨z,H3,I3,r3,k,e,q3⟩=>?_) hm
 subst e
 cases r3
 exact wpAny_truthy_bool ⟨H3,I3,q3⟩
def tChain (r r':R2) (ta tb tc:TE):TE:=fun σ H Q=>ta σ H fun x H1=>tb σ H1 fun y H2=>r x y H2 fun z H3=>∃ k,z=.bl k ∧
 (if k=true then tc σ H3 fun w' H4=>r' y w' H4 Q else Q (.bl false) H3)
theorem v3k {op op':CmpOp}{r r':R2} (ho:OpR X (compareOp op) r) (ho':OpR X (compareOp op') r') (ha:PE X a ta) (hb:PE X b tb) (hc:PE X c tc)
  (hm:lastMarks [op,op'] [b,c]=false:=by with_unfolding_all rfl):PE X (.Compare a [op,op'] [b,c] pos) (tChain r r' ta tb tc):=by
 intro pins s σ H Q I h
 refine Compare_chain (thn (ha pins s σ H _ I h) fun v s1 ⟨x,H1,I1,r1,q1⟩=>chain_link (thn (hb pins s1 σ H1 _ I1 q1) fun u s2 ⟨y,H2,I2,r2,q2⟩ =>
  thn (ho pins s2 σ H2 x y v u _ I2 r1 r2 q2) fun d s3 ⟨z,H3,I3,r3,k,e,q3⟩=>?_)) hm
 subst e
 cases r3
 refine wpAny_truthy_bool ?_
 cases k with
 | false=>exact ite_ff ⟨.bl false,H3,I3,rfl,q3⟩
 | true=>exact ite_tt (chain_last (thn (hc pins s3 σ H3 _ I3 q3) fun w' s4 ⟨z',H4,I4,r4,q4⟩=>ho' pins s4 σ H4 y z' u w' Q I4 r2 r4 q4))
theorem v3b {op op':CmpOp}{r r':R2} (ho:OpR X (compareOp op) r) (ho':OpR X (compareOp op') r') (ha:PE X a ta) (hb:PE X b tb) (hc:PE X c tc)
  (hm:lastMarks [op,op'] [b,c]=false:=by with_unfolding_all rfl):PT X (.Compare a [op,op'] [b,c] pos) (tTest (tChain r r' ta tb tc)):=by
 intro pins s σ H Q I h
 refine isTrue_chain (thn (ha pins s σ H _ I h) fun v s1 ⟨x,H1,I1,r1,q1⟩=>test_link (thn (hb pins s1 σ H1 _ I1 q1) fun u s2 ⟨y,H2,I2,r2,q2⟩ =>
  thn (ho pins s2 σ H2 x y v u _ I2 r1 r2 q2) fun d s3 ⟨z,H3,I3,r3,k,e,q3⟩=>?_)) hm
 subst e
 cases r3
 refine wpAny_truthy_bool ?_
 cases k with
 | false =>
  obtain ⟨k',e',q'⟩:=q3
  cases e'
  exact ite_ff ⟨H3,I3,q'⟩
 | true =>
  refine ite_tt (test_last (thn (hc pins s3 σ H3 _ I3 q3) fun w' s4 ⟨z',H4,I4,r4,q4⟩=>thn (ho' pins s4 σ H4 y z' u w' _ I4 r2 r4 q4) fun d' s5 ⟨z2,H5,I5,r5,k2,e2,q5⟩=>?_))
  subst e2
  cases r5
  exact wpAny_truthy_bool ⟨H5,I5,q5⟩
def TruV (K:W.Frag) (x:V) (H:Hp) (k:Bool):Prop :=
 match x with
 | .non=>k=false
 | .bl b=>k=b
 | .int i=>k=(i != 0)
 | .str y=>y.length≤sizeLine∧k=((y.length:Int) != 0)
 | .byt y=>y.size≤sizeLine∧k=((y.size:Int) != 0)
 | .ref p=>(∃ xs,SqL K H p xs∧k=!xs.isEmpty)∨(∃ xs,SqT K H p xs∧k=!xs.isEmpty)∨∃ kvs,H p=some (.dK kvs)∧k=!kvs.isEmpty
 | _=>False
theorem v0A {κ:Type}{kvs:List (κ×V)}{vs:List (κ×Value)} (r:KV kvs vs):(!vs.isEmpty)=!kvs.isEmpty:=by
 cases r <;> rfl
theorem u5E {xs:List V}{its:List Value} (r:Vals xs its):(!its.toArray.isEmpty)=!xs.isEmpty:=by
 cases r <;> simp
theorem line63:(sizeLine:Nat)<2^63:=by rw [sizeLine_eq];decide
theorem tru_ok:TruR X (fun x H Q=>∃ k,TruV X.K x H k∧Q k H):=by
 intro pins s σ H x v Q I rx h
 obtain ⟨k,e,q⟩:=h
 have hl:=line63
 have hs:sizeLine=16777216:=sizeLine_eq
 cases x with
 | non =>
  cases rx
  have e':k=false:=e
  subst e'
  exact truthy_none ⟨H,I,q⟩
 | bl b =>
  cases rx
  have e':k=b:=e
  subst e'
  exact wpAny_truthy_bool ⟨H,I,q⟩
 | int i =>
  obtain ⟨t,rfl⟩:=rx
  have e':k=(i != 0):=e
  subst e'
  exact PySem.P.truthy_int ⟨H,I,q⟩
 | str y =>
  obtain ⟨t,rfl⟩:=rx
  obtain ⟨hy,e'⟩:y.length≤sizeLine∧k=((y.length:Int) != 0):=e
  subst e'
  exact PySem.P.truthy_str (by omega) ⟨H,I.tok _,q⟩
 | byt y =>
  obtain ⟨t,rfl⟩:=rx
  obtain ⟨hy,e'⟩:y.size≤sizeLine∧k=((y.size:Int) != 0):=e
  subst e'
  exact W.truthy_bytes (by omega) ⟨H,I.tok _,q⟩
 | ref p =>
  cases rx
  have e':(∃ xs,SqL X.K H p xs∧k=!xs.isEmpty)∨(∃ xs,SqT X.K H p xs∧k=!xs.isEmpty)∨∃ kvs,H p=some (.dK kvs)∧k=!kvs.isEmpty:=e
  rcases e' with ⟨xs,hx,e'⟩ | ⟨xs,hx,e'⟩ | ⟨kvs,hx,e'⟩
  ·subst e'
   obtain ⟨its,r,pl,hz⟩:=I.list hx
   have hlen:=r.length
   exact wpAny_truthy_list pl.isList (by simp only [List.size_toArray];omega) ⟨H,I.tok _,by rw [u5E r];exact q⟩
  ·subst e'
   obtain ⟨its,r,pl,hz⟩:=I.tuple hx
   have hlen:=r.length
   exact truthy_tuple pl (by simp only [List.size_toArray];omega) ⟨H,I.tok _,by rw [u5E r];exact q⟩
  ·subst e'
   obtain ⟨hz,hS,vs,r,m⟩:kvs.length≤sizeLine∧(p==sysModules)=false∧∃ vs,KV kvs vs∧s.heap.DictOf (mixKind X.prog X.w) p vs:=I.hok p _ hx
   have hlen:kvs.length=vs.length:=Paired.length r
   exact wpAny_truthy_dict hS m (by omega) ⟨H,I.tok _,by rw [v0A r];exact q⟩
 | _=>exact (show False from e).elim
theorem v0u:OpR X (binaryOp .Add) (fun x y H Q=>∃ i j,x=.str i∧y=.str j∧i.length+j.length≤sizeLine∧Q (.str (i++j)) H):=by
 intro pins s σ H x y v u Q I rx ry h
 obtain ⟨i,j,rfl,rfl,hz,q⟩:=h
 obtain ⟨t,rfl⟩:=rx
 obtain ⟨t',rfl⟩:=ry
 exact add_str (fun t' tk=>⟨.str (i++j),H,I.tok _,⟨_,rfl⟩,q⟩) hz
theorem vals1 {x:V}{us:List Value} (r:Vals [x] us):∃ u,us=[u]∧RelV x u:=by
 cases r with
 | cons r1 r2=>cases r2;exact ⟨_,rfl,r1⟩
theorem vals2 {x y:V}{us:List Value} (r:Vals [x,y] us):∃ u w',us=[u,w']∧RelV x u∧RelV y w':=by
 cases r with
 | cons r1 r2 =>
  cases r2 with
  | cons r3 r4=>cases r4;exact ⟨_,_,rfl,r1,r3⟩
theorem v2z (hc:X.calm=true):CallR X (.builtin "max") (fun xs H Q=>∃ i j,xs=[.int i,.int j]∧Q (.int (if j > i then j else i)) H):=by
 intro pins s σ H xs us Q I r h
 obtain ⟨i,j,rfl,q⟩:=h
 obtain ⟨u,w',rfl,⟨t,rfl⟩,⟨t',rfl⟩⟩:=vals2 r
 refine max_two_ints (I.ok.hd hc) fun h' tk k=>⟨_,H,I.kept k,?_,q⟩
 by_cases hj:j > i
 ·rw [if_pos hj,if_pos hj];exact ⟨_,rfl⟩
 ·rw [if_neg hj,if_neg hj];exact ⟨_,rfl⟩
theorem v2y (hc:X.calm=true):CallR X (.builtin "min") (fun xs H Q=>∃ i j,xs=[.int i,.int j]∧Q (.int (if j<i then j else i)) H):=by
 intro pins s σ H xs us Q I r h
 obtain ⟨i,j,rfl,q⟩:=h
 obtain ⟨u,w',rfl,⟨t,rfl⟩,⟨t',rfl⟩⟩:=vals2 r
 refine min_two_ints (I.ok.hd hc) fun h' tk k=>⟨_,H,I.kept k,?_,q⟩
 by_cases hj:j<i
 ·rw [if_pos hj,if_pos hj];exact ⟨_,rfl⟩
 ·rw [if_neg hj,if_neg hj];exact ⟨_,rfl⟩
theorem u7L:CallR X (.type "int") (fun xs H Q=>(∃ i,xs=[.int i]∧Q (.int i) H)∨∃ k,xs=[.bl k]∧Q (.int (if k then 1 else 0)) H):=by
 intro pins s σ H xs us Q I r h
 rcases h with ⟨i,rfl,q⟩ | ⟨k,rfl,q⟩
 ·obtain ⟨u,rfl,t,rfl⟩:=vals1 r
  exact call_int_int ⟨.int i,H,I,⟨_,rfl⟩,q⟩
 ·obtain ⟨u,rfl,r1⟩:=vals1 r
  cases r1
  exact call_int_bool ⟨.int (if k then 1 else 0),H,I.tok _,⟨_,rfl⟩,q⟩
def LenV (K:W.Frag) (x:V) (H:Hp) (n:Nat):Prop :=
 match x with
 | .str y=>y.length≤sizeLine∧n=y.length
 | .byt y=>y.size≤sizeLine∧n=y.size
 | .ref p=>(∃ xs,SqL K H p xs∧n=xs.length)∨∃ xs,SqT K H p xs∧n=xs.length
 | _=>False
theorem u6A:CallR X (.builtin "len") (fun xs H Q=>∃ x n,xs=[x]∧LenV X.K x H n∧Q (.int n) H):=by
 intro pins s σ H xs us Q I r h
 obtain ⟨x,n,rfl,e,q⟩:=h
 obtain ⟨u,rfl,rx⟩:=vals1 r
 have hl:=line63
 have hs:sizeLine=16777216:=sizeLine_eq
 cases x with
 | str y =>
  obtain ⟨t,rfl⟩:=rx
  obtain ⟨hy,e'⟩:y.length≤sizeLine∧n=y.length:=e
  subst e'
  exact len_str (by omega) ⟨.int _,H,I.tok _,⟨_,rfl⟩,q⟩
 | byt y =>
  obtain ⟨t,rfl⟩:=rx
  obtain ⟨hy,e'⟩:y.size≤sizeLine∧n=y.size:=e
  subst e'
  exact W.len_bytes (by omega) ⟨.int _,H,I.tok _,⟨_,rfl⟩,q⟩
 | ref p =>
  cases rx
  have e':(∃ xs,SqL X.K H p xs∧n=xs.length)∨∃ xs,SqT X.K H p xs∧n=xs.length:=e
  rcases e' with ⟨xs,hx,e'⟩ | ⟨xs,hx,e'⟩
  ·subst e'
   obtain ⟨its,r',pl,hz⟩:=I.list hx
   have hlen:=r'.length
   exact Calls.call_len_list pl.isList (by simp only [List.size_toArray];omega) ⟨.int xs.length,H,I.tok _,⟨_,by simp only [List.size_toArray];rw [hlen]⟩,q⟩
  ·subst e'
   obtain ⟨its,r',pl,hz⟩:=I.tuple hx
   have hlen:=r'.length
   exact len_tuple pl (by simp only [List.size_toArray];omega) ⟨.int xs.length,H,I.tok _,⟨_,by simp only [List.size_toArray];rw [hlen]⟩,q⟩
 | _=>exact (show False from e).elim
end
structure ObjM (h:Heap) (x dx C:Addr) (mA:MG):Prop where
 obj:h.get? x=some (W.instObj C dx)
 ns:h.Ns1 dx mA
 ne:dx≠x
set_option tactic.hygienic true in
theorem u7n {h:Heap}{dx:Addr}{mA:MG} (n:h.Ns1 dx mA):∃ od,h.get? dx=some od∧∀ name,W.lookIn name od=some (mA name):=by
 obtain ⟨o,es,ep,ho,hd,hk,_,hm⟩:=n
 refine ⟨o,ho,fun name=>?_⟩
 have e:=hm name
 unfold nsFind findBy at e
 rw [← Array.find?_toList] at e
 unfold W.lookIn
 rw [hd]
 dsimp only
 split
 ·rename_i y q
  rw [q] at e
  exact congrArg some e
 ·rename_i q
  rw [q] at e
  have a:es.toList.any (·.refKey)=false:=by
   rw [List.any_eq_false]
   intro y hy
   obtain ⟨z,t,hkey⟩:=hk y (Array.mem_toList_iff.mp hy)
   simp [DictEntry.refKey,hkey]
  have a':¬ es.toList.any (·.refKey)=true:=by rw [a];exact Bool.false_ne_true
  rw [if_neg a']
  exact congrArg some e
theorem ObjM.look {h:Heap}{x dx C:Addr}{mA:MG} (I:ObjM h x dx C mA):∃ od,W.InstAt h x (W.instObj C dx) C (some od)∧∀ name,W.lookIn name od=some (mA name) :=
 let ⟨od,ho,hl⟩:=u7n I.ns
 ⟨od,⟨I.obj,rfl,rfl,ho⟩,hl⟩
section
variable {prog:Program}{w:World}{A:Around}{E:VP}{s:Shared}{K:W.Frag}{x dx C f:Addr}{mA:MG}{name:Str}{v:Value}
theorem get_map {expr:Bool}{Q:VP} (X:K.In s.heap) (I:ObjM s.heap x dx C mA) (hg:W.plainGet K C name=true) (hh:W.hasDictIn K C=true)
  (ha:W.findIn K (.ref C) name=some none) (hv:mA name=some v) (hv':W.handedIn v=true) (h:Q v { s with toks:=s.toks+1 }) :
  wpAny (model prog w) A (getAttr (.ref x) name expr) Q E s:=by
 obtain ⟨od,J,hl⟩:=I.look
 exact W.get_value X J (W.plainGet_of hg).1 (W.findObj_own hh ha rfl (by rw [hl,hv])) hv' h
theorem v3L {pl:Sem Bool}{Q:Value×List Value→Shared→Prop} (X:K.In s.heap) (I:ObjM s.heap x dx C mA) (hg:W.plainGet K C name=true)
  (hf:W.findIn K (.ref C) name=some (some (.ref f))) (ht:W.isFn K (.ref f)=true) (hv:mA name=none) (h:Q (.ref f,[.ref x]) s) :
  wpAny (model prog w) A (getMethod (.ref x) name pl) Q E s:=by
 obtain ⟨od,J,hl⟩:=I.look
 exact W.method_fn X J (W.plainGet_of hg).1 (W.plainGet_of hg).2 hf (beq_iff_eq.mp ht) (by show (W.lookIn name od).map (·.isSome)=some false;rw [hl,hv];rfl) h
theorem set_map {ns:List Str}{Q:Unit→Shared→Prop} (X:K.In s.heap) (I:ObjM s.heap x dx C mA)
  (hs:W.findIn K (.ref C) "__setattr__"=some (some (.builtin "object.__setattr__"))) (hp:W.plainOver K C=true) (ht:W.takerIn K C name=some none) (hh:W.hasDictIn K C=true)
  (hw:PySem.Within mA ns) (hsz:ns.length≤sizeLine)
  (h:∀ h',ObjM h' x dx C (fun y=>if y=name then some v else mA y)→Heap.SameBut dx s.heap h'→Q () { s with heap:=h',toks:=s.toks+2 }) :
  wpAny (model prog w) A (setAttr (.ref x) name v) Q E s:=by
 obtain ⟨od,J,hl⟩:=I.look
 refine W.set_plain X J hs (W.osa_open (s:={ s with toks:=s.toks+1 }) (r:=none) X J hp ht fun b=>?_)
 obtain ⟨cd,hc,hd'⟩:=W.any_some hh
 have hx:s.heap.get? x=some ⟨.ref C,some dx,.plain,#[]⟩:=I.obj
 refine wpAny_bind (wpAny_pure (wpAny_bind (wpAny_bind (wpAny_loadPart hx (wpAny_bind (W.Looks.here (s:={ s with toks:=s.toks+1 }) (W.looks_clsIn X hc) ?_))))))
 rw [hd']
 refine wpAny_pure (a:=some dx) (wpAny_bind (wpAny_pure (wpAny_bind ?_)))
 refine wpAny_nsSet1 (s:={ s with toks:=s.toks+1 }) I.ns fun h' hn2 hs2=>?_
 obtain ⟨oD,esD,epD,hoD,hdD,hcD⟩:=hn2.count (PySem.Within.cons name v hw)
 refine wpAny_bind (wpAny_lookBehind hoD (by rw [hdD];exact pastItsLine_dict (Nat.le_trans hcD (by rw [List.length_cons];omega))) ?_)
 exact wpAny_pure (h _ ⟨(hs2.2 _ (Ne.symm I.ne)).trans I.obj,hn2,I.ne⟩ hs2)
theorem v3x {R:Result→Shared→Prop}{vs:List Value}{kw:List (Str×Value)} (X:K.In s.heap) (hm:W.makesIn K C=true)
  (hi:W.findIn K (.ref C) "__init__"=some (some (.ref f))) (hf:W.typeIn K (.ref f)=some (.type "function"))
  (h:codeAny (model prog w) (A.under (.builtin "type.__call__" ⟨.ref C::vs,kw⟩)) (.call (.ref f) ⟨.ref (s.heap.objs.size+1)::vs,kw⟩) (W.InitBack (s.heap.objs.size+1) R)
   { s with heap:=(s.heap.push W.emptyDict).push (W.instObj C s.heap.objs.size) }) :
  codeAny (model prog w) A (.call (.ref C) ⟨vs,kw⟩) R s:=by
 obtain ⟨hh,g,d,t,os⟩:=s
 exact W.make_core (W.makes_of X hm) (W.looks_findIn X hi) (fun self=>W.bind_fn X self hf) (.inl rfl) h
end
noncomputable def putF (f:Str) (v:V):List (Str×V)→List (Str×V)
 | []=>[(f,v)]
 | (g,x)::r=>if g=f then (g,v)::r else (g,x)::putF f v r
theorem u4O (f g:Str) (v:V):∀ fs:List (Str×V),(putF f v fs).lookup g=if g=f then some v else fs.lookup g
 | []=>by
  show List.lookup g [(f,v)]=_
  by_cases h:g=f
  ·have hb:(g==f)=true:=beq_iff_eq.mpr h
   simp only [List.lookup,hb,if_pos h]
  ·have hb:(g==f)=false:=beq_eq_false_iff_ne.mpr h
   simp only [List.lookup,hb,if_neg h]
 | (k,x)::r=>by
  have ih:=u4O f g v r
  rw [show putF f v ((k,x)::r)=(if k=f then (k,v)::r else (k,x)::putF f v r) from rfl]
  by_cases hk:k=f
  ·rw [if_pos hk]
   by_cases h:g=k
   ·have hb:(g==k)=true:=beq_iff_eq.mpr h
    simp only [List.lookup,hb,if_pos (h.trans hk)]
   ·have hb:(g==k)=false:=beq_eq_false_iff_ne.mpr h
    simp only [List.lookup,hb,if_neg (fun e:g=f=>h (e.trans hk.symm))]
  ·rw [if_neg hk]
   by_cases h:g=k
   ·have hb:(g==k)=true:=beq_iff_eq.mpr h
    simp only [List.lookup,hb,if_neg (fun e:g=f=>hk (h.symm.trans e))]
   ·have hb:(g==k)=false:=beq_eq_false_iff_ne.mpr h
    simp only [List.lookup,hb]
    exact ih
theorem u4R (f:Str) (v:V):∀ fs:List (Str×V),f∈(putF f v fs).map (·.1)∧∀ g,g∈fs.map (·.1)→g∈(putF f v fs).map (·.1)
 | []=>⟨by simp [putF],fun g h=>by simp at h⟩
 | (k,x)::r=>by
  obtain ⟨i1,i2⟩:=u4R f v r
  rw [show putF f v ((k,x)::r)=(if k=f then (k,v)::r else (k,x)::putF f v r) from rfl]
  by_cases hk:k=f
  ·rw [if_pos hk]
   subst hk
   exact ⟨by simp,fun g h=>by simpa using h⟩
  ·rw [if_neg hk]
   refine ⟨?_,fun g h=>?_⟩
   ·rw [List.map_cons]
    exact List.mem_cons_of_mem _ i1
   ·rw [List.map_cons] at h ⊢
    rcases List.mem_cons.mp h with e | e
    ·exact List.mem_cons.mpr (.inl e)
    ·exact List.mem_cons_of_mem _ (i2 g e)
theorem u4Q (f:Str) (v:V):∀ fs:List (Str×V),(putF f v fs).length≤fs.length+1
 | []=>by simp [putF]
 | (k,x)::r=>by
  have ih:=u4Q f v r
  rw [show putF f v ((k,x)::r)=(if k=f then (k,v)::r else (k,x)::putF f v r) from rfl]
  by_cases hk:k=f
  ·rw [if_pos hk,List.length_cons,List.length_cons];omega
  ·rw [if_neg hk,List.length_cons,List.length_cons];omega
theorem RelO.some_of {v:V}{o:Option Value} (r:RelO (some v) o):∃ u,o=some u∧RelV v u:=by
 cases o with
 | none=>exact (show False from r).elim
 | some u=>exact ⟨u,rfl,r⟩
theorem RelO.none_of {o:Option Value} (r:RelO none o):o=none:=by
 cases o with
 | none=>rfl
 | some u=>exact (show False from r).elim
theorem u7w {v:V}{u:Value} (r:RelV v u):W.handedIn u=true:=by
 cases v with
 | non=>cases (show u=Value.none from r);rfl
 | bl b=>cases (show u=Value.bool b from r);rfl
 | int i=>obtain ⟨t,e⟩:=(show ∃ t,u=Value.int i t from r);cases e;rfl
 | str x=>obtain ⟨t,e⟩:=(show ∃ t,u=Value.str x t from r);cases e;rfl
 | byt b=>obtain ⟨t,e⟩:=(show ∃ t,u=Value.bytes b t from r);cases e;rfl
 | flt b=>obtain ⟨t,e⟩:=(show ∃ t,u=Value.float b t from r);cases e;rfl
 | ref a=>cases (show u=Value.ref a from r);rfl
 | ty n=>cases (show u=Value.type n from r);rfl
section
variable {P:Program}{w:World}{H H':Hp}{h h':Heap}{a C dx:Addr}{fs fs':List (Str×V)}
theorem u6h (hok:HOk P w H h) (e:H a=some (.ins C dx fs)):∃ mA,ObjM h a dx C mA∧(∀ f,RelO (fs.lookup f) (mA f))∧PySem.Within mA (fs.map (·.1))∧fs.length≤1000∧H dx=some (.own a):=by
 obtain ⟨d,z,ne,ob,mA,n,r,q⟩:=(show ObjOk P w H h a (.ins C dx fs) from hok a _ e)
 exact ⟨mA,⟨ob,n,ne⟩,r,q,z,d⟩
end
structure Cls (K:W.Frag) (C:Addr):Prop where
 pg:W.plainGet K C Str.empty=true
 hd:W.hasDictIn K C=true
 po:W.plainOver K C=true
 sa:W.findIn K (.ref C) "__setattr__"=some (some (.builtin "object.__setattr__"))
theorem Cls.get {K:W.Frag}{C:Addr} (c:Cls K C) (f:Str):W.plainGet K C f=true:=c.pg
def NoAttr (K:W.Frag) (C:Addr) (f:Str):Prop:=W.findIn K (.ref C) f=some none
theorem NoAttr.taker {K:W.Frag}{C:Addr}{f:Str} (n:NoAttr K C f):W.takerIn K C f=some none:=by
 unfold W.takerIn
 rw [show W.findIn K (.ref C) f=some none from n]
 rfl
structure Meth (K:W.Frag) (C:Addr) (m:Str) (f:Addr):Prop where
 at_:W.findIn K (.ref C) m=some (some (.ref f))
 fn:W.isFn K (.ref f)=true
 kp:W.keepIn K (.ref f)=true
section
variable {X:Cx}{pins:LO}{σ:St}{H:Hp}{s:Shared}{a C dx:Addr}{fs:List (Str×V)}{f:Str}{v:V}{A:Around}{E:VP}
theorem v0C {b:Bool}{Q:VP} (I:Inv X pins σ H s) (e:H a=some (.ins C dx fs)) (c:Cls X.K C) (n:NoAttr X.K C f) (l:fs.lookup f=some v)
  (h:∀ u s',Inv X pins σ H s'→RelV v u→Q u s'):wpAny (model X.prog X.w) A (getAttr (.ref a) f b) Q E s:=by
 obtain ⟨mA,O,r,_,_,_⟩:=u6h I.hok e
 obtain ⟨u,hu,ru⟩:=RelO.some_of (v:=v) (o:=mA f) (by rw [← l];exact r f)
 exact get_map I.kIn O (c.get f) c.hd n hu (u7w ru) (h u _ (I.tok _) ru)
theorem u2B {m:Str}{g:Addr}{pl:Sem Bool}{Q:Value×List Value→Shared→Prop} (I:Inv X pins σ H s) (e:H a=some (.ins C dx fs)) (c:Cls X.K C) (k:Meth X.K C m g) (l:fs.lookup m=none)
  (h:Q (.ref g,[.ref a]) s):wpAny (model X.prog X.w) A (getMethod (.ref a) m pl) Q E s:=by
 obtain ⟨mA,O,r,_,_,_⟩:=u6h I.hok e
 have hn:mA m=none:=RelO.none_of (by rw [← l];exact r m)
 exact v3L I.kIn O (c.get m) k.at_ k.fn hn h
theorem u9P {y:V}{u:Value}{Q:Unit→Shared→Prop} (I:Inv X pins σ H s) (e:H a=some (.ins C dx fs)) (c:Cls X.K C) (n:NoAttr X.K C f) (hl:fs.length<1000) (ry:RelV y u)
  (h:∀ s',Inv X pins σ (upd H a (.ins C dx (putF f y fs))) s'→Q () s'):wpAny (model X.prog X.w) A (setAttr (.ref a) f u) Q E s:=by
 obtain ⟨mA,O,r,wi,_,ho⟩:=u6h I.hok e
 have hz:(fs.map (·.1)).length≤sizeLine:=by rw [List.length_map,sizeLine_eq];omega
 refine set_map I.kIn O c.sa c.po n.taker c.hd wi hz fun h' O' sb=>h _ ?_
 have hd:∃ o,h'.get? dx=some o:=let ⟨o,_,_,e',_⟩:=O'.ns;⟨o,e'⟩
 refine I.write (x:=a) (e:=dx) (by rw [e];exact True.intro) (.inr ho) (fun b q hb z=>(sb.2 b hb).trans z) hd ?_
 refine ⟨by rw [u0l O.ne];exact ho,?_,O.ne,O'.obj,_,O'.ns,fun g=>?_,fun g hg=>?_⟩
 ·have:=u4Q f y fs;omega
 ·show RelO ((putF f y fs).lookup g) (if g=f then some u else mA g)
  rw [u4O]
  by_cases q:g=f
  ·rw [if_pos q,if_pos q];exact ry
  ·rw [if_neg q,if_neg q];exact r g
 ·by_cases q:g=f
  ·rw [q];exact (u4R f y fs).1
  ·refine (u4R f y fs).2 g (wi g fun z=>hg ?_)
   show (if g=f then some u else mA g)=none
   rw [if_neg q];exact z
theorem Inv.made (I:Inv X pins σ H s):Inv X pins σ (upd (upd H s.heap.objs.size (.own (s.heap.objs.size+1))) (s.heap.objs.size+1) (.ins C s.heap.objs.size []))
  { s with heap:=(s.heap.push W.emptyDict).push (W.instObj C s.heap.objs.size) }:=by
 have e1:(s.heap.push W.emptyDict).get? s.heap.objs.size=some W.emptyDict:=Heap.get?_push_size s.heap rfl
 have e2:((s.heap.push W.emptyDict).push (W.instObj C s.heap.objs.size)).get? (s.heap.objs.size+1)=some (W.instObj C s.heap.objs.size):=by
  have:=Heap.get?_push_size (s.heap.push W.emptyDict) (o:=W.instObj C s.heap.objs.size) rfl
  rwa [Heap.size_push] at this
 have e3:(s.heap.push W.emptyDict).Ns s.heap.objs.size (fun _=>none):=⟨W.emptyDict,#[],_,e1,rfl,(fun e he=>absurd he (by simp)),fun _=>rfl⟩
 have I1:=I.laid (a:=s.heap.objs.size) (o:=.own (s.heap.objs.size+1)) (h':=s.heap.push W.emptyDict) (t':=s.toks) (fun b u q=>Heap.get?_push_of_some _ q) (Nat.le_refl _) ⟨_,e1⟩
 refine I1.laid (a:=s.heap.objs.size+1) (o:=.ins C s.heap.objs.size []) (t':=s.toks) (fun b u q=>Heap.get?_push_of_some _ q) (Nat.le_of_eq (Heap.size_push _ _)) ?_
 have ne:s.heap.objs.size≠s.heap.objs.size+1:=Nat.ne_of_lt (Nat.lt_succ_self _)
 refine ⟨by rw [u0l ne,u0g],Nat.zero_le _,ne,e2,fun _=>none,(Heap.Ns1.of_empty e3).at fun o q=>Heap.get?_push_of_some _ q,fun _=>True.intro,fun y hy=>absurd rfl hy⟩
theorem v2C {prog:Program}{w:World}{env:Env}{e:Expr}{f:Str}{pos:Pos}{s:Shared}{Q:VP} (hb:attributeBase e f env (eval e env)=eval e env)
  (h:wpAny (model prog w) A (eval e env) (fun o s₁=>wpAny (model prog w) A (getAttr o f true) Q E s₁) E s):wpAny (model prog w) A (eval (.Attribute e f pos) env) Q E s :=
 Attribute_any_ h (by rw [arm_eval_Attribute,hb])
end
def tFld (K:W.Frag) (ta:TE) (f:Str):TE:=fun σ H Q=>ta σ H fun x H1=>∃ a C dx fs v,x=.ref a∧H1 a=some (.ins C dx fs)∧Cls K C∧NoAttr K C f∧fs.lookup f=some v∧Q v H1
def sFld (K:W.Frag) (ta tv:TE) (f:Str):TS:=fun D σ H=>tv σ H fun y H1=>ta σ H1 fun x H2=>∃ a C dx fs,x=.ref a∧H2 a=some (.ins C dx fs)∧Cls K C∧NoAttr K C f∧fs.length<1000 ∧
 D.nx σ (upd H2 a (.ins C dx (putF f y fs)))
section
variable {X:Cx}{o e value:Expr}{f:Str}{pos pos' tpos:Pos}{ta tv:TE}
theorem v4h (he:PE X e ta) (hb:attributeBase e f X.env (eval e X.env)=eval e X.env):PE X (.Attribute e f pos) (tFld X.K ta f):=by
 intro pins s σ H Q I h
 refine v2C hb (thn (he pins s σ H _ I h) fun u s1 ⟨x,H1,I1,rx,a,C,dx,fs,v,ex,ea,c,n,l,q⟩=>?_)
 subst ex
 obtain rfl:u=Value.ref a:=rx
 exact v0C I1 ea c n l fun u' s2 I2 ru=>⟨v,H1,I2,ru,q⟩
theorem ps_fld (ha:PE X o ta) (hv:PE X value tv) (hs:swapsWith value (some (.Attribute o f pos')) pos.line X.env=pure false):PS X (.Assign [.Attribute o f pos'] value pos) (sFld X.K ta tv f):=by
 intro pins s σ H D I h
 refine plainObj_wpAny_Assign_Attribute (thn (hv pins s σ H _ I h) fun u s1 ⟨y,H1,I1,ry,q⟩=>thn (ha pins s1 σ H1 _ I1 q) fun ov s2 ⟨x,H2,I2,rx,a,C,dx,fs,ex,ea,c,n,l,q2⟩=>?_) hs
 subst ex
 obtain rfl:ov=Value.ref a:=rx
 exact u9P I2 ea c n l ry fun s3 I3=>⟨σ,_,I3,q2⟩
end
section
variable {X:Cx}{pins:LO}{σ:St}{H:Hp}{s:Shared}{A:Around}{E:VP}{Q:VP}{c:Value}{b:Bool}
inductive TyOf (K:W.Frag) (H:Hp):V→Value→Prop where
 | non:TyOf K H .non (.type "NoneType")
 | bl (x:Bool):TyOf K H (.bl x) (.type "bool")
 | int (i:Int):TyOf K H (.int i) (.type "int")
 | str (x:Str):TyOf K H (.str x) (.type "str")
 | flt (x:UInt64):TyOf K H (.flt x) (.type "float")
 | lst {a:Addr}{xs:List V} (e:H a=some (.lst xs)):TyOf K H (.ref a) (.type "list")
 | frz {a:Addr}{o:Obj}{xs:List V} (e:H a=some (.frz o (.lst xs))):TyOf K H (.ref a) (.type "list")
 | tup {a:Addr}{xs:List V} (e:H a=some (.tup xs)):TyOf K H (.ref a) (.type "tuple")
 | dK {a:Addr}{kvs:List (Key×V)} (e:H a=some (.dK kvs)):TyOf K H (.ref a) (.type "dict")
 | dT {a:Addr}{kvs:List (List Key×V)} (e:H a=some (.dT kvs)):TyOf K H (.ref a) (.type "dict")
 | ins {a C dx:Addr}{fs:List (Str×V)} (e:H a=some (.ins C dx fs)) (cl:Cls K C) (ha:W.findIn K (.ref C) "__class__"=some (some (.builtin "object.__class__")))
   (hn:W.specialIn K (.builtin "object.__class__") "__get__"=some (some (.builtin "getset_descriptor.__get__"))) (htk:W.takesIn K (.builtin "object.__class__")=some true)
   (hm:W.mroIn K C (.type "object")=some true):TyOf K H (.ref a) (.ref C)
theorem u1I {x:V}{u t:Value} (I:Inv X pins σ H s) (rx:RelV x u) (ty:TyOf X.K H x t) (e:W.kitOne X.K t c=some b) (h:∀ tk,Q (.bool b) { s with toks:=tk }) :
  wpAny (model X.prog X.w) A (call (.builtin "isinstance") [u,c]) Q E s:=by
 cases ty with
 | non=>cases (show u=Value.none from rx);exact W.kia_one W.kitx_none I.kIn True.intro e (fun z=>nomatch z) h
 | bl y=>cases (show u=Value.bool y from rx);exact W.kia_one W.kitx_bool I.kIn True.intro e (fun z=>nomatch z) h
 | int i=>obtain ⟨t,q⟩:=(show ∃ t,u=Value.int i t from rx);cases q;exact W.kia_one W.kitx_int I.kIn True.intro e (fun z=>nomatch z) h
 | str y=>obtain ⟨t,q⟩:=(show ∃ t,u=Value.str y t from rx);cases q;exact W.kia_one W.kitx_str I.kIn True.intro e (fun z=>nomatch z) h
 | flt y=>obtain ⟨t,q⟩:=(show ∃ t,u=Value.float y t from rx);cases q;exact W.kia_one W.kitx_float I.kIn True.intro e (fun z=>nomatch z) h
 | @lst a xs ea =>
  cases (show u=Value.ref a from rx)
  obtain ⟨_,_,n,_,h1⟩:=(show ObjOk X.prog X.w H s.heap a (.lst xs) from I.hok a _ ea)
  exact W.kia_one W.kitx_list I.kIn ⟨_,h1,rfl⟩ e (fun z=>nomatch z) h
 | @frz a ob xs ea =>
  cases (show u=Value.ref a from rx)
  obtain ⟨_,_,_,n,_,h1⟩:=(show ObjOk X.prog X.w H s.heap a (.frz ob (.lst xs)) from I.hok a _ ea)
  exact W.kia_one W.kitx_list I.kIn ⟨_,h1,rfl⟩ e (fun z=>nomatch z) h
 | @tup a xs ea =>
  cases (show u=Value.ref a from rx)
  obtain ⟨_,_,_,p⟩:=(show ObjOk X.prog X.w H s.heap a (.tup xs) from I.hok a _ ea)
  obtain ⟨o,h1,h2,_⟩:=p
  exact W.kia_one W.kitx_tuple I.kIn ⟨o,h1,h2⟩ e (fun z=>nomatch z) h
 | @dK a kvs ea =>
  cases (show u=Value.ref a from rx)
  obtain ⟨_,_,vs,_,p⟩:=(show ObjOk X.prog X.w H s.heap a (.dK kvs) from I.hok a _ ea)
  obtain ⟨o,es,ep,h1,h2,_⟩:=p
  exact W.kia_one W.kitx_dict I.kIn ⟨o,h1,h2.1⟩ e (fun z=>nomatch z) h
 | @dT a kvs ea =>
  cases (show u=Value.ref a from rx)
  obtain ⟨_,_,xs,_,o,es,ep,h1,h2,_⟩:=(show ObjOk X.prog X.w H s.heap a (.dT kvs) from I.hok a _ ea)
  exact W.kia_one W.kitx_dict I.kIn ⟨o,h1,h2.1⟩ e (fun z=>nomatch z) h
 | @ins a C dx fs ea cl ha hn htk hm =>
  cases (show u=Value.ref a from rx)
  obtain ⟨mA,O,_⟩:=u6h I.hok ea
  obtain ⟨od,J,_⟩:=O.look
  exact W.kia_one (W.kitx_own (cl.get _) cl.hd ha hn htk hm) I.kIn J e (fun z=>nomatch z) h
end
structure Room (k:Nat) (A:Around):Prop where
 hd:A.handled=none
 dp:A.depth+3*k+5<recursionLimit
 un:A.units+16*k+200<cLine
theorem Room.mono {j k:Nat}{A:Around} (r:Room k A) (h:j≤k):Room j A:=⟨r.hd,by have:=r.dp;omega,by have:=r.un;omega⟩
theorem Room.deeper {k:Nat}{A:Around} (r:Room (k+1) A) (env:Env):Room k (A.deeper env) :=
 ⟨r.hd,by have:=r.dp;show A.depth+1+3*k+5<_;omega,by have:=r.un;show A.units+3+16*k+200<_;omega⟩
theorem v0x {A:Around}{C:Addr}{us:List Value}{kw:List (Str×Value)}:(A.under (.builtin "type.__call__" ⟨.ref C::us,kw⟩)).depth=A.depth+1:=by
 first | rfl | simp [Around.under,Code.weight,Code.isCreation,Code.isGuard,Code.isCaller,Code.frames,Code.isFrame,guardIds]
theorem v0w {A:Around}{C:Addr}{us:List Value}{kw:List (Str×Value)}:(A.under (.builtin "type.__call__" ⟨.ref C::us,kw⟩)).units=A.units+1:=by
 first | rfl | simp [Around.under,Code.cUnits,Code.frames,Code.isFrame]
theorem Room.make {k:Nat}{A:Around} (r:Room (k+1) A) (C:Addr) (us:List Value) (kw:List (Str×Value)):Room k (A.under (.builtin "type.__call__" ⟨.ref C::us,kw⟩)) :=
 ⟨r.hd,by have:=r.dp;rw [v0x];omega,by have:=r.un;rw [v0w];omega⟩
theorem Room.depth {k:Nat}{A:Around} (r:Room k A):A.depth<recursionLimit:=by have:=r.dp;omega
theorem Room.units {k:Nat}{A:Around} (r:Room k A):A.units+64<cLine:=by have:=r.un;omega
def tNil:TA:=fun _ H Q=>Q [] H
def tCons (ta:TE) (tr:TA):TA:=fun σ H Q=>ta σ H fun x H1=>tr σ H1 fun xs H2=>Q (x::xs) H2
section
variable {X:Cx}{e:Expr}{es:List Expr}{te:TE}{t:TA}{pos:Pos}
theorem u4G:PA X [] tNil:=fun _ _ _ _ H Q I h=>Calls.spliced_nil ⟨[],H,I,.nil,h⟩
theorem pa_cons (ha:PE X e te) (hr:PA X es t) (hs:starEach (e::es) X.env=(false,eval e X.env)::starEach es X.env:=by rfl):PA X (e::es) (tCons te t):=by
 intro pos pins s σ H Q I h
 rw [hs]
 show wpAny _ _ (spliced ((false,eval e X.env)::backTo pos (starEach es X.env))) _ _ s
 refine Calls.spliced_cons (thn (ha pins s σ H _ I h) fun u s1 ⟨x,H1,I1,r1,q1⟩=>?_)
 exact thn (hr pos pins s1 σ H1 _ I1 q1) fun us s2 ⟨xs,H2,I2,r2,q2⟩=>⟨x::xs,H2,I2,.cons r1 r2,q2⟩
def tTup (t:TA):TE:=fun σ H Q=>t σ H fun xs H1=>xs.length≤sizeLine∧∀ p,H1 p=none→Q (.ref p) (upd H1 p (.tup xs))
def tLst (t:TA):TE:=fun σ H Q=>t σ H fun xs H1=>xs.length≤sizeLine∧∀ p,H1 p=none→Q (.ref p) (upd H1 p (.lst xs))
theorem pe_tup {x1} (h:PA X es t):PE X (.Tuple es x1 pos) (tTup t):=by
 intro pins s σ H Q I hq
 refine wpAny_Tuple_spliced (thn (h pos pins s σ H _ I hq) fun us s1 ⟨xs,H1,I1,r,z,q⟩=>⟨by rw [← r.length];exact z,?_⟩)
 have hf:H1 s1.heap.objs.size=none:=I1.hok.fresh (Nat.le_refl _)
 refine ⟨.ref s1.heap.objs.size,upd H1 s1.heap.objs.size (.tup xs),I1.laid (t':=s1.toks) (fun b u e=>Heap.get?_push_of_some _ e) (Nat.le_refl _) ?_,rfl,q _ hf⟩
 exact ⟨z,us,r,⟨_,Heap.get?_push_size _ rfl,rfl,_,rfl⟩⟩
theorem v4g (h:PA X es t):PE X (.List es pos) (tLst t):=by
 intro pins s σ H Q I hq
 refine wpAny_List_spliced (thn (h pos pins s σ H _ I hq) fun us s1 ⟨xs,H1,I1,r,z,q⟩=>⟨by rw [← r.length];exact z,?_⟩)
 have hf:H1 s1.heap.objs.size=none:=I1.hok.fresh (Nat.le_refl _)
 refine ⟨.ref s1.heap.objs.size,upd H1 s1.heap.objs.size (.lst xs),I1.laid (t':=s1.toks) (fun b u e=>Heap.get?_push_of_some _ e) (Nat.le_refl _) ?_,rfl,q _ hf⟩
 exact ⟨z,us,0,r,Heap.get?_push_size _ rfl⟩
end
abbrev Sp:=List V→Hp→VK→XK→Prop
abbrev CXT:=List Env→Hp→Shared→XK→Value→Shared→Prop
structure Env0 (P:Program) (w:World) (K:W.Frag) (mg:MG) (base:Heap) (A:Around) (outer:List Env) (s:Shared) (H:Hp):Prop where
 frames:A.frames=some outer
 mod:Mod K mg base
 bs:∀ b o,base.get? b=some o→s.heap.get? b=some o∧H b=none
 bsz:base.objs.size≤s.heap.objs.size
 funs:s.heap.FunFrames base outer
 frf:∀ b∈frs outer,H b=none
 hok:HOk P w H s.heap
 bare:AllBare s.gens
def CE (outer:List Env) (P:Program) (w:World) (H:Hp) (s:Shared) (Q:VK) (u:Value) (s':Shared):Prop :=
 ∃ v H',s'.os=s.os∧AllBare s'.gens∧Un (frs outer) [] H H' s.heap s'.heap∧HOk P w H' s'.heap∧RelV v u∧Q v H'
def CR (CX:CXT) (outer:List Env) (P:Program) (w:World) (H:Hp) (s:Shared) (Q:VK) (E:XK) (r:Result) (s':Shared):Prop :=
 match r with
 | .ok (.ret u)=>CE outer P w H s Q u s'
 | .ok _=>False
 | .error e=>CX outer H s E e s'
structure FnOk (P:Program) (w:World) (K:W.Frag) (mg:MG) (base:Heap) (CX:CXT) (k:Nat) (f:Addr) (fd:FuncData) (ps:List Str) (sp:Sp):Prop where
 len:∀ vs H Q E,sp vs H Q E→vs.length=ps.length
 run:∀ (A:Around) (outer:List Env) (s:Shared) (H:Hp) (args:Args) (us:List Value) (vs:List V) (Q:VK) (E:XK),Room k A→Env0 P w K mg base A outer s H→BindsTo s fd args (ps.zip us)→Vals vs us→sp vs H Q E →
  codeAny (model P w) A (.call (.ref f) args) (CR CX outer P w H s Q E) s
theorem FnOk.imp {P:Program}{w:World}{K:W.Frag}{mg:MG}{base:Heap}{CX:CXT}{k:Nat}{f:Addr}{fd:FuncData}{ps:List Str}{sp sp':Sp} (F:FnOk P w K mg base CX k f fd ps sp)
  (h:∀ vs H Q E,sp' vs H Q E→sp vs H Q E):FnOk P w K mg base CX k f fd ps sp' :=
 ⟨fun vs H Q E q=>F.len vs H Q E (h _ _ _ _ q),fun A outer s H args us vs Q E hr he hb hv hs=>F.run A outer s H args us vs Q E hr he hb hv (h _ _ _ _ hs)⟩
theorem Env0.make {P:Program}{w:World}{K:W.Frag}{mg:MG}{base:Heap}{A:Around}{outer:List Env}{s:Shared}{H:Hp} (e:Env0 P w K mg base A outer s H) (C:Addr) (us:List Value) (kw:List (Str×Value)) :
  Env0 P w K mg base (A.under (.builtin "type.__call__" ⟨.ref C::us,kw⟩)) outer s H:=⟨by first | exact e.frames | (simpa [Around.under,Code.envs,Code.isFrame,pushEnvs] using e.frames),e.mod,e.bs,e.bsz,e.funs,e.frf,e.hok,e.bare⟩
section
variable {X:Cx}{pins:LO}{σ:St}{H:Hp}{s s':Shared}
theorem Inv.env0 (I:Inv X pins σ H s):Env0 X.prog X.w X.K X.mg X.base X.A X.stack s H :=
 ⟨I.ok.frames,I.ok.mod,I.bs,Nat.le_trans I.ok.bsz I.sz,I.stack,I.stkFree,I.hok,I.bare⟩
theorem Inv.after {Q:VK}{u:Value} (I:Inv X pins σ H s) (h:CE X.stack X.prog X.w H s Q u s'):EP X pins σ Q u s':=by
 obtain ⟨v,H',os,bare,un,hok,r,q⟩:=h
 obtain ⟨hh,g,d,t,os'⟩:=s'
 obtain rfl:os'=s.os:=os
 exact ⟨v,H',I.call (h':=hh) (g':=g) (d':=d) (t':=t) (ch:=[]) un hok bare (fun b z=>absurd z (by simp)),r,q⟩
end
def tCall (sp:Sp) (dvs:List V) (E:XK) (t:TA):TE:=fun σ H Q=>t σ H fun vs H1=>sp (vs++dvs) H1 Q E
def Binds (K:W.Frag) (fd:FuncData) (ps:List Str) (ds:List Value):Prop :=
 ∀ (s:Shared) (us:List Value),K.In s.heap→(us++ds).length=ps.length→BindsTo s fd ⟨us,[]⟩ (ps.zip (us++ds))
theorem Binds.all {K:W.Frag}{fd:FuncData}{ps:List Str} (h:∀ us:List Value,us.length=ps.length→bindArgs fd ⟨us,[]⟩=pure (ps.zip us)):Binds K fd ps []:=fun s us _ hl=>by
 rw [List.append_nil] at hl ⊢
 exact .of_eq (h us hl)
def Passes (CX:CXT) (X:Cx) (E:XK):Prop:=∀ (pins:LO) (σ:St) (H:Hp) (s:Shared) (e:Value) (s':Shared),Inv X pins σ H s→CX X.stack H s E e s'→X.xe e s'
section
variable {X:Cx}{CX:CXT}{k:Nat}{f C:Addr}{fd:FuncData}{ps:List Str}{sp:Sp}{dvs:List V}{ds:List Value}{E:XK}{x m:Str}{p pos apos:Pos}{e o:Expr}{es:List Expr}{ta:TE}{t:TA}
theorem run_fn {pins:LO}{σ:St}{H:Hp}{s:Shared}{Q:VK}{us:List Value}{vs:List V} (F:FnOk X.prog X.w X.K X.mg X.base CX k f fd ps sp) (hr:Room k X.A) (hb:Binds X.K fd ps ds) (hd:Vals dvs ds) (hx:Passes CX X E)
  (I:Inv X pins σ H s) (r:Vals vs us) (h:sp (vs++dvs) H Q E):wpAny (model X.prog X.w) X.A (call (.ref f) us) (EP X pins σ Q) X.xe s:=by
 have r2:Vals (vs++dvs) (us++ds):=r.append hd
 have hl:(us++ds).length=ps.length:=by rw [← r2.length];exact F.len _ _ _ _ h
 refine wpAny_call (codeAny_mono (F.run X.A X.stack s H ⟨us,[]⟩ (us++ds) (vs++dvs) Q E hr I.env0 (hb s us I.kIn hl) r2 h) fun r s' hq=>?_)
 cases r with
 | error e=>exact hx pins σ H s e s' I hq
 | ok fl =>
  cases fl with
  | ret u=>exact I.after hq
  | next=>exact False.elim hq
  | brk=>exact False.elim hq
  | cont=>exact False.elim hq
theorem pe_call (F:FnOk X.prog X.w X.K X.mg X.base CX k f fd ps sp) (hr:Room k X.A) (hg:Gl X x) (hm:X.mg x=some (.ref f)) (hk:W.keepIn X.K (.ref f)=true) (hb:Binds X.K fd ps ds) (hd:Vals dvs ds) (hx:Passes CX X E)
  (ha:PA X (e::es) t) (hdb:(x==("__debug__":Str))=false:=by decide) (he:starEach (e::es) X.env=(false,eval e X.env)::starEach es X.env:=by rfl) (hpl:(backTo pos (starEach es X.env)).any (·.1)=false:=by rfl) :
  PE X (.Call (.Name x p) (e::es) [] pos) (tCall sp dvs E t):=by
 intro pins s σ H Q I h
 refine wpAny_Call_Name_kw (u2o I hg hm ?_ hdb)
 refine W.callWith_K (h₀:=X.base) I.ok.mod.kin hk (thn (ha pos pins s σ H _ I h) fun us s1 ⟨vs,H1,I1,r,q⟩=>⟨I1.kIn,?_⟩) he hpl
 exact run_fn F hr hb hd hx I1 r q
structure Mk (K:W.Frag) (C f:Addr):Prop where
 makes:W.makesIn K C=true
 init:W.findIn K (.ref C) "__init__"=some (some (.ref f))
 fn:W.isFn K (.ref f)=true
 kp:W.keepIn K (.ref C)=true
end
structure FnScope (N P:List Str) (sc:Scope):Prop where
 kind:sc.kind=.function
 co:sc.isCoroutine=false
 gen:sc.isGenerator=false
 nd:N.Nodup
 pre:N.take P.length=P
 par:∀ x∈P,sc.names.lookup x=some .local∨sc.names.lookup x=some .cell
 nofree:∀ y∈sc.names,y.2≠.free
theorem FnScope.au {N P:List Str}{sc:Scope} (a:sc.kind=.function:=by rfl) (b:sc.isCoroutine=false:=by rfl) (c:sc.isGenerator=false:=by rfl) (d:N.Nodup:=by decide +kernel) (e:N.take P.length=P:=by rfl) (f:∀ x∈P,sc.names.lookup x=some .local∨sc.names.lookup x=some .cell:=by decide +kernel) (g:∀ y∈sc.names,y.2≠.free:=by decide +kernel):FnScope N P sc:=⟨a,b,c,d,e,f,g⟩
theorem u7N {kindOf:Str→Option NameKind}{x:Str}:∀ {binds:List (Str×Value)}{m:MG},(∀ v,(x,v)∉binds)→bindL kindOf binds m x=m x
 | [],_,_=>rfl
 | (n,v)::r,m,h=>by
  unfold bindL
  rw [u7N fun w hw=>h w (List.mem_cons_of_mem _ hw)]
  split
  ·have:x≠n:=by rintro rfl;exact h v List.mem_cons_self
   simp [this]
  ·rfl
theorem u7P {kindOf:Str→Option NameKind}{x:Str}:∀ {binds:List (Str×Value)}{m:MG},(∀ v,(x,v)∉binds)→bindC kindOf binds m x=m x
 | [],_,_=>rfl
 | (n,v)::r,m,h=>by
  unfold bindC
  rw [u7P fun w hw=>h w (List.mem_cons_of_mem _ hw)]
  split
  ·rfl
  ·have:x≠n:=by rintro rfl;exact h v List.mem_cons_self
   simp [this]
theorem u7O {kindOf:Str→Option NameKind}{x:Str}{v:Value}:∀ {P:List Str}{vs:List Value}{i:Nat}{m:MG},P.Nodup→P[i]?=some x→vs[i]?=some v→kindOf x=some .local →
  bindL kindOf (P.zip vs) m x=some v
 | [],_,_,_,_,h,_,_=>by simp at h
 | _::_,[],_,_,_,_,h,_=>by simp at h
 | p::P,w::vs,0,m,nd,h1,h2,hk=>by
  simp at h1 h2;subst h1;subst h2
  show bindL kindOf ((p,w)::P.zip vs) m p=_
  unfold bindL
  rw [u7N fun v hv=>(List.nodup_cons.mp nd).1 (List.of_mem_zip hv).1,if_pos hk]
  simp
 | p::P,w::vs,i+1,m,nd,h1,h2,hk=>by
  show bindL kindOf ((p,w)::P.zip vs) m x=_
  unfold bindL
  exact u7O (i:=i) (List.nodup_cons.mp nd).2 (by simpa using h1) (by simpa using h2) hk
theorem u7Q {kindOf:Str→Option NameKind}{x:Str}{v:Value}:∀ {P:List Str}{vs:List Value}{i:Nat}{m:MG},P.Nodup→P[i]?=some x→vs[i]?=some v→kindOf x≠some .local →
  bindC kindOf (P.zip vs) m x=some v
 | [],_,_,_,_,h,_,_=>by simp at h
 | _::_,[],_,_,_,_,h,_=>by simp at h
 | p::P,w::vs,0,m,nd,h1,h2,hk=>by
  simp at h1 h2;subst h1;subst h2
  show bindC kindOf ((p,w)::P.zip vs) m p=_
  unfold bindC
  rw [u7P fun v hv=>(List.nodup_cons.mp nd).1 (List.of_mem_zip hv).1,if_neg hk]
  simp
 | p::P,w::vs,i+1,m,nd,h1,h2,hk=>by
  show bindC kindOf ((p,w)::P.zip vs) m x=_
  unfold bindC
  exact u7Q (i:=i) (List.nodup_cons.mp nd).2 (by simpa using h1) (by simpa using h2) hk
noncomputable def start (N:List Str) (vs:List V):St:=vs.map some++List.replicate (N.length - vs.length) none
noncomputable def cxOf (CX:CXT) (P:Program) (w:World) (K:W.Frag) (mg:MG) (base:Heap) (N:List Str) (qual:Str) (scope:Scope) (f:Addr) (cd:Value) (A:Around) (outer:List Env) (s:Shared) (H:Hp) (E:XK):Cx where
 prog:=P
 w:=w
 K:=K
 mg:=mg
 base:=base
 A:=A.deeper (envOfC qual scope s.heap.objs.size f cd)
 N:=N
 s₀:=s
 H₀:=H
 env:=envOfC qual scope s.heap.objs.size f cd
 outer:=outer
 stack:=envOfC qual scope s.heap.objs.size f cd::outer
 ex:=[]
 calm:=true
 fn:=fun _=>true
 pn:=[]
 xe:=fun e s'=>wpAny (model P w) (A.deeper (envOfC qual scope s.heap.objs.size f cd)) (leaving (envOfC qual scope s.heap.objs.size f cd) e) (fun _ s''=>CX outer H s E e s'') (fun e' s''=>CX outer H s E e' s'') s'
theorem u9E {sc:Scope}{n:Nat}{x:Str} (h:sc.names.lookup x=some .cell):∃ c,(cellsFrom n sc.names []).lookup x=some c:=by
 have q:=W.cellsFrom_some sc.names n [] (.inl h)
 exact Option.isSome_iff_exists.mp q
theorem v1P {CX:CXT}{P:Program}{w:World}{K:W.Frag}{mg:MG}{base:Heap}{N ps:List Str}{qual:Str}{scope:Scope}{f:Addr}{cd:Value}{A:Around}{outer:List Env}{s s1:Shared}{H:Hp}{E:XK}{us:List Value}{vs:List V}
  (S:FnScope N ps scope) (hd:A.handled=none) (e0:Env0 P w K mg base A outer s H) (hl:vs.length=ps.length) (r:Vals vs us)
  (x:InCallC s s.heap.objs.size (bindL (envOfC qual scope s.heap.objs.size f cd).kindOf (ps.zip us) fun _=>none) (cellsFrom (s.heap.objs.size+1) scope.names []) (bindC (envOfC qual scope s.heap.objs.size f cd).kindOf (ps.zip us) fun _=>none) s1) :
  Inv (cxOf CX P w K mg base N qual scope f cd A outer s H E) [] (start N vs) H s1:=by
 have hpl:ps.length≤N.length:=by have:=congrArg List.length S.pre;rw [List.length_take] at this;omega
 obtain ⟨h1,tk,rfl,hk⟩:=x.done
 have noA:∀ b:Addr,b∉(cxOf CX P w K mg base N qual scope f cd A outer s H E).ex:=fun b z=>absurd (show b∈([]:List Addr) from z) (by simp)
 refine ⟨⟨e0.mod,S.kind,rfl,rfl,Nat.le_refl _,fun y z c h1 h2=>?_,fun y hy=>?_,fun y c _ h=>?_,fun _=>hd,Around.frames_deeper e0.frames,.inr ⟨rfl,rfl⟩,fun b z=>absurd z (noA b),e0.bs,e0.bsz,fun b _ _=>noA b,fun b z=>absurd z (noA b),e0.funs,e0.frf⟩,
  rfl,e0.bare,Un.kept hk,⟨_,x.toInCall.ns,fun i y v h1 h2 h3=>?_⟩,fun y c h=>⟨_,x.cell y c h⟩,e0.hok.fresh (Nat.le_refl _),fun y c h=>?_,fun p hp=>absurd (show p∈([]:LO) from hp) (by simp),e0.hok.kept hk,?_⟩
 ·exact name_of_addr x.apart (PySem.mem_of_lookup h1) (PySem.mem_of_lookup h2)
 ·have hy:scope.names.lookup y=some .cell∨scope.names.lookup y=some .free:=hy
  rcases hy with hy | hy
  ·exact u9E hy
  ·exact absurd rfl (S.nofree _ (PySem.mem_of_lookup hy))
 ·exact Nat.le_of_lt (x.above y c (PySem.mem_of_lookup h))
 ·have hi:i<vs.length:=by
   unfold start at h2
   by_cases hi:i<vs.length
   ·exact hi
   ·rw [List.getElem?_append_right (by simpa using hi)] at h2
    rw [List.getElem?_replicate] at h2
    split at h2 <;> cases h2
  have ha:vs[i]?=some v:=by
   unfold start at h2
   rw [List.getElem?_append_left (by simpa using hi),List.getElem?_map] at h2
   cases e:vs[i]? with
   | none=>rw [e] at h2;cases h2
   | some a=>rw [e] at h2;cases h2;rfl
  obtain ⟨u,hu,rv⟩:=r.get ha
  have hp:ps[i]?=some y:=by
   rw [← S.pre,List.getElem?_take_of_lt (by omega)];exact h1
  have ndP:ps.Nodup:=by rw [← S.pre];exact S.nd.sublist (List.take_sublist _ _)
  refine ⟨u,rv,?_⟩
  rcases S.par y (List.mem_of_getElem? hp) with k | k
  ·exact .inl ⟨k,u7O ndP hp hu k⟩
  ·obtain ⟨c,e⟩:=u9E (n:=s.heap.objs.size+1) k
   refine .inr ⟨.inl k,c,e,?_⟩
   have q:=x.cell y c e
   rw [u7Q ndP hp hu (by show scope.names.lookup y≠_;rw [k];decide)] at q
   exact q
 ·exact e0.hok.fresh (Nat.le_of_lt (x.above y c (PySem.mem_of_lookup h)))
 ·unfold start
  show _=N.length
  rw [List.length_append,List.length_map,List.length_replicate]
  omega
theorem v3N {CX:CXT}{P:Program}{w:World}{K:W.Frag}{mg:MG}{base:Heap}{k:Nat}{f:Addr}{name qual:Str}{params:Arguments}{body:List Stmt}{scope:Scope}{dV kV doc pm cdv ct oc:Value}{an od:Option Addr}
  {osl:Array (Option Value)}{N ps:List Str}{sp:Sp} (lk:K.lookup f=some ⟨oc,od,.func (W.fnOf name qual params body scope dV kV doc pm an cdv ct),osl⟩) (hcd:W.codeIn K cdv qual=true) (S:FnScope N ps scope)
  (len:∀ vs H Q E,sp vs H Q E→vs.length=ps.length)
  (hbody:∀ (A:Around) (outer:List Env) (s:Shared) (H:Hp) (vs:List V) (Q:VK) (E:XK),Room k (A.deeper (envOfC qual scope s.heap.objs.size f cdv))→sp vs H Q E →
   ∃ t,PSs (cxOf CX P w K mg base N qual scope f cdv A outer s H E) body t∧t { nx:=fun _ H'=>Q .non H',rt:=Q } (start N vs) H) :
  FnOk P w K mg base CX (k+1) f (W.fnOf name qual params body scope dV kV doc pm an cdv ct) ps sp:=by
 refine ⟨len,fun A outer s H args us vs Q E hr e0 hb r hsp=>?_⟩
 have hl:=len _ _ _ _ hsp
 have KX:K.In s.heap:=e0.mod.kin.keeps fun b o e=>(e0.bs b o e).1
 have lim:s.heap.NoLimit:=e0.mod.nolimit.keeps fun b o e=>(e0.bs b o e).1
 have hkind:∀ y∈ps.zip us,scope.names.lookup y.1=some .local∨(scope.names.lookup y.1=some .cell∧((cellsFrom (s.heap.objs.size+1) scope.names []).lookup y.1).isSome=true):=fun ⟨n,v⟩ hy=>by
  rcases S.par n (List.of_mem_zip hy).1 with q | q
  ·exact .inl q
  ·exact .inr ⟨q,W.cellsFrom_some _ _ _ (.inl q)⟩
 refine codeAny_call_function hr.depth (KX _ _ lk) rfl S.co S.gen rfl (W.codeRec_of KX hcd) (hb _ _ _ _ ?_)
 refine wpAny_newFunctionEnv_cells S.kind hkind fun env he s1 x=>?_
 subst he
 refine ⟨lim.keeps x.toInCall.keep,codeAny_func ?_⟩
 obtain ⟨t,ht,hq⟩:=hbody A outer s H vs Q E (hr.deeper _) hsp
 have I:Inv (cxOf CX P w K mg base N qual scope f cdv A outer s H E) [] (start N vs) H s1:=v1P S hr.hd e0 hl r x
 refine wpAny_mono (ht [] s1 (start N vs) H _ I hq) (fun fl s' hs=>?_) fun e s' hs=>hs
 have fin:∀ {σ':St}{H':Hp}{v:V}{u:Value},Inv (cxOf CX P w K mg base N qual scope f cdv A outer s H E) [] σ' H' s'→RelV v u→Q v H'→CE outer P w H s Q u s' :=
  fun {σ' H' v u} J rv q=>⟨v,H',J.os,J.bare,J.base,J.hok,rv,q⟩
 cases fl with
 | ret u =>
  obtain ⟨v,σ',H',J,rv,q⟩:=hs
  exact fin J rv q
 | next =>
  obtain ⟨σ',H',J,q⟩:=hs
  exact fin (v:=V.non) (u:=Value.none) J rfl q
 | brk =>
  obtain ⟨_,_,_,q⟩:=hs
  exact False.elim q
 | cont =>
  obtain ⟨_,_,_,q⟩:=hs
  exact False.elim q
section
variable {X:Cx}{x:Str}{p pos:Pos}{e:Expr}{es:List Expr}{t:TA}{id T:String}{r:List V→Hp→VK→Prop}
def tCB (r:List V→Hp→VK→Prop) (t:TA):TE:=fun σ H Q=>t σ H fun vs H1=>r vs H1 Q
theorem v3l (hc:CallR X (.builtin id) r) (hg:Gl X x) (hm:X.mg x=none) (hv:bootBuiltins x=some (.builtin id)) (ha:PA X (e::es) t) (hn:x≠"__name__":=by decide) (hdb:(x==("__debug__":Str))=false:=by decide)
  (he:starEach (e::es) X.env=(false,eval e X.env)::starEach es X.env:=by rfl) (hpl:(backTo pos (starEach es X.env)).any (·.1)=false:=by rfl):PE X (.Call (.Name x p) (e::es) [] pos) (tCB r t):=by
 intro pins s σ H Q I h
 refine wpAny_Call_Name_kw (u3U I hg hm hv ?_ hn hdb)
 exact PyProof.Rows.callWith_builtin1 (thn (ha pos pins s σ H _ I h) fun us s1 ⟨vs,H1,I1,r1,q1⟩=>hc pins s1 σ H1 vs us Q I1 r1 q1) he hpl
theorem v1n (hc:CallR X (.type T) r) (hg:Gl X x) (hm:X.mg x=none) (hv:bootBuiltins x=some (.type T)) (ha:PA X (e::es) t) (hn:x≠"__name__":=by decide) (hdb:(x==("__debug__":Str))=false:=by decide)
  (he:starEach (e::es) X.env=(false,eval e X.env)::starEach es X.env:=by rfl) (hpl:(backTo pos (starEach es X.env)).any (·.1)=false:=by rfl):PE X (.Call (.Name x p) (e::es) [] pos) (tCB r t):=by
 intro pins s σ H Q I h
 refine wpAny_Call_Name_kw (u3U I hg hm hv ?_ hn hdb)
 exact PyProof.Rows.callWith_type1 (thn (ha pos pins s σ H _ I h) fun us s1 ⟨vs,H1,I1,r1,q1⟩=>hc pins s1 σ H1 vs us Q I1 r1 q1) he hpl
end
end L2
namespace HT
open PySem PyProof.Rows
section
open PySem.SeqAt
open PySem.AutoSeq1 (wpAny_loadPart')
open PySem.MeetsSeq PySem.MeetsSeq2 PySem.MeetsSeq3
end
section
variable {prog:Program}{w:World}{A:Around}{E:VP}{s:Shared}
noncomputable def sIx (n d:Nat):Option Int→Nat
 | none=>d
 | some v=>if v<0 then (v+(n:Int)).toNat else min v.toNat n
theorem sIx_none (n d:Nat):sIx n d none=d:=rfl
theorem sIx_nat (n d k:Nat):sIx n d (some (k:Int))=min k n:=by
 show (if (k:Int)<0 then ((k:Int)+(n:Int)).toNat else min (k:Int).toNat n)=min k n
 rw [if_neg (by omega),Int.toNat_natCast]
theorem sIx_le (n d:Nat) (hd:d≤n) (o:Option Int):sIx n d o≤n:=by
 cases o with
 | none=>exact hd
 | some v =>
  show (if v<0 then (v+(n:Int)).toNat else min v.toNat n)≤n
  by_cases hv:v<0
  ·rw [if_pos hv];omega
  ·rw [if_neg hv];exact Nat.min_le_right _ _
theorem v2w (v:Int) (n d:Nat):(if v<0 then max (v+(n:Int)) 0 else min v (n:Int))=((sIx n d (some v):Nat):Int):=by
 show (if v<0 then max (v+(n:Int)) 0 else min v (n:Int))=(((if v<0 then (v+(n:Int)).toNat else min v.toNat n):Nat):Int)
 by_cases hv:v<0
 ·simp only [if_pos hv];omega
 ·simp only [if_neg hv];omega
theorem v0I (lo hi:Option Int) (n:Nat):Builtin.Slice.sliceAdjust lo hi 1 (n:Int)=(((sIx n 0 lo:Nat):Int),((sIx n n hi:Nat):Int)):=by
 have h1:¬ ((1:Int)<0):=by omega
 unfold Builtin.Slice.sliceAdjust
 simp only [h1,if_false]
 refine Prod.ext ?_ ?_
 ·cases lo with
  | none=>rfl
  | some v=>exact v2w v n 0
 ·cases hi with
  | none=>rfl
  | some v=>exact v2w v n n
theorem v0t (i j:Nat):Builtin.Slice.slicePlaces (i:Int) (j:Int) 1=j - i:=by
 unfold Builtin.Slice.slicePlaces
 have h1:(1:Int) > 0:=by omega
 simp only [h1,if_true,Int.ediv_one]
 split <;> omega
theorem slicePart_ {v:Value}{o:Option Int}{Q:Option Int→Shared→Prop} (p:IsPart v o) (h:Q o s):wpAny (model prog w) A (Builtin.Slice.slicePartIndex v) Q E s:=by
 cases p with
 | none=>exact slicePart_none h
 | int i t=>exact slicePart_int h
theorem u4a {sl:Addr}{vl vu:Value}{lo hi:Option Int}{n:Nat}{Q:Int×Int×Nat→Shared→Prop} (hs:s.heap.IsSliceOf sl vl vu .none) (pl:IsPart vl lo) (pu:IsPart vu hi)
  (h:Q (((sIx n 0 lo:Nat):Int),1,sIx n n hi - sIx n 0 lo) s):wpAny (model prog w) A (Builtin.Slice.sliceApplied (.ref sl) (pure (n:Int))) Q E s:=by
 obtain ⟨os,hos,hcs,hds⟩:=id hs
 unfold Builtin.Slice.sliceApplied Builtin.Slice.sliceFields
 refine wpAny_bind (wpAny_bind (wpAny_field hos hds (x:=vl) rfl (wpAny_bind (wpAny_field hos hds (x:=vu) rfl (wpAny_bind (wpAny_field hos hds (x:=.none) rfl (wpAny_pure ?_)))))))
 refine wpAny_bind (slicePart_none ?_)
 show wpAny _ _ (if ((1:Int)==0)=true then _ else _) _ _ s
 rw [if_neg (by decide)]
 refine wpAny_bind (slicePart_ pl (wpAny_bind (slicePart_ pu (wpAny_bind (wpAny_pure ?_)))))
 show wpAny _ _ (match Builtin.Slice.sliceAdjust lo hi 1 (n:Int) with | (lo,hi)=>pure (lo,(1:Int),Builtin.Slice.slicePlaces lo hi 1)) _ _ s
 rw [v0I lo hi n]
 show wpAny _ _ (pure (((sIx n 0 lo:Nat):Int),(1:Int),Builtin.Slice.slicePlaces ((sIx n 0 lo:Nat):Int) ((sIx n n hi:Nat):Int) 1)) _ _ s
 rw [v0t]
 exact wpAny_pure h
theorem v3e (xs:Array Value) (i k:Nat):((List.range k).filterMap fun (m:Nat)=>xs[((i:Int)+(m:Int)*1).toNat]?).toArray=((xs.toList.drop i).take k).toArray:=by
 have e:(fun (m:Nat)=>xs[((i:Int)+(m:Int)*1).toNat]?)=fun m=>xs[i+m]?:=by
  funext m
  have:((i:Int)+(m:Int)*1).toNat=i+m:=by omega
  rw [this]
 rw [e]
 have:=pick_run xs i k
 rw [List.filterMap_map] at this
 have e2:((fun x=>xs[x]?) ∘ fun x=>i+x)=fun m=>xs[i+m]?:=rfl
 rw [e2] at this
 rw [this]
theorem getItem_tuple_cut {t sl:Addr}{items:Array Value}{vl vu:Value}{lo hi:Option Int}{Q:VP} (ht:IsTup s.heap t items) (hs:s.heap.IsSliceOf sl vl vu .none) (pl:IsPart vl lo) (pu:IsPart vu hi)
  (hw:¬ (sIx items.size 0 lo=0∧sIx items.size items.size hi=items.size))
  (h:Q (.ref s.heap.objs.size) { s with heap:=s.heap.push { cls:=.type "tuple",data:=.seq ((items.toList.drop (sIx items.size 0 lo)).take (sIx items.size items.size hi - sIx items.size 0 lo)).toArray } })
  (hsz:items.size≤sizeLine):wpAny (model prog w) A (getItem (.ref t) (.ref sl)) Q E s:=by
 have htake:sizeOk (.seq ((items.toList.drop (sIx items.size 0 lo)).take (sIx items.size items.size hi - sIx items.size 0 lo)).toArray):=by
  show ((items.toList.drop (sIx items.size 0 lo)).take (sIx items.size items.size hi - sIx items.size 0 lo)).toArray.size≤sizeLine
  rw [List.size_toArray,List.length_take,List.length_drop,Array.length_toList]
  omega
 have hj:sIx items.size items.size hi≤items.size:=sIx_le _ _ (Nat.le_refl _) hi
 obtain ⟨os,hos,hcs,hds⟩:=id hs
 have hTs:s.TypeIs (.ref sl) "slice":=⟨os,hos,hcs⟩
 unfold getItem
 try with_reducible refine wpAny_holding ?_
 first | refine wpAny_bind (wpAny_pure ?_) | skip
 refine wpAny_bind (wpAny_sequenceKey ht.typeIs (by decide) ?_)
 refine wpAny_bind (wpAny_callSpecial?_slot (name:=Str.ofString "__getitem__") ht.typeIs PyProof.Rows.slot_tuple_getitem
  (wpAny_call_entry PyProof.Rows.slot_tuple_getitem ht.typeIs entry_tuple_getitem ?_ (args_tuple_getitem _ _)))
 show wpAny _ _ (Builtin.Tuple.tupleItemsOf (.ref t) >>= _) _ _ s
 refine wpAny_bind (tupleItemsOf_ ht ?_)
 refine wpAny_bind (wpAny_typeOf hTs ?_)
 rw [if_pos (by decide)]
 refine wpAny_bind (u4a hs pl pu ?_)
 have hno:¬ ((((sIx items.size 0 lo:Nat):Int)==0&&(1:Int)==1&&(sIx items.size items.size hi - sIx items.size 0 lo)==items.size)=true):=by
  intro q
  rw [Bool.and_eq_true,Bool.and_eq_true] at q
  have q1:((sIx items.size 0 lo:Nat):Int)=0:=eq_of_beq q.1.1
  have q2:sIx items.size items.size hi - sIx items.size 0 lo=items.size:=eq_of_beq q.2
  exact hw ⟨by omega,by omega⟩
 show wpAny _ _ (if (((sIx items.size 0 lo:Nat):Int)==0&&(1:Int)==1&&(sIx items.size items.size hi - sIx items.size 0 lo)==items.size)=true then _ else _) _ _ s
 rw [if_neg hno,v3e]
 first
  | exact wpAny_bind (m:=Builtin.Tuple.tupleExact _) (wpAny_newObj_type (wpAny_pure ⟨_,rfl,wpAny_pure h⟩) htake)
  | exact wpAny_bind (m:=Builtin.Tuple.tupleExact _) (wpAny_newObj_type (wpAny_bind (wpAny_pure (wpAny_pure ⟨_,rfl,wpAny_pure h⟩))) htake)
  | exact wpAny_bind (wpAny_bind (m:=Builtin.Tuple.tupleExact _) (wpAny_newObj_type (wpAny_pure (wpAny_pure ⟨_,rfl,wpAny_pure h⟩)) htake))
  | exact wpAny_bind (wpAny_bind (m:=Builtin.Tuple.tupleExact _) (wpAny_newObj_type (wpAny_pure ⟨_,rfl,wpAny_pure h⟩) htake))
end
end HT
namespace L2
open PySem PySem.Spec PyProof.Rows
abbrev TO:=St→Hp→(Option Int→Hp→Prop)→Prop
def PO (X:Cx) (e:Option Expr) (t:TO):Prop :=
 ∀ (pins:LO) (s:Shared) (σ:St) (H:Hp) (Q:Option Int→Hp→Prop),Inv X pins σ H s→t σ H Q →
  wpAny (model X.prog X.w) X.A (evalPart e X.env) (fun u s'=>∃ o H',Inv X pins σ H' s'∧IsPart u o∧Q o H') X.xe s
noncomputable def tNoPart:TO:=fun _ H Q=>Q none H
noncomputable def tPart (t:TE):TO:=fun σ H Q=>t σ H fun x H1=>∃ i,x=.int i∧Q (some i) H1
section
variable {X:Cx}{e:Expr}{te:TE}{lo hi:Option Expr}{tl th:TO}{pos p2:Pos}
theorem po_none:PO X none tNoPart:=by
 intro pins s σ H Q I h
 rw [evalPart_none]
 exact wpAny_pure ⟨none,H,I,.none,h⟩
theorem po_some (h:PE X e te):PO X (some e) (tPart te):=by
 intro pins s σ H Q I hw
 rw [evalPart_some]
 refine thn (h pins s σ H _ I hw) fun u s1 ⟨x,H1,I1,r1,q1⟩=>?_
 obtain ⟨i,rfl,q⟩:=q1
 obtain ⟨t,rfl⟩:=r1
 exact ⟨some i,H1,I1,.int i t,q⟩
def SlR (X:Cx) (r:V→Option Int→Option Int→Hp→VK→Prop):Prop :=
 ∀ (pins:LO) (s:Shared) (σ:St) (H:Hp) (x:V) (v vl vu:Value) (lo hi:Option Int) (sl:Addr) (Q:VK),Inv X pins σ H s→RelV x v→s.heap.IsSliceOf sl vl vu .none→IsPart vl lo→IsPart vu hi→r x lo hi H Q →
  ∃ T id,typeLookup (.type T) "__getitem__"=pure (some (.builtin id))∧s.TypeIs v T∧wpAny (model X.prog X.w) X.A (getItem v (.ref sl)) (EP X pins σ Q) X.xe s
def tSl (r:V→Option Int→Option Int→Hp→VK→Prop) (te:TE) (tl th:TO):TE:=fun σ H Q=>te σ H fun x H1=>tl σ H1 fun l H2=>th σ H2 fun u H3=>r x l u H3 Q
theorem v3g {r:V→Option Int→Option Int→Hp→VK→Prop} (hr:SlR X r) (he:PE X e te) (hl:PO X lo tl) (hu:PO X hi th):PE X (.Subscript e (.Slice lo hi none p2) pos) (tSl r te tl th):=by
 intro pins s σ H Q I h
 refine Subscript_ (thn (he pins s σ H _ I h) fun v s1 ⟨x,H1,I1,r1,q1⟩=>?_)
 refine wpAny_Slice (thn (hl pins s1 σ H1 _ I1 q1) fun vl s2 ⟨l,H2,I2,pl,q2⟩=>thn (hu pins s2 σ H2 _ I2 q2) fun vu s3 ⟨u,H3,I3,pu,q3⟩=>?_)
 rw [evalPart_none]
 refine wpAny_pure ?_
 have I4:Inv X pins σ H3 { s3 with heap:=s3.heap.push { cls:=.type "slice",data:=.fields #[vl,vu,.none] } }:=I3.kept (t':=s3.toks) fun b ob q=>Heap.get?_push_of_some _ q
 obtain ⟨T,id,hT,ht,hg⟩:=hr pins { s3 with heap:=s3.heap.push { cls:=.type "slice",data:=.fields #[vl,vu,.none] } } σ H3 x v vl vu l u s3.heap.objs.size Q I4 r1 (Heap.IsSliceOf.new ..) pl pu q3
 show wpAny (model X.prog X.w) X.A (subscriptTail e (.Slice lo hi none p2) v (.ref s3.heap.objs.size)) (EP X pins σ Q) X.xe { s3 with heap:=s3.heap.push { cls:=.type "slice",data:=.fields #[vl,vu,.none] } }
 exact tail_any (ops:=[.ref s3.heap.objs.size,v]) ht hT hg (by with_unfolding_all rfl)
noncomputable def cutV (xs:List V) (lo hi:Option Int):List V:=(xs.drop (HT.sIx xs.length 0 lo)).take (HT.sIx xs.length xs.length hi - HT.sIx xs.length 0 lo)
theorem u5g (xs:List V) (lo hi:Option Int):(cutV xs lo hi).length≤xs.length:=by
 unfold cutV
 rw [List.length_take,List.length_drop]
 omega
def rSlT (K:W.Frag):V→Option Int→Option Int→Hp→VK→Prop:=fun x lo hi H Q=>∃ a xs,x=.ref a∧SqT K H a xs ∧
 ¬ (HT.sIx xs.length 0 lo=0∧HT.sIx xs.length xs.length hi=xs.length)∧∀ p,H p=none→Q (.ref p) (upd H p (.tup (cutV xs lo hi)))
theorem sl_tup:SlR X (rSlT X.K):=by
 intro pins s σ H x v vl vu lo hi sl Q I rx hs pl pu h
 obtain ⟨a,xs,rfl,hx,hw,q⟩:=h
 cases rx
 obtain ⟨its,r,ht,hz⟩:=I.tuple hx
 have hlen:its.toArray.size=xs.length:=by rw [List.size_toArray];exact r.length.symm
 refine ⟨"tuple",_,PyProof.Rows.slot_tuple_getitem.lookup,ht.typeIs,?_⟩
 refine HT.getItem_tuple_cut ht hs pl pu (by rw [hlen];exact hw) ?_ (by rw [hlen];exact hz)
 rw [hlen]
 refine ⟨.ref s.heap.objs.size,_,I.laid (t':=s.toks) (o:=.tup (cutV xs lo hi)) (fun b ob q=>Heap.get?_push_of_some _ q) (Nat.le_refl _) ?_,rfl,q _ (I.hok.fresh (Nat.le_refl _))⟩
 exact ⟨Nat.le_trans (u5g xs lo hi) hz,_,(r.drop (HT.sIx xs.length 0 lo)).take (HT.sIx xs.length xs.length hi - HT.sIx xs.length 0 lo),IsTup.new _ _⟩
end
noncomputable def ixN (n:Nat) (i:Int):Option Nat:=if 0≤i then (if i<n then some i.toNat else none) else if -(n:Int)≤i then some (i+n).toNat else none
noncomputable def atI {α:Type} (xs:List α) (i:Int):Option α:=(ixN xs.length i).bind fun j=>xs[j]?
theorem ixN_seq {n:Nat}{i:Int}{j:Nat} (h:ixN n i=some j):seqIndex? i n=some j∧j<n∧-(n:Int)≤i∧i<n:=by
 unfold ixN at h
 by_cases h0:0≤i
 ·rw [if_pos h0] at h
  by_cases h1:i<n
  ·rw [if_pos h1] at h
   have e:i.toNat=j:=Option.some.inj h
   exact ⟨by rw [seqIndex_of h0 h1,e],by omega,by omega,h1⟩
  ·rw [if_neg h1] at h;cases h
 ·rw [if_neg h0] at h
  by_cases h1:-(n:Int)≤i
  ·rw [if_pos h1] at h
   have e:(i+n).toNat=j:=Option.some.inj h
   exact ⟨by rw [seqIndex_neg (by omega) h1,e],by omega,h1,by omega⟩
  ·rw [if_neg h1] at h;cases h
theorem u8E {α:Type}{xs:List α}{i:Int}{v:α} (h:atI xs i=some v):∃ j,seqIndex? i xs.length=some j∧xs[j]?=some v∧j<xs.length∧-(xs.length:Int)≤i∧i<xs.length:=by
 unfold atI at h
 cases e:ixN xs.length i with
 | none=>rw [e] at h;cases h
 | some j =>
  rw [e] at h
  obtain ⟨h1,h2,h3,h4⟩:=ixN_seq e
  exact ⟨j,h1,h,h2,h3,h4⟩
theorem u6B {α:Type}{xs:List α}{j:Nat}{v:α} (h:xs[j]?=some v):atI xs (j:Int)=some v:=by
 have hj:j<xs.length:=(List.getElem?_eq_some_iff.mp h).1
 have e:ixN xs.length (j:Int)=some j:=by
  unfold ixN
  rw [if_pos (by omega),if_pos (by omega)];simp
 unfold atI;rw [e];exact h
def PlainIx (b:Expr):Prop:=∀ o i,subscripted b false o i=operate [o,i] (getItem o i)
def IxR (X:Cx) (r:R2):Prop :=
 ∀ (value slice:Expr) (pins:LO) (s:Shared) (σ:St) (H:Hp) (x y:V) (v u:Value) (Q:VK),Inv X pins σ H s→RelV x v→RelV y u→r x y H Q →
  subscripted slice false v u=operate [v,u] (getItem v u)→wpAny (model X.prog X.w) X.A (subscriptTail value slice v u) (EP X pins σ Q) X.xe s
def MtR (X:Cx) (id:String) (r:V→List V→Hp→VK→Prop):Prop :=
 ∀ (pins:LO) (s:Shared) (σ:St) (H:Hp) (x:V) (xs:List V) (v:Value) (us:List Value) (Q:VK),Inv X pins σ H s→RelV x v→Vals xs us→r x xs H Q →
  wpAny (model X.prog X.w) X.A (call (.builtin id) (v::us)) (EP X pins σ Q) X.xe s
section
variable {X:Cx}{a b:Expr}{ta tb:TE}{pos:Pos}
theorem pe_ix {r:R2} (hr:IxR X r) (ha:PE X a ta) (hb:PE X b tb) (hs:PlainIx b):PE X (.Subscript a b pos) (tOp r ta tb):=by
 intro pins s σ H Q I h
 exact Subscript_ (binT ha hb I h fun v u s2 x y H2 I2 rx ry q=>hr a b pins s2 σ H2 x y v u Q I2 rx ry q (hs _ _))
def rIxL (K:W.Frag):R2:=fun x y H Q=>∃ p xs i v,x=.ref p∧y=.int i∧SqL K H p xs∧atI xs i=some v∧Q v H
def rIxT (K:W.Frag):R2:=fun x y H Q=>∃ p xs i v,x=.ref p∧y=.int i∧SqT K H p xs∧atI xs i=some v∧Q v H
def rIxS:R2:=fun x y H Q=>∃ z i c,x=.str z∧y=.int i∧z.length≤sizeLine∧atI z.cps.toList i=some c∧Q (.str ⟨#[c]⟩) H
theorem ix_list:IxR X (rIxL X.K):=by
 intro value slice pins s σ H x y v u Q I rx ry h hs
 obtain ⟨p,xs,i,z,rfl,rfl,hq,he,q⟩:=h
 cases rx
 obtain ⟨t,rfl⟩:=ry
 obtain ⟨its,r,pl,hz⟩:=I.list hq
 obtain ⟨j,h1,h2,h3,h4,h5⟩:=u8E he
 obtain ⟨w,ew,rw'⟩:=r.get h2
 have hl:=r.length
 have hn:=line63
 have fin:EP X pins σ Q w s:=⟨z,H,I,rw',q⟩
 by_cases h0:0≤i
 ·have hj:i.toNat=j:=by
   rw [seqIndex_of h0 h5] at h1
   exact Option.some.inj h1
  exact item_listR pl.isList h0 (by omega) (by rw [hj];simpa using ew) fin hs
 ·have hj:(i+(its.toArray.size:Int)).toNat=j:=by
   rw [seqIndex_neg (by omega) h4] at h1
   rw [List.size_toArray,← hl]
   exact Option.some.inj h1
  exact subscriptTail_builtinR (x:=w) pl.isList.typeIs slot_list_getitem.lookup
   (wpAny_getItem_list_neg (Q:=fun r s'=>r=w∧EP X pins σ Q r s') pl.isList (by omega) (by rw [List.size_toArray] <;> omega) (by omega) (by rw [hj];simpa using ew) ⟨rfl,fin⟩) hs
theorem ix_tup:IxR X (rIxT X.K):=by
 intro value slice pins s σ H x y v u Q I rx ry h hs
 obtain ⟨p,xs,i,z,rfl,rfl,hq,he,q⟩:=h
 cases rx
 obtain ⟨t,rfl⟩:=ry
 obtain ⟨its,r,pl,hz⟩:=I.tuple hq
 obtain ⟨j,h1,h2,h3,h4,h5⟩:=u8E he
 obtain ⟨w,ew,rw'⟩:=r.get h2
 have hl:=r.length
 have hn:=line63
 have fin:EP X pins σ Q w s:=⟨z,H,I,rw',q⟩
 exact subscriptTail_builtinR (x:=w) pl.typeIs slot_tuple_getitem.lookup
  (getItem_tuple (j:=j) (Q:=fun r s'=>r=w∧EP X pins σ Q r s') pl (by omega) (by omega) (by rw [List.size_toArray,← hl];exact h1) (by simpa using ew) ⟨rfl,fin⟩) hs
theorem ix_str:IxR X rIxS:=by
 intro value slice pins s σ H x y v u Q I rx ry h hs
 obtain ⟨z,i,c,rfl,rfl,hz,he,q⟩:=h
 obtain ⟨t,rfl⟩:=rx
 obtain ⟨t',rfl⟩:=ry
 obtain ⟨j,h1,h2,h3,h4,h5⟩:=u8E he
 have hl:z.cps.toList.length=z.length:=by simp [Str.length]
 rw [hl] at h1 h4 h5
 have hn:=line63
 exact tail_any (typeIs_str s z t) slot_str_getitem.lookup (getItem_str (c:=c) (by
  have e1:decide (i < -(2^63:Int))=false:=decide_eq_false (by omega)
  have e2:decide (i ≥ 2^63)=false:=decide_eq_false (by omega)
  rw [e1,e2,Bool.or_false]) (by rw [h1];simpa using h2) ⟨.str ⟨#[c]⟩,H,I.tok _,⟨_,rfl⟩,q⟩) hs
theorem u6K (lo hi:Option Int) (n:Nat):(sliceBounds lo hi none n).1=((HT.sIx n 0 lo:Nat):Int)∧(sliceBounds lo hi none n).2.1=((HT.sIx n n hi:Nat):Int)∧(sliceBounds lo hi none n).2.2=1:=by
 refine ⟨?_,?_,rfl⟩
 ·cases lo with
  | none=>simp [sliceBounds,HT.sIx]
  | some i =>
   simp only [sliceBounds,HT.sIx,Option.getD_none,show (1:Int) > 0 by decide,if_true]
   by_cases h:i<0
   ·simp only [h,if_true] <;> omega
   ·simp only [h,if_false] <;> omega
 ·cases hi with
  | none=>simp [sliceBounds,HT.sIx]
  | some i =>
   simp only [sliceBounds,HT.sIx,Option.getD_none,show (1:Int) > 0 by decide,if_true]
   by_cases h:i<0
   ·simp only [h,if_true] <;> omega
   ·simp only [h,if_false] <;> omega
theorem u5R (its:List Value) (lo hi:Option Int):slicePick its.toArray lo hi none=((its.drop (HT.sIx its.length 0 lo)).take (HT.sIx its.length its.length hi - HT.sIx its.length 0 lo)).toArray:=by
 obtain ⟨h1,h2,h3⟩:=u6K lo hi its.toArray.size
 unfold slicePick
 rw [h1,h2,h3]
 simp only [sliceRange_one,pick_run,List.size_toArray] <;> rfl
def rSlL (K:W.Frag):V→Option Int→Option Int→Hp→VK→Prop:=fun x lo hi H Q=>∃ a xs,x=.ref a∧SqL K H a xs∧∀ p,H p=none→Q (.ref p) (upd H p (.lst (cutV xs lo hi)))
theorem sl_list:SlR X (rSlL X.K):=by
 intro pins s σ H x v vl vu lo hi sl Q I rx hs pl pu h
 obtain ⟨a,xs,rfl,hx,q⟩:=h
 cases rx
 obtain ⟨its,r,ht,hz⟩:=I.list hx
 have hlen:=r.length
 refine ⟨"list",_,slot_list_getitem.lookup,ht.isList.typeIs,?_⟩
 refine wpAny_getItem_list_slice ht.isList hs pl pu .none (by simp) ?_ (by rw [List.size_toArray] <;> omega)
 rw [u5R,← hlen]
 refine ⟨.ref s.heap.objs.size,_,I.laid (t':=s.toks) (o:=.lst (cutV xs lo hi)) (fun b ob q=>Heap.get?_push_of_some _ q) (Nat.le_refl _) ?_,rfl,q _ (I.hok.fresh (Nat.le_refl _))⟩
 exact ⟨Nat.le_trans (u5g xs lo hi) hz,_,0,(r.drop (HT.sIx xs.length 0 lo)).take (HT.sIx xs.length xs.length hi - HT.sIx xs.length 0 lo),Heap.get?_push_size _ rfl⟩
theorem u7h:OpR X (compareOp .NotIn) (fun x y H Q=>∃ i j,x=.str i∧y=.str j∧Q (.bl (!(!(Builtin.Str.occurrences j i 0 j.length 1).isEmpty))) H):=by
 intro pins s σ H x y v u Q I rx ry h
 obtain ⟨i,j,rfl,rfl,q⟩:=h
 obtain ⟨t,rfl⟩:=rx
 obtain ⟨t',rfl⟩:=ry
 exact notIn_str ⟨.bl _,H,I,rfl,q⟩
theorem u7K:CallR X (.type "list") (fun xs H Q=>∃ p ys,xs=[.ref p]∧(SqL X.K H p ys∨SqT X.K H p ys)∧∀ l,H l=none→Q (.ref l) (upd H l (.lst ys))):=by
 intro pins s σ H xs us Q I r h
 obtain ⟨p,ys,rfl,hq,q⟩:=h
 obtain ⟨u,rfl,rx⟩:=vals1 r
 cases rx
 have fin:∀ (its:List Value),Vals ys its→ys.length≤sizeLine→∀ (h':Heap) (c':Nat),(∀ b o',s.heap.get? b=some o'→h'.get? b=some o') →
   h'.get? s.heap.objs.size=some { cls:=.type "list",dict:=none,data:=.seq its.toArray c',slots:=#[] }→EP X pins σ Q (.ref s.heap.objs.size) { s with heap:=h' }:=fun its r' hz h' c' kp e =>
  ⟨.ref s.heap.objs.size,_,I.laid (t':=s.toks) kp (Nat.le_refl _) (show ObjOk X.prog X.w _ h' _ (.lst ys) from ⟨hz,its,c',r',e⟩),rfl,q _ (I.hok.fresh (Nat.le_refl _))⟩
 rcases hq with hq | hq
 ·obtain ⟨its,r',pl,hz⟩:=I.list hq
  have hlen:=r'.length
  obtain ⟨o,ho,hc,n,hd⟩:=pl.isList
  exact call_list_seq p (.inl rfl) ho hc hd (fun h' c' kp e=>fin its r' hz h' c' kp e) (by simp only [List.size_toArray] <;> omega)
 ·obtain ⟨its,r',pl,hz⟩:=I.tuple hq
  have hlen:=r'.length
  obtain ⟨o,ho,hc,n,hd⟩:=pl
  exact call_list_seq p (.inr rfl) ho hc hd (fun h' c' kp e=>fin its r' hz h' c' kp e) (by simp only [List.size_toArray] <;> omega)
theorem u3s:CallR X (.type "tuple") (fun xs H Q=>∃ p ys,xs=[.ref p]∧((SqL X.K H p ys∧∀ l,H l=none→Q (.ref l) (upd H l (.tup ys)))∨(SqT X.K H p ys∧Q (.ref p) H))):=by
 intro pins s σ H xs us Q I r h
 obtain ⟨p,ys,rfl,h⟩:=h
 obtain ⟨u,rfl,rx⟩:=vals1 r
 cases rx
 rcases h with ⟨hq,q⟩ | ⟨hq,q⟩
 ·obtain ⟨its,r',pl,hz⟩:=I.list hq
  have hlen:=r'.length
  refine call_tuple_list pl.isList (fun h' kp=>?_) (by simp only [List.size_toArray] <;> omega)
  have I1:Inv X pins σ H { s with heap:=h' }:=I.kept (t':=s.toks) kp
  have I2:Inv X pins σ (upd H h'.objs.size (.tup ys)) { s with heap:=h'.push { cls:=.type "tuple",data:=.seq its.toArray } } :=
   I1.laid (t':=s.toks) (fun b o e=>Heap.get?_push_of_some _ e) (Nat.le_refl _) (show ObjOk X.prog X.w _ _ _ (.tup ys) from ⟨hz,its,r',IsTup.new _ _⟩)
  exact ⟨.ref h'.objs.size,_,I2,rfl,q _ (I1.hok.fresh (Nat.le_refl _))⟩
 ·obtain ⟨its,r',pl,hz⟩:=I.tuple hq
  exact call_tuple_same pl ⟨.ref p,H,I,rfl,q⟩
def tyV (K:W.Frag) (T:String) (x:V) (H:Hp):Prop:=match x with
 | .str _=>T="str"
 | .int _=>T="int"
 | .ref p=>(T="list"∧∃ xs,SqL K H p xs)∨(T="tuple"∧∃ o,K.lookup p=some o∧o.cls=.type "tuple"∧o.dict=none) ∨
   (T="dict"∧((∃ kvs,H p=some (.dK kvs))∨∃ kvs,H p=some (.dT kvs)))∨(T="set"∧∃ S n,H p=some (.set S n))
 | _=>False
theorem v4a {pins:LO}{σ:St}{H:Hp}{s:Shared}{T:String}{x:V}{v:Value} (I:Inv X pins σ H s) (r:RelV x v) (ty:tyV X.K T x H) :
  s.TypeIs v T∧∀ a,v=.ref a→∃ ob,s.heap.get? a=some ob∧ob.dict=none:=by
 cases x with
 | str z =>
  obtain ⟨t,rfl⟩:=r
  cases (show T="str" from ty)
  exact ⟨typeIs_str s z t,fun _ e=>nomatch e⟩
 | int i =>
  obtain ⟨t,rfl⟩:=r
  cases (show T="int" from ty)
  exact ⟨typeIs_int s i t,fun _ e=>nomatch e⟩
 | ref p =>
  cases r
  rcases ty with ⟨rfl,xs,hq⟩ | ⟨rfl,o,hk,hc,hd⟩ | ⟨rfl,hk⟩ | ⟨rfl,S,n,hk⟩
  ·obtain ⟨its,_,pl,_⟩:=I.list hq
   refine ⟨pl.isList.typeIs,fun a e=>?_⟩
   cases e
   obtain ⟨o,n,e,c,hd,_⟩:=pl
   exact ⟨o,e,hd⟩
  ·refine ⟨⟨o,I.kIn p o hk,hc⟩,fun a e=>?_⟩
   cases e
   exact ⟨o,I.kIn _ o hk,hd⟩
  ·have z:∃ o,s.heap.get? p=some o∧o.ExactDict:=by
    rcases hk with ⟨kvs,hk⟩ | ⟨kvs,hk⟩
    ·obtain ⟨_,_,_,_,o,_,_,e,ex,_⟩:=I.hok p _ hk
     exact ⟨o,e,ex⟩
    ·obtain ⟨_,_,_,_,o,_,_,e,ex,_⟩:=I.hok p _ hk
     exact ⟨o,e,ex⟩
   obtain ⟨o,e,ex⟩:=z
   refine ⟨⟨o,e,ex.1⟩,fun a e2=>?_⟩
   cases e2
   exact ⟨o,e,ex.2.1⟩
  ·obtain ⟨o,_,_,_,e,ex,_⟩:=I.hok p _ hk
   refine ⟨⟨o,e,ex.1⟩,fun a e2=>?_⟩
   cases e2
   exact ⟨o,e,ex.2.1⟩
 | _=>exact False.elim ty
def tBM0 (K:W.Frag) (T:String) (r:V→List V→Hp→VK→Prop) (to:TE):TE:=fun σ H Q=>to σ H fun x H1=>tyV K T x H1∧r x [] H1 Q
def tBM (K:W.Frag) (T:String) (r:V→List V→Hp→VK→Prop) (to:TE) (t:TA):TE:=fun σ H Q=>to σ H fun x H1=>tyV K T x H1∧t σ H1 fun xs H2=>r x xs H2 Q
variable {o e:Expr}{es:List Expr}{to:TE}{t:TA}{name:Str}{apos cpos:Pos}{T id:String}{r:V→List V→Hp→VK→Prop}
theorem pe_bm0 (pa:PlainAttrs T) (slot:Slot T name id) (hty:typeOf (.builtin id)=pure (.type "method_descriptor")) (hm:MtR X id r) (ho:PE X o to)
  (hbase:attributeBase o name X.env (eval o X.env)=eval o X.env:=by rfl) (hline:(apos.endLine==cpos.line)=true:=by rfl):PE X (.Call (.Attribute o name apos) [] [] cpos) (tBM0 X.K T r to):=by
 intro pins s σ H Q I h
 refine wpAny_Call_method0_late hbase hline (thn (ho pins s σ H _ I h) fun v s1 ⟨x,H1,I1,r1,ty,q1⟩=>?_)
 obtain ⟨h1,h2⟩:=v4a I1 r1 ty
 exact ⟨T,id,pa,slot,hty,h1,h2,Calls.callWith_builtin rfl (PySem.evalArgs_none (hm pins s1 σ H1 x [] v [] Q I1 r1 .nil q1))⟩
theorem pe_bm (pa:PlainAttrs T) (slot:Slot T name id) (hty:typeOf (.builtin id)=pure (.type "method_descriptor")) (hm:MtR X id r) (ho:PE X o to) (ha:PA X (e::es) t)
  (hbase:attributeBase o name X.env (eval o X.env)=eval o X.env:=by rfl)
  (hfew:((backTo cpos (starEach (e::es) X.env)).all (fun x=>!x.1)&&(backToKw cpos (keywordEach [] X.env)).all (fun x=>x.1.isSome)
   && decide ((e::es).length+([]:List Keyword).length+(if ([]:List Keyword).isEmpty then 0 else 1)<30))=true:=by rfl)
  (hline:(apos.endLine==cpos.line)=true:=by rfl) (hs:starEach (e::es) X.env=(false,eval e X.env)::starEach es X.env:=by rfl) (hplain:(backTo cpos (starEach es X.env)).any (·.1)=false:=by rfl) :
  PE X (.Call (.Attribute o name apos) (e::es) [] cpos) (tBM X.K T r to t):=by
 intro pins s σ H Q I h
 refine wpAny_Call_method_late hbase hfew hline rfl (thn (ho pins s σ H _ I h) fun v s1 ⟨x,H1,I1,r1,ty,q1⟩=>?_)
 obtain ⟨h1,h2⟩:=v4a I1 r1 ty
 refine ⟨T,id,pa,slot,hty,h1,h2,?_⟩
 have hA:=ha cpos pins s1 σ H1 _ I1 q1
 rw [hs] at hA ⊢
 refine Calls.callWith_builtin (by show (false||(backTo cpos (starEach es X.env)).any (·.1))=false;rw [hplain] <;> rfl) (Calls.evalArgs_plain ?_)
 exact thn hA fun us s2 ⟨vs,H2,I2,r2,q2⟩=>hm pins s2 σ H2 x vs v us Q I2 r1 r2 q2
end
def MtM (X:Cx) (id:String) (r:V→List V→Hp→VK→Prop):Prop :=
 ∀ (pins:LO) (s:Shared) (σ:St) (H:Hp) (x:V) (xs:List V) (v:Value) (us:List Value) (Q:VK),Inv X pins σ H s→RelV x v→Vals xs us→r x xs H Q →
  wpAny (model X.prog X.w) X.A (call (.builtin id) (v::us)) (EP X pins σ Q) X.xe s
theorem Vals.one:∀ {x:V}{us:List Value},Vals [x] us→∃ u,us=[u]∧RelV x u
 | _,_,.cons r .nil=>⟨_,rfl,r⟩
theorem Vals.zero:∀ {us:List Value},Vals [] us→us=[]
 | _,.nil=>rfl
theorem Vals.dropLast {xs:List V}{us:List Value} (h:Vals xs us):Vals xs.dropLast us.dropLast:=by
 induction h with
 | nil=>exact .nil
 | cons r t ih =>
  cases t with
  | nil=>exact .nil
  | cons q t'=>exact .cons r ih
theorem Vals.rep {xs:List V}{us:List Value} (h:Vals xs us):∀ k:Nat,Vals (List.replicate k xs).flatten (List.replicate k us).flatten
 | 0=>.nil
 | k+1=>by
  rw [List.replicate_succ,List.replicate_succ,List.flatten_cons,List.flatten_cons]
  exact Vals.append h (Vals.rep h k)
theorem v0E {α:Type} (l:List α):l.eraseIdx (l.length - 1)=l.dropLast:=by
 induction l with
 | nil=>rfl
 | cons a r ih =>
  cases r with
  | nil=>rfl
  | cons b r =>
   have e:(a::b::r).length - 1=((b::r).length - 1)+1:=by
    have h1:(a::b::r).length=r.length+2:=rfl
    have h2:(b::r).length=r.length+1:=rfl
    omega
   rw [e,List.eraseIdx_cons_succ,ih]
   all_goals rfl
theorem u4W (its:List Value):∀ (k:Nat) (acc:List Value),
  List.foldl (fun x1 x2=>x1++x2) acc.toArray (List.replicate k its.toArray)=(acc++(List.replicate k its).flatten).toArray
 | 0,acc=>by simp
 | k+1,acc=>by
  have e:acc.toArray++its.toArray=(acc++its).toArray:=by simp
  have e2:(acc++its)++(List.replicate k its).flatten=acc++(List.replicate (k+1) its).flatten:=by
   rw [List.replicate_succ,List.flatten_cons,List.append_assoc]
  rw [← e2,← u4W its k (acc++its),← e,List.replicate_succ,List.foldl_cons]
section
variable {X:Cx}{pins:LO}{σ:St}{H:Hp}{s:Shared}{l b:Addr}{xs ys zs:List V}
theorem Inv.lset {its its':List Value}{n:Nat}{f:Array Value→Array Value}{t':Nat} (I:Inv X pins σ H s) (hH:H l=some (.lst xs))
  (e:s.heap.get? l=some { cls:=.type "list",data:=.seq its.toArray n }) (hf:f its.toArray=its'.toArray) (hv:Vals ys its') (hz:ys.length≤sizeLine) :
  Inv X pins σ (upd H l (.lst ys)) { s with heap:=s.heap.update l (Obj.mapSeq f),toks:=t' }:=by
 have q:=PySem.IsL.update e f
 rw [hf] at q
 refine I.write (x:=l) (e:=l) (by rw [hH];exact trivial) (.inl rfl) (fun b' u hb hu=>(Heap.get?_update_other s.heap (Obj.mapSeq f) (Ne.symm hb)).trans hu) ⟨_,q⟩ ?_
 exact ⟨hz,its',_,hv,q⟩
theorem Inv.lnew {its:List Value}{t':Nat} (I:Inv X pins σ H s) (hv:Vals ys its) (hz:ys.length≤sizeLine) :
  Inv X pins σ (upd H s.heap.objs.size (.lst ys)) { s with heap:=s.heap.push { cls:=.type "list",data:=.seq its.toArray },toks:=t' } :=
 I.laid (fun _ _ q=>Heap.get?_push_of_some _ q) (Nat.le_refl _) ⟨hz,its,0,hv,Heap.get?_push_size _ rfl⟩
theorem Inv.fresh (I:Inv X pins σ H s):H s.heap.objs.size=none:=I.hok.fresh (Nat.le_refl _)
theorem Inv.lstM (I:Inv X pins σ H s) (hH:H l=some (.lst xs)):xs.length≤sizeLine∧∃ (its:List Value) (n:Nat),Vals xs its∧xs.length=its.length∧s.heap.get? l=some { cls:=.type "list",data:=.seq its.toArray n }:=by
 obtain ⟨z,its,n,r,e⟩:=I.hok l _ hH
 exact ⟨z,its,n,r,r.length,e⟩
theorem notLongL {n:Nat} (h:n≤sizeLine):Builtin.List.listTooLong n=false:=by
 unfold Builtin.List.listTooLong
 exact decide_eq_false (by omega)
end
section
variable {X:Cx}
def rAppend:V→List V→Hp→VK→Prop:=fun x vs H Q=>∃ l xs y,x=.ref l∧vs=[y]∧H l=some (.lst xs)∧xs.length<sizeLine∧Q .non (upd H l (.lst (xs++[y])))
theorem u7l:MtM X "list.append" rAppend:=by
 intro pins s σ H x vs v us Q I rx rv h
 obtain ⟨l,xs,y,rfl,rfl,hH,hz,q⟩:=h
 cases rx
 obtain ⟨u,rfl,ru⟩:=rv.one
 obtain ⟨z,its,n,r,hl,e⟩:=I.lstM hH
 refine call_meets F.slot_list_append ⟨_,e,rfl⟩ F.entry_list_append (F.args_list_append_2 _ _) (PySem.list_append l its.toArray n u (by rw [List.size_toArray];omega)) ⟨e,?_⟩
 refine ⟨.non,_,I.lset (its':=its++[u]) hH e (by simp) (r.append (.cons ru .nil)) ?_,rfl,q⟩
 rw [List.length_append,List.length_singleton]
 omega
def rPop:V→List V→Hp→VK→Prop:=fun x vs H Q=>∃ l xs y,x=.ref l∧vs=[]∧H l=some (.lst xs)∧xs[xs.length - 1]?=some y∧Q y (upd H l (.lst xs.dropLast))
theorem mt_pop:MtM X "list.pop" rPop:=by
 intro pins s σ H x vs v us Q I rx rv h
 obtain ⟨l,xs,y,rfl,rfl,hH,hy,q⟩:=h
 cases rx
 have hus:=rv.zero
 subst hus
 obtain ⟨z,its,n,r,hl,e⟩:=I.lstM hH
 obtain ⟨u,hu,ru⟩:=r.get hy
 have hy':its.toArray[its.toArray.size - 1]?=some u:=by
  show its.toArray[its.length - 1]?=some u
  rw [← Array.getElem?_toList,← hl]
  exact hu
 refine call_meets F.slot_list_pop ⟨_,e,rfl⟩ F.entry_list_pop (F.args_list_pop_1 _) (MeetsSeq.list_pop_last l its.toArray n u hy' (by rw [List.size_toArray];omega)) ⟨e,?_⟩
 refine ⟨y,_,I.lset (its':=its.dropLast) hH e ?_ r.dropLast ?_,ru,q⟩
 ·show its.toArray.eraseIdxIfInBounds (its.toArray.size - 1)=its.dropLast.toArray
  rw [List.size_toArray,List.eraseIdxIfInBounds_toArray,v0E]
 ·rw [List.length_dropLast]
  omega
def rClear:V→List V→Hp→VK→Prop:=fun x vs H Q=>∃ l xs,x=.ref l∧vs=[]∧H l=some (.lst xs)∧Q .non (upd H l (.lst []))
theorem v3u:MtM X "list.clear" rClear:=by
 intro pins s σ H x vs v us Q I rx rv h
 obtain ⟨l,xs,rfl,rfl,hH,q⟩:=h
 cases rx
 have hus:=rv.zero
 subst hus
 obtain ⟨z,its,n,r,hl,e⟩:=I.lstM hH
 refine call_meets F.slot_list_clear ⟨_,e,rfl⟩ F.entry_list_clear (F.args_list_clear_1 _) (AutoSeq1.list_clear_list_0 l its.toArray n (by rw [List.size_toArray];omega)) ⟨e,?_⟩
 exact ⟨.non,_,I.lset (its':=[]) (ys:=[]) hH e rfl .nil (Nat.zero_le _),rfl,q⟩
theorem v1F {α:Type} (xs:List α) (k:Nat):(List.replicate k xs).flatten.length=k*xs.length:=by
 induction k with
 | zero=>simp
 | succ k ih=>rw [List.replicate_succ,List.flatten_cons,List.length_append,ih,Nat.succ_mul,Nat.add_comm]
end
end L2
namespace Att
open PySem PySem.W PySem.Calls PyProof.Rows
theorem u4U {P:Params}{h:Heap}:∀ (ns:List Int) (vs:List Value),WellAll P h vs (ns.map WData.int)→IntsAre vs ns:=by
 intro ns
 induction ns with
 | nil =>
  intro vs w
  rw [List.map_nil] at w
  cases w
  exact .nil
 | cons n ns ih =>
  intro vs w
  rw [List.map_cons] at w
  cases w with
  | cons a b =>
   cases a
   exact .cons _ _ (ih _ b)
theorem v1b {l:OpenLaw}{n:Nat} (hn:l.most=some n) {P:Params}{h:Heap}{args:List WData}{vals:List Value}
  (hpre:l.row.toRowW.claim.pre args=true) (hwl:WellAll P h vals args) :
  ∃ a vs ns,vals=[Value.ref a]∧args=[WData.list (ns.map WData.int)]∧h.get? a=some { cls:=.type "list",data:=.seq vs.toArray }∧IntsAre vs ns∧ns.length≤n:=by
 have hsh:WShape.hasAll [] args [.list .int]=true:=(pre_splitW hpre).1
 have hc:l.pre.holds [] { args:=args }=true:=(pre_splitW hpre).2
 obtain ⟨d,r,rfl,h1,h2⟩:=hasAllW_cons hsh
 obtain rfl:=hasAllW_nil h2
 obtain ⟨xs,rfl,h3⟩:=hasW_list h1
 obtain ⟨ns,rfl⟩:=items_int h3
 have hlen:ns.length≤n:=by
  unfold OpenLaw.pre at hc
  have h4:(WTm.not (.lt (.lit (.int (n:Int))) (.len (.arg 0)))).holds [] { args:=[.list (ns.map .int)] }=true:=by
   have h4:=(holds_andW hc).1
   rw [hn] at h4
   exact h4
  have h5:=condW_of h4 (w_not (w_lt w_lit (w_len_list (w_arg rfl))))
  rw [List.length_map] at h5
  refine Nat.le_of_not_lt fun q=>?_
  have q':(n:Int)<((ns.length:Nat):Int):=by omega
  first
   | (rw [decide_eq_true q'] at h5;exact absurd h5 (by decide))
   | (simp at h5;omega)
 cases hwl with
 | cons w1 w2 =>
  cases w2
  cases w1 with
  | list ho hall=>exact ⟨_,_,ns,rfl,rfl,ho,u4U ns _ hall,hlen⟩
theorem v1j (l:OpenLaw) (args:List WData):l.row.toRowW.claim.post args (.bool true) args=true :=
 postW_of (r:=l.row.toRowW) (X:=(true==true))
  (show WShape.has [] (.bool true) .bool=true by first | rfl | decide | simp [WShape.has,WShape.arms,WShape.armsAll])
  (show (WTm.eq .res (.lit (.bool true))).value [] { args:=args,res:=some (.bool true),after:=args }=some (.bool (true==true)) from w_eq_bool (w_res rfl) w_lit) rfl
theorem attach_call {l:OpenLaw}{n:Nat}{q:Program}{loose:List Str}{XP:(Str→Option Value)→Heap→Prop}{YP:World→Heap→Prop}{d:DefRec}
  (hn:l.most=some n) (hdf:d.params.defaults=[])
  (call:∀ (w:World) (s₀ s₁:Shared) (mg mb:MG) (fa:Addr) (o:Obj) (pm cd doc:Value) (a:Addr) (vs:List Value) (ns:List Int),
   Ground q loose [] XP w s₀ mg mb s₁.heap→YP w s₁.heap →
   s₁.heap.get? fa=some o→o.data=.func (docDef d.name d.params d.body d.scope pm cd doc)→s₁.heap.CodeRec cd d.name→mg d.name=some (.ref fa) →
   s₁.heap.get? a=some { cls:=.type "list",data:=.seq vs.toArray }→IntsAre vs ns→ns.length≤n→s₁.gens=#[] →
   codeAny (model l.prog w) callerA (.call (.ref fa) ⟨[.ref a],[]⟩) (fun r s'=>r=.ok (.ret (.bool true))∧OldK s₁.heap s'.heap∧s'.os=s₁.os∧AllBare s'.gens) s₁) :
  WalkO q loose XP YP l.row.toRowW d [] (fun f vs=>PySem.call f vs):=by
 intro w s₀ s₁ mg mb G Y fa o pm cd doc dV kV ho hd hcd hD hmg hg args vals as hpre hlay hrd hwl hlo
 obtain rfl:dV=.none:=Dflts.none hD hdf
 obtain rfl:kV=.none:=Dflts.noKw hD
 obtain ⟨a,vs,ns,rfl,rfl,hobj,hints,hlen⟩:=v1b hn hpre hwl
 refine enter_call (codeAny_mono (call w s₀ s₁ mg mb fa o pm cd doc a vs ns G Y ho (fd_plain hd) hcd hmg hobj hints hlen hg) fun r s' hq=>?_)
 obtain ⟨rfl,h2,h3,h4⟩:=hq
 exact ⟨.inl ⟨.bool true,.bool true,[],rfl,fun _=>rfl,.bool true,v1j l _,fun _=>⟨List.Pairwise.nil,fun _ hm=>(nomatch hm)⟩⟩,h2,h3,h4⟩
end Att
namespace L2
open PySem PySem.Spec PyProof.Rows
theorem u6D:∀ {vs:List Value}{ns:List Int},IntsAre vs ns→Vals (ns.map V.int) vs
 | _,_,.nil=>.nil
 | _,_,.cons n t h=>.cons ⟨t,rfl⟩ (u6D h)
def Only (H:Hp):Prop:=∀ b,H b=none∨∃ o xs,H b=some (.frz o (.lst xs))
theorem v3A {P:Program}{w:World}{K:W.Frag}{mg mb:MG}{CX:CXT}{k:Nat}{fa a:Addr}{fd:FuncData}{x:Str}{sp:Sp}{s₁:Shared}{vs:List Value}{ns:List Int}
  (KX:K.In s₁.heap) (hns:s₁.heap.Ns mainGlobals mg) (hb:s₁.heap.Ns builtinsNs mb) (hbb:∀ x:Str,x≠"__name__"→mb x=bootBuiltins x) (hlim:s₁.heap.NoLimit) (hg:s₁.gens=#[])
  (ha:s₁.heap.get? a=some { cls:=.type "list",data:=.seq vs.toArray }) (hi:IntsAre vs ns) (hl:ns.length≤sizeLine) (hr:Room k callerA)
  (F:∀ base:Heap,K.In base→base.Ns mainGlobals mg→FnOk P w K mg base CX k fa fd [x] sp) (hbind:∀ (s:Shared) (u:Value),BindsTo s fd ⟨[u],[]⟩ [(x,u)])
  (hsp:∀ H:Hp,Only H→SqL K H a (ns.map V.int)→sp [.ref a] H (fun v _=>v=.bl true) fun _ _ _=>False)
  (hCX:∀ H e s',CX [] H s₁ (fun _ _ _=>False) e s'→False) :
  codeAny (model P w) callerA (.call (.ref fa) ⟨[.ref a],[]⟩) (fun r s'=>r=.ok (.ret (.bool true))∧OldK s₁.heap s'.heap∧s'.os=s₁.os∧AllBare s'.gens) s₁:=by
 have rv:=u6D hi
 have lenV:=hi.length
 have core:∀ H:Hp,Only H→SqL K H a (ns.map V.int)→HOk P w H s₁.heap→(∀ b,H b≠none→b=a)→(H a≠none→K.lookup a=none) →
   codeAny (model P w) callerA (.call (.ref fa) ⟨[.ref a],[]⟩) (fun r s'=>r=.ok (.ret (.bool true))∧OldK s₁.heap s'.heap∧s'.os=s₁.os∧AllBare s'.gens) s₁:=by
  intro H hO hS hok hA hK
  have base_of:∀ {b:Addr}{o:Obj},s₁.heap.get? b=some o→H b=none→(hidT s₁.heap H).get? b=some o:=fun e n=>v3H e n
  have noA:∀ {b:Addr}{o:Obj}{es:Array DictEntry}{ep:Nat},s₁.heap.get? b=some o→o.data=.dict es ep→H b=none:=fun {b o es ep} e d=>by
   cases q:H b with
   | none=>rfl
   | some u =>
    have e':b=a:=hA b (by rw [q];simp)
    subst e'
    rw [ha] at e;cases e
    have d':Data.seq vs.toArray _=Data.dict es ep:=d
    cases d'
  have nsK:∀ {b:Addr}{m:MG},s₁.heap.Ns b m→(hidT s₁.heap H).Ns b m:=fun {b m} ⟨o,es,ep,e,d,r⟩=>⟨o,es,ep,base_of e (noA e d),d,r⟩
  have hKb:K.In (hidT s₁.heap H):=fun b o e=>base_of (KX b o e) (by
   cases q:H b with
   | none=>rfl
   | some u =>
    have e':b=a:=hA b (by rw [q];simp)
    subst e'
    rw [hK (by rw [q];simp)] at e;cases e)
  have hM:Mod K mg (hidT s₁.heap H):=⟨hKb,nsK hns,⟨mb,nsK hb,hbb⟩,let ⟨mc,h1,h2⟩:=hlim;⟨mc,nsK h1,h2⟩⟩
  have e0:Env0 P w K mg (hidT s₁.heap H) callerA [] s₁ H:=⟨rfl,hM,fun b o e=>of_hidT e,Nat.le_of_eq (v1T _ _),trivial,fun b hb=>absurd (show b∈([]:List Addr) from hb) (by simp),hok,.of_eq hg⟩
  refine codeAny_mono ((F _ hKb (nsK hns)).run callerA [] s₁ H ⟨[.ref a],[]⟩ [.ref a] [.ref a] _ _ hr e0 (hbind s₁ (.ref a)) (.cons rfl .nil) (hsp H hO hS)) fun r s' h=>?_
  cases r with
  | error e=>exact (hCX H e s' h).elim
  | ok fl =>
   cases fl with
   | next=>exact False.elim h
   | brk=>exact False.elim h
   | cont=>exact False.elim h
   | ret u =>
    obtain ⟨v,H',os,bare,un,hok',r',q⟩:=h
    have q':v=.bl true:=q
    subst q'
    obtain rfl:u=Value.bool true:=r'
    refine ⟨rfl,OldK.of_keep fun b o e=>?_,os,bare⟩
    cases q:H b with
    | none=>exact un.keep b o e q (by intro z;exact absurd (show b∈([]:List Addr) from z) (by simp)) (by simp)
    | some u =>
     rcases hO b with z | ⟨ob,xs,z⟩
     ·rw [q] at z;cases z
     ·have z2:=un.frzs b ob _ z
      obtain ⟨e1,_⟩:=hok b _ z
      obtain ⟨e2,_⟩:=hok' b _ z2
      rw [e] at e1;cases e1
      exact e2
 cases hk:K.lookup a with
 | some o =>
  have e:=KX a o hk
  rw [ha] at e
  cases e
  refine core (fun _=>none) (fun _=>.inl rfl) (.inr ⟨_,vs.toArray,_,hk,rfl,rfl,rfl,by rw [List.size_toArray,lenV];exact hl,by simpa using rv⟩) (fun b u z=>by have z':(none:Option HO)=some u:=z;cases z') (fun b z=>absurd rfl z) fun z=>absurd rfl z
 | none =>
  refine core (fun b=>if b=a then some (.frz { cls:=.type "list",data:=.seq vs.toArray } (.lst (ns.map V.int))) else none) (fun b=>?_) (.inl (.inr ⟨{ cls:=.type "list",data:=.seq vs.toArray },if_pos rfl⟩)) (fun b u z=>?_) (fun b z=>?_) fun _=>hk
  ·by_cases hb:b=a
   ·exact .inr ⟨_,_,if_pos hb⟩
   ·exact .inl (if_neg hb)
  ·by_cases hb:b=a
   ·have z':=(if_pos hb).symm.trans z
    cases z'
    subst hb
    exact ⟨ha,by rw [List.length_map];exact hl,vs,_,rv,ha⟩
   ·have z':=(if_neg hb).symm.trans z
    cases z'
  ·by_cases hb:b=a
   ·exact hb
   ·exact absurd (if_neg hb) z
theorem walk_of {l:W.OpenLaw}{n k:Nat}{q:Program}{loose:List Str}{XP:(Str→Option Value)→Heap→Prop}{YP:World→Heap→Prop}{d:DefRec}{K:Params→W.Frag}{CX:World→CXT}{sp:World→Sp}{x:Str}
  (hn:l.most=some n) (hn2:n≤sizeLine) (hdf:d.params.defaults=[]) (hr:Room k callerA)
  (hY:∀ (w:World) (h:Heap),YP w h→(K w.params).In h)
  (F:∀ (w:World) (mg:MG) (fa:Addr) (h:Heap),(K w.params).In h→h.Ns mainGlobals mg→mg d.name=some (.ref fa) →
   ∃ fd:FuncData,(∀ (s:Shared) (u:Value),BindsTo s fd ⟨[u],[]⟩ [(x,u)]) ∧
    ∀ base:Heap,(K w.params).In base→base.Ns mainGlobals mg→FnOk l.prog w (K w.params) mg base (CX w) k fa fd [x] (sp w))
  (hsp:∀ (w:World) (H:Hp) (a:Addr) (ns:List Int),ns.length≤n→Only H→SqL (K w.params) H a (ns.map V.int)→sp w [.ref a] H (fun v _=>v=.bl true) fun _ _ _=>False)
  (hCX:∀ (w:World) (H:Hp) (s:Shared) (e:Value) (s':Shared),CX w [] H s (fun _ _ _=>False) e s'→False) :
  W.WalkO q loose XP YP l.row.toRowW d [] (fun f vs=>PySem.call f vs):=by
 refine Att.attach_call hn hdf fun w s₀ s₁ mg mb fa o pm cd doc a vs ns G Y ho hd hcd hmg hobj hints hlen hg=>?_
 have KX:=hY w _ Y
 obtain ⟨fd,hb,hF⟩:=F w mg fa _ KX G.T.g hmg
 exact v3A KX G.T.g G.T.b G.T.builtins G.T.nolimit hg hobj hints (Nat.le_trans hlen hn2) hr hF hb (fun H hO hS=>hsp w H a ns hlen hO hS) fun H e s'=>hCX w H s₁ e s'
noncomputable def defArgs (s:Stmt):Arguments:=match s with
 | .FunctionDef _ a _ _ _ _ _ _ _ _=>a
 | _=>{ posonlyargs:=[],args:=[],vararg:=none,kwonlyargs:=[],kw_defaults:=[],kwarg:=none,defaults:=[] }
noncomputable def defBody (s:Stmt):List Stmt:=match s with
 | .FunctionDef _ _ b _ _ _ _ _ _ _=>b
 | _=>[]
noncomputable def defScope (s:Stmt):Scope:=match s with
 | .FunctionDef _ _ _ _ _ _ sc _ _ _=>sc
 | _=>{ kind:=.function,names:=[],isGenerator:=false,isCoroutine:=false }
abbrev CX0:CXT:=fun _ _ _ _ _ _=>False
abbrev E0:XK:=fun _ _ _=>False
theorem pass0 {X:Cx}:Passes CX0 X E0:=fun _ _ _ _ _ _ _ h=>h.elim
structure Fun (K:W.Frag) (x qual:Str) (st:Stmt) (f:Addr) (fd:FuncData):Prop where
 ex:∃ (oc:Value) (od:Option Addr) (kV doc pm:Value) (an:Option Addr) (cdv ct:Value) (osl:Array (Option Value)),
  fd=W.fnOf x qual (defArgs st) (defBody st) (defScope st) .none kV doc pm an cdv ct∧K.lookup f=some ⟨oc,od,.func fd,osl⟩∧W.codeIn K cdv qual=true
 kp:W.keepIn K (.ref f)=true
section
variable {P:Program}{w:World}{K:W.Frag}{mg:MG}{base:Heap}
theorem Fun.ok {x qual:Str}{st:Stmt}{f:Addr}{fd:FuncData}{N ps:List Str}{k:Nat}{sp:Sp} (F:Fun K x qual st f fd) (S:FnScope N ps (defScope st)) (len:∀ vs H Q E,sp vs H Q E→vs.length=ps.length)
  (hbody:∀ (cdv:Value) (A:Around) (outer:List Env) (s:Shared) (H:Hp) (vs:List V) (Q:VK) (E:XK),Room k (A.deeper (envOfC qual (defScope st) s.heap.objs.size f cdv))→sp vs H Q E →
   ∃ t,PSs (cxOf CX0 P w K mg base N qual (defScope st) f cdv A outer s H E).nox (defBody st) t∧t { nx:=fun _ H'=>Q .non H',rt:=Q } (start N vs) H):FnOk P w K mg base CX0 (k+1) f fd ps sp:=by
 obtain ⟨oc,od,kV,doc,pm,an,cdv,ct,osl,rfl,lk,hcd⟩:=F.ex
 refine v3N lk hcd S len fun A outer s H vs Q E hr hsp=>?_
 obtain ⟨t,h,q⟩:=hbody cdv A outer s H vs Q E hr hsp
 exact ⟨t,h.nox,q⟩
theorem Fun.binds {x qual:Str}{st:Stmt}{f:Addr}{fd:FuncData}{ps:List Str} (F:Fun K x qual st f fd)
  (h:∀ (kV doc pm:Value) (an:Option Addr) (cdv ct:Value) (us:List Value),us.length=ps.length→bindArgs (W.fnOf x qual (defArgs st) (defBody st) (defScope st) .none kV doc pm an cdv ct) ⟨us,[]⟩=pure (ps.zip us)):Binds K fd ps []:=by
 obtain ⟨oc,od,kV,doc,pm,an,cdv,ct,osl,rfl,lk,hcd⟩:=F.ex
 exact .all (h kV doc pm an cdv ct)
theorem u9o {x qual:Str}{st:Stmt}{f:Addr}{oc:Value}{od an:Option Addr}{osl:Array (Option Value)}{kV doc pm cdv ct:Value} (l:K.lookup f=some ⟨oc,od,.func (W.fnOf x qual (defArgs st) (defBody st) (defScope st) .none kV doc pm an cdv ct),osl⟩)
  (c:W.codeIn K cdv qual=true) (k:W.keepIn K (.ref f)=true):Fun K x qual st f (W.fnOf x qual (defArgs st) (defBody st) (defScope st) .none kV doc pm an cdv ct):=⟨⟨oc,od,kV,doc,pm,an,cdv,ct,osl,rfl,l,c⟩,k⟩
end
theorem hu_of {A:Around}{k:Nat} (hr:Room k A):A.units+1<cLine:=Nat.lt_of_le_of_lt (Nat.add_le_add_left (by decide:1≤64) _) hr.units
def Same (H H':Hp):Prop:=∀ b o,H b=some o→H' b=some o
theorem Same.refl (H:Hp):Same H H:=fun _ _ h=>h
theorem Same.trans {H H1 H2:Hp} (a:Same H H1) (b:Same H1 H2):Same H H2:=fun c o h=>b c o (a c o h)
theorem Same.free {H H':Hp} (e:Same H H') {l:Addr} (h:H' l=Option.none):H l=Option.none:=by
 cases q:H l with
 | none=>rfl
 | some o =>
  rw [e l o q] at h
  cases h
theorem Same.seq {K:W.Frag}{H H':Hp}{a:Addr}{xs:List V} (e:Same H H') (h:SqL K H a xs):SqL K H' a xs:=by
 rcases h with (h | ⟨o,h⟩) | h
 ·exact .inl (.inl (e _ _ h))
 ·exact .inl (.inr ⟨o,e _ _ h⟩)
 ·exact .inr h
section
variable {P:Program}{w:World}{H H':Hp}{h h1 h2:Heap}{a C:Addr}{o:HO}{fs ex:List Addr}
theorem HOk.track (x:HOk P w H h) (hn:H a=none) (new:ObjOk P w (upd H a o) h a o):HOk P w (upd H a o) h:=fun b u e=>by
 by_cases hb:b=a
 ·subst hb;rw [u0g] at e;cases e;exact new
 ·rw [u0l hb] at e
  exact (x b u e).stay (fun _ _ _ q=>q) (fun c q=>by rw [u0l (u0t q hn)];exact q) (fun c xs q=>by rw [u0l (u0t q hn)];exact q)
theorem Un.track (u:Un fs ex H H' h h1) (hn:H' a=none) (ha:h.get? a=none):Un fs ex H (upd H' a o) h h1 where
 keep:=u.keep
 slot:=u.slot
 free:=fun b ob q n hx=>by
  rw [u0l (by rintro rfl;rw [ha] at q;cases q)]
  exact u.free b ob q n hx
 there:=u.there
 tups:=fun b xs q=>by have:=u.tups b xs q;rw [u0l (u0t this hn)];exact this
 frzs:=fun b ob xs q=>by have:=u.frzs b ob xs q;rw [u0l (u0t this hn)];exact this
 tbls:=fun b ps q=>by
  obtain ⟨m,this⟩:=u.tbls b ps q
  exact ⟨m,by rw [u0l (u0t this hn)];exact this⟩
end
theorem u3L (env:Env) (f:Str×NameKind→List (Str×Addr)→Sem (ForInStep (List (Str×Addr))))
  (h1:∀ n cs a,env.cells.lookup n=some a→f (n,.free) cs=pure (.yield ((n,a)::cs))) (h2:∀ n k cs,k≠.free→f (n,k) cs=pure (.yield cs)) :
  ∀ (l:List (Str×NameKind)) (cs:List (Str×Addr)),(∀ x∈l,x.2=.free→∃ c,env.cells.lookup x.1=some c)→(∀ x c,cs.lookup x=some c→env.cells.lookup x=some c) →
   ∃ cl,forIn l cs f=pure cl∧(∀ x c,cl.lookup x=some c→env.cells.lookup x=some c)∧(∀ x∈l,x.2=.free→∃ c,cl.lookup x.1=some c)∧∀ x c,cs.lookup x=some c→∃ c',cl.lookup x=some c'
 | [],cs,_,hc=>⟨cs,rfl,hc,(fun _ z=>(nomatch z)),fun x c q=>⟨c,q⟩⟩
 | (n,k)::l,cs,hl,hc=>by
  by_cases hk:k=.free
  ·subst hk
   obtain ⟨a,ha⟩:=hl (n,.free) List.mem_cons_self rfl
   have hc':∀ x c,((n,a)::cs).lookup x=some c→env.cells.lookup x=some c:=fun x c q=>by
    rw [List.lookup_cons] at q
    cases e:x==n with
    | true=>rw [e] at q;cases q;rw [eq_of_beq e];exact ha
    | false=>rw [e] at q;exact hc x c q
   obtain ⟨cl,e,p1,p2,p3⟩:=u3L env f h1 h2 l ((n,a)::cs) (fun x hx=>hl x (List.mem_cons_of_mem _ hx)) hc'
   refine ⟨cl,?_,p1,fun x hx hf=>?_,fun x c q=>?_⟩
   ·rw [List.forIn_cons,h1 n cs a ha,pure_bind];exact e
   ·rcases List.mem_cons.mp hx with rfl | hx
    ·exact p3 n a (by rw [List.lookup_cons];simp)
    ·exact p2 x hx hf
   ·by_cases e:(x==n)=true
    ·exact p3 x a (by rw [List.lookup_cons,e])
    ·have e':(x==n)=false:=by simpa using e
     exact p3 x c (by rw [List.lookup_cons,e'];exact q)
  ·obtain ⟨cl,e,p1,p2,p3⟩:=u3L env f h1 h2 l cs (fun x hx=>hl x (List.mem_cons_of_mem _ hx)) hc
   refine ⟨cl,?_,p1,fun x hx hf=>?_,p3⟩
   ·rw [List.forIn_cons,h2 n k cs hk,pure_bind];exact e
   ·rcases List.mem_cons.mp hx with rfl | hx
    ·exact absurd hf hk
    ·exact p2 x hx hf
theorem u2g {scope:Scope}{env:Env} (h:∀ x∈scope.names,x.2=.free→∃ c,env.cells.lookup x.1=some c) :
  ∃ cl,closureFor scope env=pure cl∧(∀ x c,cl.lookup x=some c→env.cells.lookup x=some c)∧∀ x∈scope.names,x.2=.free→∃ c,cl.lookup x.1=some c:=by
 unfold closureFor
 obtain ⟨cl,e,p1,p2,_⟩:=u3L env (fun (x:Str×NameKind) (r:List (Str×Addr))=>match x with
   | (name,kind)=>if (kind==NameKind.free)=true then (do let a ← cellOf env name;pure (ForInStep.yield ((name,a)::r))) else pure (ForInStep.yield r))
  (fun n cs a ha=>by simp [cellOf,ha]) (fun n k cs hk=>by
   have:(k==NameKind.free)=false:=by simpa using hk
   simp [this]) scope.names [] h (fun x c q=>by simp at q)
 refine ⟨cl,?_,p1,p2⟩
 first
  | (rw [e];rfl)
  | (simp only [pure_bind,bind_pure] at e ⊢;exact e)
  | (show (forIn scope.names [] _ >>= _)=_;rw [e];rfl)
theorem u1Q (env:Env):∀ (names:List (Str×NameKind)) (x:Str),
  (names.map fun (n,k)=>if (k==NameKind.free&&env.scope.kind==.function&&env.kindOf n==some .cell) then (n,NameKind.cell) else (n,k)).lookup x =
   (names.lookup x).map fun k=>if (k==NameKind.free&&env.scope.kind==.function&&env.kindOf x==some .cell) then NameKind.cell else k
 | [],x=>rfl
 | (n,k)::r,x=>by
  have ih:=u1Q env r x
  show List.lookup x ((if (k==NameKind.free&&env.scope.kind==.function&&env.kindOf n==some .cell)=true then (n,NameKind.cell) else (n,k))::_)=_
  cases hx:x==n with
  | true =>
   have e:=eq_of_beq hx
   subst e
   by_cases hc:(k==NameKind.free&&env.scope.kind==.function&&env.kindOf x==some .cell)=true
   ·rw [if_pos hc];simp only [List.lookup_cons,hx,Option.map_some,if_pos hc]
   ·rw [if_neg hc];simp only [List.lookup_cons,hx,Option.map_some,if_neg hc]
  | false =>
   by_cases hc:(k==NameKind.free&&env.scope.kind==.function&&env.kindOf n==some .cell)=true
   ·rw [if_pos hc];simp only [List.lookup_cons,hx];exact ih
   ·rw [if_neg hc];simp only [List.lookup_cons,hx];exact ih
abbrev cxC (X:Cx) (own:List Str) (outs:List Nat) (scope:Scope) (cl:List (Str×Addr)) (C:Addr) (s:Shared) (H:Hp) (fp:List Addr):Cx where
 prog:=X.prog
 w:=X.w
 K:=X.K
 mg:=X.mg
 base:=X.base
 A:=X.A
 N:=own++outs.map fun j=>X.N.getD j Str.empty
 s₀:=s
 H₀:=H
 env:=compEnvC scope cl C X.env
 outer:=X.stack
 stack:=X.stack
 ex:=fp
 fn:=fun _=>false
 calm:=X.calm
 pn:=[]
 xe:=fun _ _=>False
noncomputable def stC (k:Nat) (outs:List Nat) (σ:St):St:=List.replicate k none++outs.map fun j=>(σ[j]?).join
structure CompOk (sc:Scope) (N:List Str) (own:List Str) (outs:List Nat) (scope:Scope):Prop where
 kind:scope.kind=.function
 cell:∀ y∈scope.names,y.2≠.cell
 loc:∀ y∈scope.names,y.2=.local→scope.names.lookup y.1=some .local
 fre:∀ y∈scope.names,y.2=.free→sc.names.lookup y.1=some .cell∨sc.names.lookup y.1=some .free
 out:∀ j∈outs,∃ y,N[j]?=some y∧scope.names.lookup y=some .free
 ownN:∀ y∈own,scope.names.lookup y=some .local
noncomputable def compB (sc:Scope) (N:List Str) (own:List Str) (outs:List Nat) (scope:Scope):Bool :=
 decide (scope.kind=.function)&&scope.names.all (fun y=>y.2 != .cell)&&scope.names.all (fun y=>y.2 != .local||scope.names.lookup y.1==some .local) &&
 scope.names.all (fun y=>y.2 != .free||sc.names.lookup y.1==some .cell||sc.names.lookup y.1==some .free) &&
 outs.all (fun j=>match N[j]? with | some y=>scope.names.lookup y==some .free | none=>false)&&own.all (fun y=>scope.names.lookup y==some .local)
theorem u0v {sc:Scope}{N own:List Str}{outs:List Nat}{scope:Scope} (h:compB sc N own outs scope=true):CompOk sc N own outs scope:=by
 unfold compB at h
 simp only [Bool.and_eq_true,List.all_eq_true,decide_eq_true_eq] at h
 obtain ⟨⟨⟨⟨⟨h1,h2⟩,h3⟩,h4⟩,h5⟩,h6⟩:=h
 refine ⟨h1,fun y hy=>?_,fun y hy hl=>?_,fun y hy hl=>?_,fun j hj=>?_,fun y hy=>?_⟩
 ·simpa using h2 y hy
 ·have:=h3 y hy
  rw [hl] at this
  simpa using this
 ·have:=h4 y hy
  rw [hl] at this
  simpa using this
 ·have:=h5 j hj
  cases e:N[j]? with
  | none=>rw [e] at this;cases this
  | some y=>rw [e] at this;exact ⟨y,rfl,by simpa using this⟩
 ·simpa using h6 y hy
def PIf (X:Cx) (ifs:List Expr) (t:TT):Prop :=
 ∀ (pins:LO) (s:Shared) (σ:St) (H:Hp) (Q:Bool→Hp→Prop),Inv X pins σ H s→t σ H Q →
  wpAny (model X.prog X.w) X.A (forIn ifs true fun c r=>if r=true then do let ok ← isTrue c X.env (eval c X.env);pure (ForInStep.yield ok) else pure (ForInStep.yield r)) (TP X pins σ Q) X.xe s
def tYes:TT:=fun _ H Q=>Q true H
theorem pif_nil {X:Cx}:PIf X [] tYes:=fun pins s σ H Q I h=>wpAny_pure ⟨H,I,h⟩
theorem pif_one {X:Cx}{c:Expr}{t:TT} (hc:PT X c t):PIf X [c] t:=fun pins s σ H Q I h=>by
 rw [List.forIn_cons]
 simp only [if_true,List.forIn_nil]
 refine wpAny_bind (wpAny_bind (thn (hc pins s σ H Q I h) fun b s1 q=>wpAny_pure (wpAny_pure q)))
def CompRd (k:Nat) (outs:List Nat) (σ:St) (g:TG) (ti:TT) (te:TE) (J:It) (H1:Hp) (Q:VK):Prop:=∃ W:Nat→Nat→List V→Hp→Prop,(∃ m,W 0 m [] H1)∧∀ i m ys H,W i m ys H→ys.length≤sizeLine ∧
 ((J.stop i H∧∀ p,H p=none→Q (.ref p) (upd H p (.lst ys))) ∨
  (J.go i H∧∃ N:List V→Hp→Prop,(∀ ys' H',N ys' H'→∃ m',m'<m∧W (i+1) m' ys' H')∧∀ x H',J.yld i H x H'→g x (stC k outs σ) H' fun σ2 H2=>σ2.drop k=(outs.map fun j=>(σ[j]?).join)∧ti σ2 H2 fun b H3=>if b=true then te σ2 H3 fun y H4=>N (ys++[y]) H4 else N ys H3))
def tComp (k:Nat) (outs:List Nat) (wi:TI) (g:TG) (ti:TT) (te:TE):TE:=fun σ H Q=>wi σ H fun J H1=>CompRd k outs σ g ti te J H1 Q
theorem u5t {prog:Program}{w:World}{A:Around}{R:Result→Shared→Prop}{s:Shared}{elt target iter:Expr}{ifs:List Expr}{scope:Scope}{pos:Pos}{it acc:Value}{env:Env} (I:Nat→Shared→Prop)
  (turn:∀ n s,I n s→wpAny (model prog w) A (pyNext it) (fun r s₁=>match r with
   | none=>R (.ok .next) s₁
   | some v=>wpAny (model prog w) A (letOwnedTupleGo target it v) (fun _ s₁'=>wpAny (model prog w) A (assign target env v) (fun _ s₂ =>
     wpAny (model prog w) A (forIn ifs true fun c r=>if r=true then do let ok ← isTrue c env (eval c env);pure (ForInStep.yield ok) else pure (ForInStep.yield r)) (fun ok s₃ =>
      if ok=true then wpAny (model prog w) A (eval elt env) (fun x s₄ =>
       wpAny (model prog w) A (call (.builtin "list.append") [acc,x]) (fun _ s₅=>∃ m,m<n∧I m s₅) (fun _ _=>False) s₄) (fun _ _=>False) s₃
      else ∃ m,m<n∧I m s₃) (fun _ _=>False) s₂) (fun _ _=>False) s₁') (fun _ _=>False) s₁) (fun _ _=>False) s)
  (n:Nat) (h:I n s) :
  codeAny (model prog w) A (.compLoop (.ListComp elt [⟨target,iter,ifs,0⟩] scope pos) 0 it acc env) R s:=by
 refine codeAny_loop rfl I (fun n s hI=>?_) n h
 show wpAny _ A ((compTurn (.ListComp elt [⟨target,iter,ifs,0⟩] scope pos) 0 it acc env).onRaise (fun x=>do noteFrame x env;theTreesLotGoes x)) _ _ s
 refine wpAny_noted ?_
 rw [compTurn_list]
 refine wpAny_bind (wpAny_standAt (wpAny_bind (wpAny_mono (turn n s hI) (fun r s₁ h₁=>?_) fun _ _ h'=>h'.elim)))
 cases r with
 | none=>exact wpAny_pure h₁
 | some v =>
  refine wpAny_bind (wpAny_mono h₁ (fun _ s₁' h₁'=>?_) fun _ _ h'=>h'.elim)
  refine wpAny_bind (wpAny_mono h₁' (fun _ s₂ h₂=>wpAny_bind (wpAny_mono h₂ (fun ok s₃ h₃=>?_) fun _ _ h'=>h'.elim)) fun _ _ h'=>h'.elim)
  cases ok with
  | false=>exact wpAny_pure ⟨rfl,h₃⟩
  | true =>
   exact wpAny_bind (wpAny_bind (wpAny_mono h₃ (fun x s₄ h₄=>wpAny_bind (wpAny_mono h₄ (fun _ s₅ h₅=>wpAny_pure (wpAny_pure ⟨rfl,h₅⟩)) fun _ _ h'=>h'.elim)) fun _ _ h'=>h'.elim))
section
variable {X:Cx}{pins:LO}{σ:St}{H:Hp}{s:Shared}{own:List Str}{outs:List Nat}{scope:Scope}{cl:List (Str×Addr)}{C:Addr}{fp:List Addr}
theorem u7p {sc:Scope} (ok:CompOk X.env.scope X.N own outs scope) {x:Str} (h:(compEnvC scope cl C X.env).kindOf x=some .cell∨(compEnvC scope cl C X.env).kindOf x=some .free):(x,NameKind.free)∈scope.names:=by
 have e:(compEnvC scope cl C X.env).kindOf x=(scope.names.lookup x).map fun k=>if (k==NameKind.free&&X.env.scope.kind==.function&&X.env.kindOf x==some .cell) then NameKind.cell else k:=u1Q X.env scope.names x
 rw [e] at h
 cases q:scope.names.lookup x with
 | none=>rw [q] at h;simp at h
 | some k =>
  have hm:=PySem.mem_of_lookup q
  by_cases hk:k=.free
  ·subst hk;exact hm
  ·rw [q] at h
   have hkf:(k==NameKind.free)=false:=by simpa using hk
   simp only [Option.map_some,hkf,Bool.false_and,Bool.false_eq_true,if_false,Option.some.injEq] at h
   rcases h with h | h
   ·exact absurd h (ok.cell _ hm)
   ·exact absurd h hk
theorem cxC_ok (I:Inv X pins σ H s) (ok:CompOk X.env.scope X.N own outs scope) (hcl:∀ x c,cl.lookup x=some c→X.env.cells.lookup x=some c) (hcf:∀ x∈scope.names,x.2=.free→∃ c,cl.lookup x.1=some c)
  (hC:s.heap.objs.size≤C) (hfp:∀ b∈fp,FpOk X pins H b) (hfs:∀ b∈fp,b<s.heap.objs.size):(cxC X own outs scope cl C s H fp).Ok where
 mod:=I.ok.mod
 kind:=ok.kind
 glob:=I.ok.glob
 blt:=I.ok.blt
 above:=hC
 inj:=fun x y c h1 h2=>I.ok.inj x y c (hcl x c h1) (hcl y c h2)
 has:=fun x h=>by
  have hm:=u7p (sc:=scope) ok h
  exact hcf _ hm rfl
 cab:=fun x c h _=>by cases h
 hd:=I.ok.hd
 frames:=I.ok.frames
 stk:=.inl rfl
 exf:=fun b hb=>⟨Nat.ne_of_lt (Nat.lt_of_lt_of_le (hfs b hb) hC),fun x c e=>(hfp b hb).2.2.2.2.1 x c (hcl x c e)⟩
 bs:=I.bs
 bsz:=Nat.le_trans I.ok.bsz I.sz
 noex:=fun b o e hb=>by
  rcases (hfp b hb).2.2.2.1 with z | z
  ·exact I.ok.noex b o e z
  ·have h1:b<X.base.objs.size:=Heap.lt_size e
   exact absurd (Nat.lt_of_lt_of_le h1 (Nat.le_trans I.ok.bsz z)) (Nat.lt_irrefl _)
 exfs:=fun b hb z=>by
  rcases List.mem_cons.mp (I.stkSub b z) with q | q
  ·exact (hfp b hb).2.1 q
  ·exact (hfp b hb).2.2.1 q
 funs:=I.stack
 frf:=I.stkFree
theorem getD_eq {N:List Str}{j:Nat}{y:Str} (h:N[j]?=some y):N.getD j Str.empty=y:=by
 rw [List.getD_eq_getElem?_getD,h];rfl
theorem v3F (I:Inv X pins σ H s) (ok:CompOk X.env.scope X.N own outs scope) (hcl:∀ x c,cl.lookup x=some c→X.env.cells.lookup x=some c) (hcf:∀ x∈scope.names,x.2=.free→∃ c,cl.lookup x.1=some c)
  (hC:s.heap.objs.size≤C) (hfp:∀ b∈fp,FpOk X pins H b) (hfs:∀ b∈fp,b<s.heap.objs.size) {h':Heap}{t':Nat}{m:MG} (hk:∀ b o,s.heap.get? b=some o→h'.get? b=some o) (hn:h'.Ns C m) :
  Inv (cxC X own outs scope cl C s H fp) [] (stC own.length outs σ) H { s with heap:=h',toks:=t' }:=by
 refine ⟨cxC_ok I ok hcl hcf hC hfp hfs,rfl,I.bare,Un.kept hk,⟨m,hn,fun i x v e1 e2 e3=>?_⟩,fun x c e=>?_,I.hok.fresh hC,fun x c e=>I.freeC x c (hcl x c e),fun p hp=>(nomatch hp),I.hok.kept hk,?_⟩
 ·have hi:own.length≤i:=by
   by_cases hi:own.length≤i
   ·exact hi
   ·exfalso
    unfold stC at e2
    rw [List.getElem?_append_left (by simp;omega),List.getElem?_replicate] at e2
    split at e2 <;> cases e2
  unfold stC at e2
  rw [List.getElem?_append_right (by simp;omega),List.length_replicate,List.getElem?_map] at e2
  have e1':(own++outs.map fun j=>X.N.getD j Str.empty)[i]?=some x:=e1
  rw [List.getElem?_append_right hi,List.getElem?_map] at e1'
  cases q:outs[i - own.length]? with
  | none=>rw [q] at e2;cases e2
  | some j =>
   rw [q] at e1' e2
   obtain ⟨y,hy,hyf⟩:=ok.out j (List.mem_of_getElem? q)
   have ex:y=x:=by
    rw [← getD_eq hy]
    exact Option.some.inj e1'
   subst ex
   have ev:σ[j]?=some (some v):=by
    have e2':(σ[j]?).join=some v:=Option.some.inj e2
    cases z:σ[j]? with
    | none=>rw [z] at e2';cases e2'
    | some o=>rw [z] at e2';cases o with
     | none=>cases e2'
     | some v'=>cases e2';rfl
   obtain ⟨m0,hn0,hl⟩:=I.loc
   have hkd:=ok.fre (y,.free) (PySem.mem_of_lookup hyf) rfl
   obtain ⟨u,r,l⟩:=hl j y v hy ev (hkd.elim (fun z=>.inr (.inl z)) fun z=>.inr (.inr z))
   refine ⟨u,r,?_⟩
   rcases l with ⟨k,_⟩ | ⟨k,c,ec,hcell⟩
   ·exfalso
    have k':X.env.scope.names.lookup y=some .local:=k
    rcases hkd with z | z
    ·have z':X.env.scope.names.lookup y=some .cell:=z
     rw [k'] at z';cases z'
    ·have z':X.env.scope.names.lookup y=some .free:=z
     rw [k'] at z';cases z'
   ·refine .inr ⟨?_,?_⟩
    ·have e:(compEnvC scope cl C X.env).kindOf y=(scope.names.lookup y).map fun k=>if (k==NameKind.free&&X.env.scope.kind==.function&&X.env.kindOf y==some .cell) then NameKind.cell else k:=u1Q X.env scope.names y
     show (compEnvC scope cl C X.env).kindOf y=_∨(compEnvC scope cl C X.env).kindOf y=_
     rw [e,hyf,Option.map_some]
     split
     ·exact .inl rfl
     ·exact .inr rfl
    ·obtain ⟨c',ec'⟩:=hcf (y,.free) (PySem.mem_of_lookup hyf) rfl
     refine ⟨c',ec',?_⟩
     have:c'=c:=Option.some.inj ((hcl y c' ec').symm.trans ec)
     subst this
     obtain ⟨o,ho,hd⟩:=hcell
     exact ⟨o,hk _ o ho,hd⟩
 ·obtain ⟨v,o,ho,hd⟩:=I.cell x c (hcl x c e)
  exact ⟨v,o,hk c o ho,hd⟩
 ·unfold stC
  show _=(own++outs.map fun j=>X.N.getD j Str.empty).length
  simp
end
section
variable {X:Cx}{tg iter elt:Expr}{ifs:List Expr}{own:List Str}{outs:List Nat}{scope:Scope}{wi:TI}{g:TG}{ti:TT}{te:TE}{pos:Pos}
theorem u7H {pins:LO}{σ:St}{H:Hp}{s:Shared}{cl:List (Str×Addr)}{it:Addr}{fp:List Addr}{tn:Nat→Heap→Prop}{J:It}{E:VP}{Q:VK} (hc:X.calm=true) (ok:CompOk X.env.scope X.N own outs scope)
  (hcl:∀ x c,cl.lookup x=some c→X.env.cells.lookup x=some c) (hcf:∀ x∈scope.names,x.2=.free→∃ c,cl.lookup x.1=some c)
  (hg:∀ {C fp},PG (cxC X own outs scope cl C s H fp) tg g) (hf:∀ {C fp},PIf (cxC X own outs scope cl C s H fp) ifs ti) (he:∀ {C fp},PE (cxC X own outs scope cl C s H fp) elt te)
  (I:Inv X pins σ H s) (T:Turn X.prog X.w X.K tg J fp it tn) (st:tn 0 s.heap) (f2:∀ b∈fp,FpOk X pins H b)
  (hW:CompRd own.length outs σ g ti te J H Q)
  {RR:Value→Addr→Result→Shared→Prop}
  (hRR:∀ D C Hf s' m,s'.heap.Ns C m→Inv X pins σ Hf s'→Hf C=none→C≠X.env.locals→X.s₀.heap.objs.size≤C→(∀ x c,X.env.cells.lookup x=some c→c≠C)→(∀ p∈X.pn++pins,p.1≠C)→Q (.ref D) Hf→RR (.ref D) C (.ok .next) s') :
  wpAny (model X.prog X.w) X.A (newList []) (fun acc s₃=>wpAny (model X.prog X.w) X.A (newFunctionEnv scope X.env.globals cl [] X.env.qual none .none (some X.env)) (fun cenv s₄ =>
   codeAny (model X.prog X.w) X.A (.compStart (.ListComp elt [⟨tg,iter,ifs,0⟩] scope pos) 0 (.ref it) acc { cenv with scope:=relabel scope X.env }) (RR acc cenv.locals) s₄) E s₃) E s:=by
 obtain ⟨W,⟨m0,w0⟩,turn⟩:=hW
 have hfs:∀ b∈fp,@LT.lt Nat _ b s.heap.objs.size:=fun b hb=>let ⟨o,e,_⟩:=T.obj _ _ st b hb;Heap.lt_size e
 refine wpAny_newObj_type (wpAny_newFunctionEnv ok.cell (by intro y hy;simp at hy) (fun h₁ hns₁ hsb₁=>?_) ok.kind)
 dsimp only at hns₁ hsb₁ ⊢
 generalize hH2:s.heap.push { cls:=.type "list",dict:=none,data:=.seq ([]:List Value).toArray }=H2 at hns₁ hsb₁ ⊢
 have hC:H2.objs.size=s.heap.objs.size+1:=by rw [← hH2,Heap.size_push]
 generalize eC:H2.objs.size=C at hns₁ hsb₁ hC ⊢
 have hDC:s.heap.objs.size≠C:=by omega
 have below:∀ b,b<s.heap.objs.size→b≠C∧b≠s.heap.objs.size:=fun b hb=>⟨by omega,by omega⟩
 have old:∀ b o,s.heap.get? b=some o→h₁.get? b=some o:=fun b o e=>hsb₁.extBut b o (below b (Heap.lt_size e)).1 (Heap.get?_push_of_some _ (hH2 ▸ Heap.get?_push_of_some _ e))
 have hacc:h₁.PlainList s.heap.objs.size #[]:=⟨_,hsb₁.extBut _ _ hDC (Heap.get?_push_of_some _ (hH2 ▸ Heap.get?_push_size _ rfl))⟩
 have hst₁:tn 0 h₁:=T.keep _ _ _ st fun b _ o e=>old b o e
 have fresh:∀ a,s.heap.objs.size≤a→s.heap.get? a=none:=fun a ha=>by
  cases e:s.heap.get? a with
  | none=>rfl
  | some o'=>exact absurd (Heap.lt_size e) (Nat.not_lt.mpr ha)
 obtain ⟨D,hD⟩:∃ D:Nat,s.heap.objs.size=D:=⟨_,rfl⟩
 rw [hD] at hDC hacc ⊢
 have hDs:s.heap.get? D=none:=fresh D (Nat.le_of_eq hD)
 have hCs:s.heap.get? C=none:=fresh C (by omega)
 have hDfp:D∉fp:=fun z=>by have:=hfs D z;omega
 have hI0:∀ t',Inv (cxC X own outs scope cl C s H fp) [] (stC own.length outs σ) H { s with heap:=h₁,toks:=t' }:=fun t'=>v3F I ok hcl hcf (by omega) f2 hfs old hns₁
 have cellNe:∀ x c,cl.lookup x=some c→@LT.lt Nat _ c s.heap.objs.size:=fun x c e=>let ⟨v,q⟩:=I.cell x c (hcl x c e);q.lt
 have stkLt:∀ b∈frs X.stack,@LT.lt Nat _ b s.heap.objs.size:=fun b hb=>by
  obtain ⟨_,o,ho,_⟩:=I.stack.mem hb
  exact Heap.lt_size ho
 have stat:∀ {H':Hp}{oD:Obj},(∀ b∈fp,H' b=none)→∀ b∈fp,FpOk (cxC X own outs scope cl C s H fp) [(D,oD)] H' b:=fun {H' oD} hn b hb=>by
  refine ⟨hn b hb,(below b (hfs b hb)).1,fun z=>?_,.inl hb,fun x c e z=>(f2 b hb).2.2.2.2.1 x c (hcl x c e) z,fun p hp z=>?_⟩
  ·rcases List.mem_cons.mp (I.stkSub b z) with q | q
   ·exact (f2 b hb).2.1 q
   ·exact (f2 b hb).2.2.1 q
  ·have:p=(D,oD):=by simpa using hp
   subst this
   exact hDfp (show D∈fp from (show D=b from z) ▸ hb)
 have loop:∀ s₃:Shared,s₃={ s with heap:=h₁,toks:=s.toks+([]:List (Str×Value)).length } →
   codeAny (model X.prog X.w) X.A (.compLoop (.ListComp elt [⟨tg,iter,ifs,0⟩] scope pos) 0 (.ref it) (.ref D) (compEnvC scope cl C X.env)) (RR (.ref D) C) s₃:=by
  rintro s₃ rfl
  refine u5t (fun n s'=>∃ i ys us nn H',Inv (cxC X own outs scope cl C s H fp) [(D,{ cls:=.type "list",data:=.seq us.toArray nn })] (stC own.length outs σ) H' s'∧tn i s'.heap∧(∀ b∈fp,H' b=none)∧Vals ys us∧W i n ys H') ?_ m0 ?_
  ·rintro n s3 ⟨i,ys,us,nn,H3,I3,st3,fr3,hv,w3⟩
   have hD3:=I3.pin (D,_) (List.mem_append_right _ List.mem_cons_self)
   obtain ⟨hz,ht⟩:=turn i n ys H3 w3
   rcases ht with ⟨stop,qn⟩ | ⟨go,NN,hNN,step⟩
   ·refine thn (T.done (cxC X own outs scope cl C s H fp) rfl rfl rfl hc i _ s3 _ H3 _ I3 (stat fr3) st3 stop) fun r s4 ⟨hr,I4⟩=>?_
    subst hr
    have hD4:=I4.pin (D,_) (List.mem_append_right _ List.mem_cons_self)
    obtain ⟨m4,hn4,_⟩:=I4.loc
    have hC4:H3 C=none:=I4.free
    have hok:HOk X.prog X.w (upd H3 D (.lst ys)) s4.heap:=I4.hok.track hD4.2.1 ⟨hz,us,nn,hv,hD4.1⟩
    have hun:Un (frs X.stack) fp H (upd H3 D (.lst ys)) s.heap s4.heap:=Un.track I4.base hD4.2.1 hDs
    have I5:Inv X pins σ (upd H3 D (.lst ys)) s4:=I.call' I4.os hun hok I4.bare fun b hb=>⟨(f2 b hb).2.2.2.1,(f2 b hb).2.1,(f2 b hb).2.2.2.2.1,(f2 b hb).2.2.2.2.2⟩
    refine hRR D C _ s4 m4 hn4 I5 (by rw [u0l hDC.symm];exact hC4) ?_ ?_ ?_ ?_ (qn D hD4.2.1)
    ·intro z
     have h1:@LT.lt Nat _ X.env.locals s.heap.objs.size:=I.lt
     have z':@Eq Nat C X.env.locals:=z
     omega
    ·have h1:=I.sz
     exact Nat.le_trans h1 (by omega)
    ·intro x c e z
     obtain ⟨v,q⟩:=I.cell x c e
     have h1:@LT.lt Nat _ c s.heap.objs.size:=q.lt
     have z':@Eq Nat c C:=z
     omega
    ·intro p hp z
     have h1:@LT.lt Nat _ p.1 s.heap.objs.size:=Heap.lt_size (I.pin p hp).1
     have z':@Eq Nat p.1 C:=z
     omega
   ·refine thn (T.item (cxC X own outs scope cl C s H fp) rfl rfl rfl hc i _ s3 _ H3 (fun _ _=>False) I3 (stat fr3) st3 go) fun r s4 ⟨u,hr,h4⟩=>?_
    subst hr
    refine thn h4 fun _ s5 ⟨x,H5,I5,r5,y5,st5,fr5⟩=>?_
    have I5':=I5.pinned (stat fr5) (T.obj _ _ st5)
    refine thn (hg _ s5 _ H5 x u _ I5' r5 (step x H5 y5)) fun _ s6 ⟨σ6,H6,I6,d6,q6⟩=>?_
    have weak:∀ {H7:Hp}{s7:Shared}{us':List Value}{nn':Nat},Inv (cxC X own outs scope cl C s H fp) [(D,{ cls:=.type "list",data:=.seq us'.toArray nn' })] σ6 H7 s7→Inv (cxC X own outs scope cl C s H fp) [(D,{ cls:=.type "list",data:=.seq us'.toArray nn' })] (stC own.length outs σ) H7 s7:=fun {H7 s7 us' nn'} I7=>by
     refine I7.weak (by have e:=I7.len;have e2:(cxC X own outs scope cl C s H fp).N.length=own.length+outs.length:=by simp
                        rw [e,e2];unfold stC;simp) fun j v e=>?_
     have hj:own.length≤j:=by
      by_cases hj:own.length≤j
      ·exact hj
      ·exfalso
       unfold stC at e
       rw [List.getElem?_append_left (by simp;omega),List.getElem?_replicate] at e
       split at e <;> cases e
     unfold stC at e
     rw [List.getElem?_append_right (by simp;omega),List.length_replicate,← d6,List.getElem?_drop] at e
     rw [show own.length+(j - own.length)=j by omega] at e
     exact e
    refine thn (hf _ s6 σ6 H6 _ I6 q6) fun b s7 ⟨H7,I7,q7⟩=>?_
    have keepT:∀ {H8:Hp}{s8:Shared},Inv (cxC X own outs scope cl C s H fp) ([(D,{ cls:=.type "list",data:=.seq us.toArray nn })]++pinsAt fp s5.heap) σ6 H8 s8→(∀ b∈fp,∀ o,s5.heap.get? b=some o→s8.heap.get? b=some o)∧∀ b∈fp,H8 b=none:=fun {H8 s8} I8=>by
     refine ⟨fun b hb o e=>(I8.pin (b,o) (List.mem_append_right _ (List.mem_append_right _ (u2x hb e)))).1,fun b hb=>?_⟩
     obtain ⟨o,e,d⟩:=T.obj _ _ st5 b hb
     exact (I8.pin (b,o) (List.mem_append_right _ (List.mem_append_right _ (u2x hb e)))).2.1
    cases b with
    | false =>
     rw [if_neg (by simp)] at q7
     rw [if_neg (by simp)]
     obtain ⟨m',hm,w7⟩:=hNN _ _ q7
     exact ⟨m',hm,i+1,ys,us,nn,H7,weak I7.unpinned,T.keep _ _ _ st5 (keepT I7).1,(keepT I7).2,hv,w7⟩
    | true =>
     rw [if_pos rfl] at q7
     rw [if_pos rfl]
     refine thn (he _ s7 σ6 H7 _ I7 q7) fun u8 s8 ⟨y8,H8,I8,r8,q8⟩=>?_
     obtain ⟨m',hm,w8⟩:=hNN _ _ q8
     have hD8:=I8.pin (D,_) (List.mem_append_right _ (List.mem_append_left _ List.mem_cons_self))
     refine wpAny_list_append_plain (hsz:=by rw [List.size_toArray,← hv.length];exact hz) (x:=u8) ⟨nn,hD8.1⟩ fun h9 hl9 hs9=>?_
     obtain ⟨n9,e9⟩:=hl9
     have k9:∀ b o,b≠D→s8.heap.get? b=some o→h9.get? b=some o:=fun b o hb e=>(hs9.2 b hb).trans e
     have I8':Inv (cxC X own outs scope cl C s H fp) [] σ6 H8 s8:=I8.pins_of fun p hp=>(nomatch hp)
     have I9:Inv (cxC X own outs scope cl C s H fp) [] σ6 H8 { s8 with heap:=h9,toks:=s8.toks }:=I8'.turned k9 hD8.2.1 hDC (.inr (by show s.heap.objs.size≤D;omega)) (fun x c e z=>by have h1:=cellNe x c e;have z':@Eq Nat c D:=z;omega) (fun p hp=>(nomatch hp))
     have e9':h9.get? D=some { cls:=.type "list",data:=.seq (us++[u8]).toArray n9 }:=by
      rw [e9];simp
     have I9':Inv (cxC X own outs scope cl C s H fp) [(D,{ cls:=.type "list",data:=.seq (us++[u8]).toArray n9 })] σ6 H8 { s8 with heap:=h9,toks:=s8.toks }:=I9.pins_of fun p hp=>by
      have:p=(D,{ cls:=.type "list",data:=.seq (us++[u8]).toArray n9 }):=by simpa using hp
      subst this
      refine ⟨e9',hD8.2.1,hDC,fun z=>?_,fun v z=>by cases z⟩
      have:=stkLt D z
      omega
     refine ⟨m',hm,i+1,ys++[y8],us++[u8],n9,H8,weak I9',?_,(keepT I8).2,hv.append (.cons r8 .nil),w8⟩
     exact T.keep _ _ _ st5 fun b hb o e=>k9 b o (fun z=>hDfp (show D∈fp from (show b=D from z) ▸ hb)) ((keepT I8).1 b hb o e)
  ·obtain ⟨n0,e0⟩:=hacc
   refine ⟨0,[],[],n0,H,(hI0 _).pins_of fun p hp=>?_,hst₁,fun b hb=>(f2 b hb).1,.nil,w0⟩
   have:p=(D,{ cls:=.type "list",data:=.seq ([]:List Value).toArray n0 }):=by simpa using hp
   subst this
   refine ⟨e0,I.hok.fresh (by omega),hDC,fun z=>?_,fun v z=>by cases z⟩
   have:=stkLt D z
   omega
 exact codeAny_compStart_list (loop _ rfl) (T.self _ 0 _ _ _ hst₁ (loop _ rfl))
theorem u7v {scope:Scope}{pins:LO}{σ:St}{H:Hp}{s:Shared} (I:Inv X pins σ H s) (ok:CompOk X.env.scope X.N own outs scope):∀ x∈scope.names,x.2=.free→∃ c,X.env.cells.lookup x.1=some c:=fun x hx hf=>I.ok.has x.1 (ok.fre x hx hf)
theorem pe_comp (own:List Str) (outs:List Nat) (hc:X.calm=true) (ok:CompOk X.env.scope X.N own outs scope) (hi:PI X tg iter wi)
  (hg:∀ {cl C s H fp},PG (cxC X own outs scope cl C s H fp) tg g) (hf:∀ {cl C s H fp},PIf (cxC X own outs scope cl C s H fp) ifs ti) (he:∀ {cl C s H fp},PE (cxC X own outs scope cl C s H fp) elt te)
  (hs:∀ x,foldedSetIterable iter X.env x=pure x:=by intro _;rfl):PE X (.ListComp elt [⟨tg,iter,ifs,0⟩] scope pos) (tComp own.length outs wi g ti te):=by
 intro pins s σ H Q I h
 obtain ⟨cl,ecl,hcl,hcf⟩:=u2g (u7v I ok)
 rw [eval_ListComp]
 refine wpAny_comprehension_free (use:=none) rfl hs ecl ok.kind ok.loc (thn (hi pins s σ H _ I h) fun xv s₁ h₁=>thn h₁ fun itv s₂ h₂=>?_)
 obtain ⟨it,fp,tn,J,H2,e,I2,T,st2,f2,hW⟩:=h₂
 subst e
 refine u7H (Q:=Q) (RR:=fun acc C=>compPost (model X.prog X.w) X.A X.xe none (EP X pins σ Q) acc C) hc ok hcl hcf hg hf he I2 T st2 f2 hW ?_
 intro D C Hf s' m hn I' hC hL hs0 hce hpi q
 refine ⟨m,hn,fun h' hs'=>?_⟩
 exact ⟨.ref D,Hf,I'.turned (t':=s'.toks) (fun b o hb e=>(hs'.2 b hb).trans e) hC hL (.inr hs0) hce hpi,rfl,q⟩
set_option tactic.hygienic true in
theorem v0d {i:Nat}{y:Str}{py spos:Pos} (own:List Str) (outs:List Nat) (hc:X.calm=true) (ok:CompOk X.env.scope X.N own outs scope) (hN:X.N.Nodup) (hy:X.N[i]?=some y) (hx:X.env.scope.names.lookup y=some .local) (hi:PI X tg iter wi)
  (hg:∀ {cl C s H fp},PG (cxC X own outs scope cl C s H fp) tg g) (hf:∀ {cl C s H fp},PIf (cxC X own outs scope cl C s H fp) ifs ti) (he:∀ {cl C s H fp},PE (cxC X own outs scope cl C s H fp) elt te)
  (hsw:swapsWith (.ListComp elt [⟨tg,iter,ifs,0⟩] scope pos) (some (.Name y py)) spos.line X.env=pure true:=by rfl)
  (hs:∀ x,foldedSetIterable iter X.env x=pure x:=by intro _;rfl):PS X (.Assign [.Name y py] (.ListComp elt [⟨tg,iter,ifs,0⟩] scope pos) spos) (tAsg (tComp own.length outs wi g ti te) (gName i)):=by
 intro pins s σ H D I h
 obtain ⟨cl,ecl,hcl,hcf⟩:=u2g (u7v I ok)
 rw [exec_Assign_Name_used _ _ _ _ hsw]
 refine wpAny_bind (wpAny_standAt (wpAny_bind ?_))
 show wpAny _ X.A (do let _ ← comprehension (.ListComp elt [⟨tg,iter,ifs,0⟩] scope pos) scope X.env _ (newList []) false (eval iter X.env) (some (assign (.Name y py) X.env))) _ _ s
 refine wpAny_bind (wpAny_mono (wpAny_comprehension_free (use:=some (assign (.Name y py) X.env)) (Q:=fun _ s'=>SP X pins D .next s') rfl hs ecl ok.kind ok.loc
  (thn (hi pins s σ H _ I h) fun xv s₁ h₁=>thn h₁ fun itv s₂ h₂=>?_)) (fun _ s' hq=>wpAny_pure (wpAny_pure hq)) fun _ _ e=>e)
 obtain ⟨it,fp,tn,J,H2,e,I2,T,st2,f2,hW⟩:=h₂
 subst e
 refine u7H (Q:=fun x H1=>gName i x σ H1 D.nx) (RR:=fun acc C=>compPost (model X.prog X.w) X.A X.xe (some (assign (.Name y py) X.env)) (fun _ s'=>SP X pins D .next s') acc C) hc ok hcl hcf hg hf he I2 T st2 f2 hW ?_
 intro D' C Hf s' m hn I' hC hL hs0 hce hpi q
 show wpAny _ X.A (assign (.Name y py) X.env (.ref D')) _ _ _
 refine wpAny_assign_Name (u6I I' hN hy (.inl hx) (v:=.ref D') rfl (fun s2 I2' ⟨a,hsb,ha⟩=>?_) (.inr hx))
 have haC:C≠a:=by
  rcases ha with rfl | ha
  ·exact hL
  ·exact fun z=>hce _ _ ha z.symm
 refine ⟨m,hn.sameBut hsb haC,fun h' hs'=>?_⟩
 exact ⟨_,Hf,I2'.turned (t':=s2.toks) (fun b o hb e=>(hs'.2 b hb).trans e) hC hL (.inr hs0) hce hpi,q⟩
end
section
variable {X:Cx}{tg:Expr}
def rSlS:V→Option Int→Option Int→Hp→VK→Prop:=fun x lo hi H Q=>∃ z,x=.str z∧z.length≤sizeLine∧Q (.str (Txt.slice z lo hi)) H
theorem sl_str:SlR X rSlS:=by
 intro pins s σ H x v vl vu lo hi sl Q I rx hs pl pu h
 obtain ⟨z,rfl,hz,q⟩:=h
 obtain ⟨t,rfl⟩:=rx
 refine ⟨"str",_,PySem.F.slot_str_getitem.lookup,typeIs_str _ _ _,?_⟩
 have fin:∀ lo' hi',lo'=lo→hi'=hi→∀ t' k,EP X pins σ Q (.str (Txt.slice z lo' hi') t') { s with toks:=k }:=fun lo' hi' e1 e2 t' k=>by
  subst e1 e2
  exact ⟨.str _,H,I.tok k,⟨t',rfl⟩,q⟩
 obtain ⟨o,ho,hc,hd⟩:=hs
 cases pl with
 | none =>
  cases pu with
  | none=>exact wpAny_getItem_str_slice (l:=none) (u:=none) (st:=none) ⟨o,ho,hc,hd⟩ rfl (post_val_or_str ⟨Nat.le_trans (Txt.slice_le z _ _) hz,fun t' k=>fin _ _ rfl rfl t' k⟩)
  | int j uj=>exact wpAny_getItem_str_slice (l:=none) (u:=some (j,uj)) (st:=none) ⟨o,ho,hc,hd⟩ rfl (post_val_or_str ⟨Nat.le_trans (Txt.slice_le z _ _) hz,fun t' k=>fin _ _ rfl rfl t' k⟩)
 | int i ui =>
  cases pu with
  | none=>exact wpAny_getItem_str_slice (l:=some (i,ui)) (u:=none) (st:=none) ⟨o,ho,hc,hd⟩ rfl (post_val_or_str ⟨Nat.le_trans (Txt.slice_le z _ _) hz,fun t' k=>fin _ _ rfl rfl t' k⟩)
  | int j uj=>exact wpAny_getItem_str_slice (l:=some (i,ui)) (u:=some (j,uj)) (st:=none) ⟨o,ho,hc,hd⟩ rfl (post_val_or_str ⟨Nat.le_trans (Txt.slice_le z _ _) hz,fun t' k=>fin _ _ rfl rfl t' k⟩)
def Its (z:Str):It:=⟨fun i _=>i<z.cps.size,fun i H x H'=>H'=H∧∃ c,z.cps[i]?=some c∧x=.str ⟨#[c]⟩,fun i _=>z.cps.size≤i⟩
theorem u9M {P:Program}{w:World}{K:W.Frag}{tg:Expr} (z:Str) (t:Tok) (it:Addr):Turn P w K tg (Its z) [it] it (fun i h=>h.IsStrIter it "str_ascii_iterator" z t i) where
 mem:=by simp
 obj:=fun i h st b hb=>by
  have e:b=it:=by simpa using hb
  subst e
  obtain ⟨o,e,c,d⟩:=st
  exact ⟨o,e,fun v z=>by rw [d] at z;cases z⟩
 keep:=fun i h h' st k=>let ⟨o,e,r⟩:=st;⟨o,k it (by simp) o e,r⟩
 item:=by
  intro X hP hw hK hc i pins s σ H E I hf st hg
  subst hP hw hK
  obtain ⟨f0,f1,f2,f3,f4,f5⟩:=hf it (by simp)
  have hg':i<z.cps.size:=hg
  refine wpAny_pyNext_ascii_item st (c:=z.cps[i]) (by simp [hg']) fun h' st' sb=>?_
  have I1:Inv X pins σ H { s with heap:=h',toks:=s.toks+1 }:=I.turned (fun b o hb e=>(sb.2 b hb).trans e) f0 f1 f3 f4 f5
  obtain ⟨o,e,c,d⟩:=id st'
  exact ⟨_,rfl,v0B (s:={ s with heap:=h',toks:=s.toks+1 }) e c d (by decide) ⟨.str ⟨#[z.cps[i]]⟩,H,I1,⟨_,rfl⟩,⟨rfl,z.cps[i],by simp [hg'],rfl⟩,st',fun b hb=>(hf b hb).1⟩⟩
 done:=by
  intro X hP hw hK hc i pins s σ H E I hf st hg
  subst hP hw hK
  obtain ⟨f0,f1,f2,f3,f4,f5⟩:=hf it (by simp)
  have hg':z.cps.size≤i:=hg
  exact wpAny_pyNext_ascii_end (I.ok.hd hc) st (by simp;omega) fun h' eb=>⟨rfl,I.turned (t':=s.toks) (fun b o hb e=>eb b o hb e) f0 f1 f3 f4 f5⟩
 self:=fun _ _ _ _ _ st h=>wpAny_pyIter_striter_ascii st h
theorem v0P {P:Program}{w:World}{K:W.Frag}{tg:Expr} (z:Str) (t:Tok) (it:Addr):Turn P w K tg (Its z) [it] it (fun i h=>h.IsStrIter it "str_iterator" z t i) where
 mem:=by simp
 obj:=fun i h st b hb=>by
  have e:b=it:=by simpa using hb
  subst e
  obtain ⟨o,e,c,d⟩:=st
  exact ⟨o,e,fun v z=>by rw [d] at z;cases z⟩
 keep:=fun i h h' st k=>let ⟨o,e,r⟩:=st;⟨o,k it (by simp) o e,r⟩
 item:=by
  intro X hP hw hK hc i pins s σ H E I hf st hg
  subst hP hw hK
  obtain ⟨f0,f1,f2,f3,f4,f5⟩:=hf it (by simp)
  have hg':i<z.cps.size:=hg
  refine wpAny_pyNext_wide_item st (c:=z.cps[i]) (by simp [hg']) fun h' st' sb=>?_
  have I1:Inv X pins σ H { s with heap:=h',toks:=s.toks+1 }:=I.turned (fun b o hb e=>(sb.2 b hb).trans e) f0 f1 f3 f4 f5
  obtain ⟨o,e,c,d⟩:=id st'
  exact ⟨_,rfl,v0B (s:={ s with heap:=h',toks:=s.toks+1 }) e c d (by decide) ⟨.str ⟨#[z.cps[i]]⟩,H,I1,⟨_,rfl⟩,⟨rfl,z.cps[i],by simp [hg'],rfl⟩,st',fun b hb=>(hf b hb).1⟩⟩
 done:=by
  intro X hP hw hK hc i pins s σ H E I hf st hg
  subst hP hw hK
  obtain ⟨f0,f1,f2,f3,f4,f5⟩:=hf it (by simp)
  have hg':z.cps.size≤i:=hg
  exact wpAny_pyNext_wide_end (I.ok.hd hc) st (by simp;omega) fun h' eb=>⟨rfl,I.turned (t':=s.toks) (fun b o hb e=>eb b o hb e) f0 f1 f3 f4 f5⟩
 self:=fun _ _ _ _ _ st h=>wpAny_pyIter_striter_wide st h
def iStr (tl:TE):TI:=fun σ H R=>tl σ H fun x H1=>∃ z,x=.str z∧R (Its z) H1
theorem pi_str {l:Expr}{tl:TE} (hl:PE X l tl):PI X tg l (iStr tl):=by
 intro pins s σ H R I h
 refine thn (hl pins s σ H _ I h) fun v s1 ⟨x,H1,I1,r1,q1⟩=>?_
 obtain ⟨z,rfl,q⟩:=q1
 obtain ⟨t,rfl⟩:=r1
 cases ha:z.cps.all (·<128) with
 | true =>
  refine wpAny_pyIter_ascii ha ?_
  have hn:H1 s1.heap.objs.size=none:=I1.hok.fresh (Nat.le_refl _)
  exact ⟨s1.heap.objs.size,[s1.heap.objs.size],_,Its z,H1,rfl,I1.kept (t':=s1.toks) (fun b o e=>Heap.get?_push_of_some _ e),u9M z t _,⟨_,Heap.get?_push_size _ rfl,rfl,rfl⟩,fun b hb=>by
   have e:b=s1.heap.objs.size:=by simpa using hb
   subst e
   exact I1.fpOk (Nat.le_refl _) hn,q⟩
 | false =>
  refine wpAny_pyIter_wide ha ?_
  have hn:H1 s1.heap.objs.size=none:=I1.hok.fresh (Nat.le_refl _)
  exact ⟨s1.heap.objs.size,[s1.heap.objs.size],_,Its z,H1,rfl,I1.kept (t':=s1.toks) (fun b o e=>Heap.get?_push_of_some _ e),v0P z t _,⟨_,Heap.get?_push_size _ rfl,rfl,rfl⟩,fun b hb=>by
   have e:b=s1.heap.objs.size:=by simpa using hb
   subst e
   exact I1.fpOk (Nat.le_refl _) hn,q⟩
theorem v3W (hc:X.calm=true):CallR X (.builtin "all") (fun xs H Q=>∃ (p:Addr) (bs:List Bool),xs=[.ref p]∧SqL X.K H p (bs.map V.bl)∧Q (.bl (bs.all id)) H):=by
 intro pins s σ H xs us Q I r h
 obtain ⟨p,bs,rfl,hq,q⟩:=h
 obtain ⟨u,rfl,ru⟩:=vals1 r
 cases ru
 obtain ⟨its,rv,hl,hz⟩:=I.list hq
 have hlen:=rv.length
 rw [List.length_map] at hlen
 have hlt:p<s.heap.objs.size:=let ⟨o,ho,_⟩:=hl.isList;Heap.lt_size ho
 refine call_all_walk (wpAny_pyIter_list hl.isList ?_)
 refine ⟨s.heap.objs.size,_,_,_,_,_,fun i=>bs.getD i false,rfl,Walks.list (show X.A.in1.handled=none from I.ok.hd hc) s.heap.objs.size p (Nat.ne_of_lt hlt) its.toArray,⟨⟨_,Heap.get?_push_size _ rfl,rfl,rfl⟩,hl.isList.at fun o e=>Heap.get?_push_of_some _ e⟩,?_,?_⟩
 ·intro i v s' Q' E' hv hQ
  have hv':its[i]?=some v:=by simpa using hv
  have hi:i<bs.length:=by
   have:=(List.getElem?_eq_some_iff.mp hv').1
   omega
  have hx:(bs.map V.bl)[i]?=some (V.bl bs[i]):=by rw [List.getElem?_map,List.getElem?_eq_getElem hi];rfl
  obtain ⟨u,hu,ru⟩:=rv.get hx
  rw [hv'] at hu
  cases hu
  cases ru
  have e:bs.getD i false=bs[i]:=by rw [List.getD_eq_getElem?_getD,List.getElem?_eq_getElem hi];rfl
  have hQ':Q' (bs.getD i false) s':=hQ
  rw [e] at hQ'
  exact wpAny_truthy_bool hQ'
 ·intro h' tk hk
  have hw:∀ b o,s.heap.get? b=some o→h'.get? b=some o:=fun b o e=>hk b o (by
   intro z
   have:b=s.heap.objs.size:=by simpa using z
   subst this
   exact absurd (Heap.lt_size e) (Nat.lt_irrefl _)) (Heap.get?_push_of_some _ e)
  have e:(List.range its.toArray.size).all (fun i=>bs.getD i false)=bs.all id:=by
   rw [List.size_toArray,← hlen]
   clear hlen hq rv q hz
   induction bs with
   | nil=>rfl
   | cons b bs ih =>
    rw [List.length_cons,List.range_succ_eq_map,List.all_cons,List.all_map,List.all_cons]
    simp only [List.getD_cons_zero,id]
    congr 1
  rw [e]
  exact ⟨.bl _,H,I.kept hw,rfl,q⟩
def CDivB (i j:Int):Prop:=0<j∧j<2^64
theorem v3m:OpR X (binaryOp .FloorDiv) (rI CDivB fun i j=>.int (i / j)):=opI fun i j _ _ _ _ _ hc q=>by
 have h1:(0:Int)<j:=hc.1
 have h2:j<2^64:=hc.2
 refine floordiv_int (by omega) (by rw [Int.fdiv_eq_ediv_of_nonneg i (by omega)];exact q) (.inl (PyProof.noPylong_of_log2 ?_))
 have:j.natAbs.log2<64:=(Nat.log2_lt (by omega)).mpr (by omega)
 omega
end
noncomputable def notStar:Expr→Bool
 | .Starred _ _=>false
 | _=>true
theorem u0r {e:Expr}{es:List Expr}{env:Env} (h:notStar e=true):starEach (e::es) env=(false,eval e env)::starEach es env:=by
 cases e <;> first | rfl | exact absurd h Bool.false_ne_true
theorem u1g {pos:Pos}{env:Env}:∀ {es:List Expr},es.all notStar=true→(backTo pos (starEach es env)).any (·.1)=false
 | [],_=>rfl
 | e::es,h=>by
  rw [List.all_cons,Bool.and_eq_true] at h
  rw [u0r h.1]
  show (false||(backTo pos (starEach es env)).any (·.1))=false
  rw [u1g h.2]
  rfl
theorem u9G {pos:Pos}{env:Env}:∀ {es:List Expr},es.all notStar=true→(backTo pos (starEach es env)).all (fun x=>!x.1)=true
 | [],_=>rfl
 | e::es,h=>by
  rw [List.all_cons,Bool.and_eq_true] at h
  rw [u0r h.1]
  show (true&&(backTo pos (starEach es env)).all (fun x=>!x.1))=true
  rw [u9G h.2]
  rfl
theorem u0k {e:Expr}{es:List Expr} (h:(e::es).all notStar=true):notStar e=true∧es.all notStar=true:=by
 rw [List.all_cons,Bool.and_eq_true] at h
 exact h
section
variable {X:Cx}{e o:Expr}{es:List Expr}{te to:TE}{t:TA}{x name:Str}{p pos apos cpos:Pos}{id T:String}{r:List V→Hp→VK→Prop}{r3:V→List V→Hp→VK→Prop}
theorem pac (ha:PE X e te) (hr:PA X es t) (hs:notStar e=true:=by rfl):PA X (e::es) (tCons te t):=pa_cons ha hr (u0r hs)
theorem pcB (hc:CallR X (.builtin id) r) (hg:Gl X x) (hm:X.mg x=none) (hv:bootBuiltins x=some (.builtin id)) (ha:PA X (e::es) t) (hn:x≠"__name__":=by decide) (hdb:(x==("__debug__":Str))=false:=by decide)
  (hs:(e::es).all notStar=true:=by rfl):PE X (.Call (.Name x p) (e::es) [] pos) (tCB r t):=v3l hc hg hm hv ha hn hdb (u0r (u0k hs).1) (u1g (u0k hs).2)
theorem pcT (hc:CallR X (.type T) r) (hg:Gl X x) (hm:X.mg x=none) (hv:bootBuiltins x=some (.type T)) (ha:PA X (e::es) t) (hn:x≠"__name__":=by decide) (hdb:(x==("__debug__":Str))=false:=by decide)
  (hs:(e::es).all notStar=true:=by rfl):PE X (.Call (.Name x p) (e::es) [] pos) (tCB r t):=v1n hc hg hm hv ha hn hdb (u0r (u0k hs).1) (u1g (u0k hs).2)
theorem pbm (pa:PlainAttrs T) (slot:Slot T name id) (hty:typeOf (.builtin id)=pure (.type "method_descriptor")) (hm:MtR X id r3) (ho:PE X o to) (ha:PA X (e::es) t)
  (hs:(e::es).all notStar=true:=by rfl) (hl:decide ((e::es).length<30)=true:=by rfl)
  (hbase:attributeBase o name X.env (eval o X.env)=eval o X.env:=by rfl) (hline:(apos.endLine==cpos.line)=true:=by rfl) :
  PE X (.Call (.Attribute o name apos) (e::es) [] cpos) (tBM X.K T r3 to t):=by
 refine pe_bm pa slot hty hm ho ha hbase ?_ hline (u0r (u0k hs).1) (u1g (u0k hs).2)
 rw [u9G hs]
 have h2:(e::es).length+([]:List Keyword).length+(if ([]:List Keyword).isEmpty then 0 else 1)<30:=by
  have:=of_decide_eq_true hl
  simpa using this
 rw [decide_eq_true h2]
 rfl
end
def Callee (P:Program) (w:World) (K:W.Frag) (mg:MG) (base:Heap) (k:Nat) (x:Str) (ps:List Str) (sp:Sp):Prop :=
 ∃ f fd,FnOk P w K mg base CX0 k f fd ps sp∧Binds K fd ps []∧W.keepIn K (.ref f)=true∧mg x=some (.ref f)
def Glo (mg:MG) (x:Str) (v:V):Prop:=∃ u,mg x=some u∧RelV v u
section
variable {X:Cx}{P:Program}{w:World}{K:W.Frag}{mg:MG}{base:Heap}{k k':Nat}{x:Str}{ps:List Str}{sp:Sp}{e:Expr}{es:List Expr}{t:TA}{p pos:Pos}{v:V}
theorem pe_fn (h:Callee P w K mg base k x ps sp) (hr:Room k' X.A) (hk:k≤k') (ha:PA X (e::es) t) (hg:Gl X x:=by rfl) (eP:X.prog=P:=by rfl) (ew:X.w=w:=by rfl) (eK:X.K=K:=by rfl) (em:X.mg=mg:=by rfl) (eb:X.base=base:=by rfl)
  (hdb:(x==("__debug__":Str))=false:=by decide) (hs:(e::es).all notStar=true:=by rfl) :
  PE X (.Call (.Name x p) (e::es) [] pos) (tCall sp [] E0 t):=by
 subst eP ew eK em eb
 obtain ⟨f,fd,F,hb,hkp,hm⟩:=h
 exact pe_call F (hr.mono hk) hg hm hkp hb .nil pass0 ha hdb (u0r (u0k hs).1) (u1g (u0k hs).2)
theorem pe_glo (h:Glo mg x v) (hg:Gl X x:=by rfl) (em:X.mg=mg:=by rfl) (hd:(x==("__debug__":Str))=false:=by decide):PE X (.Name x pos) (tC v):=by
 subst em
 obtain ⟨u,hm,r⟩:=h
 exact pe_glob hg hm r hd
end
section
variable {X:Cx}{pos pos':Pos}{x:Str}{e:Expr}{te:TE}{tg l:Expr}{tl:TE}
theorem u7Y {N:List Str}{i:Nat} (hi:N.findIdx? (fun y=>y==x)=some i):N[i]?=some x:=by
 obtain ⟨h1,h2,_⟩:=List.findIdx?_eq_some_iff_getElem.mp hi
 rw [List.getElem?_eq_getElem h1]
 exact congrArg some (eq_of_beq h2)
theorem pg_n {i:Nat} (hN:X.N.Nodup) (hi:X.N.findIdx? (fun y=>y==x)=some i:=by rfl) (hx:Loc X.env.scope x:=by first | exact Or.inl rfl | exact Or.inr rfl) (hf:X.fn x=true∨X.env.scope.names.lookup x=some .local:=by first | exact .inl rfl | exact .inr rfl) :
  PG X (.Name x pos) (gName i):=pg_name hN (u7Y hi) hx hf
theorem ps_n {i:Nat} (hN:X.N.Nodup) (he:PE X e te) (hi:X.N.findIdx? (fun y=>y==x)=some i:=by rfl) (hx:Loc X.env.scope x:=by first | exact Or.inl rfl | exact Or.inr rfl) (hs:swapsWith e (some (.Name x pos')) pos.line X.env=pure false:=by rfl)
  (hf:X.fn x=true∨X.env.scope.names.lookup x=some .local:=by first | exact .inl rfl | exact .inr rfl):PS X (.Assign [.Name x pos'] e pos) (tAsg te (gName i)):=ps_set hN (u7Y hi) hx he hs hf
end
mutual
inductive RdV (K:W.Frag) (H:Hp):V→PyData→Prop
 | non:RdV K H .non .none
 | bl (b:Bool):RdV K H (.bl b) (.bool b)
 | int (i:Int):RdV K H (.int i) (.int i)
 | str (z:Str):RdV K H (.str z) (.str z)
 | lst {a:Addr}{xs:List V}{ds:List PyData}:SqL K H a xs→RdVs K H xs ds→RdV K H (.ref a) (.list ds)
 | tup {a:Addr}{xs:List V}{ds:List PyData}:SqT K H a xs→RdVs K H xs ds→RdV K H (.ref a) (.tuple ds)
inductive RdVs (K:W.Frag) (H:Hp):List V→List PyData→Prop
 | nil:RdVs K H [] []
 | cons {x:V}{d:PyData}{xs:List V}{ds:List PyData}:RdV K H x d→RdVs K H xs ds→RdVs K H (x::xs) (d::ds)
end
section
variable {X:Cx}{pins:LO}{σ:St}{H:Hp}{s:Shared}
mutual
theorem RdV.reads (I:Inv X pins σ H s):∀ {x:V}{d:PyData}{u:Value},RdV X.K H x d→RelV x u→∃ as,Reads s.heap u d as
 | _,_,_,.non,r=>by cases r;exact ⟨_,.none⟩
 | _,_,_,.bl b,r=>by cases r;exact ⟨_,.bool b⟩
 | _,_,_,.int i,r=>by obtain ⟨t,rfl⟩:=r;exact ⟨_,.int i t⟩
 | _,_,_,.str z,r=>by obtain ⟨t,rfl⟩:=r;exact ⟨_,.str z t⟩
 | _,_,_,.lst hq hs,r=>by
  cases r
  obtain ⟨its,rv,p,hz⟩:=I.list hq
  obtain ⟨as,h⟩:=RdVs.reads I hs rv
  obtain ⟨o,ho,hc,n,hd⟩:=p.isList
  exact ⟨_,.list ho hc hd (by simpa using h)⟩
 | _,_,_,.tup hq hs,r=>by
  cases r
  obtain ⟨its,rv,p,hz⟩:=I.tuple hq
  obtain ⟨as,h⟩:=RdVs.reads I hs rv
  obtain ⟨o,ho,hc,n,hd⟩:=p
  exact ⟨_,.tuple ho hc hd (by simpa using h)⟩
theorem RdVs.reads (I:Inv X pins σ H s):∀ {xs:List V}{ds:List PyData}{us:List Value},RdVs X.K H xs ds→Vals xs us→∃ as,ReadsAll s.heap us ds as
 | _,_,_,.nil,r=>by cases r;exact ⟨_,.nil⟩
 | _,_,_,.cons h hs,r=>by
  cases r with
  | cons r1 r2 =>
   obtain ⟨as,h1⟩:=RdV.reads I h r1
   obtain ⟨bs,h2⟩:=RdVs.reads I hs r2
   exact ⟨_,.cons h1 h2⟩
end
end
theorem Same.seqT {K:W.Frag}{H H':Hp}{a:Addr}{xs:List V} (e:Same H H') (h:SqT K H a xs):SqT K H' a xs:=by
 rcases h with (h | ⟨o,h⟩) | h
 ·exact .inl (.inl (e _ _ h))
 ·exact .inl (.inr ⟨o,e _ _ h⟩)
 ·exact .inr h
mutual
theorem RdV.same {K:W.Frag}{H H':Hp} (e:Same H H'):∀ {x:V}{d:PyData},RdV K H x d→RdV K H' x d
 | _,_,.non=>.non
 | _,_,.bl b=>.bl b
 | _,_,.int i=>.int i
 | _,_,.str z=>.str z
 | _,_,.lst hq hs=>.lst (e.seq hq) (RdVs.same e hs)
 | _,_,.tup hq hs=>.tup (e.seqT hq) (RdVs.same e hs)
theorem RdVs.same {K:W.Frag}{H H':Hp} (e:Same H H'):∀ {xs:List V}{ds:List PyData},RdVs K H xs ds→RdVs K H' xs ds
 | _,_,.nil=>.nil
 | _,_,.cons h hs=>.cons (RdV.same e h) (RdVs.same e hs)
end
section
variable {X:Cx}
def rEqD (K:W.Frag) (neg:Bool):R2:=fun x y H Q=>∃ d e,RdV K H x d∧RdV K H y e∧SeqAt.shaped d=true∧SeqAt.shaped e=true∧Q (.bl (if neg=true then !PyData.eqv d e else PyData.eqv d e)) H
theorem op_eqD (hu:X.A.units+64<cLine):OpR X (compareOp .Eq) (rEqD X.K false):=by
 intro pins s σ H x y v u Q I rx ry h
 obtain ⟨d,e,h1,h2,s1,s2,q⟩:=h
 obtain ⟨as,r1⟩:=h1.reads I rx
 obtain ⟨bs,r2⟩:=h2.reads I ry
 exact eq_dataH r1 r2 s1 s2 hu ⟨.bl _,H,I,rfl,q⟩
theorem op_neD (hu:X.A.units+64<cLine):OpR X (compareOp .NotEq) (rEqD X.K true):=by
 intro pins s σ H x y v u Q I rx ry h
 obtain ⟨d,e,h1,h2,s1,s2,q⟩:=h
 obtain ⟨as,r1⟩:=h1.reads I rx
 obtain ⟨bs,r2⟩:=h2.reads I ry
 exact ne_dataH r1 r2 s1 s2 hu ⟨.bl _,H,I,rfl,q⟩
end
end L2
namespace L2
open PySem PySem.Spec PyProof.Rows
section
variable {κ:Type} [DecidableEq κ]
noncomputable def valV (kvs:List (κ×V)) (k:κ):Option V:=(kvs.find? fun kv=>decide (kv.1=k)).map (·.2)
noncomputable def putK (kvs:List (κ×V)) (k:κ) (v:V):List (κ×V) :=
 if (kvs.any fun kv=>decide (kv.1=k))=true then kvs.map (fun kv=>if kv.1=k then (kv.1,v) else kv) else kvs++[(k,v)]
theorem u5O {p:κ×V}{r:List (κ×V)}{k:κ} (e:p.1=k):valV (p::r) k=some p.2:=by simp [valV,List.find?_cons,e]
theorem u5P {p:κ×V}{r:List (κ×V)}{k:κ} (e:¬ p.1=k):valV (p::r) k=valV r k:=by simp [valV,List.find?_cons,e]
theorem u8I (k:κ):∀ kvs:List (κ×V),(kvs.any fun kv=>decide (kv.1=k))=(valV kvs k).isSome
 | []=>rfl
 | p::r=>by
  rw [List.any_cons]
  by_cases e:p.1=k
  ·simp only [u5O e,decide_eq_true e,Bool.true_or,Option.isSome_some]
  ·rw [u5P e,decide_eq_false e,Bool.false_or];exact u8I k r
theorem u2Z (kvs:List (κ×V)) (k:κ) (v:V):(putK kvs k v).length≤kvs.length+1:=by
 unfold putK
 split
 ·rw [List.length_map];omega
 ·rw [List.length_append,List.length_cons,List.length_nil];omega
theorem RelO.isSome_eq {o:Option V}{u:Option Value} (r:RelO o u):o.isSome=u.isSome:=by
 cases o with
 | none=>cases u with
  | none=>rfl
  | some _=>exact (show False from r).elim
 | some _=>cases u with
  | none=>exact (show False from r).elim
  | some _=>rfl
theorem RelO.getD {o:Option V}{u:Option Value}{d:V}{d':Value} (r:RelO o u) (rd:RelV d d'):RelV (o.getD d) (u.getD d'):=by
 cases o with
 | none=>cases u with
  | none=>exact rd
  | some _=>exact (show False from r).elim
 | some _=>cases u with
  | none=>exact (show False from r).elim
  | some _=>exact r
theorem KV.val {kvs:List (κ×V)}{vs:List (κ×Value)} (r:KV kvs vs) (k:κ):RelO (valV kvs k) (valueAt vs k):=by
 unfold KV at r
 induction r with
 | nil=>exact True.intro
 | @cons p q ps qs h t ih =>
  obtain ⟨h1,h2⟩:=h
  by_cases e:p.1=k
  ·have e':q.1=k:=h1.symm.trans e
   have b:valueAt (q::qs) k=some q.2:=by simp [valueAt,List.find?_cons,e']
   rw [u5O e,b];exact h2
  ·have e':¬ q.1=k:=fun z=>e (h1.trans z)
   have b:valueAt (q::qs) k=valueAt qs k:=by simp [valueAt,List.find?_cons,e']
   rw [u5P e,b];exact ih
theorem KV.any {kvs:List (κ×V)}{vs:List (κ×Value)} (r:KV kvs vs) (k:κ):(kvs.any fun kv=>decide (kv.1=k))=vs.any fun kv=>decide (kv.1=k):=by
 unfold KV at r
 induction r with
 | nil=>rfl
 | cons h t ih=>rw [List.any_cons,List.any_cons,ih,h.1]
theorem KV.repl {kvs:List (κ×V)}{vs:List (κ×Value)} (r:KV kvs vs) (k:κ) {y:V}{u:Value} (ry:RelV y u) :
  KV (kvs.map fun kv=>if kv.1=k then (kv.1,y) else kv) (vs.map fun kv=>if kv.1=k then (kv.1,u) else kv):=by
 unfold KV at r ⊢
 induction r with
 | nil=>exact .nil
 | @cons p q ps qs h t ih =>
  rw [List.map_cons,List.map_cons]
  refine .cons ?_ ih
  obtain ⟨h1,h2⟩:=h
  by_cases e:p.1=k
  ·rw [if_pos e,if_pos (h1.symm.trans e)];exact ⟨h1,ry⟩
  ·rw [if_neg e,if_neg (fun z=>e (h1.trans z))];exact ⟨h1,h2⟩
theorem KV.put {kvs:List (κ×V)}{vs:List (κ×Value)} (r:KV kvs vs) (k:κ) {y:V}{u:Value} (ry:RelV y u):KV (putK kvs k y) (stored vs k u):=by
 unfold putK stored
 rw [r.any k]
 by_cases e:(vs.any fun kv=>decide (kv.1=k))=true
 ·rw [if_pos e,if_pos e];exact r.repl k ry
 ·rw [if_neg e,if_neg e];exact Paired.snoc r ⟨rfl,ry⟩
theorem KV.keys {kvs:List (κ×V)}{vs:List (κ×Value)} (r:KV kvs vs):kvs.map (·.1)=vs.map (·.1):=by
 unfold KV at r
 induction r with
 | nil=>rfl
 | cons h t ih=>rw [List.map_cons,List.map_cons,ih,h.1]
theorem KV.length {kvs:List (κ×V)}{vs:List (κ×Value)} (r:KV kvs vs):kvs.length=vs.length:=Paired.length r
end
theorem v0z {P:Program}{w:World}{k:Key}{u:Value} (r:RelV (kV k) u):(mixKind P w).is k u=true:=by
 cases k with
 | inl i=>obtain ⟨t,e⟩:=(show ∃ t,u=Value.int i t from r);subst e;exact u2Y P w i t
 | inr x=>obtain ⟨t,e⟩:=(show ∃ t,u=Value.str x t from r);subst e;exact u2X P w x t
theorem u7t {P:Program}{w:World}:∀ {ks:List Key}{us:List Value},Vals (ks.map kV) us→ItemsAre (mixKind P w) ks us
 | [],_,r=>by rw [List.map_nil] at r;cases r;exact .nil
 | k::ks,_,r=>by
  rw [List.map_cons] at r
  cases r with
  | cons h t=>exact .cons (v0z h) (u7t t)
abbrev KT (H:Hp):List (List Key×V)→List (List Key×Addr×Value)→Prop:=Paired fun p q=>p.1=q.1∧H q.2.1=some (.tup (p.1.map kV))∧RelV p.2 q.2.2
theorem KT.val {H:Hp}{kvs:List (List Key×V)}{xs:List (List Key×Addr×Value)} (r:KT H kvs xs) (k:List Key):RelO (valV kvs k) ((atKey xs k).map (·.2)):=by
 induction r with
 | nil=>exact True.intro
 | @cons p q ps qs h t ih =>
  obtain ⟨h1,_,h2⟩:=h
  by_cases e:p.1=k
  ·have e':q.1=k:=h1.symm.trans e
   have b:atKey (q::qs) k=some q.2:=by simp [atKey,List.find?_cons,e']
   rw [u5O e,b];exact h2
  ·have e':¬ q.1=k:=fun z=>e (h1.trans z)
   have b:atKey (q::qs) k=atKey qs k:=by simp [atKey,List.find?_cons,e']
   rw [u5P e,b];exact ih
theorem KT.repl {H:Hp}{kvs:List (List Key×V)}{xs:List (List Key×Addr×Value)} (r:KT H kvs xs) (k:List Key) {y:V}{u:Value} (ry:RelV y u) :
  KT H (kvs.map fun kv=>if kv.1=k then (kv.1,y) else kv) (xs.map (putAt k u)):=by
 induction r with
 | nil=>exact .nil
 | @cons p q ps qs h t ih =>
  rw [List.map_cons,List.map_cons]
  refine .cons ?_ ih
  obtain ⟨h1,h2,h3⟩:=h
  unfold putAt
  by_cases e:p.1=k
  ·rw [if_pos e,if_pos (h1.symm.trans e)];exact ⟨h1,h2,ry⟩
  ·rw [if_neg e,if_neg (fun z=>e (h1.trans z))];exact ⟨h1,h2,h3⟩
theorem KT.put {H:Hp}{kvs:List (List Key×V)}{xs:List (List Key×Addr×Value)} (r:KT H kvs xs) (k:List Key) {b:Addr}{y:V}{u:Value} (hb:H b=some (.tup (k.map kV))) (ry:RelV y u) :
  KT H (putK kvs k y) (storedH xs k b u):=by
 have e:(kvs.any fun kv=>decide (kv.1=k))=(atKey xs k).isSome:=by
  rw [u8I,(r.val k).isSome_eq,Option.isSome_map]
 unfold putK storedH
 rw [e]
 by_cases q:(atKey xs k).isSome=true
 ·rw [if_pos q,if_pos q];exact r.repl k ry
 ·rw [if_neg q,if_neg q];exact Paired.snoc r ⟨rfl,hb,ry⟩
theorem KT.keeps {H H':Hp}{kvs:List (List Key×V)}{xs:List (List Key×Addr×Value)} (r:KT H kvs xs) (ht:∀ b ys,H b=some (.tup ys)→H' b=some (.tup ys)):KT H' kvs xs :=
 Paired.mapP r fun _ _ z=>⟨z.1,ht _ _ z.2.1,z.2.2⟩
section
variable {P:Program}{w:World}{H:Hp}{h:Heap}{a:Addr}
theorem rd_of {u:HO} (ok:HOk P w H h) (e:Rd H a u):ObjOk P w H h a u:=e.ok ok
theorem u8z {kvs:List (Key×V)} (ok:HOk P w H h) (e:Rd H a (.dK kvs)):kvs.length≤sizeLine∧(a==sysModules)=false∧∃ vs,KV kvs vs∧h.DictOf (mixKind P w) a vs :=
 show ObjOk P w H h a (.dK kvs) from rd_of ok e
theorem dk_of {kvs:List (Key×V)} (ok:HOk P w H h) (e:H a=some (.dK kvs)):kvs.length≤sizeLine∧(a==sysModules)=false∧∃ vs,KV kvs vs∧h.DictOf (mixKind P w) a vs:=u8z ok (.inl e)
theorem u7q {ks:List Key} (ok:HOk P w H h) (e:H a=some (.tup (ks.map kV))):(tupleKind (mixKind P w)).is h ks a:=by
 obtain ⟨_,its,r,o,h1,h2,n,h3⟩:=(show ObjOk P w H h a (.tup (ks.map kV)) from ok a _ e)
 exact ⟨o,its.toArray,n,h1,h2,h3,by simpa using u7t r⟩
theorem v0F {kvs:List (List Key×V)} (ok:HOk P w H h) (e:Rd H a (.dT kvs)):kvs.length≤sizeLine∧(a==sysModules)=false ∧
  ∃ xs,KT H kvs xs∧h.DictOfH (tupleKind (mixKind P w)) a xs:=by
 obtain ⟨z,y,xs,r,o,es,ep,h1,h2,h3,h4,h5⟩:=(show ObjOk P w H h a (.dT kvs) from rd_of ok e)
 refine ⟨z,y,xs,r,o,es,ep,h1,h2,h3,h4,fun x hx=>?_,h5⟩
 have all:∀ {l:List (List Key×V)}{m:List (List Key×Addr×Value)},KT H l m→∀ x∈m,(tupleKind (mixKind P w)).is h x.1 x.2.1:=by
  intro l m q
  induction q with
  | nil=>intro x hx;exact nomatch hx
  | @cons p q ps qs hq t ih =>
   intro x hx
   rcases List.mem_cons.mp hx with e | hx
   ·subst e
    exact u7q ok (by rw [← hq.1];exact hq.2.1)
   ·exact ih x hx
 exact all r x hx
theorem dt_of {kvs:List (List Key×V)} (ok:HOk P w H h) (e:H a=some (.dT kvs)):kvs.length≤sizeLine∧(a==sysModules)=false ∧
  ∃ xs,KT H kvs xs∧h.DictOfH (tupleKind (mixKind P w)) a xs:=v0F ok (.inl e)
end
def DGet (H:Hp) (a:Addr) (y:V) (r:Option V):Prop :=
 (∃ kvs k,Rd H a (.dK kvs)∧y=kV k∧r=valV kvs k)∨∃ kvs k b,Rd H a (.dT kvs)∧y=.ref b∧H b=some (.tup (k.map kV))∧r=valV kvs k
def DPut (H:Hp) (a:Addr) (y v:V) (H':Hp):Prop :=
 (∃ kvs k,H a=some (.dK kvs)∧y=kV k∧kvs.length<sizeLine∧H'=upd H a (.dK (putK kvs k v))) ∨
 ∃ kvs k b,H a=some (.dT kvs)∧y=.ref b∧H b=some (.tup (k.map kV))∧kvs.length<sizeLine∧H'=upd H a (.dT (putK kvs k v))
theorem DGet.k {H:Hp}{a:Addr}{kvs:List (Key×V)}{k:Key} (e:H a=some (.dK kvs)):DGet H a (kV k) (valV kvs k):=.inl ⟨kvs,k,.inl e,rfl,rfl⟩
theorem DPut.k {H:Hp}{a:Addr}{kvs:List (Key×V)}{k:Key}{v:V} (e:H a=some (.dK kvs)) (hl:kvs.length<sizeLine):DPut H a (kV k) v (upd H a (.dK (putK kvs k v))):=.inl ⟨kvs,k,e,rfl,hl,rfl⟩
section
variable {X:Cx}{pins:LO}{σ:St}{H:Hp}{s:Shared}{a:Addr}{y v:V}{u r:Value}{o:Option V}{A:Around}{E:VP}
theorem Inv.big (I:Inv X pins σ H s):sysModules<s.heap.objs.size:=by
 have h:mainGlobals<s.heap.objs.size:=(I.mod.glob.keeps I.bk).lt
 exact Nat.lt_trans (by decide) h
theorem v2r {Q:VP} (hu:A.units+1<cLine) (I:Inv X pins σ H s) (g:DGet H a y (some v)) (ry:RelV y u) (h:∀ w' s',Inv X pins σ H s'→RelV v w'→Q w' s') :
  wpAny (model X.prog X.w) A (getItem (.ref a) u) Q E s:=by
 rcases g with ⟨kvs,k,e,ey,l⟩ | ⟨kvs,k,b,e,ey,eb,l⟩
 ·subst ey
  obtain ⟨z,hd,vs,rel,dd⟩:=u8z I.hok e
  obtain ⟨w',hw,rw'⟩:=RelO.some_of (v:=v) (o:=valueAt vs k) (by rw [l];exact rel.val k)
  exact wpAny_getItem_of (v0z ry) dd.mapOf hw (h w' _ (I.tok _) rw')
 ·subst ey
  cases (show u=Value.ref b from ry)
  obtain ⟨z,hd,xs,rel,dd⟩:=v0F I.hok e
  obtain ⟨w',hw,rw'⟩:=RelO.some_of (v:=v) (o:=(atKey xs k).map (·.2)) (by rw [l];exact rel.val k)
  obtain ⟨p,hp,hp2⟩:=Option.map_eq_some_iff.mp hw
  refine wpAny_getItem_heap (tupleKind_room_in1 hu) (u7q I.hok eb) dd hp ?_
  rw [hp2]
  exact h w' _ (I.tok _) rw'
theorem d_in {Q:VP} (hu:A.units+1<cLine) (I:Inv X pins σ H s) (g:DGet H a y o) (ry:RelV y u) (h:∀ s',Inv X pins σ H s'→Q (.bool o.isSome) s') :
  wpAny (model X.prog X.w) A (compareOp .In u (.ref a)) Q E s:=by
 rcases g with ⟨kvs,k,e,ey,l⟩ | ⟨kvs,k,b,e,ey,eb,l⟩
 ·subst ey
  obtain ⟨z,hd,vs,rel,dd⟩:=u8z I.hok e
  refine wpAny_in_of (v0z ry) hd dd.mapOf ?_
  rw [← (rel.val k).isSome_eq,← l]
  exact h _ (I.tok _)
 ·subst ey
  cases (show u=Value.ref b from ry)
  obtain ⟨z,hd,xs,rel,dd⟩:=v0F I.hok e
  refine wpAny_in_heap (tupleKind_room_in1 hu) (u7q I.hok eb) hd dd ?_
  have q:=(rel.val k).isSome_eq
  rw [Option.isSome_map] at q
  rw [← q,← l]
  exact h _ (I.tok _)
theorem u6w {h':Heap}{t':Nat}{ob:HO} (I:Inv X pins σ H s) (mu:Mut (H a)) (hs:Heap.SameBut a s.heap h') (he:∃ q,h'.get? a=some q) (new:ObjOk X.prog X.w (upd H a ob) h' a ob) :
  Inv X pins σ (upd H a ob) { s with heap:=h',toks:=t' } :=
 I.write (x:=a) (e:=a) mu (.inl rfl) (fun b q hb z=>(hs.2 b hb).trans z) he new
theorem v4r {P:Program}{w:World}{H':Hp}{h':Heap}{kvs:List (Key×V)}{vs:List (Key×Value)} (z:kvs.length≤sizeLine) (hd:(a==sysModules)=false) (rel:KV kvs vs) (dd:h'.DictOf (mixKind P w) a vs) :
  ObjOk P w H' h' a (.dK kvs):=⟨z,hd,vs,rel,dd⟩
theorem v2q {H':Hp}{Q:Unit→Shared→Prop} (hu:A.units+1<cLine) (I:Inv X pins σ H s) (g:DPut H a y v H') (ry:RelV y u) (rv:RelV v r) (h:∀ s',Inv X pins σ H' s'→Q () s') :
  wpAny (model X.prog X.w) A (setItem (.ref a) u r) Q E s:=by
 rcases g with ⟨kvs,k,e,ey,l,eH⟩ | ⟨kvs,k,b,e,ey,eb,l,eH⟩
 ·subst ey eH
  obtain ⟨z,hd,vs,rel,dd⟩:=dk_of I.hok e
  have hz:vs.length≤sizeLine:=by rw [← rel.length];exact z
  have hl:(putK kvs k v).length≤sizeLine:=by have:=u2Z kvs k v;omega
  refine wpAny_setItem_pairs (hsz:=hz) (v0z ry) dd fun h' dd' hs=>h _ ?_
  have he:∃ q,h'.get? a=some q:=let ⟨q,_,_,hq,_⟩:=dd';⟨q,hq⟩
  exact u6w I (by rw [e];exact True.intro) hs he (v4r hl hd (rel.put k rv) dd')
 ·subst ey eH
  cases (show u=Value.ref b from ry)
  obtain ⟨z,hd,xs,rel,dd⟩:=dt_of I.hok e
  have hz:xs.length≤sizeLine:=by rw [← Paired.length rel];exact z
  have hl:(putK kvs k v).length≤sizeLine:=by have:=u2Z kvs k v;omega
  refine wpAny_setItem_heap (hsz:=hz) (tupleKind_room_in1 hu) (u7q I.hok eb) dd fun h' dd' hs=>h _ ?_
  obtain ⟨q,es,ep,hq,h2,h3,h4,_,h5⟩:=dd'
  refine u6w I (by rw [e];exact True.intro) hs ⟨q,hq⟩ ⟨hl,hd,_,(rel.put k eb rv).keeps fun c ys ec=>?_,q,es,ep,hq,h2,h3,h4,h5⟩
  rw [u0l (ne_of ec e (fun z=>nomatch z))]
  exact ec
end
section
variable {X:Cx}{pins:LO}{σ:St}{H:Hp}{s:Shared}{a:Addr}{kvs:List (Key×V)}{k:Key}{u:Value}{A:Around}{E:VP}
theorem d_len {Q:VP} (I:Inv X pins σ H s) (e:Rd H a (.dK kvs)) (h:∀ t s',Inv X pins σ H s'→Q (.int kvs.length t) s'):wpAny (model X.prog X.w) A (call (.builtin "len") [.ref a]) Q E s:=by
 obtain ⟨z,hd,vs,rel,dd⟩:=u8z I.hok e
 refine call_len_dict hd dd (by rw [← rel.length];rw [sizeLine_eq] at z;omega) ?_
 rw [← rel.length]
 exact h _ _ (I.tok _)
end
def NoSl (i:Expr):Prop:=∀ ov iv,subscripted i false ov iv=operate [ov,iv] (getItem ov iv)
theorem subD_of {prog:Program}{w:World}{A:Around}{E:VP}{s:Shared}{env:Env}{value slice:Expr}{pos:Pos}{T id:String}{Q:VP}
  (hl:typeLookup (.type T) "__getitem__"=pure (some (.builtin id))) (hs:NoSl slice)
  (h:wpAny (model prog w) A (eval value env) (fun o s₁=>wpAny (model prog w) A (eval slice env) (fun i s₂=>s₂.TypeIs o T∧wpAny (model prog w) A (getItem o i) Q E s₂) E s₁) E s) :
  wpAny (model prog w) A (eval (.Subscript value slice pos) env) Q E s:=by
 refine Subscript_ (wpAny_mono h (fun o s₁ h₁=>wpAny_mono h₁ (fun i s₂ h₂=>?_) fun _ _ x=>x) fun _ _ x=>x)
 obtain ⟨hT,h₂⟩:=h₂
 unfold subscriptTail
 refine wpAny_bind ?_
 rw [getitemInPython_of_ne hT.not_modules]
 refine wpAny_bind (wpAny_specialOf hT hl ?_)
 have fin:wpAny (model prog w) A (subscripted slice false o i) (fun r s₃=>wpAny (model prog w) A (letTemporaryGo value o r >>= fun _=>pure r) Q E s₃) E s₂:=by
  rw [hs o i]
  exact wpAny_operating (wpAny_mono h₂ (fun r s₃ h₃=>wpAny_bind (wpAny_letTemporaryGo (wpAny_pure h₃))) fun _ _ x=>x)
 first
  | exact wpAny_pure (wpAny_bind fin)
  | exact wpAny_bind (wpAny_pure (wpAny_bind fin))
  | exact wpAny_bind fin
theorem u8A {X:Cx}{pins:LO}{σ:St}{H:Hp}{s:Shared}{a:Addr}{y:V}{o:Option V} (I:Inv X pins σ H s) (g:DGet H a y o):s.TypeIs (.ref a) "dict":=by
 rcases g with ⟨kvs,k,e,_,_⟩ | ⟨kvs,k,b,e,_,_,_⟩
 ·obtain ⟨_,_,vs,_,dd⟩:=u8z I.hok e
  exact dd.typeIs
 ·obtain ⟨_,_,xs,_,dd⟩:=v0F I.hok e
  exact dd.typeIs
def tDGet (td ty:TE):TE:=fun σ H Q=>td σ H fun x H1=>ty σ H1 fun y H2=>∃ a v,x=.ref a∧DGet H2 a y (some v)∧Q v H2
def sDPut (td ty tv:TE):TS:=fun D σ H=>tv σ H fun v H1=>td σ H1 fun x H2=>ty σ H2 fun y H3=>∃ a H4,x=.ref a∧DPut H3 a y v H4∧D.nx σ H4
section
variable {X:Cx}{o i e value:Expr}{pos pos' tpos:Pos}{td ty tv:TE}
theorem pe_dget (hu:X.A.units+1<cLine) (ho:PE X o td) (hi:PE X i ty) (hs:NoSl i):PE X (.Subscript o i pos) (tDGet td ty):=by
 intro pins s σ H Q I h
 refine subD_of PySem.F.slot_dict_getitem.lookup hs (thn (ho pins s σ H _ I h) fun u s1 ⟨x,H1,I1,rx,q1⟩=>thn (hi pins s1 σ H1 _ I1 q1) fun iv s2 ⟨y,H2,I2,ry,a,v,ex,g,q2⟩=>?_)
 subst ex
 obtain rfl:u=Value.ref a:=rx
 exact ⟨u8A I2 g,v2r hu I2 g ry fun w' s3 I3 rw'=>⟨v,H2,I3,rw',q2⟩⟩
theorem ps_dput (hu:X.A.units+1<cLine) (ho:PE X o td) (hi:PE X i ty) (hv:PE X value tv) (hs:swapsWith value (some (.Subscript o i pos')) pos.line X.env=pure false) :
  PS X (.Assign [.Subscript o i pos'] value pos) (sDPut td ty tv):=by
 intro pins s σ H D I h
 refine wpAny_Assign_Subscript (thn (hv pins s σ H _ I h) fun r s1 ⟨v,H1,I1,rv,q1⟩=>thn (ho pins s1 σ H1 _ I1 q1) fun u s2 ⟨x,H2,I2,rx,q2⟩=>thn (hi pins s2 σ H2 _ I2 q2) fun iv s3 ⟨y,H3,I3,ry,a,H4,ex,g,q3⟩=>?_) hs
 subst ex
 obtain rfl:u=Value.ref a:=rx
 exact v2q hu I3 g ry rv fun s4 I4=>⟨σ,H4,I4,q3⟩
end
theorem u9y {P:Program}{w:World}{H:Hp} (h:Heap) (hb:sysModules<h.objs.size):ObjOk P w H (h.push { cls:=.type "dict",data:=.dict #[] }) h.objs.size (.dK []) :=
 ⟨Nat.zero_le _,beq_eq_false_iff_ne.mpr (Ne.symm (Nat.ne_of_lt hb)),[],.nil,Heap.DictOf.new h⟩
def tDNewK:TE:=fun _ H Q=>∀ p,H p=none→Q (.ref p) (upd H p (.dK []))
section
variable {X:Cx}{pos:Pos}
theorem v3i:PE X (.Dict [] [] pos) tDNewK:=fun pins s σ H Q I h =>
 wpAny_Dict_empty ⟨.ref s.heap.objs.size,_,I.laid (a:=s.heap.objs.size) (o:=.dK []) (t':=s.toks) (fun _ _ q=>Heap.get?_push_of_some _ q) (Nat.le_refl _) (u9y s.heap I.big),rfl,h _ (I.hok.fresh (Nat.le_refl _))⟩
end
structure M2 (X:Cx) (o:Expr) (m:Str) (apos:Pos) (e f:Expr) (cpos:Pos):Prop where
 base:attributeBase o m X.env (eval o X.env)=eval o X.env
 few:((backTo cpos (starEach [e,f] X.env)).all (fun x=>!x.1)&&(backToKw cpos (keywordEach [] X.env)).all (fun x=>x.1.isSome)
  && decide (([e,f]:List Expr).length+([]:List Keyword).length+(if ([]:List Keyword).isEmpty then 0 else 1)<30))=true
 line:(apos.endLine==cpos.line)=true
 trees:backTo cpos (starEach [e,f] X.env)=[(false,eval e X.env),(false,eval f X.env)]
def IsD (H:Hp) (a:Addr):Prop:=(∃ kvs,Rd H a (.dK kvs))∨∃ kvs,Rd H a (.dT kvs)
theorem v4k {X:Cx}{pins:LO}{σ:St}{H:Hp}{s:Shared}{a:Addr} (I:Inv X pins σ H s) (d:IsD H a) :
  s.TypeIs (.ref a) "dict"∧(∀ b,Value.ref a=.ref b→∃ ob,s.heap.get? b=some ob∧ob.dict=none)∧(a==sysModules)=false:=by
 rcases d with ⟨kvs,e⟩ | ⟨kvs,e⟩
 ·obtain ⟨_,hd,vs,_,dd⟩:=u8z I.hok e
  refine ⟨dd.typeIs,fun b q=>?_,hd⟩
  cases q
  obtain ⟨ob,_,_,h1,h2,_⟩:=dd
  exact ⟨ob,h1,h2.2.1⟩
 ·obtain ⟨_,hd,xs,_,dd⟩:=v0F I.hok e
  refine ⟨dd.typeIs,fun b q=>?_,hd⟩
  cases q
  obtain ⟨ob,_,_,h1,h2,_⟩:=dd
  exact ⟨ob,h1,h2.2.1⟩
section
variable {X:Cx}{pins:LO}{σ:St}{H:Hp}{s:Shared}{a:Addr}{y d:V}{u r:Value}{o:Option V}{A:Around}{E:VP}
theorem d_get2 {Q:VP} (hu:A.units+1<cLine) (I:Inv X pins σ H s) (g:DGet H a y o) (ry:RelV y u) (rd:RelV d r) (h:∀ w' s',Inv X pins σ H s'→RelV (o.getD d) w'→Q w' s') :
  wpAny (model X.prog X.w) A (call (.builtin "dict.get") [.ref a,u,r]) Q E s:=by
 rcases g with ⟨kvs,k,e,ey,l⟩ | ⟨kvs,k,b,e,ey,eb,l⟩
 ·subst ey
  obtain ⟨z,hd,vs,rel,dd⟩:=u8z I.hok e
  refine call_meetsIn PySem.F.slot_dict_get dd.typeIs PySem.F.entry_dict_get (PySem.F.args_dict_get_3 _ _ _) (meets_dict_get_default (mixKind X.prog X.w) a (v0z ry) hd r) ⟨_,dd.mapOf,h _ _ (I.tok _) ?_⟩
  rw [l]
  exact (rel.val k).getD rd
 ·subst ey
  cases (show u=Value.ref b from ry)
  obtain ⟨z,hd,xs,rel,dd⟩:=v0F I.hok e
  refine call_meetsIn PySem.F.slot_dict_get dd.typeIs PySem.F.entry_dict_get (PySem.F.args_dict_get_3 _ _ _) (meetsH_dict_get_default (tupleKind (mixKind X.prog X.w)) a b hd r) ⟨tupleKind_room_in1 hu,k,xs,u7q I.hok eb,dd,h _ _ (I.tok _) ?_⟩
  rw [l]
  exact (rel.val k).getD rd
end
def tDGet2 (td ty tx:TE):TE:=fun σ H Q=>td σ H fun x H1=>∃ a,x=.ref a∧IsD H1 a∧ty σ H1 fun y H2=>tx σ H2 fun z H3=>∃ o,DGet H3 a y o∧Q (o.getD z) H3
section
variable {X:Cx}{o e f:Expr}{apos cpos:Pos}{td ty tx:TE}
theorem v3j (hu:X.A.units+1<cLine) (ho:PE X o td) (he:PE X e ty) (hf:PE X f tx) (m:M2 X o "get" apos e f cpos):PE X (.Call (.Attribute o "get" apos) [e,f] [] cpos) (tDGet2 td ty tx):=by
 intro pins s σ H Q I h
 refine wpAny_Call_method m.base m.few m.line PySem.F.plainAttrs_dict PySem.F.slot_dict_get PySem.F.type_dict_get (thn (ho pins s σ H _ I h) fun u s1 ⟨x,H1,I1,rx,a,ex,d,q1⟩=>?_)
 subst ex
 obtain rfl:u=Value.ref a:=rx
 obtain ⟨t1,t2,_⟩:=v4k I1 d
 refine ⟨t1,t2,?_⟩
 rw [m.trees]
 refine Calls.callWith_builtin rfl (Calls.evalArgs_plain (Calls.spliced_cons (thn (he pins s1 σ H1 _ I1 q1) fun iv s2 ⟨y,H2,I2,ry,q2⟩ =>
  Calls.spliced_cons (thn (hf pins s2 σ H2 _ I2 q2) fun fv s3 ⟨z,H3,I3,rz,ov,g,q3⟩=>Calls.spliced_nil ?_))))
 exact d_get2 hu I3 g ry rz fun w' s4 I4 rw'=>⟨_,H3,I4,rw',q3⟩
end
end L2
namespace Att
open PySem PySem.W PySem.Calls PyProof.Rows
end Att
namespace L2
open PySem PySem.Spec PyProof.Rows
end L2
namespace L2
open PySem PySem.Spec PyProof.Rows
section
variable {X:Cx}
theorem v2A:CallR X (.builtin "len") (fun xs H Q=>∃ a kvs,xs=[V.ref a]∧H a=some (.dK kvs)∧Q (.int kvs.length) H):=by
 intro pins s σ H xs us Q I r h
 obtain ⟨a,kvs,rfl,ha,q⟩:=h
 obtain ⟨u,rfl,ru⟩:=vals1 r
 cases ru
 exact d_len I (.inl ha) fun t s' I'=>⟨.int kvs.length,H,I',⟨t,rfl⟩,q⟩
end
structure JE (X:Cx) (e:Expr) (t:TE):Prop where
 out:PE X e t
structure JS (X:Cx) (s:Stmt) (t:TS):Prop where
 out:PS X s t
structure JB (X:Cx) (s:List Stmt) (t:TS):Prop where
 out:PSs X s t
section
variable {X:Cx}{a b c e o:Expr}{es rest:List Expr}{ta tb tc te to:TE}{t u:TS}{tA tB':TT}{pos pos' p apos cpos:Pos}{x name:Str}{tr:TA}{v:V}{i:Nat}
theorem ev (i:Nat) {x:Str}{pos:Pos} (hN:X.N[i]?=some x:=by rfl) (hv:Vis X.env.scope x:=by first | exact Or.inl rfl | exact Or.inr (Or.inl rfl) | exact Or.inr (Or.inr rfl)) (hd:(x==("__debug__":Str))=false:=by decide)
  (hcd:(x==("__classdict__":Str))=false:=by decide):JE X (.Name x pos) (tVar i):=⟨u2D hN hv hd hcd⟩
variable {tg l:Expr}{tl:TE}
variable {st:Stmt}{sts:List Stmt}
theorem b_one (h1:JS X st t):JB X [st] t:=⟨u8h h1.out⟩
end
section
variable {P:Program}{w:World}{K:W.Frag}{mg:MG}{base:Heap}
theorem Fun.okJ {x qual:Str}{st:Stmt}{f:Addr}{fd:FuncData}{N ps:List Str}{k:Nat}{sp:Sp} (F:Fun K x qual st f fd) (S:FnScope N ps (defScope st)) (len:∀ vs H Q E,sp vs H Q E→vs.length=ps.length)
  (hbody:∀ (cdv:Value) (A:Around) (outer:List Env) (s:Shared) (H:Hp) (vs:List V) (Q:VK) (E:XK),Room k (A.deeper (envOfC qual (defScope st) s.heap.objs.size f cdv))→sp vs H Q E →
   ∃ t,JB (cxOf CX0 P w K mg base N qual (defScope st) f cdv A outer s H E).nox (defBody st) t∧t { nx:=fun _ H'=>Q .non H',rt:=Q } (start N vs) H):FnOk P w K mg base CX0 (k+1) f fd ps sp :=
 F.ok S len fun cdv A outer s H vs Q E hr h=>let ⟨t,a,b⟩:=hbody cdv A outer s H vs Q E hr h;⟨t,a.out,b⟩
end
end L2
namespace KW
open PySem L2 PySem.Spec PyProof.Rows
end KW
namespace L2
open PySem PySem.Spec PyProof.Rows
noncomputable def cutC {α:Type} (xs:List α) (lo hi:Option Int):List α:=(xs.drop (HT.sIx xs.length 0 lo)).take (HT.sIx xs.length xs.length hi - HT.sIx xs.length 0 lo)
theorem v3a (a b:Nat):sliceRange (a:Int) (b:Int) 1=(List.range (b - a)).map (fun k=>a+k):=by
 unfold sliceRange
 have h:(if (1:Int) > 0 then (if (a:Int)<b then ((b:Int) - a+1 - 1) / 1 else 0) else (if (a:Int) > b then ((a:Int) - b - 1 - 1) / (-1) else 0)).toNat=b - a:=by
  rw [if_pos (by decide)]
  by_cases h:(a:Int)<b
  ·rw [if_pos h];omega
  ·rw [if_neg h];omega
 simp only [h]
 refine List.map_congr_left fun k _=>?_
 omega
theorem u9D (v:Int) (n d:Nat):max 0 (min (if v<0 then v+(n:Int) else v) (n:Int))=((HT.sIx n d (some v):Nat):Int):=by
 show max 0 (min (if v<0 then v+(n:Int) else v) (n:Int))=(((if v<0 then (v+(n:Int)).toNat else min v.toNat n):Nat):Int)
 by_cases hv:v<0
 ·simp only [if_pos hv];omega
 ·simp only [if_neg hv];omega
theorem u7Z (l u:Option Int) (n:Nat):Builtin.Str.strSliceIndices l u 1 n=(List.range (HT.sIx n n u - HT.sIx n 0 l)).map (fun k=>HT.sIx n 0 l+k):=by
 rw [← v3a]
 unfold Builtin.Str.strSliceIndices
 simp only [show ((1:Int) > 0)=True from by simp,if_true]
 congr 1
 ·cases l with
  | none=>rfl
  | some v=>exact u9D v n 0
 ·cases u with
  | none=>rfl
  | some v=>exact u9D v n n
set_option tactic.hygienic true in
theorem v0Y (z:Str) (l u:Option Int):(Txt.slice z l u).cps.toList=cutC z.cps.toList l u:=by
 have hn:z.cps.toList.length=z.length:=by rw [Array.length_toList];rfl
 have hl:HT.sIx z.length 0 l≤z.length:=HT.sIx_le _ 0 (Nat.zero_le _) l
 have hu:HT.sIx z.length z.length u≤z.length:=HT.sIx_le _ _ (Nat.le_refl _) u
 unfold Txt.slice cutC
 rw [u7Z,hn]
 split
 ·rename_i h
  simp only [beq_self_eq_true,Bool.true_and,List.length_map,List.length_range,beq_iff_eq] at h
  have e1:HT.sIx z.length 0 l=0:=by omega
  have e2:HT.sIx z.length z.length u=z.length:=by omega
  rw [e1,e2,List.drop_zero,Nat.sub_zero,List.take_of_length_le (by omega)]
 ·by_cases h:HT.sIx z.length 0 l≤HT.sIx z.length z.length u
  ·have h2:=StrLaws.picks z.cps.toList (HT.sIx z.length z.length u - HT.sIx z.length 0 l) (HT.sIx z.length 0 l) (by omega)
   rw [← h2]
   show List.filterMap (fun x=>z.cps[x]?) _=_
   have e:(fun x=>z.cps[x]?)=(fun x:Nat=>z.cps.toList[x]?):=by funext i;simp
   rw [e]
  ·have e:HT.sIx z.length z.length u - HT.sIx z.length 0 l=0:=by omega
   rw [e,List.take_zero];rfl
theorem sIx_one (n d:Nat):HT.sIx n d (some 1)=min 1 n:=HT.sIx_nat n d 1
theorem u9O (z:Str):(Txt.slice z (some 1) none).cps.toList=z.cps.toList.drop 1:=by
 rw [v0Y]
 unfold cutC
 rw [sIx_one,HT.sIx_none]
 by_cases h:1≤z.cps.toList.length
 ·rw [Nat.min_eq_left h,List.take_of_length_le (by rw [List.length_drop];omega)]
 ·have e:z.cps.toList=[]:=List.eq_nil_of_length_eq_zero (by omega)
  rw [e];rfl
abbrev bmV:List Value:=[.type "ValueError",.type "Exception",.type "BaseException",.type "object"]
abbrev tupO (vs:List Value):Obj:={ cls:=.type "tuple",data:=.seq vs.toArray }
abbrev excO (C t:Addr) (dx:Option Addr):Obj:={ cls:=.ref C,dict:=dx,data:=.fields #[.ref t,.none,.none,.none,.bool false,.none] }
noncomputable def onlyV:List Value→Bool
 | .ref _::r=>onlyV r
 | l=>l==bmV
noncomputable def xcB (K:W.Frag) (C f:Addr):Bool:=match K.lookup C with
 | some ⟨.type "type",_,.cls cd,sl⟩=>(match cd.mro,sl.toList with
  | .ref C'::bm,[_,_,_,_,some (.builtin n),_]=>C'==C&&n=="ValueError.__new__"&&!cd.hasDel&&W.tailIn K bmV bm&&cd.hasDict &&
    W.findIn K (.ref C) "__init__"==some (some (.ref f))&&W.typeIn K (.ref f)==some (.type "function")&&W.findIn K (.ref C) "__getattribute__"==some (some (.builtin "BaseException.__getattribute__")) &&
    W.findIn K (.ref C) "__setattr__"==some (some (.builtin "object.__setattr__"))&&W.findIn K (.ref C) "__getattr__"==some none&&W.keepIn K (.ref C)&&onlyV bm &&
    W.findIn K (.ref C) "__class__"==some (some (.builtin "object.__class__"))&&W.specialIn K (.builtin "object.__class__") "__get__"==some (some (.builtin "getset_descriptor.__get__"))&&W.takesIn K (.builtin "object.__class__")==some true&&W.mroIn K C (.type "object")==some true
  | _,_=>false)
 | _=>false
structure XCls (K:W.Frag) (C f:Addr):Prop where
 obj:∃ bm N nm q bs sn sub ab col dd k0 k1 k2 k3 k5,K.lookup C=some (excClassObj nm q C N bs bm true sn sub ab col dd k0 k1 k2 k3 k5 "ValueError.__new__")∧W.tailIn K bmV bm=true
 init:W.findIn K (.ref C) "__init__"=some (some (.ref f))
 fn:W.typeIn K (.ref f)=some (.type "function")
 ga:W.findIn K (.ref C) "__getattribute__"=some (some (.builtin "BaseException.__getattribute__"))
 sa:W.findIn K (.ref C) "__setattr__"=some (some (.builtin "object.__setattr__"))
 gt:W.findIn K (.ref C) "__getattr__"=some none
 kp:W.keepIn K (.ref C)=true
 ov:∃ cd,W.clsIn K C=some cd∧onlyV cd.mro=true∧cd.hasDict=true
 cl:W.findIn K (.ref C) "__class__"=some (some (.builtin "object.__class__"))
 cg:W.specialIn K (.builtin "object.__class__") "__get__"=some (some (.builtin "getset_descriptor.__get__"))
 ct:W.takesIn K (.builtin "object.__class__")=some true
 co:W.mroIn K C (.type "object")=some true
set_option tactic.hygienic true in
theorem xcls_of {K:W.Frag}{C f:Addr} (e:xcB K C f=true):XCls K C f:=by
 unfold xcB at e
 split at e
 ·rename_i dd cd sl ho
  split at e
  ·rename_i C' bm k0 k1 k2 k3 n k5 hm hs
   simp only [Bool.and_eq_true,beq_iff_eq,Bool.not_eq_true'] at e
   obtain ⟨⟨⟨⟨⟨⟨⟨⟨⟨⟨⟨⟨⟨⟨⟨rfl,rfl⟩,hdel⟩,ht⟩,hdi⟩,e1⟩,e2⟩,e3⟩,e4⟩,e5⟩,e6⟩,e7⟩,e8⟩,e9⟩,e10⟩,e11⟩:=e
   obtain ⟨nm,bs,mro,ns,qn,hd,sn,sub,ab,col,del⟩:=cd
   dsimp only at hm hdel hdi
   subst hm hdel hdi
   have hsl:sl=#[k0,k1,k2,k3,some (.builtin "ValueError.__new__"),k5]:=by
    obtain ⟨l⟩:=sl
    simp only at hs
    rw [hs]
   subst hsl
   exact ⟨⟨bm,ns,nm,qn,bs,sn,sub,ab,col,dd,k0,k1,k2,k3,k5,ho,ht⟩,e1,e2,e3,e4,e5,e6,⟨_,by unfold W.clsIn;rw [ho],by show onlyV bm=true;exact e7,rfl⟩,e8,e9,e10,e11⟩
  ·cases e
 ·cases e
section
variable {prog:Program}{w:World}{A:Around}{K:W.Frag}{C f:Addr}{h:Heap}{g:Array GenState}{d:Drawn}{t:Nat}{os:OsState}{R:Result→Shared→Prop}
theorem v3O {rest:List Value} (X:K.In h) (c:XCls K C f) (hz:rest.length≤sizeLine)
  (hq:codeAny (model prog w) (A.under (.builtin "type.__call__" ⟨.ref C::rest,[]⟩)) (.call (.ref f) ⟨.ref (h.objs.size+1)::rest,[]⟩) (W.InitBack (h.objs.size+1) R) ⟨(h.push (tupO rest)).push (excO C h.objs.size none),g,d,t,os⟩) :
  codeAny (model prog w) A (.call (.ref C) ⟨rest,[]⟩) R ⟨h,g,d,t,os⟩:=by
 obtain ⟨bm,N,nm,q,bs,sn,sub,ab,col,dd,k0,k1,k2,k3,k5,hK,ht⟩:=c.obj
 have T:=W.tail_of_in X ht
 have hC:=X _ _ hK
 have FV:=PySem.F.excBase_ValueError
 have b1:=tc_lookup
 have b2:=tc_bind (.ref C)
 have b3:(⟨h,g,d,t,os⟩:Shared).TypeIs (.ref C) "type":=⟨_,hC,rfl⟩
 refine codeAny_of_tree ?_
 show wpAny _ _ (callAny (.ref C) _) _ _ _
 repeat (any_goals (first | assumption | with_reducible refine wpAny_loadPart_at hC ?_ | wp_step))
 refine ⟨rfl,?_⟩
 refine codeAny_call_builtin_at (Code.quiet_builtin _ (by decide +kernel)) entry_typeCall (wpAny_check_type_call_sub hC ?_)
 repeat (first | with_reducible refine wpAny_loadPart_at hC ?_ | with_reducible refine wpAny_madeBy_exc hC ?_ | wp_step)
 refine codeAny_call_builtin_code (Code.quiet_builtin _ FV.quiet) (wpAny_check_new_subU FV (by decide +kernel) T hC ?_)
 refine codeAny_exc_new_subU FV (by decide +kernel) FV T hC ?_ hz
 show wpAny _ (A.under (Code.builtin "type.__call__" ⟨Value.ref C::rest,[]⟩)) _ _ _ ⟨(h.push (tupO rest)).push (excO C h.objs.size none),g,d,t,os⟩
 have hk:∀ b o,h.get? b=some o→((h.push (tupO rest)).push (excO C h.objs.size none)).get? b=some o:=fun b o e=>Heap.get?_push_of_some _ (Heap.get?_push_of_some _ e)
 have X1:K.In ((h.push (tupO rest)).push (excO C h.objs.size none)):=X.keeps hk
 have hg:((h.push (tupO rest)).push (excO C h.objs.size none)).get? (h.objs.size+1)=some (excO C h.objs.size none):=by heap_get
 have ty:W.Looks (model prog w) ((h.push (tupO rest)).push (excO C h.objs.size none)) (typeOf (.ref (h.objs.size+1))) (.ref C):=(W.Looks.ld hg).andThen .now
 have hcC:(Value.ref C::bm).contains (.ref C)=true:=by simp
 have su:W.Looks (model prog w) ((h.push (tupO rest)).push (excO C h.objs.size none)) (isSubtype (.ref C) (.ref C)) true:=W.looks_mroIn X1 (by unfold W.mroIn W.clsIn;rw [hK];exact congrArg some hcC)
 have li:=W.looks_findIn (M:=model prog w) X1 c.init
 have lb:=W.bind_fn (M:=model prog w) X1 (.ref (h.objs.size+1)) c.fn
 unfold isInstance callSpecial? specialOf
 repeat (first | with_reducible refine wpAny_call ?_ | lk)
 refine codeAny_mono hq fun r s' z=>?_
 rcases r with e | (v | _ | _ | _) <;> first | exact z | exact z.elim | skip
 obtain ⟨rfl,z⟩:=z
 exact wpAny_pure (wpAny_pure z)
end
theorem u5U (self:Value):∀ {l:List Value},onlyV l=true→refuseLoop self "__setattr__" l=pure ()
 | .ref c::r,e=>by
  rw [refuseLoop_ref]
  exact u5U self (l:=r) (by unfold onlyV at e;exact e)
 | [],e=>by cases (beq_iff_eq.mp (show (([]:List Value)==bmV)=true from e))
 | v::r,e=>by
  cases v <;> first
   | (unfold onlyV at e;rw [beq_iff_eq.mp e];kernel_rfl)
   | (rw [refuseLoop_ref];exact u5U self (l:=r) (by unfold onlyV at e;exact e))
theorem u2w:∀ {l:List Value},onlyV l=true→l.contains (.type "BaseException")=true
 | .ref c::r,e=>by
  rw [List.contains_cons,u2w (l:=r) (by unfold onlyV at e;exact e),Bool.or_true]
 | [],e=>by cases (beq_iff_eq.mp (show (([]:List Value)==bmV)=true from e))
 | v::r,e=>by
  cases v <;> first
   | (unfold onlyV at e;rw [beq_iff_eq.mp e];decide +kernel)
   | (rw [List.contains_cons,u2w (l:=r) (by unfold onlyV at e;exact e),Bool.or_true])
theorem u4H:∀ {l:List Value},onlyV l=true→l.contains (.type "object")=true
 | .ref c::r,e=>by
  rw [List.contains_cons,u4H (l:=r) (by unfold onlyV at e;exact e),Bool.or_true]
 | [],e=>by cases (beq_iff_eq.mp (show (([]:List Value)==bmV)=true from e))
 | v::r,e=>by
  cases v <;> first
   | (unfold onlyV at e;rw [beq_iff_eq.mp e];decide +kernel)
   | (rw [List.contains_cons,u4H (l:=r) (by unfold onlyV at e;exact e),Bool.or_true])
def ExAt (h:Heap) (e C:Addr) (dx:Option Addr):Prop:=∃ t f1 f2 f3 f4 f5 sl,h.get? e=some { cls:=.ref C,dict:=dx,data:=.fields #[.ref t,f1,f2,f3,f4,f5],slots:=sl }
section
variable {prog:Program}{w:World}{A:Around}{E:VP}{s:Shared}{K:W.Frag}{e C f:Addr}{name:Str}{v:Value}{R:Result→Shared→Prop}
theorem exc_osa {ox:Obj}{od:Option Obj}{tk:Tok} (X:K.In s.heap) (c:XCls K C f) (I:W.InstAt s.heap e ox C od) (hn:W.findIn K (.ref C) name=some none)
  (h:∀ b,wpAny (model prog w) A.in1 (Builtin.ObjectAttr.storeInOwnDict (.ref e) (.ref C) (.str name tk) name v b)
   (fun fin s'=>match fin with | .done f=>R (.ok f) s' | .again c'=>c'.quiet=true∧codeAny (model prog w) A c' R s') (fun x s'=>R (.error x) s') s) :
  codeAny (model prog w) A (.call (.builtin "object.__setattr__") ⟨[.ref e,.str name tk,v],[]⟩) R s:=by
 have SF:=PySem.F.store_object
 obtain ⟨cd,hc,ho,_⟩:=c.ov
 have ne:cd.mro.isEmpty=false:=by
  cases q:cd.mro with
  | nil=>rw [q] at ho;cases (beq_iff_eq.mp (show (([]:List Value)==bmV)=true from ho))
  | cons _ _=>rfl
 have sub:W.Looks (model prog w) s.heap (isInstance (.ref e) (.type "object")) true :=
  I.type.andThen (W.looks_mroIn X (by unfold W.mroIn;rw [hc,Option.bind_some,if_neg (by rw [ne];decide),u4H ho]))
 refine codeAny_call_builtin SF.slot.plain SF.entry (@W.check_slot (model prog w) _ _ s "object.__setattr__" "object" "__setattr__" (.ref e) [.str name tk,v] [] _ SF.kind SF.split sub (SF.args (.ref e) (.str name tk) v) ?_)
 have hm:W.Looks (model prog w) s.heap (mroOf (.ref C)) cd.mro:=(W.looks_clsIn X hc).andThen .now
 rw [W.osa_eq,refuse_eq]
 refine wpAny_bind (wpAny_bind (I.type.here (wpAny_bind (hm.here ?_))))
 rw [u5U _ ho]
 refine wpAny_pure (wpAny_bind (I.type.here (wpAny_bind ((W.looks_findIn X hn).here (wpAny_bind (wpAny_pure (a:=none) ?_))))))
 exact h _
set_option maxHeartbeats 4000000 in
theorem exc_get {Q:VP}{expr:Bool}{dx:Addr}{mA:MG} (X:K.In s.heap) (c:XCls K C f) (he:ExAt s.heap e C (some dx)) (hm:s.heap.Ns1 dx mA) (hn:W.findIn K (.ref C) name=some none) (hv:mA name=some v)
  (hv':W.handedIn v=true) (h:Q v { s with toks:=s.toks+1 }):wpAny (model prog w) A (getAttr (.ref e) name expr) Q E s:=by
 obtain ⟨t,f1,f2,f3,f4,f5,sl,he⟩:=he
 obtain ⟨od,hod,hl⟩:=u7n hm
 have I:W.InstAt s.heap e _ C (some od):=⟨he,rfl,rfl,hod⟩
 obtain ⟨cd,hc,ho,hd⟩:=c.ov
 have L0:=I.type (M:=model prog w)
 have L1:=W.looks_findIn (M:=model prog w) X c.ga
 have L2:=W.looks_findIn (M:=model prog w) X c.gt
 have hf:W.findObj K C (some od) name=some (.value v):=by
  unfold W.findObj
  rw [hc,Option.bind_some,hn,Option.bind_some,Option.bind_some,Option.bind_some]
  show ((W.ownOf cd (some od) name).bind _)=_
  unfold W.ownOf
  rw [if_pos hd]
  show ((W.lookIn name od).bind _)=_
  rw [hl,hv]
  rfl
 have L3:=W.looks_find (M:=model prog w) X I hf
 obtain ⟨hh,g,d,tt,os⟩:=s
 unfold getAttr getAttrBy
 refine wpAny_bind (wpAny_mkText (wpAny_holding (wpAny_bind (L0.at (wpAny_bind (L1.at ?_))))))
 have FA:=PySem.F.attr_ValueError
 have ne:cd.mro.isEmpty=false:=by
  cases q:cd.mro with
  | nil=>rw [q] at ho;cases (beq_iff_eq.mp (show (([]:List Value)==bmV)=true from ho))
  | cons _ _=>rfl
 have sub:W.Looks (model prog w) hh (isInstance (.ref e) (.type "BaseException")) true :=
  L0.andThen (W.looks_mroIn X (by unfold W.mroIn;rw [hc,Option.bind_some,if_neg (by rw [ne];decide),u2w ho]))
 show wpAny _ _ (getAttrByItsOwn _ _ _ _ _ _) _ _ _
 unfold getAttrByItsOwn
 refine wpAny_bind (L2.at ?_)
 refine wpAny_bind (wpAny_attempt ?_)
 have hx0:(expr&&onTheHeap (Value.builtin "BaseException.__getattribute__"))=false:=by cases expr <;> rfl
 unfold callGetattribute
 rw [if_neg (by rw [hx0];exact Bool.false_ne_true)]
 refine wpAny_holding ?_
 unfold boundAndCalled
 rw [FA.ga.bind]
 refine wpAny_bind (wpAny_pure (wpAny_call ?_))
 refine codeAny_call_builtin FA.ga.plain F.entry_bexc_ga (@W.check_slot (model prog w) _ _ ⟨hh,g,d,tt+1,os⟩ "BaseException.__getattribute__" "BaseException" "__getattribute__" (.ref e) [.str name tt] [] _ (by decide +kernel) (by decide +kernel) sub (F.args_bexc_ga (.ref e) (.str name tt)) ?_)
 show wpAny _ _ (Builtin.«object.__getattribute__» ⟨[.ref e,.str name tt],[]⟩) _ _ _
 unfold Builtin.«object.__getattribute__»
 refine wpAny_bind (wpAny_pure (a:=(Value.ref e,[Value.str name tt])) (wpAny_bind (wpAny_pure (a:=name) (wpAny_bind (L0.at (wpAny_bind (L3.at ?_)))))))
 refine wpAny_pure ?_
 show wpAny _ _ (handedOut v) _ _ _
 rw [W.handedOut_of hv']
 exact wpAny_pure h
end
noncomputable def XO (C:Addr) (dx:Option Addr) (e:Addr):HO:=.ext fun h=>ExAt h e C dx
noncomputable def DXO (dx:Addr) (fs:List (Str×V)):HO:=.ext fun h=>∃ mA,h.Ns1 dx mA∧(∀ f,RelO (fs.lookup f) (mA f))∧PySem.Within mA (fs.map (·.1))
section
variable {P:Program}{w:World}{H:Hp}{h:Heap}{e C dx:Addr}{d:Option Addr}{fs:List (Str×V)}
theorem xo_ok (x:ExAt h e C d):ObjOk P w H h e (XO C d e) :=
 ⟨x,let ⟨_,_,_,_,_,_,_,q⟩:=x;⟨_,q⟩,fun h1 h2 ⟨t,f1,f2,f3,f4,f5,sl,q⟩ k=>⟨t,f1,f2,f3,f4,f5,sl,k _ q⟩⟩
theorem v4o {mA:MG} (n:h.Ns1 dx mA) (r:∀ f,RelO (fs.lookup f) (mA f)) (z:PySem.Within mA (fs.map (·.1))):ObjOk P w H h dx (DXO dx fs) :=
 ⟨⟨mA,n,r,z⟩,let ⟨o,_,_,q,_⟩:=n;⟨o,q⟩,fun h1 h2 ⟨m,a,b,c⟩ k=>⟨m,a.at k,b,c⟩⟩
theorem v0J (x:HOk P w H h) (q:H e=some (XO C d e)):ExAt h e C d:=(show ObjOk P w H h e (XO C d e) from x e _ q).1
theorem dxo_at (x:HOk P w H h) (q:H dx=some (DXO dx fs)):∃ mA,h.Ns1 dx mA∧(∀ f,RelO (fs.lookup f) (mA f))∧PySem.Within mA (fs.map (·.1)):=(show ObjOk P w H h dx (DXO dx fs) from x dx _ q).1
end
section
variable {X:Cx}{pins:LO}{σ:St}{H:Hp}{s:Shared}{a C dx fI:Addr}{fs:List (Str×V)}{f:Str}{v:V}{A:Around}{E:VP}
theorem xget_ok {b:Bool}{Q:VP} (I:Inv X pins σ H s) (e:H a=some (XO C (some dx) a)) (ed:H dx=some (DXO dx fs)) (c:XCls X.K C fI) (n:NoAttr X.K C f) (l:fs.lookup f=some v)
  (h:∀ u s',Inv X pins σ H s'→RelV v u→Q u s'):wpAny (model X.prog X.w) A (getAttr (.ref a) f b) Q E s:=by
 obtain ⟨mA,nA,r,_⟩:=dxo_at I.hok ed
 obtain ⟨u,hu,ru⟩:=RelO.some_of (v:=v) (o:=mA f) (by rw [← l];exact r f)
 exact exc_get I.kIn c (v0J I.hok e) nA n hu (u7w ru) (h u _ (I.tok _) ru)
end
section
variable {X:Cx}{e o value:Expr}{es:List Expr}{ta tv te:TE}{t:TA}{f x:Str}{p pos pos':Pos}{C fI:Addr}{fd:FuncData}{ps:List Str}{sp:Sp}{k:Nat}{v:V}
def tXFld (K:W.Frag) (ta:TE) (f:Str):TE:=fun σ H Q=>ta σ H fun x H1=>∃ a C fI dx fs v,x=.ref a∧H1 a=some (XO C (some dx) a)∧H1 dx=some (DXO dx fs)∧XCls K C fI∧NoAttr K C f∧fs.lookup f=some v∧Q v H1
theorem pe_xfld (he:PE X e ta) (hb:attributeBase e f X.env (eval e X.env)=eval e X.env):PE X (.Attribute e f pos) (tXFld X.K ta f):=by
 intro pins s σ H Q I h
 refine v2C hb (thn (he pins s σ H _ I h) fun u s1 ⟨x,H1,I1,rx,a,C,fI,dx,fs,v,ex,ea,ed,c,n,l,q⟩=>?_)
 subst ex
 obtain rfl:u=Value.ref a:=rx
 exact xget_ok I1 ea ed c n l fun u' s2 I2 ru=>⟨v,H1,I2,ru,q⟩
end
section
variable {X:Cx}{pins:LO}{σ:St}{H:Hp}{s:Shared}{h':Heap}
theorem Inv.turned2 {t':Nat}{e it p:Addr}{ys:List V} (I:Inv X pins σ H s) (k:∀ b o,b≠e→b≠it→s.heap.get? b=some o→h'.get? b=some o) (f1:FpOk X pins H e) (f2:FpOk X pins H it) (hp:s.heap.objs.size≤p)
  (new:ObjOk X.prog X.w (upd H p (.tup ys)) h' p (.tup ys)):Inv X pins σ (upd H p (.tup ys)) { s with heap:=h',toks:=t' }:=by
 have hfr:H p=none:=I.hok.fresh hp
 have nin:∀ b u,H b=some u→b≠e∧b≠it:=fun b u q=>⟨(fun z=>by rw [z,f1.1] at q;cases q),(fun z=>by rw [z,f2.1] at q;cases q)⟩
 have nch:∀ b,b∉[e,it]→b≠e∧b≠it:=fun b hb=>⟨fun z=>hb (by simp [z]),fun z=>hb (by simp [z])⟩
 refine I.call' (ch:=[e,it]) rfl ⟨fun b o q n _ hx=>k b o (nch b hx).1 (nch b hx).2 q,fun b o q n _ hx=>⟨o.slots,k b o (nch b hx).1 (nch b hx).2 q⟩,fun b o q n _=>?_,fun b o q hx=>⟨o,k b o (nch b hx).1 (nch b hx).2 q⟩,fun b xs q=>?_,fun b o u q=>?_,fun b ps q=>⟨#[],?_⟩⟩ ?_ I.bare fun b hb=>?_
 ·rw [u0l (by rintro rfl;exact absurd (Heap.lt_size q) (Nat.not_lt.mpr hp))];exact n
 ·rw [u0l (u0t q hfr)];exact q
 ·rw [u0l (u0t q hfr)];exact q
 ·rw [u0l (u0t q hfr),q];simp
 ·intro b u q
  by_cases hb:b=p
  ·subst hb;rw [u0g] at q;cases q;exact new
  ·rw [u0l hb] at q
   refine (I.hok b u q).stay (fun c v hc z=>?_) (fun c z=>by rw [u0l (u0t z hfr)];exact z) fun c xs z=>by rw [u0l (u0t z hfr)];exact z
   rcases hc with rfl | hc
   ·exact k c v (nin c u q).1 (nin c u q).2 z
   ·exact k c v (nin c _ hc).1 (nin c _ hc).2 z
 ·rcases List.mem_cons.mp hb with rfl | hb
  ·exact ⟨f1.2.2.2.1,f1.2.1,f1.2.2.2.2.1,f1.2.2.2.2.2⟩
  ·obtain rfl:b=it:=by simpa using hb
   exact ⟨f2.2.2.2.1,f2.2.1,f2.2.2.2.2.1,f2.2.2.2.2.2⟩
end
def Ite (K:W.Frag) (a:Addr):It :=
 ⟨fun i H=>∃ xs x,SqL K H a xs∧xs[i]?=some x,fun i H y H'=>∃ p x,H p=none∧y=.ref p∧H'=upd H p (.tup [.int i,x])∧∀ xs,SqL K H a xs→xs[i]?=some x,fun i H=>∃ xs,SqL K H a xs∧xs.length≤i⟩
theorem u6E {P:Program}{w:World}{K:W.Frag}{es:List Expr}{k:Nat}{pos:Pos} (a e it:Addr) (hne:e≠it) :
  Turn P w K (.Tuple es k pos) (Ite K a) [e,it] e (fun i h=>(∃ old,IsEnum h e it (i:Int) old)∧h.IsListIter it a i) where
 mem:=by simp
 obj:=fun i h st b hb=>by
  obtain ⟨⟨old,q⟩,o,e2,c,d⟩:=st
  rcases List.mem_cons.mp hb with rfl | hb
  ·exact ⟨_,q,fun v z=>by cases z⟩
  ·obtain rfl:b=it:=by simpa using hb
   exact ⟨o,e2,fun v z=>by rw [d] at z;cases z⟩
 keep:=fun i h h' st k=>⟨let ⟨old,q⟩:=st.1;⟨old,k e (by simp) _ q⟩,st.2.at fun o q=>k it (by simp) o q⟩
 item:=by
  intro X hP hw hK hc i pins s σ H E I hf st hg
  subst hP hw hK
  obtain ⟨xs,x,hq,hx⟩:=hg
  obtain ⟨its,rv,p,hz⟩:=I.list hq
  obtain ⟨u,hu,ru⟩:=rv.get hx
  obtain ⟨⟨old,he⟩,hl⟩:=st
  have f1:=hf e (by simp)
  have f2:=hf it (by simp)
  have hel:e<s.heap.objs.size:=Heap.lt_size he
  refine wpAny_pyNext_enum_item he hl p.isList (x:=u) (by simpa using hu) hne fun h1 eo li ht hsz kk=>⟨_,rfl,?_⟩
  refine wpAny_letOwnedTupleGo_enum (s:={ s with heap:=h1,toks:=s.toks+1 }) eo fun h2 en sb=>?_
  have hpe:s.heap.objs.size≠e:=Nat.ne_of_gt hel
  have hfr:H s.heap.objs.size=none:=I.hok.fresh (Nat.le_refl _)
  have k2:∀ b o,b≠e→b≠it→s.heap.get? b=some o→h2.get? b=some o:=fun b o hb hi q=>(sb.2 b hb).trans (kk b o hb hi q)
  have ht2:h2.get? s.heap.objs.size=some { cls:=.type "tuple",data:=.seq #[.int i s.toks,u] }:=(sb.2 _ hpe).trans ht
  have I2:=I.turned2 (t':=s.toks+1) (p:=s.heap.objs.size) (ys:=[.int i,x]) k2 f1 f2 (Nat.le_refl _) ⟨by show 2≤sizeLine;decide,[.int i s.toks,u],.cons ⟨_,rfl⟩ (.cons ru .nil),⟨_,ht2,rfl,_,rfl⟩⟩
  have en':IsEnum h2 e it (((i+1:Nat):Int)) u:=by
   have:((i+1:Nat):Int)=(i:Int)+1:=by omega
   rw [this];exact en
  refine ⟨.ref s.heap.objs.size,_,I2,rfl,⟨s.heap.objs.size,x,hfr,rfl,rfl,fun ys hy=>by rw [I.list_inj hy hq];exact hx⟩,⟨⟨u,en'⟩,?_⟩,fun b hb=>?_⟩
  ·obtain ⟨o,q,r⟩:=li
   exact ⟨o,(sb.2 it (Ne.symm hne)).trans q,r⟩
  ·have hb':b<s.heap.objs.size:=by
    rcases List.mem_cons.mp hb with rfl | hb
    ·exact hel
    ·obtain rfl:b=it:=by simpa using hb
     obtain ⟨o,q,_⟩:=hl
     exact Heap.lt_size q
   rw [u0l (Nat.ne_of_lt hb')]
   exact (hf b hb).1
 done:=by
  intro X hP hw hK hc i pins s σ H E I hf st hg
  subst hP hw hK
  obtain ⟨xs,hq,hx⟩:=hg
  obtain ⟨its,rv,p,hz⟩:=I.list hq
  obtain ⟨⟨old,he⟩,hl⟩:=st
  obtain ⟨f0,f1,f2,f3,f4,f5⟩:=hf it (by simp)
  have hlen:=rv.length
  exact wpAny_pyNext_enum_end (I.ok.hd hc) he hl p.isList (by simp;omega) fun h' eb=>⟨rfl,I.turned (t':=s.toks) (fun b o hb q=>eb b o hb q) f0 f1 f3 f4 f5⟩
 self:=fun _ _ _ _ _ st h=>by
  obtain ⟨⟨old,he⟩,_⟩:=st
  exact wpAny_pyIter_enum he h
def iEnum (K:W.Frag) (ta:TA):TI:=fun σ H R=>ta σ H fun vs H1=>∃ a xs,vs=[.ref a]∧SqL K H1 a xs∧R (Ite K a) H1
section
variable {X:Cx}{a:Expr}{ta:TA}{p pos tp:Pos}{es:List Expr}{k:Nat}
theorem pi_enum (hg:Gl X "enumerate") (hm:X.mg "enumerate"=none) (ha:PA X [a] ta) (hs:starEach [a] X.env=[(false,eval a X.env)]:=by rfl):PI X (.Tuple es k tp) (.Call (.Name "enumerate" p) [a] [] pos) (iEnum X.K ta):=by
 intro pins s σ H R I h
 refine Call_ (u3U I hg hm (show bootBuiltins "enumerate"=some (.type "enumerate") by decide +kernel) (PyProof.Rows.callWith_type1 (thn (ha pos pins s σ H _ I h) fun us s1 ⟨vs,H1,I1,r1,q1⟩=>?_) hs rfl))
 obtain ⟨a',xs,e,hq,q⟩:=q1
 subst e
 obtain ⟨u,rfl,ru⟩:=vals1 r1
 cases ru
 obtain ⟨its,rv,pl,hz⟩:=I1.list hq
 refine call_enumerate_list pl.isList fun h' en li hsz kk=>?_
 refine wpAny_pyIter_enum en ?_
 have hne:s1.heap.objs.size+1≠s1.heap.objs.size:=Nat.succ_ne_self _
 refine ⟨s1.heap.objs.size+1,[s1.heap.objs.size+1,s1.heap.objs.size],_,Ite X.K a',H1,rfl,I1.kept (t':=s1.toks) kk,u6E a' _ _ hne,⟨⟨_,en⟩,li⟩,fun b hb=>?_,q⟩
 have hb':s1.heap.objs.size≤b:=by
  rcases List.mem_cons.mp hb with rfl | hb
  ·exact Nat.le_succ _
  ·have e:b=s1.heap.objs.size:=by simpa using hb
   rw [e];exact Nat.le_refl _
 exact I1.fpOk hb' (I1.hok.fresh hb')
end
theorem un5 {α β γ:Type}{p q:α→β→γ→Prop}{r:Prop} (h:∃ a b c,p a b c∧q a b c) (k:∀ a b c,p a b c→q a b c→r):r:=let ⟨a,b,c,x,y⟩:=h;k a b c x y
inductive DK where
 | i (n:Int) | s (z:Str) | t (ks:List DK)
noncomputable instance:DecidableEq DK:=fun a b=>_root_.Classical.propDecidable (a=b)
inductive D where
 | non | bl (b:Bool) | int (i:Int) | str (z:Str) | ty (T:String)
 | lst (ds:List D) | tup (ds:List D) | dct (kvs:List (D×D)) | ins (C:Addr) (fs:List (Str×D)) | exc (C:Addr) (fs:List (Str×D)) | dn (hs:List DK→Int) (kvs:List (List DK×D))
inductive Res (α:Type) where
 | ok (a:α) | err (x:D) | bad
namespace Res
noncomputable def bind {α β:Type}:Res α→(α→Res β)→Res β
 | .ok a,f=>f a
 | .err x,_=>.err x
 | .bad,_=>.bad
def all {α:Type} (r:Res α) (P:α→Prop) (E:D→Prop):Prop:=match r with
 | .ok a=>P a
 | .err x=>E x
 | .bad=>False
@[simp] theorem bind_ok {α β:Type} (a:α) (f:α→Res β):(Res.ok a).bind f=f a:=rfl
@[simp] theorem bind_err {α β:Type} (x:D) (f:α→Res β):(Res.err x).bind f=.err x:=rfl
@[simp] theorem bind_bad {α β:Type} (f:α→Res β):Res.bad.bind f=.bad:=rfl
theorem all_bind {α β:Type}{r:Res α}{f:α→Res β}{P:β→Prop}{E:D→Prop}:(r.bind f).all P E↔r.all (fun a=>(f a).all P E) E:=by
 cases r <;> exact Iff.rfl
theorem all_mono {α:Type}{r:Res α}{P Q:α→Prop}{E F:D→Prop} (h:r.all P E) (p:∀ a,P a→Q a) (e:∀ x,E x→F x):r.all Q F:=by
 cases r with
 | ok a=>exact p a h
 | err x=>exact e x h
 | bad=>exact h
end Res
noncomputable def kD:Key→D
 | .inl i=>.int i
 | .inr z=>.str z
mutual
noncomputable def DK.toD:DK→D
 | .i n=>.int n
 | .s z=>.str z
 | .t ks=>.tup (DK.toDs ks)
noncomputable def DK.toDs:List DK→List D
 | []=>[]
 | k::ks=>k.toD::DK.toDs ks
end
mutual
noncomputable def DK.py:DK→PyData
 | .i n=>.int n
 | .s z=>.str z
 | .t ks=>.tuple (DK.pys ks)
noncomputable def DK.pys:List DK→List PyData
 | []=>[]
 | k::ks=>k.py::DK.pys ks
end
mutual
noncomputable def DK.dep:DK→Nat
 | .i _=>0
 | .s _=>0
 | .t ks=>DK.deps ks+1
noncomputable def DK.deps:List DK→Nat
 | []=>0
 | k::ks=>max k.dep (DK.deps ks)
end
noncomputable def okK (k:List DK):Bool:=decide ((DK.t k).dep≤8)&&SeqAt.shaped (DK.t k).py
noncomputable def NDO (a:Addr) (hs:List DK→Int) (xs:List (List DK×Addr×Value)):HO:=.ext fun h=>∃ o es ep,h.get? a=some o∧o.ExactDict∧o.data=.dict es ep∧es.toList=xs.map (fun x=>⟨hs x.1,.ref x.2.1,x.2.2⟩)∧(xs.map (·.1)).Nodup∧xs.length≤sizeLine∧(a==sysModules)=false
mutual
inductive Rp (K:W.Frag) (H:Hp):V→D→Prop
 | non:Rp K H .non .non
 | bl (b:Bool):Rp K H (.bl b) (.bl b)
 | int (i:Int):Rp K H (.int i) (.int i)
 | str {z:Str} (h:z.length≤sizeLine):Rp K H (.str z) (.str z)
 | ty (T:String):Rp K H (.ty T) (.ty T)
 | lst {a:Addr}{xs:List V}{ds:List D}:Rd H a (.lst xs)→Rps K H xs ds→Rp K H (.ref a) (.lst ds)
 | tup {a:Addr}{xs:List V}{ds:List D}:SqT K H a xs→Rps K H xs ds→Rp K H (.ref a) (.tup ds)
 | dK {a:Addr}{kvs:List (Key×V)}{ps:List (D×D)}:H a=some (.dK kvs)→Rpk K H kvs ps→Rp K H (.ref a) (.dct ps)
 | ins {a C dx:Addr}{fs:List (Str×V)}{gs:List (Str×D)}:H a=some (.ins C dx fs)→Rpf K H fs gs→Rp K H (.ref a) (.ins C gs)
 | exc {a C dx:Addr}{fs:List (Str×V)}{gs:List (Str×D)}:H a=some (XO C (some dx) a)→H dx=some (DXO dx fs)→Rpf K H fs gs→Rp K H (.ref a) (.exc C gs)
 | dn {a:Addr}{hs:List DK→Int}{xs:List (List DK×Addr×Value)}{kvs:List (List DK×D)}:H a=some (NDO a hs xs)→Rpn K H xs kvs→Rp K H (.ref a) (.dn hs kvs)
inductive Rps (K:W.Frag) (H:Hp):List V→List D→Prop
 | nil:Rps K H [] []
 | cons {x:V}{d:D}{xs:List V}{ds:List D}:Rp K H x d→Rps K H xs ds→Rps K H (x::xs) (d::ds)
inductive Rpk (K:W.Frag) (H:Hp):List (Key×V)→List (D×D)→Prop
 | nil:Rpk K H [] []
 | cons {k:Key}{x:V}{d:D}{xs:List (Key×V)}{ds:List (D×D)}:Rp K H x d→Rpk K H xs ds→Rpk K H ((k,x)::xs) ((kD k,d)::ds)
inductive Rpf (K:W.Frag) (H:Hp):List (Str×V)→List (Str×D)→Prop
 | nil:Rpf K H [] []
 | cons {k:Str}{x:V}{d:D}{xs:List (Str×V)}{ds:List (Str×D)}:Rp K H x d→Rpf K H xs ds→Rpf K H ((k,x)::xs) ((k,d)::ds)
inductive Rpn (K:W.Frag) (H:Hp):List (List DK×Addr×Value)→List (List DK×D)→Prop
 | nil:Rpn K H [] []
 | cons {k:List DK}{q:Addr}{u:Value}{x:V}{d:D}{xs:List (List DK×Addr×Value)}{ds:List (List DK×D)}:okK k=true→Rp K H (.ref q) (DK.t k).toD→RelV x u→Rp K H x d→Rpn K H xs ds→Rpn K H ((k,q,u)::xs) ((k,d)::ds)
end
section
variable {K:W.Frag}{H H':Hp}
theorem Rd.same (e:Same H H') {a:Addr}{u:HO} (h:Rd H a u):Rd H' a u:=by
 rcases h with h | ⟨o,h⟩
 ·exact .inl (e _ _ h)
 ·exact .inr ⟨o,e _ _ h⟩
mutual
theorem Rp.same (e:Same H H'):∀ {x:V}{d:D},Rp K H x d→Rp K H' x d
 | _,_,.non=>.non
 | _,_,.bl b=>.bl b
 | _,_,.int i=>.int i
 | _,_,.str h=>.str h
 | _,_,.ty T=>.ty T
 | _,_,.lst hq hs=>.lst (hq.same e) (Rps.same e hs)
 | _,_,.tup hq hs=>.tup (e.seqT hq) (Rps.same e hs)
 | _,_,.dK hq hs=>.dK (e _ _ hq) (Rpk.same e hs)
 | _,_,.ins hq hs=>.ins (e _ _ hq) (Rpf.same e hs)
 | _,_,.exc hq hr hs=>.exc (e _ _ hq) (e _ _ hr) (Rpf.same e hs)
 | _,_,.dn hq hs=>.dn (e _ _ hq) (Rpn.same e hs)
theorem Rps.same (e:Same H H'):∀ {x:List V}{d:List D},Rps K H x d→Rps K H' x d
 | _,_,.nil=>.nil
 | _,_,.cons h hs=>.cons (Rp.same e h) (Rps.same e hs)
theorem Rpk.same (e:Same H H'):∀ {x:List (Key×V)}{d:List (D×D)},Rpk K H x d→Rpk K H' x d
 | _,_,.nil=>.nil
 | _,_,.cons h hs=>.cons (Rp.same e h) (Rpk.same e hs)
theorem Rpf.same (e:Same H H'):∀ {x:List (Str×V)}{d:List (Str×D)},Rpf K H x d→Rpf K H' x d
 | _,_,.nil=>.nil
 | _,_,.cons h hs=>.cons (Rp.same e h) (Rpf.same e hs)
theorem Rpn.same (e:Same H H'):∀ {x:List (List DK×Addr×Value)}{d:List (List DK×D)},Rpn K H x d→Rpn K H' x d
 | _,_,.nil=>.nil
 | _,_,.cons o h r h2 hs=>.cons o (Rp.same e h) r (Rp.same e h2) (Rpn.same e hs)
end
theorem Rps.length:∀ {xs:List V}{ds:List D},Rps K H xs ds→xs.length=ds.length
 | _,_,.nil=>rfl
 | _,_,.cons _ hs=>congrArg (·+1) hs.length
theorem Rps.get:∀ {xs:List V}{ds:List D}{i:Nat}{d:D},Rps K H xs ds→ds[i]?=some d→∃ x,xs[i]?=some x∧Rp K H x d
 | _,_,0,_,.cons h _,e=>by cases e;exact ⟨_,rfl,h⟩
 | _,_,i+1,_,.cons _ hs,e=>hs.get (i:=i) (by simpa using e)
theorem Rps.append:∀ {xs ys:List V}{ds es:List D},Rps K H xs ds→Rps K H ys es→Rps K H (xs++ys) (ds++es)
 | _,_,_,_,.nil,h=>h
 | _,_,_,_,.cons h hs,h'=>.cons h (hs.append h')
theorem Rps.take:∀ {xs:List V}{ds:List D} (n:Nat),Rps K H xs ds→Rps K H (xs.take n) (ds.take n)
 | _,_,0,_=>by simpa using Rps.nil
 | _,_,_+1,.nil=>by simpa using Rps.nil
 | _,_,n+1,.cons h hs=>by simpa using Rps.cons h (hs.take n)
theorem Rps.drop:∀ {xs:List V}{ds:List D} (n:Nat),Rps K H xs ds→Rps K H (xs.drop n) (ds.drop n)
 | _,_,0,h=>h
 | _,_,_+1,.nil=>by simpa using Rps.nil
 | _,_,n+1,.cons _ hs=>by simpa using hs.drop n
theorem Rps.rep {xs:List V}{ds:List D} (h:Rps K H xs ds):∀ n:Nat,Rps K H (List.replicate n xs).flatten (List.replicate n ds).flatten
 | 0=>.nil
 | n+1=>by simpa [List.replicate_succ] using h.append (h.rep n)
theorem Rpf.lookup:∀ {fs:List (Str×V)}{gs:List (Str×D)}{f:Str}{d:D},Rpf K H fs gs→gs.lookup f=some d→∃ v,fs.lookup f=some v∧Rp K H v d
 | _,_,f,d,.cons (k:=k) h hs,e=>by
  rw [List.lookup_cons] at e ⊢
  cases q:f==k with
  | true=>rw [q] at e;cases e;exact ⟨_,rfl,h⟩
  | false=>rw [q] at e;exact hs.lookup e
end
structure Stp (F H F' H':Hp):Prop where
 ff:Same F F'
 fh:Same F' H'
 hh:Same H H'
 no:∀ a,F a=none→H a≠none→F' a=none
section
variable {F H F' H' F'' H'':Hp}{a:Addr}{o:HO}
theorem Stp.refl (h:Same F H):Stp F H F H:=⟨Same.refl F,h,Same.refl H,fun _ q _=>q⟩
theorem u2n (e:Same H H') {a:Addr} (h:H a≠none):H' a≠none:=by
 intro q
 cases z:H a with
 | none=>exact h z
 | some o=>rw [e a o z] at q;cases q
theorem Stp.trans (x:Stp F H F' H') (y:Stp F' H' F'' H''):Stp F H F'' H'' :=
 ⟨x.ff.trans y.ff,y.fh,x.hh.trans y.hh,fun a q r=>y.no a (x.no a q r) (u2n x.hh r)⟩
theorem v2X (h:Same F H):Same (upd F a o) (upd H a o):=fun b u e=>by
 unfold upd at e ⊢
 by_cases q:b=a
 ·rw [if_pos q] at e ⊢;exact e
 ·rw [if_neg q] at e ⊢;exact h b u e
theorem u0h (h:F a=none):Same F (upd F a o):=fun b u e=>by
 unfold upd
 by_cases q:b=a
 ·subst q;rw [h] at e;cases e
 ·rw [if_neg q];exact e
theorem Stp.new (h:Same F H) (n:H a=none):Stp F H (upd F a o) (upd H a o) :=
 ⟨u0h (h.free n),v2X h,u0h n,fun b q r=>by
  unfold upd
  by_cases z:b=a
  ·subst z;exact absurd n r
  ·rw [if_neg z];exact q⟩
theorem Stp.only (h:Same F H) (e:Same H H'):Stp F H F H':=⟨Same.refl F,h.trans e,e,fun _ q _=>q⟩
end
inductive OD where
 | l (ds:List D) | d (kvs:List (D×D)) | i (a C:Addr) (gs:List (Str×D)) | n (hs:List DK→Int) (kvs:List (List DK×D))
noncomputable def OD.toD:OD→D
 | .l ds=>.lst ds
 | .d kvs=>.dct kvs
 | .i _ C gs=>.ins C gs
 | .n hs kvs=>.dn hs kvs
inductive Ro (K:W.Frag) (F:Hp) (a:Addr):HO→OD→Prop
 | l {xs:List V}{ds:List D}:Rps K F xs ds→Ro K F a (.lst xs) (.l ds)
 | d {kvs:List (Key×V)}{ps:List (D×D)}:Rpk K F kvs ps→Ro K F a (.dK kvs) (.d ps)
 | i {C dx:Addr}{fs:List (Str×V)}{gs:List (Str×D)}:Rpf K F fs gs→Ro K F a (.ins C dx fs) (.i a C gs)
 | n {hs:List DK→Int}{xs:List (List DK×Addr×Value)}{kvs:List (List DK×D)}:Rpn K F xs kvs→Ro K F a (NDO a hs xs) (.n hs kvs)
theorem Ro.same {K:W.Frag}{F F':Hp}{a:Addr} (e:Same F F') {h:HO}{o:OD} (r:Ro K F a h o):Ro K F' a h o:=by
 cases r with
 | l r=>exact .l (Rps.same e r)
 | d r=>exact .d (Rpk.same e r)
 | i r=>exact .i (Rpf.same e r)
 | n r=>exact .n (Rpn.same e r)
theorem Ro.rp {K:W.Frag}{F:Hp}{a:Addr}{h:HO}{o:OD} (r:Ro K F a h o) (e:F a=some h):Rp K F (.ref a) o.toD:=by
 cases r with
 | l r=>exact .lst (.inl e) r
 | d r=>exact .dK e r
 | i r=>exact .ins e r
 | n r=>exact .dn e r
inductive Sl where
 | val (d:D) | own (o:OD)
abbrev Rho:=List (Option Sl)
structure Rel (K:W.Frag) (B:Hp×Hp) (ρ:Rho) (σ:St) (F H:Hp):Prop where
 st:Stp B.1 B.2 F H
 len:σ.length=ρ.length
 val:∀ (i:Nat) d,ρ[i]?=some (some (.val d))→∃ v,σ[i]?=some (some v)∧Rp K F v d
 own:∀ (i:Nat) o,ρ[i]?=some (some (.own o))→∃ a h,σ[i]?=some (some (.ref a))∧F a=none∧B.2 a=none∧H a=some h∧Ro K F a h o
 dis:∀ (i j:Nat) o u a,ρ[i]?=some (some (.own o))→ρ[j]?=some (some (.own u))→σ[i]?=some (some (.ref a))→σ[j]?=some (some (.ref a))→i=j
noncomputable def frzS:Sl→Sl
 | .val d=>.val d
 | .own o=>.val o.toD
noncomputable def frz (ρ:Rho):Rho:=ρ.map (Option.map frzS)
section
variable {K:W.Frag}{B:Hp×Hp}{ρ:Rho}{σ:St}{F H F' H':Hp}
theorem Rel.fh (r:Rel K B ρ σ F H):Same F H:=r.st.fh
theorem Rel.step (r:Rel K B ρ σ F H) (s:Stp F H F' H'):Rel K B ρ σ F' H' where
 st:=r.st.trans s
 len:=r.len
 val i d e:=let ⟨v,h1,h2⟩:=r.val i d e;⟨v,h1,h2.same s.ff⟩
 own i o e:=let ⟨a,h,h1,h2,h3,h4,h5⟩:=r.own i o e;⟨a,h,h1,s.no a h2 (by rw [h4];simp),h3,s.hh a h h4,Ro.same s.ff h5⟩
 dis:=r.dis
theorem u3G {i:Nat}{x:Sl} (h:(frz ρ)[i]?=some (some x)):∃ y,ρ[i]?=some (some y)∧x=frzS y:=by
 unfold frz at h
 rw [List.getElem?_map] at h
 cases q:ρ[i]? with
 | none=>rw [q] at h;cases h
 | some z =>
  rw [q] at h
  cases z with
  | none=>simp at h
  | some y=>simp at h;exact ⟨y,rfl,h.symm⟩
open Classical in
theorem Rel.frz (r:Rel K B ρ σ F H):∃ F',Same F F'∧Rel K B (frz ρ) σ F' H:=by
 let T:Addr→Prop:=fun a=>∃ (i:Nat) (o:OD),ρ[i]?=some (some (.own o))∧σ[i]?=some (some (.ref a))
 let F':Hp:=fun a=>if T a then H a else F a
 have hT:∀ a,T a→F a=none∧B.2 a=none:=fun a ⟨i,o,e,q⟩=>by
  obtain ⟨b,h,h1,h2,h3,_⟩:=r.own i o e
  rw [q] at h1;cases h1;exact ⟨h2,h3⟩
 have e1:Same F F':=fun a o e=>by
  show (if T a then H a else F a)=some o
  by_cases q:T a
  ·rw [(hT a q).1] at e;cases e
  ·rw [if_neg q];exact e
 have e2:Same F' H:=fun a o e=>by
  have e':(if T a then H a else F a)=some o:=e
  by_cases q:T a
  ·rw [if_pos q] at e';exact e'
  ·rw [if_neg q] at e';exact r.fh a o e'
 refine ⟨F',e1,⟨⟨r.st.ff.trans e1,e2,r.st.hh,fun a q z=>?_⟩,?_,?_,?_,?_⟩⟩
 ·show (if T a then H a else F a)=none
  by_cases t:T a
  ·exact absurd (hT a t).2 z
  ·rw [if_neg t];exact r.st.no a q z
 ·rw [r.len];unfold L2.frz;simp
 ·intro i d e
  obtain ⟨y,h1,h2⟩:=u3G e
  cases y with
  | val d'=>cases h2;obtain ⟨v,q1,q2⟩:=r.val i d h1;exact ⟨v,q1,q2.same e1⟩
  | own o =>
   cases h2
   obtain ⟨a,h,q1,q2,q3,q4,q5⟩:=r.own i o h1
   have t:T a:=⟨i,o,h1,q1⟩
   exact ⟨.ref a,q1,Ro.rp (Ro.same e1 q5) (show (if T a then H a else F a)=some h by rw [if_pos t];exact q4)⟩
 ·intro i o e
  obtain ⟨y,h1,h2⟩:=u3G e
  cases y <;> cases h2
 ·intro i j o u a e
  obtain ⟨y,h1,h2⟩:=u3G e
  cases y <;> cases h2
theorem u0R {α:Type}{l:List α}{i j:Nat}{x y:α} (h:(l.set i x)[j]?=some y):(j=i∧i<l.length∧y=x)∨(j≠i∧l[j]?=some y):=by
 rw [List.getElem?_set] at h
 by_cases q:i=j
 ·rw [if_pos q] at h
  by_cases z:i<l.length
  ·rw [if_pos z] at h;exact .inl ⟨q.symm,z,(Option.some.inj h).symm⟩
  ·rw [if_neg z] at h;cases h
 ·rw [if_neg q] at h;exact .inr ⟨fun e=>q e.symm,h⟩
theorem u8M {α:Type}{l:List α}{i:Nat}{x:α} (h:i<l.length):(l.set i x)[i]?=some x:=by simp [h]
theorem u0U {α:Type}{l:List α}{i j:Nat}{x:α} (h:j≠i):(l.set i x)[j]?=l[j]?:=by rw [List.getElem?_set,if_neg (fun e=>h e.symm)]
theorem Rel.set {i:Nat}{v:V}{d:D} (r:Rel K B ρ σ F H) (h:Rp K F v d):Rel K B (ρ.set i (some (.val d))) (σ.set i (some v)) F H where
 st:=r.st
 len:=by simp [r.len]
 val j d' e:=by
  rcases u0R e with ⟨rfl,q,z⟩ | ⟨q,z⟩
  ·cases z;exact ⟨v,u8M (r.len ▸ q),h⟩
  ·rw [u0U q];exact r.val j d' z
 own j o e:=by
  rcases u0R e with ⟨rfl,q,z⟩ | ⟨q,z⟩
  ·cases z
  ·rw [u0U q];exact r.own j o z
 dis j k o u a e e':=by
  rcases u0R e with ⟨rfl,q,z⟩ | ⟨q,z⟩
  ·cases z
  ·rcases u0R e' with ⟨rfl,q',z'⟩ | ⟨q',z'⟩
   ·cases z'
   ·rw [u0U q,u0U q'];exact r.dis j k o u a z z'
theorem Rel.setOwn {i:Nat}{a:Addr}{h:HO}{o:OD} (r:Rel K B ρ σ F H) (h1:F a=none) (h2:B.2 a=none) (h3:H a=some h) (h4:Ro K F a h o)
  (hd:∀ (j:Nat) u,ρ[j]?=some (some (.own u))→σ[j]?≠some (some (.ref a))):Rel K B (ρ.set i (some (.own o))) (σ.set i (some (.ref a))) F H where
 st:=r.st
 len:=by simp [r.len]
 val j d' e:=by
  rcases u0R e with ⟨rfl,q,z⟩ | ⟨q,z⟩
  ·cases z
  ·rw [u0U q];exact r.val j d' z
 own j u e:=by
  rcases u0R e with ⟨rfl,q,z⟩ | ⟨q,z⟩
  ·cases z;exact ⟨a,h,u8M (r.len ▸ q),h1,h2,h3,h4⟩
  ·rw [u0U q];exact r.own j u z
 dis j k u u' b e e':=by
  rcases u0R e with ⟨rfl,q,z⟩ | ⟨q,z⟩
  ·rcases u0R e' with ⟨rfl,q',z'⟩ | ⟨q',z'⟩
   ·intro _ _;rfl
   ·rw [u0U q',u8M (r.len ▸ q)]
    intro x y;cases x;exact absurd y (hd k u' z')
  ·rcases u0R e' with ⟨rfl,q',z'⟩ | ⟨q',z'⟩
   ·rw [u0U q,u8M (r.len ▸ q')]
    intro x y;cases y;exact absurd x (hd j u z)
   ·rw [u0U q,u0U q'];exact r.dis j k u u' b z z'
theorem Rel.write {i:Nat}{a:Addr}{h':HO}{o o':OD} (r:Rel K B ρ σ F H) (e:ρ[i]?=some (some (.own o))) (hs:σ[i]?=some (some (.ref a))) (h4:Ro K F a h' o') :
  Rel K B (ρ.set i (some (.own o'))) σ F (upd H a h'):=by
 obtain ⟨b,h,q1,q2,q3,q4,q5⟩:=r.own i o e
 rw [hs] at q1;cases q1
 have e1:∀ G:Hp,G a=none→Same G H→Same G (upd H a h'):=fun G n s b u x=>by
  unfold upd
  by_cases z:b=a
  ·subst z;rw [n] at x;cases x
  ·rw [if_neg z];exact s b u x
 refine ⟨⟨r.st.ff,e1 F q2 r.fh,e1 B.2 q3 r.st.hh,r.st.no⟩,by simp [r.len],?_,?_,?_⟩
 ·intro j d x
  rcases u0R x with ⟨rfl,q,z⟩ | ⟨q,z⟩
  ·cases z
  ·exact r.val j d z
 ·intro j u x
  rcases u0R x with ⟨rfl,q,z⟩ | ⟨q,z⟩
  ·cases z;exact ⟨a,h',hs,q2,q3,u0g,h4⟩
  ·obtain ⟨c,g,p1,p2,p3,p4,p5⟩:=r.own j u z
   have ne:c≠a:=fun w=>q (by subst w;exact r.dis j i u o c z e p1 hs)
   exact ⟨c,g,p1,p2,p3,by rw [u0l ne];exact p4,p5⟩
 ·intro j k u u' c x y
  have f:∀ (m:Nat) w,(ρ.set i (some (Sl.own o')))[m]?=some (some (.own w))→∃ w',ρ[m]?=some (some (.own w')):=fun m w p=>by
   rcases u0R p with ⟨rfl,_,_⟩ | ⟨_,z⟩
   ·exact ⟨o,e⟩
   ·exact ⟨w,z⟩
  obtain ⟨w1,z1⟩:=f j u x
  obtain ⟨w2,z2⟩:=f k u' y
  exact r.dis j k w1 w2 c z1 z2
end
abbrev XQ:=V→St→Hp→Prop
theorem frz_frz (ρ:Rho):frz (frz ρ)=frz ρ:=by
 unfold frz
 rw [List.map_map]
 congr 1
 funext x
 cases x with
 | none=>rfl
 | some y=>cases y <;> rfl
def ErrK (K:W.Frag) (xq:XQ) (B:Hp×Hp) (ρ:Rho) (σ:St) (x:D):Prop:=∀ v F' H',Rel K B (frz ρ) σ F' H'→Rp K F' v x→xq v σ H'
def liftE (K:W.Frag) (xq:XQ) (f:Rho→Res D):TE:=fun σ H Q=>∃ B F ρ,Rel K B ρ σ F H ∧
 (f ρ).all (fun d=>∀ v F' H',Stp F H F' H'→Rp K F' v d→Q v H') (ErrK K xq B ρ σ)
def liftA (K:W.Frag) (xq:XQ) (f:Rho→Res (List D)):TA:=fun σ H Q=>∃ B F ρ,Rel K B ρ σ F H ∧
 (f ρ).all (fun ds=>∀ vs F' H',Stp F H F' H'→Rps K F' vs ds→Q vs H') (ErrK K xq B ρ σ)
def liftT (K:W.Frag) (xq:XQ) (f:Rho→Res Bool):TT:=fun σ H Q=>∃ B F ρ,Rel K B ρ σ F H ∧
 (f (frz ρ)).all (fun b=>∀ H',Stp F H F H'→Q b H') (ErrK K xq B ρ σ)
def liftN (K:W.Frag) (xq:XQ) (f:Rho→Res OD):TE:=fun σ H Q=>∃ B F ρ,Rel K B ρ σ F H ∧
 (f ρ).all (fun o=>∀ a h F' H',Stp F H F' H'→F' a=none→H a=none→H' a=some h→Ro K F' a h o→Q (.ref a) H') (ErrK K xq B ρ σ)
abbrev FD:=List D→Res D
structure DE (X:Cx) (xq:XQ) (e:Expr) (f:Rho→Res D):Prop where
 out:PE X e (liftE X.K xq f)
structure DN (X:Cx) (xq:XQ) (e:Expr) (f:Rho→Res OD):Prop where
 out:PE X e (liftN X.K xq f)
structure DT (X:Cx) (xq:XQ) (e:Expr) (f:Rho→Res Bool):Prop where
 out:PT X e (liftT X.K xq f)
structure DW (X:Cx) (xq:XQ) (e:Expr) (f:Rho→Res Bool):Prop where
 out:PW X e (liftT X.K xq f)
structure DA (X:Cx) (xq:XQ) (es:List Expr) (f:Rho→Res (List D)):Prop where
 out:PA X es (liftA X.K xq f)
 ns:es.all notStar=true
def rD (K:W.Frag) (g:D→D→Res D):R2:=fun x y H Q=>∃ F dx dy,Same F H∧Rp K F x dx∧Rp K F y dy∧(g dx dy).all (fun d=>∀ v F' H',Stp F H F' H'→Rp K F' v d→Q v H') (fun _=>False)
def rD1 (K:W.Frag) (g:D→Res D):V→Hp→VK→Prop:=fun x H Q=>∃ F dx,Same F H∧Rp K F x dx∧(g dx).all (fun d=>∀ v F' H',Stp F H F' H'→Rp K F' v d→Q v H') (fun _=>False)
def rDs (K:W.Frag) (g:FD):List V→Hp→VK→Prop:=fun xs H Q=>∃ F ds,Same F H∧Rps K F xs ds∧(g ds).all (fun d=>∀ v F' H',Stp F H F' H'→Rp K F' v d→Q v H') (fun _=>False)
section
variable {K:W.Frag}{xq:XQ}{B:Hp×Hp}{ρ:Rho}{σ:St}{F H F' H':Hp}{x:D}
theorem seqE {α:Type}{fa:Rho→Res D}{g:D→Res α}{P:α→Prop}{T:VK} (R:Rel K B ρ σ F H) (h:((fa ρ).bind g).all P (ErrK K xq B ρ σ))
  (k:∀ d v F' H',Stp F H F' H'→Rel K B ρ σ F' H'→Rp K F' v d→(g d).all P (ErrK K xq B ρ σ)→T v H'):liftE K xq fa σ H T :=
 ⟨B,F,ρ,R,Res.all_mono (Res.all_bind.mp h) (fun d h' v F' H' s p=>k d v F' H' s (R.step s) p h') (fun _ e=>e)⟩
theorem seqA {α:Type}{fa:Rho→Res (List D)}{g:List D→Res α}{P:α→Prop}{T:List V→Hp→Prop} (R:Rel K B ρ σ F H) (h:((fa ρ).bind g).all P (ErrK K xq B ρ σ))
  (k:∀ d v F' H',Stp F H F' H'→Rel K B ρ σ F' H'→Rps K F' v d→(g d).all P (ErrK K xq B ρ σ)→T v H'):liftA K xq fa σ H T :=
 ⟨B,F,ρ,R,Res.all_mono (Res.all_bind.mp h) (fun d h' v F' H' s p=>k d v F' H' s (R.step s) p h') (fun _ e=>e)⟩
end
noncomputable def noE {α:Type}:Res α→Res α
 | .err _=>.bad
 | r=>r
section
variable {K:W.Frag}{xq:XQ}{B:Hp×Hp}{ρ:Rho}{σ:St}{F H F' H':Hp}{x:D}
theorem doneN {r:Res D}{Q:VK}{E:D→Prop}{F0 H0:Hp} (s:Stp F0 H0 F H) (h:(noE r).all (fun d=>∀ v F' H',Stp F0 H0 F' H'→Rp K F' v d→Q v H') E) :
  r.all (fun d=>∀ v F' H',Stp F H F' H'→Rp K F' v d→Q v H') (fun _=>False):=by
 cases r with
 | ok d=>exact fun v F' H' s' p=>h v F' H' (s.trans s') p
 | err x=>exact h
 | bad=>exact h
end
noncomputable def getV (ρ:Rho) (i:Nat):Res D:=match ρ[i]? with
 | some (some (.val d))=>.ok d
 | _=>.bad
set_option tactic.hygienic true in
theorem getV_ok {ρ:Rho}{i:Nat}{P:D→Prop}{E:D→Prop} (h:(getV ρ i).all P E):∃ d,ρ[i]?=some (some (.val d))∧P d:=by
 unfold getV at h
 split at h
 ·rename_i d e;exact ⟨d,e,h⟩
 ·exact h.elim
section
variable {X:Cx}{xq:XQ}{a b c e o:Expr}{es rest:List Expr}{fa fb fc fe:Rho→Res D}{fA fB:Rho→Res Bool}{fs:Rho→Res (List D)}{pos pos' p apos cpos:Pos}{x name:Str}
theorem DE.of {t:TE} (h:PE X e t) (k:∀ B F ρ σ H Q,Rel X.K B ρ σ F H→(fe ρ).all (fun d=>∀ v F' H',Stp F H F' H'→Rp X.K F' v d→Q v H') (ErrK X.K xq B ρ σ)→t σ H Q):DE X xq e fe :=
 ⟨fun pins s σ H Q I z9=>un5 z9 fun B F ρ R q=>h pins s σ H Q I (k B F ρ σ H Q R q)⟩
theorem DT.of {t:TT} (h:PT X e t) (k:∀ B F ρ σ H Q,Rel X.K B ρ σ F H→(fA (frz ρ)).all (fun b=>∀ H',Stp F H F H'→Q b H') (ErrK X.K xq B ρ σ)→t σ H Q):DT X xq e fA :=
 ⟨fun pins s σ H Q I z9=>un5 z9 fun B F ρ R q=>h pins s σ H Q I (k B F ρ σ H Q R q)⟩
theorem d_C {v:V}{d:D} (h:PE X e (tC v)) (p:∀ F,Rp X.K F v d):DE X xq e (fun _=>.ok d):=DE.of h fun B F ρ σ H Q R q=>q v F H (Stp.refl R.fh) (p F)
theorem u0c {i j pos}:DE X xq (.Constant (.int i) j pos) (fun _=>.ok (.int i)):=d_C pe_int fun _=>.int i
theorem d_bl {i j pos}:DE X xq (.Constant (.bool i) j pos) (fun _=>.ok (.bl i)):=d_C pe_bl fun _=>.bl i
theorem u3r {j pos}:DE X xq (.Constant .none j pos) (fun _=>.ok .non):=d_C pe_non fun _=>.non
theorem u0p {z:Str}{j pos} (h:z.length≤sizeLine:=by decide):DE X xq (.Constant (.str z) j pos) (fun _=>.ok (.str z)):=d_C pe_str fun _=>.str h
theorem dv (i:Nat) {x:Str}{pos:Pos} (hN:X.N[i]?=some x:=by rfl) (hv:Vis X.env.scope x:=by first | exact Or.inl rfl | exact Or.inr (Or.inl rfl) | exact Or.inr (Or.inr rfl)) (hd:(x==("__debug__":Str))=false:=by decide)
  (hcd:(x==("__classdict__":Str))=false:=by decide):DE X xq (.Name x pos) (fun ρ=>getV ρ i) :=
 DE.of (u2D hN hv hd hcd) fun B F ρ σ H Q R q=>by
  obtain ⟨d,e,h⟩:=getV_ok q
  obtain ⟨v,h1,h2⟩:=R.val i d e
  exact ⟨v,h1,h v F H (Stp.refl R.fh) h2⟩
def GloD (K:W.Frag) (mg:MG) (x:Str) (d:D):Prop:=∃ v,Glo mg x v∧∀ F,Rp K F v d
theorem u5d {mg:MG}{K:W.Frag}{d:D} (h:GloD K mg x d) (hg:Gl X x:=by rfl) (em:X.mg=mg:=by rfl) (eK:X.K=K:=by rfl) (hd:(x==("__debug__":Str))=false:=by decide):DE X xq (.Name x pos) (fun _=>.ok d):=by
 obtain ⟨v,h1,h2⟩:=h
 subst eK
 exact d_C (pe_glo h1 hg em hd) h2
theorem d_ty {T:String} (hm:X.mg x=none) (hv:bootBuiltins x=some (.type T)) (hg:Gl X x:=by rfl) (hn:x≠"__name__":=by decide) (hd:(x==("__debug__":Str))=false:=by decide):DE X xq (.Name x pos) (fun _=>.ok (.ty T)) :=
 d_C (v:=.ty T) (pe_bltn hg hm hv rfl hn hd) fun _=>.ty T
theorem d_op {op:Operator}{g:D→D→Res D} (ho:OpR X (binaryOp op) (rD X.K g)) (ha:DE X xq a fa) (hb:DE X xq b fb):DE X xq (.BinOp a op b pos) (fun ρ=>(fa ρ).bind fun x=>(fb ρ).bind fun y=>noE (g x y)) :=
 DE.of (pe_op ho ha.out hb.out) fun B F ρ σ H Q R q=>seqE R q fun d v F1 H1 s1 R1 p1 q1=>seqE R1 q1 fun d2 v2 F2 H2 s2 R2 p2 q2 =>
  ⟨F2,d,d2,R2.fh,p1.same s2.ff,p2,doneN (s1.trans s2) q2⟩
theorem d_un {op:UnaryOp}{g:D→Res D} (ho:UnR X (unaryOp op) (rD1 X.K g)) (ha:DE X xq a fa):DE X xq (.UnaryOp op a pos) (fun ρ=>(fa ρ).bind fun x=>noE (g x)) :=
 DE.of (pe_un ho ha.out) fun B F ρ σ H Q R q=>seqE R q fun d v F1 H1 s1 R1 p1 q1=>⟨F1,d,R1.fh,p1,doneN s1 q1⟩
theorem u5e {op:CmpOp}{g:D→D→Res D} (ho:OpR X (compareOp op) (rD X.K g)) (ha:DE X xq a fa) (hb:DE X xq b fb) (hm:behindInMarks op b=false:=by first | exact nomark _ | with_unfolding_all rfl) :
  DE X xq (.Compare a [op] [b] pos) (fun ρ=>(fa ρ).bind fun x=>(fb ρ).bind fun y=>noE (g x y)) :=
 DE.of (pe_cmpR ho ha.out hb.out hm) fun B F ρ σ H Q R q=>seqE R q fun d v F1 H1 s1 R1 p1 q1=>seqE R1 q1 fun d2 v2 F2 H2 s2 R2 p2 q2 =>
  ⟨F2,d,d2,R2.fh,p1.same s2.ff,p2,doneN (s1.trans s2) q2⟩
theorem d_ix {g:D→D→Res D} (ho:IxR X (rD X.K g)) (ha:DE X xq a fa) (hb:DE X xq b fb) (hs:PlainIx b:=by intro _ _;rfl):DE X xq (.Subscript a b pos) (fun ρ=>(fa ρ).bind fun x=>(fb ρ).bind fun y=>noE (g x y)) :=
 DE.of (pe_ix ho ha.out hb.out hs) fun B F ρ σ H Q R q=>seqE R q fun d v F1 H1 s1 R1 p1 q1=>seqE R1 q1 fun d2 v2 F2 H2 s2 R2 p2 q2 =>
  ⟨F2,d,d2,R2.fh,p1.same s2.ff,p2,doneN (s1.trans s2) q2⟩
noncomputable def asB:D→Res Bool
 | .bl b=>.ok b
 | _=>.bad
theorem u5j {d:D}{P:Bool→Prop}{E:D→Prop} (h:(asB d).all P E):∃ b,d=.bl b∧P b:=by
 cases d <;> first | exact h.elim | exact ⟨_,rfl,h⟩
theorem Rp.blI {K:W.Frag}{F:Hp}{v:V}{b:Bool} (h:Rp K F v (.bl b)):v=.bl b:=by cases h;rfl
noncomputable def fChain (g g':D→D→Res D) (x y:D) (z:Res D):Res D:=(noE (g x y)).bind fun w=>(asB w).bind fun c=>if c=true then z.bind fun z=>noE (g' y z) else .ok (.bl false)
theorem u8C {op op':CmpOp}{g g':D→D→Res D} (ho:OpR X (compareOp op) (rD X.K g)) (ho':OpR X (compareOp op') (rD X.K g')) (ha:DE X xq a fa) (hb:DE X xq b fb) (hc:DE X xq c fc)
  (hm:lastMarks [op,op'] [b,c]=false:=by with_unfolding_all rfl):DE X xq (.Compare a [op,op'] [b,c] pos) (fun ρ=>(fa ρ).bind fun x=>(fb ρ).bind fun y=>fChain g g' x y (fc ρ)) :=
 DE.of (v3k ho ho' ha.out hb.out hc.out hm) fun B F ρ σ H Q R q=>seqE R q fun d v F1 H1 s1 R1 p1 q1=>seqE R1 q1 fun d2 v2 F2 H2 s2 R2 p2 q2=>by
  refine ⟨F2,d,d2,R2.fh,p1.same s2.ff,p2,?_⟩
  unfold fChain at q2
  have q3:=Res.all_bind.mp q2
  generalize g d d2=r at q3
  cases r with
  | err x=>exact q3
  | bad=>exact q3
  | ok w =>
   obtain ⟨k,rfl,q4⟩:=u5j (Res.all_bind.mp (show ((asB w).bind _).all _ _ from q3))
   intro v3 F3 H3 s3 p3
   refine ⟨k,p3.blI,?_⟩
   have s03:=(s1.trans s2).trans s3
   cases k with
   | false=>exact q4 (.bl false) F3 H3 s03 (.bl false)
   | true=>exact seqE (R2.step s3) q4 fun d4 v4 F4 H4 s4 R4 p4 q5=>⟨F4,d2,d4,R4.fh,(p2.same s3.ff).same s4.ff,p4,doneN (s03.trans s4) q5⟩
theorem u3e {op} (h:DE X xq a fa):DE X xq (.BoolOp op [a] pos) fa:=⟨pe_one h.out⟩
theorem u1R (ha:DE X xq a fa) (hb:DE X xq (.BoolOp .And (b::rest) pos) fb):DE X xq (.BoolOp .And (a::b::rest) pos) (fun ρ=>(fa ρ).bind fun x=>(asB x).bind fun k=>if k=true then fb ρ else .ok (.bl false)) :=
 DE.of (pe_and ha.out hb.out) fun B F ρ σ H Q R q=>seqE R q fun d v F1 H1 s1 R1 p1 q1=>by
  obtain ⟨k,rfl,q2⟩:=u5j (Res.all_bind.mp q1)
  refine ⟨k,p1.blI,?_⟩
  cases k with
  | false=>exact q2 _ F1 H1 s1 (.bl false)
  | true=>exact ⟨B,F1,ρ,R1,Res.all_mono q2 (fun d k v F' H' s p=>k v F' H' (s1.trans s) p) fun _ e=>e⟩
theorem d_or (ha:DE X xq a fa) (hb:DE X xq (.BoolOp .Or (b::rest) pos) fb):DE X xq (.BoolOp .Or (a::b::rest) pos) (fun ρ=>(fa ρ).bind fun x=>(asB x).bind fun k=>if k=true then .ok (.bl true) else fb ρ) :=
 DE.of (pe_or ha.out hb.out) fun B F ρ σ H Q R q=>seqE R q fun d v F1 H1 s1 R1 p1 q1=>by
  obtain ⟨k,rfl,q2⟩:=u5j (Res.all_bind.mp q1)
  refine ⟨k,p1.blI,?_⟩
  cases k with
  | true=>exact q2 _ F1 H1 s1 (.bl true)
  | false=>exact ⟨B,F1,ρ,R1,Res.all_mono q2 (fun d k v F' H' s p=>k v F' H' (s1.trans s) p) fun _ e=>e⟩
theorem d_not (ha:DE X xq a fa):DE X xq (.UnaryOp .Not a pos) (fun ρ=>(fa ρ).bind fun x=>(asB x).bind fun k=>.ok (.bl (!k))) :=
 DE.of (pe_not ha.out) fun B F ρ σ H Q R q=>seqE R q fun d v F1 H1 s1 R1 p1 q1=>by
  obtain ⟨k,rfl,q2⟩:=u5j (Res.all_bind.mp q1)
  exact ⟨k,p1.blI,q2 _ F1 H1 s1 (.bl _)⟩
theorem ErrK.frz {K:W.Frag}{B:Hp×Hp}{ρ:Rho}{σ:St}{x:D} (h:ErrK K xq B ρ σ x):ErrK K xq B (frz ρ) σ x:=fun v F' H' R p=>h v F' H' (frz_frz ρ ▸ R) p
theorem d_ife (hc:DT X xq c fA) (ha:DE X xq a fa) (hb:DE X xq b fb):DE X xq (.IfExp c a b pos) (fun ρ=>(fA (frz ρ)).bind fun k=>if k=true then fa ρ else fb ρ) :=
 DE.of (v3h hc.out ha.out hb.out) fun B F ρ σ H Q R q=>⟨B,F,ρ,R,Res.all_mono (Res.all_bind.mp q) (fun k q1 H1 s1=>by
  cases k with
  | true=>exact ⟨B,F,ρ,R.step s1,Res.all_mono q1 (fun d k v F' H' s p=>k v F' H' (s1.trans s) p) fun _ e=>e⟩
  | false=>exact ⟨B,F,ρ,R.step s1,Res.all_mono q1 (fun d k v F' H' s p=>k v F' H' (s1.trans s) p) fun _ e=>e⟩) fun _ e=>e⟩
theorem tfrz {P:Bool→Prop}{K:W.Frag}{B:Hp×Hp}{ρ:Rho}{σ:St}{F H:Hp}{Q:Bool→Hp→Prop} (R:Rel K B ρ σ F H) (h:((fe (frz ρ)).bind asB).all (fun b=>∀ H',Stp F H F H'→Q b H') (ErrK K xq B ρ σ)) :
  liftE K xq fe σ H (fun x H'=>∃ k,x=.bl k∧Q k H'):=by
 obtain ⟨F1,e1,R1⟩:=R.frz
 refine ⟨B,F1,L2.frz ρ,R1,Res.all_mono (Res.all_bind.mp h) (fun d q v F' H' s p=>?_) fun _ e=>e.frz⟩
 obtain ⟨k,rfl,q⟩:=u5j q
 exact ⟨k,p.blI,q H' (Stp.only R.fh s.hh)⟩
theorem u1e (h:DE X xq e fe) (he:∀ whole,isTrue e X.env whole=(do let v ← whole;standAt e.pos;holding [v] (truthy v)):=by intro _;rfl):DT X xq e (fun ρ=>(fe ρ).bind asB) :=
 DT.of (pt_val h.out he) fun B F ρ σ H Q R q=>tfrz (P:=fun _=>True) R q
theorem u0q {op:CmpOp}{g:D→D→Res D} (ho:OpR X (compareOp op) (rD X.K g)) (ha:DE X xq a fa) (hb:DE X xq b fb) (hm:behindInMarks op b=false:=by first | exact nomark _ | with_unfolding_all rfl) :
  DT X xq (.Compare a [op] [b] pos) (fun ρ=>(fa ρ).bind fun x=>(fb ρ).bind fun y=>(noE (g x y)).bind asB) :=
 DT.of (pt_cmpR ho ha.out hb.out hm) fun B F ρ σ H Q R q=>by
  obtain ⟨F0,e0,R0⟩:=R.frz
  have q':=Res.all_mono q (fun _ k=>k) (fun x (e:ErrK X.K xq B ρ σ x)=>e.frz)
  refine seqE R0 q' fun d v F1 H1 s1 R1 p1 q1=>seqE R1 q1 fun d2 v2 F2 H2 s2 R2 p2 q2=>⟨F2,d,d2,R2.fh,p1.same s2.ff,p2,?_⟩
  have q3:=Res.all_bind.mp q2
  generalize g d d2=r at q3
  cases r with
  | err x=>exact q3
  | bad=>exact q3
  | ok w =>
   obtain ⟨k,rfl,q4⟩:=u5j (show (asB w).all _ _ from q3)
   exact fun v3 F3 H3 s3 p3=>⟨k,p3.blI,q4 H3 (Stp.only R.fh ((s1.hh.trans s2.hh).trans s3.hh))⟩
theorem seqT {α:Type}{K:W.Frag}{B:Hp×Hp}{ρ:Rho}{σ:St}{F H:Hp}{g:Bool→Res α}{P:α→Prop}{T:Bool→Hp→Prop} (R:Rel K B ρ σ F H) (h:((fA (frz ρ)).bind g).all P (ErrK K xq B ρ σ))
  (k:∀ b H',Stp F H F H'→Rel K B ρ σ F H'→(g b).all P (ErrK K xq B ρ σ)→T b H'):liftT K xq fA σ H T :=
 ⟨B,F,ρ,R,Res.all_mono (Res.all_bind.mp h) (fun d h' H' s=>k d H' s (R.step s) h') (fun _ e=>e)⟩
theorem u1s (ha:DT X xq a fA):DT X xq (.UnaryOp .Not a pos) (fun ρ=>(fA ρ).bind fun k=>.ok (!k)) :=
 DT.of (pt_not ha.out) fun B F ρ σ H Q R q=>seqT R q fun k H1 s1 R1 q1=>q1 H1 s1
theorem dt_w (h:DW X xq e fA):DT X xq e fA:=⟨h.out.pt⟩
theorem u6s (ha:DT X xq a fA):DW X xq (.BoolOp .And [a] pos) fA:=⟨pw_and1 ha.out⟩
theorem u3W (ha:DT X xq a fA):DW X xq (.BoolOp .Or [a] pos) fA:=⟨pw_or1 ha.out⟩
theorem u9u (ha:DT X xq a fA) (hb:DW X xq (.BoolOp .And (b::rest) pos) fB):DW X xq (.BoolOp .And (a::b::rest) pos) (fun ρ=>(fA ρ).bind fun k=>if k=true then fB ρ else .ok false) :=
 ⟨fun wh pins s σ H Q I z9=>un5 z9 fun B F ρ R q=>pw_and ha.out hb.out wh pins s σ H Q I (seqT R q fun k H1 s1 R1 q1=>by
  cases k with
  | false=>exact q1 H1 s1
  | true=>exact ⟨B,F,ρ,R1,Res.all_mono q1 (fun k q H2 s2=>q H2 (s1.trans s2)) fun _ e=>e⟩)⟩
theorem u5r (ha:DT X xq a fA) (hb:DW X xq (.BoolOp .Or (b::rest) pos) fB):DW X xq (.BoolOp .Or (a::b::rest) pos) (fun ρ=>(fA ρ).bind fun k=>if k=true then .ok true else fB ρ) :=
 ⟨fun wh pins s σ H Q I z9=>un5 z9 fun B F ρ R q=>pw_or ha.out hb.out wh pins s σ H Q I (seqT R q fun k H1 s1 R1 q1=>by
  cases k with
  | true=>exact q1 H1 s1
  | false=>exact ⟨B,F,ρ,R1,Res.all_mono q1 (fun k q H2 s2=>q H2 (s1.trans s2)) fun _ e=>e⟩)⟩
theorem u0b:DA X xq [] (fun _=>.ok []):=⟨fun pos pins s σ H Q I z9=>un5 z9 fun B F ρ R q=>u4G pos pins s σ H Q I (q [] F H (Stp.refl R.fh) .nil),rfl⟩
theorem u0a (ha:DE X xq e fe) (hr:DA X xq es fs) (hs:notStar e=true:=by rfl):DA X xq (e::es) (fun ρ=>(fe ρ).bind fun d=>(fs ρ).bind fun ds=>.ok (d::ds)) :=
 ⟨fun pos pins s σ H Q I z9=>un5 z9 fun B F ρ R q=>pac ha.out hr.out hs pos pins s σ H Q I (seqE R q fun d v F1 H1 s1 R1 p1 q1=>seqA R1 q1 fun ds vs F2 H2 s2 R2 p2 q2 =>
  q2 (v::vs) F2 H2 (s1.trans s2) (.cons (p1.same s2.ff) p2)),by rw [List.all_cons,hs,hr.ns];rfl⟩
noncomputable def szD {α:Type} (ds:List D) (k:Res α):Res α:=if ds.length≤sizeLine then k else .bad
theorem v0R {α:Type}{ds:List D}{k:Res α}{P:α→Prop}{E:D→Prop} (h:(szD ds k).all P E):ds.length≤sizeLine∧k.all P E:=by
 unfold szD at h
 by_cases q:ds.length≤sizeLine
 ·rw [if_pos q] at h;exact ⟨q,h⟩
 ·rw [if_neg q] at h;exact h.elim
theorem u0f {x1} (h:DA X xq es fs):DE X xq (.Tuple es x1 pos) (fun ρ=>(fs ρ).bind fun ds=>szD ds (.ok (.tup ds))) :=
 DE.of (pe_tup h.out) fun B F ρ σ H Q R q=>seqA R q fun ds vs F1 H1 s1 R1 p1 q1=>by
  obtain ⟨hz,q2⟩:=v0R q1
  exact ⟨p1.length ▸ hz,fun p n=>q2 _ _ _ (s1.trans (Stp.new R1.fh n)) (.tup (.inl (.inl u0g)) (p1.same (Stp.new R1.fh n).ff))⟩
theorem u1l (h:DA X xq es fs):DE X xq (.List es pos) (fun ρ=>(fs ρ).bind fun ds=>szD ds (.ok (.lst ds))) :=
 DE.of (v4g h.out) fun B F ρ σ H Q R q=>seqA R q fun ds vs F1 H1 s1 R1 p1 q1=>by
  obtain ⟨hz,q2⟩:=v0R q1
  exact ⟨p1.length ▸ hz,fun p n=>q2 _ _ _ (s1.trans (Stp.new R1.fh n)) (.lst (.inl u0g) (p1.same (Stp.new R1.fh n).ff))⟩
theorem u3Y (h:DA X xq es fs):DN X xq (.List es pos) (fun ρ=>(fs ρ).bind fun ds=>szD ds (.ok (.l ds))) :=
 ⟨fun pins s σ H Q I z9=>un5 z9 fun B F ρ R q=>v4g h.out pins s σ H Q I (seqA R q fun ds vs F1 H1 s1 R1 p1 q1=>by
  obtain ⟨hz,q2⟩:=v0R q1
  refine ⟨p1.length ▸ hz,fun p n=>q2 p _ F1 _ (s1.trans (Stp.only R1.fh (u0h n))) (R1.fh.free n) (s1.hh.free n) u0g (.l p1)⟩)⟩
theorem DN.de {f:Rho→Res OD} (h:DN X xq e f):DE X xq e (fun ρ=>(f ρ).bind fun o=>.ok o.toD) :=
 ⟨fun pins s σ H Q I z9=>un5 z9 fun B F ρ R q=>h.out pins s σ H Q I ⟨B,F,ρ,R,Res.all_mono (Res.all_bind.mp q) (fun o q1 a hh F' H' s1 n1 n2 e1 r1=>by
  have s2:Stp F H (upd F' a hh) H':=⟨s1.ff.trans (u0h n1),fun b u x=>by
   unfold upd at x
   by_cases z:b=a
   ·rw [if_pos z] at x;cases x;subst z;exact e1
   ·rw [if_neg z] at x;exact s1.fh b u x,s1.hh,fun b x y=>by
   unfold upd
   by_cases z:b=a
   ·subst z;exact absurd n2 y
   ·rw [if_neg z];exact s1.no b x y⟩
  exact q1 _ _ _ s2 ((Ro.same (u0h n1) r1).rp u0g)) fun _ e=>e⟩⟩
end
inductive Out where
 | nx (ρ:Rho) | rt (d:D) | bk (ρ:Rho) | ct (ρ:Rho) | er (x:D) (ρ:Rho) | bad
namespace Out
def all (o:Out) (N:Rho→Prop) (R:D→Prop) (B C:Rho→Prop) (E:Rho→D→Prop):Prop:=match o with
 | .nx ρ=>N ρ
 | .rt d=>R d
 | .bk ρ=>B ρ
 | .ct ρ=>C ρ
 | .er x ρ=>E ρ x
 | .bad=>False
noncomputable def andThen (o:Out) (f:Rho→Out):Out:=match o with
 | .nx ρ=>f ρ
 | o=>o
@[simp] theorem then_nx (ρ:Rho) (f:Rho→Out):(Out.nx ρ).andThen f=f ρ:=rfl
@[simp] theorem then_rt (d:D) (f:Rho→Out):(Out.rt d).andThen f=.rt d:=rfl
@[simp] theorem then_bk (ρ:Rho) (f:Rho→Out):(Out.bk ρ).andThen f=.bk ρ:=rfl
@[simp] theorem then_ct (ρ:Rho) (f:Rho→Out):(Out.ct ρ).andThen f=.ct ρ:=rfl
@[simp] theorem then_er (x:D) (ρ:Rho) (f:Rho→Out):(Out.er x ρ).andThen f=.er x ρ:=rfl
@[simp] theorem then_bad (f:Rho→Out):Out.bad.andThen f=.bad:=rfl
end Out
noncomputable def Res.go {α:Type} (r:Res α) (ρ:Rho) (k:α→Out):Out:=match r with
 | .ok a=>k a
 | .err x=>.er x (frz ρ)
 | .bad=>.bad
@[simp] theorem go_ok {α:Type} (a:α) (ρ:Rho) (k:α→Out):(Res.ok a).go ρ k=k a:=rfl
@[simp] theorem go_err {α:Type} (x:D) (ρ:Rho) (k:α→Out):(Res.err x).go ρ k=.er x (frz ρ):=rfl
@[simp] theorem go_bad {α:Type} (ρ:Rho) (k:α→Out):Res.bad.go ρ k=.bad:=rfl
theorem u0y {α:Type}{r:Res α}{ρ:Rho}{k:α→Out}{N:Rho→Prop}{R:D→Prop}{B C:Rho→Prop}{E:Rho→D→Prop} (h:(r.go ρ k).all N R B C E):r.all (fun a=>(k a).all N R B C E) (E (frz ρ)):=by
 cases r <;> exact h
theorem v2M {o:Out}{f:Rho→Out}{N:Rho→Prop}{R:D→Prop}{B C:Rho→Prop}{E:Rho→D→Prop} (h:(o.andThen f).all N R B C E):o.all (fun ρ=>(f ρ).all N R B C E) R B C E:=by
 cases o <;> exact h
structure OkS (K:W.Frag) (xq:XQ) (B:Hp×Hp) (T:Ends) (o:Out):Prop where
 out:o.all (fun ρ=>∀ σ F H,Rel K B ρ σ F H→T.nx σ H) (fun d=>∀ v F H,Stp B.1 B.2 F H→Rp K F v d→T.rt v H)
  (fun ρ=>∀ σ F H,Rel K B ρ σ F H→T.bk σ H) (fun ρ=>∀ σ F H,Rel K B ρ σ F H→T.ct σ H) (fun ρ x=>∀ v σ F H,Rel K B ρ σ F H→Rp K F v x→xq v σ H)
def liftS (K:W.Frag) (xq:XQ) (f:Rho→Out):TS:=fun T σ H=>∃ B F ρ,Rel K B ρ σ F H∧OkS K xq B T (f ρ)
structure DS (X:Cx) (xq:XQ) (st:Stmt) (f:Rho→Out):Prop where
 out:PS X st (liftS X.K xq f)
structure DB (X:Cx) (xq:XQ) (sts:List Stmt) (f:Rho→Out):Prop where
 out:PSs X sts (liftS X.K xq f)
def liftG (K:W.Frag) (ix:List Nat) (g:D→Rho→Res Rho):TG:=fun v σ H Q=>∃ B F ρ d,Rel K B ρ σ F H∧Rp K F v d ∧
 (g d ρ).all (fun ρ'=>∀ σ',Rel K B ρ' σ' F H→σ'.length=σ.length→(∀ j,j∉ix→σ'[j]?=σ[j]?)→Q σ' H) (fun _=>False)
def liftGs (K:W.Frag) (ix:List Nat) (g:List D→Rho→Res Rho):TGs:=fun vs σ H Q=>∃ B F ρ ds,Rel K B ρ σ F H∧Rps K F vs ds ∧
 (g ds ρ).all (fun ρ'=>∀ σ',Rel K B ρ' σ' F H→σ'.length=σ.length→(∀ j,j∉ix→σ'[j]?=σ[j]?)→Q σ' H) (fun _=>False)
structure DG (X:Cx) (tg:Expr) (ix:List Nat) (g:D→Rho→Res Rho):Prop where
 out:PG X tg (liftG X.K ix g)
structure DGs (X:Cx) (tgs:List Expr) (ix:List Nat) (g:List D→Rho→Res Rho):Prop where
 out:PGs X tgs (liftGs X.K ix g)
structure Feed (K:W.Frag) (F:Hp) (J:It) (ds:List D):Prop where
 go:∀ i H,Same F H→i<ds.length→J.go i H
 yld:∀ i F1 H x H' d,Same F F1→Same F1 H→ds[i]?=some d→J.yld i H x H'→∃ F',Stp F1 H F' H'∧Rp K F' x d
 stop:∀ i H,Same F H→ds.length≤i→J.stop i H
def liftI (K:W.Frag) (xq:XQ) (f:Rho→Res (List D)):TI:=fun σ H R=>∃ B F ρ,Rel K B ρ σ F H ∧
 (f ρ).all (fun ds=>∀ J F' H',Stp F H F' H'→Feed K F' J ds→R J H') (ErrK K xq B ρ σ)
structure DI (X:Cx) (xq:XQ) (tg iter:Expr) (f:Rho→Res (List D)):Prop where
 out:PI X tg iter (liftI X.K xq f)
theorem Feed.list {K:W.Frag}{F:Hp}{a:Addr}{xs:List V}{ds:List D} (h:SqL K F a xs) (r:Rps K F xs ds):Feed K F (Itl K a) ds where
 go i H e hi:=⟨xs,xs[i]'(r.length ▸ hi),e.seq h,by simp [r.length ▸ hi]⟩
 yld i F1 H x H' d e1 e2 hd y:=by
  obtain ⟨rfl,y⟩:=y
  obtain ⟨v,hv,p⟩:=r.get hd
  have:xs[i]?=some x:=y xs ((e1.trans e2).seq h)
  rw [hv] at this;cases this
  exact ⟨F1,Stp.refl e2,p.same e1⟩
 stop i H e hi:=⟨xs,e.seq h,r.length ▸ hi⟩
theorem Feed.tup {K:W.Frag}{F:Hp}{a:Addr}{xs:List V}{ds:List D} (h:SqT K F a xs) (r:Rps K F xs ds):Feed K F (Itt K a) ds where
 go i H e hi:=⟨xs,xs[i]'(r.length ▸ hi),e.seqT h,by simp [r.length ▸ hi]⟩
 yld i F1 H x H' d e1 e2 hd y:=by
  obtain ⟨rfl,y⟩:=y
  obtain ⟨v,hv,p⟩:=r.get hd
  have:xs[i]?=some x:=y xs ((e1.trans e2).seqT h)
  rw [hv] at this;cases this
  exact ⟨F1,Stp.refl e2,p.same e1⟩
 stop i H e hi:=⟨xs,e.seqT h,r.length ▸ hi⟩
theorem u4I:(1:Nat)≤sizeLine:=by decide
noncomputable def chars (z:Str):List D:=z.cps.toList.map fun c=>.str ⟨#[c]⟩
theorem Feed.str {K:W.Frag}{F:Hp} (z:Str):Feed K F (Its z) (chars z) where
 go i H e hi:=by
  show i<z.cps.size
  simpa [chars] using hi
 yld i F1 H x H' d e1 e2 hd y:=by
  obtain ⟨rfl,c,hc,rfl⟩:=y
  have e3:z.cps.toList[i]?=some c:=by simpa using hc
  unfold chars at hd
  rw [List.getElem?_map,e3] at hd
  cases hd
  exact ⟨F1,Stp.refl e2,.str (by show (#[c]:Array Nat).size≤sizeLine;exact u4I)⟩
 stop i H e hi:=by
  show z.cps.size≤i
  simpa [chars] using hi
noncomputable def intL (lo:Int) (n:Nat):List D:=(List.range n).map fun (i:Nat)=>.int (lo+(i:Int))
theorem Feed.rng {K:W.Frag}{F:Hp} (lo:Int) (n:Nat):Feed K F (Itr lo n) (intL lo n) where
 go i H e hi:=by
  show i<n
  simpa [intL] using hi
 yld i F1 H x H' d e1 e2 hd y:=by
  obtain ⟨rfl,rfl⟩:=y
  have hi:i<n:=by
   have:=(List.getElem?_eq_some_iff.mp hd).1
   simpa [intL] using this
  unfold intL at hd
  rw [List.getElem?_map,List.getElem?_range hi] at hd
  cases hd
  exact ⟨F1,Stp.refl e2,.int _⟩
 stop i H e hi:=by
  show n≤i
  simpa [intL] using hi
section
variable {X:Cx}{xq:XQ}{st:Stmt}{sts:List Stmt}{e c tg:Expr}{fe:Rho→Res D}{fT:Rho→Res Bool}{f g:Rho→Out}{pos pos':Pos}{x:Str}
theorem DS.of {t:TS} (h:PS X st t) (k:∀ B F ρ σ H T,Rel X.K B ρ σ F H→OkS X.K xq B T (f ρ)→t T σ H):DS X xq st f :=
 ⟨fun pins s σ H T I z9=>un5 z9 fun B F ρ R q=>h pins s σ H T I (k B F ρ σ H T R q)⟩
theorem u0s:DB X xq [] (fun ρ=>.nx ρ):=⟨fun pins s σ H T I z9=>un5 z9 fun B F ρ R q=>pss_nil pins s σ H T I (q.out σ F H R)⟩
theorem u0e (h:DS X xq st f):DB X xq [st] f:=⟨u8h h.out⟩
theorem u0d (h1:DS X xq st f) (h2:DB X xq sts g):DB X xq (st::sts) (fun ρ=>(f ρ).andThen g) :=
 ⟨fun pins s σ H T I z9=>un5 z9 fun B F ρ R q=>u8U h1.out h2.out pins s σ H T I ⟨B,F,ρ,R,⟨by
  have q1:=v2M q.out
  generalize f ρ=o at q1
  cases o with
  | nx ρ1=>exact fun σ1 F1 H1 R1=>⟨B,F1,ρ1,R1,⟨q1⟩⟩
  | rt d=>exact q1
  | bk r=>exact q1
  | ct r=>exact q1
  | er x r=>exact q1
  | bad=>exact q1⟩⟩⟩
theorem errOf {K:W.Frag}{B:Hp×Hp}{ρ:Rho}{σ:St}{x:D} (h:∀ v σ F H,Rel K B (frz ρ) σ F H→Rp K F v x→xq v σ H):ErrK K xq B ρ σ x:=fun v F H R p=>h v σ F H R p
theorem u0i (he:DE X xq e fe):DS X xq (.Return (some e) pos) (fun ρ=>(fe (frz ρ)).go ρ fun d=>.rt d) :=
 DS.of (v4f he.out) fun B F ρ σ H T R q=>by
  obtain ⟨F1,e1,R1⟩:=R.frz
  exact ⟨B,F1,frz ρ,R1,Res.all_mono (u0y q.out) (fun d q v F' H' s p=>q v F' H' (R1.st.trans s) p) fun x q=>(errOf q).frz⟩
theorem u3d (he:DE X xq e fe) (hs:swapsWith e none pos.line X.env=pure false:=by rfl):DS X xq (.Expr e pos) (fun ρ=>(fe (frz ρ)).go ρ fun _=>.nx ρ) :=
 DS.of (u2U he.out hs) fun B F ρ σ H T R q=>by
  obtain ⟨F1,e1,R1⟩:=R.frz
  exact ⟨B,F1,frz ρ,R1,Res.all_mono (u0y q.out) (fun d q v F' H' s p=>q σ F H' (R.step (Stp.only R.fh s.hh))) fun x q=>(errOf q).frz⟩
theorem u0z {a b:List Stmt} (hc:DT X xq c fT) (ha:DB X xq a f) (hb:DB X xq b g):DS X xq (.If c a b pos) (fun ρ=>(fT (frz ρ)).go ρ fun k=>if k=true then f ρ else g ρ) :=
 DS.of (ps_if hc.out ha.out hb.out) fun B F ρ σ H T R q=>⟨B,F,ρ,R,Res.all_mono (u0y q.out) (fun k q H' s=>by
  cases k with
  | true=>exact ⟨B,F,ρ,R.step s,⟨q⟩⟩
  | false=>exact ⟨B,F,ρ,R.step s,⟨q⟩⟩) fun x q=>errOf q⟩
theorem ds_n {i:Nat} (hN:X.N.Nodup) (he:DE X xq e fe) (hi:X.N.findIdx? (fun y=>y==x)=some i:=by rfl) (hx:Loc X.env.scope x:=by first | exact Or.inl rfl | exact Or.inr rfl) (hs:swapsWith e (some (.Name x pos')) pos.line X.env=pure false:=by rfl)
  (hf:X.fn x=true∨X.env.scope.names.lookup x=some .local:=by first | exact .inl rfl | exact .inr rfl):DS X xq (.Assign [.Name x pos'] e pos) (fun ρ=>(fe ρ).go ρ fun d=>.nx (ρ.set i (some (.val d)))) :=
 DS.of (ps_n hN he.out hi hx hs hf) fun B F ρ σ H T R q=>⟨B,F,ρ,R,Res.all_mono (u0y q.out) (fun d q v F' H' s p=>q _ F' H' ((R.step s).set p)) fun x q=>errOf q⟩
theorem u1K {i:Nat}{fn:Rho→Res OD} (hN:X.N.Nodup) (he:DN X xq e fn) (hi:X.N.findIdx? (fun y=>y==x)=some i:=by rfl) (hx:Loc X.env.scope x:=by first | exact Or.inl rfl | exact Or.inr rfl) (hs:swapsWith e (some (.Name x pos')) pos.line X.env=pure false:=by rfl)
  (hf:X.fn x=true∨X.env.scope.names.lookup x=some .local:=by first | exact .inl rfl | exact .inr rfl):DS X xq (.Assign [.Name x pos'] e pos) (fun ρ=>(fn ρ).go ρ fun o=>.nx (ρ.set i (some (.own o)))) :=
 DS.of (ps_n hN he.out hi hx hs hf) fun B F ρ σ H T R q=>⟨B,F,ρ,R,Res.all_mono (u0y q.out) (fun o q a h F' H' s n1 n2 e1 r1=>q _ F' H' ((R.step s).setOwn n1 (R.st.hh.free n2) e1 r1 fun j u w z=>by
   obtain ⟨b,hh,p1,p2,p3,p4,p5⟩:=R.own j u w
   rw [p1] at z;cases z;rw [p4] at n2;cases n2)) fun x q=>errOf q⟩
noncomputable def flatD:D→Bool
 | .non | .bl _ | .int _ | .str _ | .ty _=>true
 | _=>false
noncomputable def flatC (d:D):Res D:=if flatD d=true then .ok d else .bad
theorem Rp.flat {K:W.Frag}{F F':Hp}{v:V}{d:D} (h:Rp K F v d) (f:flatD d=true):Rp K F' v d:=by
 cases h <;> first | (cases f;done) | exact .non | exact .bl _ | exact .int _ | exact .ty _ | (exact .str (by assumption)) | exact absurd f (by simp [flatD])
theorem DE.flat (h:DE X xq e fe):DE X xq e (fun ρ=>(fe (frz ρ)).bind flatC) :=
 DE.of h.out fun B F ρ σ H Q R q=>by
  obtain ⟨F1,e1,R1⟩:=R.frz
  refine ⟨B,F1,frz ρ,R1,Res.all_mono (Res.all_bind.mp q) (fun d q v F' H' s p=>?_) fun _ e=>e.frz⟩
  unfold flatC at q
  by_cases z:flatD d=true
  ·rw [if_pos z] at q
   exact q v F H' (Stp.only R.fh s.hh) (p.flat z)
  ·rw [if_neg z] at q;exact q.elim
theorem DB.fix (h:DB X xq sts f):DB X xq sts (fun ρ=>f (frz ρ)) :=
 ⟨fun pins s σ H T I z9=>un5 z9 fun B F ρ R q=>let ⟨F1,_,R1⟩:=R.frz;h.out pins s σ H T I ⟨B,F1,frz ρ,R1,q⟩⟩
theorem dg_n {i:Nat} (hN:X.N.Nodup) (hi:X.N.findIdx? (fun y=>y==x)=some i:=by rfl) (hx:Loc X.env.scope x:=by first | exact Or.inl rfl | exact Or.inr rfl) (hf:X.fn x=true∨X.env.scope.names.lookup x=some .local:=by first | exact .inl rfl | exact .inr rfl) :
  DG X (.Name x pos) [i] (fun d ρ=>.ok (ρ.set i (some (.val d)))) :=
 ⟨fun pins s σ H v u Q I rv ⟨B,F,ρ,d,R,p,q⟩=>pg_n hN hi hx hf pins s σ H v u Q I rv (q (σ.set i (some v)) (R.set p) (by simp) fun j hj=>by
  rw [u0U (fun z=>hj (by simp [z]))])⟩
theorem u1k:DGs X [] [] (fun ds ρ=>match ds with | []=>.ok ρ | _=>.bad) :=
 ⟨fun pins s σ H vs us Q I rv ⟨B,F,ρ,ds,R,p,q⟩=>pgs_nil pins s σ H vs us Q I rv (by
  cases p with
  | nil=>exact ⟨rfl,q σ R rfl fun _ _=>rfl⟩
  | cons _ _=>exact q.elim)⟩
theorem u0o {ix jx:List Nat}{tgs:List Expr}{g:D→Rho→Res Rho}{gs:List D→Rho→Res Rho} (h1:DG X e ix g) (h2:DGs X tgs jx gs) (hs:(assignEach (e::tgs) X.env).map (·.2)=assign e X.env::(assignEach tgs X.env).map (·.2):=by rfl) :
  DGs X (e::tgs) (ix++jx) (fun ds ρ=>match ds with | d::r=>(g d ρ).bind (gs r) | _=>.bad) :=
 ⟨fun pins s σ H vs us Q I rv ⟨B,F,ρ,ds,R,p,q⟩=>v3f h1.out h2.out hs pins s σ H vs us Q I rv (by
  cases p with
  | nil=>exact q.elim
  | cons p1 p2 =>
   refine ⟨_,_,rfl,B,F,ρ,_,R,p1,Res.all_mono (Res.all_bind.mp q) (fun ρ1 q1 σ1 R1 l1 k1=>⟨B,F,ρ1,_,R1,p2,Res.all_mono q1 (fun ρ2 q2 σ2 R2 l2 k2=>q2 σ2 R2 (l2.trans l1) fun j hj=>?_) fun _ e=>e⟩) fun _ e=>e⟩
   rw [k2 j fun z=>hj (List.mem_append_right _ z),k1 j fun z=>hj (List.mem_append_left _ z)])⟩
noncomputable def asT (n:Nat):D→Res (List D)
 | .tup ds=>if ds.length=n then .ok ds else .bad
 | _=>.bad
theorem u1Y {k n:Nat}{ix:List Nat}{tgs:List Expr}{gs:List D→Rho→Res Rho} (hc:X.calm=true) (h:DGs X tgs ix gs) (hn:(assignEach tgs X.env).length=n:=by rfl) (hst:(assignEach tgs X.env).findIdx? (·.1)=none:=by rfl) :
  DG X (.Tuple tgs k pos) ix (fun d ρ=>(asT n d).bind fun ds=>gs ds ρ) :=
 ⟨fun pins s σ H v u Q I rv ⟨B,F,ρ,d,R,p,q⟩=>pg_tup hc h.out hn hst pins s σ H v u Q I rv (by
  have q1:=Res.all_bind.mp q
  cases p with
  | @tup a xs ds hq hs =>
   unfold asT at q1
   dsimp only at q1
   by_cases z:ds.length=n
   ·rw [if_pos z] at q1
    exact ⟨a,xs,rfl,R.fh.seqT hq,hs.length.trans z,B,F,ρ,ds,R,hs,q1⟩
   ·rw [if_neg z] at q1;exact q1.elim
  | _=>exact q1.elim)⟩
theorem Stp.rebase {B:Hp×Hp}{F H F' H':Hp} (st:Stp B.1 B.2 F H) (s:Stp F B.2 F' H'):Stp B.1 B.2 F' H' :=
 ⟨st.ff.trans s.ff,s.fh,s.hh,fun a n z=>s.no a (st.no a n z) z⟩
theorem Rel.rebase {K:W.Frag}{B:Hp×Hp}{ρ:Rho}{σ:St}{F H:Hp} (R:Rel K B ρ σ F H):Rel K (F,B.2) ρ σ F H :=
 ⟨⟨Same.refl F,R.st.fh,R.st.hh,fun _ n _=>n⟩,R.len,R.val,R.own,R.dis⟩
theorem Rel.unbase {K:W.Frag}{B:Hp×Hp}{ρ:Rho}{σ:St}{F H F' H':Hp} (st:Stp B.1 B.2 F H) (R:Rel K (F,B.2) ρ σ F' H'):Rel K B ρ σ F' H' :=
 ⟨st.rebase R.st,R.len,R.val,R.own,R.dis⟩
theorem OkS.rebase {K:W.Frag}{B:Hp×Hp}{F H:Hp}{T:Ends}{o:Out} (st:Stp B.1 B.2 F H) (q:OkS K xq B T o):OkS K xq (F,B.2) T o:=⟨by
 have q:=q.out
 cases o with
 | nx ρ=>exact fun σ F' H' R=>q σ F' H' (R.unbase st)
 | rt d=>exact fun v F' H' s p=>q v F' H' (st.rebase s) p
 | bk ρ=>exact fun σ F' H' R=>q σ F' H' (R.unbase st)
 | ct ρ=>exact fun σ F' H' R=>q σ F' H' (R.unbase st)
 | er x ρ=>exact fun v σ F' H' R p=>q v σ F' H' (R.unbase st) p
 | bad=>exact q⟩
noncomputable def forD (g:D→Rho→Res Rho) (tb:Rho→Out):List D→Rho→Out
 | [],ρ=>.nx ρ
 | d::ds,ρ=>(noE (g d ρ)).go ρ fun ρ1=>match tb ρ1 with
  | .nx ρ2=>forD g tb ds ρ2
  | .ct ρ2=>forD g tb ds ρ2
  | .bk ρ2=>.nx ρ2
  | o=>o
theorem u0G {iter:Expr}{body:List Stmt}{fi:Rho→Res (List D)}{ix:List Nat}{g:D→Rho→Res Rho}{tb:Rho→Out} (hc:X.calm=true) (hi:DI X xq tg iter fi) (hg:DG X tg ix g) (hb:DB X xq body tb)
  (hp:PassesOwn (model X.prog X.w) X.A X.env X.xe:=by exact PassesOwn.never) (hs:∀ x,foldedSetIterable iter X.env x=pure x:=by intro _;rfl) :
  DS X xq (.For tg iter body [] pos) (fun ρ=>(fi ρ).go ρ fun ds=>forD g tb ds ρ) :=
 DS.of (ps_for hp hc hi.out hg.out hb.out hs) fun B F ρ σ H T R q=>⟨B,F,ρ,R,Res.all_mono (u0y q.out) (fun ds q J F0 H0 s0 fd=>by
  have R0:=R.step s0
  obtain ⟨C,hC⟩:∃ C:Hp×Hp,C=(F0,B.2):=⟨_,rfl⟩
  refine ⟨fun i m σ' H'=>m=ds.length - i∧i≤ds.length∧∃ ρ' F',Rel X.K C ρ' σ' F' H'∧OkS X.K xq C T (forD g tb (ds.drop i) ρ'),
   ⟨ds.length,rfl,Nat.zero_le _,ρ,F0,hC ▸ R0.rebase,hC ▸ OkS.rebase R0.st ⟨q⟩⟩,?_⟩
  rintro i m σ' H' ⟨rfl,hi,ρ',F',R',q'⟩
  have e0:Same F0 F':=by have:=R'.st.ff;rw [hC] at this;exact this
  by_cases hlt:i<ds.length
  ·right
   refine ⟨fd.go i H' (e0.trans R'.fh) hlt,fun σ2 H2=>i+1≤ds.length∧∃ ρ2 F2,Rel X.K C ρ2 σ2 F2 H2∧OkS X.K xq C T (forD g tb (ds.drop (i+1)) ρ2),
    fun σ2 H2 p=>⟨ds.length - (i+1),by omega,rfl,p.1,p.2⟩,fun x H2 y=>?_⟩
   have hd:ds[i]?=some ds[i]:=by simp [hlt]
   obtain ⟨F2,s2,p2⟩:=fd.yld i F' H' x H2 _ e0 R'.fh hd y
   have eqn:ds.drop i=ds[i]::ds.drop (i+1):=by rw [List.drop_eq_getElem_cons hlt]
   rw [eqn] at q'
   have q2:=u0y q'.out
   refine ⟨C,F2,ρ',_,R'.step s2,p2,?_⟩
   generalize g ds[i] ρ'=r at q2
   cases r with
   | err x=>exact q2
   | bad=>exact q2
   | ok ρ1 =>
    intro σ3 R3 l3 k3
    refine ⟨C,F2,ρ1,R3,⟨?_⟩⟩
    have q3:(match tb ρ1 with | .nx ρ2=>forD g tb (ds.drop (i+1)) ρ2 | .ct ρ2=>forD g tb (ds.drop (i+1)) ρ2 | .bk ρ2=>.nx ρ2 | o=>o).all _ _ _ _ _:=q2
    generalize tb ρ1=o at q3
    cases o with
    | nx ρ2=>exact fun σ4 F4 H4 R4=>⟨hlt,ρ2,F4,R4,⟨q3⟩⟩
    | ct ρ2=>exact fun σ4 F4 H4 R4=>⟨hlt,ρ2,F4,R4,⟨q3⟩⟩
    | bk ρ2=>exact q3
    | rt d=>exact q3
    | er x r=>exact q3
    | bad=>exact q3
  ·left
   have e:i=ds.length:=by omega
   subst e
   rw [List.drop_length] at q'
   exact ⟨fd.stop _ H' (e0.trans R'.fh) (Nat.le_refl _),q'.out σ' F' H' R'⟩) fun x q=>errOf q⟩
end
section
variable {X:Cx}
theorem Inv.lstR {pins:LO}{σ:St}{H:Hp}{s:Shared}{l:Addr}{xs:List V} (I:Inv X pins σ H s) (h:Rd H l (.lst xs)) :
  xs.length≤sizeLine∧∃ (its:List Value) (n:Nat),Vals xs its∧xs.length=its.length∧s.heap.get? l=some { cls:=.type "list",data:=.seq its.toArray n }:=by
 obtain ⟨z,its,n,r,e⟩:=h.ok I.hok
 exact ⟨z,its,n,r,r.length,e⟩
def rCatR:R2:=fun x y H Q=>∃ l b xs zs,x=.ref l∧y=.ref b∧Rd H l (.lst xs)∧Rd H b (.lst zs)∧xs.length+zs.length≤sizeLine∧∀ p,H p=none→Q (.ref p) (upd H p (.lst (xs++zs)))
theorem v1p:OpR X (binaryOp .Add) rCatR:=by
 intro pins s σ H x y v u Q I rx ry h
 obtain ⟨l,b,xs,zs,rfl,rfl,hH,hB,hz,q⟩:=h
 cases rx
 cases ry
 obtain ⟨z,its,n,r,hl,e⟩:=I.lstR hH
 obtain ⟨z2,its2,n2,r2,hl2,e2⟩:=I.lstR hB
 refine PySem.P.add_list e e2 ?_ (by rw [List.size_toArray,List.size_toArray,← hl,← hl2];exact hz)
 rw [show its.toArray++its2.toArray=(its++its2).toArray by simp]
 exact ⟨.ref _,_,I.lnew (t':=s.toks) (r.append r2) (by rw [List.length_append];exact hz),rfl,q _ I.fresh⟩
noncomputable def gd {α:Type} (c:Prop) [Decidable c] (r:Res α):Res α:=if c then r else .bad
theorem u2C {α:Type}{c:Prop} [Decidable c] {r:Res α}{P:α→Prop}{E:D→Prop} (h:(gd c r).all P E):c∧r.all P E:=by
 unfold gd at h
 by_cases q:c
 ·rw [if_pos q] at h;exact ⟨q,h⟩
 ·rw [if_neg q] at h;exact h.elim
@[simp] theorem u0S {α:Type}{c:Prop} [Decidable c] {r:Res α} (h:c):gd c r=r:=if_pos h
noncomputable def dAdd:D→D→Res D
 | .int i,.int j=>.ok (.int (i+j))
 | .str x,.str y=>gd (x.length+y.length≤sizeLine) (.ok (.str (x++y)))
 | .lst xs,.lst ys=>gd (xs.length+ys.length≤sizeLine) (.ok (.lst (xs++ys)))
 | _,_=>.bad
theorem u5k (x y:Str):(x++y).length=x.length+y.length:=by
 show (x.cps++y.cps).size=_
 rw [Array.size_append];rfl
theorem u1P:OpR X (binaryOp .Add) (rD X.K dAdd):=by
 intro pins s σ H x y v u Q I rx ry ⟨F,dx,dy,fh,px,py,q⟩
 cases px with
 | int i =>
  cases py with
  | int j=>exact op_add pins s σ H _ _ v u Q I rx ry ⟨i,j,rfl,rfl,q _ F H (Stp.refl fh) (.int _)⟩
  | _=>exact q.elim
 | str hx =>
  cases py with
  | str hy =>
   obtain ⟨hz,q⟩:=u2C q
   exact v0u pins s σ H _ _ v u Q I rx ry ⟨_,_,rfl,rfl,hz,q _ F H (Stp.refl fh) (.str (by rw [u5k];exact hz))⟩
  | _=>exact q.elim
 | lst hx rx' =>
  cases py with
  | lst hy ry' =>
   obtain ⟨hz,q⟩:=u2C q
   exact v1p pins s σ H _ _ v u Q I rx ry ⟨_,_,_,_,rfl,rfl,hx.same fh,hy.same fh,by rw [rx'.length,ry'.length];exact hz,fun p n =>
    q _ _ _ (Stp.new fh n) (.lst (.inl u0g) ((rx'.append ry').same (Stp.new fh n).ff))⟩
  | _=>exact q.elim
 | _=>exact q.elim
noncomputable def dI (C:Int→Int→Prop) [∀ i j,Decidable (C i j)] (g:Int→Int→D):D→D→Res D
 | .int i,.int j=>gd (C i j) (.ok (g i j))
 | _,_=>.bad
theorem v3r {f:Value→Value→Sem Value}{C:Int→Int→Prop} [∀ i j,Decidable (C i j)] {g:Int→Int→V}{g':Int→Int→D} (h:OpR X f (rI C g)) (hg:∀ F i j,Rp X.K F (g i j) (g' i j)):OpR X f (rD X.K (dI C g')):=by
 intro pins s σ H x y v u Q I rx ry ⟨F,dx,dy,fh,px,py,q⟩
 cases px with
 | int i =>
  cases py with
  | int j =>
   obtain ⟨hz,q⟩:=u2C q
   exact h pins s σ H _ _ v u Q I rx ry ⟨i,j,rfl,rfl,hz,q _ F H (Stp.refl fh) (hg F i j)⟩
  | _=>exact q.elim
 | _=>exact q.elim
noncomputable def dI0 (g:Int→Int→D):D→D→Res D
 | .int i,.int j=>.ok (g i j)
 | _,_=>.bad
theorem u7i {f:Value→Value→Sem Value}{g:Int→Int→V}{g':Int→Int→D} (h:OpR X f (rI0 g)) (hg:∀ F i j,Rp X.K F (g i j) (g' i j)):OpR X f (rD X.K (dI0 g')):=by
 intro pins s σ H x y v u Q I rx ry ⟨F,dx,dy,fh,px,py,q⟩
 cases px with
 | int i =>
  cases py with
  | int j=>exact h pins s σ H _ _ v u Q I rx ry ⟨i,j,rfl,rfl,q _ F H (Stp.refl fh) (hg F i j)⟩
  | _=>exact q.elim
 | _=>exact q.elim
noncomputable instance (i j:Int):Decidable (CMul i j):=by unfold CMul;infer_instance
noncomputable instance (i j:Int):Decidable (CDivB i j):=by unfold CDivB;infer_instance
noncomputable instance (i j:Int):Decidable (CPow i j):=by unfold CPow;infer_instance
noncomputable abbrev dSub:=dI0 fun i j=>.int (i - j)
noncomputable abbrev dMul:=dI CMul fun i j=>.int (i*j)
noncomputable abbrev dDiv:=dI CDivB fun i j=>.int (i / j)
noncomputable abbrev dMod:=dI (fun _ j=>0<j) fun i j=>.int (i%j)
noncomputable abbrev dPow:=dI CPow fun i j=>.int (i^j.toNat)
noncomputable abbrev dLt:=dI0 fun i j=>.bl (decide (i<j))
noncomputable abbrev dLe:=dI0 fun i j=>.bl (decide (i≤j))
noncomputable abbrev dGt:=dI0 fun i j=>.bl (decide (j<i))
noncomputable abbrev dGe:=dI0 fun i j=>.bl (decide (j≤i))
theorem v3q:OpR X (binaryOp .Sub) (rD X.K dSub):=u7i op_sub fun _ _ _=>.int _
theorem o_mul:OpR X (binaryOp .Mult) (rD X.K dMul):=v3r op_mul fun _ _ _=>.int _
theorem u8t:OpR X (binaryOp .FloorDiv) (rD X.K dDiv):=v3r v3m fun _ _ _=>.int _
theorem u1i:OpR X (binaryOp .Mod) (rD X.K dMod):=v3r op_mod fun _ _ _=>.int _
theorem o_pow:OpR X (binaryOp .Pow) (rD X.K dPow):=v3r op_pow fun _ _ _=>.int _
theorem o_lt:OpR X (compareOp .Lt) (rD X.K dLt):=u7i op_lt fun _ _ _=>.bl _
theorem o_le:OpR X (compareOp .LtE) (rD X.K dLe):=u7i op_le fun _ _ _=>.bl _
theorem o_gt:OpR X (compareOp .Gt) (rD X.K dGt):=u7i op_gt fun _ _ _=>.bl _
theorem o_ge:OpR X (compareOp .GtE) (rD X.K dGe):=u7i op_ge fun _ _ _=>.bl _
noncomputable def isN:D→Bool
 | .non=>true
 | _=>false
noncomputable def dIs:D→D→Res D
 | d,.non=>.ok (.bl (isN d))
 | _,_=>.bad
noncomputable def dIsNot:D→D→Res D
 | d,.non=>.ok (.bl (!isN d))
 | _,_=>.bad
theorem Rp.isN {K:W.Frag}{F:Hp}{v:V}{d:D} (h:Rp K F v d):decide (v=.non)=L2.isN d:=by
 cases h <;> first | rfl | exact decide_eq_false fun e=>nomatch e
theorem o_is:OpR X (compareOp .Is) (rD X.K dIs):=by
 intro pins s σ H x y v u Q I rx ry ⟨F,dx,dy,fh,px,py,q⟩
 cases py with
 | non =>
  have q':∀ v F' H',Stp F H F' H'→Rp X.K F' v (.bl (isN dx))→Q v H':=by cases dx <;> exact q
  exact op_isN pins s σ H _ _ v u Q I rx ry ⟨rfl,q' _ F H (Stp.refl fh) (by rw [px.isN];exact .bl _)⟩
 | _=>cases dx <;> exact q.elim
theorem v1t:OpR X (compareOp .IsNot) (rD X.K dIsNot):=by
 intro pins s σ H x y v u Q I rx ry ⟨F,dx,dy,fh,px,py,q⟩
 cases py with
 | non =>
  have q':∀ v F' H',Stp F H F' H'→Rp X.K F' v (.bl (!isN dx))→Q v H':=by cases dx <;> exact q
  exact op_notN pins s σ H _ _ v u Q I rx ry ⟨rfl,q' _ F H (Stp.refl fh) (by rw [px.isN];exact .bl _)⟩
 | _=>cases dx <;> exact q.elim
mutual
noncomputable def D.py:D→Option PyData
 | .non=>some .none
 | .bl b=>some (.bool b)
 | .int i=>some (.int i)
 | .str z=>some (.str z)
 | .lst ds=>(D.pys ds).map .list
 | .tup ds=>(D.pys ds).map .tuple
 | _=>none
noncomputable def D.pys:List D→Option (List PyData)
 | []=>some []
 | d::ds=>match D.py d,D.pys ds with
  | some a,some as=>some (a::as)
  | _,_=>none
end
mutual
theorem Rp.rd {K:W.Frag}{H:Hp}:∀ {v:V}{d:D}{a:PyData},Rp K H v d→d.py=some a→RdV K H v a
 | _,_,_,.non,e=>by simp only [D.py] at e;cases e;exact .non
 | _,_,_,.bl b,e=>by simp only [D.py] at e;cases e;exact .bl b
 | _,_,_,.int i,e=>by simp only [D.py] at e;cases e;exact .int i
 | _,_,_,.str _,e=>by simp only [D.py] at e;cases e;exact .str _
 | _,_,_,.ty _,e=>by simp only [D.py] at e;cases e
 | _,_,_,.lst (ds:=ds) hq hs,e=>by
  simp only [D.py] at e
  cases q:D.pys ds with
  | none=>rw [q] at e;cases e
  | some as=>rw [q] at e;cases e;exact .lst (.inl hq) (Rps.rd hs q)
 | _,_,_,.tup (ds:=ds) hq hs,e=>by
  simp only [D.py] at e
  cases q:D.pys ds with
  | none=>rw [q] at e;cases e
  | some as=>rw [q] at e;cases e;exact .tup hq (Rps.rd hs q)
 | _,_,_,.dK _ _,e=>by simp only [D.py] at e;cases e
 | _,_,_,.ins _ _,e=>by simp only [D.py] at e;cases e
 | _,_,_,.exc _ _ _,e=>by simp only [D.py] at e;cases e
 | _,_,_,.dn _ _,e=>by simp only [D.py] at e;cases e
theorem Rps.rd {K:W.Frag}{H:Hp}:∀ {vs:List V}{ds:List D}{as:List PyData},Rps K H vs ds→D.pys ds=some as→RdVs K H vs as
 | _,_,_,.nil,e=>by simp only [D.pys] at e;cases e;exact .nil
 | _,_,_,.cons (d:=d) (ds:=ds) h hs,e=>by
  simp only [D.pys] at e
  cases q:d.py with
  | none=>rw [q] at e;cases e
  | some a =>
   cases q2:D.pys ds with
   | none=>rw [q,q2] at e;cases e
   | some as=>rw [q,q2] at e;cases e;exact .cons (Rp.rd h q) (Rps.rd hs q2)
end
noncomputable def cmpD (d:D):Res PyData:=match d.py with
 | some a=>gd (SeqAt.shaped a=true) (.ok a)
 | none=>.bad
set_option tactic.hygienic true in
theorem u3K {d:D}{P:PyData→Prop}{E:D→Prop} (h:(cmpD d).all P E):∃ a,d.py=some a∧SeqAt.shaped a=true∧P a:=by
 unfold cmpD at h
 split at h
 ·rename_i a q;obtain ⟨hz,h⟩:=u2C h;exact ⟨a,q,hz,h⟩
 ·exact h.elim
noncomputable def dEq (x y:D):Res D:=(cmpD x).bind fun a=>(cmpD y).bind fun b=>.ok (.bl (PyData.eqv a b))
noncomputable def dNe (x y:D):Res D:=(cmpD x).bind fun a=>(cmpD y).bind fun b=>.ok (.bl (!PyData.eqv a b))
theorem o_eq (hu:X.A.units+64<cLine):OpR X (compareOp .Eq) (rD X.K dEq):=by
 intro pins s σ H x y v u Q I rx ry ⟨F,dx,dy,fh,px,py,q⟩
 obtain ⟨a,ea,sa,q⟩:=u3K (Res.all_bind.mp q)
 obtain ⟨b,eb,sb,q⟩:=u3K (Res.all_bind.mp q)
 exact op_eqD hu pins s σ H _ _ v u Q I rx ry ⟨a,b,(px.rd ea).same fh,(py.rd eb).same fh,sa,sb,q _ F H (Stp.refl fh) (.bl _)⟩
theorem o_ne (hu:X.A.units+64<cLine):OpR X (compareOp .NotEq) (rD X.K dNe):=by
 intro pins s σ H x y v u Q I rx ry ⟨F,dx,dy,fh,px,py,q⟩
 obtain ⟨a,ea,sa,q⟩:=u3K (Res.all_bind.mp q)
 obtain ⟨b,eb,sb,q⟩:=u3K (Res.all_bind.mp q)
 exact op_neD hu pins s σ H _ _ v u Q I rx ry ⟨a,b,(px.rd ea).same fh,(py.rd eb).same fh,sa,sb,q _ F H (Stp.refl fh) (.bl _)⟩
noncomputable def dIx:D→D→Res D
 | .lst ds,.int i=>match atI ds i with
  | some d=>.ok d
  | none=>.bad
 | .tup ds,.int i=>match atI ds i with
  | some d=>.ok d
  | none=>.bad
 | .str z,.int i=>match atI z.cps.toList i with
  | some c=>.ok (.str ⟨#[c]⟩)
  | none=>.bad
 | _,_=>.bad
theorem v4v {K:W.Frag}{F:Hp}{xs:List V}{ds:List D}{i:Int}{d:D} (r:Rps K F xs ds) (h:atI ds i=some d):∃ v,atI xs i=some v∧Rp K F v d:=by
 unfold atI at h ⊢
 rw [r.length]
 cases q:ixN ds.length i with
 | none=>rw [q] at h;cases h
 | some j=>rw [q] at h;exact r.get h
set_option tactic.hygienic true in
theorem x_ix:IxR X (rD X.K dIx):=by
 intro value slice pins s σ H x y v u Q I rx ry ⟨F,dx,dy,fh,px,py,q⟩ hsub
 cases py with
 | int i =>
  cases px with
  | lst hx rs =>
   rename_i ds
   cases e:atI ds i with
   | none=>simp only [dIx,e] at q;exact q.elim
   | some d =>
    simp only [dIx,e] at q
    obtain ⟨w,h1,h2⟩:=v4v rs e
    exact ix_list value slice pins s σ H _ _ v u Q I rx ry ⟨_,_,i,w,rfl,rfl,.inl (hx.same fh),h1,q _ F H (Stp.refl fh) h2⟩ hsub
  | tup hx rs =>
   rename_i ds
   cases e:atI ds i with
   | none=>simp only [dIx,e] at q;exact q.elim
   | some d =>
    simp only [dIx,e] at q
    obtain ⟨w,h1,h2⟩:=v4v rs e
    exact ix_tup value slice pins s σ H _ _ v u Q I rx ry ⟨_,_,i,w,rfl,rfl,fh.seqT hx,h1,q _ F H (Stp.refl fh) h2⟩ hsub
  | str hz =>
   rename_i z
   cases e:atI z.cps.toList i with
   | none=>simp only [dIx,e] at q;exact q.elim
   | some c =>
    simp only [dIx,e] at q
    exact ix_str value slice pins s σ H _ _ v u Q I rx ry ⟨_,i,c,rfl,rfl,hz,e,q _ F H (Stp.refl fh) (.str u4I)⟩ hsub
  | _=>exact q.elim
 | _=>cases px <;> exact q.elim
end
noncomputable def items:D→Res (List D)
 | .lst ds=>.ok ds
 | .tup ds=>.ok ds
 | .str z=>.ok (chars z)
 | _=>.bad
section
variable {X:Cx}{xq:XQ}{tg l:Expr}{fl:Rho→Res D}{fa:Rho→Res (List D)}{pos p:Pos}
theorem u0E (hl:DE X xq l fl):DI X xq tg l (fun ρ=>(fl ρ).bind items):=⟨fun pins s σ H R I z9=>un5 z9 fun B F ρ R' q=>by
 have q0:=Res.all_bind.mp q
 cases e:fl ρ with
 | bad=>rw [e] at q0;exact q0.elim
 | err x =>
  rw [e] at q0
  exact v1m hl.out pins s σ H R I ⟨B,F,ρ,R',by rw [e];exact q0⟩
 | ok d =>
  rw [e] at q0
  have go:∀ {T:VK},(∀ v F' H',Stp F H F' H'→Rp X.K F' v d→T v H')→liftE X.K xq fl σ H T:=fun k=>⟨B,F,ρ,R',by rw [e];exact k⟩
  cases d with
  | lst ds =>
   refine v1m hl.out pins s σ H R I (go fun v F' H' st p=>?_)
   cases p with
   | lst hq hs=>exact ⟨_,rfl,⟨_,.inl (hq.same st.fh)⟩,q0 _ F' H' st (Feed.list (.inl hq) hs)⟩
  | tup ds =>
   refine pi_tup hl.out pins s σ H R I (go fun v F' H' st p=>?_)
   cases p with
   | tup hq hs=>exact ⟨_,rfl,⟨_,st.fh.seqT hq⟩,q0 _ F' H' st (Feed.tup hq hs)⟩
  | str z =>
   refine pi_str hl.out pins s σ H R I (go fun v F' H' st p=>?_)
   cases p with
   | str hz=>exact ⟨z,rfl,q0 _ F' H' st (Feed.str z)⟩
  | _=>exact q0.elim⟩
noncomputable def rng1:List D→Res (List D)
 | [.int j]=>gd (-(2^62)≤j∧j<2^62) (.ok (intL 0 j.toNat))
 | _=>.bad
noncomputable def rng2:List D→Res (List D)
 | [.int i,.int j]=>gd (-(2^62)≤i∧i<2^62∧-(2^62)≤j∧j<2^62) (.ok (intL i (j - i).toNat))
 | _=>.bad
theorem rps1 {K:W.Frag}{F:Hp}{vs:List V}{d:D} (h:Rps K F vs [d]):∃ v,vs=[v]∧Rp K F v d:=by
 cases h with
 | cons h hs=>cases hs;exact ⟨_,rfl,h⟩
theorem rps2 {K:W.Frag}{F:Hp}{vs:List V}{d e:D} (h:Rps K F vs [d,e]):∃ v w,vs=[v,w]∧Rp K F v d∧Rp K F w e:=by
 cases h with
 | cons h hs=>obtain ⟨w,rfl,q⟩:=rps1 hs;exact ⟨_,w,rfl,h,q⟩
set_option tactic.hygienic true in
theorem u1p {a:Expr} (hm:X.mg "range"=none) (ha:DA X xq [a] fa) (hg:Gl X "range":=by rfl):DI X xq tg (.Call (.Name "range" p) [a] [] pos) (fun ρ=>(fa ρ).bind rng1) :=
 ⟨fun pins s σ H R I z9=>un5 z9 fun B F ρ R' q=>v1l hg hm ha.out (u0r (u0k ha.ns).1) pins s σ H R I (seqA R' q fun ds vs F1 H1 s1 R1 p1 q1=>by
  unfold rng1 at q1
  split at q1
  ·rename_i j
   obtain ⟨⟨h1,h2⟩,q2⟩:=u2C q1
   obtain ⟨v,rfl,pv⟩:=rps1 p1
   cases pv
   exact ⟨j,rfl,h1,h2,q2 _ F1 H1 s1 (Feed.rng 0 _)⟩
  ·exact q1.elim)⟩
set_option tactic.hygienic true in
theorem v2m {a b:Expr} (hm:X.mg "range"=none) (ha:DA X xq [a,b] fa) (hg:Gl X "range":=by rfl):DI X xq tg (.Call (.Name "range" p) [a,b] [] pos) (fun ρ=>(fa ρ).bind rng2) :=
 ⟨fun pins s σ H R I z9=>un5 z9 fun B F ρ R' q=>v1k hg hm ha.out (by rw [u0r (u0k ha.ns).1,u0r (u0k (u0k ha.ns).2).1];rfl) (u0r (u0k (u0k ha.ns).2).1) pins s σ H R I (seqA R' q fun ds vs F1 H1 s1 R1 p1 q1=>by
  unfold rng2 at q1
  split at q1
  ·rename_i i j
   obtain ⟨⟨h1,h2,h3,h4⟩,q2⟩:=u2C q1
   obtain ⟨v,w,rfl,pv,pw⟩:=rps2 p1
   cases pv
   cases pw
   exact ⟨i,j,rfl,⟨h1,h2,h3,h4⟩,q2 _ F1 H1 s1 (Feed.rng i _)⟩
  ·exact q1.elim)⟩
noncomputable def enumL (ds:List D):List D:=ds.zipIdx.map fun p=>.tup [.int (p.2:Nat),p.1]
theorem Feed.enum {K:W.Frag}{F:Hp}{a:Addr}{xs:List V}{ds:List D} (h:SqL K F a xs) (r:Rps K F xs ds):Feed K F (Ite K a) (enumL ds) where
 go i H e hi:=by
  have hi':i<xs.length:=by rw [r.length];simpa [enumL] using hi
  exact ⟨xs,xs[i],e.seq h,by simp [hi']⟩
 yld i F1 H x H' d e1 e2 hd y:=by
  obtain ⟨p,v,hp,rfl,rfl,y⟩:=y
  have hv:xs[i]?=some v:=y xs ((e1.trans e2).seq h)
  have hd2:∃ d0,ds[i]?=some d0∧d=.tup [.int (i:Nat),d0]:=by
   unfold enumL at hd
   rw [List.getElem?_map,List.getElem?_zipIdx] at hd
   cases q:ds[i]? with
   | none=>rw [q] at hd;cases hd
   | some d0=>rw [q] at hd;simp at hd;exact ⟨d0,rfl,hd.symm⟩
  obtain ⟨d0,q0,rfl⟩:=hd2
  obtain ⟨w,hw,pw⟩:=r.get q0
  rw [hv] at hw;cases hw
  have s:=Stp.new (o:=.tup [.int (i:Nat),v]) e2 hp
  exact ⟨_,s,.tup (.inl (.inl u0g)) (.cons (.int _) (.cons (pw.same (e1.trans s.ff)) .nil))⟩
 stop i H e hi:=⟨xs,e.seq h,by rw [r.length];simpa [enumL] using hi⟩
noncomputable def enum1:List D→Res (List D)
 | [.lst ds]=>.ok (enumL ds)
 | _=>.bad
theorem u6v {es:List Expr}{k:Nat}{tp:Pos}{a:Expr} (hm:X.mg "enumerate"=none) (ha:DA X xq [a] fa) (hg:Gl X "enumerate":=by rfl):DI X xq (.Tuple es k tp) (.Call (.Name "enumerate" p) [a] [] pos) (fun ρ=>(fa ρ).bind enum1) :=
 ⟨fun pins s σ H R I z9=>un5 z9 fun B F ρ R' q=>pi_enum hg hm ha.out (u0r (u0k ha.ns).1) pins s σ H R I (seqA R' q fun ds vs F1 H1 s1 R1 p1 q1=>by
  unfold enum1 at q1
  split at q1
  ·obtain ⟨v,rfl,pv⟩:=rps1 p1
   cases pv with
   | lst hq hs=>exact ⟨_,_,rfl,.inl (hq.same R1.fh),q1 _ F1 H1 s1 (Feed.enum (.inl hq) hs)⟩
  ·exact q1.elim)⟩
end
noncomputable def rhoC (k:Nat) (outs:List Nat) (ρ:Rho):Rho:=List.replicate k none++outs.map fun j=>(ρ[j]?).join
set_option tactic.hygienic true in
theorem getC {α:Type}{k:Nat}{outs:List Nat}{l:List (Option α)}{i:Nat}{x:α} (h:(List.replicate k none++outs.map fun j=>(l[j]?).join)[i]?=some (some x)):k≤i∧∃ j,outs[i - k]?=some j∧l[j]?=some (some x):=by
 rw [List.getElem?_append] at h
 split at h
 ·rename_i q
  rw [List.getElem?_replicate] at h
  split at h <;> simp at h
 ·rename_i q
  simp only [List.length_replicate] at h q
  refine ⟨by omega,?_⟩
  rw [List.getElem?_map] at h
  cases e:outs[i - k]? with
  | none=>rw [e] at h;cases h
  | some j =>
   rw [e] at h
   refine ⟨j,rfl,?_⟩
   simp only [Option.map_some,Option.some.injEq] at h
   cases e2:l[j]? with
   | none=>rw [e2] at h;cases h
   | some y=>rw [e2] at h;simpa using h
theorem atC {α:Type}{k:Nat}{outs:List Nat}{l:List (Option α)}{i j:Nat} (hi:k≤i) (h:outs[i - k]?=some j):(List.replicate k none++outs.map fun j=>(l[j]?).join)[i]?=some ((l[j]?).join):=by
 rw [List.getElem?_append_right (by simpa using hi),List.length_replicate,List.getElem?_map,h];rfl
theorem Rel.comp {K:W.Frag}{B:Hp×Hp}{ρ:Rho}{σ:St}{F H:Hp}{k:Nat}{outs:List Nat} (R:Rel K B ρ σ F H) (nd:outs.Nodup):Rel K B (rhoC k outs ρ) (stC k outs σ) F H where
 st:=R.st
 len:=by unfold stC rhoC;simp
 val i d e:=by
  obtain ⟨hi,j,h1,h2⟩:=getC e
  obtain ⟨v,q1,q2⟩:=R.val j d h2
  exact ⟨v,by unfold stC;rw [atC hi h1,q1];rfl,q2⟩
 own i o e:=by
  obtain ⟨hi,j,h1,h2⟩:=getC e
  obtain ⟨a,h,q1,q2⟩:=R.own j o h2
  exact ⟨a,h,by unfold stC;rw [atC hi h1,q1];rfl,q2⟩
 dis i i' o u a e e' x y:=by
  obtain ⟨hi,j,h1,h2⟩:=getC e
  obtain ⟨hi',j',h1',h2'⟩:=getC e'
  obtain ⟨_,jx,g1,g2⟩:=getC (l:=σ) x
  obtain ⟨_,jy,g1',g2'⟩:=getC (l:=σ) y
  rw [h1] at g1;cases g1
  rw [h1'] at g1';cases g1'
  have ej:=R.dis j j' o u a h2 h2' g2 g2'
  subst ej
  have:=(List.getElem?_inj (List.getElem?_eq_some_iff.mp h1).1 nd).mp (h1.trans h1'.symm)
  omega
noncomputable def compD (g:D→Rho→Res Rho) (fT:Rho→Res Bool) (fe:Rho→Res D) (ρ:Rho):List D→Res (List D)
 | []=>.ok []
 | d::ds=>(noE (g d ρ)).bind fun ρ1=>(noE (fT (frz ρ1))).bind fun b=>if b=true then (noE (fe ρ1)).bind fun y=>(compD g fT fe ρ ds).bind fun ys=>.ok (y::ys) else compD g fT fe ρ ds
def xqF:XQ:=fun _ _ _=>False
structure DF (X:Cx) (xq:XQ) (es:List Expr) (f:Rho→Res Bool):Prop where
 out:PIf X es (liftT X.K xq f)
theorem u6c {α:Type}{r:Res α}{P:α→Prop}{E E':D→Prop} (h:(noE r).all P E):r.all P E':=by
 cases r with
 | ok a=>exact h
 | err x=>exact h.elim
 | bad=>exact h.elim
section
variable {X:Cx}{xq:XQ}{tg iter elt c:Expr}{fA:Rho→Res Bool}{fe:Rho→Res D}{fi:Rho→Res (List D)}{g:D→Rho→Res Rho}{ifs:List Expr}{scope:Scope}{pos:Pos}{ix:List Nat}
theorem u1Z:DF X xq [] (fun _=>.ok true):=⟨fun pins s σ H Q I z9=>un5 z9 fun B F ρ R q=>pif_nil pins s σ H Q I (q H (Stp.refl R.fh))⟩
theorem u9z (h:DT X xq c fA):DF X xq [c] fA:=⟨pif_one h.out⟩
theorem u7G {K:W.Frag}{k:Nat}{outs:List Nat} (nd:outs.Nodup) (hix:∀ j∈ix,j<k) {σ:St}{H:Hp}{Q:VK} (h:liftN K xq (fun ρ=>(fi ρ).bind fun ds=>gd (ds.length≤sizeLine) ((compD g fA fe (rhoC k outs ρ) ds).bind fun ys=>.ok (.l ys))) σ H Q) :
  tComp k outs (liftI K xq fi) (liftG K ix g) (liftT K xqF fA) (liftE K xqF fe) σ H Q:=by
 obtain ⟨B,F,ρ,R,q⟩:=h
 exact
  ⟨B,F,ρ,R,Res.all_mono (Res.all_bind.mp q) (fun ds q1 J F0 H0 s0 fd=>by
   obtain ⟨hz,q1⟩:=u2C q1
   let T:List D→Prop:=fun ys=>∀ a h F' H',Stp F H F' H'→F' a=none→H a=none→H' a=some h→Ro K F' a h (.l ys)→Q (.ref a) H'
   have q2:(compD g fA fe (rhoC k outs ρ) ds).all T (ErrK K xq B ρ σ):=Res.all_mono (Res.all_bind.mp q1) (fun _ z=>z) fun _ z=>z
   clear q1
   refine ⟨fun i m ys H'=>m=ds.length - i∧i≤ds.length∧∃ F' es,Stp F H F' H'∧Same F0 F'∧Rps K F' ys es∧es.length≤i∧(compD g fA fe (rhoC k outs ρ) (ds.drop i)).all (fun r=>T (es++r)) (ErrK K xq B ρ σ),
    ⟨ds.length,rfl,Nat.zero_le _,F0,[],s0,Same.refl _,.nil,Nat.le_refl _,q2⟩,?_⟩
   rintro i m ys H' ⟨rfl,hi',F',es,st,e0,rs,hl,q3⟩
   refine ⟨by rw [rs.length];omega,?_⟩
   by_cases hlt:i<ds.length
   ·right
    refine ⟨fd.go i H' (e0.trans st.fh) hlt,fun ys' H2=>i+1≤ds.length∧∃ F2 es',Stp F H F2 H2∧Same F0 F2∧Rps K F2 ys' es'∧es'.length≤i+1∧(compD g fA fe (rhoC k outs ρ) (ds.drop (i+1))).all (fun r=>T (es'++r)) (ErrK K xq B ρ σ),
     fun ys' H2 p=>⟨ds.length - (i+1),by omega,rfl,p.1,p.2⟩,fun x H2 y=>?_⟩
    have hd:ds[i]?=some ds[i]:=by simp [hlt]
    obtain ⟨F2,s2,p2⟩:=fd.yld i F' H' x H2 _ e0 st.fh hd y
    rw [List.drop_eq_getElem_cons hlt] at q3
    have R2:Rel K B (rhoC k outs ρ) (stC k outs σ) F2 H2:=((R.step st).step s2).comp nd
    have q4:=Res.all_bind.mp (show ((noE (g ds[i] (rhoC k outs ρ))).bind _).all _ _ from q3)
    refine ⟨B,F2,_,_,R2,p2,u6c (Res.all_mono q4 (fun ρ1 q5 σ3 R3 l3 k3=>⟨?_,?_⟩) fun _ z=>z)⟩
    ·apply List.ext_getElem?
     intro j
     rw [List.getElem?_drop,k3 (k+j) fun z=>by have:=hix _ z;omega]
     unfold stC
     rw [List.getElem?_append_right (by simp),List.length_replicate,Nat.add_sub_cancel_left]
    ·refine ⟨B,F2,ρ1,R3,u6c (Res.all_mono (Res.all_bind.mp q5) (fun b q6 H3 s3=>?_) fun _ z=>z)⟩
     have R4:=R3.step s3
     cases b with
     | false=>exact ⟨hlt,F2,es,(st.trans s2).trans s3,e0.trans s2.ff,rs.same s2.ff,by omega,q6⟩
     | true =>
      refine ⟨B,F2,ρ1,R4,u6c (Res.all_mono (Res.all_bind.mp (show ((noE (fe ρ1)).bind _).all _ _ from q6)) (fun d q7 v F4 H4 s4 p4=>?_) fun _ z=>z)⟩
      refine ⟨hlt,F4,es++[d],((st.trans s2).trans s3).trans s4,(e0.trans s2.ff).trans s4.ff,((rs.same s2.ff).same s4.ff).append (.cons p4 .nil),by simp;omega,?_⟩
      exact Res.all_mono (Res.all_bind.mp q7) (fun r z=>by
       have z':T (es++d::r):=z
       simpa using z') fun _ z=>z
   ·left
    have e:i=ds.length:=by omega
    subst e
    rw [List.drop_length] at q3
    have q4:T es:=by simpa using (show T (es++[]) from q3)
    exact ⟨fd.stop _ H' (e0.trans st.fh) (Nat.le_refl _),fun p n=>q4 p _ F' _ (st.trans (Stp.only st.fh (u0h n))) (st.fh.free n) (st.hh.free n) u0g (.l rs)⟩) fun _ e=>e⟩
theorem u1f (own:List Str) (outs:List Nat) (hc:X.calm=true) (ok:CompOk X.env.scope X.N own outs scope) (hi:DI X xq tg iter fi) (hg:∀ {cl C s H fp},DG (cxC X own outs scope cl C s H fp) tg ix g) (hf:∀ {cl C s H fp},DF (cxC X own outs scope cl C s H fp) xqF ifs fA) (he:∀ {cl C s H fp},DE (cxC X own outs scope cl C s H fp) xqF elt fe)
  (nd:outs.Nodup:=by decide) (hix:∀ j∈ix,j<own.length:=by decide) (hs:∀ x,foldedSetIterable iter X.env x=pure x:=by intro _;rfl) :
  DN X xq (.ListComp elt [⟨tg,iter,ifs,0⟩] scope pos) (fun ρ=>(fi ρ).bind fun ds=>gd (ds.length≤sizeLine) ((compD g fA fe (rhoC own.length outs ρ) ds).bind fun ys=>.ok (.l ys))) :=
 ⟨fun pins s σ H Q I h=>pe_comp own outs hc ok hi.out (g:=liftG X.K ix g) (ti:=liftT X.K xqF fA) (te:=liftE X.K xqF fe) (fun {cl C s H fp}=>hg.out) (fun {cl C s H fp}=>hf.out) (fun {cl C s H fp}=>he.out) hs pins s σ H Q I (u7G nd hix h)⟩
end
section
variable {X:Cx}{xq:XQ}{a b e o:Expr}{es:List Expr}{fe:Rho→Res D}{fs:Rho→Res (List D)}{x:Str}{p pos pos' apos cpos:Pos}
theorem d_B {id:String}{g:FD} (hc:CallR X (.builtin id) (rDs X.K g)) (hm:X.mg x=none) (hv:bootBuiltins x=some (.builtin id)) (ha:DA X xq (e::es) fs) (hg:Gl X x:=by rfl) (hn:x≠"__name__":=by decide) (hdb:(x==("__debug__":Str))=false:=by decide) :
  DE X xq (.Call (.Name x p) (e::es) [] pos) (fun ρ=>(fs ρ).bind fun ds=>noE (g ds)) :=
 DE.of (pcB hc hg hm hv ha.out hn hdb ha.ns) fun B F ρ σ H Q R q=>seqA R q fun ds vs F1 H1 s1 R1 p1 q1=>⟨F1,ds,R1.fh,p1,doneN s1 q1⟩
theorem d_T {T:String}{g:FD} (hc:CallR X (.type T) (rDs X.K g)) (hm:X.mg x=none) (hv:bootBuiltins x=some (.type T)) (ha:DA X xq (e::es) fs) (hg:Gl X x:=by rfl) (hn:x≠"__name__":=by decide) (hdb:(x==("__debug__":Str))=false:=by decide) :
  DE X xq (.Call (.Name x p) (e::es) [] pos) (fun ρ=>(fs ρ).bind fun ds=>noE (g ds)) :=
 DE.of (pcT hc hg hm hv ha.out hn hdb ha.ns) fun B F ρ σ H Q R q=>seqA R q fun ds vs F1 H1 s1 R1 p1 q1=>⟨F1,ds,R1.fh,p1,doneN s1 q1⟩
noncomputable def gLen:List D→Res D
 | [.str z]=>.ok (.int z.length)
 | [.lst ds]=>.ok (.int ds.length)
 | [.tup ds]=>.ok (.int ds.length)
 | _=>.bad
theorem u0T:CallR X (.builtin "len") (rDs X.K gLen):=by
 intro pins s σ H xs us Q I r ⟨F,ds,fh,ps,q⟩
 unfold gLen at q
 split at q
 ·obtain ⟨v,rfl,pv⟩:=rps1 ps
  cases pv with
  | str hz=>exact u6A pins s σ H _ us Q I r ⟨_,_,rfl,⟨hz,rfl⟩,q _ F H (Stp.refl fh) (.int _)⟩
 ·obtain ⟨v,rfl,pv⟩:=rps1 ps
  cases pv with
  | lst hq hs=>exact u6A pins s σ H _ us Q I r ⟨_,_,rfl,.inl ⟨_,.inl (hq.same fh),rfl⟩,q _ F H (Stp.refl fh) (by rw [hs.length];exact .int _)⟩
 ·obtain ⟨v,rfl,pv⟩:=rps1 ps
  cases pv with
  | tup hq hs=>exact u6A pins s σ H _ us Q I r ⟨_,_,rfl,.inr ⟨_,fh.seqT hq,rfl⟩,q _ F H (Stp.refl fh) (by rw [hs.length];exact .int _)⟩
 ·exact q.elim
noncomputable def tyN:D→Option String
 | .non=>some "NoneType"
 | .bl _=>some "bool"
 | .int _=>some "int"
 | .str _=>some "str"
 | .lst _=>some "list"
 | .tup _=>some "tuple"
 | .dct _=>some "dict"
 | _=>none
noncomputable def isT (t T:String):Option Bool:=if T∈["bool","int","str","list","tuple","dict"] then some (t==T||(t=="bool"&&T=="int")) else none
set_option tactic.hygienic true in
theorem v1N (K:W.Frag) {d:D}{t T:String}{b:Bool} (ht:tyN d=some t) (h:isT t T=some b):W.kitOne K (.type t) (.type T)=some b:=by
 unfold isT at h
 split at h
 ·rename_i hT
  simp only [List.mem_cons,List.not_mem_nil,or_false] at hT
  cases h
  cases d <;> simp only [tyN,Option.some.injEq,reduceCtorEq] at ht <;> subst ht <;> rcases hT with rfl | rfl | rfl | rfl | rfl | rfl <;> rfl
 ·cases h
theorem v3E {pins:LO}{σ:St}{H:Hp}{s:Shared}{A:Around}{E:VP}{Q:VP}{c:Value}{bb:Bool}{F:Hp}{v:V}{u:Value}{d:D}{t:String} (I:Inv X pins σ H s) (rx:RelV v u) (fh:Same F H) (pv:Rp X.K F v d) (ht:tyN d=some t)
  (e:W.kitOne X.K (.type t) c=some bb) (h:∀ tk,Q (.bool bb) { s with toks:=tk }):wpAny (model X.prog X.w) A (call (.builtin "isinstance") [u,c]) Q E s:=by
 cases pv with
 | non=>cases ht;exact u1I I rx .non e h
 | bl y=>cases ht;exact u1I I rx (.bl y) e h
 | int i=>cases ht;exact u1I I rx (.int i) e h
 | str hz=>cases ht;exact u1I I rx (.str _) e h
 | ty T=>cases ht
 | lst hq hs =>
  cases ht
  rcases hq with hq | ⟨ob,hq⟩
  ·exact u1I I rx (.lst (fh _ _ hq)) e h
  ·exact u1I I rx (.frz (fh _ _ hq)) e h
 | tup hq hs =>
  cases ht
  obtain ⟨its,r,p,hz⟩:=I.tuple (fh.seqT hq)
  obtain ⟨ob,h1,h2,_⟩:=p
  cases (show u=Value.ref _ from rx)
  exact W.kia_one W.kitx_tuple I.kIn ⟨ob,h1,h2⟩ e (fun z=>nomatch z) h
 | dK hq hs=>cases ht;exact u1I I rx (.dK (fh _ _ hq)) e h
 | ins hq hs=>cases ht
 | exc hq hr hs=>cases ht
 | dn hq hs=>cases ht
noncomputable def gIs:List D→Res D
 | [d,.ty T]=>match tyN d with
  | some t=>match isT t T with
   | some b=>.ok (.bl b)
   | none=>.bad
  | none=>.bad
 | _=>.bad
set_option tactic.hygienic true in
theorem v3X:CallR X (.builtin "isinstance") (rDs X.K gIs):=by
 intro pins s σ H xs us Q I r ⟨F,ds,fh,ps,q⟩
 unfold gIs at q
 split at q
 ·rename_i d T
  obtain ⟨v,w,rfl,pv,pw⟩:=rps2 ps
  cases pw
  cases ht:tyN d with
  | none=>rw [ht] at q;exact q.elim
  | some t =>
   rw [ht] at q
   cases hb:isT t T with
   | none=>simp only [hb] at q;exact q.elim
   | some bb =>
    simp only [hb] at q
    cases r with
    | cons r1 r2 =>
     cases r2 with
     | cons r2 r3 =>
      cases r3
      cases r2
      exact v3E I r1 fh pv ht (v1N X.K ht hb) fun tk=>⟨.bl bb,H,I.tok _,rfl,q _ F H (Stp.refl fh) (.bl bb)⟩
 ·exact q.elim
noncomputable def blsOf:List D→Option (List Bool)
 | []=>some []
 | .bl b::r=>(blsOf r).map (b::·)
 | _=>none
theorem u9F {K:W.Frag}{F:Hp}:∀ {xs:List V}{ds:List D}{bs:List Bool},Rps K F xs ds→blsOf ds=some bs→xs=bs.map V.bl
 | _,_,_,.nil,e=>by cases e;rfl
 | _,_,_,.cons (d:=d) (ds:=ds) h hs,e=>by
  cases d <;> simp only [blsOf,reduceCtorEq] at e
  cases h
  cases q:blsOf ds with
  | none=>rw [q] at e;cases e
  | some bs=>rw [q] at e;cases e;rw [u9F hs q];rfl
noncomputable def gAll:List D→Res D
 | [.lst ds]=>match blsOf ds with
  | some bs=>.ok (.bl (bs.all id))
  | none=>.bad
 | _=>.bad
set_option tactic.hygienic true in
theorem c_all (hc:X.calm=true):CallR X (.builtin "all") (rDs X.K gAll):=by
 intro pins s σ H xs us Q I r ⟨F,ds,fh,ps,q⟩
 unfold gAll at q
 split at q
 ·rename_i ds
  obtain ⟨v,rfl,pv⟩:=rps1 ps
  cases pv with
  | lst hq hs =>
   cases hb:blsOf ds with
   | none=>rw [hb] at q;exact q.elim
   | some bs =>
    rw [hb] at q
    exact v3W hc pins s σ H _ us Q I r ⟨_,bs,rfl,.inl (u9F hs hb ▸ hq.same fh),q _ F H (Stp.refl fh) (.bl _)⟩
 ·exact q.elim
noncomputable def gTuple:List D→Res D
 | [.lst ds]=>.ok (.tup ds)
 | [.tup ds]=>.ok (.tup ds)
 | _=>.bad
theorem u2r:CallR X (.type "tuple") (rDs X.K gTuple):=by
 intro pins s σ H xs us Q I r ⟨F,ds,fh,ps,q⟩
 unfold gTuple at q
 split at q
 ·obtain ⟨v,rfl,pv⟩:=rps1 ps
  cases pv with
  | lst hq hs=>exact u3s pins s σ H _ us Q I r ⟨_,_,rfl,.inl ⟨.inl (hq.same fh),fun l n=>q _ _ _ (Stp.new fh n) (.tup (.inl (.inl u0g)) (hs.same (Stp.new fh n).ff))⟩⟩
 ·obtain ⟨v,rfl,pv⟩:=rps1 ps
  cases pv with
  | tup hq hs=>exact u3s pins s σ H _ us Q I r ⟨_,_,rfl,.inr ⟨fh.seqT hq,q _ F H (Stp.refl fh) (.tup hq hs)⟩⟩
 ·exact q.elim
noncomputable def seqOf:List D→Res OD
 | [.lst ds]=>.ok (.l ds)
 | [.tup ds]=>.ok (.l ds)
 | _=>.bad
theorem u5a (hm:X.mg "list"=none) (ha:DA X xq [e] fs) (hg:Gl X "list":=by rfl):DN X xq (.Call (.Name "list" p) [e] [] pos) (fun ρ=>(fs ρ).bind seqOf) :=
 ⟨fun pins s σ H Q I z9=>un5 z9 fun B F ρ R q=>pcT (u7K) hg hm rfl ha.out (by decide) (by decide) ha.ns pins s σ H Q I (seqA R q fun ds vs F1 H1 s1 R1 p1 q1=>by
  unfold seqOf at q1
  split at q1
  ·obtain ⟨v,rfl,pv⟩:=rps1 p1
   cases pv with
   | lst hq hs=>exact ⟨_,_,rfl,.inl (.inl (hq.same R1.fh)),fun l n=>q1 l _ F1 _ (s1.trans (Stp.only R1.fh (u0h n))) (R1.fh.free n) (s1.hh.free n) u0g (.l hs)⟩
  ·obtain ⟨v,rfl,pv⟩:=rps1 p1
   cases pv with
   | tup hq hs=>exact ⟨_,_,rfl,.inr (R1.fh.seqT hq),fun l n=>q1 l _ F1 _ (s1.trans (Stp.only R1.fh (u0h n))) (R1.fh.free n) (s1.hh.free n) u0g (.l hs)⟩
  ·exact q1.elim)⟩
noncomputable def gMin:List D→Res D
 | [.int i,.int j]=>.ok (.int (if j<i then j else i))
 | _=>.bad
noncomputable def gMax:List D→Res D
 | [.int i,.int j]=>.ok (.int (if j > i then j else i))
 | _=>.bad
theorem c_min (hc:X.calm=true):CallR X (.builtin "min") (rDs X.K gMin):=by
 intro pins s σ H xs us Q I r ⟨F,ds,fh,ps,q⟩
 unfold gMin at q
 split at q
 ·obtain ⟨v,w,rfl,pv,pw⟩:=rps2 ps
  cases pv
  cases pw
  exact v2y hc pins s σ H _ us Q I r ⟨_,_,rfl,q _ F H (Stp.refl fh) (.int _)⟩
 ·exact q.elim
theorem c_max (hc:X.calm=true):CallR X (.builtin "max") (rDs X.K gMax):=by
 intro pins s σ H xs us Q I r ⟨F,ds,fh,ps,q⟩
 unfold gMax at q
 split at q
 ·obtain ⟨v,w,rfl,pv,pw⟩:=rps2 ps
  cases pv
  cases pw
  exact v2z hc pins s σ H _ us Q I r ⟨_,_,rfl,q _ F H (Stp.refl fh) (.int _)⟩
 ·exact q.elim
noncomputable def getL (ρ:Rho) (i:Nat):Res (List D):=match ρ[i]? with
 | some (some (.own (.l ds)))=>.ok ds
 | _=>.bad
set_option tactic.hygienic true in
theorem u8v {ρ:Rho}{i:Nat}{P:List D→Prop}{E:D→Prop} (h:(getL ρ i).all P E):∃ ds,ρ[i]?=some (some (.own (.l ds)))∧P ds:=by
 unfold getL at h
 split at h
 ·rename_i d e;exact ⟨d,e,h⟩
 ·exact h.elim
theorem u1L (i:Nat) (he:DE X xq e fe) (hN:X.N[i]?=some x:=by rfl) (hv:Vis X.env.scope x:=by first | exact Or.inl rfl | exact Or.inr (Or.inl rfl) | exact Or.inr (Or.inr rfl)) (hd:(x==("__debug__":Str))=false:=by decide) (hcd:(x==("__classdict__":Str))=false:=by decide)
  (hs:notStar e=true:=by rfl) (hbase:attributeBase (.Name x p) "append" X.env (eval (.Name x p) X.env)=eval (.Name x p) X.env:=by rfl) (hline:(apos.endLine==cpos.line)=true:=by rfl)
  (hsw:swapsWith (.Call (.Attribute (.Name x p) "append" apos) [e] [] cpos) none pos.line X.env=pure false:=by rfl) :
  DS X xq (.Expr (.Call (.Attribute (.Name x p) "append" apos) [e] [] cpos) pos) (fun ρ=>(getL ρ i).go ρ fun ds=>(fe ρ).go ρ fun d=>if ds.length<sizeLine then .nx (ρ.set i (some (.own (.l (ds++[d]))))) else .bad) :=
 DS.of (u2U (pbm PySem.F.plainAttrs_list PySem.F.slot_list_append PySem.F.type_list_append u7l (u2D hN hv hd hcd) (pac he.out u4G hs) (by rw [List.all_cons,hs];rfl) rfl hbase hline) hsw) fun B F ρ σ H T R q=>by
  obtain ⟨ds,e1,q1⟩:=u8v (u0y q.out)
  obtain ⟨l,h,h1,h2,h3,h4,h5⟩:=R.own i _ e1
  cases h5 with
  | l hs =>
   refine ⟨.ref l,h1,.inl ⟨rfl,_,.inl (.inl h4)⟩,B,F,ρ,R,Res.all_mono (u0y q1) (fun d q2 v F' H' st pv=>?_) fun _ z=>errOf z⟩
   by_cases hz:ds.length<sizeLine
   ·rw [if_pos hz] at q2
    have R':=R.step st
    refine ⟨l,_,v,rfl,rfl,st.hh _ _ h4,by rw [hs.length];exact hz,q2 σ F' _ (R'.write (e:=e1) h1 (.l ((hs.same st.ff).append (.cons pv .nil))))⟩
   ·rw [if_neg hz] at q2;exact q2.elim
def spF (K:W.Frag) (f:FD):Sp:=fun vs H Q _=>∃ F ds,Same F H∧Rps K F vs ds∧(noE (f ds)).all (fun d=>∀ v F' H',Stp F H F' H'→Rp K F' v d→Q v H') (fun _=>False)
theorem d_fn {P:Program}{w:World}{K:W.Frag}{mg:MG}{base:Heap}{k k':Nat}{ps:List Str}{f:FD} (h:Callee P w K mg base k x ps (spF K f)) (hr:Room k' X.A) (ha:DA X xq (e::es) fs) (hk:k≤k':=by decide) (hg:Gl X x:=by rfl)
  (eP:X.prog=P:=by rfl) (ew:X.w=w:=by rfl) (eK:X.K=K:=by rfl) (em:X.mg=mg:=by rfl) (eb:X.base=base:=by rfl) (hdb:(x==("__debug__":Str))=false:=by decide):DE X xq (.Call (.Name x p) (e::es) [] pos) (fun ρ=>(fs ρ).bind fun ds=>noE (f ds)) :=
 DE.of (pe_fn h hr hk ha.out hg eP ew eK em eb hdb ha.ns) fun B F ρ σ H Q R q=>seqA R q fun ds vs F1 H1 s1 R1 p1 q1=>by
  subst eK
  refine ⟨F1,ds,R1.fh,by rw [List.append_nil];exact p1,?_⟩
  cases e:f ds with
  | ok d=>rw [e] at q1;exact fun v F' H' st pv=>q1 v F' H' (s1.trans st) pv
  | err x=>rw [e] at q1;exact q1.elim
  | bad=>rw [e] at q1;exact q1.elim
noncomputable def outR:Out→Res D
 | .nx _=>.ok .non
 | .rt d=>.ok d
 | .er x _=>.err x
 | _=>.bad
noncomputable def startD (n:Nat) (ds:List D):Rho:=ds.map (fun d=>some (.val d))++List.replicate (n - ds.length) none
set_option tactic.hygienic true in
theorem Rps.begin {K:W.Frag}{F H:Hp}{N:List Str}{vs:List V}{ds:List D} (fh:Same F H) (r:Rps K F vs ds):Rel K (F,H) (startD N.length ds) (start N vs) F H where
 st:=Stp.refl fh
 len:=by unfold startD L2.start;simp [r.length]
 val i d e:=by
  unfold startD at e
  unfold L2.start
  rw [List.getElem?_append] at e
  split at e
  ·rename_i hi
   rw [List.getElem?_map] at e
   cases q:ds[i]? with
   | none=>rw [q] at e;cases e
   | some d' =>
    rw [q] at e
    cases e
    obtain ⟨v,hv,p⟩:=r.get q
    exact ⟨v,by rw [List.getElem?_append_left (by have:=(List.getElem?_eq_some_iff.mp hv).1;simpa using this),List.getElem?_map,hv];rfl,p⟩
  ·rw [List.getElem?_replicate] at e
   split at e <;> simp at e
 own i o e:=by
  unfold startD at e
  rw [List.getElem?_append] at e
  split at e
  ·rw [List.getElem?_map] at e
   cases q:ds[i]? with
   | none=>rw [q] at e;cases e
   | some d'=>rw [q] at e;cases e
  ·rw [List.getElem?_replicate] at e
   split at e <;> simp at e
 dis i j o u a e:=by
  exfalso
  unfold startD at e
  rw [List.getElem?_append] at e
  split at e
  ·rw [List.getElem?_map] at e
   cases q:ds[i]? with
   | none=>rw [q] at e;cases e
   | some d'=>rw [q] at e;cases e
  ·rw [List.getElem?_replicate] at e
   split at e <;> simp at e
end
section
variable {P:Program}{w:World}{K:W.Frag}{mg:MG}{base:Heap}
theorem Fun.okD {x qual:Str}{st:Stmt}{f:Addr}{fd:FuncData}{N ps:List Str}{k:Nat}{g:FD} (F:Fun K x qual st f fd) (S:FnScope N ps (defScope st)) (len:∀ ds d,g ds=.ok d→ds.length=ps.length)
  (hbody:∀ (cdv:Value) (A:Around) (outer:List Env) (s:Shared) (H:Hp) (E:XK),Room k (A.deeper (envOfC qual (defScope st) s.heap.objs.size f cdv)) →
   ∃ t,DB (cxOf CX0 P w K mg base N qual (defScope st) f cdv A outer s H E).nox xqF (defBody st) t∧∀ ds d,g ds=.ok d→outR (t (startD N.length ds))=.ok d):FnOk P w K mg base CX0 (k+1) f fd ps (spF K g) :=
 F.ok S (fun vs H Q E ⟨G,ds,fh,r,q⟩=>by
  rw [r.length]
  cases e:g ds with
  | ok d=>exact len ds d e
  | err x=>rw [e] at q;exact q.elim
  | bad=>rw [e] at q;exact q.elim) fun cdv A outer s H vs Q E hr ⟨G,ds,fh,r,q⟩=>by
  obtain ⟨t,h1,h2⟩:=hbody cdv A outer s H E hr
  refine ⟨_,h1.out,(G,H),G,_,r.begin fh,⟨?_⟩⟩
  cases e:g ds with
  | err x=>rw [e] at q;exact q.elim
  | bad=>rw [e] at q;exact q.elim
  | ok d =>
   rw [e] at q
   have z:=h2 ds d e
   generalize t (startD N.length ds)=o at z
   cases o with
   | nx ρ=>cases z;exact fun σ F' H' R=>q .non F' H' R.st .non
   | rt d'=>cases z;exact fun v F' H' st pv=>q v F' H' st pv
   | bk ρ=>cases z
   | ct ρ=>cases z
   | er x ρ=>cases z
   | bad=>cases z
end
section
variable {M:Model}{A:Around}{E:VP}{s:Shared}
theorem v2i {base:Heap}{env:Env}{outer:List Env}{L e:Addr}{oe:Obj}{vs:Array Value}{head:Value}{nx:Bool}{Q:Unit→Shared→Prop} (c1:A.frames=some (env::outer)) (c2:s.heap.FunFrames base (env::outer)) (c3:env.frame=some L)
  (c4:s.heap.get? e=some oe) (c5:oe.data=.fields vs) (c6:1<vs.size) (c7:e∉frs (env::outer))
  (k:∀ h' oT ts,(∀ b o,b∉frs (env::outer)→b≠e→s.heap.get? b=some o→h'.get? b=some o)→(∀ b o,b≠e→s.heap.get? b=some o→∃ sl,h'.get? b=some { o with slots:=sl }) →
   h'.get? e=some (oe.mapFields (·.setIfInBounds 1 (.ref s.heap.objs.size)))→h'.get? s.heap.objs.size=some oT→oT.data=.fields ts→ts[3]?=some (rawInt L)→Q () { s with heap:=h' }) :
  wpAny M A (do setField (.ref e) 1 (← EntryCells.newEntry head (← frameOf env) .none (rawInt L) .none (← entryPlaceOf L nx))) Q E s:=by
 refine wpAny_bind (wpAny_frameOf_fun c1 c2 c3 fun g hg=>?_)
 refine wpAny_bind (wpAny_entryPlaceOf fun pl hp=>?_)
 unfold EntryCells.newEntry newFields
 refine wpAny_bind (wpAny_newObj_type ?_ (hp.sizeOk5 _ _ _ _ _))
 obtain ⟨g1,g2,g3⟩:=hg
 have ge:g.get? e=some oe:=(g2 e c7).trans c4
 have lt:e<g.objs.size:=Heap.lt_size ge
 generalize hnt:({ cls:=.type "traceback",dict:=none,data:=.fields ([head,.ref L,.none,rawInt L,.none]++(if pl.isEmpty then List.replicate 6 Value.none else pl)).toArray }:Obj)=nt
 have ge2:(g.push nt).get? e=some oe:=Heap.get?_push_of_some nt ge
 refine wpAny_setField ge2 c5 c6 ?_
 have nf:nt.isFreed=false:=by subst hnt;rfl
 have at_T:(g.push nt).get? g.objs.size=some nt:=Heap.get?_push_size g nf
 have ne:e≠g.objs.size:=Nat.ne_of_lt lt
 rw [g1]
 refine k _ nt ([head,.ref L,.none,rawInt L,.none]++(if pl.isEmpty then List.replicate 6 Value.none else pl)).toArray (fun b o b1 b2 b3=>?_) (fun b o b2 b4=>?_) ?_ ?_ (by subst hnt;rfl) (by first | (simp;done) | (rcases hp with rfl | ⟨_,_,_,_,_,_,_,rfl⟩ <;> simp))
 ·rw [Heap.get?_update_other _ _ (Ne.symm b2)];exact Heap.get?_push_of_some nt ((g2 b b1).trans b3)
 ·obtain ⟨sl,q⟩:=g3 b o b4
  exact ⟨sl,by rw [Heap.get?_update_other _ _ (Ne.symm b2)];exact Heap.get?_push_of_some nt q⟩
 ·exact Heap.get?_update_self _ ge2 (Obj.isFreed_of_fields (Obj.data_mapFields c5 _))
 ·rw [← g1,Heap.get?_update_other _ _ ne];exact at_T
end
def Tb (n:Nat) (h:Heap) (H:Hp) (e:Addr) (fl:Value):Prop:=n≤e∧∃ oe vs,h.get? e=some oe∧oe.data=.fields vs∧1<vs.size ∧
 ((vs[1]?=some .none∧fl=.none)∨∃ T oT ts,vs[1]?=some (.ref T)∧T≠e∧n≤T∧H T=none∧h.get? T=some oT∧oT.data=.fields ts∧ts[3]?=some fl)
def Tr (n:Nat) (h:Heap) (H:Hp) (e:Addr) (fl:Value):Prop:=n≤e∧∃ oe vs,h.get? e=some oe∧oe.data=.fields vs∧1<vs.size ∧
 ∃ T oT ts,vs[1]?=some (.ref T)∧T≠e∧n≤T∧H T=none∧h.get? T=some oT∧oT.data=.fields ts∧ts[3]?=some fl
theorem Tr.tb {n:Nat}{h:Heap}{H:Hp}{e:Addr}{fl:Value} (x:Tr n h H e fl):Tb n h H e fl:=let ⟨a,oe,vs,b,c,d,f⟩:=x;⟨a,oe,vs,b,c,d,.inr f⟩
theorem Tb.mono {m n:Nat}{h:Heap}{H:Hp}{e:Addr}{fl:Value} (x:Tb n h H e fl) (q:m≤n):Tb m h H e fl:=by
 obtain ⟨a,oe,vs,b,c,d,f⟩:=x
 refine ⟨Nat.le_trans q a,oe,vs,b,c,d,?_⟩
 rcases f with f | ⟨T,oT,ts,f1,f2,f3,f4⟩
 ·exact .inl f
 ·exact .inr ⟨T,oT,ts,f1,f2,Nat.le_trans q f3,f4⟩
structure Old (X:Cx) (pins:LO) (n:Nat):Prop where
 s0:X.s₀.heap.objs.size≤n
 loc:X.env.locals<n
 cel:∀ x c,X.env.cells.lookup x=some c→c<n
 pin:∀ p∈X.pn++pins,p.1<n
theorem Inv.old {X:Cx}{pins:LO}{σ:St}{H:Hp}{s:Shared} (I:Inv X pins σ H s):Old X pins s.heap.objs.size :=
 ⟨I.sz,I.lt,fun x c e=>let ⟨_,q⟩:=I.cell x c e;q.lt,fun p hp=>Heap.lt_size (I.pin p hp).1⟩
section
variable {X:Cx}{pins:LO}{σ:St}{H:Hp}{s:Shared}{n:Nat}{e C:Addr}{d:Option Addr}{h':Heap}
theorem Inv.flown {ch:List Addr}{t':Nat} (I:Inv X pins σ H s) (hst:X.stack=X.env::X.outer∧X.env.frame=some X.env.locals) (o:Old X pins n) (hch:∀ b∈ch,n≤b) (hx:H e=some (XO C d e)) (hxe:ExAt h' e C d)
  (k1:∀ b u,b∉frs X.stack→b≠e→b∉ch→s.heap.get? b=some u→h'.get? b=some u) (k2:∀ b u,b≠e→b∉ch→s.heap.get? b=some u→∃ sl,h'.get? b=some { u with slots:=sl })
  (k3:∀ b∈ch,H b=none) (k4:∃ u,h'.get? e=some u):Inv X pins σ H { s with heap:=h',toks:=t' }:=by
 have hfr:frs X.stack=X.env.locals::X.fs:=by
  rw [hst.1];unfold frs;rw [List.filterMap_cons,hst.2];rfl
 have ne:∀ b,H b=none→b≠e:=fun b hb z=>by subst z;rw [hx] at hb;cases hb
 refine I.step (ch:=ch) (h':=h') (H':=H) (g':=s.gens) (d':=s.drawn) (t':=t') (fun b hb=>⟨.inr (Nat.le_trans o.s0 (hch b hb)),fun z=>?_,fun x c q z=>?_,fun p hp z=>?_⟩)
  (fun b u b1 b2 b3 b4 b5=>k1 b u (by rw [hfr];simp [b1,b2]) (ne b b5) b3 b4) (fun b u b1 b2 b3 b4 b5=>k2 b u (ne b b5) b3 b4) (fun _ _ _ _ z=>z) (fun b u b3 b4=>?_) (fun _ _ z=>z) (fun _ _ _ z=>z) (fun b ps z=>⟨#[],by simpa using z⟩) (fun m hm=>?_) ?_ I.bare
 ·have w1:=o.loc;have w2:=hch b hb;subst z;exact absurd (Nat.lt_of_lt_of_le w1 w2) (Nat.lt_irrefl _)
 ·have w1:=o.cel x c q;have w2:=hch b hb;subst z;exact absurd (Nat.lt_of_lt_of_le w1 w2) (Nat.lt_irrefl _)
 ·have w1:=o.pin p hp;have w2:=hch b hb;rw [z] at w1;exact absurd (Nat.lt_of_lt_of_le w1 w2) (Nat.lt_irrefl _)
 ·by_cases z:b=e
  ·subst z;exact k4
  ·obtain ⟨sl,q⟩:=k2 b u z b3 b4;exact ⟨_,q⟩
 ·obtain ⟨u,es,ep,hu,hd,rr⟩:=hm
  have l1:X.env.locals≠e:=ne _ I.free
  have l2:X.env.locals∉ch:=fun z=>absurd (Nat.lt_of_lt_of_le o.loc (hch _ z)) (Nat.lt_irrefl _)
  obtain ⟨sl,q⟩:=k2 _ u l1 l2 hu
  exact ⟨_,es,ep,q,hd,rr⟩
 ·intro a u q
  by_cases z:a=e
  ·subst z
   rw [hx] at q;cases q
   exact xo_ok hxe
  ·refine ObjOk.stay (I.hok a u q) (fun b v hb hv=>k1 b v (fun y=>?_) (fun y=>?_) (fun y=>?_) hv) (fun _ y=>y) (fun _ _ y=>y)
   ·rcases hb with rfl | hb
    ·rw [I.stkFree _ y] at q;cases q
    ·rw [I.stkFree _ y] at hb;cases hb
   ·rcases hb with rfl | hb
    ·exact z y
    ·subst y;rw [hx] at hb;unfold XO at hb;cases hb
   ·rcases hb with rfl | hb
    ·rw [k3 _ y] at q;cases q
    ·rw [k3 _ y] at hb;cases hb
end
theorem v3P {h h':Heap}{e C:Addr}{d:Option Addr}{oe:Obj}{v:Value} (x:ExAt h e C d) (q:h.get? e=some oe) (q':h'.get? e=some (oe.mapFields (·.setIfInBounds 1 v))):ExAt h' e C d:=by
 obtain ⟨t,f1,f2,f3,f4,f5,sl,z⟩:=x
 rw [q] at z
 cases z
 exact ⟨t,v,f2,f3,f4,f5,sl,q'⟩
theorem v2f {h h':Heap}{e C:Addr}{d:Option Addr}{oe:Obj} (x:ExAt h e C d) (q:h.get? e=some oe) (q':h'.get? e=some oe):ExAt h' e C d:=by
 obtain ⟨t,f1,f2,f3,f4,f5,sl,z⟩:=x
 rw [q] at z
 cases z
 exact ⟨t,f1,f2,f3,f4,f5,sl,q'⟩
theorem u5I {o:Obj}{vs:Array Value}{i:Nat}{v:Value} (h:o.data=.fields vs) (hi:i<vs.size):∃ ws:Array Value,(o.mapFields (·.setIfInBounds i v)).data=.fields ws∧ws.size=vs.size∧ws[i]?=some v∧∀ j,j≠i→ws[j]?=vs[j]?:=by
 refine ⟨vs.setIfInBounds i v,Obj.data_mapFields h _,by simp,by simp [hi],fun j hj=>?_⟩
 rw [Array.getElem?_setIfInBounds_ne (Ne.symm hj)]
section
variable {X:Cx}{pins:LO}{σ:St}{H:Hp}{s:Shared}{n:Nat}{e C:Addr}{d:Option Addr}{E:VP}{M:Model}
theorem rawne (L:Addr):((Value.none==rawInt L)=true)=False:=by simp [rawInt]
theorem u5H {fl w:Value}{T:Addr}{Q:Unit→Shared→Prop}{oe oT:Obj}{vs ts:Array Value} (I:Inv X pins σ H s) (hst:X.stack=X.env::X.outer∧X.env.frame=some X.env.locals) (o:Old X pins n) (hx:H e=some (XO C d e))
  (a0:n≤e) (a1:s.heap.get? e=some oe) (a2:oe.data=.fields vs) (a3:1<vs.size) (a4:vs[1]?=some (.ref T)) (a5:T≠e) (a6:n≤T) (a7:H T=none) (a8:s.heap.get? T=some oT) (a9:oT.data=.fields ts) (a10:ts[3]?=some fl)
  (k:∀ s',Inv X pins σ H s'→Tr n s'.heap H e w→s'.heap.get? e=some oe→Q () s'):wpAny M X.A (setField (.ref T) 3 w) Q E s:=by
 have hz:3<ts.size:=(Array.getElem?_eq_some_iff.mp a10).1
 refine wpAny_setField a8 a9 hz ?_
 obtain ⟨ws,w1,w2,w3,w4⟩:=u5I (v:=w) a9 hz
 have kT:=Heap.get?_update_self (Obj.mapFields (·.setIfInBounds 3 w)) a8 (Obj.isFreed_of_fields w1)
 have ko:∀ b u,b≠T→s.heap.get? b=some u→(s.heap.update T (Obj.mapFields (·.setIfInBounds 3 w))).get? b=some u:=fun b u hb q=>by
  rw [Heap.get?_update_other _ _ (Ne.symm hb)];exact q
 have ke:=ko e oe (Ne.symm a5) a1
 refine k _ (I.flown (ch:=[T]) (t':=s.toks) hst o (fun b hb=>by rw [List.mem_singleton.mp hb];exact a6) hx (v2f (v0J I.hok hx) a1 ke) (fun b u _ _ hb q=>ko b u (fun z=>hb (by simp [z])) q)
  (fun b u _ hb q=>⟨u.slots,ko b u (fun z=>hb (by simp [z])) q⟩) (fun b hb=>by rw [List.mem_singleton.mp hb];exact a7) ⟨_,ke⟩) ⟨a0,oe,vs,ke,a2,a3,T,_,ws,a4,a5,a6,a7,kT,w1,w3⟩ ke
theorem u8Y {head:Value}{nx:Bool}{Q:Unit→Shared→Prop}{oe:Obj}{vs:Array Value} (I:Inv X pins σ H s) (hst:X.stack=X.env::X.outer∧X.env.frame=some X.env.locals) (o:Old X pins n) (hx:H e=some (XO C d e))
  (a0:n≤e) (a1:s.heap.get? e=some oe) (a2:oe.data=.fields vs) (a3:1<vs.size) (k:∀ s',Inv X pins σ H s'→Tr n s'.heap H e (rawInt X.env.locals)→Q () s') :
  wpAny M X.A (do setField (.ref e) 1 (← EntryCells.newEntry head (← frameOf X.env) .none (rawInt X.env.locals) .none (← entryPlaceOf X.env.locals nx))) Q E s:=by
 have fr:X.A.frames=some (X.env::X.outer):=by rw [I.ok.frames,hst.1]
 have ff:s.heap.FunFrames X.base (X.env::X.outer):=hst.1 ▸ I.stack
 have nm:e∉frs (X.env::X.outer):=fun z=>by
  have:=I.stkFree e (by rw [hst.1];exact z)
  rw [hx] at this;cases this
 refine v2i fr ff hst.2 a1 a2 a3 nm fun h' oT ts k1 k2 k3 k4 k5 k6=>?_
 have lt:e<s.heap.objs.size:=Heap.lt_size a1
 have fz:=I.hok.fresh (Nat.le_refl s.heap.objs.size)
 obtain ⟨ws,w1,w2,w3,w4⟩:=u5I (v:=.ref s.heap.objs.size) a2 a3
 refine k _ (I.flown (ch:=[]) (t':=s.toks) hst o (fun b hb=>by cases hb) hx (v3P (v0J I.hok hx) a1 k3) (fun b u hb he _ q=>k1 b u (by rw [← hst.1];exact hb) he q) (fun b u he _ q=>k2 b u he q) (fun b hb=>by cases hb) ⟨_,k3⟩)
  ⟨a0,_,ws,k3,w1,by omega,s.heap.objs.size,oT,ts,w3,Nat.ne_of_gt lt,Nat.le_trans a0 (Nat.le_of_lt lt),fz,k4,k5,k6⟩
theorem u8u {fl:Value}{Q:Unit→Shared→Prop} (I:Inv X pins σ H s) (hst:X.stack=X.env::X.outer∧X.env.frame=some X.env.locals) (o:Old X pins n) (hx:H e=some (XO C d e)) (tb:Tb n s.heap H e fl) (hfl:fl=.none∨fl=rawInt X.env.locals)
  (k:∀ s',Inv X pins σ H s'→Tr n s'.heap H e (rawInt X.env.locals)→Q () s'):wpAny M X.A (noteFrame (.ref e) X.env) Q E s:=by
 obtain ⟨a0,oe,vs,a1,a2,a3,tb⟩:=tb
 unfold noteFrame
 simp only [hst.2]
 rcases tb with ⟨t1,t2⟩ | ⟨T,oT,ts,a4,a5,a6,a7,a8,a9,a10⟩
 ·refine wpAny_bind (wpAny_field a1 a2 t1 ?_)
  rw [if_neg (by decide)]
  exact u8Y I hst o hx a0 a1 a2 a3 k
 ·refine wpAny_bind (wpAny_field a1 a2 a4 ?_)
  rw [if_pos (show (Value.ref T != Value.none)=true by simp)]
  refine wpAny_bind (wpAny_field a8 a9 a10 ?_)
  rcases hfl with rfl | rfl
  ·rw [if_neg (by rw [rawne];exact id)]
   refine wpAny_bind (u5H I hst o hx a0 a1 a2 a3 a4 a5 a6 a7 a8 a9 a10 fun s' I' _ ke=>?_)
   exact u8Y I' hst o hx a0 ke a2 a3 k
  ·rw [if_pos (by simp)]
   exact wpAny_pure (k s I ⟨a0,oe,vs,a1,a2,a3,T,oT,ts,a4,a5,a6,a7,a8,a9,a10⟩)
theorem u1W {fl:Value}{f:Option Addr}{Q:Unit→Shared→Prop} (I:Inv X pins σ H s) (hst:X.stack=X.env::X.outer∧X.env.frame=some X.env.locals) (o:Old X pins n) (hx:H e=some (XO C d e)) (tr:Tr n s.heap H e fl)
  (k:∀ s',Inv X pins σ H s'→Tr n s'.heap H e (f.elim .none fun f=>rawInt f)→Q () s'):wpAny M X.A (setFlight (.ref e) f) Q E s:=by
 obtain ⟨a0,oe,vs,a1,a2,a3,T,oT,ts,a4,a5,a6,a7,a8,a9,a10⟩:=tr
 unfold setFlight
 refine wpAny_bind (wpAny_field a1 a2 a4 ?_)
 rw [if_pos (show (Value.ref T != Value.none)=true by simp)]
 exact u5H I hst o hx a0 a1 a2 a3 a4 a5 a6 a7 a8 a9 a10 fun s' I' t _=>k s' I' t
theorem u6e {fl:Value}{Q:Unit→Shared→Prop} (I:Inv X pins σ H s) (hst:X.stack=X.env::X.outer∧X.env.frame=some X.env.locals) (o:Old X pins n) (hx:H e=some (XO C d e)) (tb:Tb n s.heap H e fl) (hfl:fl=.none∨fl=rawInt X.env.locals)
  (k:∀ s',Inv X pins σ H s'→Tr n s'.heap H e .none→Q () s'):wpAny M X.A (leaving X.env (.ref e)) Q E s:=by
 unfold leaving
 exact wpAny_bind (u8u I hst o hx tb hfl fun s' I' tr=>u1W (f:=none) I' hst o hx tr k)
end
noncomputable def CXe (P:Program) (w:World):CXT:=fun outer H s E u s'=>∃ (e C:Addr) (d:Option Addr) (H':Hp),u=.ref e∧s'.os=s.os∧AllBare s'.gens∧Un (frs outer) [] H H' s.heap s'.heap∧HOk P w H' s'.heap∧H' e=some (XO C d e) ∧
 Tb s.heap.objs.size s'.heap H' e .none∧E (.ref e) none H'
def Fly (X:Cx) (xq:XQ) (u:Value) (s':Shared):Prop:=∃ (n:Nat) (e C:Addr) (d:Option Addr) (σ:St) (H:Hp) (fl:Value),Old X [] n∧u=.ref e∧Inv X [] σ H s'∧H e=some (XO C d e)∧Tb n s'.heap H e fl∧(fl=.none∨fl=rawInt X.env.locals)∧xq (.ref e) σ H
structure XqOk (X:Cx) (xq:XQ):Prop where
 st:X.stack=X.env::X.outer∧X.env.frame=some X.env.locals
 xe:∀ u s',Fly X xq u s'→X.xe u s'
 ps:PassesOwn (model X.prog X.w) X.A X.env X.xe
section
variable {X:Cx}{xq:XQ}{M:Model}
theorem v0D (hst:X.stack=X.env::X.outer∧X.env.frame=some X.env.locals):PassesOwn M X.A X.env (Fly X xq):=by
 rintro u s' ⟨n,e,C,d,σ,H,fl,o,rfl,I,hx,tb,hfl,q⟩
 refine u8u I hst o hx tb hfl fun s2 I2 tr=>?_
 have tr':=tr
 obtain ⟨a0,oe,vs,a1,a2,a3,T,oT,ts,a4,a5,a6,a7,a8,a9,a10⟩:=tr'
 unfold cameBackBy
 refine wpAny_bind (wpAny_field a1 a2 a4 ?_)
 rw [if_neg (show ¬ ((Value.ref T==Value.none)=true) by simp),hst.2]
 exact u1W (f:=some X.env.locals) I2 hst o hx tr fun s3 I3 tr3=>⟨n,e,C,d,σ,H,_,o,rfl,I3,hx,tr3.tb,.inr rfl,q⟩
theorem Old.unwish {E:VP}{pins:LO}{n:Nat} (o:Old (X.wish E) pins n):Old X pins n:=⟨o.s0,o.loc,o.cel,o.pin⟩
theorem Fly.unwish {E:VP}{u:Value}{s':Shared} (h:Fly (X.wish E) xq u s'):Fly X xq u s':=by
 obtain ⟨n,e,C,d,σ,H,fl,o,rfl,I,hx,tb,hfl,q⟩:=h
 exact ⟨n,e,C,d,σ,H,fl,o.unwish,rfl,I.unwish,hx,tb,hfl,q⟩
theorem u3h (hst:X.stack=X.env::X.outer∧X.env.frame=some X.env.locals):XqOk (X.wish (Fly X xq)) xq:=⟨hst,fun _ _ h=>h.unwish,v0D (X:=X) hst⟩
theorem Inv.bare0 {pins:LO}{σ:St}{H:Hp}{s:Shared} (I:Inv X pins σ H s):Inv X [] σ H s:=I.pins_of fun p hp=>absurd hp (by simp)
theorem Old.bare0 {pins:LO}{n:Nat} (o:Old X pins n):Old X [] n:=⟨o.s0,o.loc,o.cel,fun p hp=>o.pin p (by simp at hp;exact List.mem_append_left _ hp)⟩
theorem u9q {pins:LO}{σ:St}{H:Hp}{s s':Shared}{u:Value} (I:Inv X pins σ H s) (h:CXe X.prog X.w X.stack H s (fun u _ H'=>∃ a,u=.ref a∧xq (.ref a) σ H') u s'):Fly X xq u s':=by
 obtain ⟨e,C,d,H',rfl,os,bare,un,hok,hx,tb,a,ha,q⟩:=h
 cases ha
 have I':Inv X pins σ H' s':=I.call' (ch:=[]) os un hok bare fun b z=>absurd z (by simp)
 exact ⟨_,e,C,d,σ,H',.none,I.old.bare0,rfl,I'.bare0,hx,tb,.inl rfl,q⟩
end
def spX (K:W.Frag) (f:FD):Sp:=fun vs H Q E=>∃ F ds,Same F H∧Rps K F vs ds∧(f ds).all (fun d=>∀ v F' H',Stp F H F' H'→Rp K F' v d→Q v H') (fun x=>∀ a F' H',Stp F H F' H'→Rp K F' (.ref a) x→E (.ref a) none H')
def CalleeX (P:Program) (w:World) (K:W.Frag) (mg:MG) (base:Heap) (k:Nat) (x:Str) (ps:List Str) (f:FD):Prop :=
 ∃ a fd,FnOk P w K mg base (CXe P w) k a fd ps (spX K f)∧Binds K fd ps []∧W.keepIn K (.ref a)=true∧mg x=some (.ref a)
section
variable {X:Cx}{xq:XQ}{e:Expr}{es:List Expr}{fs:Rho→Res (List D)}{x:Str}{p pos:Pos}
theorem u3A {k:Nat}{f:Addr}{fd:FuncData}{ps:List Str}{sp:Sp}{ds:List Value}{dvs:List V}{pins:LO}{σ:St}{H:Hp}{s:Shared}{Q:VK}{us:List Value}{vs:List V} (hq:XqOk X xq) (F:FnOk X.prog X.w X.K X.mg X.base (CXe X.prog X.w) k f fd ps sp) (hr:Room k X.A)
  (hb:Binds X.K fd ps ds) (hd:Vals dvs ds) (I:Inv X pins σ H s) (r:Vals vs us) (h:sp (vs++dvs) H Q (fun u _ H'=>∃ a,u=.ref a∧xq (.ref a) σ H')):wpAny (model X.prog X.w) X.A (call (.ref f) us) (EP X pins σ Q) X.xe s:=by
 have r2:Vals (vs++dvs) (us++ds):=r.append hd
 have hl:(us++ds).length=ps.length:=by rw [← r2.length];exact F.len _ _ _ _ h
 refine wpAny_call (codeAny_mono (F.run X.A X.stack s H ⟨us,[]⟩ (us++ds) (vs++dvs) Q _ hr I.env0 (hb s us I.kIn hl) r2 h) fun r s' hc=>?_)
 cases r with
 | error e=>exact hq.xe _ _ (u9q I hc)
 | ok fl =>
  cases fl with
  | ret u=>exact I.after hc
  | next=>exact False.elim hc
  | brk=>exact False.elim hc
  | cont=>exact False.elim hc
theorem errR {K:W.Frag}{B:Hp×Hp}{ρ:Rho}{σ:St}{F H F' H':Hp}{d:D}{v:V} (R:Rel K B ρ σ F H) (s:Stp F H F' H') (p:Rp K F' v d) (q:ErrK K xq B ρ σ d):xq v σ H':=by
 obtain ⟨F1,e1,R1⟩:=(R.step s).frz
 exact q v F1 H' R1 (p.same e1)
theorem v0T {K:W.Frag}{B:Hp×Hp}{ρ:Rho}{σ:St}{F H F0 H0:Hp}{f:FD}{ds:List D}{vs:List V}{Q:VK} (R:Rel K B ρ σ F H) (pv:Rps K F vs ds) (s0:Stp F0 H0 F H) (q:(f ds).all (fun d=>∀ v F' H',Stp F0 H0 F' H'→Rp K F' v d→Q v H') (ErrK K xq B ρ σ)) :
  spX K f vs H Q (fun u _ H'=>∃ a,u=.ref a∧xq (.ref a) σ H') :=
 ⟨F,ds,R.fh,pv,Res.all_mono q (fun d k v F' H' st p=>k v F' H' (s0.trans st) p) fun x k a F' H' st p=>⟨a,rfl,errR R st p k⟩⟩
theorem u8B {P:Program}{w:World}{K:W.Frag}{mg:MG}{base:Heap}{k k':Nat}{ps:List Str}{f:FD} (hq:XqOk X xq) (h:CalleeX P w K mg base k x ps f) (hr:Room k' X.A) (ha:DA X xq (e::es) fs) (hk:k≤k':=by decide) (hg:Gl X x:=by rfl)
  (eP:X.prog=P:=by rfl) (ew:X.w=w:=by rfl) (eK:X.K=K:=by rfl) (em:X.mg=mg:=by rfl) (eb:X.base=base:=by rfl) (hdb:(x==("__debug__":Str))=false:=by decide):DE X xq (.Call (.Name x p) (e::es) [] pos) (fun ρ=>(fs ρ).bind f) :=
 ⟨fun pins s σ H Q I z9=>un5 z9 fun B F ρ R q=>by
  subst eP ew eK em eb
  obtain ⟨a,fd,G,hb,hkp,hm⟩:=h
  refine wpAny_Call_Name_kw (u2o I hg hm ?_ hdb)
  refine W.callWith_K (h₀:=X.base) I.ok.mod.kin hkp (thn (ha.out pos pins s σ H _ I (seqA R q fun ds vs F1 H1 s1 R1 p1 q1=>show spX X.K f (vs++[]) H1 Q (fun u _ H'=>∃ a,u=.ref a∧xq (.ref a) σ H') from by rw [List.append_nil];exact v0T R1 p1 s1 q1)) fun us s1 ⟨vs,H1,I1,r,q⟩=>⟨I1.kIn,?_⟩) (u0r (u0k ha.ns).1) (u1g (u0k ha.ns).2)
  exact u3A hq G (hr.mono hk) hb .nil I1 r q⟩
end
section
variable {P:Program}{w:World}{K:W.Frag}{mg:MG}{base:Heap}
abbrev xq0 (E:XK):XQ:=fun v _ H'=>∀ a,v=.ref a→E (.ref a) none H'
noncomputable abbrev cxR (P:Program) (w:World) (K:W.Frag) (mg:MG) (base:Heap) (N:List Str) (qual:Str) (scope:Scope) (f:Addr) (cdv:Value) (A:Around) (outer:List Env) (s:Shared) (H:Hp) (E:XK):Cx :=
 (cxOf (CXe P w) P w K mg base N qual scope f cdv A outer s H E).wish (Fly (cxOf (CXe P w) P w K mg base N qual scope f cdv A outer s H E) (xq0 E))
theorem PSs.wishTo {X:Cx}{E:VP}{sts:List Stmt}{t:TS} (h:PSs (X.wish E) sts t) (k:∀ u s',E u s'→X.xe u s'):PSs X sts t:=fun pins s σ H T I hw =>
 wpAny_mono (h pins s σ H T (I.wish _) hw) (fun _ _ q=>q.unwish) k
theorem Fun.okX {x qual:Str}{st:Stmt}{f:Addr}{fd:FuncData}{N ps:List Str}{k:Nat}{g:FD} (F:Fun K x qual st f fd) (S:FnScope N ps (defScope st)) (len:∀ ds,g ds≠.bad→ds.length=ps.length)
  (hbody:∀ (cdv:Value) (A:Around) (outer:List Env) (s:Shared) (H:Hp) (E:XK),Room k (A.deeper (envOfC qual (defScope st) s.heap.objs.size f cdv))→XqOk (cxR P w K mg base N qual (defScope st) f cdv A outer s H E) (xq0 E) →
   ∃ t,DB (cxR P w K mg base N qual (defScope st) f cdv A outer s H E) (xq0 E) (defBody st) t∧∀ ds,g ds≠.bad→outR (t (startD N.length ds))=g ds):FnOk P w K mg base (CXe P w) (k+1) f fd ps (spX K g):=by
 obtain ⟨oc,od,kV,doc,pm,an,cdv,ct,osl,rfl,lk,hcd⟩:=F.ex
 have nb:∀ vs H Q E,spX K g vs H Q E→∃ G ds,Same G H∧Rps K G vs ds∧g ds≠.bad∧(g ds).all (fun d=>∀ v F' H',Stp G H F' H'→Rp K F' v d→Q v H') (fun x=>∀ a F' H',Stp G H F' H'→Rp K F' (.ref a) x→E (.ref a) none H'):=fun vs H Q E ⟨G,ds,fh,r,q⟩ =>
  ⟨G,ds,fh,r,fun z=>by rw [z] at q;exact q,q⟩
 refine v3N lk hcd S (fun vs H Q E h=>?_) fun A outer s H vs Q E hr hsp=>?_
 ·obtain ⟨G,ds,fh,r,z,q⟩:=nb vs H Q E h
  rw [r.length];exact len ds z
 ·obtain ⟨G,ds,fh,r,z,q⟩:=nb vs H Q E hsp
  have hst:(cxOf (CXe P w) P w K mg base N qual (defScope st) f cdv A outer s H E).stack=(cxOf (CXe P w) P w K mg base N qual (defScope st) f cdv A outer s H E).env::(cxOf (CXe P w) P w K mg base N qual (defScope st) f cdv A outer s H E).outer∧(cxOf (CXe P w) P w K mg base N qual (defScope st) f cdv A outer s H E).env.frame=some (cxOf (CXe P w) P w K mg base N qual (defScope st) f cdv A outer s H E).env.locals:=⟨rfl,rfl⟩
  obtain ⟨t,h1,h2⟩:=hbody cdv A outer s H E hr (u3h hst)
  refine ⟨_,PSs.wishTo h1.out ?_,(G,H),G,_,r.begin fh,⟨?_⟩⟩
  ·rintro u s' ⟨n,e,C,d,σ,H',fl,o,rfl,I,hx,tb,hfl,q⟩
   refine u6e I hst o hx tb hfl fun s2 I2 tr=>?_
   exact ⟨e,C,d,H',rfl,I2.os,I2.bare,I2.base,I2.hok,hx,tr.tb.mono o.s0,q e rfl⟩
  ·have y:=h2 ds z
   rw [← y] at q
   generalize t (startD N.length ds)=o at q
   cases o with
   | nx ρ=>exact fun σ F' H' R=>q .non F' H' R.st .non
   | rt d'=>exact fun v F' H' st pv=>q v F' H' st pv
   | bk ρ=>exact q.elim
   | ct ρ=>exact q.elim
   | er x ρ=>exact fun v σ F' H' R pv a ea=>by subst ea;exact q a F' H' R.st pv
   | bad=>exact q.elim
end
def ExFr (h:Heap) (e C:Addr) (dx:Option Addr):Prop:=∃ t sl,h.get? e=some { cls:=.ref C,dict:=dx,data:=.fields #[.ref t,.none,.none,.none,.bool false,.none],slots:=sl }
theorem ExFr.at {h:Heap}{e C:Addr}{dx:Option Addr} (x:ExFr h e C dx):ExAt h e C dx:=let ⟨t,sl,q⟩:=x;⟨t,_,_,_,_,_,sl,q⟩
noncomputable def XF (C:Addr) (dx:Option Addr) (e:Addr) (n:Nat):HO:=.ext fun h=>ExFr h e C dx∧n≤e
section
variable {P:Program}{w:World}{H:Hp}{h:Heap}{e C dx:Addr}{d:Option Addr}{n:Nat}
theorem xf_ok (x:ExFr h e C d) (hn:n≤e):ObjOk P w H h e (XF C d e n) :=
 ⟨⟨x,hn⟩,let ⟨_,_,q⟩:=x;⟨_,q⟩,fun h1 h2 ⟨⟨t,sl,q⟩,z⟩ k=>⟨⟨t,sl,k _ q⟩,z⟩⟩
theorem xf_at (x:HOk P w H h) (q:H e=some (XF C d e n)):ExFr h e C d∧n≤e:=(show ObjOk P w H h e (XF C d e n) from x e _ q).1
theorem HOk.xo (x:HOk P w H h) (q:H e=some (XF C d e n)):HOk P w (upd H e (XO C d e)) h:=fun b u z=>by
 by_cases y:b=e
 ·subst y
  rw [u0g] at z;cases z
  exact xo_ok (xf_at x q).1.at
 ·rw [u0l y] at z
  exact ObjOk.stay (x b u z) (fun _ _ _ v=>v) (fun c v=>by
   rw [u0l (fun t=>by subst t;rw [q] at v;unfold XF at v;cases v)];exact v) (fun c xs v=>by
   rw [u0l (fun t=>by subst t;rw [q] at v;unfold XF at v;cases v)];exact v)
end
section
variable {X:Cx}{pins:LO}{σ:St}{H:Hp}{s:Shared}{a C dx fI:Addr}{fs:List (Str×V)}{f:Str}{v:V}{A:Around}{E:VP}{n:Nat}{d:Option Addr}
theorem Inv.xo (I:Inv X pins σ H s) (q:H a=some (XF C d a n)):Inv X pins σ (upd H a (XO C d a)) s:=by
 have hok:=I.hok.xo q
 have nn:∀ b,H b=none→upd H a (XO C d a) b=none:=fun b z=>by
  rw [u0l (fun t=>by subst t;rw [q] at z;cases z)];exact z
 have st:∀ b u,H b=some u→(∀ φ,u≠.ext φ)→upd H a (XO C d a) b=some u:=fun b u z y=>by
  rw [u0l (fun t=>by subst t;rw [q] at z;cases z;exact y _ rfl)];exact z
 exact I.un (h':=s.heap) (t':=s.toks) ⟨fun _ _ x _ _ _=>x,fun _ o x _ _ _=>⟨o.slots,x⟩,fun b _ _ z _=>nn b z,fun _ o x _=>⟨o,x⟩,fun b xs z=>st b _ z (fun _ y=>nomatch y),fun b o u z=>st b _ z (fun _ y=>nomatch y),fun b ps z=>⟨#[],by rw [Array.append_empty];exact st b _ z (fun _ y=>nomatch y)⟩⟩ hok
theorem v2e {prog:Program}{w:World}{K:W.Frag}{e:Addr}{name:Str}{v:Value}{Q:Unit→Shared→Prop} (X:K.In s.heap) (c:XCls K C fI) (he:ExFr s.heap e C none) (hn:W.findIn K (.ref C) name=some none)
  (h:∀ h1 h',ExFr h1 e C (some s.heap.objs.size)→(∀ b o,b≠e→(s.heap.push W.emptyDict).get? b=some o→h1.get? b=some o)→h'.Ns1 s.heap.objs.size (fun y=>if y=name then some v else none)→Heap.SameBut s.heap.objs.size h1 h'→Q () { s with heap:=h',toks:=s.toks+2 }) :
  wpAny (model prog w) A (setAttr (.ref e) name v) Q E s:=by
 obtain ⟨t,sl,he⟩:=he
 have I:W.InstAt s.heap e _ C none:=⟨he,rfl,rfl,True.intro⟩
 refine W.set_plain X I c.sa (exc_osa (s:={ s with toks:=s.toks+1 }) X c I hn fun b=>?_)
 obtain ⟨cd,hc,_,hd⟩:=c.ov
 have hlt:e<s.heap.objs.size:=Heap.lt_size he
 refine wpAny_bind (wpAny_pure (wpAny_bind (wpAny_bind (wpAny_loadPart he (wpAny_bind (W.Looks.here (s:={ s with toks:=s.toks+1 }) (W.looks_clsIn X hc) ?_))))))
 rw [hd]
 refine wpAny_bind (wpAny_alloc (wpAny_bind (wpAny_update (s:={ s with heap:=s.heap.push W.emptyDict,toks:=s.toks+1 }) (Heap.get?_push_of_some _ he) ?_)))
 have hne:e≠s.heap.objs.size:=Nat.ne_of_lt hlt
 have hd0:((s.heap.push W.emptyDict).update e fun o=>{ o with dict:=some s.heap.objs.size }).get? s.heap.objs.size=some W.emptyDict:=by
  rw [Heap.get?_update_other _ _ hne]
  exact Heap.get?_push_size _ rfl
 have he1:((s.heap.push W.emptyDict).update e fun o=>{ o with dict:=some s.heap.objs.size }).get? e=some { cls:=.ref C,dict:=some s.heap.objs.size,data:=.fields #[.ref t,.none,.none,.none,.bool false,.none],slots:=sl } :=
  Heap.get?_update_self _ (Heap.get?_push_of_some _ he) rfl
 have hk1:∀ b o,b≠e→(s.heap.push W.emptyDict).get? b=some o→((s.heap.push W.emptyDict).update e fun o=>{ o with dict:=some s.heap.objs.size }).get? b=some o:=fun b o hb q=>by
  rw [Heap.get?_update_other _ _ (Ne.symm hb)]
  exact q
 have hns:((s.heap.push W.emptyDict).update e fun o=>{ o with dict:=some s.heap.objs.size }).Ns1 s.heap.objs.size (fun _=>none) :=
  Heap.Ns1.of_empty ⟨_,#[],_,hd0,rfl,fun x hx=>absurd hx (by simp),fun _=>rfl⟩
 generalize (s.heap.push W.emptyDict).update e (fun o=>{ o with dict:=some s.heap.objs.size })=h1 at hd0 he1 hk1 hns ⊢
 refine wpAny_pure (a:=some s.heap.objs.size) (wpAny_bind (wpAny_pure (wpAny_bind ?_)))
 refine wpAny_nsSet1 (s:={ s with heap:=h1,toks:=s.toks+1 }) hns fun h' hn2 hs2=>?_
 obtain ⟨oD,esD,epD,hoD,hdD,hcD⟩:=hn2.count (PySem.Within.cons name v (ns:=[]) (fun y u=>absurd rfl u))
 refine wpAny_bind (wpAny_lookBehind hoD (by rw [hdD];exact pastItsLine_dict (Nat.le_trans hcD (by rw [List.length_singleton,sizeLine_eq];decide))) ?_)
 exact wpAny_pure (h h1 _ ⟨t,sl,he1⟩ hk1 hn2 hs2)
theorem v0K {y:V}{u:Value}{Q:Unit→Shared→Prop} (I:Inv X pins σ H s) (e:H a=some (XF C none a n)) (c:XCls X.K C fI) (na:NoAttr X.K C f) (ry:RelV y u)
  (h:∀ dx s',H dx=none→dx≠a→Inv X pins σ (upd (upd H dx (DXO dx [(f,y)])) a (XF C (some dx) a n)) s'→Q () s'):wpAny (model X.prog X.w) A (setAttr (.ref a) f u) Q E s:=by
 obtain ⟨hx,hn⟩:=xf_at I.hok e
 have hfr:H s.heap.objs.size=none:=I.hok.fresh (Nat.le_refl _)
 have hne:s.heap.objs.size≠a:=(u0t e hfr).symm
 refine v2e I.kIn c hx na fun h1 h' x1 k1 n2 sb=>h s.heap.objs.size _ hfr hne ?_
 have e0:(s.heap.push W.emptyDict).get? s.heap.objs.size=some W.emptyDict:=Heap.get?_push_size s.heap rfl
 have n0:(s.heap.push W.emptyDict).Ns1 s.heap.objs.size (fun _=>none):=Heap.Ns1.of_empty ⟨_,#[],_,e0,rfl,fun x hx=>absurd hx (by simp),fun _=>rfl⟩
 have I1:=I.laid (a:=s.heap.objs.size) (o:=DXO s.heap.objs.size []) (h':=s.heap.push W.emptyDict) (t':=s.toks) (fun b u q=>Heap.get?_push_of_some _ q) (Nat.le_refl _) (v4o n0 (fun _=>True.intro) (fun y hy=>absurd rfl hy))
 have ea:upd H s.heap.objs.size (DXO s.heap.objs.size []) a=some (XF C none a n):=by rw [u0l hne.symm];exact e
 have I2:=I1.write (x:=a) (e:=a) (o:=XF C (some s.heap.objs.size) a n) (h':=h1) (t':=s.toks) (by rw [ea];exact True.intro) (.inl rfl) (fun b q hb z=>k1 b q hb z) (let ⟨_,_,q⟩:=x1;⟨_,q⟩) (xf_ok x1 hn)
 have ed:upd (upd H s.heap.objs.size (DXO s.heap.objs.size [])) a (XF C (some s.heap.objs.size) a n) s.heap.objs.size=some (DXO s.heap.objs.size []):=by rw [u0l hne,u0g]
 have I3:=I2.write (x:=s.heap.objs.size) (e:=s.heap.objs.size) (o:=DXO s.heap.objs.size [(f,y)]) (h':=h') (t':=s.toks+2) (by rw [ed];exact True.intro) (.inl rfl) (fun b q hb z=>(sb.2 b hb).trans z) (let ⟨o,_,_,q,_⟩:=n2;⟨o,q⟩) (v4o n2 (fun g=>by
  show RelO (List.lookup g [(f,y)]) (if g=f then some u else none)
  by_cases q:g=f
  ·subst q;rw [if_pos rfl];simp only [List.lookup,beq_self_eq_true];exact ry
  ·rw [if_neg q];simp only [List.lookup,beq_eq_false_iff_ne.mpr q];exact True.intro) (fun g hg=>by
  by_cases q:g=f
  ·rw [q];exact List.mem_cons_self
  ·exact absurd (if_neg q) hg))
 have eq:upd (upd (upd H s.heap.objs.size (DXO s.heap.objs.size [])) a (XF C (some s.heap.objs.size) a n)) s.heap.objs.size (DXO s.heap.objs.size [(f,y)])=upd (upd H s.heap.objs.size (DXO s.heap.objs.size [(f,y)])) a (XF C (some s.heap.objs.size) a n):=by
  funext b
  unfold upd
  by_cases q1:b=s.heap.objs.size
  ·rw [if_pos q1,if_neg (by rw [q1];exact hne),if_pos q1]
  ·rw [if_neg q1]
   by_cases q2:b=a
   ·rw [if_pos q2,if_pos q2]
   ·rw [if_neg q2,if_neg q2,if_neg q1,if_neg q1]
 rw [eq] at I3
 exact I3
theorem Inv.xfmade (I:Inv X pins σ H s) (us:List Value):Inv X pins σ (upd H (s.heap.objs.size+1) (XF C none (s.heap.objs.size+1) s.heap.objs.size)) { s with heap:=(s.heap.push (tupO us)).push (excO C s.heap.objs.size none) }:=by
 have I1:=I.kept (t':=s.toks) (h':=s.heap.push (tupO us)) (fun b u q=>Heap.get?_push_of_some _ q)
 refine I1.laid (a:=s.heap.objs.size+1) (o:=XF C none (s.heap.objs.size+1) s.heap.objs.size) (t':=s.toks) (fun b u q=>Heap.get?_push_of_some _ q) (Nat.le_of_eq (Heap.size_push _ _)) ?_
 have:=Heap.get?_push_size (s.heap.push (tupO us)) (o:=excO C s.heap.objs.size none) rfl
 rw [Heap.size_push] at this
 exact xf_ok ⟨_,_,this⟩ (Nat.le_succ _)
end
section
variable {M:Model}{A:Around}{E:VP}{env:Env}{K:W.Frag}{C f:Addr}
theorem XCls.base (c:XCls K C f):∃ bm N nm q bs sn sub ab col dd k0 k1 k2 k3 k5,K.lookup C=some (excClassObj nm q C N bs bm true sn sub ab col dd k0 k1 k2 k3 k5 "ValueError.__new__")∧(Value.ref C::bm).contains (.type "BaseException")=true:=by
 obtain ⟨bm,N,nm,q,bs,sn,sub,ab,col,dd,k0,k1,k2,k3,k5,hK,ht⟩:=c.obj
 obtain ⟨cd,hc,ho,_⟩:=c.ov
 refine ⟨bm,N,nm,q,bs,sn,sub,ab,col,dd,k0,k1,k2,k3,k5,hK,?_⟩
 unfold W.clsIn at hc
 rw [hK] at hc
 cases hc
 exact u2w ho
theorem v0c {s:Shared}{x:Sem Value}{Q:Flow→Shared→Prop} (hh:A.handled=none)
  (h:wpAny M A x (fun v s₁=>∃ (e t C f:Addr) (dx:Option Addr) (sl:Array (Option Value)) (K:W.Frag),v=.ref e∧K.In s₁.heap∧XCls K C f ∧
   s₁.heap.get? e=some { cls:=.ref C,dict:=dx,data:=.fields #[.ref t,.none,.none,.none,.bool false,.none],slots:=sl }∧E (.ref e) s₁) E s):wpAny M A (raiseStmt env (some x) none) Q E s:=by
 unfold raiseStmt
 refine wpAny_bind (wpAny_mono h (fun v s₁ h₁=>?_) fun _ _ x=>x)
 obtain ⟨e,t,C,f,dx,sl,K,rfl,KI,c,he,hE⟩:=h₁
 obtain ⟨bm,N,nm,q,bs,sn,sub,ab,col,dd,k0,k1,k2,k3,k5,hK,hb⟩:=c.base
 have hC:=KI _ _ hK
 obtain ⟨hp,g,d,tk,os⟩:=s₁
 repeat (first | (with_reducible refine wpAny_loadPart_at he ?_) | (with_reducible refine wpAny_loadPart_at hC ?_) | ((with_reducible refine wpAny_isSubtype_exc hC ?_);rw [hb]) | wp_step)
 exact wpAny_raiseNew_none hh hE
end
def spXI (C:Addr) (fls:List Str):Sp:=fun vs H Q _=>∃ a args n,vs=.ref a::args∧args.length=fls.length∧H a=some (XF C none a n)∧∀ dx,H dx=none→dx≠a→Q .non (upd (upd H dx (DXO dx (fls.zip args))) a (XF C (some dx) a n))
section
variable {X:Cx}{e o value:Expr}{es:List Expr}{ta tv:TE}{f x:Str}{p pos pos' cpos:Pos}{C fI:Addr}{fd:FuncData}{ps fls:List Str}{k:Nat}
def sXF (K:W.Frag) (ta tv:TE) (f:Str):TS:=fun T σ H=>tv σ H fun y H1=>ta σ H1 fun x H2=>∃ a C fI n,x=.ref a∧XCls K C fI∧NoAttr K C f∧H2 a=some (XF C none a n)∧∀ dx,H2 dx=none→dx≠a→T.nx σ (upd (upd H2 dx (DXO dx [(f,y)])) a (XF C (some dx) a n))
theorem ps_xf (ha:PE X o ta) (hv:PE X value tv) (hs:swapsWith value (some (.Attribute o f pos')) pos.line X.env=pure false:=by rfl):PS X (.Assign [.Attribute o f pos'] value pos) (sXF X.K ta tv f):=by
 intro pins s σ H T I h
 refine plainObj_wpAny_Assign_Attribute (thn (hv pins s σ H _ I h) fun u s1 ⟨y,H1,I1,ry,q⟩=>thn (ha pins s1 σ H1 _ I1 q) fun ov s2 ⟨x,H2,I2,rx,a,C,fI,n,ex,c,na,ea,q2⟩=>?_) hs
 subst ex
 obtain rfl:ov=Value.ref a:=rx
 exact v0K I2 ea c na ry fun dx s3 h1 h2 I3=>⟨σ,_,I3,q2 dx h1 h2⟩
theorem run_xf {pins:LO}{σ:St}{H:Hp}{s:Shared}{Q:VP}{us:List Value}{vs:List V} (c:XCls X.K C fI) (F:FnOk X.prog X.w X.K X.mg X.base CX0 k fI fd ps (spXI C fls)) (hr:Room (k+1) X.A) (hb:Binds X.K fd ps [])
  (I:Inv X pins σ H s) (r:Vals vs us) (hz:vs.length≤1000) (hn:vs.length=fls.length)
  (h:∀ a dx s',H a=none→H dx=none→dx≠a→Inv X pins σ (upd (upd H dx (DXO dx (fls.zip vs))) a (XF C (some dx) a s.heap.objs.size)) s'→Q (.ref a) s'):wpAny (model X.prog X.w) X.A (call (.ref C) us) Q X.xe s:=by
 have h1:H (s.heap.objs.size+1)=none:=I.hok.fresh (Nat.le_succ _)
 have I2:=Inv.xfmade (C:=C) I us
 have r2:Vals (V.ref (s.heap.objs.size+1)::vs) (Value.ref (s.heap.objs.size+1)::us):=.cons rfl r
 have hq:spXI C fls (.ref (s.heap.objs.size+1)::vs) (upd H (s.heap.objs.size+1) (XF C none (s.heap.objs.size+1) s.heap.objs.size)) (fun v H2=>v=.non∧∃ dx,H dx=none∧dx≠s.heap.objs.size+1∧H2=upd (upd H dx (DXO dx (fls.zip vs))) (s.heap.objs.size+1) (XF C (some dx) (s.heap.objs.size+1) s.heap.objs.size)) E0:=by
  refine ⟨_,_,_,rfl,hn,u0g,fun dx d1 d2=>⟨rfl,dx,?_,d2,?_⟩⟩
  ·rw [u0l d2] at d1;exact d1
  ·funext b
   unfold upd
   by_cases q1:b=s.heap.objs.size+1
   ·rw [if_pos q1,if_pos q1]
   ·rw [if_neg q1,if_neg q1,if_neg q1]
 have hl:(Value.ref (s.heap.objs.size+1)::us++[]).length=ps.length:=by
  have e:=r2.length
  rw [F.len _ _ _ _ hq] at e
  rw [List.append_nil]
  exact e.symm
 refine wpAny_call ?_
 obtain ⟨hh,g,d,tt,os⟩:=s
 refine v3O (f:=fI) I.kIn c (by rw [← r.length,sizeLine_eq];omega) ?_
 refine codeAny_mono (F.run _ X.stack _ _ ⟨Value.ref (hh.objs.size+1)::us,[]⟩ (Value.ref (hh.objs.size+1)::us) _ _ E0 (hr.make C us []) (I2.env0.make C us []) (by have:=hb _ (Value.ref (hh.objs.size+1)::us) I2.kIn hl;rwa [List.append_nil] at this) r2 hq) fun r s' hq'=>?_
 cases r with
 | error e=>exact False.elim hq'
 | ok fl =>
  cases fl with
  | ret u =>
   obtain ⟨v,H',I3,rv,ev,dx,q1,q2,q3⟩:=I2.after hq'
   subst ev q3
   exact ⟨rv,h _ dx s' h1 q1 q2 I3⟩
  | next=>exact False.elim hq'
  | brk=>exact False.elim hq'
  | cont=>exact False.elim hq'
def XCalleeF (P:Program) (w:World) (K:W.Frag) (mg:MG) (base:Heap) (k:Nat) (x:Str) (C:Addr) (ps fls:List Str):Prop :=
 ∃ f fd,XCls K C f∧FnOk P w K mg base CX0 k f fd ps (spXI C fls)∧Binds K fd ps []∧mg x=some (.ref C)
theorem Rps.zip {K:W.Frag}{F:Hp}:∀ {vs:List V}{ds:List D} (fls:List Str),Rps K F vs ds→Rpf K F (fls.zip vs) (fls.zip ds)
 | _,_,[],_=>by simpa using Rpf.nil
 | _,_,_::_,.nil=>by simpa using Rpf.nil
 | _,_,f::fls,.cons h hs=>.cons h (hs.zip fls)
theorem u0L {xq:XQ}{fs:Rho→Res (List D)}{P:Program}{w:World}{K:W.Frag}{mg:MG}{base:Heap}{k':Nat} (hq:XqOk X xq) (hc:X.calm=true) (h:XCalleeF P w K mg base k x C ps fls) (hr:Room k' X.A) (ha:DA X xq (e::es) fs) (hk:k+1≤k':=by decide) (hg:Gl X x:=by rfl)
  (eP:X.prog=P:=by rfl) (ew:X.w=w:=by rfl) (eK:X.K=K:=by rfl) (em:X.mg=mg:=by rfl) (eb:X.base=base:=by rfl) (hdb:(x==("__debug__":Str))=false:=by decide) :
  DS X xq (.Raise (some (.Call (.Name x p) (e::es) [] cpos)) none pos) (fun ρ=>(fs ρ).go ρ fun ds=>if ds.length=fls.length∧ds.length≤1000 then .er (.exc C (fls.zip ds)) (frz ρ) else .bad):=by
 subst eP ew eK em eb
 obtain ⟨f,fd,c,F,hb,hm⟩:=h
 refine ⟨fun pins s σ H T I ⟨B,G,ρ,R,q⟩=>?_⟩
 rw [arm_exec_Raise]
 refine wpAny_bind (wpAny_standAt ?_)
 refine v0c (I.ok.hd hc) ?_
 refine wpAny_bind (m:=eval (.Call (.Name x p) (e::es) [] cpos) X.env) (wpAny_Call_Name_kw (u2o I hg hm ?_ hdb))
 refine W.callWith_K (h₀:=X.base) I.ok.mod.kin c.kp (thn (ha.out cpos pins s σ H (fun vs H1=>∃ G1 ds,Rel X.K B ρ σ G1 H1∧Rps X.K G1 vs ds∧ds.length=fls.length∧ds.length≤1000∧∀ v σ F H,Rel X.K B (frz ρ) σ F H→Rp X.K F v (.exc C (fls.zip ds))→xq v σ H) I ?_) fun us s1 ⟨vs,H1,I1,r,G1,ds,R1,p1,l1,l2,q1⟩=>⟨I1.kIn,?_⟩) (u0r (u0k ha.ns).1) (u1g (u0k ha.ns).2)
 ·refine ⟨B,G,ρ,R,Res.all_mono (u0y q.out) (fun ds z vs G1 H1 st p1=>?_) fun _ z=>errOf z⟩
  by_cases hz:ds.length=fls.length∧ds.length≤1000
  ·rw [if_pos hz] at z
   exact ⟨G1,ds,R.step st,p1,hz.1,hz.2,z⟩
  ·rw [if_neg hz] at z;exact z.elim
 ·refine run_xf c F (hr.mono hk) hb I1 r (by rw [p1.length];exact l2) (p1.length.trans l1) fun a dx s2 n1 n2 n3 I2=>wpAny_bind (wpAny_standAt (wpAny_pure ?_))
  have xa:=xf_at I2.hok u0g
  obtain ⟨⟨t,sl,z⟩,hn⟩:=xa
  refine ⟨a,t,C,f,some dx,sl,X.K,rfl,I2.kIn,c,z,hq.xe _ _ ?_⟩
  have I3:=I2.xo u0g
  rw [upd_upd] at I3
  refine ⟨_,a,C,some dx,σ,_,.none,I1.old.bare0,rfl,I3.bare0,u0g,⟨hn,_,_,z,rfl,by show 1<6;decide,.inl ⟨rfl,rfl⟩⟩,.inl rfl,?_⟩
  have s1:=Stp.new (o:=DXO dx (fls.zip vs)) R1.fh n2
  have n1':upd H1 dx (DXO dx (fls.zip vs)) a=none:=by rw [u0l (Ne.symm n3)];exact n1
  have s2:=s1.trans (Stp.new (o:=XO C (some dx) a) s1.fh n1')
  obtain ⟨G3,e3,R3⟩:=(R1.step s2).frz
  refine q1 _ σ G3 _ R3 (Rp.same e3 (.exc u0g (by rw [u0l n3];exact u0g) ((p1.zip fls).same s2.ff)))
end
def XBase (K:W.Frag) (C:Addr):Prop:=∃ bm N nm q bs sn sub ab col dd k0 k1 k2 k3 k5,K.lookup C=some (excClassObj nm q C N bs bm true sn sub ab col dd k0 k1 k2 k3 k5 "ValueError.__new__")∧(Value.ref C::bm).contains (.type "BaseException")=true
noncomputable def xbB (K:W.Frag) (C:Addr):Bool:=match K.lookup C with
 | some ⟨.type "type",_,.cls cd,sl⟩=>(match cd.mro,sl.toList with
  | .ref C'::bm,[_,_,_,_,some (.builtin n),_]=>C'==C&&n=="ValueError.__new__"&&!cd.hasDel&&cd.hasDict&&(Value.ref C::bm).contains (.type "BaseException")
  | _,_=>false)
 | _=>false
set_option tactic.hygienic true in
theorem u4j {K:W.Frag}{C:Addr} (e:xbB K C=true):XBase K C:=by
 unfold xbB at e
 split at e
 ·rename_i dd cd sl ho
  split at e
  ·rename_i C' bm k0 k1 k2 k3 n k5 hm hs
   simp only [Bool.and_eq_true,beq_iff_eq,Bool.not_eq_true'] at e
   obtain ⟨⟨⟨⟨rfl,rfl⟩,hdel⟩,hdi⟩,hb⟩:=e
   obtain ⟨nm,bs,mro,ns,qn,hd,sn,sub,ab,col,del⟩:=cd
   dsimp only at hm hdel hdi
   subst hm hdel hdi
   have hsl:sl=#[k0,k1,k2,k3,some (.builtin "ValueError.__new__"),k5]:=by
    obtain ⟨l⟩:=sl
    simp only at hs
    rw [hs]
   subst hsl
   exact ⟨bm,ns,nm,qn,bs,sn,sub,ab,col,dd,k0,k1,k2,k3,k5,ho,hb⟩
  ·cases e
 ·cases e
noncomputable def subK (K:W.Frag) (C C':Addr):Bool:=match W.clsIn K C with
 | some cd=>cd.mro.contains (.ref C')
 | none=>false
section
variable {M:Model}{A:Around}{E:VP}{s:Shared}{K:W.Frag}{C C' e:Addr}
theorem u7B {Q:Bool→Shared→Prop}{oe:Obj} (KI:K.In s.heap) (c:XBase K C) (c':XBase K C') (he:s.heap.get? e=some oe) (hcls:oe.cls=.ref C) (hq:Q (subK K C C') s):wpAny M A (excMatches (.ref e) (.ref C')) Q E s:=by
 obtain ⟨bm,N,nm,q,bs,sn,sub,ab,col,dd,k0,k1,k2,k3,k5,hK,hb⟩:=c
 obtain ⟨bm',N',nm',q',bs',sn',sub',ab',col',dd',j0,j1,j2,j3,j5,hK',hb'⟩:=c'
 have hC:=KI _ _ hK
 have hC':=KI _ _ hK'
 have hs:subK K C C'=(Value.ref C::bm).contains (.ref C'):=by
  unfold subK W.clsIn
  rw [hK]
 rw [hs] at hq
 have f:=tc_notTuple
 obtain ⟨hp,g,d,tk,os⟩:=s
 unfold excMatches
 repeat (first | ((with_reducible refine wpAny_loadPart_at he ?_);rw [hcls]) | (with_reducible refine wpAny_loadPart_at hC' ?_) | ((with_reducible refine wpAny_isSubtype_exc hC' ?_);rw [hb']) | ((with_reducible refine wpAny_isSubtype_exc hC ?_);generalize hz:(Value.ref C::bm).contains (.ref C')=z at hq ⊢;cases z) | wp_step)
 all_goals (wp_walk;exact hq)
end
section
variable {X:Cx}{pins:LO}{σ:St}{H:Hp}{s:Shared}{M:Model}{A:Around}{E:VP}
theorem Inv.gone {i:Nat}{n:Str}{m:MG}{w:Option Value}{h':Heap}{t':Nat} (I:Inv X pins σ H s) (hN:X.N.Nodup) (hi:X.N[i]?=some n) (hl:∀ (j:Nat) (x:Str) (v:V),X.N[j]?=some x→σ[j]?=some (some v)→Vis X.env.scope x→∃ u,RelV v u∧Look X.env s.heap m x u)
  (hn':h'.Ns X.env.locals (fun x=>if x=n then w else m x)) (hs:Heap.SameBut X.env.locals s.heap h'):Inv X pins (σ.set i none) H { s with heap:=h',toks:=t' }:=by
 have ne:∀ b,b≠X.env.locals→h'.get? b=s.heap.get? b:=hs.2
 have old:∀ b o,X.s₀.heap.get? b=some o→b≠X.env.locals:=fun b o e=>Nat.ne_of_lt (Nat.lt_of_lt_of_le (Heap.lt_size e) I.ok.above)
 refine ⟨I.ok,I.os,I.bare,⟨fun b o e z hb hx=>(ne b (old b o e)).trans (I.base.keep b o e z hb hx),fun b o e z hb hx=>?_,I.base.free,fun b o e hx=>?_,I.base.tups,I.base.frzs,I.base.tbls⟩,⟨_,hn',fun j x v e1 e2 e3=>?_⟩,fun x c e=>?_,I.free,I.freeC,fun p hp=>?_,fun a o e=>?_,by simp [I.len]⟩
 ·obtain ⟨sl,q⟩:=I.base.slot b o e z hb hx
  exact ⟨sl,(ne b (old b o e)).trans q⟩
 ·obtain ⟨o',q⟩:=I.base.there b o e hx
  exact ⟨o',(ne b (old b o e)).trans q⟩
 ·by_cases hj:j=i
  ·subst hj
   rw [List.getElem?_set_self (by rw [I.len];exact (List.getElem?_eq_some_iff.mp hi).1)] at e2
   cases e2
  ·rw [List.getElem?_set_ne (Ne.symm hj)] at e2
   obtain ⟨u,r,q⟩:=hl j x v e1 e2 e3
   refine ⟨u,r,?_⟩
   rcases q with ⟨k,q⟩ | ⟨k,c,q,z⟩
   ·have nx:x≠n:=fun y=>hj (u6b hN e1 (y ▸ hi))
    exact .inl ⟨k,by show (if x=n then w else m x)=some u;rw [if_neg nx];exact q⟩
   ·exact .inr ⟨k,c,q,z.sameBut hs (I.cne x c q)⟩
 ·obtain ⟨v,z⟩:=I.cell x c e
  exact ⟨v,z.sameBut hs (I.cne x c e)⟩
 ·obtain ⟨q,z,nl,nf,d⟩:=I.pin p hp
  exact ⟨(ne p.1 nl).trans q,z,nl,nf,d⟩
 ·refine (I.hok a o e).stay (fun c u hc q=>(ne c ?_).trans q) (fun _ q=>q) fun _ _ q=>q
  rintro rfl
  rcases hc with rfl | hc
  ·rw [I.free] at e;cases e
  ·rw [I.free] at hc;cases hc
theorem u6k {i:Nat}{n:Str}{pos:Pos}{Q:Unit→Shared→Prop} (I:Inv X pins σ H s) (hN:X.N.Nodup) (hi:X.N[i]?=some n) (hl:X.env.scope.names.lookup n=some .local) (hk:X.env.kindOf n=some .local)
  (h:∀ s',Inv X pins (σ.set i none) H s'→Q () s'):wpAny M A (do bindName X.env n .none;unbindBehindTheSuite X.env n pos) Q E s:=by
 have hp:(X.env.scope.kind==.class||(X.env.scope.kind==.module&&X.env.locals != X.env.globals))=false:=by rw [I.ok.kind];rfl
 refine wpAny_bind (wpAny_bindName (u4k (v:=.non) I hN hi (.inl hl) rfl (fun s1 I1=>?_) (.inr hl)))
 obtain ⟨m,hn,hlo⟩:=id I1.loc
 have hiσ:i<σ.length:=by rw [I.len];exact (List.getElem?_eq_some_iff.mp hi).1
 obtain ⟨u,ru,lk⟩:=hlo i n .non hi (by rw [List.getElem?_set_self hiσ]) (.inl hl)
 have hm:m n=some .none:=by
  cases ru
  rcases lk with ⟨_,q⟩ | ⟨k,_⟩
  ·exact q
  ·rw [hk] at k;rcases k with k | k <;> cases k
 unfold unbindBehindTheSuite
 refine wpAny_onRaise ?_
 unfold unbindName
 refine wpAny_bind (wpAny_point (wpAny_bind ?_))
 unfold deleteName
 simp only [hk,hp]
 rw [if_neg (by decide)]
 refine wpAny_bind (wpAny_nsDel_keeps hn fun h2 w hn2 hs2=>?_)
 rw [hm]
 simp only [if_true,Option.isSome_some,Bool.not_true,Bool.false_eq_true,if_false]
 refine wpAny_pure (wpAny_point ?_)
 have I2:=I1.gone (t':=s1.toks) hN hi hlo hn2 hs2
 rw [List.set_set] at I2
 exact h _ I2
end
abbrev cxH (X:Cx) (e:Addr):Cx:={ X with A:=X.A.mark (some (.ref e)),calm:=false,xe:=fun _ _=>False }
section
variable {X:Cx}{xq:XQ}{pins:LO}{σ:St}{H:Hp}{s:Shared}{e:Addr}
theorem Inv.toH (I:Inv X pins σ H s) (e:Addr):Inv (cxH X e) pins σ H s :=
 ⟨⟨I.ok.mod,I.ok.kind,I.ok.glob,I.ok.blt,I.ok.above,I.ok.inj,I.ok.has,I.ok.cab,(fun z=>nomatch z),I.ok.frames,I.ok.stk,I.ok.exf,I.ok.bs,I.ok.bsz,I.ok.noex,I.ok.exfs,I.ok.funs,I.ok.frf⟩,I.os,I.bare,I.base,I.loc,I.cell,I.free,I.freeC,I.pin,I.hok,I.len⟩
theorem Inv.ofH (J:X.Ok) (I:Inv (cxH X e) pins σ H s):Inv X pins σ H s:=⟨J,I.os,I.bare,I.base,I.loc,I.cell,I.free,I.freeC,I.pin,I.hok,I.len⟩
theorem Rel.unset {K:W.Frag}{B:Hp×Hp}{ρ:Rho}{F:Hp}{i:Nat} (r:Rel K B ρ σ F H):Rel K B (ρ.set i none) (σ.set i none) F H where
 st:=r.st
 len:=by simp [r.len]
 val j d e:=by
  rcases u0R e with ⟨rfl,q,z⟩ | ⟨q,z⟩
  ·cases z
  ·rw [u0U q];exact r.val j d z
 own j o e:=by
  rcases u0R e with ⟨rfl,q,z⟩ | ⟨q,z⟩
  ·cases z
  ·rw [u0U q];exact r.own j o z
 dis j k o u a x y:=by
  rcases u0R x with ⟨rfl,q,z⟩ | ⟨q,z⟩
  ·cases z
  ·rcases u0R y with ⟨rfl,q',z'⟩ | ⟨q',z'⟩
   ·cases z'
   ·rw [u0U q,u0U q'];exact r.dis j k o u a z z'
def PH (X:Cx) (xq:XQ) (hs:List ExceptHandler) (hd:D→Rho→Out):Prop:=∀ (pins:LO) (s:Shared) (σ:St) (H:Hp) (B:Hp×Hp) (F:Hp) (ρ:Rho) (x:D) (e:Addr) (n:Nat) (T:Ends),Inv X pins σ H s→Old X pins n→Tr n s.heap H e .none →
 Rel X.K B ρ σ F H→Rp X.K F (.ref e) x→OkS X.K xq B T (hd x ρ)→wpAny (model X.prog X.w) X.A (handleBy (.ref e) X.env hs) (SP X pins T) X.xe s
structure DH (X:Cx) (xq:XQ) (hs:List ExceptHandler) (hd:D→Rho→Out):Prop where
 out:PH X xq hs hd
noncomputable def isE:D→Bool
 | .exc _ _=>true
 | _=>false
set_option tactic.hygienic true in
theorem dh_nil (hq:XqOk X xq):DH X xq [] (fun x ρ=>if isE x=true then .er x (frz ρ) else .bad):=⟨fun pins s σ H B F ρ x e n T I o tr R p q=>by
 cases p with
 | exc h1 h2 h3 =>
  rename_i C dx fs gs
  have q':∀ v σ F H,Rel X.K B (frz ρ) σ F H→Rp X.K F v (.exc C gs)→xq v σ H:=q.out
  have hx:=R.fh _ _ h1
  refine wpAny_handleBy_nil ?_
  unfold PySem.passOn
  have tr':=tr
  obtain ⟨a0,oe,vs,a1,a2,a3,t,oT,ts,a4,a5,a6,a7,a8,a9,a10⟩:=tr'
  refine wpAny_bind (wpAny_field a1 a2 a4 ?_)
  rw [if_neg (show ¬ ((Value.ref t==Value.none)=true) by simp),hq.st.2]
  refine wpAny_bind (u1W (f:=some X.env.locals) I hq.st o hx tr fun s3 I3 tr3=>wpAny_throw (hq.xe _ _ ?_))
  obtain ⟨F1,e1,R1⟩:=R.frz
  exact ⟨n,e,C,some dx,σ,H,_,o.bare0,rfl,I3.bare0,hx,tr3.tb,.inr rfl,q' _ σ F1 H R1 (Rp.same e1 (.exc h1 h2 h3))⟩
 | _=>exact q.out.elim⟩
noncomputable def unset (i:Nat):Out→Out
 | .nx ρ=>.nx (ρ.set i none)
 | .rt d=>.rt d
 | .bk ρ=>.bk (ρ.set i none)
 | .ct ρ=>.ct (ρ.set i none)
 | _=>.bad
noncomputable def hdAs (K:W.Frag) (C':Addr) (i:Nat) (fb:Rho→Out) (rest:D→Rho→Out) (x:D) (ρ:Rho):Out:=match x with
 | .exc C gs=>if xbB K C=true then (if subK K C C'=true then unset i (fb (ρ.set i (some (.val (.exc C gs))))) else rest (.exc C gs) ρ) else .bad
 | _=>.bad
set_option tactic.hygienic true in
theorem dh_as {cn nm:Str}{C':Addr}{i:Nat}{p pos:Pos}{b0:Stmt}{bs:List Stmt}{rest:List ExceptHandler}{fb:Rho→Out}{hr:D→Rho→Out} (hst:X.stack=X.env::X.outer∧X.env.frame=some X.env.locals) (hN:X.N.Nodup) (hm:X.mg cn=some (.ref C')) (hb:XBase X.K C')
  (hsu:∀ e,DB (cxH X e) xqF (b0::bs) fb) (hrs:DH X xq rest hr) (hi:X.N[i]?=some nm:=by rfl) (hl:X.env.scope.names.lookup nm=some .local:=by rfl) (hk:X.env.kindOf nm=some .local:=by rfl) (hg:Gl X cn:=by rfl) (hdb:(cn==("__debug__":Str))=false:=by decide) :
  DH X xq (.ExceptHandler (some (.Name cn p)) (some nm) (b0::bs) pos::rest) (hdAs X.K C' i fb hr):=⟨fun pins s σ H B F ρ x e n T I o tr R pe q=>by
 cases pe with
 | exc h1 h2 h3 =>
  rename_i C dx fs gs
  have hx:=R.fh _ _ h1
  have q:=q.out
  unfold hdAs at q
  dsimp only at q
  by_cases hc:xbB X.K C=true
  ·rw [if_pos hc] at q
   obtain ⟨oe,he,hcls⟩:∃ oe,s.heap.get? e=some oe∧oe.cls=.ref C:=by
    obtain ⟨t,f1,f2,f3,f4,f5,sl,z⟩:=v0J I.hok hx
    exact ⟨_,z,rfl⟩
   have IH:=I.toH e
   refine wpAny_handleBy_cons (codeAny_handlers_test (u2o IH hg hm (u7B I.kIn (u4j hc) hb he hcls ?_) hdb)) (by intro z;cases z)
   cases hsb:subK X.K C C' with
   | false =>
    rw [hsb] at q
    exact hrs.out pins s σ H B F ρ _ e n T I o tr R (.exc h1 h2 h3) ⟨q⟩
   | true =>
    rw [hsb] at q
    refine codeAny_handlers_suite_as (u1W (X:=cxH X e) (f:=none) IH hst ⟨o.s0,o.loc,o.cel,o.pin⟩ hx tr fun s2 I2 tr2=>?_)
    refine u4k (X:=cxH X e) (v:=.ref e) I2 hN hi (.inl hl) rfl (fun s3 I3=>?_) (.inr hl)
    have R3:Rel X.K B (ρ.set i (some (.val (.exc C gs)))) (σ.set i (some (.ref e))) F H:=R.set (.exc h1 h2 h3)
    refine wpAny_mono ((hsu e).out pins s3 _ H { nx:=fun σ' H'=>T.nx (σ'.set i none) H',rt:=T.rt,bk:=fun σ' H'=>T.bk (σ'.set i none) H',ct:=fun σ' H'=>T.ct (σ'.set i none) H' } I3 ⟨B,F,_,R3,⟨?_⟩⟩) (fun f s4 z=>?_) fun _ _ z=>False.elim z
    ·generalize fb (ρ.set i (some (Sl.val (D.exc C gs))))=out at q
     cases out with
     | nx r=>exact fun σ' F' H' R'=>q _ F' H' R'.unset
     | rt d=>exact q
     | bk r=>exact fun σ' F' H' R'=>q _ F' H' R'.unset
     | ct r=>exact fun σ' F' H' R'=>q _ F' H' R'.unset
     | er y r=>exact q.elim
     | bad=>exact q.elim
    ·cases f with
     | next=>obtain ⟨σ',H',I4,z⟩:=z;exact u6k (Inv.ofH I.ok I4) hN hi hl hk fun s5 I5=>⟨_,H',I5,z⟩
     | brk=>obtain ⟨σ',H',I4,z⟩:=z;exact u6k (Inv.ofH I.ok I4) hN hi hl hk fun s5 I5=>⟨_,H',I5,z⟩
     | cont=>obtain ⟨σ',H',I4,z⟩:=z;exact u6k (Inv.ofH I.ok I4) hN hi hl hk fun s5 I5=>⟨_,H',I5,z⟩
     | ret u=>obtain ⟨v,σ',H',I4,r,z⟩:=z;exact u6k (Inv.ofH I.ok I4) hN hi hl hk fun s5 I5=>⟨v,_,H',I5,r,z⟩
  ·rw [if_neg hc] at q;exact q.elim
 | _=>exact q.out.elim⟩
noncomputable def hdNo (K:W.Frag) (C':Addr) (fb:Rho→Out) (rest:D→Rho→Out) (x:D) (ρ:Rho):Out:=match x with
 | .exc C gs=>if xbB K C=true then (if subK K C C'=true then (match fb ρ with | .er _ _=>.bad | o=>o) else rest (.exc C gs) ρ) else .bad
 | _=>.bad
set_option tactic.hygienic true in
theorem dh_no {cn:Str}{C':Addr}{p pos:Pos}{b0:Stmt}{bs:List Stmt}{rest:List ExceptHandler}{fb:Rho→Out}{hr:D→Rho→Out} (hst:X.stack=X.env::X.outer∧X.env.frame=some X.env.locals) (hm:X.mg cn=some (.ref C')) (hb:XBase X.K C')
  (hsu:∀ e,DB (cxH X e) xqF (b0::bs) fb) (hrs:DH X xq rest hr) (hg:Gl X cn:=by rfl) (hdb:(cn==("__debug__":Str))=false:=by decide) :
  DH X xq (.ExceptHandler (some (.Name cn p)) none (b0::bs) pos::rest) (hdNo X.K C' fb hr):=⟨fun pins s σ H B F ρ x e n T I o tr R pe q=>by
 cases pe with
 | exc h1 h2 h3 =>
  rename_i C dx fs gs
  have hx:=R.fh _ _ h1
  have q:=q.out
  unfold hdNo at q
  dsimp only at q
  by_cases hc:xbB X.K C=true
  ·rw [if_pos hc] at q
   obtain ⟨oe,he,hcls⟩:∃ oe,s.heap.get? e=some oe∧oe.cls=.ref C:=by
    obtain ⟨t,f1,f2,f3,f4,f5,sl,z⟩:=v0J I.hok hx
    exact ⟨_,z,rfl⟩
   have IH:=I.toH e
   refine wpAny_handleBy_cons (codeAny_handlers_test (u2o IH hg hm (u7B I.kIn (u4j hc) hb he hcls ?_) hdb)) (by intro z;cases z)
   cases hsb:subK X.K C C' with
   | false =>
    rw [hsb] at q
    exact hrs.out pins s σ H B F ρ _ e n T I o tr R (.exc h1 h2 h3) ⟨q⟩
   | true =>
    rw [hsb] at q
    refine codeAny_handlers_suite (u1W (X:=cxH X e) (f:=none) IH hst ⟨o.s0,o.loc,o.cel,o.pin⟩ hx tr fun s2 I2 tr2=>?_)
    refine wpAny_mono ((hsu e).out pins s2 _ H T I2 ⟨B,F,_,R,⟨?_⟩⟩) (fun f s4 z=>?_) fun _ _ z=>False.elim z
    ·have q:(match fb ρ with | .er _ _=>Out.bad | o=>o).all _ _ _ _ _:=q
     generalize fb ρ=out at q
     cases out with
     | nx r=>exact q
     | rt d=>exact q
     | bk r=>exact q
     | ct r=>exact q
     | er y r=>exact q.elim
     | bad=>exact q.elim
    ·cases f with
     | next=>obtain ⟨σ',H',I4,z⟩:=z;exact ⟨σ',H',Inv.ofH I.ok I4,z⟩
     | brk=>obtain ⟨σ',H',I4,z⟩:=z;exact ⟨σ',H',Inv.ofH I.ok I4,z⟩
     | cont=>obtain ⟨σ',H',I4,z⟩:=z;exact ⟨σ',H',Inv.ofH I.ok I4,z⟩
     | ret u=>obtain ⟨v,σ',H',I4,r,z⟩:=z;exact ⟨v,σ',H',Inv.ofH I.ok I4,r,z⟩
  ·rw [if_neg hc] at q;exact q.elim
 | _=>exact q.out.elim⟩
abbrev cxP (X:Cx) (pn:LO):Cx:={ X with pn:=X.pn++pn }
abbrev cxT (X:Cx) (pn:LO) (xq:XQ):Cx:=(cxP X pn).wish (Fly (cxP X pn) xq)
theorem Inv.toP (I:Inv X pins σ H s):Inv (cxP X pins) [] σ H s :=
 ⟨⟨I.ok.mod,I.ok.kind,I.ok.glob,I.ok.blt,I.ok.above,I.ok.inj,I.ok.has,I.ok.cab,I.ok.hd,I.ok.frames,I.ok.stk,I.ok.exf,I.ok.bs,I.ok.bsz,I.ok.noex,I.ok.exfs,I.ok.funs,I.ok.frf⟩,I.os,I.bare,I.base,I.loc,I.cell,I.free,I.freeC,fun p hp=>I.pin p (by simpa using hp),I.hok,I.len⟩
theorem Inv.ofP (I:Inv (cxP X pins) [] σ H s):Inv X pins σ H s :=
 ⟨⟨I.ok.mod,I.ok.kind,I.ok.glob,I.ok.blt,I.ok.above,I.ok.inj,I.ok.has,I.ok.cab,I.ok.hd,I.ok.frames,I.ok.stk,I.ok.exf,I.ok.bs,I.ok.bsz,I.ok.noex,I.ok.exfs,I.ok.funs,I.ok.frf⟩,I.os,I.bare,I.base,I.loc,I.cell,I.free,I.freeC,fun p hp=>I.pin p (by simpa using hp),I.hok,I.len⟩
theorem Old.ofP {n:Nat} (o:Old (cxP X pins) [] n):Old X pins n:=⟨o.s0,o.loc,o.cel,fun p hp=>o.pin p (by simpa using hp)⟩
noncomputable def catchD (hd:D→Rho→Out):Out→Out
 | .er x ρ=>hd x ρ
 | o=>o
theorem ds_try {body:List Stmt}{h0:ExceptHandler}{hs:List ExceptHandler}{pos:Pos}{fb:Rho→Out}{hd:D→Rho→Out} (hst:X.stack=X.env::X.outer∧X.env.frame=some X.env.locals)
  (hb:∀ pn xq',XqOk (cxT X pn xq') xq'→DB (cxT X pn xq') xq' body fb) (hh:DH X xq (h0::hs) hd) :
  DS X xq (.Try body (h0::hs) [] [] pos) (fun ρ=>catchD hd (fb ρ)):=⟨fun pins s σ H T I z9=>un5 z9 fun B F ρ R q=>by
 rw [arm_exec_Try]
 refine wpAny_bind (wpAny_standAt (wpAny_tryStmt_except ?_))
 let xq':XQ:=fun v σ' H'=>∃ ρ' F' x,Rel X.K B ρ' σ' F' H'∧Rp X.K F' v x∧OkS X.K xq B T (hd x ρ')
 have hq':XqOk (cxT X pins xq') xq':=u3h (X:=cxP X pins) hst
 refine wpAny_mono ((hb pins xq' hq').out [] s σ H T (I.toP.wish _) ⟨B,F,ρ,R,⟨?_⟩⟩) (fun f s1 z=>?_) fun u s1 z=>?_
 ·have q:=q.out
  dsimp only at q
  generalize fb ρ=out at q
  cases out with
  | nx r=>exact q
  | rt d=>exact q
  | bk r=>exact q
  | ct r=>exact q
  | er x r=>exact fun v σ' F' H' R' p'=>⟨r,F',x,R',p',⟨q⟩⟩
  | bad=>exact q.elim
 ·cases f with
  | next=>obtain ⟨σ',H',I4,z⟩:=z;exact wpAny_execs_nil ⟨σ',H',I4.unwish.ofP,z⟩
  | brk=>obtain ⟨σ',H',I4,z⟩:=z;exact ⟨σ',H',I4.unwish.ofP,z⟩
  | cont=>obtain ⟨σ',H',I4,z⟩:=z;exact ⟨σ',H',I4.unwish.ofP,z⟩
  | ret u=>obtain ⟨v,σ',H',I4,r,z⟩:=z;exact ⟨v,σ',H',I4.unwish.ofP,r,z⟩
 ·obtain ⟨n,e,C,d,σ',H',fl,o,rfl,I1,hx,tb,hfl,ρ',F',x,R',p',q'⟩:=z
  refine u8u (X:=cxP X pins) I1 hst o hx tb hfl fun s2 I2 tr2=>?_
  refine u1W (X:=cxP X pins) (f:=none) I2 hst o hx tr2 fun s3 I3 tr3=>?_
  exact hh.out pins s3 σ' H' B F' ρ' x e n T I3.ofP o.ofP tr3 R' p' q'⟩
noncomputable def dXf (K:W.Frag) (f:Str):D→Res D
 | .exc _ gs=>match gs.lookup f with
  | some d=>.ok d
  | none=>.bad
 | _=>.bad
def XRead (K:W.Frag) (f:Str) (Cs:List Addr):Prop:=∀ C∈Cs,(∃ fI,XCls K C fI)∧NoAttr K C f
set_option tactic.hygienic true in
theorem v2o {o:Expr}{f:Str}{fo:Rho→Res D}{pos:Pos}{Cs:List Addr}{K:W.Frag} (hr:XRead K f Cs) (ho:DE X xq o fo) (eK:X.K=K:=by rfl) (hb:attributeBase o f X.env (eval o X.env)=eval o X.env:=by rfl) :
  DE X xq (.Attribute o f pos) (fun ρ=>(fo ρ).bind fun x=>match x with | .exc C gs=>if C∈Cs then (match gs.lookup f with | some d=>.ok d | none=>.bad) else .bad | _=>.bad):=by
 subst eK
 refine DE.of (pe_xfld ho.out hb) fun B F ρ σ H Q R q=>seqE R q fun d v F1 H1 s1 R1 p1 q1=>?_
 cases p1 with
 | exc h1 h2 h3 =>
  rename_i C dx fs gs
  have q1:(if C∈Cs then (match gs.lookup f with | some d=>Res.ok d | none=>.bad) else .bad).all _ _:=q1
  by_cases hc:C∈Cs
  ·rw [if_pos hc] at q1
   cases hl:gs.lookup f with
   | none=>rw [hl] at q1;exact q1.elim
   | some d =>
    rw [hl] at q1
    obtain ⟨v,hv,pv⟩:=h3.lookup hl
    obtain ⟨⟨fI,c⟩,na⟩:=hr C hc
    exact ⟨_,C,fI,dx,fs,v,rfl,R1.fh _ _ h1,R1.fh _ _ h2,c,na,hv,q1 v F1 H1 s1 pv⟩
  ·rw [if_neg hc] at q1;exact q1.elim
 | _=>exact q1.elim
end
mutual
noncomputable def DK.hash (w:World):DK→Int
 | .i n=>keyH w (.inl n)
 | .s z=>keyH w (.inr z)
 | .t ks=>reduceHash (Builtin.Tuple.tupleHashOf (DK.hashes w ks))
noncomputable def DK.hashes (w:World):List DK→List Int
 | []=>[]
 | k::ks=>k.hash w::DK.hashes w ks
end
mutual
noncomputable def DK.drw:DK→Nat
 | .i _=>1
 | .s _=>1
 | .t ks=>DK.drws ks+1
noncomputable def DK.drws:List DK→Nat
 | []=>0
 | k::ks=>k.drw+DK.drws ks
end
mutual
inductive KAt (h:Heap):DK→Value→Prop
 | i (n:Int) (t:Tok):KAt h (.i n) (.int n t)
 | s (z:Str) (t:Tok):KAt h (.s z) (.str z t)
 | t {a:Addr}{o:Obj}{its:Array Value}{n:Nat}{ks:List DK}:h.get? a=some o→o.cls=.type "tuple"→o.data=.seq its n→KAts h ks its.toList→KAt h (.t ks) (.ref a)
inductive KAts (h:Heap):List DK→List Value→Prop
 | nil:KAts h [] []
 | cons {k:DK}{v:Value}{ks:List DK}{vs:List Value}:KAt h k v→KAts h ks vs→KAts h (k::ks) (v::vs)
end
mutual
theorem KAt.inj {h:Heap}:∀ {x y:DK}{v:Value},KAt h x v→KAt h y v→x=y
 | _,_,_,.i _ _,.i _ _=>rfl
 | _,_,_,.s _ _,.s _ _=>rfl
 | _,_,_,.t p1 _ p2 p3,.t q1 _ q2 q3=>by
  rw [p1] at q1;cases q1
  rw [p2] at q2;cases q2
  rw [KAts.inj p3 q3]
theorem KAts.inj {h:Heap}:∀ {x y:List DK}{v:List Value},KAts h x v→KAts h y v→x=y
 | _,_,_,.nil,.nil=>rfl
 | _,_,_,.cons p ps,.cons q qs=>by rw [KAt.inj p q,KAts.inj ps qs]
end
mutual
theorem KAt.moved {h h':Heap} (k:∀ b o its n,h.get? b=some o→o.data=.seq its n→h'.get? b=some o):∀ {x:DK}{v:Value},KAt h x v→KAt h' x v
 | _,_,.i n t=>.i n t
 | _,_,.s n t=>.s n t
 | _,_,.t p1 pc p2 p3=>.t (k _ _ _ _ p1 p2) pc p2 (KAts.moved k p3)
theorem KAts.moved {h h':Heap} (k:∀ b o its n,h.get? b=some o→o.data=.seq its n→h'.get? b=some o):∀ {x:List DK}{v:List Value},KAts h x v→KAts h' x v
 | _,_,.nil=>.nil
 | _,_,.cons p ps=>.cons (KAt.moved k p) (KAts.moved k ps)
end
mutual
theorem KAt.reads {h:Heap}:∀ {x:DK}{v:Value},KAt h x v→∃ as,Reads h v x.py as
 | _,_,.i n t=>⟨_,.int n t⟩
 | _,_,.s z t=>⟨_,.str z t⟩
 | _,_,.t p1 pc p2 p3=>let ⟨_,q⟩:=KAts.reads p3;⟨_,by rw [DK.py];exact .tuple p1 pc p2 q⟩
theorem KAts.reads {h:Heap}:∀ {x:List DK}{v:List Value},KAts h x v→∃ as,ReadsAll h v (DK.pys x) as
 | _,_,.nil=>⟨_,.nil⟩
 | _,_,.cons p ps=>let ⟨_,q⟩:=KAt.reads p;let ⟨_,qs⟩:=KAts.reads ps;⟨_,.cons q qs⟩
end
mutual
theorem DK.eqv_iff:∀ x y:DK,PyData.eqv x.py y.py=true↔x=y
 | .i n,.i m=>by simp [DK.py,PyData.eqv]
 | .s n,.s m=>by simp [DK.py,PyData.eqv]
 | .t n,.t m=>by simp only [DK.py,PyData.eqv,DK.t.injEq];exact DK.eqvs_iff n m
 | .i _,.s _=>by simp [DK.py,PyData.eqv]
 | .i _,.t _=>by simp [DK.py,PyData.eqv]
 | .s _,.i _=>by simp [DK.py,PyData.eqv]
 | .s _,.t _=>by simp [DK.py,PyData.eqv]
 | .t _,.i _=>by simp [DK.py,PyData.eqv]
 | .t _,.s _=>by simp [DK.py,PyData.eqv]
theorem DK.eqvs_iff:∀ x y:List DK,PyData.eqvAll (DK.pys x) (DK.pys y)=true↔x=y
 | [],[]=>by simp [DK.pys,PyData.eqvAll]
 | a::x,b::y=>by simp only [DK.pys,PyData.eqvAll,Bool.and_eq_true,List.cons.injEq];rw [DK.eqv_iff a b,DK.eqvs_iff x y]
 | [],_::_=>by simp [DK.pys,PyData.eqvAll]
 | _::_,[]=>by simp [DK.pys,PyData.eqvAll]
end
theorem DK.eqv_dec (x y:DK):PyData.eqv x.py y.py=decide (x=y):=by
 rw [Bool.eq_iff_iff,DK.eqv_iff];simp
section
variable {prog:Program}{w:World}
set_option maxHeartbeats 1000000 in
theorem v3C (d:Nat):∀ {k:DK}{v:Value}{A:Around}{E:VP}{s:Shared}{Q:Int→Shared→Prop},k.dep≤d→A.units+d<cLine→KAt s.heap k v→Q (k.hash w) { s with toks:=s.toks+k.drw }→wpAny (model prog w) A (PySem.pyHash v) Q E s:=by
 induction d with
 | zero =>
  intro k v A E s Q hd hu p q
  cases p with
  | i n t=>exact (mixKind prog w).pyHash (k:=.inl n) (u2Y prog w n t) q
  | s z t=>exact (mixKind prog w).pyHash (k:=.inr z) (u2X prog w z t) q
  | t p1 pc p2 p3=>simp [DK.dep] at hd
 | succ d ih =>
  intro k v A E s Q hd hu p q
  cases p with
  | i n t=>exact (mixKind prog w).pyHash (k:=.inl n) (u2Y prog w n t) q
  | s z t=>exact (mixKind prog w).pyHash (k:=.inr z) (u2X prog w z t) q
  | @t a o its n ks p1 pc p2 p3 =>
   have ty:s.TypeIs (.ref a) "tuple":=⟨o,p1,pc⟩
   have hds:DK.deps ks≤d:=by simpa [DK.dep] using hd
   unfold PySem.pyHash
   first | unfold pyHashByItsType | skip
   first | refine wpAny_bind (wpAny_cRoomFor_or (.inr (by omega)) ?_) | skip
   refine wpAny_bind (wpAny_specialOf ty F.slot_tuple_hash.lookup ?_)
   show wpAny _ _ (if (some (Value.builtin "tuple.__hash__")==some Value.none)=true then _ else _) _ _ _
   rw [if_neg (by rw [beq_builtin_none];simp)]
   refine wpAny_bind (wpAny_specialOf ty F.slot_tuple_hash.lookup ?_)
   show wpAny _ _ (callSpecialIfBoundUnlessNone? (.ref a) "__hash__" _ >>= _) _ _ _
   refine wpAny_bind (wpAny_callSpecialIfBoundUnlessNone?_slot ty F.slot_tuple_hash (wpAny_call_entry F.slot_tuple_hash ty F.entry_tuple_hash ?_ (F.args_tuple_hash_1 _)))
   show wpAny _ _ (Builtin.Tuple.tupleItemsOf (.ref a) >>= _) _ _ _
   refine wpAny_bind (wpAny_tupleItemsOf p1 p2 ?_)
   refine wpAny_bind ?_
   rw [← Array.forIn_toList]
   refine wpAny_forIn_list _ (fun rest (b:Array Int) s'=>∃ l r,DK.hashes w ks=l++DK.hashes w r∧KAts s.heap r rest∧DK.deps r≤d∧b.toList=l∧∃ c,c+DK.drws r=DK.drws ks∧s'={ s with toks:=s.toks+c }) _ ?_ ?_ _ _ ⟨[],ks,rfl,p3,hds,rfl,0,Nat.zero_add _,rfl⟩
   ·rintro x rest b s' ⟨l,r,e1,e2,e3,e4,c,e5,rfl⟩
    cases e2 with
    | @cons k _ r' _ f1 f2 =>
     simp only [DK.deps] at e3
     refine wpAny_bind (ih (k:=k) (by omega) (by show A.units+1+d<cLine;omega) f1 ?_)
     first
      | exact wpAny_pure ⟨l++[k.hash w],r',by rw [e1];simp [DK.hashes],f2,by omega,by simp [e4],c+k.drw,by rw [← e5];simp [DK.drws,Nat.add_assoc],by simp [Nat.add_assoc]⟩
      | exact wpAny_bind (wpAny_pure (wpAny_pure ⟨l++[k.hash w],r',by rw [e1];simp [DK.hashes],f2,by omega,by simp [e4],c+k.drw,by rw [← e5];simp [DK.drws,Nat.add_assoc],by simp [Nat.add_assoc]⟩))
   ·rintro b s' ⟨l,r,e1,e2,e3,e4,c,e5,rfl⟩
    cases e2
    have e6:DK.hashes w ks=b.toList:=by rw [e1,e4];simp [DK.hashes]
    have e7:c=DK.drws ks:=by rw [← e5];simp [DK.drws]
    subst e7
    simp only [DK.hash,DK.drw] at q
    rw [e6] at q
    show wpAny _ _ (retInt (Builtin.Tuple.tupleHashOf b.toList)) _ _ _
    refine wpAny_ret_mkInt ?_
    show wpAny _ _ (if (decide (-(2:Int)^63≤Builtin.Tuple.tupleHashOf b.toList)&&decide (Builtin.Tuple.tupleHashOf b.toList<2^63))=true then _ else _) _ _ _
    unfold reduceHash at q
    by_cases hr:(decide (-(2:Int)^63≤Builtin.Tuple.tupleHashOf b.toList)&&decide (Builtin.Tuple.tupleHashOf b.toList<2^63))=true
    ·rw [if_pos hr] at q ⊢
     exact wpAny_pure (by simpa [Nat.add_assoc] using q)
    ·rw [if_neg hr] at q ⊢
     exact wpAny_bind (wpAny_rule (wpAny_pure (by simpa [Nat.add_assoc] using q)))
theorem v1K (d:Nat):∀ {k:DK}{v:Value}{A:Around}{E:VP}{s:Shared}{Q:Bool→Shared→Prop},k.dep≤d→KAt s.heap k v→Q true s→wpAny (model prog w) A (eqIsQuiet d v) Q E s:=by
 induction d with
 | zero =>
  intro k v A E s Q hd p q
  cases p with
  | i n t=>rw [eqIsQuiet_byValue _ rfl];exact wpAny_pure q
  | s z t=>rw [eqIsQuiet_byValue _ rfl];exact wpAny_pure q
  | t p1 pc p2 p3=>simp [DK.dep] at hd
 | succ d ih =>
  intro k v A E s Q hd p q
  cases p with
  | i n t=>rw [eqIsQuiet_byValue _ rfl];exact wpAny_pure q
  | s z t=>rw [eqIsQuiet_byValue _ rfl];exact wpAny_pure q
  | @t a o its n ks p1 pc p2 p3 =>
   have ty:s.TypeIs (.ref a) "tuple":=⟨o,p1,pc⟩
   have hds:DK.deps ks≤d:=by simpa [DK.dep] using hd
   unfold eqIsQuiet
   refine wpAny_bind (wpAny_specialOf ty F.slot_tuple_eq.lookup ?_)
   show wpAny _ _ (isInstance (.ref a) (.type "tuple") >>= _) _ _ _
   refine wpAny_bind (wpAny_isInstance ty isSubtype_tuple_tuple ?_)
   simp only [Bool.not_true,Bool.false_eq_true,if_false]
   refine wpAny_bind (wpAny_seqItems p1 p2 ?_)
   refine wpAny_bind ?_
   show wpAny _ _ (forIn its _ _) _ _ _
   rw [← Array.forIn_toList]
   refine wpAny_forIn_list _ (fun rest r s'=>r.1=none∧s'=s∧∃ l,KAts s.heap l rest∧DK.deps l≤d) _ ?_ ?_ _ _ ⟨rfl,rfl,ks,p3,hds⟩
   ·rintro v rest r s' ⟨hr,rfl,l,e1,e2⟩
    cases e1 with
    | cons f1 f2 =>
     simp only [DK.deps] at e2
     refine wpAny_bind (ih (by omega) f1 ?_)
     simp only [Bool.not_true,Bool.false_eq_true,if_false]
     exact wpAny_pure ⟨rfl,rfl,_,f2,by omega⟩
   ·rintro ⟨r1,r2⟩ s' ⟨hr,rfl,_⟩
    simp only at hr
    subst hr
    exact wpAny_pure q
noncomputable def nestKind (prog:Program) (w:World):HeapKind prog w (List DK) where
 is h ks a:=KAt h (.t ks) (.ref a)∧(DK.t ks).dep≤8∧SeqAt.shaped (DK.t ks).py=true
 hash ks:=(DK.t ks).hash w
 draws ks:=(DK.t ks).drw
 room A:=A.units+80<cLine
 inj p q:=by have:=p.1.inj q.1;cases this;rfl
 keeps p hd he sb:=⟨p.1.moved (fun b o its n q1 q2=>(sb.2 b (fun z=>by
  subst z
  rw [q1] at hd
  cases hd
  rw [q2] at he
  cases he)).trans q1),p.2⟩
 pyHash hu p q:=v3C 8 p.2.1 (by omega) p.1 q
 eqBool:=fun {A E s x y a b Q} hu p r q=>by
  obtain ⟨as,ra⟩:=p.1.reads
  obtain ⟨bs,rb⟩:=r.1.reads
  refine SeqAt.eqBoolOverData _ _ _ _ _ _ _ _ _ _ _ _ ra rb (SeqAt.canLay_of_shaped p.2.2) (SeqAt.canLay_of_shaped r.2.2) ?_ ?_
  ·have:=SeqAt.depth_of_shaped p.2.2
   have h2:min (DK.t x).py.depth (DK.t y).py.depth≤(DK.t x).py.depth:=Nat.min_le_left _ _
   omega
  ·rw [DK.eqv_dec];simpa using q
 quiet p q:=v1K 8 p.2.1 p.1 q
end
noncomputable def cmpDs:List D→Res (List PyData)
 | []=>.ok []
 | d::ds=>(cmpD d).bind fun a=>(cmpDs ds).bind fun as=>.ok (a::as)
noncomputable def inS (i j:Str):Bool:=!(Builtin.Str.occurrences j i 0 j.length 1).isEmpty
noncomputable def inD (x:D) (ds:List D) (neg:Bool):Res D:=(cmpD x).bind fun a=>(cmpDs ds).bind fun as=>.ok (.bl (if neg=true then !(as.any fun b=>PyData.eqv b a) else as.any fun b=>PyData.eqv b a))
noncomputable def dInG (neg:Bool):D→D→Res D
 | x,.lst ds=>inD x ds neg
 | x,.tup ds=>inD x ds neg
 | .str i,.str j=>.ok (.bl (if neg=true then !inS i j else inS i j))
 | _,_=>.bad
theorem u5f (neg:Bool) (x:D) (ds:List D):dInG neg x (.lst ds)=inD x ds neg:=by cases x <;> rfl
theorem u8D (neg:Bool) (x:D) (ds:List D):dInG neg x (.tup ds)=inD x ds neg:=by cases x <;> rfl
noncomputable abbrev dIn:=dInG false
noncomputable abbrev dNotIn:=dInG true
section
variable {X:Cx}{pins:LO}{σ:St}{H:Hp}{s:Shared}
noncomputable def eqR (h:Heap) (a:PyData) (u:Value):Bool:=@decide (∃ d as,Reads h u d as∧PyData.eqv d a=true) (_root_.Classical.propDecidable _)
theorem v4n {h:Heap}{a d:PyData}{u:Value}{as:List Addr} (r:Reads h u d as):eqR h a u=PyData.eqv d a:=by
 unfold eqR
 rw [Bool.eq_iff_iff,@decide_eq_true_iff _ (_root_.Classical.propDecidable _)]
 constructor
 ·rintro ⟨d',as',r',q⟩
  rw [(r.unique d' as' r').1];exact q
 ·exact fun q=>⟨d,as,r,q⟩
theorem v0G {d:D}{ds:List D}{bs:List PyData} (h:cmpDs (d::ds)=.ok bs):∃ b r,d.py=some b∧SeqAt.shaped b=true∧cmpDs ds=.ok r∧bs=b::r:=by
 unfold cmpDs at h
 cases e:cmpD d with
 | err x=>rw [e] at h;cases h
 | bad=>rw [e] at h;cases h
 | ok b =>
  rw [e] at h
  obtain ⟨b',q1,q2,q3⟩:=u3K (P:=fun z=>z=b) (E:=fun _=>False) (by rw [e];exact rfl)
  subst q3
  cases e2:cmpDs ds with
  | err x=>rw [e2] at h;cases h
  | bad=>rw [e2] at h;cases h
  | ok r=>rw [e2] at h;cases h;exact ⟨_,r,q1,q2,rfl,rfl⟩
theorem u7U {F:Hp}{a:PyData}{v:Value}{vs:List Addr}{A:Around} (I:Inv X pins σ H s) (fh:Same F H) (rv:Reads s.heap v a vs) (sa:SeqAt.shaped a=true) (hu:A.units+64<cLine):∀ {xs:List V}{ds:List D}{its:List Value}{bs:List PyData},Rps X.K F xs ds→Vals xs its→cmpDs ds=.ok bs →
  (∀ u∈its,SeqAt.EqAt A s u v (eqR s.heap a u))∧its.any (eqR s.heap a)=bs.any fun b=>PyData.eqv b a
 | _,_,_,_,.nil,.nil,e=>by cases e;exact ⟨(fun u hu=>by cases hu),rfl⟩
 | _,_,_,_,.cons h hs,.cons r rs,e=>by
  obtain ⟨b,r',q1,q2,q3,rfl⟩:=v0G e
  obtain ⟨i1,i2⟩:=u7U I fh rv sa hu hs rs q3
  obtain ⟨as,ru⟩:=((h.rd q1).same fh).reads I r
  refine ⟨fun u hu'=>?_,by rw [List.any_cons,List.any_cons,i2,v4n ru]⟩
  rcases List.mem_cons.mp hu' with rfl | hu'
  ·rw [v4n ru]
   refine SeqAt.eqAt_reads _ _ _ _ _ _ _ _ ru rv (SeqAt.canLay_of_shaped q2) (SeqAt.canLay_of_shaped sa) ?_
   have:=SeqAt.depth_of_shaped q2
   have h2:min b.depth a.depth≤b.depth:=Nat.min_le_left _ _
   omega
  ·exact i1 u hu'
theorem u9l {x:D}{ds:List D}{neg:Bool}{P:D→Prop}{E:D→Prop} (h:(inD x ds neg).all P E):∃ a bs,x.py=some a∧SeqAt.shaped a=true∧cmpDs ds=.ok bs∧P (.bl (if neg=true then !(bs.any fun b=>PyData.eqv b a) else bs.any fun b=>PyData.eqv b a))∨∃ y,cmpDs ds=.err y:=by
 unfold inD at h
 obtain ⟨a,q1,q2,q⟩:=u3K (Res.all_bind.mp h)
 cases e:cmpDs ds with
 | ok bs=>rw [e] at q;exact ⟨a,bs,.inl ⟨q1,q2,rfl,q⟩⟩
 | err y=>exact ⟨a,[],.inr ⟨y,rfl⟩⟩
 | bad=>rw [e] at q;exact q.elim
theorem u1M:∀ (ds:List D) (y:D),cmpDs ds≠.err y
 | [],_,h=>by cases h
 | d::ds,y,h=>by
  unfold cmpDs at h
  cases e:cmpD d with
  | err x =>
   unfold cmpD at e
   split at e
   ·unfold gd at e;split at e <;> cases e
   ·cases e
  | bad=>rw [e] at h;cases h
  | ok b =>
   rw [e] at h
   cases e2:cmpDs ds with
   | err x=>exact u1M ds x e2
   | bad=>rw [e2] at h;cases h
   | ok r=>rw [e2] at h;cases h
theorem o_in (hu:X.A.units+100<cLine):OpR X (compareOp .In) (rD X.K dIn):=by
 intro pins s σ H x y v u Q I rx ry ⟨F,dx,dy,fh,px,py,q⟩
 have hu':X.A.in1.units+64<cLine:=by show X.A.units+1+64<cLine;omega
 cases py with
 | lst hq hs =>
  unfold dIn at q
  rw [u5f] at q
  obtain ⟨a,bs,⟨q1,q2,q3,q4⟩ | ⟨y,q3⟩⟩:=u9l q
  ·obtain ⟨its,r,pl,hz⟩:=I.list (.inl (hq.same fh))
   obtain ⟨as,rv⟩:=((px.rd q1).same fh).reads I rx
   obtain ⟨h1,h2⟩:=u7U I fh rv q2 hu' hs r q3
   cases ry
   refine SeqAt.in_listAt (eqR s.heap a) pl.isList (fun w hw=>h1 w (by simpa using hw)) ⟨.bl _,H,I,rfl,?_⟩
   rw [show its.toArray.any (eqR s.heap a)=its.any (eqR s.heap a) by simp,h2]
   exact q4 _ F H (Stp.refl fh) (.bl _)
  ·exact absurd q3 (u1M _ _)
 | tup hq hs =>
  unfold dIn at q
  rw [u8D] at q
  obtain ⟨a,bs,⟨q1,q2,q3,q4⟩ | ⟨y,q3⟩⟩:=u9l q
  ·obtain ⟨its,r,pl,hz⟩:=I.tuple (fh.seqT hq)
   obtain ⟨as,rv⟩:=((px.rd q1).same fh).reads I rx
   obtain ⟨h1,h2⟩:=u7U I fh rv q2 hu' hs r q3
   cases ry
   refine SeqAt.in_tupleAt (eqR s.heap a) pl (fun w hw=>h1 w (by simpa using hw)) ⟨.bl _,H,I,rfl,?_⟩
   rw [show its.toArray.any (eqR s.heap a)=its.any (eqR s.heap a) by simp,h2]
   exact q4 _ F H (Stp.refl fh) (.bl _)
  ·exact absurd q3 (u1M _ _)
 | str hz =>
  cases px with
  | str hz'=>exact v1o pins s σ H _ _ v u Q I rx ry ⟨_,_,rfl,rfl,q _ F H (Stp.refl fh) (.bl _)⟩
  | _=>exact q.elim
 | _=>cases dx <;> exact q.elim
theorem u4K (hu:X.A.units+100<cLine):OpR X (compareOp .NotIn) (rD X.K dNotIn):=by
 intro pins s σ H x y v u Q I rx ry ⟨F,dx,dy,fh,px,py,q⟩
 have hu':X.A.in1.units+64<cLine:=by show X.A.units+1+64<cLine;omega
 cases py with
 | lst hq hs =>
  unfold dNotIn at q
  rw [u5f] at q
  obtain ⟨a,bs,⟨q1,q2,q3,q4⟩ | ⟨y,q3⟩⟩:=u9l q
  ·obtain ⟨its,r,pl,hz⟩:=I.list (.inl (hq.same fh))
   obtain ⟨as,rv⟩:=((px.rd q1).same fh).reads I rx
   obtain ⟨h1,h2⟩:=u7U I fh rv q2 hu' hs r q3
   cases ry
   refine SeqAt.notIn_listAt (eqR s.heap a) pl.isList (fun w hw=>h1 w (by simpa using hw)) ⟨.bl _,H,I,rfl,?_⟩
   rw [show its.toArray.any (eqR s.heap a)=its.any (eqR s.heap a) by simp,h2]
   exact q4 _ F H (Stp.refl fh) (.bl _)
  ·exact absurd q3 (u1M _ _)
 | tup hq hs =>
  unfold dNotIn at q
  rw [u8D] at q
  obtain ⟨a,bs,⟨q1,q2,q3,q4⟩ | ⟨y,q3⟩⟩:=u9l q
  ·obtain ⟨its,r,pl,hz⟩:=I.tuple (fh.seqT hq)
   obtain ⟨as,rv⟩:=((px.rd q1).same fh).reads I rx
   obtain ⟨h1,h2⟩:=u7U I fh rv q2 hu' hs r q3
   cases ry
   refine SeqAt.notIn_tupleAt (eqR s.heap a) pl (fun w hw=>h1 w (by simpa using hw)) ⟨.bl _,H,I,rfl,?_⟩
   rw [show its.toArray.any (eqR s.heap a)=its.any (eqR s.heap a) by simp,h2]
   exact q4 _ F H (Stp.refl fh) (.bl _)
  ·exact absurd q3 (u1M _ _)
 | str hz =>
  cases px with
  | str hz'=>exact u7h pins s σ H _ _ v u Q I rx ry ⟨_,_,rfl,rfl,q _ F H (Stp.refl fh) (.bl _)⟩
  | _=>exact q.elim
 | _=>cases dx <;> exact q.elim
end
noncomputable def liftO (K:W.Frag) (xq:XQ) (f:Rho→Res (Option Int)):TO:=fun σ H Q=>∃ B F ρ,Rel K B ρ σ F H ∧
 (f ρ).all (fun o=>∀ F' H',Stp F H F' H'→Q o H') (ErrK K xq B ρ σ)
structure DO (X:Cx) (xq:XQ) (e:Option Expr) (f:Rho→Res (Option Int)):Prop where
 out:PO X e (liftO X.K xq f)
noncomputable def asI:D→Res (Option Int)
 | .int i=>.ok (some i)
 | _=>.bad
noncomputable def dSl (d:D) (lo hi:Option Int):Res D:=match d with
 | .lst ds=>.ok (.lst (cutC ds lo hi))
 | .tup ds=>if HT.sIx ds.length 0 lo=0∧HT.sIx ds.length ds.length hi=ds.length then .bad else .ok (.tup (cutC ds lo hi))
 | .str z=>.ok (.str (Txt.slice z lo hi))
 | _=>.bad
section
variable {X:Cx}{xq:XQ}{e:Expr}{lo hi:Option Expr}{fe:Rho→Res D}{fl fh:Rho→Res (Option Int)}{p2 pos:Pos}
theorem u4Z:DO X xq none (fun _=>.ok none):=⟨fun pins s σ H Q I z9=>un5 z9 fun B F ρ R q=>po_none pins s σ H Q I (q F H (Stp.refl R.fh))⟩
theorem u2f (h:DE X xq e fe):DO X xq (some e) (fun ρ=>(fe ρ).bind asI):=⟨fun pins s σ H Q I z9=>un5 z9 fun B F ρ R q=>po_some h.out pins s σ H Q I (seqE R q fun d v F1 H1 s1 R1 p1 q1=>by
 cases p1 with
 | int i=>exact ⟨i,rfl,q1 F1 H1 s1⟩
 | _=>exact q1.elim)⟩
def rSlD (K:W.Frag):V→Option Int→Option Int→Hp→VK→Prop:=fun x lo hi H Q=>∃ F d,Same F H∧Rp K F x d∧(dSl d lo hi).all (fun d'=>∀ v F' H',Stp F H F' H'→Rp K F' v d'→Q v H') (fun _=>False)
theorem Rps.cut {K:W.Frag}{F:Hp}{xs:List V}{ds:List D} (r:Rps K F xs ds) (lo hi:Option Int):Rps K F (cutV xs lo hi) (cutC ds lo hi):=by
 unfold cutV cutC
 rw [r.length]
 exact (r.drop _).take _
set_option tactic.hygienic true in
theorem sl_D:SlR X (rSlD X.K):=by
 intro pins s σ H x v vl vu lo hi sl Q I rx hs pl pu ⟨F,d,fh,px,q⟩
 cases px with
 | lst hq rs=>exact sl_list pins s σ H _ v vl vu lo hi sl Q I rx hs pl pu ⟨_,_,rfl,.inl (hq.same fh),fun p n=>q _ _ _ (Stp.new fh n) (.lst (.inl u0g) ((rs.cut lo hi).same (Stp.new fh n).ff))⟩
 | tup hq rs =>
  unfold dSl at q
  dsimp only at q
  split at q
  ·exact q.elim
  ·rename_i nw
   exact sl_tup pins s σ H _ v vl vu lo hi sl Q I rx hs pl pu ⟨_,_,rfl,fh.seqT hq,by rw [rs.length];exact nw,fun p n=>q _ _ _ (Stp.new fh n) (.tup (.inl (.inl u0g)) ((rs.cut lo hi).same (Stp.new fh n).ff))⟩
 | str hz=>exact sl_str pins s σ H _ v vl vu lo hi sl Q I rx hs pl pu ⟨_,rfl,hz,q _ F H (Stp.refl fh) (.str (Nat.le_trans (Txt.slice_le _ _ _) hz))⟩
 | _=>exact q.elim
theorem d_sl (he:DE X xq e fe) (hl:DO X xq lo fl) (hu:DO X xq hi fh):DE X xq (.Subscript e (.Slice lo hi none p2) pos) (fun ρ=>(fe ρ).bind fun d=>(fl ρ).bind fun l=>(fh ρ).bind fun u=>dSl d l u) :=
 DE.of (v3g sl_D he.out hl.out hu.out) fun B F ρ σ H Q R q=>seqE R q fun d v F1 H1 s1 R1 p1 q1 =>
  ⟨B,F1,ρ,R1,Res.all_mono (Res.all_bind.mp q1) (fun l q2 F2 H2 s2=>⟨B,F2,ρ,R1.step s2,Res.all_mono (Res.all_bind.mp q2) (fun u q3 F3 H3 s3=>by
   refine ⟨F3,d,((R1.step s2).step s3).fh,(p1.same s2.ff).same s3.ff,?_⟩
   cases hd:dSl d l u with
   | ok d'=>rw [hd] at q3;exact fun v' F' H' st pv=>q3 v' F' H' (((s1.trans s2).trans s3).trans st) pv
   | err x=>unfold dSl at hd;split at hd <;> first | cases hd | (split at hd <;> cases hd)
   | bad=>rw [hd] at q3;exact q3) fun _ z=>z⟩) fun _ z=>z⟩
theorem u6u {tg iter elt:Expr}{ifs:List Expr}{scope:Scope}{fi:Rho→Res (List D)}{g:D→Rho→Res Rho}{fA:Rho→Res Bool}{ix:List Nat}{x:Str}{i:Nat}{py spos:Pos} (own:List Str) (outs:List Nat) (hc:X.calm=true) (ok:CompOk X.env.scope X.N own outs scope) (hN:X.N.Nodup) (hi:DI X xq tg iter fi) (hg:∀ {cl C s H fp},DG (cxC X own outs scope cl C s H fp) tg ix g) (hf:∀ {cl C s H fp},DF (cxC X own outs scope cl C s H fp) xqF ifs fA) (he:∀ {cl C s H fp},DE (cxC X own outs scope cl C s H fp) xqF elt fe)
  (nd:outs.Nodup:=by decide) (hix:∀ j∈ix,j<own.length:=by decide) (hy:X.N.findIdx? (fun y=>y==x)=some i:=by rfl) (hx:X.env.scope.names.lookup x=some .local:=by rfl)
  (hsw:swapsWith (.ListComp elt [⟨tg,iter,ifs,0⟩] scope pos) (some (.Name x py)) spos.line X.env=pure true:=by rfl) (hs:∀ x,foldedSetIterable iter X.env x=pure x:=by intro _;rfl) :
  DS X xq (.Assign [.Name x py] (.ListComp elt [⟨tg,iter,ifs,0⟩] scope pos) spos) (fun ρ=>((fi ρ).bind fun ds=>gd (ds.length≤sizeLine) ((compD g fA fe (rhoC own.length outs ρ) ds).bind fun ys=>.ok (OD.l ys))).go ρ fun o=>.nx (ρ.set i (some (.val o.toD)))) :=
 DS.of (v0d own outs hc ok hN (u7Y hy) hx hi.out (g:=liftG X.K ix g) (ti:=liftT X.K xqF fA) (te:=liftE X.K xqF fe) (fun {cl C s H fp}=>hg.out) (fun {cl C s H fp}=>hf.out) (fun {cl C s H fp}=>he.out) hsw hs) fun B F ρ σ H T R q =>
  u7G nd hix ⟨B,F,ρ,R,Res.all_mono (u0y q.out) (fun o q a hh F' H' s1 n1 n2 e1 r1=>by
   have s2:Stp F H (upd F' a hh) H':=⟨s1.ff.trans (u0h n1),fun b u x=>by
    unfold upd at x
    by_cases z:b=a
    ·rw [if_pos z] at x;cases x;subst z;exact e1
    ·rw [if_neg z] at x;exact s1.fh b u x,s1.hh,fun b x y=>by
    unfold upd
    by_cases z:b=a
    ·subst z;exact absurd n2 y
    ·rw [if_neg z];exact s1.no b x y⟩
   exact q _ _ _ ((R.step s2).set ((Ro.same (u0h n1) r1).rp u0g))) fun x q=>errOf q⟩
def rExtR:V→List V→Hp→VK→Prop:=fun x vs H Q=>∃ l b xs zs,x=.ref l∧vs=[.ref b]∧H l=some (.lst xs)∧Rd H b (.lst zs)∧xs.length+zs.length≤sizeLine∧Q .non (upd H l (.lst (xs++zs)))
theorem v1x:MtM X "list.extend" rExtR:=by
 intro pins s σ H x vs v us Q I rx rv h
 obtain ⟨l,b,xs,zs,rfl,rfl,hH,hB,hz,q⟩:=h
 cases rx
 obtain ⟨u,rfl,ru⟩:=rv.one
 cases ru
 obtain ⟨z,its,n,r,hl,e⟩:=I.lstM hH
 obtain ⟨z2,its2,n2,r2,hl2,e2⟩:=I.lstR hB
 have hsz:its.toArray.size+its2.toArray.size≤sizeLine:=by rw [List.size_toArray,List.size_toArray];omega
 have hlong:¬ (!its.toArray.isEmpty&&Builtin.List.listTooLong (its.toArray.size+its2.toArray.size))=true:=by
  rw [notLongL hsz,Bool.and_false]
  exact Bool.false_ne_true
 refine call_meets F.slot_list_extend ⟨_,e,rfl⟩ F.entry_list_extend (F.args_list_extend_2 _ _)
  (AutoSeq1.list_extend_list_list_0 l its.toArray n b its2.toArray n2 hlong (by rw [List.size_toArray];omega) (by omega)) ⟨e,e2,?_⟩
 refine ⟨.non,_,I.lset (its':=its++its2) hH e (by simp) (r.append r2) ?_,rfl,q⟩
 rw [List.length_append]
 omega
theorem v4p {x:Str}{p apos cpos:Pos} (i:Nat) (he:DE X xq e fe) (hN:X.N[i]?=some x:=by rfl) (hv:Vis X.env.scope x:=by first | exact Or.inl rfl | exact Or.inr (Or.inl rfl) | exact Or.inr (Or.inr rfl)) (hd:(x==("__debug__":Str))=false:=by decide) (hcd:(x==("__classdict__":Str))=false:=by decide)
  (hs:notStar e=true:=by rfl) (hbase:attributeBase (.Name x p) "extend" X.env (eval (.Name x p) X.env)=eval (.Name x p) X.env:=by rfl) (hline:(apos.endLine==cpos.line)=true:=by rfl)
  (hsw:swapsWith (.Call (.Attribute (.Name x p) "extend" apos) [e] [] cpos) none pos.line X.env=pure false:=by rfl) :
  DS X xq (.Expr (.Call (.Attribute (.Name x p) "extend" apos) [e] [] cpos) pos) (fun ρ=>(getL ρ i).go ρ fun ds=>(fe ρ).go ρ fun d=>match d with | .lst es=>if ds.length+es.length≤sizeLine then .nx (ρ.set i (some (.own (.l (ds++es))))) else .bad | _=>.bad) :=
 DS.of (u2U (pbm PySem.F.plainAttrs_list PySem.F.slot_list_extend PySem.F.type_list_extend v1x (u2D hN hv hd hcd) (pac he.out u4G hs) (by rw [List.all_cons,hs];rfl) rfl hbase hline) hsw) fun B F ρ σ H T R q=>by
  obtain ⟨ds,e1,q1⟩:=u8v (u0y q.out)
  obtain ⟨l,h,h1,h2,h3,h4,h5⟩:=R.own i _ e1
  cases h5 with
  | l hs =>
   refine ⟨.ref l,h1,.inl ⟨rfl,_,.inl (.inl h4)⟩,B,F,ρ,R,Res.all_mono (u0y q1) (fun d q2 v F' H' st pv=>?_) fun _ z=>errOf z⟩
   cases pv with
   | @lst b zs es hq rs =>
    have q2:(if ds.length+es.length≤sizeLine then Out.nx (ρ.set i (some (.own (.l (ds++es))))) else .bad).all _ _ _ _ _:=q2
    by_cases hz:ds.length+es.length≤sizeLine
    ·rw [if_pos hz] at q2
     have R':=R.step st
     exact ⟨l,b,_,zs,rfl,rfl,st.hh _ _ h4,hq.same st.fh,by rw [hs.length,rs.length];exact hz,q2 σ F' _ (R'.write (e:=e1) h1 (.l ((hs.same st.ff).append rs)))⟩
    ·rw [if_neg hz] at q2;exact q2.elim
   | _=>exact q2.elim
end
@[simp] theorem u5C {α:Type} (a:α):noE (Res.ok a)=.ok a:=rfl
@[simp] theorem noE_bad {α:Type}:noE (Res.bad:Res α)=.bad:=rfl
@[simp] theorem asB_bl (b:Bool):asB (.bl b)=.ok b:=rfl
@[simp] theorem dI0_ii (g:Int→Int→D) (i j:Int):dI0 g (.int i) (.int j)=.ok (g i j):=rfl
@[simp] theorem u0N (C:Int→Int→Prop) [∀ i j,Decidable (C i j)] (g:Int→Int→D) (i j:Int):dI C g (.int i) (.int j)=gd (C i j) (.ok (g i j)):=rfl
@[simp] theorem outR_nx (ρ:Rho):outR (.nx ρ)=.ok .non:=rfl
@[simp] theorem outR_rt (d:D):outR (.rt d)=.ok d:=rfl
@[simp] theorem outR_er (x:D) (ρ:Rho):outR (.er x ρ)=.err x:=rfl
@[simp] theorem frz_nil:frz []=[]:=rfl
@[simp] theorem frz_val (d:D) (ρ:Rho):frz (some (.val d)::ρ)=some (.val d)::frz ρ:=rfl
@[simp] theorem frz_own (o:OD) (ρ:Rho):frz (some (.own o)::ρ)=some (.val o.toD)::frz ρ:=rfl
@[simp] theorem frz_none (ρ:Rho):frz (none::ρ)=none::frz ρ:=rfl
@[simp] theorem frz_rep (n:Nat):frz (List.replicate n none)=List.replicate n none:=by unfold frz;simp
@[simp] theorem getV_zero (d:D) (ρ:Rho):getV (some (.val d)::ρ) 0=.ok d:=rfl
@[simp] theorem getV_succ (x:Option Sl) (ρ:Rho) (i:Nat):getV (x::ρ) (i+1)=getV ρ i:=rfl
@[simp] theorem getL_zero (ds:List D) (ρ:Rho):getL (some (.own (.l ds))::ρ) 0=.ok ds:=rfl
@[simp] theorem getL_succ (x:Option Sl) (ρ:Rho) (i:Nat):getL (x::ρ) (i+1)=getL ρ i:=rfl
@[simp] theorem v2L (ds:List D):(OD.l ds).toD=.lst ds:=rfl
@[simp] theorem szD_pos {α:Type}{ds:List D}{k:Res α} (h:ds.length≤sizeLine):szD ds k=k:=if_pos h
@[simp] theorem unset_nx (i:Nat) (ρ:Rho):unset i (.nx ρ)=.nx (ρ.set i none):=rfl
@[simp] theorem catch_nx (hd:D→Rho→Out) (ρ:Rho):catchD hd (.nx ρ)=.nx ρ:=rfl
@[simp] theorem catch_rt (hd:D→Rho→Out) (d:D):catchD hd (.rt d)=.rt d:=rfl
@[simp] theorem catch_er (hd:D→Rho→Out) (x:D) (ρ:Rho):catchD hd (.er x ρ)=hd x ρ:=rfl
@[simp] theorem chain_eq (g g':D→D→Res D) (x y:D) (z:Res D):fChain g g' x y z=(noE (g x y)).bind fun w=>(asB w).bind fun c=>if c=true then z.bind fun z=>noE (g' y z) else .ok (.bl false):=rfl
theorem u0K {g:D→Rho→Res Rho}{fT:Rho→Res Bool}{fe:Rho→Res D}{ρ:Rho} (h:D→D):∀ {ds:List D},(∀ d∈ds,∃ ρ1,g d ρ=.ok ρ1∧fT (frz ρ1)=.ok true∧fe ρ1=.ok (h d))→compD g fT fe ρ ds=.ok (ds.map h)
 | [],_=>rfl
 | d::ds,k=>by
  obtain ⟨ρ1,k1,k2,k3⟩:=k d List.mem_cons_self
  simp [compD,k1,k2,k3,u0K h fun x hx=>k x (List.mem_cons_of_mem _ hx)]
theorem u0Y {g:D→Rho→Res Rho}{fT:Rho→Res Bool}{fe:Rho→Res D}{ρ:Rho} (p:D→Bool) (h:D→D):∀ {ds:List D},(∀ d∈ds,∃ ρ1,g d ρ=.ok ρ1∧fT (frz ρ1)=.ok (p d)∧(p d=true→fe ρ1=.ok (h d)))→compD g fT fe ρ ds=.ok ((ds.filter p).map h)
 | [],_=>rfl
 | d::ds,k=>by
  obtain ⟨ρ1,k1,k2,k3⟩:=k d List.mem_cons_self
  have ih:=u0Y p h (ds:=ds) fun x hx=>k x (List.mem_cons_of_mem _ hx)
  cases e:p d with
  | true=>simp [compD,k1,k2,e,k3 e,ih]
  | false=>simp [compD,k1,k2,e,ih]
noncomputable def hashW (w:World) (k:List DK):Int:=(DK.t k).hash w
mutual
noncomputable def dkOf:D→Option DK
 | .int n=>some (.i n)
 | .str z=>some (.s z)
 | .tup ds=>(dksOf ds).map .t
 | _=>none
noncomputable def dksOf:List D→Option (List DK)
 | []=>some []
 | d::ds=>match dkOf d,dksOf ds with
  | some k,some ks=>some (k::ks)
  | _,_=>none
end
mutual
theorem v3U:∀ (d:D) (k:DK),dkOf d=some k→k.toD=d
 | .int n,k,e=>by simp only [dkOf] at e;cases e;rfl
 | .str n,k,e=>by simp only [dkOf] at e;cases e;rfl
 | .tup ds,k,e=>by
  simp only [dkOf] at e
  cases q:dksOf ds with
  | none=>rw [q] at e;cases e
  | some ks=>rw [q] at e;cases e;simp only [DK.toD];rw [u5b ds ks q]
 | .non,_,e | .bl _,_,e | .ty _,_,e | .lst _,_,e | .dct _,_,e | .ins _ _,_,e | .exc _ _,_,e | .dn _ _,_,e=>by simp only [dkOf] at e;cases e
theorem u5b:∀ (ds:List D) (ks:List DK),dksOf ds=some ks→DK.toDs ks=ds
 | [],_,e=>by simp only [dksOf] at e;cases e;rfl
 | d::ds,_,e=>by
  simp only [dksOf] at e
  cases q:dkOf d with
  | none=>rw [q] at e;cases e
  | some k =>
   cases q2:dksOf ds with
   | none=>rw [q,q2] at e;cases e
   | some ks=>rw [q,q2] at e;cases e;simp only [DK.toDs];rw [v3U d k q,u5b ds ks q2]
end
noncomputable def keyOf:D→Res (List DK)
 | .tup ds=>match dksOf ds with
  | some ks=>gd (okK ks=true) (.ok ks)
  | none=>.bad
 | _=>.bad
theorem u9f {d:D}{P:List DK→Prop}{E:D→Prop} (h:(keyOf d).all P E):∃ ks,(DK.t ks).toD=d∧okK ks=true∧P ks:=by
 cases d with
 | tup ds =>
  simp only [keyOf] at h
  cases q:dksOf ds with
  | none=>rw [q] at h;exact h.elim
  | some ks =>
   rw [q] at h
   obtain ⟨h1,h2⟩:=u2C h
   exact ⟨ks,by simp only [DK.toD];rw [u5b ds ks q],h1,h2⟩
 | _=>exact h.elim
section
variable {X:Cx}{pins:LO}{σ:St}{H:Hp}{s:Shared}{F:Hp}
mutual
theorem v4j (I:Inv X pins σ H s) (fh:Same F H):∀ (k:DK) {v:V}{u:Value},Rp X.K F v k.toD→RelV v u→KAt s.heap k u
 | .i n,_,_,p,r=>by simp only [DK.toD] at p;cases p;obtain ⟨t,rfl⟩:=r;exact .i n t
 | .s n,_,_,p,r=>by simp only [DK.toD] at p;cases p;obtain ⟨t,rfl⟩:=r;exact .s n t
 | .t ks,_,_,p,r=>by
  simp only [DK.toD] at p
  cases p with
  | tup hq hs =>
   cases r
   obtain ⟨its,rv,pl,_⟩:=I.tuple (fh.seqT hq)
   obtain ⟨o,ho,hc,n,hd⟩:=pl
   exact .t ho hc hd (by simpa using v1J I fh ks hs rv)
theorem v1J (I:Inv X pins σ H s) (fh:Same F H):∀ (ks:List DK) {vs:List V}{us:List Value},Rps X.K F vs (DK.toDs ks)→Vals vs us→KAts s.heap ks us
 | [],_,_,p,r=>by simp only [DK.toDs] at p;cases p;cases r;exact .nil
 | k::ks,_,_,p,r=>by
  simp only [DK.toDs] at p
  cases p with
  | cons p1 p2 =>
   cases r with
   | cons r1 r2=>exact .cons (v4j I fh k p1 r1) (v1J I fh ks p2 r2)
end
theorem nk_is (I:Inv X pins σ H s) (fh:Same F H) {k:List DK}{q:Addr} (o:okK k=true) (p:Rp X.K F (.ref q) (DK.t k).toD):(nestKind X.prog X.w).is s.heap k q:=by
 unfold okK at o
 rw [Bool.and_eq_true] at o
 exact ⟨v4j I fh _ p rfl,of_decide_eq_true o.1,o.2⟩
theorem Rpn.each (I:Inv X pins σ H s) (fh:Same F H):∀ {xs:List (List DK×Addr×Value)}{kvs:List (List DK×D)},Rpn X.K F xs kvs→∀ x∈xs,(nestKind X.prog X.w).is s.heap x.1 x.2.1
 | _,_,.nil,x,hx=>by cases hx
 | _,_,.cons o h r h2 hs,x,hx=>by
  rcases List.mem_cons.mp hx with rfl | hx
  ·exact nk_is I fh o h
  ·exact hs.each I fh x hx
theorem nd_of {a:Addr}{xs:List (List DK×Addr×Value)}{kvs:List (List DK×D)} (I:Inv X pins σ H s) (fh:Same F H) (e:H a=some (NDO a (hashW X.w) xs)) (r:Rpn X.K F xs kvs):s.heap.DictOfH (nestKind X.prog X.w) a xs∧xs.length≤sizeLine∧(a==sysModules)=false:=by
 obtain ⟨o,es,ep,h1,h2,h3,h4,h5,h6,h7⟩:=(show ObjOk X.prog X.w H s.heap a (NDO a (hashW X.w) xs) from I.hok a _ e).1
 exact ⟨⟨o,es,ep,h1,h2,h3,h4,r.each I fh,h5⟩,h6,h7⟩
theorem Rpn.at {k:List DK}:∀ {xs:List (List DK×Addr×Value)}{kvs:List (List DK×D)},Rpn X.K F xs kvs→((atKey xs k).isSome=true↔k∈kvs.map (·.1))
 | _,_,.nil=>by simp [atKey]
 | _,_,.cons (k:=k') o h r h2 hs=>by
  have ih:=hs.at (k:=k)
  by_cases e:k'=k
  ·subst e;simp [atKey]
  ·have e':¬ k=k':=fun z=>e z.symm
   simp only [atKey,List.find?_cons,e,decide_false,List.map_cons,List.mem_cons,e',false_or] at ih ⊢
   exact ih
theorem Rpn.atB {k:List DK}{xs:List (List DK×Addr×Value)}{kvs:List (List DK×D)} (r:Rpn X.K F xs kvs):(atKey xs k).isSome=decide (k∈kvs.map (·.1)):=by
 rw [Bool.eq_iff_iff,decide_eq_true_iff];exact r.at
noncomputable def inN (w:World) (neg:Bool) (x:D) (hs:List DK→Int) (kvs:List (List DK×D)):Res D:=(keyOf x).bind fun k=>@ite _ (hs=hashW w) (_root_.Classical.propDecidable _) (.ok (.bl (if neg=true then !decide (k∈kvs.map (·.1)) else decide (k∈kvs.map (·.1))))) .bad
noncomputable def dInN (w:World) (neg:Bool):D→D→Res D
 | x,.dn hs kvs=>inN w neg x hs kvs
 | x,y=>dInG neg x y
theorem v2s (w:World) (neg:Bool) (x:D) (hs:List DK→Int) (kvs:List (List DK×D)):dInN w neg x (.dn hs kvs)=inN w neg x hs kvs:=by unfold dInN;rfl
set_option tactic.hygienic true in
theorem v3s (hu:X.A.units+200<cLine):OpR X (compareOp .In) (rD X.K (dInN X.w false)):=by
 intro pins s σ H x y v u Q I rx ry ⟨F,dx,dy,fh,px,py,q⟩
 cases py with
 | dn hq hr =>
  rw [v2s] at q
  unfold inN at q
  obtain ⟨k,e,ok,q2⟩:=u9f (Res.all_bind.mp q)
  clear q
  split at q2
  ·rename_i hh
   subst hh
   subst e
   have px':=px
   simp only [DK.toD] at px'
   cases px' with
   | tup _ _ =>
    cases rx
    cases ry
    obtain ⟨dd,hz,hd⟩:=nd_of I fh (fh _ _ hq) hr
    refine wpAny_in_heap (knd:=nestKind X.prog X.w) (by show X.A.units+1+80<cLine;omega) (nk_is I fh ok px) hd dd ?_
    rw [hr.atB]
    exact ⟨.bl _,H,I.tok _,rfl,q2 _ F H (Stp.refl fh) (.bl _)⟩
  ·exact q2.elim
 | lst hq hs=>exact o_in (by omega) pins s σ H x _ v u Q I rx ry ⟨F,dx,_,fh,px,.lst hq hs,q⟩
 | tup hq hs=>exact o_in (by omega) pins s σ H x _ v u Q I rx ry ⟨F,dx,_,fh,px,.tup hq hs,q⟩
 | str hz=>exact o_in (by omega) pins s σ H x _ v u Q I rx ry ⟨F,dx,_,fh,px,.str hz,q⟩
 | _=>cases dx <;> exact q.elim
noncomputable def putN (kvs:List (List DK×D)) (k:List DK) (d:D):List (List DK×D):=if k∈kvs.map (·.1) then kvs.map (fun p=>if p.1=k then (p.1,d) else p) else kvs++[(k,d)]
theorem Rpn.length:∀ {xs:List (List DK×Addr×Value)}{kvs:List (List DK×D)},Rpn X.K F xs kvs→xs.length=kvs.length
 | _,_,.nil=>rfl
 | _,_,.cons _ _ _ _ hs=>congrArg (·+1) hs.length
theorem Rpn.mapped {k:List DK}{d:D}{v:V}{u:Value} (ru:RelV v u) (pd:Rp X.K F v d):∀ {xs:List (List DK×Addr×Value)}{kvs:List (List DK×D)},Rpn X.K F xs kvs→Rpn X.K F (xs.map (putAt k u)) (kvs.map (fun p=>if p.1=k then (p.1,d) else p))
 | _,_,.nil=>.nil
 | _,_,.cons (k:=k') o h r h2 hs=>by
  by_cases e:k'=k
  ·subst e
   simp only [List.map_cons,putAt,if_true]
   exact .cons o h ru pd (hs.mapped ru pd)
  ·simp only [List.map_cons,putAt,if_neg e]
   exact .cons o h r h2 (hs.mapped ru pd)
theorem Rpn.snoc {k:List DK}{q:Addr}{d:D}{v:V}{u:Value} (o:okK k=true) (pk:Rp X.K F (.ref q) (DK.t k).toD) (ru:RelV v u) (pd:Rp X.K F v d):∀ {xs:List (List DK×Addr×Value)}{kvs:List (List DK×D)},Rpn X.K F xs kvs→Rpn X.K F (xs++[(k,q,u)]) (kvs++[(k,d)])
 | _,_,.nil=>.cons o pk ru pd .nil
 | _,_,.cons o' h r h2 hs=>.cons o' h r h2 (hs.snoc o pk ru pd)
theorem Rpn.put {k:List DK}{q:Addr}{d:D}{v:V}{u:Value}{xs:List (List DK×Addr×Value)}{kvs:List (List DK×D)} (o:okK k=true) (pk:Rp X.K F (.ref q) (DK.t k).toD) (ru:RelV v u) (pd:Rp X.K F v d) (r:Rpn X.K F xs kvs):Rpn X.K F (storedH xs k q u) (putN kvs k d):=by
 unfold storedH putN
 by_cases e:k∈kvs.map (·.1)
 ·rw [if_pos e,if_pos (r.at.mpr e)];exact r.mapped ru pd
 ·rw [if_neg e,if_neg (fun z=>e (r.at.mp z))];exact r.snoc o pk ru pd
theorem dn_new {xq:XQ}{pos:Pos}:DN X xq (.Dict [] [] pos) (fun _=>.ok (.n (hashW X.w) [])):=⟨fun pins s σ H Q I z9=>un5 z9 fun B F ρ R q=>by
 refine wpAny_Dict_empty ⟨.ref s.heap.objs.size,_,I.laid (a:=s.heap.objs.size) (o:=NDO s.heap.objs.size (hashW X.w) []) (t':=s.toks) (fun _ _ z=>Heap.get?_push_of_some _ z) (Nat.le_refl _) ?_,rfl,?_⟩
 ·refine ⟨⟨_,#[],_,Heap.get?_push_size _ rfl,⟨rfl,rfl,rfl⟩,rfl,rfl,List.nodup_nil,Nat.zero_le _,?_⟩,⟨_,Heap.get?_push_size _ rfl⟩,fun h1 h2 ⟨o,es,ep,e1,e2⟩ k=>⟨o,es,ep,k _ e1,e2⟩⟩
  exact (u9y (P:=X.prog) (w:=X.w) (H:=H) s.heap I.big).2.1
 ·have n:=I.hok.fresh (Nat.le_refl s.heap.objs.size)
  exact q _ _ F _ (Stp.only R.fh (u0h n)) (R.fh.free n) n u0g (.n .nil)⟩
theorem u7F {xq:XQ}{pos:Pos}:DN X xq (.Dict [] [] pos) (fun _=>.ok (.d [])):=⟨fun pins s σ H Q I z9=>un5 z9 fun B F ρ R q=>v3i pins s σ H Q I fun d n=>q d _ F _ (Stp.only R.fh (u0h n)) (R.fh.free n) n u0g (.d .nil)⟩
end
noncomputable def getN (ρ:Rho) (i:Nat):Res ((List DK→Int)×List (List DK×D)):=match ρ[i]? with
 | some (some (.own (.n hs kvs)))=>.ok (hs,kvs)
 | _=>.bad
set_option tactic.hygienic true in
theorem getN_ok {ρ:Rho}{i:Nat}{P:(List DK→Int)×List (List DK×D)→Prop}{E:D→Prop} (h:(getN ρ i).all P E):∃ hs kvs,ρ[i]?=some (some (.own (.n hs kvs)))∧P (hs,kvs):=by
 unfold getN at h
 split at h
 ·rename_i hs kvs e;exact ⟨hs,kvs,e,h⟩
 ·exact h.elim
theorem u9N {xs:List (List DK×Addr×Value)}{k:List DK}{a:Addr}{u:Value}:(storedH xs k a u).length≤xs.length+1:=by
 unfold storedH
 split
 ·simp
 ·simp
section
variable {X:Cx}{xq:XQ}{i value:Expr}{fi fv:Rho→Res D}{x:Str}{p pos pos':Pos}
noncomputable def fPutN (w:World) (j:Nat) (fi fv:Rho→Res D) (ρ:Rho):Out:=(fv ρ).go ρ fun d=>(getN ρ j).go ρ fun o=>(fi ρ).go ρ fun kd=>(keyOf kd).go ρ fun k =>
 @ite _ (o.1=hashW w∧o.2.length<sizeLine) (_root_.Classical.propDecidable _) (.nx (ρ.set j (some (.own (.n o.1 (putN o.2 k d)))))) .bad
set_option tactic.hygienic true in
theorem ds_putN (j:Nat) (hu:X.A.units+200<cLine) (hi:DE X xq i fi) (hv:DE X xq value fv) (hN:X.N[j]?=some x:=by rfl) (hvs:Vis X.env.scope x:=by first | exact Or.inl rfl | exact Or.inr (Or.inl rfl) | exact Or.inr (Or.inr rfl)) (hd:(x==("__debug__":Str))=false:=by decide) (hcd:(x==("__classdict__":Str))=false:=by decide)
  (hs:swapsWith value (some (.Subscript (.Name x p) i pos')) pos.line X.env=pure false:=by rfl):DS X xq (.Assign [.Subscript (.Name x p) i pos'] value pos) (fPutN X.w j fi fv):=⟨fun pins s σ H T I z9=>un5 z9 fun B F ρ R q=>by
 have q:=q.out
 unfold fPutN at q
 refine wpAny_Assign_Subscript (thn (hv.out pins s σ H (fun v H1=>∃ d F1 a,σ[j]?=some (some (.ref a))∧Stp F H F1 H1∧Rp X.K F1 v d∧∃ hs kvs,ρ[j]?=some (some (.own (.n hs kvs)))∧((fi ρ).go ρ fun kd=>(keyOf kd).go ρ fun k=>@ite _ (hs=hashW X.w∧kvs.length<sizeLine) (_root_.Classical.propDecidable _) (.nx (ρ.set j (some (.own (.n hs (putN kvs k d)))))) .bad).all
  (fun ρ=>∀ σ F H,Rel X.K B ρ σ F H→T.nx σ H) (fun d=>∀ v F H,Stp B.1 B.2 F H→Rp X.K F v d→T.rt v H) (fun ρ=>∀ σ F H,Rel X.K B ρ σ F H→T.bk σ H) (fun ρ=>∀ σ F H,Rel X.K B ρ σ F H→T.ct σ H) (fun ρ x=>∀ v σ F H,Rel X.K B ρ σ F H→Rp X.K F v x→xq v σ H)) I ?_) fun r s1 ⟨v,H1,I1,rv,d,F1,a,ha,st1,pv,hh,kvs,eo,q1⟩ =>
  thn (u2D hN hvs hd hcd pins s1 σ H1 (fun x H2=>x=.ref a∧H2=H1) I1 ⟨.ref a,ha,rfl,rfl⟩) fun u s2 ⟨y,H2,I2,ry,ey,eH⟩=>?_) hs
 ·refine ⟨B,F,ρ,R,Res.all_mono (u0y q) (fun d q1 v F1 H1 st pv=>?_) fun _ z=>errOf z⟩
  obtain ⟨hh,kvs,eo,q2⟩:=getN_ok (u0y q1)
  obtain ⟨a,h,h1,_⟩:=R.own j _ eo
  exact ⟨d,F1,a,h1,st,pv,hh,kvs,eo,q2⟩
 ·subst ey eH
  cases ry
  have R1:=R.step st1
  refine thn (hi.out pins s2 σ H2 (fun y H3=>∃ F3 k,Stp F1 H2 F3 H3∧Rp X.K F3 y (DK.t k).toD∧okK k=true∧hh=hashW X.w∧kvs.length<sizeLine∧∀ σ F H,Rel X.K B (ρ.set j (some (.own (.n hh (putN kvs k d))))) σ F H→T.nx σ H) I2 ?_) fun iv s3 ⟨y,H3,I3,ry,F3,k,st3,pk,ok,eh,hl,q3⟩=>?_
  ·refine ⟨B,F1,ρ,R1,Res.all_mono (u0y q1) (fun kd q2 y F3 H3 st3 py=>?_) fun _ z=>errOf z⟩
   obtain ⟨k,ek,ok,q3⟩:=u9f (u0y q2)
   subst ek
   split at q3
   ·rename_i c;exact ⟨F3,k,st3,py,ok,c.1,c.2,q3⟩
   ·exact q3.elim
  ·subst eh
   have R3:=R1.step st3
   obtain ⟨a',h,h1,h2,h3,h4,h5⟩:=R3.own j _ eo
   rw [ha] at h1;cases h1
   cases h5 with
   | n hr =>
    have pk':=pk
    simp only [DK.toD] at pk'
    cases pk' with
    | @tup b _ _ _ _ =>
     cases ry
     obtain ⟨dd,hz,hsy⟩:=nd_of I3 R3.fh h4 hr
     refine wpAny_setItem_heap (knd:=nestKind X.prog X.w) (hsz:=hz) (by show X.A.units+1+80<cLine;omega) (nk_is I3 R3.fh ok pk) dd fun h' dd' sb=>?_
     obtain ⟨o,es,ep,e1,e2,e3,e4,_,e5⟩:=dd'
     have pv3:=pv.same st3.ff
     refine ⟨σ,_,u6w (ob:=NDO a (hashW X.w) (storedH _ k b r)) I3 (by rw [h4];exact True.intro) sb ⟨o,e1⟩ ⟨⟨o,es,ep,e1,e2,e3,e4,e5,?_,hsy⟩,⟨o,e1⟩,fun g1 g2 ⟨o,es,ep,f1,f2⟩ kk=>⟨o,es,ep,kk _ f1,f2⟩⟩,q3 σ F3 _ (R3.write (e:=eo) ha (.n (hr.put ok pk rv pv3)))⟩
     exact Nat.le_trans u9N (by rw [hr.length];omega)⟩
end
noncomputable def keyK:D→Res Key
 | .int i=>.ok (.inl i)
 | .str z=>.ok (.inr z)
 | _=>.bad
theorem u4T {K:W.Frag}{F:Hp}{v:V}{d:D}{P:Key→Prop}{E:D→Prop} (p:Rp K F v d) (h:(keyK d).all P E):∃ k,v=kV k∧P k:=by
 cases p with
 | int i=>exact ⟨.inl i,rfl,h⟩
 | str _=>exact ⟨.inr _,rfl,h⟩
 | _=>exact h.elim
noncomputable def eqK:D→Key→Bool
 | .int i,.inl j=>decide (i=j)
 | .str a,.inr b=>decide (a=b)
 | _,_=>false
theorem u5J (k' k:Key):eqK (kD k') k=decide (k'=k):=by
 cases k' <;> cases k <;> simp [eqK,kD]
noncomputable def putD (ps:List (D×D)) (k:Key) (d:D):List (D×D):=if ps.any (fun p=>eqK p.1 k)=true then ps.map (fun p=>if eqK p.1 k=true then (p.1,d) else p) else ps++[(kD k,d)]
noncomputable def valD (ps:List (D×D)) (k:Key):Option D:=(ps.find? fun p=>eqK p.1 k).map (·.2)
section
variable {K:W.Frag}{F:Hp}
theorem Rpk.length:∀ {kvs:List (Key×V)}{ps:List (D×D)},Rpk K F kvs ps→kvs.length=ps.length
 | _,_,.nil=>rfl
 | _,_,.cons _ hs=>congrArg (·+1) hs.length
theorem Rpk.any {k:Key}:∀ {kvs:List (Key×V)}{ps:List (D×D)},Rpk K F kvs ps→(kvs.any fun kv=>decide (kv.1=k))=ps.any (fun p=>eqK p.1 k)
 | _,_,.nil=>rfl
 | _,_,.cons h hs=>by simp only [List.any_cons,u5J,hs.any]
theorem Rpk.mapped {k:Key}{d:D}{v:V} (pd:Rp K F v d):∀ {kvs:List (Key×V)}{ps:List (D×D)},Rpk K F kvs ps→Rpk K F (kvs.map (fun kv=>if kv.1=k then (kv.1,v) else kv)) (ps.map (fun p=>if eqK p.1 k=true then (p.1,d) else p))
 | _,_,.nil=>.nil
 | _,_,.cons (k:=k') h hs=>by
  by_cases e:k'=k
  ·simp only [List.map_cons,u5J,e,decide_true,if_true];exact .cons pd (hs.mapped pd)
  ·simp only [List.map_cons,u5J,e,decide_false,if_false];exact .cons h (hs.mapped pd)
theorem Rpk.snoc {k:Key}{d:D}{v:V} (pd:Rp K F v d):∀ {kvs:List (Key×V)}{ps:List (D×D)},Rpk K F kvs ps→Rpk K F (kvs++[(k,v)]) (ps++[(kD k,d)])
 | _,_,.nil=>.cons pd .nil
 | _,_,.cons h hs=>.cons h (hs.snoc pd)
theorem Rpk.put {k:Key}{d:D}{v:V}{kvs:List (Key×V)}{ps:List (D×D)} (pd:Rp K F v d) (r:Rpk K F kvs ps):Rpk K F (putK kvs k v) (putD ps k d):=by
 unfold putK putD
 rw [r.any (k:=k)]
 split
 ·exact r.mapped pd
 ·exact r.snoc pd
theorem Rpk.val {k:Key}:∀ {kvs:List (Key×V)}{ps:List (D×D)},Rpk K F kvs ps→(match valD ps k with | some d=>∃ v,valV kvs k=some v∧Rp K F v d | none=>valV kvs k=none)
 | _,_,.nil=>rfl
 | _,_,.cons (k:=k') h hs=>by
  have ih:=hs.val (k:=k)
  by_cases e:k'=k
  ·subst e;simp only [valD,valV,List.find?_cons,u5J,decide_true,Option.map_some];exact ⟨_,rfl,h⟩
  ·simp only [valD,valV,List.find?_cons,u5J,e,decide_false] at ih ⊢;exact ih
end
noncomputable def getD' (ρ:Rho) (i:Nat):Res (List (D×D)):=match ρ[i]? with
 | some (some (.own (.d kvs)))=>.ok kvs
 | _=>.bad
set_option tactic.hygienic true in
theorem getD'_ok {ρ:Rho}{i:Nat}{P:List (D×D)→Prop}{E:D→Prop} (h:(getD' ρ i).all P E):∃ kvs,ρ[i]?=some (some (.own (.d kvs)))∧P kvs:=by
 unfold getD' at h
 split at h
 ·rename_i kvs e;exact ⟨kvs,e,h⟩
 ·exact h.elim
section
variable {X:Cx}{xq:XQ}{i value:Expr}{fi fv:Rho→Res D}{x:Str}{p pos pos':Pos}
noncomputable def fPutD (j:Nat) (fi fv:Rho→Res D) (ρ:Rho):Out:=(fv ρ).go ρ fun d=>(getD' ρ j).go ρ fun ps=>(fi ρ).go ρ fun kd=>(keyK kd).go ρ fun k=>if ps.length<sizeLine then .nx (ρ.set j (some (.own (.d (putD ps k d))))) else .bad
theorem u8x (j:Nat) (hu:X.A.units+200<cLine) (hi:DE X xq i fi) (hv:DE X xq value fv) (hN:X.N[j]?=some x:=by rfl) (hvs:Vis X.env.scope x:=by first | exact Or.inl rfl | exact Or.inr (Or.inl rfl) | exact Or.inr (Or.inr rfl)) (hd:(x==("__debug__":Str))=false:=by decide) (hcd:(x==("__classdict__":Str))=false:=by decide)
  (hs:swapsWith value (some (.Subscript (.Name x p) i pos')) pos.line X.env=pure false:=by rfl):DS X xq (.Assign [.Subscript (.Name x p) i pos'] value pos) (fPutD j fi fv) :=
 DS.of (ps_dput (by omega) (u2D hN hvs hd hcd) hi.out hv.out hs) fun B F ρ σ H T R q=>by
  have q:=q.out
  unfold fPutD at q
  refine ⟨B,F,ρ,R,Res.all_mono (u0y q) (fun d q1 v F1 H1 st pv=>?_) fun _ z=>errOf z⟩
  obtain ⟨ps,eo,q2⟩:=getD'_ok (u0y q1)
  have R1:=R.step st
  obtain ⟨a,h,h1,h2,h3,h4,h5⟩:=R1.own j _ eo
  refine ⟨.ref a,h1,B,F1,ρ,R1,Res.all_mono (u0y q2) (fun kd q3 y F3 H3 st3 py=>?_) fun _ z=>errOf z⟩
  have R3:=R1.step st3
  obtain ⟨k,ek,q4⟩:=u4T py (u0y q3)
  subst ek
  obtain ⟨a',h',g1,g2,g3,g4,g5⟩:=R3.own j _ eo
  rw [h1] at g1;cases g1
  cases g5 with
  | d hr =>
   by_cases hz:ps.length<sizeLine
   ·rw [if_pos hz] at q4
    exact ⟨a,_,rfl,DPut.k g4 (by rw [hr.length];exact hz),q4 σ F3 _ (R3.write (e:=eo) h1 (.d (hr.put (pv.same st3.ff))))⟩
   ·rw [if_neg hz] at q4;exact q4.elim
noncomputable def dInA (w:World) (neg:Bool):D→D→Res D
 | x,.dct ps=>(keyK x).bind fun k=>.ok (.bl (if neg=true then !(valD ps k).isSome else (valD ps k).isSome))
 | x,y=>dInN w neg x y
theorem u9B (w:World) (neg:Bool) (x:D) (ps:List (D×D)):dInA w neg x (.dct ps)=(keyK x).bind fun k=>.ok (.bl (if neg=true then !(valD ps k).isSome else (valD ps k).isSome)):=by unfold dInA;rfl
theorem o_inA (hu:X.A.units+200<cLine):OpR X (compareOp .In) (rD X.K (dInA X.w false)):=by
 intro pins s σ H x y v u Q I rx ry ⟨F,dx,dy,fh,px,py,q⟩
 cases py with
 | @dK a kvs ps hq hr =>
  rw [u9B] at q
  obtain ⟨k,ek,q2⟩:=u4T px (Res.all_bind.mp q)
  subst ek
  cases ry
  refine d_in (by omega) I (DGet.k (fh _ _ hq)) rx fun s' I'=>⟨.bl _,H,I',rfl,?_⟩
  have:=hr.val (k:=k)
  cases e:valD ps k with
  | none=>rw [e] at this q2;rw [this];exact q2 _ F H (Stp.refl fh) (.bl _)
  | some d=>rw [e] at this q2;obtain ⟨z,hz,_⟩:=this;rw [hz];exact q2 _ F H (Stp.refl fh) (.bl _)
 | lst hq hs=>exact v3s hu pins s σ H x _ v u Q I rx ry ⟨F,dx,_,fh,px,.lst hq hs,q⟩
 | tup hq hs=>exact v3s hu pins s σ H x _ v u Q I rx ry ⟨F,dx,_,fh,px,.tup hq hs,q⟩
 | str hz=>exact v3s hu pins s σ H x _ v u Q I rx ry ⟨F,dx,_,fh,px,.str hz,q⟩
 | dn hq hs=>exact v3s hu pins s σ H x _ v u Q I rx ry ⟨F,dx,_,fh,px,.dn hq hs,q⟩
 | _=>cases dx <;> exact q.elim
end
noncomputable def fldD (C0:Addr) (f:Str):D→Res D
 | .ins C gs=>if C=C0 then (match gs.lookup f with | some d=>.ok d | none=>.bad) else .bad
 | _=>.bad
noncomputable def getI (ρ:Rho) (j:Nat):Res (Addr×Addr×List (Str×D)):=match ρ[j]? with
 | some (some (.own (.i a C gs)))=>.ok (a,C,gs)
 | _=>.bad
set_option tactic.hygienic true in
theorem v1Z {ρ:Rho}{i:Nat}{P:Addr×Addr×List (Str×D)→Prop}{E:D→Prop} (h:(getI ρ i).all P E):∃ a C gs,ρ[i]?=some (some (.own (.i a C gs)))∧P (a,C,gs):=by
 unfold getI at h
 split at h
 ·rename_i a C gs e;exact ⟨a,C,gs,e,h⟩
 ·exact h.elim
section
variable {X:Cx}{xq:XQ}{o e value:Expr}{es:List Expr}{fo fv:Rho→Res D}{fs:Rho→Res (List D)}{f x m:Str}{p pos pos' apos:Pos}{C0:Addr}
theorem u5s {K:W.Frag} (c:Cls K C0) (n:NoAttr K C0 f) (ho:DE X xq o fo) (eK:X.K=K:=by rfl) (hb:attributeBase o f X.env (eval o X.env)=eval o X.env:=by rfl):DE X xq (.Attribute o f pos) (fun ρ=>(fo ρ).bind (fldD C0 f)):=by
 subst eK
 refine DE.of (v4h ho.out hb) fun B F ρ σ H Q R q=>seqE R q fun d v F1 H1 s1 R1 p1 q1=>?_
 cases p1 with
 | @ins a C dx gs0 gs h1 h2 =>
  unfold fldD at q1
  dsimp only at q1
  by_cases hc:C=C0
  ·rw [if_pos hc] at q1
   subst hc
   cases hl:gs.lookup f with
   | none=>rw [hl] at q1;exact q1.elim
   | some d =>
    rw [hl] at q1
    obtain ⟨v,hv,pv⟩:=h2.lookup hl
    exact ⟨a,C,dx,gs0,v,rfl,R1.fh _ _ h1,c,n,hv,q1 v F1 H1 s1 pv⟩
  ·rw [if_neg hc] at q1;exact q1.elim
 | _=>exact q1.elim
theorem d_fldO {K:W.Frag} (j:Nat) (c:Cls K C0) (n:NoAttr K C0 f) (eK:X.K=K:=by rfl) (hN:X.N[j]?=some x:=by rfl) (hvs:Vis X.env.scope x:=by first | exact Or.inl rfl | exact Or.inr (Or.inl rfl) | exact Or.inr (Or.inr rfl)) (hd:(x==("__debug__":Str))=false:=by decide) (hcd:(x==("__classdict__":Str))=false:=by decide)
  (hb:attributeBase (.Name x p) f X.env (eval (.Name x p) X.env)=eval (.Name x p) X.env:=by rfl):DE X xq (.Attribute (.Name x p) f pos) (fun ρ=>(getI ρ j).bind fun t=>if t.2.1=C0 then (match t.2.2.lookup f with | some d=>.ok d | none=>.bad) else .bad):=by
 subst eK
 refine DE.of (v4h (u2D hN hvs hd hcd) hb) fun B F ρ σ H Q R q=>?_
 obtain ⟨a,C,gs,e1,q1⟩:=v1Z (Res.all_bind.mp q)
 obtain ⟨a',h,h1,h2,h3,h4,h5⟩:=R.own j _ e1
 cases h5 with
 | @i _ dx fs0 _ hr =>
  dsimp only at q1
  by_cases hc:C=C0
  ·rw [if_pos hc] at q1
   subst hc
   cases hl:gs.lookup f with
   | none=>rw [hl] at q1;exact q1.elim
   | some d =>
    rw [hl] at q1
    obtain ⟨v,hv,pv⟩:=hr.lookup hl
    exact ⟨.ref a,h1,a,C,dx,fs0,v,rfl,h4,c,n,hv,q1 v F H (Stp.refl R.fh) pv⟩
  ·rw [if_neg hc] at q1;exact q1.elim
theorem Rpf.length {K:W.Frag}{F:Hp}:∀ {fs:List (Str×V)}{gs:List (Str×D)},Rpf K F fs gs→fs.length=gs.length
 | _,_,.nil=>rfl
 | _,_,.cons _ hs=>congrArg (·+1) hs.length
noncomputable def putG (f:Str) (d:D):List (Str×D)→List (Str×D)
 | []=>[(f,d)]
 | (g,x)::r=>if g=f then (g,d)::r else (g,x)::putG f d r
theorem Rpf.put {K:W.Frag}{F:Hp}{f:Str}{v:V}{d:D} (pd:Rp K F v d):∀ {fs:List (Str×V)}{gs:List (Str×D)},Rpf K F fs gs→Rpf K F (putF f v fs) (putG f d gs)
 | _,_,.nil=>.cons pd .nil
 | _,_,.cons (k:=k) h hs=>by
  unfold putF putG
  by_cases e:k=f
  ·rw [if_pos e,if_pos e];exact .cons pd hs
  ·rw [if_neg e,if_neg e];exact .cons h (hs.put pd)
theorem v2k {K:W.Frag} (j:Nat) (c:Cls K C0) (n:NoAttr K C0 f) (hv:DE X xq value fv) (eK:X.K=K:=by rfl) (hN:X.N[j]?=some x:=by rfl) (hvs:Vis X.env.scope x:=by first | exact Or.inl rfl | exact Or.inr (Or.inl rfl) | exact Or.inr (Or.inr rfl)) (hd:(x==("__debug__":Str))=false:=by decide) (hcd:(x==("__classdict__":Str))=false:=by decide)
  (hs:swapsWith value (some (.Attribute (.Name x p) f pos')) pos.line X.env=pure false:=by rfl) :
  DS X xq (.Assign [.Attribute (.Name x p) f pos'] value pos) (fun ρ=>(fv ρ).go ρ fun d=>(getI ρ j).go ρ fun t=>if t.2.1=C0∧t.2.2.length<1000 then .nx (ρ.set j (some (.own (.i t.1 t.2.1 (putG f d t.2.2))))) else .bad):=by
 subst eK
 refine DS.of (ps_fld (u2D hN hvs hd hcd) hv.out hs) fun B F ρ σ H T R q=>⟨B,F,ρ,R,Res.all_mono (u0y q.out) (fun d q1 v F1 H1 st pv=>?_) fun _ z=>errOf z⟩
 obtain ⟨a,C,gs,e1,q2⟩:=v1Z (u0y q1)
 have R1:=R.step st
 obtain ⟨a',h,h1,h2,h3,h4,h5⟩:=R1.own j _ e1
 cases h5 with
 | @i _ dx fs0 _ hr =>
  dsimp only at q2
  by_cases hc:C=C0∧gs.length<1000
  ·rw [if_pos hc] at q2
   obtain ⟨rfl,hl⟩:=hc
   exact ⟨.ref a,h1,a,C,dx,fs0,rfl,h4,c,n,by rw [hr.length];exact hl,q2 σ F1 _ (R1.write (e:=e1) h1 (.i (hr.put pv)))⟩
  ·rw [if_neg hc] at q2;exact q2.elim
def MCallee (P:Program) (w:World) (K:W.Frag) (mg:MG) (base:Heap) (k:Nat) (C:Addr) (m:Str) (ps:List Str) (f:FD):Prop :=
 ∃ a fd,Cls K C∧Meth K C m a∧FnOk P w K mg base (CXe P w) k a fd ps (spX K f)∧Binds K fd ps []
noncomputable def isI (C0:Addr) (m:Str) (x:D):Res D:=match x with
 | .ins C gs=>if C=C0∧gs.lookup m=none then .ok x else .bad
 | _=>.bad
theorem u4P {K:W.Frag}{F:Hp}{m:Str}:∀ {fs:List (Str×V)}{gs:List (Str×D)},Rpf K F fs gs→gs.lookup m=none→fs.lookup m=none
 | _,_,.nil,_=>rfl
 | _,_,.cons (k:=k) h hs,e=>by
  rw [List.lookup_cons] at e ⊢
  cases q:m==k with
  | true=>rw [q] at e;cases e
  | false=>rw [q] at e;exact u4P hs e
theorem u9i {K:W.Frag}{F:Hp}{v:V}{d:D}{m:Str}{P:D→Prop}{E:D→Prop} (p:Rp K F v d) (h:(isI C0 m d).all P E):∃ a dx fs,v=.ref a∧F a=some (.ins C0 dx fs)∧fs.lookup m=none∧P d:=by
 cases p with
 | @ins a C dx fs gs h1 h2 =>
  unfold isI at h
  dsimp only at h
  by_cases hc:C=C0∧gs.lookup m=none
  ·rw [if_pos hc] at h
   obtain ⟨rfl,hl⟩:=hc
   exact ⟨a,dx,fs,rfl,h1,u4P h2 hl,h⟩
  ·rw [if_neg hc] at h;exact h.elim
 | _=>exact h.elim
theorem u1q {P:Program}{w:World}{K:W.Frag}{mg:MG}{base:Heap}{k k':Nat}{ps:List Str}{f:FD}{pl:Sem Bool} (hq:XqOk X xq) (h:MCallee P w K mg base k C0 m ps f) (hr:Room k' X.A) (ho:DE X xq o fo) (ha:DA X xq (e::es) fs) (hk:k≤k':=by decide)
  (eP:X.prog=P:=by rfl) (ew:X.w=w:=by rfl) (eK:X.K=K:=by rfl) (em:X.mg=mg:=by rfl) (eb:X.base=base:=by rfl)
  (ht:eval (.Call (.Attribute o m apos) (e::es) [] pos) X.env=(do
   let ov ← eval o X.env
   standAt apos.atName
   let (f,first) ← holding [ov] (getMethod ov m pl)
   callWith pos f first (backTo pos (starEach (e::es) X.env)) (backToKw pos (keywordEach [] X.env))):=by rfl) :
  DE X xq (.Call (.Attribute o m apos) (e::es) [] pos) (fun ρ=>(fo ρ).bind fun x=>(isI C0 m x).bind fun x=>(fs ρ).bind fun ds=>f (x::ds)):=⟨fun pins s σ H Q I z9=>un5 z9 fun B F ρ R q=>by
 subst eP ew eK em eb
 obtain ⟨fa,fd,c,hm,G,hb⟩:=h
 refine W.methodCall_KW (pl:=pl) (thn (ho.out pins s σ H (fun x H1=>∃ a dx fs0,x=.ref a∧H1 a=some (.ins C0 dx fs0)∧fs0.lookup m=none∧liftA X.K xq fs σ H1 fun vs H2=>spX X.K f (.ref a::vs) H2 Q (fun u _ H'=>∃ a,u=.ref a∧xq (.ref a) σ H')) I (seqE R q fun d v F1 H1 s1 R1 p1 q1=>?_)) fun u s1 ⟨x,H1,I1,rx,a,dx,fs0,ex,ea,l,q⟩=>?_) ht
 ·obtain ⟨a,dx,fs0,rfl,e1,e2,q2⟩:=u9i p1 (Res.all_bind.mp q1)
  refine ⟨a,dx,fs0,rfl,R1.fh _ _ e1,e2,seqA R1 q2 fun ds vs F2 H2 s2 R2 p2 q3=>v0T R2 (.cons (p1.same s2.ff) p2) (s1.trans s2) q3⟩
 ·subst ex
  obtain rfl:u=Value.ref a:=rx
  refine u2B I1 ea c hm l ?_
  refine W.callWith_K (first:=[.ref a]) (h₀:=X.base) I.ok.mod.kin hm.kp (thn (ha.out pos pins s1 σ H1 _ I1 q) fun us s2 ⟨vs,H2,I2,r,q2⟩=>⟨I2.kIn,?_⟩) (u0r (u0k ha.ns).1) (u1g (u0k ha.ns).2)
  exact u3A (us:=.ref a::us) (vs:=.ref a::vs) hq G (hr.mono hk) hb .nil I2 (.cons rfl r) (by rw [List.append_nil];exact q2)⟩
theorem u3f {P:Program}{w:World}{K:W.Frag}{mg:MG}{base:Heap}{k k':Nat}{ps:List Str}{f:FD}{pl:Sem Bool} (hq:XqOk X xq) (h:MCallee P w K mg base k C0 m ps f) (hr:Room k' X.A) (ho:DE X xq o fo) (hk:k≤k':=by decide)
  (eP:X.prog=P:=by rfl) (ew:X.w=w:=by rfl) (eK:X.K=K:=by rfl) (em:X.mg=mg:=by rfl) (eb:X.base=base:=by rfl)
  (ht:eval (.Call (.Attribute o m apos) [] [] pos) X.env=(do
   let ov ← eval o X.env
   standAt apos.atName
   let (f,first) ← holding [ov] (getMethod ov m pl)
   callWith pos f first (backTo pos (starEach [] X.env)) (backToKw pos (keywordEach [] X.env))):=by rfl) :
  DE X xq (.Call (.Attribute o m apos) [] [] pos) (fun ρ=>(fo ρ).bind fun x=>(isI C0 m x).bind fun x=>f [x]):=⟨fun pins s σ H Q I z9=>un5 z9 fun B F ρ R q=>by
 subst eP ew eK em eb
 obtain ⟨fa,fd,c,hm,G,hb⟩:=h
 refine W.methodCall_KW (pl:=pl) (thn (ho.out pins s σ H (fun x H1=>∃ a dx fs0,x=.ref a∧H1 a=some (.ins C0 dx fs0)∧fs0.lookup m=none∧spX X.K f [.ref a] H1 Q (fun u _ H'=>∃ a,u=.ref a∧xq (.ref a) σ H')) I (seqE R q fun d v F1 H1 s1 R1 p1 q1=>?_)) fun u s1 ⟨x,H1,I1,rx,a,dx,fs0,ex,ea,l,q⟩=>?_) ht
 ·obtain ⟨a,dx,fs0,rfl,e1,e2,q2⟩:=u9i p1 (Res.all_bind.mp q1)
  exact ⟨a,dx,fs0,rfl,R1.fh _ _ e1,e2,v0T R1 (.cons p1 .nil) s1 q2⟩
 ·subst ex
  obtain rfl:u=Value.ref a:=rx
  refine u2B I1 ea c hm l ?_
  exact W.callWith_K0 (first:=[.ref a]) I1.kIn hm.kp (u3A (us:=[.ref a]) (vs:=[.ref a]) hq G (hr.mono hk) hb .nil I1 (.cons rfl .nil) q)⟩
end
noncomputable def wo (H:Hp) (a:Addr):Hp:=fun b=>if b=a then none else H b
theorem wo_at (H:Hp) (a:Addr):wo H a a=none:=if_pos rfl
theorem wo_ne {H:Hp}{a b:Addr} (h:b≠a):wo H a b=H b:=if_neg h
theorem v0M (H:Hp) (a:Addr):Same (wo H a) H:=fun b o e=>by
 by_cases z:b=a
 ·subst z;rw [wo_at] at e;cases e
 ·rw [wo_ne z] at e;exact e
def spInit (K:W.Frag) (C:Addr) (g:List D→Res (List (Str×D))):Sp:=fun vs H Q E=>∃ F a dx rest ds,vs=.ref a::rest∧Same F H∧F a=none∧H a=some (.ins C dx [])∧Rps K F rest ds ∧
 (g ds).all (fun gs=>∀ dx' fs F' H',Stp F (wo H a) F' H'→F' a=none→H' a=some (.ins C dx' fs)→Rpf K F' fs gs→Q .non H') (fun x=>∀ e F' H',Stp F (wo H a) F' H'→Rp K F' (.ref e) x→E (.ref e) none H')
noncomputable def startI (n:Nat) (a C:Addr) (ds:List D):Rho:=some (.own (.i a C []))::startD (n - 1) ds
noncomputable def outI (a C:Addr):Out→Res (List (Str×D))
 | .nx ρ=>match ρ[(0:Nat)]? with
  | some (some (.own (.i a' C' gs)))=>if a'=a∧C'=C then .ok gs else .bad
  | _=>.bad
 | .er x _=>.err x
 | _=>.bad
theorem u3t {n:Nat}{ds:List D}{i:Nat}{o:OD}:(startD n ds)[i]?≠some (some (.own o)):=fun e=>by
 unfold startD at e
 rw [List.getElem?_append] at e
 split at e
 ·rw [List.getElem?_map] at e
  cases q:ds[i]? with
  | none=>rw [q] at e;cases e
  | some d'=>rw [q] at e;cases e
 ·rw [List.getElem?_replicate] at e
  split at e <;> simp at e
theorem v2B {K:W.Frag}{F H:Hp}{N:List Str}{a C dx:Addr}{rest:List V}{ds:List D} (fh:Same F H) (fa:F a=none) (ha:H a=some (.ins C dx [])) (r:Rps K F rest ds) :
  Rel K (F,wo H a) (startI N.length a C ds) (start N (.ref a::rest)) F H:=by
 have e:start N (.ref a::rest)=some (.ref a)::start N.tail rest:=by
  unfold start
  rw [List.map_cons,List.cons_append,List.length_cons,List.length_tail,Nat.sub_sub,Nat.add_comm 1]
 have R0:Rel K (F,H) (startD (N.length - 1) ds) (start N.tail rest) F H:=by
  have:=r.begin (N:=N.tail) fh
  rwa [List.length_tail] at this
 rw [e]
 unfold startI
 refine ⟨⟨Same.refl F,fh,v0M H a,fun _ n _=>n⟩,by simp [R0.len],fun i d q=>?_,fun i o q=>?_,fun i j o u b q1 q2 x y=>?_⟩
 ·cases i with
  | zero=>cases q
  | succ i=>exact R0.val i d q
 ·cases i with
  | zero=>cases q;exact ⟨a,_,rfl,fa,wo_at H a,ha,.i .nil⟩
  | succ i=>exact absurd q u3t
 ·cases i with
  | zero =>
   cases j with
   | zero=>rfl
   | succ j=>exact absurd q2 u3t
  | succ i=>exact absurd q1 u3t
def KCallee (P:Program) (w:World) (K:W.Frag) (mg:MG) (base:Heap) (k:Nat) (x:Str) (C:Addr) (ps:List Str) (dds:List D) (g:List D→Res (List (Str×D))):Prop :=
 ∃ f fd dvs ds0,Mk K C f∧FnOk P w K mg base (CXe P w) k f fd ps (spInit K C g)∧Binds K fd ps ds0∧Vals dvs ds0∧(∀ F,Rps K F dvs dds)∧mg x=some (.ref C)
section
variable {X:Cx}{xq:XQ}{e:Expr}{es:List Expr}{fs:Rho→Res (List D)}{x:Str}{p pos:Pos}{C f:Addr}
theorem v1e {k:Nat}{fd:FuncData}{ps:List Str}{sp:Sp}{ds:List Value}{dvs:List V}{pins:LO}{σ:St}{H:Hp}{s:Shared}{Q:VK}{us:List Value}{vs:List V} (hq:XqOk X xq) (M:Mk X.K C f) (F:FnOk X.prog X.w X.K X.mg X.base (CXe X.prog X.w) k f fd ps sp) (hr:Room (k+1) X.A) (hb:Binds X.K fd ps ds) (hd:Vals dvs ds)
  (I:Inv X pins σ H s) (r:Vals vs us)
  (h:∀ x dx,H x=none→H dx=none→dx≠x→sp (.ref x::(vs++dvs)) (upd (upd H dx (.own x)) x (.ins C dx [])) (fun v H2=>v=.non∧Q (.ref x) H2) (fun u _ H'=>∃ a,u=.ref a∧xq (.ref a) σ H')) :
  wpAny (model X.prog X.w) X.A (call (.ref C) us) (EP X pins σ Q) X.xe s:=by
 have hc:=h (s.heap.objs.size+1) s.heap.objs.size (I.hok.fresh (Nat.le_succ _)) (I.hok.fresh (Nat.le_refl _)) (Nat.ne_of_lt (Nat.lt_succ_self _))
 have I2:=Inv.made (C:=C) I
 have r2:Vals (V.ref (s.heap.objs.size+1)::(vs++dvs)) (Value.ref (s.heap.objs.size+1)::(us++ds)):=.cons rfl (r.append hd)
 have hl:(Value.ref (s.heap.objs.size+1)::us++ds).length=ps.length:=by
  have e:=r2.length
  rw [F.len _ _ _ _ hc] at e
  exact e.symm
 refine wpAny_call (v3x (f:=f) I.kIn M.makes M.init (beq_iff_eq.mp M.fn) (codeAny_mono (F.run _ X.stack _ _ ⟨Value.ref (s.heap.objs.size+1)::us,[]⟩ (Value.ref (s.heap.objs.size+1)::(us++ds)) _ _ _ (hr.make C us [])
  (I2.env0.make C us []) (hb _ (Value.ref (s.heap.objs.size+1)::us) I2.kIn hl) r2 hc) fun r s' hq'=>?_))
 cases r with
 | error e=>exact hq.xe _ _ (u9q I2 hq')
 | ok fl =>
  cases fl with
  | ret u =>
   obtain ⟨v,H',I3,rv,ev,q3⟩:=I2.after hq'
   subst ev
   exact ⟨rv,⟨V.ref (s.heap.objs.size+1),H',I3,rfl,q3⟩⟩
  | next=>exact False.elim hq'
  | brk=>exact False.elim hq'
  | cont=>exact False.elim hq'
theorem v4t {P:Program}{w:World}{K:W.Frag}{mg:MG}{base:Heap}{k k':Nat}{ps:List Str}{dds:List D}{g:List D→Res (List (Str×D))} (hq:XqOk X xq) (h:KCallee P w K mg base k x C ps dds g) (hr:Room k' X.A) (ha:DA X xq (e::es) fs) (hk:k+1≤k':=by decide) (hg:Gl X x:=by rfl)
  (eP:X.prog=P:=by rfl) (ew:X.w=w:=by rfl) (eK:X.K=K:=by rfl) (em:X.mg=mg:=by rfl) (eb:X.base=base:=by rfl) (hdb:(x==("__debug__":Str))=false:=by decide) :
  DE X xq (.Call (.Name x p) (e::es) [] pos) (fun ρ=>(fs ρ).bind fun ds=>(g (ds++dds)).bind fun gs=>.ok (.ins C gs)):=⟨fun pins s σ H Q I z9=>un5 z9 fun B F ρ R q=>by
 subst eP ew eK em eb
 obtain ⟨fi,fd,dvs,ds0,M,G,hb,hd,hdd,hm⟩:=h
 refine wpAny_Call_Name_kw (u2o I hg hm ?_ hdb)
 refine W.callWith_K (h₀:=X.base) I.ok.mod.kin M.kp (thn (ha.out pos pins s σ H (fun vs H1=>∀ x dx,H1 x=none→H1 dx=none→dx≠x→spInit X.K C g (.ref x::(vs++dvs)) (upd (upd H1 dx (.own x)) x (.ins C dx [])) (fun v H2=>v=.non∧Q (.ref x) H2) (fun u _ H'=>∃ a,u=.ref a∧xq (.ref a) σ H')) I (seqA R q fun ds vs F1 H1 s1 R1 p1 q1=>?_)) fun us s1 ⟨vs,H1,I1,r,q⟩=>⟨I1.kIn,?_⟩) (u0r (u0k ha.ns).1) (u1g (u0k ha.ns).2)
 ·intro y dx n1 n2 n3
  have sH:Same H1 (wo (upd (upd H1 dx (.own y)) y (.ins C dx [])) y):=fun b o e=>by
   have b1:b≠y:=fun z=>by subst z;rw [n1] at e;cases e
   have b2:b≠dx:=fun z=>by subst z;rw [n2] at e;cases e
   rw [wo_ne b1,u0l b1,u0l b2];exact e
  refine ⟨F1,y,dx,_,ds++dds,rfl,R1.fh.trans (sH.trans (v0M _ _)),R1.fh.free n1,u0g,p1.append (hdd F1),Res.all_mono (Res.all_bind.mp q1) (fun gs q2 dx' fs0 F' H' st fa ha' pf=>⟨rfl,?_⟩) fun z q2 b F' H' st pz=>⟨b,rfl,?_⟩⟩
  ·have st2:Stp F1 H1 (upd F' y (.ins C dx' fs0)) H':=⟨st.ff.trans (u0h fa),fun b u z=>by
    unfold upd at z
    by_cases zz:b=y
    ·rw [if_pos zz] at z;cases z;subst zz;exact ha'
    ·rw [if_neg zz] at z;exact st.fh b u z,sH.trans st.hh,fun b z1 z2=>by
    unfold upd
    by_cases zz:b=y
    ·subst zz;exact absurd n1 z2
    ·rw [if_neg zz];exact st.no b z1 (u2n sH z2)⟩
   exact q2 _ _ _ (s1.trans st2) (.ins u0g (pf.same (u0h fa)))
  ·have st2:Stp F1 H1 F' H':=⟨st.ff,st.fh,sH.trans st.hh,fun b z1 z2=>st.no b z1 (u2n sH z2)⟩
   exact errR R1 st2 pz q2
 ·exact v1e hq M G (hr.mono hk) hb hd I1 r q⟩
end
section
variable {X:Cx}{pins:LO}{σ:St}{H:Hp}{s:Shared}{F:Hp}
theorem kitx_D {v:V}{u:Value}{d:D}{t:String} (I:Inv X pins σ H s) (rx:RelV v u) (fh:Same F H) (pv:Rp X.K F v d) (ht:tyN d=some t):∃ Hh:Heap→Prop,W.KitX X.K u (.type t) Hh∧Hh s.heap∧u≠.builtin "__main__.__loader__#opaque":=by
 cases pv with
 | non=>cases ht;cases (show u=Value.none from rx);exact ⟨_,W.kitx_none,True.intro,fun z=>nomatch z⟩
 | bl y=>cases ht;cases (show u=Value.bool y from rx);exact ⟨_,W.kitx_bool,True.intro,fun z=>nomatch z⟩
 | int i=>cases ht;obtain ⟨t,q⟩:=(show ∃ t,u=Value.int i t from rx);cases q;exact ⟨_,W.kitx_int,True.intro,fun z=>nomatch z⟩
 | @str z hz=>cases ht;obtain ⟨t,q⟩:=(show ∃ t,u=Value.str z t from rx);cases q;exact ⟨_,W.kitx_str,True.intro,fun z=>nomatch z⟩
 | ty T=>cases ht
 | @lst a xs ds hq hs =>
  cases ht
  cases (show u=Value.ref a from rx)
  obtain ⟨z,its,n,r,hl,e⟩:=I.lstR (hq.same fh)
  exact ⟨_,W.kitx_list,⟨_,e,rfl⟩,fun z=>nomatch z⟩
 | @tup a xs ds hq hs =>
  cases ht
  cases (show u=Value.ref a from rx)
  obtain ⟨its,r,p,hz⟩:=I.tuple (fh.seqT hq)
  obtain ⟨ob,h1,h2,_⟩:=p
  exact ⟨_,W.kitx_tuple,⟨ob,h1,h2⟩,fun z=>nomatch z⟩
 | @dK a kvs ps hq hs =>
  cases ht
  cases (show u=Value.ref a from rx)
  obtain ⟨_,_,vs,_,p⟩:=(show ObjOk X.prog X.w H s.heap a (.dK kvs) from I.hok a _ (fh _ _ hq))
  obtain ⟨ob,es,ep,h1,h2,_⟩:=p
  exact ⟨_,W.kitx_dict,⟨ob,h1,h2.1⟩,fun z=>nomatch z⟩
 | ins hq hs=>cases ht
 | exc hq hr hs=>cases ht
 | dn hq hs=>cases ht
noncomputable def isTs (t:String):List String→Option Bool
 | []=>some false
 | T::r=>match isT t T with
  | some true=>some true
  | some false=>isTs t r
  | none=>none
theorem u9g (K:W.Frag) {d:D}{t:String} (ht:tyN d=some t):∀ {Ts:List String}{b:Bool},isTs t Ts=some b→W.kitAny K (.type t) (Ts.map Value.type)=some b
 | [],_,e=>by cases e;rfl
 | T::r,b,e=>by
  simp only [isTs] at e
  cases q:isT t T with
  | none=>rw [q] at e;cases e
  | some c =>
   rw [q] at e
   simp only [List.map_cons,W.kitAny,v1N K ht q]
   cases c with
   | true=>exact e
   | false=>exact u9g K ht e
noncomputable def tysOf:List D→Option (List String)
 | []=>some []
 | .ty T::r=>(tysOf r).map (T::·)
 | _=>none
theorem u5v {K:W.Frag}:∀ {ts:List D}{Ts:List String}{xs:List V}{us:List Value},tysOf ts=some Ts→Rps K F xs ts→Vals xs us→us=Ts.map Value.type
 | [],_,_,_,e,p,r=>by cases e;cases p;cases r;rfl
 | d::ts,Ts,_,_,e,p,r=>by
  cases d <;> simp only [tysOf,reduceCtorEq] at e
  cases q:tysOf ts with
  | none=>rw [q] at e;cases e
  | some Ts' =>
   rw [q] at e
   cases e
   cases p with
   | cons p1 p2 =>
    cases p1
    cases r with
    | cons r1 r2=>cases r1;rw [u5v q p2 r2];rfl
noncomputable def isAny (d:D) (ts:List D):Res D:=match tyN d with
 | some t=>match tysOf ts with
  | some Ts=>match isTs t Ts with
   | some b=>.ok (.bl b)
   | none=>.bad
  | none=>.bad
 | none=>.bad
noncomputable def gIsA:List D→Res D
 | [d,.tup ts]=>isAny d ts
 | ds=>gIs ds
set_option tactic.hygienic true in
theorem u1T:CallR X (.builtin "isinstance") (rDs X.K gIsA):=by
 intro pins s σ H xs us Q I r ⟨F,ds,fh,ps,q⟩
 unfold gIsA at q
 split at q
 ·rename_i d ts
  obtain ⟨v,w,rfl,pv,pw⟩:=rps2 ps
  unfold isAny at q
  cases ht:tyN d with
  | none=>rw [ht] at q;exact q.elim
  | some t =>
   rw [ht] at q
   cases hT:tysOf ts with
   | none=>simp only [hT] at q;exact q.elim
   | some Ts =>
    simp only [hT] at q
    cases hb:isTs t Ts with
    | none=>simp only [hb] at q;exact q.elim
    | some bb =>
     simp only [hb] at q
     cases pw with
     | @tup a zs _ hq hs =>
      obtain ⟨u,u',rfl,ru,ru'⟩:=vals2 r
      cases ru'
      obtain ⟨its,rv,p,hz⟩:=I.tuple (fh.seqT hq)
      obtain ⟨⟨cls,dd,data,sl⟩,ho,hc,n,hd⟩:=p
      dsimp only at hc hd
      subst hc hd
      obtain ⟨Hh,Z,hh,ne⟩:=kitx_D I ru fh pv ht
      have ei:=u5v hT hs rv
      exact W.kia_tup Z I.kIn hh ho (by rw [ei];exact u9g X.K ht hb) ne fun tk=>⟨.bl bb,H,I.tok _,rfl,q _ F H (Stp.refl fh) (.bl bb)⟩
 ·exact v3X pins s σ H xs us Q I r ⟨F,ds,fh,ps,q⟩
noncomputable def gInt:List D→Res D
 | [.int i]=>.ok (.int i)
 | [.bl b]=>.ok (.int (if b then 1 else 0))
 | _=>.bad
theorem c_int:CallR X (.type "int") (rDs X.K gInt):=by
 intro pins s σ H xs us Q I r ⟨F,ds,fh,ps,q⟩
 unfold gInt at q
 split at q
 ·obtain ⟨v,rfl,pv⟩:=rps1 ps
  cases pv
  exact u7L pins s σ H _ us Q I r (.inl ⟨_,rfl,q _ F H (Stp.refl fh) (.int _)⟩)
 ·obtain ⟨v,rfl,pv⟩:=rps1 ps
  cases pv
  exact u7L pins s σ H _ us Q I r (.inr ⟨_,rfl,q _ F H (Stp.refl fh) (.int _)⟩)
 ·exact q.elim
noncomputable def dNeg:D→Res D
 | .int i=>.ok (.int (-i))
 | _=>.bad
theorem u_neg:UnR X (unaryOp .USub) (rD1 X.K dNeg):=by
 intro pins s σ H x v Q I rx ⟨F,d,fh,px,q⟩
 cases px with
 | int i=>exact un_neg pins s σ H _ v Q I rx ⟨i,rfl,q _ F H (Stp.refl fh) (.int _)⟩
 | _=>exact q.elim
end
section
variable {X:Cx}{xq:XQ}{a b c:Expr}{fa fb fc:Rho→Res D}{pos:Pos}
theorem v0H {K:W.Frag}{g g':D→D→Res D}{σ:St}{H:Hp}{Q:VK} (h:liftE K xq (fun ρ=>(fa ρ).bind fun x=>(fb ρ).bind fun y=>fChain g g' x y (fc ρ)) σ H Q):tChain (rD K g) (rD K g') (liftE K xq fa) (liftE K xq fb) (liftE K xq fc) σ H Q:=by
 obtain ⟨B,F,ρ,R,q⟩:=h
 exact seqE R q fun d v F1 H1 s1 R1 p1 q1=>seqE R1 q1 fun d2 v2 F2 H2 s2 R2 p2 q2=>by
  refine ⟨F2,d,d2,R2.fh,p1.same s2.ff,p2,?_⟩
  unfold fChain at q2
  have q3:=Res.all_bind.mp q2
  generalize g d d2=r at q3
  cases r with
  | err x=>exact q3
  | bad=>exact q3
  | ok w =>
   obtain ⟨k,rfl,q4⟩:=u5j (Res.all_bind.mp (show ((asB w).bind _).all _ _ from q3))
   intro v3 F3 H3 s3 p3
   refine ⟨k,p3.blI,?_⟩
   have s03:=(s1.trans s2).trans s3
   cases k with
   | false=>exact q4 (.bl false) F3 H3 s03 (.bl false)
   | true=>exact seqE (R2.step s3) q4 fun d4 v4 F4 H4 s4 R4 p4 q5=>⟨F4,d2,d4,R4.fh,(p2.same s3.ff).same s4.ff,p4,doneN (s03.trans s4) q5⟩
theorem u6t {op op':CmpOp}{g g':D→D→Res D} (ho:OpR X (compareOp op) (rD X.K g)) (ho':OpR X (compareOp op') (rD X.K g')) (ha:DE X xq a fa) (hb:DE X xq b fb) (hc:DE X xq c fc) (hm:lastMarks [op,op'] [b,c]=false:=by with_unfolding_all rfl) :
  DT X xq (.Compare a [op,op'] [b,c] pos) (fun ρ=>((fa ρ).bind fun x=>(fb ρ).bind fun y=>fChain g g' x y (fc ρ)).bind asB) :=
 DT.of (v3b ho ho' ha.out hb.out hc.out hm) fun B F ρ σ H Q R q=>v0H (tfrz (P:=fun _=>True) R q)
end
theorem u5Z (t:SetTable) (n:Nat):(t.orStandIn n).led=t.led:=by
 unfold SetTable.orStandIn
 split <;> rfl
theorem v0y (t:SetTable) (es:Array (Int×Value)) (h:Int) (x:Value):(layNew t es h x).2.1.led=t.led:=by
 unfold layNew
 split
 ·exact u5Z _ _
 ·rfl
theorem u3S {t t':SetTable}{hs:Array Int}{n:Nat}{o:Array Nat} (e:t.relaid hs n=some (t',o)):t'.led=t.led∧t'.plain=t.plain:=by
 unfold SetTable.relaid SetTable.laid at e
 cases q:SetTable.layClean (SetTable.sizeAbove n - 1) hs with
 | none=>rw [q] at e;cases e
 | some ow=>rw [q] at e;cases e;exact ⟨rfl,rfl⟩
set_option tactic.hygienic true in
theorem u6U (t:SetTable) (es:Array (Int×Value)) (n:Nat):(relayAll t es n).2.1.led=t.led:=by
 unfold relayAll
 split
 ·rename_i t' order e
  dsimp only
  split
  ·exact (u3S e).1
  ·rfl
 ·rfl
set_option tactic.hygienic true in
theorem u5l (t:SetTable) (es:Array (Int×Value)) (n:Nat) (q:t.plain=false):(relayAll t es n).2.1.plain=false:=by
 unfold relayAll
 split
 ·rename_i t' order e
  dsimp only
  split
  ·exact (u3S e).2.trans q
  ·rfl
 ·rfl
noncomputable def addT (ss:List Str) (x:Str):List Str:=if x∈ss then ss else ss++[x]
def SetT (P:Program) (w:World) (h:Heap) (a:Addr) (ss:List Str):Prop :=
 ∃ o es ep t,h.get? a=some o∧o.ExactSet∧o.data=.set es ep t∧ElemsOf (PySem.strKind P w) es.toList∧(es.toList.map fun e=>strOf e.2).Perm ss∧ss.Nodup∧es.size<scanBound∧t.fits es.size=true ∧
  t.led=(!w.params.followText "set-order")∧(0<es.size→t.plain=false)
section
variable {P:Program}{w:World}{A:Around}{E:VP}{s:Shared}
theorem u9t {es:List (Int×Value)} (h:ElemsOf (PySem.strKind P w) es) {e:Int×Value} (he:e∈es):∃ x t,e.2=.str x t:=by
 obtain ⟨⟨k,hk,_⟩,_⟩:=h e he
 obtain ⟨t,q⟩:=Value.isStrOf_shape hk
 exact ⟨k,t,q⟩
theorem v2j {es:List (Int×Value)} (h:ElemsOf (PySem.strKind P w) es) {e:Int×Value} (he:e∈es) (x:Str):(PySem.strKind P w).is x e.2=decide (strOf e.2=x):=by
 obtain ⟨y,t,q⟩:=u9t h he
 rw [q]
 show Value.isStrOf x (.str y t)=_
 show (y==x)=decide (y=x)
 by_cases q:y=x
 ·subst q;simp
 ·rw [decide_eq_false q];exact beq_eq_false_iff_ne.mpr q
theorem v2c {es:List (Int×Value)}{x:Str}{ss:List Str} (h:ElemsOf (PySem.strKind P w) es) (p:(es.map fun e=>strOf e.2).Perm ss) (q:es.findIdx? (fun e=>(PySem.strKind P w).is x e.2)=none):x∉ss:=fun m=>by
 obtain ⟨e,he,ee⟩:=List.mem_map.mp (p.mem_iff.mpr m)
 have:=List.findIdx?_eq_none_iff.mp q e he
 rw [v2j h he,decide_eq_false_iff_not] at this
 exact this ee
theorem v2b {es:List (Int×Value)}{x:Str}{ss:List Str}{j:Nat} (h:ElemsOf (PySem.strKind P w) es) (p:(es.map fun e=>strOf e.2).Perm ss) (q:es.findIdx? (fun e=>(PySem.strKind P w).is x e.2)=some j):x∈ss:=by
 obtain ⟨hj,hp,_⟩:=List.findIdx?_eq_some_iff_getElem.mp q
 have he:es[j]∈es:=List.getElem_mem hj
 rw [v2j h he,decide_eq_true_eq] at hp
 exact p.mem_iff.mp (List.mem_map.mpr ⟨_,he,hp⟩)
theorem storeT {a:Addr}{o:Obj}{es es':Array (Int×Value)}{ep:Nat}{t t':SetTable}{ss:List Str} (ho:s.heap.get? a=some o) (hex:o.ExactSet) (hd:o.data=.set es ep t) (el:ElemsOf (PySem.strKind P w) es'.toList)
  (p:(es'.toList.map fun e=>strOf e.2).Perm ss) (nd:ss.Nodup) (hb:es'.size<scanBound) (hf:t'.fits es'.size=true) (hl:t'.led=(!w.params.followText "set-order")) (hp:t'.plain=false) :
  (s.heap.update a (Obj.putSet es' t')).get? a=some { o with data:=.set es' (ep+1) t' }∧SetT P w (s.heap.update a (Obj.putSet es' t')) a ss:=by
 obtain ⟨g,_⟩:=SetOf_store (knd:=PySem.strKind P w) (S':=fun k=>es'.toList.any fun e=>(PySem.strKind P w).is k e.2) ho hex hd el (fun k=>List.any_eq_true) hb hf
 exact ⟨g,_,es',ep+1,t',g,hex,rfl,el,p,nd,hb,hf,hl,fun _=>hp⟩
theorem u7V {g:Bool→Sem Unit} (hg:∀ (b:Bool) (s₁:Shared) (Q':Unit→Shared→Prop),Q' () s₁→wpAny (model P w) A (g b) Q' E s₁) {a:Addr}{o:Obj}{es es1:Array (Int×Value)}{ep:Nat}{t t2:SetTable}{ss:List Str}
  (ho:s.heap.get? a=some o) (hex:o.ExactSet) (hd:o.data=.set es ep t) (el:ElemsOf (PySem.strKind P w) es1.toList) (p:(es1.toList.map fun e=>strOf e.2).Perm ss) (nd:ss.Nodup) (hb:es1.size<scanBound)
  (hf:t2.fits es1.size=true) (hl:t2.led=(!w.params.followText "set-order")) (hp:t2.plain=false) {wd:Bool}{R:Option Bool→Shared→Prop} (h:∀ h',Heap.SameBut a s.heap h'→SetT P w h' a ss→R (some true) { s with heap:=h' }) :
  wpAny (model P w) A (do
    storeSet a es1 t2
    if (!wd&&t2.tooFull)=true then do
        g (relayAll t2 es1 (SetTable.grown es1.size)).2.2
        storeSet a (relayAll t2 es1 (SetTable.grown es1.size)).1 (relayAll t2 es1 (SetTable.grown es1.size)).2.1
        pure (some true)
     else pure (some true)) R E s:=by
 refine wpAny_bind (wpAny_storeSet_of ho hd ?_ (fits_of_scanBound hb))
 obtain ⟨o1,S1⟩:=storeT ho hex hd el p nd hb hf hl hp
 have sb:=Heap.SameBut.update s.heap a (Obj.putSet es1 t2)
 split
 ·have q1:=relayAll_perm t2 es1 (SetTable.grown es1.size)
  have q2:=relayAll_fits t2 es1 (SetTable.grown es1.size)
  have q3:=u6U t2 es1 (SetTable.grown es1.size)
  have q4:=u5l t2 es1 (SetTable.grown es1.size) hp
  generalize relayAll t2 es1 (SetTable.grown es1.size)=Z at q1 q2 q3 q4 ⊢
  obtain ⟨es2,t3,gv⟩:=Z
  dsimp only at q1 q2 q3 q4 ⊢
  have z:es2.size=es1.size:=by have:=q1.length_eq;simpa using this
  refine wpAny_bind (hg _ _ _ ?_)
  refine wpAny_bind (wpAny_storeSet_of o1 rfl ?_ (fits_of_scanBound (z ▸ hb)))
  obtain ⟨_,S2⟩:=storeT (s:={ s with heap:=s.heap.update a (Obj.putSet es1 t2) }) o1 hex rfl (el.perm q1) ((q1.map _).trans p) nd (z ▸ hb) q2 (q3.trans hl) q4
  exact wpAny_pure (h _ (sb.trans (Heap.SameBut.update _ a _)) S2)
 ·exact wpAny_pure (h _ sb S1)
set_option tactic.hygienic true in
theorem setAddT {a:Addr}{ss:List Str}{x:Str}{tk:Tok}{Q:Bool→Shared→Prop} (hS:SetT P w s.heap a ss) (hr:ss.length+1<scanBound)
  (h:∀ r h',Heap.SameBut a s.heap h'→SetT P w h' a (addT ss x)→Q r { s with heap:=h' }):wpAny (model P w) A (setAddHashed a (.str x tk) ((PySem.strKind P w).hash x)) Q E s:=by
 obtain ⟨o,es,ep,t,ho,hex,hd,el,p,nd,hb,hf,hl,hp⟩:=id hS
 have hn:es.size=ss.length:=by have:=p.length_eq;simpa using this
 have hk:(PySem.strKind P w).is x (.str x tk)=true:=strKind_is P w x tk
 unfold setAddHashed setAddHashedIn
 refine wpAny_holding (wpAny_bind (wpAny_setState_of ho hd hf ?_))
 dsimp only
 rw [byScan_of (knd:=PySem.strKind P w) (x:=.str x tk) rfl hb el]
 simp only [↓reduceIte]
 unfold setAddByScan
 refine wpAny_bind ?_
 refine wpAny_bind (wpAny_rule ?_)
 refine wpAny_bind (wpAny_setScan_of hk ho hd hf el ?_)
 cases hr':List.findIdx? (fun e=>(PySem.strKind P w).is x e.2) es.toList with
 | some j =>
  dsimp only
  refine wpAny_pure (wpAny_pure ?_)
  have m:=v2b el p hr'
  have:=h false s.heap (Heap.SameBut.refl a s.heap) (by unfold addT;rw [if_pos m];exact hS)
  exact this
 | none =>
  dsimp only
  have m:=v2c el p hr'
  have q1:=layNew_perm t es ((PySem.strKind P w).hash x) (.str x tk)
  have q2:=layNew_fits t es ((PySem.strKind P w).hash x) (.str x tk)
  have q3:=v0y t es ((PySem.strKind P w).hash x) (.str x tk)
  generalize layNew t es ((PySem.strKind P w).hash x) (.str x tk)=Z at q1 q2 q3 ⊢
  obtain ⟨es1,t1,wd,gv⟩:=Z
  dsimp only at q1 q2 q3 ⊢
  rw [Array.toList_push] at q1
  have el1:ElemsOf (PySem.strKind P w) es1.toList:=(el.push hk rfl).perm q1
  have p1:(es1.toList.map fun e=>strOf e.2).Perm (addT ss x):=by
   unfold addT
   rw [if_neg m]
   refine (q1.map _).trans ?_
   rw [List.map_append]
   exact p.append (List.Perm.refl _)
  have nd1:(addT ss x).Nodup:=by
   unfold addT
   rw [if_neg m,List.nodup_append]
   exact ⟨nd,by simp,fun y hy z hz e=>by rw [List.mem_singleton] at hz;subst hz;subst e;exact m hy⟩
  have hb1:es1.size<scanBound:=by
   have:=q1.length_eq
   simp at this
   omega
  have hg:∀ (b:Bool) (s₁:Shared) (Q':Unit→Shared→Prop),Q' () s₁→wpAny (model P w) A (match b with | true=>rule "set.scan.the-table-gave-way" | false=>pure ()) Q' E s₁:=fun b s₁ Q' hq=>by
   cases b <;> first | exact wpAny_pure hq | exact wpAny_rule hq
  refine wpAny_bind (hg _ _ _ ?_)
  split
  ·refine wpAny_bind ?_
   rw [hashByValue_scannable 8 (x:=.str x tk) rfl]
   refine wpAny_pure ?_
   refine u7V hg ho hex hd el1 p1 nd1 hb1 ?_ ?_ ?_ fun h' sb S'=>wpAny_pure (h true h' sb S')
   ·exact SetTable.fits_plain_off q2
   ·exact q3.trans hl
   ·rfl
  ·rename_i hpl
   refine wpAny_bind (wpAny_pure ?_)
   simp only [↓reduceIte]
   exact u7V hg ho hex hd el1 p1 nd1 hb1 q2 (q3.trans hl) (by simpa using hpl) fun h' sb S'=>wpAny_pure (h true h' sb S')
end
noncomputable def setOfT (ss:List Str):List Str:=ss.foldl addT []
theorem u9H (ss:List Str) (x:Str):(addT ss x).length≤ss.length+1:=by unfold addT;split <;> simp
theorem u2q:∀ (xs ss:List Str),(xs.foldl addT ss).length≤ss.length+xs.length
 | [],ss=>by simp
 | x::xs,ss=>by
  have:=u2q xs (addT ss x)
  have:=u9H ss x
  simp only [List.foldl_cons,List.length_cons]
  omega
theorem u7z:∀ (xs ss:List Str) (y:Str),y∈xs.foldl addT ss↔y∈ss∨y∈xs
 | [],ss,y=>by simp
 | x::xs,ss,y=>by
  rw [List.foldl_cons,u7z xs,List.mem_cons]
  unfold addT
  by_cases q:x∈ss
  ·rw [if_pos q]
   constructor
   ·rintro (h | h)
    ·exact .inl h
    ·exact .inr (.inr h)
   ·rintro (h | rfl | h)
    ·exact .inl h
    ·exact .inl q
    ·exact .inr h
  ·rw [if_neg q,List.mem_append,List.mem_singleton,or_assoc]
theorem u1U {ss:List Str}{y:Str}:y∈setOfT ss↔y∈ss:=by unfold setOfT;rw [u7z];simp
set_option tactic.hygienic true in
theorem u5N {ss:List Str}{x:Str} (h:ss.Nodup):(addT ss x).Nodup:=by
 unfold addT
 split
 ·exact h
 ·rename_i m
  rw [List.nodup_append]
  exact ⟨h,by simp,fun y hy z hz e=>by rw [List.mem_singleton] at hz;subst hz;subst e;exact m hy⟩
theorem u4X:∀ (xs ss:List Str),ss.Nodup→(xs.foldl addT ss).Nodup
 | [],_,h=>h
 | _::xs,_,h=>u4X xs _ (u5N h)
theorem u6N (ss:List Str):(setOfT ss).Nodup:=u4X ss [] List.nodup_nil
theorem u5w:∀ {vs:List Value}{ss:List Str},StrsAre vs ss→∀ (i:Nat) (v:Value),vs[i]?=some v→∃ x t,ss[i]?=some x∧v=.str x t
 | _,_,.cons x t h,0,v,e=>by cases e;exact ⟨x,t,rfl,rfl⟩
 | _,_,.cons x t h,i+1,v,e=>u5w h i v (by simpa using e)
section
variable {P:Program}{w:World}{A:Around}{E:VP}{s:Shared}
theorem SetT.keep {h h':Heap}{a:Addr}{ss:List Str} (x:SetT P w h a ss) (k:∀ o,h.get? a=some o→h'.get? a=some o):SetT P w h' a ss:=by
 obtain ⟨o,es,ep,t,ho,r⟩:=x
 exact ⟨o,es,ep,t,k _ ho,r⟩
theorem SetT.fresh {h:Heap}{a:Addr} (e:h.get? a=some { cls:=.type "set",dict:=none,data:=.set #[] 0 (.fresh 0 0 (!w.params.followText "set-order")) }):SetT P w h a [] :=
 ⟨_,#[],0,_,e,⟨rfl,rfl,rfl⟩,rfl,fun e he=>by simp at he,List.Perm.refl _,List.nodup_nil,by decide,by rfl,rfl,fun q=>absurd q (by decide)⟩
theorem v2V {I:Addr}{fp wr:List Addr}{G:Array GenState→Array GenState→Prop}{n:Nat}{Pp:Nat→Value→Prop}{St:Nat→Shared→Prop}{R:Result→Shared→Prop}{ss:List Str}
  (W:WalksS P w A.in1 I fp wr G n Pp St) (S:Addr) (hSf:S∉fp) (hn:ss.length=n) (hv:∀ i v,Pp i v→∃ x t,ss[i]?=some x∧v=.str x t) (hb:n+1<scanBound) :
  ∀ (k i:Nat) (s:Shared),n - i=k→i≤n→St i s→SetT P w s.heap S (setOfT (ss.take i))→(∀ s',Moved (S::wr) G s s'→SetT P w s'.heap S (setOfT ss)→R (.ok (.ret .none)) s') →
   codeAny (model P w) A (.builtin "set.update.loop" ⟨[.ref S,.ref I],[]⟩) R s:=by
 have hSw:S∉wr:=fun h=>hSf (W.sub _ h)
 have up:∀ b∈wr,b∈S::wr:=fun b hb=>List.mem_cons_of_mem _ hb
 intro k
 induction k with
 | zero =>
  intro i s hk hi st hS hR
  have e:i=n:=by omega
  subst e
  refine codeAny_builtin F.entry_set_update_loop ?_
  rw [Around.under_plainId F.plain_set_update_loop _]
  refine wpAny_bind (m:=pyNext (.ref I)) (W.done s _ _ st fun s' hm=>?_)
  refine wpAny_pure (hR s' (hm.mono up) ?_)
  have q:=hS.keep (h':=s'.heap) fun o=>hm.heap S o hSw
  rwa [List.take_of_length_le (by omega)] at q
 | succ k ih =>
  intro i s hk hi st hS hR
  have lt:i<n:=by omega
  refine codeAny_builtin F.entry_set_update_loop ?_
  rw [Around.under_plainId F.plain_set_update_loop _]
  refine wpAny_bind (m:=pyNext (.ref I)) (W.item i s _ _ lt st fun v s' pv st' hm=>?_)
  obtain ⟨x,t,hx,rfl⟩:=hv i v pv
  have S1:=hS.keep (h':=s'.heap) fun o=>hm.heap S o hSw
  show wpAny _ A.in1 (holding [Value.str x t] (setAdd S (.str x t)) >>= _) _ _ s'
  refine wpAny_bind (wpAny_holding ?_)
  unfold setAdd
  refine wpAny_holding (wpAny_bind ((PySem.strKind P w).pyHash (k:=x) (strKind_is P w x t) ?_))
  have room:(setOfT (ss.take i)).length+1<scanBound:=by
   have:=u2q (ss.take i) []
   have:(ss.take i).length≤i:=by simp;omega
   unfold setOfT
   simp only [List.length_nil,Nat.zero_add] at *
   omega
  refine setAddT (s:={ s' with toks:=s'.toks+1 }) S1 room fun r h' sb S2=>?_
  have e2:addT (setOfT (ss.take i)) x=setOfT (ss.take (i+1)):=by
   unfold setOfT
   rw [List.take_add_one,hx]
   simp
  rw [e2] at S2
  refine wpAny_pure ⟨plainId_quiet F.plain_set_update_loop _,ih (i+1) _ (by omega) lt (W.frame _ s' _ _ st' (Nat.le_succ _) fun b hb o e=>?_) S2 fun s'' hm2 S3=>?_⟩
  ·rw [sb.2 b (fun h:b=S=>hSf (h ▸ hb))];exact e
  ·exact hR s'' (Moved.trans W.gtrans ((hm.mono up).then_heap (Nat.le_succ _) fun b o hb e=>by rw [sb.2 b (fun h:b=S=>hb (h ▸ List.mem_cons_self))];exact e) hm2) S3
theorem set_new {a:Value}{Q₁:VP}
  (h:Q₁ (.ref s.heap.objs.size) { s with heap:=s.heap.push { cls:=.type "set",dict:=none,data:=.set #[] 0 (.fresh 0 0 (!w.params.followText "set-order")) } }) :
  codeAny (model P w) A (.call (.builtin "set.__new__") ⟨[.type "set",a],[]⟩) (wants Q₁ E) s:=by
 refine codeAny_of_tree (wpAny_bind (m:=checkBuiltinCall "set.__new__" ⟨[.type "set",a],[]⟩) (wpAny_of_eq (F.newCall_set_1 a) (wpAny_pure ⟨plainId_quiet F.plain_set_new _,codeAny_builtin F.entry_set_new ?_⟩)))
 rw [Around.under_plainId F.plain_set_new _]
 unfold Builtin.«set.__new__» Builtin.Frozenset.newClass
 have hsub:=sub_set_self
 obtain ⟨hp,g,d,tk,os⟩:=s
 dsimp only
 wp_walk
 refine wpAny_askSetting (wpAny_pure ?_)
 simp only [newObj]
 exact wpAny_bind (wpAny_alloc (wpAny_pure (wpAny_pure h)))
abbrev eSet (w:World):Obj:={ cls:=.type "set",dict:=none,data:=.set #[] 0 (.fresh 0 0 (!w.params.followText "set-order")) }
def SetMade (P:Program) (w:World) (s:Shared) (ss:List Str) (s₂:Shared):Prop:=∃ h' tk,s₂={ s with heap:=h',toks:=tk }∧SetT P w h' s.heap.objs.size (setOfT ss)∧∀ b o,b<s.heap.objs.size→s.heap.get? b=some o→h'.get? b=some o
set_option maxHeartbeats 3200000 in
theorem v2T {l:Addr}{items:Array Value}{ss:List Str} (hh:A.handled=none) (hl:s.heap.IsList l items) (hi:StrsAre items.toList ss) (hb:items.size+1<scanBound) :
  wpAny (model P w) A.in1 (Builtin.«set.__init__» ⟨[.ref s.heap.objs.size,.ref l],[]⟩)
   (fun fin s'=>match fin with | .done f=>wants (fun r s₂=>r=.none∧SetMade P w s ss s₂) E (.ok f) s' | .again c'=>c'.quiet=true∧codeAny (model P w) A c' (wants (fun r s₂=>r=.none∧SetMade P w s ss s₂) E) s')
   (fun e s'=>wants (fun r s₂=>r=.none∧SetMade P w s ss s₂) E (.error e) s') { s with heap:=s.heap.push (eSet w) }:=by
 have hS:(s.heap.push (eSet w)).get? s.heap.objs.size=some (eSet w):=Heap.get?_push_size _ rfl
 have hT:Shared.TypeIs { s with heap:=s.heap.push (eSet w) } (.ref s.heap.objs.size) "set":=⟨_,hS,rfl⟩
 obtain ⟨⟨oc,od,odt,osl⟩,hol,hcl,nl,hdl⟩:=hl
 simp only at hcl hdl
 subst hcl
 subst hdl
 have hol':(s.heap.push (eSet w)).get? l=some { cls:=.type "list",dict:=od,data:=.seq items nl,slots:=osl }:=Heap.get?_push_of_some _ hol
 have k1:=F.sub_list_set
 have k2:=F.sub_list_frozenset
 have k3:(Value.type "list"==Value.type "dict")=false:=by decide
 have hl1:(s.heap.push (eSet w)).IsList l items:=⟨_,hol',rfl,nl,rfl⟩
 unfold Builtin.«set.__init__» noKeywords Builtin.Frozenset.updateFrom
 generalize hPI:pyIter=PI
 wp_walk
 subst hPI
 refine wpAny_pyIter_list hl1 (wpAny_bind (wpAny_runValue ?_))
 have lS:l<s.heap.objs.size:=Heap.lt_size hol
 have h3:A.in1.in1.handled=none:=by simp [hh]
 have z:(s.heap.push (eSet w)).objs.size=s.heap.objs.size+1:=Heap.size_push ..
 have nI:l≠(s.heap.push (eSet w)).objs.size:=by rw [z];exact Nat.ne_of_lt (Nat.lt_succ_of_lt lS)
 have nS:s.heap.objs.size∉[(s.heap.push (eSet w)).objs.size,l]:=by
  rw [z]
  simp only [List.mem_cons,List.not_mem_nil,or_false,not_or]
  exact ⟨Nat.ne_of_lt (Nat.lt_succ_self _),Nat.ne_of_gt lS⟩
 have hlen:ss.length=items.size:=by
  have e:=hi.strs
  have:(items.toList.map strOf).length=ss.length:=by rw [e]
  simpa using this.symm
 refine v2V (ss:=ss) ((Walks.list h3 _ l nI items).toS) s.heap.objs.size nS hlen (fun i v hv=>u5w hi i v (by rw [Array.getElem?_toList];exact hv)) hb (items.size - 0) 0 _ (by omega) (Nat.zero_le _)
  ⟨⟨_,Heap.get?_push_size _ rfl,rfl,rfl⟩,hl1.push _⟩ (SetT.fresh (Heap.get?_push_of_some _ hS)) ?_
 intro s' hm hS'
 obtain ⟨h',g',d',tk',os'⟩:=s'
 have eg:g'=s.gens:=hm.gens
 have ed:d'=s.drawn:=hm.drawn
 have eo:os'=s.os:=hm.os
 subst eg
 subst ed
 subst eo
 refine wpAny_pure ?_
 show wpAny _ _ (ret Value.none) _ _ _
 refine wpAny_pure ⟨rfl,h',tk',rfl,hS',fun b o hb e=>hm.heap b o ?_ (Heap.get?_push_of_some _ (Heap.get?_push_of_some _ e))⟩
 simp only [List.mem_cons,List.not_mem_nil,or_false,not_or,z]
 exact ⟨Nat.ne_of_lt hb,Nat.ne_of_lt (Nat.lt_succ_of_lt hb)⟩
set_option maxHeartbeats 3200000 in
theorem v2W {l:Addr}{items:Array Value}{ss:List Str}{Q:VP} (hh:A.handled=none) (hl:s.heap.IsList l items) (hi:StrsAre items.toList ss) (hb:items.size+1<scanBound)
  (h:∀ s₂,SetMade P w s ss s₂→Q (.ref s.heap.objs.size) s₂):wpAny (model P w) A (call (.type "set") [.ref l]) Q E s:=by
 obtain ⟨c,tl,hmro⟩:=F.called_set.mro
 have hmade:=F.called_set.made
 have hsub:=F.called_set.sub
 refine wpAny_call (codeAny_of_tree (show wpAny _ _ (callAny (.type "set") _) _ _ _ from wpAny_pure ⟨Code.quiet_builtin _ (by decide +kernel),codeAny_builtin F.entry_type_call ?_⟩))
 rw [Around.under_plain (weight_type_call_type "set" [.ref l] []) rfl]
 have h1:=F.called_set.notType
 have h2:=F.called_set.canCreate
 have hct:=F.typeCall_set_1 (.ref l)
 repeat (any_goals (first | assumption | wp_step))
 refine codeAny_mono (set_new (a:=.ref l) (E:=E) (Q₁:=fun obj s₁=>obj=.ref s.heap.objs.size∧s₁={ s with heap:=s.heap.push (eSet w) }) ⟨rfl,rfl⟩) fun r s₁ hr=>?_
 cases r with
 | error e=>exact hr
 | ok fl =>
  cases fl with
  | ret obj =>
   obtain ⟨rfl,rfl⟩:=hr
   have hT:Shared.TypeIs { s with heap:=s.heap.push (eSet w) } (.ref s.heap.objs.size) "set":=⟨_,Heap.get?_push_size _ rfl,rfl⟩
   have hli:=F.called_set.init.lookup
   have hbi:=F.called_set.init.bind (.ref s.heap.objs.size)
   repeat (any_goals (first | assumption | wp_step))
   refine codeAny_mono (codeAny_call_builtin (R:=wants (fun r s₂=>r=.none∧SetMade P w s ss s₂) E) F.called_set.init.plain F.entry_set_init (check_set_init_1 hT (v2T (by simp [hh]) hl hi hb))) fun r₂ s₂ hr₂=>?_
   cases r₂ with
   | error e=>exact hr₂
   | ok fl₂ =>
    cases fl₂ with
    | ret r =>
     obtain ⟨rfl,m⟩:=hr₂
     repeat (any_goals (first | assumption | wp_step))
     exact h _ m
    | _=>exact hr₂.elim
  | _=>exact hr.elim
end
theorem u7C:entryFor table "set.__iter__"=some Builtin.«frozenset.__iter__»:=entryFor_alias (id':="frozenset.__iter__") (by kernel_rfl) rfl (by decide +kernel) (by kernel_rfl)
theorem u0u:Slot "set_iterator" "__next__" "set_iterator.__next__":=.of (owner:="set_iterator") (n:="__next__") (by rw [typeLookup_type,builtinLookup_eq_fast];kernel_rfl) (by decide +kernel) (by decide +kernel)
 (by decide +kernel) (by first | exact .inl (by decide +kernel) | exact .inr (by decide +kernel)) (by rw [isSubtype_type];kernel_rfl)
theorem u3M:Slot "set_iterator" "__iter__" "set_iterator.__iter__":=.of (owner:="set_iterator") (n:="__iter__") (by rw [typeLookup_type,builtinLookup_eq_fast];kernel_rfl) (by decide +kernel) (by decide +kernel)
 (by decide +kernel) (by first | exact .inl (by decide +kernel) | exact .inr (by decide +kernel)) (by rw [isSubtype_type];kernel_rfl)
theorem u1x:entryFor table "set_iterator.__next__"=some Builtin.«set_iterator.__next__»:=entryFor_of_tree (by kernel_rfl)
theorem u6r:entryFor table "set_iterator.__iter__"=some Builtin.«dict_keyiterator.__iter__»:=entryFor_alias (id':="dict_keyiterator.__iter__") (by kernel_rfl) rfl (by decide +kernel) (by kernel_rfl)
theorem u8V:Manifest.owners.lookup (String.ofList ['r','o','t','a','r','e','t','i','_','t','e','s'].reverse)=some Manifest.sig_set_iterator:=by kernel_rfl
theorem u1O (a:Value):argsOk "set_iterator.__next__" ⟨[a],[]⟩:=by
 unfold argsOk
 rw [signature?_of (id:="set_iterator.__next__") (n:=['_','_','t','x','e','n','_','_']) (o:=['r','o','t','a','r','e','t','i','_','t','e','s']) (by kernel_rfl) u8V]
 kernel_rfl
theorem u7T (a:Value):argsOk "set_iterator.__iter__" ⟨[a],[]⟩:=by
 unfold argsOk
 rw [signature?_of (id:="set_iterator.__iter__") (n:=['_','_','r','e','t','i','_','_']) (o:=['r','o','t','a','r','e','t','i','_','t','e','s']) (by kernel_rfl) u8V]
 kernel_rfl
def SIt (h:Heap) (I:Addr) (first:Value) (i:Nat) (a:Addr) (n ep:Nat):Prop:=∃ o,h.get? I=some o∧o.cls=.type "set_iterator"∧o.data=.fields #[first,.int i 0,.ref a,.int n 0,.int ep 0]
def SAt (h:Heap) (a:Addr) (es:Array (Int×Value)) (ep:Nat) (t:SetTable):Prop:=∃ o,h.get? a=some o∧o.data=.set es ep t∧t.fits es.size=true
theorem SIt.at {h h':Heap}{I:Addr}{first:Value}{i:Nat}{a:Addr}{n ep:Nat} (x:SIt h I first i a n ep) (k:∀ o,h.get? I=some o→h'.get? I=some o):SIt h' I first i a n ep:=let ⟨o,ho,r⟩:=x;⟨o,k _ ho,r⟩
theorem SAt.at {h h':Heap}{a:Addr}{es:Array (Int×Value)}{ep:Nat}{t:SetTable} (x:SAt h a es ep t) (k:∀ o,h.get? a=some o→h'.get? a=some o):SAt h' a es ep t:=let ⟨o,ho,r⟩:=x;⟨o,k _ ho,r⟩
section
variable {P:Program}{w:World}{A:Around}{E:VP}{s:Shared}{I a:Addr}{first:Value}{i ep:Nat}{es:Array (Int×Value)}{t:SetTable}
theorem SIt.ty (x:SIt s.heap I first i a n ep):s.TypeIs (.ref I) "set_iterator":=let ⟨o,ho,hc,_⟩:=x;⟨o,ho,hc⟩
theorem u8a {Q:VP} (x:SIt s.heap I first i a n ep) (h:Q (.ref I) s):wpAny (model P w) A (pyIter (.ref I)) Q E s:=by
 refine wpAny_pyIter_slot x.ty u3M (wpAny_call_entry u3M x.ty u6r ?_ (u7T _))
 exact (show wpAny _ _ (ret (.ref I)) _ _ s from wpAny_pure ⟨_,rfl,"set_iterator",_,x.ty,u0u.lookup,h⟩)
theorem u5x {k:Nat}{v:Value}{vs:Array Value}{Q:Unit→Shared→Prop}{o:Obj} (ho:s.heap.get? I=some o) (hc:o.cls=.type "set_iterator") (hd:o.data=.fields vs) (hk:k<vs.size)
  (h:∀ h' o',h'.get? I=some o'→o'.cls=.type "set_iterator"→o'.data=.fields (vs.setIfInBounds k v)→Heap.SameBut I s.heap h'→Q () { s with heap:=h' }):wpAny (model P w) A (setField (.ref I) k v) Q E s :=
 wpAny_setField ho hd hk (h _ _ (Heap.get?_update_self _ ho (Obj.isFreed_of_fields (Obj.data_mapFields hd _))) ((Obj.cls_mapFields ..).trans hc) (Obj.data_mapFields hd _) (Heap.SameBut.update ..))
def Kept (I:Addr) (h h':Heap):Prop:=∀ b o,b≠I→h.get? b=some o→h'.get? b=some o
theorem v0Z {slot nx:Nat}{x:Value}{Q:Option Value→Shared→Prop} (X:SIt s.heap I (.int slot 0) i a es.size ep) (S:SAt s.heap a es ep t)
  (hn:∀ (B:Around) (R:Option (Value×Nat)→Shared→Prop) (E':VP),R (some (x,nx)) s→wpAny (model P w) B (setNext a slot i ep) R E' s)
  (hQ:∀ h',SIt h' I (.int nx 0) (i+1) a es.size ep→Kept I s.heap h'→Q (some x) { s with heap:=h' }):wpAny (model P w) A (pyNext (.ref I)) Q E s:=by
 obtain ⟨o,ho,hc,hd⟩:=id X
 obtain ⟨os,hos,hds,hf⟩:=id S
 unfold pyNext
 refine wpAny_bind (wpAny_attempt (wpAny_callSpecial?_slot (name:=Str.ofString "__next__") X.ty u0u (wpAny_call_entry u0u X.ty u1x ?_ (u1O _))))
 unfold Builtin.«set_iterator.__next__»
 refine wpAny_bind (wpAny_pure ?_)
 refine wpAny_bind (wpAny_fieldsOf ho hd ?_)
 refine wpAny_bind (m:=setEntries a) (wpAny_setEntries_of hos hds hf ?_)
 rw [if_neg (by simp)]
 refine wpAny_bind (m:=setNext a slot i ep) (hn _ _ _ ?_)
 refine wpAny_bind (u5x ho hc hd (by simp) fun h1 o1 g1 c1 d1 b1=>?_)
 refine wpAny_bind (u5x (s:={ s with heap:=h1 }) g1 c1 d1 (by simp) fun h2 o2 g2 c2 d2 b2=>?_)
 exact wpAny_pure ⟨x,rfl,wpAny_pure (hQ h2 ⟨o2,g2,c2,by rw [d2];simp [rawInt]⟩ fun b ob nb e=>(b2.extBut b ob nb (b1.extBut b ob nb e)))⟩
theorem v1a {slot:Nat}{Q:Option Value→Shared→Prop} (hh:A.handled=none) (X:SIt s.heap I (.int slot 0) i a es.size ep) (S:SAt s.heap a es ep t)
  (hn:∀ (B:Around) (R:Option (Value×Nat)→Shared→Prop) (E':VP),R none s→wpAny (model P w) B (setNext a slot i ep) R E' s)
  (hQ:∀ h',Kept I s.heap h'→Q none { s with heap:=h' }):wpAny (model P w) A (pyNext (.ref I)) Q E s:=by
 obtain ⟨o,ho,hc,hd⟩:=id X
 obtain ⟨os,hos,hds,hf⟩:=id S
 unfold pyNext
 refine wpAny_bind (wpAny_attempt (wpAny_callSpecial?_slot (name:=Str.ofString "__next__") X.ty u0u (wpAny_call_entry u0u X.ty u1x ?_ (u1O _))))
 unfold Builtin.«set_iterator.__next__»
 refine wpAny_bind (wpAny_pure ?_)
 refine wpAny_bind (wpAny_fieldsOf ho hd ?_)
 refine wpAny_bind (m:=setEntries a) (wpAny_setEntries_of hos hds hf ?_)
 rw [if_neg (by simp)]
 refine wpAny_bind (m:=setNext a slot i ep) (hn _ _ _ ?_)
 refine wpAny_bind (u5x ho hc hd (by simp) fun h1 o1 g1 c1 d1 b1=>?_)
 refine wpAny_bind (m:=newExc (.type "StopIteration") []) ?_
 simp only [newExc,newTuple]
 refine wpAny_bind (wpAny_newObj_type (Q:=_) ?_ (by size_fits));refine wpAny_bind (m:=firstArgMember _ _) (wpAny_of_eq (a:=Value.none) (by first | rfl | (simp only [firstArgMember];rfl)) (wpAny_newObj_type ?_ (by size_fits)))
 simp only [raiseNew]
 refine wpAny_bind (wpAny_handled ?_)
 rw [show A.in1.handled=none from hh]
 refine wpAny_bind (wpAny_pure (wpAny_throw ?_));refine wpAny_bind (wpAny_isInstance (T:="StopIteration") (b:=true) ⟨_,Heap.get?_push_size _ rfl,rfl⟩ isSubtype_stop ?_)
 exact wpAny_pure (hQ _ fun b ob nb e=>Heap.get?_push_of_some _ (Heap.get?_push_of_some _ (b1.extBut b ob nb e)))
theorem v2P {tp:Addr}{pl:Array Value}{place m:Nat}{tk:Tok}{e:Int×Value}{ot:Obj}{Q:Option Value→Shared→Prop} (X:SIt s.heap I (.ref tp) i a es.size ep) (S:SAt s.heap a es ep t) (hot:s.heap.get? tp=some ot) (hpt:ot.data=.seq pl m)
  (hp:pl[i]?=some (.int place tk)) (he:es[place]?=some e) (hQ:∀ h',SIt h' I (.ref tp) (i+1) a es.size ep→Kept I s.heap h'→Q (some e.2) { s with heap:=h' }):wpAny (model P w) A (pyNext (.ref I)) Q E s:=by
 obtain ⟨o,ho,hc,hd⟩:=id X
 obtain ⟨os,hos,hds,hf⟩:=id S
 unfold pyNext
 refine wpAny_bind (wpAny_attempt (wpAny_callSpecial?_slot (name:=Str.ofString "__next__") X.ty u0u (wpAny_call_entry u0u X.ty u1x ?_ (u1O _))))
 unfold Builtin.«set_iterator.__next__»
 refine wpAny_bind (wpAny_pure ?_)
 refine wpAny_bind (wpAny_fieldsOf ho hd ?_)
 refine wpAny_bind (m:=setEntries a) (wpAny_setEntries_of hos hds hf ?_)
 rw [if_neg (by simp)]
 refine wpAny_bind (m:=seqItems? (.ref tp)) (wpAny_seqItems hot hpt ?_)
 simp only [Int.toNat_natCast,hp]
 refine wpAny_bind ?_
 unfold setNextDrawn
 refine wpAny_bind (wpAny_setState_of hos hds hf ?_)
 simp only [bne_self_eq_false,Bool.false_eq_true,if_false,he]
 refine wpAny_pure (wpAny_bind (u5x ho hc hd (by simp) fun h1 o1 g1 c1 d1 b1=>?_))
 exact wpAny_pure ⟨e.2,rfl,wpAny_pure (hQ h1 ⟨o1,g1,c1,by rw [d1];simp [rawInt]⟩ fun b ob nb e=>b1.extBut b ob nb e)⟩
theorem v2Q {tp:Addr}{pl:Array Value}{m:Nat}{ot:Obj}{Q:Option Value→Shared→Prop} (hh:A.handled=none) (X:SIt s.heap I (.ref tp) i a es.size ep) (S:SAt s.heap a es ep t) (hot:s.heap.get? tp=some ot) (hpt:ot.data=.seq pl m)
  (hp:pl[i]?=none) (hQ:∀ h',Kept I s.heap h'→Q none { s with heap:=h' }):wpAny (model P w) A (pyNext (.ref I)) Q E s:=by
 obtain ⟨o,ho,hc,hd⟩:=id X
 obtain ⟨os,hos,hds,hf⟩:=id S
 unfold pyNext
 refine wpAny_bind (wpAny_attempt (wpAny_callSpecial?_slot (name:=Str.ofString "__next__") X.ty u0u (wpAny_call_entry u0u X.ty u1x ?_ (u1O _))))
 unfold Builtin.«set_iterator.__next__»
 refine wpAny_bind (wpAny_pure ?_)
 refine wpAny_bind (wpAny_fieldsOf ho hd ?_)
 refine wpAny_bind (m:=setEntries a) (wpAny_setEntries_of hos hds hf ?_)
 rw [if_neg (by simp)]
 refine wpAny_bind (m:=seqItems? (.ref tp)) (wpAny_seqItems hot hpt ?_)
 simp only [Int.toNat_natCast,hp]
 refine wpAny_bind (u5x ho hc hd (by simp) fun h1 o1 g1 c1 d1 b1=>?_)
 refine wpAny_bind (u5x (s:={ s with heap:=h1 }) g1 c1 d1 (by simp) fun h2 o2 g2 c2 d2 b2=>?_)
 refine wpAny_bind (m:=newExc (.type "StopIteration") []) ?_
 simp only [newExc,newTuple]
 refine wpAny_bind (wpAny_newObj_type (Q:=_) ?_ (by size_fits));refine wpAny_bind (m:=firstArgMember _ _) (wpAny_of_eq (a:=Value.none) (by first | rfl | (simp only [firstArgMember];rfl)) (wpAny_newObj_type ?_ (by size_fits)))
 simp only [raiseNew]
 refine wpAny_bind (wpAny_handled ?_)
 rw [show A.in1.handled=none from hh]
 refine wpAny_bind (wpAny_pure (wpAny_throw ?_));refine wpAny_bind (wpAny_isInstance (T:="StopIteration") (b:=true) ⟨_,Heap.get?_push_size _ rfl,rfl⟩ isSubtype_stop ?_)
 exact wpAny_pure (hQ _ fun b ob nb e=>Heap.get?_push_of_some _ (Heap.get?_push_of_some _ (b2.extBut b ob nb (b1.extBut b ob nb e))))
end
theorem u5Q {α:Type}:∀ (l:List α) (i:Nat) (h:i<l.length),(l[i]::l.eraseIdx i).Perm l
 | x::l,0,_=>List.Perm.refl _
 | x::l,i+1,h=>(List.Perm.swap x _ _).trans ((u5Q l i (by simpa using h)).cons x)
theorem u7g {α:Type} (f:Nat→Nat):∀ (n k:Nat) (l:List α) (out:Array α),l.length=n→(pickOrder.go f n k l out).toList.Perm (out.toList++l)
 | 0,k,l,out,h=>by
  have:l=[]:=List.eq_nil_of_length_eq_zero h
  subst this
  simp [pickOrder.go]
 | n+1,k,l,out,h=>by
  have lt:f k%l.length<l.length:=Nat.mod_lt _ (by omega)
  unfold pickOrder.go
  rw [List.getElem?_eq_getElem lt]
  refine (u7g f n (k+1) _ _ (by rw [List.length_eraseIdx,if_pos lt];omega)).trans ?_
  rw [Array.toList_push,List.append_assoc]
  exact List.Perm.append_left _ (u5Q l _ lt)
theorem u5p {α:Type} (f:Nat→Nat) (xs:Array α):(pickOrder f xs).toList.Perm xs.toList:=by
 have:=u7g f xs.size 0 xs.toList #[] (by simp)
 simpa [pickOrder] using this
section
variable {P:Program}{w:World}{A:Around}{E:VP}{s:Shared}
theorem v0L {src:Source}{n:Nat}{Q:Nat→Shared→Prop} (hn:n≠0) (h:∀ i d,i<n→Q i { s with drawn:=d }):wpAny (model P w) A (choose src n) Q E s :=
 fun _ _ _=>⟨hn,h _ _ (Nat.mod_lt _ (Nat.pos_of_ne_zero hn))⟩
theorem u3X {α:Type}:∀ (n:Nat) (xs:List α) (s:Shared) (Q:List α→Shared→Prop),xs.length=n→(∀ ys d,ys.Perm xs→Q ys { s with drawn:=d })→wpAny (model P w) A (drawOrder n xs) Q E s
 | 0,xs,s,Q,e,h=>by
  have:xs=[]:=List.eq_nil_of_length_eq_zero e
  subst this
  exact wpAny_pure (h [] s.drawn (List.Perm.refl _))
 | n+1,[],s,Q,e,h=>by cases e
 | n+1,x::xs,s,Q,e,h=>by
  show wpAny _ _ (choose .order (x::xs).length >>= _) _ _ s
  refine wpAny_bind (v0L (by simp) fun i d hi=>?_)
  rw [List.getElem?_eq_getElem hi]
  refine wpAny_bind (u3X n _ _ _ (by rw [List.length_eraseIdx,if_pos hi];omega) fun ys d' p=>?_)
  exact wpAny_pure (h _ d' ((p.cons _).trans (u5Q _ _ hi)))
variable {a I:Addr}{ep:Nat}{es:Array (Int×Value)}{t:SetTable}
theorem v0N (hh:A.handled=none) (ne:a≠I) (ht:w.params.followText "set-order"=true):Walks P w A I [I,a] [I] (pickOrder (w.params.setOrder a ep) es).toList.length
  (fun i v=>(((pickOrder (w.params.setOrder a ep) es).toList.map (·.2)))[i]?=some v) (fun i h=>SIt h I (.int 0 0) i a es.size ep∧SAt h a es ep t) where
 sub:=fun b hb=>by simp at hb;simp [hb]
 frame:=fun i h h' st k=>⟨st.1.at fun o=>k I (by simp) o,st.2.at fun o=>k a (by simp) o⟩
 item:=fun i s Q E hi st hQ=>by
  obtain ⟨os,hos,hds,hf⟩:=id st.2
  refine v0Z (slot:=0) (nx:=0) (x:=(pickOrder (w.params.setOrder a ep) es).toList[i].2) st.1 st.2 (fun B R E' r=>?_) fun h' X' k=>?_
  ·unfold setNext
   refine wpAny_bind (wpAny_setState_of hos hds hf ?_)
   unfold setsByText
   refine wpAny_bind (wpAny_bind (wpAny_askSetting (wpAny_pure ?_)))
   dsimp only
   simp only [show ((model P w).w.params.followText "set-order")=true from ht,if_true,bne_self_eq_false,Bool.false_eq_true,if_false]
   refine wpAny_bind ?_
   unfold setWalk setsByText
   refine wpAny_bind (wpAny_setState_of hos hds hf ?_)
   refine wpAny_bind (wpAny_bind (wpAny_askSetting (wpAny_pure ?_)))
   simp only [show ((model P w).w.params.followText "set-order")=true from ht,if_true]
   refine wpAny_bind (wpAny_askSetting (wpAny_pure (wpAny_pure ?_)))
   have q:(pickOrder ((model P w).w.params.setOrder a ep) es)[i]?=some ((pickOrder (w.params.setOrder a ep) es).toList[i]):=by
    rw [← Array.getElem?_toList]
    exact List.getElem?_eq_getElem hi
   rw [q]
   exact r
  ·exact hQ _ h' s.toks (by rw [List.getElem?_map,List.getElem?_eq_getElem hi];rfl) ⟨X',st.2.at fun o e=>k a o ne e⟩ fun b o hb e=>k b o (fun q=>hb (by simp [q])) e
 done:=fun s Q E st hQ=>by
  obtain ⟨os,hos,hds,hf⟩:=id st.2
  refine v1a (slot:=0) hh st.1 st.2 (fun B R E' r=>?_) fun h' k=>hQ h' s.toks fun b o hb e=>k b o (fun q=>hb (by simp [q])) e
  unfold setNext
  refine wpAny_bind (wpAny_setState_of hos hds hf ?_)
  unfold setsByText
  refine wpAny_bind (wpAny_bind (wpAny_askSetting (wpAny_pure ?_)))
  dsimp only
  simp only [show ((model P w).w.params.followText "set-order")=true from ht,if_true,bne_self_eq_false,Bool.false_eq_true,if_false]
  refine wpAny_bind ?_
  unfold setWalk setsByText
  refine wpAny_bind (wpAny_setState_of hos hds hf ?_)
  refine wpAny_bind (wpAny_bind (wpAny_askSetting (wpAny_pure ?_)))
  simp only [show ((model P w).w.params.followText "set-order")=true from ht,if_true]
  refine wpAny_bind (wpAny_askSetting (wpAny_pure (wpAny_pure ?_)))
  have q:(pickOrder ((model P w).w.params.setOrder a ep) es)[(pickOrder (w.params.setOrder a ep) es).toList.length]?=none:=by
   rw [Array.getElem?_eq_none (by rw [Array.length_toList];exact Nat.le_refl _)]
  rw [q]
  exact r
 self:=fun _ _ _ _ st h=>u8a st.1 h
theorem u6a {α:Type}{xs:Array α} (h:xs.size=1):∃ x,xs=#[x]:=by
 obtain ⟨l⟩:=xs
 match l,h with
 | [x],_=>exact ⟨x,rfl⟩
theorem u7R (p j:Nat):SetTable.below #[p] j=if p<j then 1 else 0:=by
 unfold SetTable.below
 simp [SetTable.below.go]
theorem u8Z (hds:SAt s.heap a es ep t) (h1:es.size≤1) (ht:w.params.followText "set-order"=false) (hl:t.led=true) {slot i:Nat}{R:Option (Value×Nat)→Shared→Prop}
  (r:R (match es[SetTable.below t.place slot]?,t.place[SetTable.below t.place slot]? with | some (_,x),some j=>some (x,j+1) | _,_=>none) s):wpAny (model P w) A (setNext a slot i ep) R E s:=by
 obtain ⟨os,hos,hd,hf⟩:=hds
 unfold setNext
 refine wpAny_bind (wpAny_setState_of hos hd hf ?_)
 unfold setsByText
 refine wpAny_bind (wpAny_bind (wpAny_askSetting (wpAny_pure ?_)))
 dsimp only
 simp only [show ((model P w).w.params.followText "set-order")=false from ht,Bool.false_eq_true,if_false]
 have z:(!t.plain&&decide (es.size > 1))=false:=by rw [decide_eq_false (by omega),Bool.and_false]
 show wpAny _ _ (if (!t.plain&&decide (es.size > 1))=true then _ else _) _ _ s
 rw [z]
 simp only [Bool.false_eq_true,if_false]
 have z2:(!t.led&&!es.isEmpty)=false:=by rw [hl];rfl
 show wpAny _ _ ((if (!t.led&&!es.isEmpty)=true then _ else _) >>= _) _ _ s
 rw [z2]
 exact wpAny_bind (wpAny_pure (wpAny_pure r))
theorem v2J (hh:A.handled=none) (ne:a≠I) (ht:w.params.followText "set-order"=false) (h1:es.size≤1) (hl:t.led=true) (hf:t.fits es.size=true):Walks P w A I [I,a] [I] es.toList.length (fun i v=>(es.toList.map (·.2))[i]?=some v)
  (fun i h=>SIt h I (.int ((if i=0 then 0 else t.place.getD 0 0+1:Nat):Nat) 0) i a es.size ep∧SAt h a es ep t) where
 sub:=fun b hb=>by simp at hb;simp [hb]
 frame:=fun i h h' st k=>⟨st.1.at fun o=>k I (by simp) o,st.2.at fun o=>k a (by simp) o⟩
 item:=fun i s Q E hi st hQ=>by
  have hz:es.size=1:=by have:es.toList.length=es.size:=Array.length_toList;omega
  have i0:i=0:=by have:es.toList.length=es.size:=Array.length_toList;omega
  subst i0
  obtain ⟨p,hp⟩:∃ p,t.place=#[p]:=by
   have:t.place.size=1:=by have:=(Bool.and_eq_true_iff.mp hf).1;rw [hz] at this;simpa using this
   exact u6a this
  obtain ⟨e,he⟩:∃ e,es=#[e]:=u6a hz
  subst he
  refine v0Z (slot:=0) (nx:=p+1) (x:=e.2) st.1 st.2 (fun B R E' r=>u8Z st.2 h1 ht hl ?_) fun h' X' k=>?_
  ·rw [hp,u7R];simpa using r
  ·refine hQ _ h' s.toks (by simp) ⟨?_,st.2.at fun o e=>k a o ne e⟩ fun b o hb e=>k b o (fun q=>hb (by simp [q])) e
   rw [hp]
   simpa using X'
 done:=fun s Q E st hQ=>by
  refine v1a hh st.1 st.2 (fun B R E' r=>u8Z st.2 h1 ht hl ?_) fun h' k=>hQ h' s.toks fun b o hb e=>k b o (fun q=>hb (by simp [q])) e
  by_cases hz:es.size=0
  ·have:es=#[]:=Array.eq_empty_of_size_eq_zero hz
   subst this
   simpa using r
  ·have hz:es.size=1:=by omega
   obtain ⟨p,hp⟩:∃ p,t.place=#[p]:=by
    have:t.place.size=1:=by have:=(Bool.and_eq_true_iff.mp hf).1;rw [hz] at this;simpa using this
    exact u6a this
   obtain ⟨e,he⟩:∃ e,es=#[e]:=u6a hz
   subst he
   rw [hp]
   simpa [u7R] using r
 self:=fun _ _ _ _ st h=>u8a st.1 h
theorem u9I {tp:Addr}{ys:List Nat} (hh:A.handled=none) (ne:a≠I) (nt:tp≠I) (hy:∀ j∈ys,j<es.size):Walks P w A I [I,a,tp] [I] ys.length (fun i v=>(ys.map fun j=>(es.getD j default).2)[i]?=some v)
  (fun i h=>SIt h I (.ref tp) i a es.size ep∧SAt h a es ep t∧∃ o m,h.get? tp=some o∧o.data=.seq (ys.map fun (j:Nat)=>rawInt j).toArray m) where
 sub:=fun b hb=>by simp at hb;simp [hb]
 frame:=fun i h h' st k=>⟨st.1.at fun o=>k I (by simp) o,st.2.1.at fun o=>k a (by simp) o,let ⟨o,m,x,y⟩:=st.2.2;⟨o,m,k tp (by simp) o x,y⟩⟩
 item:=fun i s Q E hi st hQ=>by
  obtain ⟨o,m,ho,hd⟩:=st.2.2
  have lt:=hy ys[i] (List.getElem_mem hi)
  refine v2P (place:=ys[i]) (tk:=0) (e:=es[ys[i]]) st.1 st.2.1 ho hd (by simp [hi,rawInt]) (Array.getElem?_eq_getElem lt) fun h' X' k=>?_
  refine hQ _ h' s.toks ?_ ⟨X',st.2.1.at fun o e=>k a o ne e,o,m,k tp o nt ho,hd⟩ fun b o hb e=>k b o (fun q=>hb (by simp [q])) e
  rw [List.getElem?_map,List.getElem?_eq_getElem hi]
  simp [Array.getD,lt]
 done:=fun s Q E st hQ=>by
  obtain ⟨o,m,ho,hd⟩:=st.2.2
  exact v2Q hh st.1 st.2.1 ho hd (by simp) fun h' k=>hQ h' s.toks fun b o hb e=>k b o (fun q=>hb (by simp [q])) e
 self:=fun _ _ _ _ st h=>u8a st.1 h
end
def Fwd (s s':Shared):Prop:=(∀ b o,s.heap.get? b=some o→s'.heap.get? b=some o)∧s'.os=s.os∧s'.gens=s.gens
section
variable {P:Program}{w:World}{A:Around}{E:VP}{s:Shared}
theorem u7X {es l:List (Int×Value)}{ss:List Str} (el:ElemsOf (PySem.strKind P w) es) (p:(es.map fun e=>strOf e.2).Perm ss) (q:l.Perm es):∃ ss',StrsAre (l.map (·.2)) ss'∧ss'.Perm ss :=
 ⟨_,strsAre_map _ fun v hv=>by
  obtain ⟨e,he,rfl⟩:=List.mem_map.mp hv
  exact u9t el (q.mem_iff.mp he),by
  rw [List.map_map]
  exact (q.map _).trans p⟩
theorem v0b {es:Array (Int×Value)}{ys:List Nat} (p:ys.Perm (List.range es.size)):(ys.map fun j=>es.getD j default).Perm es.toList:=by
 refine (p.map _).trans (List.Perm.of_eq ?_)
 apply List.ext_getElem
 ·simp
 ·intro i h1 h2
  simp at h1
  simp [Array.getD,h1]
theorem v2S {a:Addr}{ss:List Str}{Q:VP} (S:SetT P w s.heap a ss) (hh:A.handled=none)
  (h:∀ s₁ I fp vs St,Fwd s s₁→(∀ b∈fp,b=a∨s.heap.objs.size≤b)→s.heap.objs.size≤I→Walks P w A I fp [I] vs.length (fun i v=>vs[i]?=some v) St→St 0 s₁.heap→(∃ ss',StrsAre vs ss'∧ss'.Perm ss)→Q (.ref I) s₁) :
  wpAny (model P w) A (pyIter (.ref a)) Q E s:=by
 obtain ⟨o,es,ep,t,ho,hex,hd,el,p,nd,hb,hf,hl,hp⟩:=id S
 have hT:s.TypeIs (.ref a) "set":=⟨o,ho,hex.1⟩
 have la:a<s.heap.objs.size:=Heap.lt_size ho
 refine wpAny_pyIter_slot hT F.slot_set_iter (wpAny_call_entry F.slot_set_iter hT u7C ?_ (F.args_set_iter_1 _))
 unfold Builtin.«frozenset.__iter__»
 refine wpAny_bind (m:=Builtin.Frozenset.slot0 "__iter__" _) (wpAny_pure ?_)
 refine wpAny_bind ?_
 unfold Builtin.Frozenset.sizeOf
 refine wpAny_bind (wpAny_setEntries_of ho hd hf (wpAny_pure ?_))
 refine wpAny_bind ?_
 unfold setDrawn setsByText
 refine wpAny_bind (wpAny_setState_of ho hd hf (wpAny_bind (wpAny_bind (wpAny_askSetting (wpAny_pure (wpAny_pure ?_))))))
 dsimp only
 by_cases ht:w.params.followText "set-order"=true
 ·simp only [show ((model P w).w.params.followText "set-order")=true from ht,Bool.not_true,Bool.false_and,Bool.false_eq_true,if_false]
  refine wpAny_bind (wpAny_pure (wpAny_bind ?_))
  unfold setEpoch
  refine wpAny_bind (wpAny_setState_of ho hd hf (wpAny_pure (wpAny_bind (wpAny_newObj_type (wpAny_pure ⟨_,rfl,"set_iterator",_,⟨_,Heap.get?_push_size _ rfl,rfl⟩,u0u.lookup,?_⟩)))))
  refine h _ s.heap.objs.size _ _ _ ⟨fun b o e=>Heap.get?_push_of_some _ e,rfl,rfl⟩ ?_ (Nat.le_refl _) ((List.length_map (f:=fun e:Int×Value=>e.2) (as:=(pickOrder (w.params.setOrder a ep) es).toList)).symm ▸ v0N (t:=t) hh (Nat.ne_of_lt la) ht)
   ⟨⟨_,Heap.get?_push_size _ rfl,rfl,rfl⟩,⟨o,Heap.get?_push_of_some _ ho,hd,hf⟩⟩ (u7X el p (u5p _ _))
  intro b hb
  simp at hb
  rcases hb with rfl | rfl
  ·exact .inr (Nat.le_refl _)
  ·exact .inl rfl
 ·have ht:w.params.followText "set-order"=false:=by simpa using ht
  have hl:t.led=true:=by rw [hl,ht];rfl
  by_cases h1:es.size≤1
  ·have z:(!false&&(!t.plain&&decide (es.size > 1)))=false:=by rw [decide_eq_false (by omega),Bool.and_false];rfl
   simp only [show ((model P w).w.params.followText "set-order")=false from ht]
   show wpAny _ _ (if (!false&&(!t.plain&&decide (es.size > 1)))=true then _ else _) _ _ _
   rw [z]
   simp only [Bool.false_eq_true,if_false]
   refine wpAny_bind (wpAny_pure (wpAny_bind ?_))
   unfold setEpoch
   refine wpAny_bind (wpAny_setState_of ho hd hf (wpAny_pure (wpAny_bind (wpAny_newObj_type (wpAny_pure ⟨_,rfl,"set_iterator",_,⟨_,Heap.get?_push_size _ rfl,rfl⟩,u0u.lookup,?_⟩)))))
   refine h _ s.heap.objs.size _ _ _ ⟨fun b o e=>Heap.get?_push_of_some _ e,rfl,rfl⟩ ?_ (Nat.le_refl _) ((List.length_map (f:=fun e:Int×Value=>e.2) (as:=es.toList)).symm ▸ v2J (t:=t) (ep:=ep) hh (Nat.ne_of_lt la) ht h1 hl hf)
    ⟨⟨_,Heap.get?_push_size _ rfl,rfl,rfl⟩,⟨o,Heap.get?_push_of_some _ ho,hd,hf⟩⟩ (u7X el p (List.Perm.refl _))
   intro b hb
   simp at hb
   rcases hb with rfl | rfl
   ·exact .inr (Nat.le_refl _)
   ·exact .inl rfl
  ·have z:(!false&&(!t.plain&&decide (es.size > 1)))=true:=by rw [hp (by omega),decide_eq_true (by omega)];rfl
   simp only [show ((model P w).w.params.followText "set-order")=false from ht]
   show wpAny _ _ (if (!false&&(!t.plain&&decide (es.size > 1)))=true then _ else _) _ _ _
   rw [z]
   simp only [if_true]
   refine wpAny_bind (u3X _ _ _ _ (by simp) fun ys d py=>?_)
   have hy:ys.length=es.size:=by rw [py.length_eq];simp
   have hs:es.size≤sizeLine:=fits_of_scanBound hb
   unfold newTuple
   refine wpAny_bind (wpAny_newObj_type (wpAny_bind ?_) (show (ys.map fun (j:Nat)=>rawInt j).toArray.size≤sizeLine by simpa [hy] using hs))
   unfold setEpoch
   refine wpAny_bind (wpAny_setState_of (o:=o) (Heap.get?_push_of_some _ ho) hd hf (wpAny_pure (wpAny_bind (wpAny_newObj_type (wpAny_pure ⟨_,rfl,"set_iterator",_,⟨_,Heap.get?_push_size _ rfl,rfl⟩,u0u.lookup,?_⟩)))))
   have zz:(s.heap.push { cls:=.type "tuple",data:=.seq (ys.map fun (j:Nat)=>rawInt j).toArray }).objs.size=s.heap.objs.size+1:=Heap.size_push ..
   have em:(ys.map fun j=>(es.getD j default).2)=(ys.map fun j=>es.getD j default).map (·.2):=by rw [List.map_map];rfl
   refine h _ _ _ (ys.map fun j=>(es.getD j default).2) _ ⟨fun b o e=>Heap.get?_push_of_some _ (Heap.get?_push_of_some _ e),rfl,rfl⟩ ?_ (by rw [zz];exact Nat.le_succ _)
    ((List.length_map (f:=fun j=>(es.getD j default).2) (as:=ys)).symm ▸ u9I (t:=t) (ep:=ep) (tp:=s.heap.objs.size) hh (by rw [zz];exact Nat.ne_of_lt (Nat.lt_succ_of_lt la)) (by rw [zz];exact Nat.ne_of_lt (Nat.lt_succ_self _)) fun j hj=>by simpa using py.mem_iff.mp hj)
    ⟨⟨_,Heap.get?_push_size _ rfl,rfl,rfl⟩,⟨o,Heap.get?_push_of_some _ (Heap.get?_push_of_some _ ho),hd,hf⟩,_,_,Heap.get?_push_of_some _ (Heap.get?_push_size _ rfl),rfl⟩ (em ▸ u7X el p (v0b py))
   intro b hb
   simp [zz] at hb
   rcases hb with rfl | rfl | rfl
   ·exact .inr (Nat.le_succ _)
   ·exact .inl rfl
   ·exact .inr (Nat.le_refl _)
end
end L2
namespace L2
open PySem PySem.Spec PyProof.Rows PySem.W PySem.Calls
section
variable {P:Program}{w:World}{A:Around}{E:VP}{s:Shared}
theorem v2U {r:Addr}{Q:Bool→Shared→Prop} (hT:s.TypeIs (.ref r) "set") (h:Q false s):wpAny (model P w) A (Builtin.List.listLengthHint (.ref r)) Q E s:=by
 unfold Builtin.List.listLengthHint
 refine wpAny_bind (wpAny_specialOf hT PySem.F.slot_set_len.lookup ?_)
 generalize hid:("set.__len__":String)=id0
 wp_delta
 rw [show splitId id0=some ("set","__len__") from by subst hid;decide +kernel]
 subst hid
 refine wpAny_bind (wpAny_isInstance (T:="set") (b:=true) hT (by rw [isSubtype_type];kernel_rfl) ?_)
 refine wpAny_ite_split (fun q=>absurd q (by decide)) (fun _=>wpAny_ite_split (fun _=>?_) (fun q=>absurd (by decide +kernel) q))
 exact wpAny_bind (wpAny_typeOf hT (wpAny_pure h))
theorem u9Q {a S:Addr}{ss:List Str}{res:Value}{c₀:Nat}{R:Result→Shared→Prop} (T:SetT P w s.heap a ss) (hh:A.handled=none) (ne:S≠a) (hS:s.heap.get? S=some { cls:=.type "list",data:=.seq #[] c₀ }) (hz:ss.length≤sizeLine)
  (hR:∀ s' acc c',(∀ b o,b≠S→s.heap.get? b=some o→s'.heap.get? b=some o)→s'.os=s.os→s'.gens=s.gens→s'.heap.get? S=some { cls:=.type "list",dict:=none,data:=.seq acc c',slots:=#[] }→(∃ ss',StrsAre acc.toList ss'∧ss'.Perm ss)→R (.ok (.ret res)) s') :
  wpAny (model P w) A.in1 (Builtin.List.listExtendWith (.ref S) (.ref a) res)
   (fun fin s'=>match fin with | .done f=>R (.ok f) s' | .again c'=>c'.quiet=true∧codeAny (model P w) A c' R s') (fun e s'=>R (.error e) s') s:=by
 obtain ⟨o,es,ep,t,ho,hex,_⟩:=id T
 have hT:s.TypeIs (.ref a) "set":=⟨o,ho,hex.1⟩
 unfold Builtin.List.listExtendWith
 refine wpAny_bind (wpAny_typeOf (T:="set") hT ?_)
 have k1:Builtin.List.listSameRef (.ref S) (.ref a)=false:=by simp [Builtin.List.listSameRef,ne]
 simp only [k1,show (Value.type "set"==Value.type "list")=false by decide,show (Value.type "set"==Value.type "tuple")=false by decide,Bool.or_false,Bool.false_eq_true,if_false]
 refine wpAny_bind (v2S T hh fun s₁ I fp vs St fw hfp hI W st sv=>?_)
 have hS₁:=fw.1 _ _ hS
 have lS:S<s.heap.objs.size:=Heap.lt_size hS
 have nf:S∉fp:=fun m=>by
  rcases hfp S m with e | e
  ·exact ne e
  ·exact Nat.lt_irrefl _ (Nat.lt_of_lt_of_le lS e)
 obtain ⟨ss',hv,hp⟩:=sv
 have hn:vs.length≤sizeLine:=by
  have e1:(vs.map strOf).length=ss'.length:=by rw [hv.strs]
  have e2:=hp.length_eq
  simp at e1
  omega
 have key:∀ (h:Heap) (c₁:Nat),St 0 h→(∀ b o,b≠S→s.heap.get? b=some o→h.get? b=some o)→h.get? S=some { cls:=.type "list",data:=.seq #[] c₁ } →
   codeAny (model P w) A (.builtin "list.extend.loop" ⟨[.ref S,.ref I,res],[]⟩) R { s₁ with heap:=h }:=fun h c₁ st hk hS=>by
  refine codeAny_extend_loopS W.toS hn S nf res vs.length 0 _ #[] c₁ rfl (Nat.zero_le _) st hS (ItemsOf.nil _) fun s' acc c' hm hS' hacc=>?_
  refine hR s' acc c' (fun b o hb e=>hm.heap b o (fun m=>?_) (hk b o hb e)) (hm.os.trans fw.2.1) (hm.gens.trans fw.2.2) hS' ⟨ss',?_,hp⟩
  ·rcases List.mem_cons.mp m with e' | m
   ·exact hb e'
   ·rw [List.mem_singleton] at m
    subst m
    exact Nat.lt_irrefl _ (Nat.lt_of_lt_of_le (Heap.lt_size e) hI)
  ·have:acc.toList=vs:=List.ext_getElem? fun j=>by
    by_cases lt:j<acc.toList.length
    ·rw [List.getElem?_eq_getElem lt]
     have:=hacc.2 j acc.toList[j] (by rw [← Array.getElem?_toList];exact List.getElem?_eq_getElem lt)
     exact this.symm
    ·rw [List.getElem?_eq_none (by omega),List.getElem?_eq_none (by have:=hacc.1;simp at lt;omega)]
   rw [this]
   exact hv
 refine wpAny_bind (wpAny_holding (v2U ⟨o,fw.1 _ _ ho,hex.1⟩ ?_))
 refine wpAny_ite_split (fun _=>?_) (fun _=>wpAny_pure ⟨plainId_quiet PySem.F.plain_extend_loop _,key _ c₀ st (fun b o _ e=>fw.1 b o e) hS₁⟩)
 refine wpAny_bind (wpAny_rule (wpAny_bind (m:=updateSeq S (·.push .none) >>= fun _=>updateSeq S (·.pop)) ?_))
 refine wpAny_bind (wpAny_updateSeq hS₁ rfl ?_)
 have hS₂:=Heap.get?_update_self (Obj.mapSeq (·.push Value.none)) hS₁ rfl
 refine wpAny_updateSeq (hz:=by seq_fits) hS₂ rfl ?_
 have hS₃:=Heap.get?_update_self (Obj.mapSeq (·.pop)) hS₂ rfl
 have oth:∀ b o,b≠S→s₁.heap.get? b=some o→((s₁.heap.update S (Obj.mapSeq (·.push Value.none))).update S (Obj.mapSeq (·.pop))).get? b=some o:=fun b o hb e=>(Heap.get?_update_other _ _ (Ne.symm hb)).trans ((Heap.get?_update_other _ _ (Ne.symm hb)).trans e)
 exact wpAny_pure ⟨plainId_quiet PySem.F.plain_extend_loop _,key _ _ (W.frame 0 _ _ st fun b hb o e=>oth b o (fun q=>nf (q ▸ hb)) e) (fun b o hb e=>oth b o hb (fw.1 b o e)) hS₃⟩
theorem u8b {a:Addr}{ss:List Str}{R:List Value→Shared→Prop} (T:SetT P w s.heap a ss) (hh:A.handled=none) (hz:ss.length≤sizeLine) (h:∀ s' vs ss',Fwd s s'→StrsAre vs ss'→ss'.Perm ss→R vs s'):wpAny (model P w) A (collect (.ref a)) R E s:=by
 obtain ⟨o,es,ep,t,ho,_⟩:=id T
 have la:a<s.heap.objs.size:=Heap.lt_size ho
 unfold collect
 refine wpAny_bind (wpAny_runValue (codeAny_builtin entry_proto_collect' ?_))
 rw [Around.under_plainId PySem.F.plain_proto_collect _]
 refine wpAny_bind (m:=newList []) (wpAny_newObj_type (wpAny_pure ⟨plainId_quiet PySem.F.plain_list_iadd _,codeAny_builtin entry_list_iadd' ?_⟩))
 rw [Around.under_plainId PySem.F.plain_list_iadd _]
 have hS₁:(s.heap.push { cls:=.type "list",data:=.seq ([]:List Value).toArray }).get? s.heap.objs.size=some { cls:=.type "list",data:=.seq #[] }:=Heap.get?_push_size _ rfl
 have key:=u9Q (A:=A) (s:={ s with heap:=s.heap.push { cls:=.type "list",data:=.seq ([]:List Value).toArray } }) (res:=.ref s.heap.objs.size)
  (R:=fun (q:Result) (s':Shared)=>∃ acc c' ss',q=.ok (.ret (.ref s.heap.objs.size))∧Fwd s s'∧s'.heap.get? s.heap.objs.size=some { cls:=.type "list",dict:=none,data:=.seq acc c',slots:=#[] }∧StrsAre acc.toList ss'∧ss'.Perm ss)
  (T.keep fun o e=>Heap.get?_push_of_some _ e) hh (Nat.ne_of_gt la) hS₁ hz
  (fun s' acc c' hk h1 h2 hS' hv=>⟨acc,c',hv.choose,rfl,⟨fun b o e=>hk b o (Nat.ne_of_lt (Heap.lt_size e)) (Heap.get?_push_of_some _ e),h1,h2⟩,hS',hv.choose_spec.1,hv.choose_spec.2⟩)
 refine wpAny_mono key (fun fin s' x=>?_) fun e s' x=>?_
 ·cases fin with
  | done f =>
   obtain ⟨acc,c',ss',e,fw,hS',hv,hp⟩:=x
   cases e
   exact wpAny_bind (m:=load s.heap.objs.size) (wpAny_load hS' (wpAny_pure (h s' _ ss' fw hv hp)))
  | again c₁ =>
   refine ⟨x.1,codeAny_mono x.2 fun q s₂ y=>?_⟩
   obtain ⟨acc,c',ss',rfl,fw,hS',hv,hp⟩:=y
   exact wpAny_bind (m:=load s.heap.objs.size) (wpAny_load hS' (wpAny_pure (h s₂ _ ss' fw hv hp)))
 ·obtain ⟨_,_,_,e',_⟩:=x
  cases e'
end
end L2
namespace L2
open PySem PySem.Spec PyProof.Rows PySem.W PySem.Calls
def leS (a b:Str):Prop:=ltCps b.cps.toList a.cps.toList=false
theorem u3a {a b:Str}:leS a b↔a.cps.toList≤b.cps.toList:=by
 unfold leS
 rw [ltCps_eq,decide_eq_false_iff_not]
 exact List.not_lt
theorem u7o {a b c:Str} (h:leS a b) (k:leS b c):leS a c:=u3a.mpr (List.le_trans (u3a.mp h) (u3a.mp k))
theorem v3z {a b:Str} (h:leS a b) (k:leS b a):a=b:=by
 have e:=List.le_antisymm (u3a.mp h) (u3a.mp k)
 obtain ⟨⟨l⟩⟩:=a
 obtain ⟨⟨m⟩⟩:=b
 simp only at e
 rw [e]
theorem v1G (a b:Str):leS a b∨leS b a:=by
 rw [u3a,u3a]
 exact List.le_total _ _
theorem u5A:∀ (l:List Str) (p:Str),risingS p l=true→(∀ x∈l,leS p x)∧l.Pairwise leS
 | [],_,_=>⟨fun x h=>(List.not_mem_nil h).elim,.nil⟩
 | y::l,p,h=>by
  unfold risingS at h
  rw [Bool.and_eq_true,Bool.not_eq_true'] at h
  obtain ⟨h1,h2⟩:=u5A l y h.2
  exact ⟨fun x hx=>by
   rcases List.mem_cons.mp hx with rfl | hx
   ·exact h.1
   ·exact u7o h.1 (h1 x hx),.cons h1 h2⟩
theorem v0V {l:List Str} (h:sortedS l=true):l.Pairwise leS:=by
 cases l with
 | nil=>exact .nil
 | cons x l=>obtain ⟨h1,h2⟩:=u5A l x h;exact .cons h1 h2
theorem u2G:∀ {l m:List Str},l.Perm m→l.Pairwise leS→m.Pairwise leS→l=m
 | [],m,p,_,_=>(List.Perm.nil_eq p)
 | x::l,m,p,hl,hm=>by
  cases m with
  | nil=>exact absurd p.length_eq (by simp)
  | cons y m =>
   have e:x=y:=by
    have hx:x∈y::m:=p.mem_iff.mp List.mem_cons_self
    have hy:y∈x::l:=p.mem_iff.mpr List.mem_cons_self
    rcases List.mem_cons.mp hx with e | hx
    ·exact e
    ·rcases List.mem_cons.mp hy with e | hy
     ·exact e.symm
     ·exact v3z ((List.pairwise_cons.mp hl).1 y hy) ((List.pairwise_cons.mp hm).1 x hx)
   subst e
   rw [u2G p.cons_inv (List.pairwise_cons.mp hl).2 (List.pairwise_cons.mp hm).2]
noncomputable def insT (x:Str):List Str→List Str
 | []=>[x]
 | y::l=>if ltCps y.cps.toList x.cps.toList=true then y::insT x l else x::y::l
noncomputable def sortT:List Str→List Str
 | []=>[]
 | x::l=>insT x (sortT l)
theorem u4V (x:Str):∀ l:List Str,(insT x l).Perm (x::l)
 | []=>List.Perm.refl _
 | y::l=>by
  unfold insT
  split
  ·exact ((u4V x l).cons y).trans (List.Perm.swap x y l)
  ·exact List.Perm.refl _
theorem u1y:∀ l:List Str,(sortT l).Perm l
 | []=>List.Perm.refl _
 | x::l=>(u4V x _).trans ((u1y l).cons x)
set_option tactic.hygienic true in
theorem v1Q (x:Str):∀ {l:List Str},l.Pairwise leS→(insT x l).Pairwise leS
 | [],_=>List.pairwise_singleton ..
 | y::l,h=>by
  unfold insT
  obtain ⟨h1,h2⟩:=List.pairwise_cons.mp h
  split
  ·rename_i q
   refine .cons (fun z hz=>?_) (v1Q x h2)
   rcases List.mem_cons.mp ((u4V x l).mem_iff.mp hz) with rfl | hz
   ·rcases v1G y z with t | t
    ·exact t
    ·unfold leS at t;rw [q] at t;cases t
   ·exact h1 z hz
  ·rename_i q
   have q':leS x y:=by unfold leS;simpa using q
   exact .cons (fun z hz=>by
    rcases List.mem_cons.mp hz with rfl | hz
    ·exact q'
    ·exact u7o q' (h1 z hz)) h
theorem u4l:∀ l:List Str,(sortT l).Pairwise leS
 | []=>.nil
 | x::l=>v1Q x (u4l l)
theorem v2O {l ss:List Str} (p:l.Perm ss) (h:sortedS l=true):l=sortT ss:=u2G (p.trans (u1y ss).symm) (v0V h) (u4l ss)
theorem u1C {ss:List Str}{x:Str}:x∈sortT ss↔x∈ss:=(u1y ss).mem_iff
theorem u1D (ss:List Str):(sortT ss).length=ss.length:=(u1y ss).length_eq
section
variable {P:Program}{w:World}{A:Around}{E:VP}{s:Shared}
theorem u6J {a:Addr}{ss:List Str}{Q:VP} (h64:ss.length<64)
  (hc:∀ (B:Around) (E':VP) (R:List Value→Shared→Prop),B.handled=A.handled→(∀ s' vs ss',Fwd s s'→StrsAre vs ss'→ss'.Perm ss→R vs s')→wpAny (model P w) B (collect (.ref a)) R E' s)
  (h:∀ s' s'' D out n,Fwd s s'→Fwd s' s''→s'.heap.objs.size≤D→s''.heap.get? D=some (seqObj "list" out n)→StrsAre out.toList (sortT ss)→Q (.ref D) s''):wpAny (model P w) A (call (.builtin "sorted") [.ref a]) Q E s:=by
 refine Calls.call_function_entry kind_sorted plain_sorted entry_sorted (args_sorted1 _) ?_
 unfold Builtin.«sorted»
 refine wpAny_bind (m:=checkCount "sorted" 1 1 _) (wpAny_pure (wpAny_bind (hc _ _ _ rfl fun s' vs ss' fw hv hp=>?_)))
 have hn:vs.length=ss.length:=by
  have:(vs.map strOf).length=ss'.length:=by rw [hv.strs]
  rw [← hp.length_eq,← this,List.length_map]
 refine wpAny_bind (wpAny_newList ?_ (by rw [hn,sizeLine_eq];omega))
 have ho:(s'.heap.push (seqObj "list" vs.toArray 0)).get? s'.heap.objs.size=some (seqObj "list" vs.toArray 0):=Heap.get?_push_size _ rfl
 have z:(s'.heap.push (seqObj "list" vs.toArray 0)).objs.size=s'.heap.objs.size+1:=Heap.size_push ..
 refine wpAny_bind (wpAny_holding (wpAny_call_entry slot_list_sort ⟨_,ho,rfl⟩ entry_list_sort (list_sort_treeK strKind_oneLt ho hv.keysOf (fun v₁ v₂ rest e=>keyKind_strs (by rw [← e];exact hv)) (by omega) fun st' a1 a2=>⟨_,rfl,?_⟩) (args_list_sort _)))
 refine wpAny_pure ⟨_,rfl,?_⟩
 obtain ⟨ss2,h1,h2,h3⟩:=sorted_out_str hv a1 a2
 obtain ⟨n,hD⟩:=sortedHeap_at (out:=(arrOf st').map (·.2)) ho
 refine h s' _ s'.heap.objs.size _ n fw ⟨fun b o e=>?_,rfl,rfl⟩ (Nat.le_refl _) hD ?_
 ·have lt:=Heap.lt_size e
  have k:=sortedHeap_old (h:=s'.heap.push (seqObj "list" vs.toArray 0)) (a:=s'.heap.objs.size) (b:=b) (vs:=vs) (out:=(arrOf st').map (·.2)) (Nat.ne_of_lt lt) (by rw [z];exact Nat.lt_succ_of_lt lt)
  rw [Heap.get?_push_of_some _ e] at k
  exact k
 ·rw [← v2O (h2.trans hp) h3]
  exact h1
end
end L2
namespace L2
open PySem PySem.Spec PyProof.Rows PySem.W PySem.Calls
noncomputable def STO (P:Program) (w:World) (a:Addr) (ss:List Str):HO:=.ext fun h=>SetT P w h a ss
theorem u6H:∀ {vs:List Value}{ss:List Str},StrsAre vs ss→Vals (ss.map V.str) vs
 | _,_,.nil=>.nil
 | _,_,.cons x t h=>.cons ⟨t,rfl⟩ (u6H h)
theorem u6C:∀ {vs:List Value}{ss:List Str},Vals (ss.map V.str) vs→StrsAre vs ss
 | _,[],.nil=>.nil
 | _,_::_,.cons ⟨t,e⟩ h=>by subst e;exact .cons _ t (u6C h)
section
variable {X:Cx}{pins:LO}{σ:St}{H:Hp}{s:Shared}
theorem Inv.alike {s':Shared} (I:Inv X pins σ H s) (e1:s'.heap=s.heap) (e2:s'.os=s.os) (e3:s'.gens=s.gens):Inv X pins σ H s' :=
 ⟨I.ok,e2.trans I.os,e3 ▸ I.bare,e1 ▸ I.base,e1 ▸ I.loc,e1 ▸ I.cell,I.free,I.freeC,e1 ▸ I.pin,e1 ▸ I.hok,I.len⟩
theorem Inv.fwd {s':Shared} (I:Inv X pins σ H s) (f:Fwd s s'):Inv X pins σ H s':=(I.kept (h':=s'.heap) (t':=s'.toks) f.1).alike rfl f.2.1 f.2.2
theorem Inv.laidF {s':Shared}{a:Addr}{o:HO} (I:Inv X pins σ H s) (f:Fwd s s') (hp:s.heap.objs.size≤a) (new:ObjOk X.prog X.w (upd H a o) s'.heap a o):Inv X pins σ (upd H a o) s' :=
 (I.laid (h':=s'.heap) (t':=s'.toks) f.1 hp new).alike rfl f.2.1 f.2.2
theorem u7J (hc:X.calm=true):CallR X (.type "set") (fun xs H Q=>∃ l ss,xs=[.ref l]∧SqL X.K H l (ss.map V.str)∧ss.length+1<scanBound∧∀ p,H p=none→Q (.ref p) (upd H p (STO X.prog X.w p (setOfT ss)))):=by
 intro pins s σ H xs us Q I r ⟨l,ss,e,hq,hb,q⟩
 subst e
 obtain ⟨u,rfl,ru⟩:=vals1 r
 cases ru
 obtain ⟨its,rv,hl,hz⟩:=I.list hq
 have hv:=u6C rv
 have hn:its.length=ss.length:=by have:=rv.length;simpa using this.symm
 refine v2W (ss:=ss) (items:=its.toArray) (I.ok.hd hc) hl.isList (by simpa using hv) (by simpa [hn] using hb) fun s₂ ⟨h',tk,e,S,k⟩=>?_
 subst e
 have kk:∀ b u,s.heap.get? b=some u→h'.get? b=some u:=fun b u e=>k b u (Heap.lt_size e) e
 obtain ⟨o,es,ep,t,ho,rest⟩:=id S
 exact ⟨.ref s.heap.objs.size,_,I.laid (a:=s.heap.objs.size) (o:=STO X.prog X.w s.heap.objs.size (setOfT ss)) kk (Nat.le_refl _) ⟨S,⟨o,ho⟩,fun h1 h2 x y=>x.keep y⟩,rfl,q _ (I.hok.fresh (Nat.le_refl _))⟩
theorem u7m {s' s'':Shared}{D:Addr}{out:Array Value}{n:Nat}{ss:List Str}{Q:VK} (I:Inv X pins σ H s) (f1:Fwd s s') (f2:Fwd s' s'') (hD:s'.heap.objs.size≤D) (g:s''.heap.get? D=some (seqObj "list" out n)) (hv:StrsAre out.toList ss) (hz:ss.length≤sizeLine)
  (q:∀ p,H p=none→Q (.ref p) (upd H p (.lst (ss.map V.str)))):EP X pins σ Q (.ref D) s'' :=
 ⟨.ref D,_,(I.fwd f1).laidF (o:=.lst (ss.map V.str)) f2 hD ⟨by simpa using hz,out.toList,n,u6H hv,by simpa using g⟩,rfl,q D ((I.fwd f1).hok.fresh hD)⟩
theorem u3Z (hc:X.calm=true):CallR X (.builtin "sorted") (fun xs H Q=>∃ a ss,xs=[.ref a]∧H a=some (STO X.prog X.w a ss)∧ss.length<64∧∀ p,H p=none→Q (.ref p) (upd H p (.lst ((sortT ss).map V.str)))):=by
 intro pins s σ H xs us Q I r ⟨a,ss,e,ha,h64,q⟩
 subst e
 obtain ⟨u,rfl,ru⟩:=vals1 r
 cases ru
 have S:SetT X.prog X.w s.heap a ss:=(show ObjOk X.prog X.w H s.heap a (STO X.prog X.w a ss) from I.hok a _ ha).1
 have hz:ss.length≤sizeLine:=by rw [sizeLine_eq];omega
 refine u6J h64 (fun B E' R hB k=>u8b S (hB.trans (I.ok.hd hc)) hz k) fun s' s'' D out n f1 f2 hD g hv=>u7m I f1 f2 hD g hv (by rw [u1D];exact hz) q
theorem u5M (hc:X.calm=true):CallR X (.builtin "sorted") (fun xs H Q=>∃ a kvs ss,xs=[.ref a]∧H a=some (.dK kvs)∧kvs.map (·.1)=ss.map Sum.inr∧ss.length<64∧∀ p,H p=none→Q (.ref p) (upd H p (.lst ((sortT ss).map V.str)))):=by
 intro pins s σ H xs us Q I r ⟨a,kvs,ss,e,ha,hk,h64,q⟩
 subst e
 obtain ⟨u,rfl,ru⟩:=vals1 r
 cases ru
 obtain ⟨_,hS,vs,rk,m⟩:kvs.length≤sizeLine∧(a==sysModules)=false∧∃ vs,KV kvs vs∧s.heap.DictOf (mixKind X.prog X.w) a vs:=I.hok a _ ha
 obtain ⟨ep,m⟩:=m.dictAt
 have hz:ss.length≤sizeLine:=by rw [sizeLine_eq];omega
 have ek:vs.map (·.1)=ss.map Sum.inr:=rk.keys.symm.trans hk
 have hn:vs.length=ss.length:=by have:=congrArg List.length ek;simpa using this
 refine u6J h64 (fun B E' R hB k=>kdu_collect (kdl_dict (kvs:=vs) hS) (hB.trans (I.ok.hd hc)) m (hn ▸ hz) fun h' tk acc hkeep hacc=>k _ _ ss ⟨hkeep,rfl,rfl⟩ ?_ (List.Perm.refl _)) fun s' s'' D out n f1 f2 hD g hv=>u7m I f1 f2 hD g hv (by rw [u1D];exact hz) q
 have hl:acc.toList.length=ss.length:=by rw [Array.length_toList,hacc.1,hn]
 have key:∀ (j:Nat) (v:Value),acc.toList[j]?=some v→∃ x t,ss[j]?=some x∧v=.str x t:=fun j v e=>by
  obtain ⟨k,y,e1,e2⟩:=hacc.2 j v (by rw [← Array.getElem?_toList];exact e)
  have e3:(vs.map (·.1))[j]?=some k:=by rw [List.getElem?_map,e1];rfl
  rw [ek,List.getElem?_map] at e3
  cases e4:ss[j]? with
  | none=>rw [e4] at e3;cases e3
  | some x =>
   rw [e4] at e3
   cases e3
   rcases u0C ((v0v X.prog X.w _ _).symm.trans e2) with ⟨_,_,e5,_⟩ | ⟨z,t,e5,e6⟩
   ·cases e5
   ·cases e5;exact ⟨_,t,rfl,e6⟩
 have go:∀ (vs:List Value) (ss:List Str),vs.length=ss.length→(∀ (j:Nat) (v:Value),vs[j]?=some v→∃ x t,ss[j]?=some x∧v=.str x t)→StrsAre vs ss:=by
  intro vs
  induction vs with
  | nil=>intro ss e _;cases ss with | nil=>exact .nil | cons _ _=>cases e
  | cons v vs ih =>
   intro ss e h
   cases ss with
   | nil=>cases e
   | cons x ss =>
    obtain ⟨z,t,e1,e2⟩:=h 0 v rfl
    cases e1
    subst e2
    exact .cons _ t (ih ss (by simpa using e) fun j v q=>h (j+1) v (by simpa using q))
 exact go _ _ hl key
end
noncomputable def strsOf:List D→Option (List Str)
 | []=>some []
 | .str z::ds=>(strsOf ds).map (z::·)
 | _=>none
theorem u4s {K:W.Frag}{F:Hp}:∀ {xs:List V}{ds:List D}{ss:List Str},Rps K F xs ds→strsOf ds=some ss→xs=ss.map V.str∧∀ z∈ss,z.length≤sizeLine
 | _,_,_,.nil,e=>by cases e;exact ⟨rfl,fun _ h=>(List.not_mem_nil h).elim⟩
 | _,d::ds,ss,.cons h hs,e=>by
  cases h with
  | str hz =>
   unfold strsOf at e
   cases q:strsOf ds with
   | none=>rw [q] at e;cases e
   | some ts =>
    rw [q] at e
    cases e
    obtain ⟨e1,e2⟩:=u4s hs q
    rw [e1]
    exact ⟨rfl,fun z hz'=>by
     rcases List.mem_cons.mp hz' with rfl | h
     ·exact hz
     ·exact e2 z h⟩
  | _=>cases e
theorem u3m {K:W.Frag}{F:Hp}:∀ {ss:List Str},(∀ z∈ss,z.length≤sizeLine)→Rps K F (ss.map V.str) (ss.map D.str)
 | [],_=>.nil
 | z::ss,h=>.cons (.str (h z List.mem_cons_self)) (u3m fun y hy=>h y (List.mem_cons_of_mem _ hy))
noncomputable def gSS:D→Res D
 | .lst ds=>match strsOf ds with
  | some ss=>gd (ss.length<64) (.ok (.lst ((sortT (setOfT ss)).map D.str)))
  | none=>.bad
 | _=>.bad
noncomputable def keyStrs:List (D×D)→Option (List Str)
 | []=>some []
 | (.str z,_)::ps=>(keyStrs ps).map (z::·)
 | _=>none
noncomputable def gSD:List D→Res D
 | [.dct ps]=>match keyStrs ps with
  | some ss=>gd (ss.length<64∧∀ z∈ss,z.length≤sizeLine) (.ok (.lst ((sortT ss).map D.str)))
  | none=>.bad
 | _=>.bad
theorem u3C {K:W.Frag}{F:Hp}:∀ {kvs:List (Key×V)}{ps:List (D×D)}{ss:List Str},Rpk K F kvs ps→keyStrs ps=some ss→kvs.map (·.1)=ss.map Sum.inr
 | _,_,_,.nil,e=>by cases e;rfl
 | _,_,ss,.cons (k:=k) (ds:=ds) h hs,e=>by
  cases k with
  | inl i=>cases e
  | inr z =>
   unfold keyStrs kD at e
   cases q:keyStrs ds with
   | none=>simp only [q] at e;cases e
   | some ts =>
    simp only [q] at e
    cases e
    rw [List.map_cons,u3C hs q]
    rfl
section
variable {X:Cx}{xq:XQ}{e:Expr}{fs:Rho→Res (List D)}{p p2 pos pos2:Pos}
noncomputable def one1 {α:Type} (g:D→Res α):List D→Res α
 | [d]=>g d
 | _=>.bad
set_option tactic.hygienic true in
theorem v2p (hc:X.calm=true) (hm:X.mg "sorted"=none) (hm2:X.mg "set"=none) (ha:DA X xq [e] fs) (hg:Gl X "sorted":=by rfl) (hg2:Gl X "set":=by rfl) :
  DE X xq (.Call (.Name "sorted" p) [.Call (.Name "set" p2) [e] [] pos2] [] pos) (fun ρ=>(fs ρ).bind fun ds=>noE (one1 gSS ds)) :=
 DE.of (pcB (u3Z hc) hg hm (by decide +kernel) (pac (pcT (u7J hc) hg2 hm2 (by decide +kernel) ha.out (by decide) (by decide) ha.ns) u4G) (by decide) (by decide) rfl) fun B F ρ σ H Q R q=>seqA R q fun ds vs F1 H1 s1 R1 p1 q1=>by
  unfold one1 at q1
  split at q1
  ·rename_i d
   obtain ⟨v,rfl,pv⟩:=rps1 p1
   unfold gSS at q1
   split at q1
   ·rename_i dl
    split at q1
    ·rename_i ss hs
     have q2:(gd (ss.length<64) (Res.ok (D.lst ((sortT (setOfT ss)).map D.str)))).all _ (fun _=>True):=u6c q1
     obtain ⟨h64,q3⟩:=u2C q2
     cases pv with
     | lst hq hr =>
      obtain ⟨e1,e2⟩:=u4s hr hs
      subst e1
      have hl:(setOfT ss).length≤ss.length:=by have:=u2q ss [];simpa [setOfT] using this
      have em:∀ z∈sortT (setOfT ss),z.length≤sizeLine:=fun z hz=>e2 z (u1U.mp (u1C.mp hz))
      refine ⟨_,ss,rfl,.inl (hq.same R1.fh),by unfold scanBound;omega,fun a na=>?_⟩
      refine ⟨a,setOfT ss,rfl,u0g,by omega,fun b nb=>?_⟩
      have f1:=Stp.new (o:=STO X.prog X.w a (setOfT ss)) R1.fh na
      have f2:=Stp.new (o:=.lst ((sortT (setOfT ss)).map V.str)) f1.fh nb
      exact q3 _ _ _ ((s1.trans f1).trans f2) (.lst (.inl u0g) (u3m em))
    ·exact q1.elim
   ·exact q1.elim
  ·exact q1.elim
set_option tactic.hygienic true in
theorem c_sortD (hc:X.calm=true):CallR X (.builtin "sorted") (rDs X.K gSD):=by
 intro pins s σ H xs us Q I r ⟨F,ds,fh,ps,q⟩
 unfold gSD at q
 split at q
 ·rename_i kd
  obtain ⟨v,rfl,pv⟩:=rps1 ps
  cases hk:keyStrs kd with
  | none=>simp only [hk] at q;exact q.elim
  | some ss =>
   simp only [hk] at q
   obtain ⟨⟨h64,hz⟩,q⟩:=u2C q
   cases pv with
   | dK ha hr=>exact u5M hc pins s σ H _ us Q I r ⟨_,_,ss,rfl,fh _ _ ha,u3C hr hk,h64,fun b nb=>q _ _ _ (Stp.new fh nb) (.lst (.inl u0g) (u3m fun z h=>hz z (u1C.mp h)))⟩
 ·exact q.elim
end
mutual
noncomputable def selfD:D→Bool
 | .non | .bl _ | .int _ | .str _=>true
 | .lst ds | .tup ds=>selfDs ds
 | .dct ps=>ps.isEmpty
 | _=>false
noncomputable def selfDs:List D→Bool
 | []=>true
 | d::ds=>selfD d&&selfDs ds
end
section
variable {X:Cx}
theorem u5K {P P':Program}{w w':World}{h:Heap}{a:Addr} (m:h.DictOf (mixKind P w) a []):h.DictOf (mixKind P' w') a []:=by
 obtain ⟨o,es,ep,ho,hex,hd,hk,hp,hn⟩:=m
 have e:es=#[]:=by
  obtain ⟨l⟩:=es
  cases l with
  | nil=>rfl
  | cons x l=>cases hp
 subst e
 exact ⟨o,#[],ep,ho,hex,hd,fun e he=>by simp at he,.nil,hn⟩
noncomputable def dEqX (x y:D):Res D:=match x,y with
 | .dct [],.dct []=>.ok (.bl true)
 | x,y=>dEq x y
noncomputable abbrev dNeX:=dNe
theorem u7j (hu:X.A.units+64<cLine):OpR X (compareOp .Eq) (rD X.K dEqX):=by
 intro pins s σ H x y v u Q I rx ry ⟨F,dx,dy,fh,px,py,q⟩
 unfold dEqX at q
 split at q
 ·cases px with
  | @dK a _ _ ha hr =>
   cases py with
   | @dK b _ _ hb hr' =>
    cases rx
    cases ry
    cases hr
    cases hr'
    obtain ⟨_,k1,vs,r1,m1⟩:_∧_∧∃ vs,KV ([]:List (Key×V)) vs∧_:=I.hok _ _ (fh _ _ ha)
    obtain ⟨_,k2,vs',r2,m2⟩:_∧_∧∃ vs,KV ([]:List (Key×V)) vs∧_:=I.hok _ _ (fh _ _ hb)
    cases r1
    cases r2
    have z:SeqAt.RcAt X.A s (.ref a) (.ref b) true:=fun prog w E Q hQ=>W.keq_eq (knd:=mixKind prog w) k1 k2 (u5K m1) (u5K m2) (by omega) (fun _=>.nil) hQ
    exact z _ _ _ _ ⟨.bl true,H,I,rfl,q _ F H (Stp.refl fh) (.bl _)⟩
 ·exact o_eq hu pins s σ H x y v u Q I rx ry ⟨F,_,_,fh,px,py,q⟩
theorem u5q (hu:X.A.units+64<cLine):OpR X (compareOp .NotEq) (rD X.K dNeX):=o_ne hu
end
theorem u4i:fillsNumberSlot (.type "tuple") "mul"=pure false:=PySem.fillsNumberSlot_seq (id:="tuple.__mul__") (r:=some (.builtin "tuple.__rmul__")) F.slot_tuple_mul.lookup (by decide +kernel) F.slot_tuple_rmul.lookup (by decide +kernel)
theorem u6T:seqRepeat? (.type "tuple")=pure (some (.builtin "tuple.__mul__")):=by
 unfold seqRepeat?
 rw [PySem.seqSlot_of (T:="tuple") (name:="__mul__") (id:="tuple.__mul__") F.slot_tuple_mul.lookup (by decide +kernel),PySem.seqSlot_of (T:="tuple") (name:="__rmul__") (id:="tuple.__rmul__") F.slot_tuple_rmul.lookup (by decide +kernel)]
 rfl
section
variable {P:Program}{w:World}{A:Around}{E:VP}{s:Shared}{X:Cx}
theorem v0a {k:Int}{t:Tok}{l:Addr}{o:Obj}{items:Array Value}{n:Nat}{Q:VP} (ho:s.heap.get? l=some o) (hc:o.cls=.type "tuple") (hd:o.data=.seq items n) (h:Q .notImplemented s) :
  wpAny (model P w) A (call (.builtin "int.__rmul__") [.int k t,.ref l]) Q E s:=by
 refine wpAny_call_entry F.slot_int_rmul (typeIs_int s k t) F.entry_int_rmul ?_ (F.args_int_rmul_2 _ _)
 obtain ⟨hp,g,d,tk,os⟩:=s
 obtain ⟨oc,od,odt,osl⟩:=o
 simp only at hc hd
 subst hc
 subst hd
 wp_walk
 exact ⟨_,rfl,h⟩
theorem v1w {k:Int}{t:Tok}{l:Addr}{o:Obj}{items:Array Value}{n:Nat}{Q:VP} (ho:s.heap.get? l=some o) (hc:o.cls=.type "tuple") (hd:o.data=.seq items n) (hk:2≤k) (hk2:k≤1000) (hi:items.isEmpty=false) (hz:items.size*k.toNat≤sizeLine)
  (h:Q (.ref s.heap.objs.size) { s with heap:=s.heap.push { cls:=.type "tuple",data:=.seq ((List.replicate k.toNat items).foldl (fun x1 x2=>x1++x2) #[]) } }):wpAny (model P w) A (call (.builtin "tuple.__mul__") [.ref l,.int k t]) Q E s:=by
 refine wpAny_call_entry F.slot_tuple_mul ⟨o,ho,hc⟩ F.entry_tuple_mul ?_ (F.args_tuple_mul_2 _ _)
 obtain ⟨hp,g,d,tk,os⟩:=s
 obtain ⟨oc,od,odt,osl⟩:=o
 simp only at hc hd
 subst hc
 subst hd
 unfold Builtin.«tuple.__mul__»
 wp_walk
 have z1:(k.toNat:Int)=k:=Int.toNat_of_nonneg (by omega)
 have z2:((items.size:Nat):Int)*k≤sizeLine:=by
  rw [← z1]
  exact_mod_cast hz
 have z3:(sizeLine:Int)=16777216:=by rw [sizeLine_eq];rfl
 rw [if_neg (by rw [decide_eq_false (by omega),decide_eq_false (by omega)];decide)]
 dsimp only
 refine wpAny_bind ?_
 unfold Builtin.Tuple.tupleItemsOf
 refine wpAny_bind (wpAny_seqItems ho rfl (wpAny_pure ?_))
 rw [if_neg (by rw [hi,show (k==1)=false from beq_eq_false_iff_ne.mpr (by omega)];decide),if_neg (by rw [hi,decide_eq_false (by omega)];decide),if_neg (by rw [z3] at z2;omega),if_neg (by unfold Builtin.Tuple.tupleTooMany;rw [decide_eq_true_eq];omega)]
 have sz:((List.replicate k.toNat items).foldl (fun x1 x2=>x1++x2) #[]).size≤sizeLine:=by
  have g:∀ (n:Nat) (a:Array Value),((List.replicate n items).foldl (fun x1 x2=>x1++x2) a).size=a.size+n*items.size:=by
   intro n
   induction n with
   | zero=>simp
   | succ n ih =>
    intro a
    rw [List.replicate_succ,List.foldl_cons,ih,Array.size_append,Nat.succ_mul]
    omega
  rw [g,Nat.mul_comm]
  simpa using hz
 unfold Builtin.Tuple.tupleExact
 exact wpAny_bind (wpAny_newObj_type (wpAny_pure ⟨_,rfl,h⟩) sz)
def rRepT (K:W.Frag):R2:=fun x y H Q=>∃ l k xs,x=.ref l∧y=.int k∧SqT K H l xs∧2≤k∧k≤1000∧xs≠[]∧xs.length*k.toNat≤sizeLine∧∀ p,H p=none→Q (.ref p) (upd H p (.tup (List.replicate k.toNat xs).flatten))
theorem op_repT:OpR X (binaryOp .Mult) (rRepT X.K):=by
 intro pins s σ H x y v u Q I rx ry h
 obtain ⟨l,k,xs,rfl,rfl,hq,h1,h2,hn,hz,q⟩:=h
 cases rx
 obtain ⟨t,rfl⟩:=ry
 obtain ⟨its,r,hT,_⟩:=I.tuple hq
 obtain ⟨o,ho,hc,n,hd⟩:=hT
 have hl:=r.length
 have hlen:its.toArray.size*k.toNat≤sizeLine:=by rw [List.size_toArray,← hl];exact hz
 have hne:its.toArray.isEmpty=false:=by
  cases its with
  | nil=>cases xs with | nil=>exact absurd rfl hn | cons _ _=>cases hl
  | cons a b=>rfl
 have hnew:List.foldl (fun x1 x2=>x1++x2) #[] (List.replicate k.toNat its.toArray)=(List.replicate k.toNat its).flatten.toArray:=by
  have:=u4W its k.toNat []
  rwa [List.nil_append] at this
 refine wpAny_binaryOp_repeat_ref (T:="tuple") (U:="int") (by decide) ⟨o,ho,hc⟩ (fun s'=>typeIs_int s' k t) u4i F.fills_int_mul F.slot_int_rmul u6T F.slot_int_index.lookup
  (v0a ho hc hd ⟨rfl,⟨o,ho,hc⟩,v1w ho hc hd h1 h2 hne hlen ?_⟩)
 rw [hnew]
 exact ⟨.ref _,_,I.laid (a:=s.heap.objs.size) (o:=.tup (List.replicate k.toNat xs).flatten) (t':=s.toks) (fun _ _ e=>Heap.get?_push_of_some _ e) (Nat.le_refl _) ⟨by rw [v1F,Nat.mul_comm];exact hz,_,r.rep k.toNat,_,Heap.get?_push_size _ rfl,rfl,_,rfl⟩,rfl,q _ (I.hok.fresh (Nat.le_refl _))⟩
def rRepR:R2:=fun x y H Q=>∃ l k xs,x=.ref l∧y=.int k∧Rd H l (.lst xs)∧-(2^63)≤k∧k<2^63∧xs.length*k.toNat≤sizeLine ∧
 ∀ p,H p=none→Q (.ref p) (upd H p (.lst (List.replicate k.toNat xs).flatten))
theorem op_repR:OpR X (binaryOp .Mult) rRepR:=by
 intro pins s σ H x y v u Q I rx ry h
 obtain ⟨l,k,xs,rfl,rfl,hH,h1,h2,hz,q⟩:=h
 cases rx
 obtain ⟨t,rfl⟩:=ry
 obtain ⟨z,its,n,r,hl,e⟩:=I.lstR hH
 have hlen:its.toArray.size*k.toNat≤sizeLine:=by rw [List.size_toArray,← hl];exact hz
 have hcap:¬ its.toArray.size*k.toNat > (2^63 - 1) / 8:=by
  have:(sizeLine:Nat)≤(2^63 - 1) / 8:=by decide
  omega
 have hfit:¬ (!Builtin.List.listFitsIndex k)=true:=by
  rw [fitsIndex_both h1 h2]
  exact Bool.false_ne_true
 have hlong:¬ Builtin.List.listTooLong (its.toArray.size*k.toNat)=true:=by
  rw [notLongL hlen]
  exact Bool.false_ne_true
 have hnew:List.foldl (fun x1 x2=>x1++x2) #[] (List.replicate (if its.toArray.isEmpty=true then 0 else k.toNat) its.toArray)=(List.replicate k.toNat its).flatten.toArray:=by
  have f0:∀ m:Nat,List.foldl (fun x1 x2=>x1++x2) #[] (List.replicate m its.toArray)=(List.replicate m its).flatten.toArray:=fun m=>by
   have:=u4W its m []
   rw [List.nil_append] at this
   exact this
  rw [f0]
  cases its with
  | nil=>simp
  | cons a r'=>rw [if_neg (by simp)]
 refine wpAny_binaryOp_repeat_ref (T:="list") (U:="int") (by decide) ⟨_,e,rfl⟩ (fun s'=>typeIs_int s' k t) noFill_list_mul F.fills_int_mul F.slot_int_rmul repeat_list F.slot_int_index.lookup
  (call_meets F.slot_int_rmul (typeIs_int s k t) F.entry_int_rmul (F.args_int_rmul_2 _ _) (int___rmul___int_list k t l its.toArray n)
   ⟨e,rfl,⟨_,e,rfl⟩,call_meets F.slot_list_mul ⟨_,e,rfl⟩ F.entry_list_mul (F.args_list_mul_2 _ _) (AutoListH.list___mul___list_int_3 l its.toArray n k t hfit hcap hlong) ⟨e,?_⟩⟩)
 rw [hnew]
 exact ⟨.ref _,_,I.lnew (t':=s.toks) (r.rep k.toNat) (by rw [v1F,Nat.mul_comm];exact hz),rfl,q _ I.fresh⟩
noncomputable def dMulX:D→D→Res D
 | .int i,.int j=>dMul (.int i) (.int j)
 | .lst ds,.int k=>gd (-(2^63)≤k∧k<2^63∧ds.length*k.toNat≤sizeLine) (.ok (.lst (List.replicate k.toNat ds).flatten))
 | .tup ds,.int k=>gd (2≤k∧k≤1000∧ds.isEmpty=false∧ds.length*k.toNat≤sizeLine) (.ok (.tup (List.replicate k.toNat ds).flatten))
 | _,_=>.bad
theorem u1o:OpR X (binaryOp .Mult) (rD X.K dMulX):=by
 intro pins s σ H x y v u Q I rx ry ⟨F,dx,dy,fh,px,py,q⟩
 unfold dMulX at q
 split at q
 ·exact o_mul pins s σ H x y v u Q I rx ry ⟨F,_,_,fh,px,py,q⟩
 ·obtain ⟨⟨h1,h2,h3⟩,q⟩:=u2C q
  cases py
  cases px with
  | lst hq hs=>exact op_repR pins s σ H _ _ v u Q I rx ry ⟨_,_,_,rfl,rfl,hq.same fh,h1,h2,by rw [hs.length];exact h3,fun p n=>q _ _ _ (Stp.new fh n) (.lst (.inl u0g) ((hs.rep _).same (Stp.new fh n).ff))⟩
 ·obtain ⟨⟨h1,h2,h3,h4⟩,q⟩:=u2C q
  cases py
  cases px with
  | tup hq hs=>exact op_repT pins s σ H _ _ v u Q I rx ry ⟨_,_,_,rfl,rfl,fh.seqT hq,h1,h2,(fun e=>by subst e;cases hs;cases h3),by rw [hs.length];exact h4,fun p n=>q _ _ _ (Stp.new fh n) (.tup (.inl (.inl u0g)) ((hs.rep _).same (Stp.new fh n).ff))⟩
 ·exact q.elim
end
mutual
noncomputable def hardD:D→Bool
 | .non | .bl _ | .int _ | .str _ | .ty _=>true
 | .tup ds=>hardDs ds
 | .ins _ gs=>hardFs gs
 | _=>false
noncomputable def hardDs:List D→Bool
 | []=>true
 | d::ds=>hardD d&&hardDs ds
noncomputable def hardFs:List (Str×D)→Bool
 | []=>true
 | (_,d)::ds=>hardD d&&hardFs ds
end
section
variable {K:W.Frag}{F:Hp}{T:Addr→Prop}
def NT (F:Hp) (a:Addr):Prop:=(∃ xs,Rd F a (.lst xs))∨∃ kvs,F a=some (.dK kvs)
open Classical in
noncomputable def woT (F:Hp) (T:Addr→Prop):Hp:=fun a=>if T a then none else F a
theorem u5u {a:Addr} (h:¬ T a):woT F T a=F a:=if_neg h
mutual
theorem Rp.hard (hT:∀ a,T a→NT F a):∀ {v:V}{d:D},Rp K F v d→hardD d=true→Rp K (woT F T) v d
 | _,_,.non,_=>.non
 | _,_,.bl b,_=>.bl b
 | _,_,.int i,_=>.int i
 | _,_,.str h,_=>.str h
 | _,_,.ty T,_=>.ty T
 | _,_,.lst _ _,h=>by simp [hardD] at h
 | _,_,.tup (a:=a) hq hs,h=>by
  refine .tup ?_ (Rps.hard hT hs (by simpa [hardD] using h))
  rcases hq with (q | ⟨o,q⟩) | q
  ·refine .inl (.inl ((u5u fun t=>?_).trans q))
   obtain ⟨xs,z | ⟨o,z⟩⟩ | ⟨xs,z⟩:=hT a t <;> (rw [q] at z;cases z)
  ·refine .inl (.inr ⟨o,(u5u fun t=>?_).trans q⟩)
   obtain ⟨xs,z | ⟨o,z⟩⟩ | ⟨xs,z⟩:=hT a t <;> (rw [q] at z;cases z)
  ·exact .inr q
 | _,_,.dK _ _,h=>by simp [hardD] at h
 | _,_,.ins (a:=a) q hs,h=>by
  refine .ins ((u5u fun t=>?_).trans q) (Rpf.hard hT hs (by simpa [hardD] using h))
  obtain ⟨xs,z | ⟨o,z⟩⟩ | ⟨xs,z⟩:=hT a t <;> (rw [q] at z;cases z)
 | _,_,.exc _ _ _,h=>by simp [hardD] at h
 | _,_,.dn _ _,h=>by simp [hardD] at h
theorem Rps.hard (hT:∀ a,T a→NT F a):∀ {v:List V}{d:List D},Rps K F v d→hardDs d=true→Rps K (woT F T) v d
 | _,_,.nil,_=>.nil
 | _,_,.cons h hs,z=>by
  have z:=Bool.and_eq_true_iff.mp z
  exact .cons (Rp.hard hT h z.1) (Rps.hard hT hs z.2)
theorem Rpf.hard (hT:∀ a,T a→NT F a):∀ {v:List (Str×V)}{d:List (Str×D)},Rpf K F v d→hardFs d=true→Rpf K (woT F T) v d
 | _,_,.nil,_=>.nil
 | _,_,.cons h hs,z=>by
  have z:=Bool.and_eq_true_iff.mp z
  exact .cons (Rp.hard hT h z.1) (Rpf.hard hT hs z.2)
end
end
noncomputable def ownL (ρ:Rho):Bool:=ρ.all fun
 | some (.own (.l _))=>true
 | some (.own (.d _))=>true
 | some (.own _)=>false
 | _=>true
def isOwn (ρ:Rho) (σ:St) (a:Addr):Prop:=∃ (i:Nat) (o:OD),ρ[i]?=some (some (.own o))∧σ[i]?=some (some (.ref a))
open Classical in
theorem Rel.frz2 {K:W.Frag}{B:Hp×Hp}{ρ:Rho}{σ:St}{F H:Hp} (r:Rel K B ρ σ F H):∃ F',Same F F'∧Rel K B (L2.frz ρ) σ F' H∧∀ a,F a=none→F' a≠none→isOwn ρ σ a:=by
 let F':Hp:=fun a=>if isOwn ρ σ a then H a else F a
 have hT:∀ a,isOwn ρ σ a→F a=none∧B.2 a=none:=fun a ⟨i,o,e,q⟩=>by
  obtain ⟨b,h,h1,h2,h3,_⟩:=r.own i o e
  rw [q] at h1;cases h1;exact ⟨h2,h3⟩
 have e1:Same F F':=fun a o e=>by
  show (if isOwn ρ σ a then H a else F a)=some o
  by_cases q:isOwn ρ σ a
  ·rw [(hT a q).1] at e;cases e
  ·rw [if_neg q];exact e
 have e2:Same F' H:=fun a o e=>by
  have e':(if isOwn ρ σ a then H a else F a)=some o:=e
  by_cases q:isOwn ρ σ a
  ·rw [if_pos q] at e';exact e'
  ·rw [if_neg q] at e';exact r.fh a o e'
 refine ⟨F',e1,⟨⟨r.st.ff.trans e1,e2,r.st.hh,fun a q z=>?_⟩,?_,?_,?_,?_⟩,fun a n q=>?_⟩
 ·show (if isOwn ρ σ a then H a else F a)=none
  by_cases t:isOwn ρ σ a
  ·exact absurd (hT a t).2 z
  ·rw [if_neg t];exact r.st.no a q z
 ·rw [r.len];unfold L2.frz;simp
 ·intro i d e
  obtain ⟨y,h1,h2⟩:=u3G e
  cases y with
  | val d'=>cases h2;obtain ⟨v,q1,q2⟩:=r.val i d h1;exact ⟨v,q1,q2.same e1⟩
  | own o =>
   cases h2
   obtain ⟨a,h,q1,q2,q3,q4,q5⟩:=r.own i o h1
   have t:isOwn ρ σ a:=⟨i,o,h1,q1⟩
   exact ⟨.ref a,q1,Ro.rp (Ro.same e1 q5) (show (if isOwn ρ σ a then H a else F a)=some h by rw [if_pos t];exact q4)⟩
 ·intro i o e
  obtain ⟨y,h1,h2⟩:=u3G e
  cases y <;> cases h2
 ·intro i j o u a e
  obtain ⟨y,h1,h2⟩:=u3G e
  cases y <;> cases h2
 ·by_cases t:isOwn ρ σ a
  ·exact t
  ·exact absurd (show (if isOwn ρ σ a then H a else F a)=none by rw [if_neg t];exact n) q
section
variable {X:Cx}{xq:XQ}{e:Expr}{fe:Rho→Res D}
noncomputable def hardC (ρ:Rho) (d:D):Res D:=if ownL ρ=true∧hardD d=true then .ok d else .bad
theorem DE.hard (h:DE X xq e fe):DE X xq e (fun ρ=>(fe (frz ρ)).bind (hardC ρ)) :=
 DE.of h.out fun B F ρ σ H Q R q=>by
  obtain ⟨F1,e1,R1,ow⟩:=R.frz2
  refine ⟨B,F1,frz ρ,R1,Res.all_mono (Res.all_bind.mp q) (fun d q v F' H' s p=>?_) fun _ e=>e.frz⟩
  unfold hardC at q
  by_cases z:ownL ρ=true∧hardD d=true
  ·rw [if_pos z] at q
   have hT:∀ a,isOwn ρ σ a→F a=none∧NT F' a:=fun a ⟨i,o,e,qa⟩=>by
    obtain ⟨b,hh,h1,h2,h3,h4,h5⟩:=R.own i o e
    rw [qa] at h1
    cases h1
    refine ⟨h2,?_⟩
    have ho:=List.all_eq_true.mp z.1 _ (List.mem_of_getElem? e)
    cases o with
    | l ds =>
     obtain ⟨v,k1,k2⟩:=R1.val i (.lst ds) (by unfold frz;rw [List.getElem?_map,e];rfl)
     rw [qa] at k1
     cases k1
     cases k2 with
     | lst hq hs=>exact .inl ⟨_,hq.same s.ff⟩
    | d ps =>
     obtain ⟨v,k1,k2⟩:=R1.val i (.dct ps) (by unfold frz;rw [List.getElem?_map,e];rfl)
     rw [qa] at k1
     cases k1
     cases k2 with
     | dK hq hs=>exact .inr ⟨_,s.ff _ _ hq⟩
    | _=>cases ho
   refine q v (woT F' (isOwn ρ σ)) H' ⟨fun a o ea=>?_,fun a o ea=>?_,s.hh,fun a n m=>?_⟩ (p.hard (fun a t=>(hT a t).2) z.2)
   ·by_cases t:isOwn ρ σ a
    ·rw [(hT a t).1] at ea;cases ea
    ·rw [u5u t];exact s.ff a o (e1 a o ea)
   ·by_cases t:isOwn ρ σ a
    ·unfold woT at ea;rw [if_pos t] at ea;cases ea
    ·rw [u5u t] at ea;exact s.fh a o ea
   ·by_cases t:isOwn ρ σ a
    ·unfold woT;rw [if_pos t]
    ·rw [u5u t]
     exact s.no a (Classical.byContradiction fun k=>t (ow a n k)) m
  ·rw [if_neg z] at q;exact q.elim
end
noncomputable def runT (n m:Nat) (t:Rho→Out) (ds:List D):Res D:=if ds.length=m then noE (outR (t (startD n ds))) else .bad
noncomputable def runX (n m:Nat) (t:Rho→Out) (ds:List D):Res D:=if ds.length=m then outR (t (startD n ds)) else .bad
section
variable {P:Program}{w:World}{K:W.Frag}{mg:MG}{base:Heap}
theorem Fun.okT {x qual:Str}{st:Stmt}{f:Addr}{fd:FuncData}{N ps:List Str}{k:Nat}{t:Rho→Out} (F:Fun K x qual st f fd) (S:FnScope N ps (defScope st))
  (hbody:∀ (cdv:Value) (A:Around) (outer:List Env) (s:Shared) (H:Hp) (E:XK),Room k (A.deeper (envOfC qual (defScope st) s.heap.objs.size f cdv))→DB (cxOf CX0 P w K mg base N qual (defScope st) f cdv A outer s H E).nox xqF (defBody st) t) :
  FnOk P w K mg base CX0 (k+1) f fd ps (spF K (runT N.length ps.length t)):=by
 refine F.okD S (fun ds d h=>?_) fun cdv A outer s H E hr=>⟨t,hbody cdv A outer s H E hr,fun ds d h=>?_⟩
 ·unfold runT at h
  split at h
  ·assumption
  ·cases h
 ·unfold runT at h
  split at h
  ·cases q:outR (t (startD N.length ds)) with
   | ok d'=>rw [q] at h;exact h
   | err x=>rw [q] at h;cases h
   | bad=>rw [q] at h;cases h
  ·cases h
set_option tactic.hygienic true in
theorem Fun.okTX {x qual:Str}{st:Stmt}{f:Addr}{fd:FuncData}{N ps:List Str}{k:Nat}{t:Rho→Out} (F:Fun K x qual st f fd) (S:FnScope N ps (defScope st))
  (hbody:∀ (cdv:Value) (A:Around) (outer:List Env) (s:Shared) (H:Hp) (E:XK),Room k (A.deeper (envOfC qual (defScope st) s.heap.objs.size f cdv))→XqOk (cxR P w K mg base N qual (defScope st) f cdv A outer s H E) (xq0 E) →
   DB (cxR P w K mg base N qual (defScope st) f cdv A outer s H E) (xq0 E) (defBody st) t):FnOk P w K mg base (CXe P w) (k+1) f fd ps (spX K (runX N.length ps.length t)):=by
 refine F.okX S (fun ds h=>?_) fun cdv A outer s H E hr hq=>⟨t,hbody cdv A outer s H E hr hq,fun ds h=>?_⟩
 ·unfold runX at h
  split at h
  ·assumption
  ·exact absurd rfl h
 ·unfold runX at h ⊢
  split at h
  ·rename_i q;rw [if_pos q]
  ·exact absurd rfl h
end
section
variable {X:Cx}{w:World}{K:W.Frag}
theorem o_inW (hu:X.A.units+200<cLine) (ew:X.w=w:=by rfl):OpR X (compareOp .In) (rD X.K (dInA w false)):=by subst ew;exact o_inA hu
theorem dn_newW {xq:XQ}{pos:Pos} (ew:X.w=w:=by rfl):DN X xq (.Dict [] [] pos) (fun _=>.ok (.n (hashW w) [])):=by subst ew;exact dn_new
theorem v2n {xq:XQ}{cn nm:Str}{C':Addr}{i:Nat}{p pos:Pos}{b0:Stmt}{bs:List Stmt}{rest:List ExceptHandler}{fb:Rho→Out}{hr:D→Rho→Out} (hst:X.stack=X.env::X.outer∧X.env.frame=some X.env.locals) (hN:X.N.Nodup) (hm:X.mg cn=some (.ref C')) (hb:XBase K C')
  (hsu:∀ e,DB (cxH X e) xqF (b0::bs) fb) (hrs:DH X xq rest hr) (eK:X.K=K:=by rfl) (hi:X.N[i]?=some nm:=by rfl) (hl:X.env.scope.names.lookup nm=some .local:=by rfl) (hk:X.env.kindOf nm=some .local:=by rfl) (hg:Gl X cn:=by rfl) (hdb:(cn==("__debug__":Str))=false:=by decide) :
  DH X xq (.ExceptHandler (some (.Name cn p)) (some nm) (b0::bs) pos::rest) (hdAs K C' i fb hr):=by subst eK;exact dh_as hst hN hm hb hsu hrs hi hl hk hg hdb
theorem dh_noK {xq:XQ}{cn:Str}{C':Addr}{p pos:Pos}{b0:Stmt}{bs:List Stmt}{rest:List ExceptHandler}{fb:Rho→Out}{hr:D→Rho→Out} (hst:X.stack=X.env::X.outer∧X.env.frame=some X.env.locals) (hm:X.mg cn=some (.ref C')) (hb:XBase K C')
  (hsu:∀ e,DB (cxH X e) xqF (b0::bs) fb) (hrs:DH X xq rest hr) (eK:X.K=K:=by rfl) (hg:Gl X cn:=by rfl) (hdb:(cn==("__debug__":Str))=false:=by decide) :
  DH X xq (.ExceptHandler (some (.Name cn p)) none (b0::bs) pos::rest) (hdNo K C' fb hr):=by subst eK;exact dh_no hst hm hb hsu hrs hg hdb
end
section
variable {X:Cx}{xq:XQ}{i value:Expr}{fi fv:Rho→Res D}{x:Str}{p pos pos':Pos}{w:World}
theorem ds_putW (j:Nat) (hu:X.A.units+200<cLine) (hi:DE X xq i fi) (hv:DE X xq value fv) (ew:X.w=w:=by rfl) (hN:X.N[j]?=some x:=by rfl) (hvs:Vis X.env.scope x:=by first | exact Or.inl rfl | exact Or.inr (Or.inl rfl) | exact Or.inr (Or.inr rfl)) (hd:(x==("__debug__":Str))=false:=by decide) (hcd:(x==("__classdict__":Str))=false:=by decide)
  (hs:swapsWith value (some (.Subscript (.Name x p) i pos')) pos.line X.env=pure false:=by rfl):DS X xq (.Assign [.Subscript (.Name x p) i pos'] value pos) (fPutN w j fi fv):=by subst ew;exact ds_putN j hu hi hv hN hvs hd hcd hs
end
structure FunD (K:W.Frag) (x qual:Str) (st:Stmt) (f:Addr) (fd:FuncData):Prop where
 ex:∃ (oc:Value) (od:Option Addr) (dV kV doc pm:Value) (an:Option Addr) (cdv ct:Value) (osl:Array (Option Value)),
  fd=W.fnOf x qual (defArgs st) (defBody st) (defScope st) dV kV doc pm an cdv ct∧K.lookup f=some ⟨oc,od,.func fd,osl⟩∧W.codeIn K cdv qual=true
section
variable {P:Program}{w:World}{K:W.Frag}{mg:MG}{base:Heap}
set_option tactic.hygienic true in
theorem FunD.okI {x qual:Str}{st:Stmt}{f C:Addr}{fd:FuncData}{N ps:List Str}{k:Nat}{g:List D→Res (List (Str×D))} (F:FunD K x qual st f fd) (S:FnScope N ps (defScope st)) (len:∀ ds,g ds≠.bad→ds.length+1=ps.length)
  (hbody:∀ (cdv:Value) (A:Around) (outer:List Env) (s:Shared) (H:Hp) (E:XK),Room k (A.deeper (envOfC qual (defScope st) s.heap.objs.size f cdv))→XqOk (cxR P w K mg base N qual (defScope st) f cdv A outer s H E) (xq0 E) →
   ∃ t,DB (cxR P w K mg base N qual (defScope st) f cdv A outer s H E) (xq0 E) (defBody st) t∧∀ a ds,g ds≠.bad→outI a C (t (startI N.length a C ds))=g ds):FnOk P w K mg base (CXe P w) (k+1) f fd ps (spInit K C g):=by
 obtain ⟨oc,od,dV,kV,doc,pm,an,cdv,ct,osl,rfl,lk,hcd⟩:=F.ex
 refine v3N lk hcd S (fun vs H Q E h=>?_) fun A outer s H vs Q E hr hsp=>?_
 ·obtain ⟨G,a,dx,rest,ds,rfl,fh,fa,ha,r,q⟩:=h
  rw [List.length_cons,r.length]
  exact len ds fun z=>by rw [z] at q;exact q
 ·obtain ⟨G,a,dx,rest,ds,rfl,fh,fa,ha,r,q⟩:=hsp
  have z:g ds≠.bad:=fun z=>by rw [z] at q;exact q
  have hst:(cxOf (CXe P w) P w K mg base N qual (defScope st) f cdv A outer s H E).stack=(cxOf (CXe P w) P w K mg base N qual (defScope st) f cdv A outer s H E).env::(cxOf (CXe P w) P w K mg base N qual (defScope st) f cdv A outer s H E).outer∧(cxOf (CXe P w) P w K mg base N qual (defScope st) f cdv A outer s H E).env.frame=some (cxOf (CXe P w) P w K mg base N qual (defScope st) f cdv A outer s H E).env.locals:=⟨rfl,rfl⟩
  obtain ⟨t,h1,h2⟩:=hbody cdv A outer s H E hr (u3h hst)
  refine ⟨_,PSs.wishTo h1.out ?_,(G,wo H a),G,_,v2B fh fa ha r,⟨?_⟩⟩
  ·rintro u s' ⟨n,e,C,d,σ,H',fl,o,rfl,I,hx,tb,hfl,q⟩
   refine u6e I hst o hx tb hfl fun s2 I2 tr=>?_
   exact ⟨e,C,d,H',rfl,I2.os,I2.bare,I2.base,I2.hok,hx,tr.tb.mono o.s0,q e rfl⟩
  ·have y:=h2 a ds z
   rw [← y] at q
   generalize t (startI N.length a C ds)=o at q
   cases o with
   | nx ρ =>
    intro σ F' H' R
    unfold outI at q
    dsimp only at q
    split at q
    ·rename_i a' C' gs e
     split at q
     ·rename_i c
      obtain ⟨rfl,rfl⟩:=c
      obtain ⟨b,h,p1,p2,p3,p4,p5⟩:=R.own 0 _ e
      cases p5 with
      | i hr=>exact q _ _ F' H' R.st p2 p4 hr
     ·exact q.elim
    ·exact q.elim
   | rt d'=>exact q.elim
   | bk ρ=>exact q.elim
   | ct ρ=>exact q.elim
   | er x ρ=>exact fun v σ F' H' R pv b eb=>by subst eb;exact q b F' H' R.st pv
   | bad=>exact q.elim
end
noncomputable def gIxK (x y:D):Res D:=match x with
 | .dct ps=>(keyK y).bind fun k=>match valD ps k with
  | some d=>.ok d
  | none=>.bad
 | _=>.bad
noncomputable def asDct:D→Res (List (D×D))
 | .dct ps=>.ok ps
 | _=>.bad
noncomputable def gGetK (ps:List (D×D)) (y z:D):Res D:=(keyK y).bind fun k=>.ok ((valD ps k).getD z)
section
variable {X:Cx}{xq:XQ}{o i e f:Expr}{fo fi ff:Rho→Res D}{pos apos cpos:Pos}
theorem d_ixK (hu:X.A.units+1<cLine) (ho:DE X xq o fo) (hi:DE X xq i fi) (hs:NoSl i:=by intro _ _;rfl):DE X xq (.Subscript o i pos) (fun ρ=>(fo ρ).bind fun x=>(fi ρ).bind fun y=>gIxK x y) :=
 DE.of (pe_dget hu ho.out hi.out hs) fun B F ρ σ H Q R q=>seqE R q fun d v F1 H1 s1 R1 p1 q1=>seqE R1 q1 fun d2 v2 F2 H2 s2 R2 p2 q2=>by
  have p1':=p1.same s2.ff
  cases p1' with
  | @dK a kvs ps hq hr =>
   obtain ⟨k,ek,q3⟩:=u4T p2 (Res.all_bind.mp q2)
   subst ek
   have:=hr.val (k:=k)
   cases e:valD ps k with
   | none=>rw [e] at q3;exact q3.elim
   | some d3 =>
    rw [e] at this q3
    obtain ⟨z,hz,pz⟩:=this
    refine ⟨a,z,rfl,?_,q3 z F2 H2 (s1.trans s2) pz⟩
    have g:=DGet.k (k:=k) (R2.fh _ _ hq)
    rw [hz] at g
    exact g
  | _=>exact q2.elim
theorem d_getK (hu:X.A.units+1<cLine) (ho:DE X xq o fo) (he:DE X xq e fi) (hf:DE X xq f ff) (m:M2 X o "get" apos e f cpos:=by exact ⟨rfl,rfl,rfl,rfl⟩):DE X xq (.Call (.Attribute o "get" apos) [e,f] [] cpos) (fun ρ=>(fo ρ).bind fun x=>(asDct x).bind fun ps=>(fi ρ).bind fun y=>(ff ρ).bind fun z=>gGetK ps y z) :=
 DE.of (v3j hu ho.out he.out hf.out m) fun B F ρ σ H Q R q=>seqE R q fun d v F1 H1 s1 R1 p1 q1=>by
  have isd:∀ {a:Addr}{kvs:List (Key×V)},F1 a=some (.dK kvs)→IsD H1 a:=fun hq=>.inl ⟨_,.inl (R1.fh _ _ hq)⟩
  cases p1 with
  | @dK a kvs ps hq hr =>
   refine ⟨a,rfl,isd hq,seqE R1 q1 fun d2 v2 F2 H2 s2 R2 p2 q2=>seqE R2 q2 fun d3 v3 F3 H3 s3 R3 p3 q3=>?_⟩
   have hr3:=(Rp.dK (s3.ff _ _ (s2.ff _ _ hq)) (hr.same (s2.ff.trans s3.ff)):Rp X.K F3 (.ref a) (.dct ps))
   obtain ⟨k,ek,q4⟩:=u4T (p2.same s3.ff) (Res.all_bind.mp q3)
   subst ek
   have hv:=(hr.same (s2.ff.trans s3.ff)).val (k:=k)
   refine ⟨valV kvs k,DGet.k (R3.fh _ _ (s3.ff _ _ (s2.ff _ _ hq))),?_⟩
   cases ev:valD ps k with
   | none =>
    rw [ev] at hv q4
    rw [hv]
    exact q4 _ F3 H3 ((s1.trans s2).trans s3) p3
   | some d4 =>
    rw [ev] at hv q4
    obtain ⟨z,hz,pz⟩:=hv
    rw [hz]
    exact q4 _ F3 H3 ((s1.trans s2).trans s3) pz
  | _=>exact q1.elim
end
def tSetD (td ty tx:TE):TE:=fun σ H Q=>td σ H fun x H1=>∃ a,x=.ref a∧IsD H1 a∧ty σ H1 fun y H2=>tx σ H2 fun z H3=>∃ kvs k,H3 a=some (.dK kvs)∧y=kV k∧kvs.length<sizeLine ∧
 (∀ v,valV kvs k=some v→Q v H3)∧(valV kvs k=none→Q z (upd H3 a (.dK (putK kvs k z))))
section
variable {X:Cx}{pins:LO}{σ:St}{H:Hp}{s:Shared}{a:Addr}{kvs:List (Key×V)}{k:Key}{u r:Value}{v:V}{A:Around}{E:VP}
theorem d_setd {Q:VP} (I:Inv X pins σ H s) (e:H a=some (.dK kvs)) (ry:RelV (kV k) u) (rv:RelV v r) (hl:kvs.length<sizeLine)
  (h1:∀ w v' s',valV kvs k=some v'→RelV v' w→Inv X pins σ H s'→Q w s') (h2:valV kvs k=none→∀ s',Inv X pins σ (upd H a (.dK (putK kvs k v))) s'→Q r s') :
  wpAny (model X.prog X.w) A (call (.builtin "dict.setdefault") [.ref a,u,r]) Q E s:=by
 obtain ⟨z,hd,vs,rel,dd⟩:=dk_of I.hok e
 refine call_meetsIn PySem.F.slot_dict_setdefault dd.typeIs PySem.F.entry_dict_setdefault (PySem.F.args_dict_setdefault_3 _ _ _) (kt_meets_setdefault (mixKind X.prog X.w) a (v0z ry) hd r)
  ⟨vs,dd,by rw [← rel.length];exact z,fun w hw=>?_,fun hn h' dd' hs=>?_⟩
 ·have:=rel.val k
  rw [hw] at this
  cases e2:valV kvs k with
  | none=>rw [e2] at this;exact this.elim
  | some v'=>rw [e2] at this;exact h1 w v' _ e2 this (I.tok _)
 ·have:=rel.val k
  rw [hn] at this
  have e2:valV kvs k=none:=by
   cases e2:valV kvs k with
   | none=>rfl
   | some v'=>rw [e2] at this;exact this.elim
  have he:∃ q,h'.get? a=some q:=let ⟨q,_,_,hq,_⟩:=dd';⟨q,hq⟩
  have hl2:(putK kvs k v).length≤sizeLine:=by have:=u2Z kvs k v;omega
  exact h2 e2 _ (u6w I (by rw [e];exact True.intro) hs he (v4r hl2 hd (rel.put k rv) dd'))
end
section
variable {X:Cx}{xq:XQ}{o e f:Expr}{apos cpos pos p:Pos}{td ty tx:TE}{fe ff:Rho→Res D}{x:Str}
theorem pe_setd (ho:PE X o td) (he:PE X e ty) (hf:PE X f tx) (m:M2 X o "setdefault" apos e f cpos):PE X (.Call (.Attribute o "setdefault" apos) [e,f] [] cpos) (tSetD td ty tx):=by
 intro pins s σ H Q I h
 refine wpAny_Call_method m.base m.few m.line PySem.F.plainAttrs_dict PySem.F.slot_dict_setdefault PySem.F.type_dict_setdefault (thn (ho pins s σ H _ I h) fun u s1 ⟨x,H1,I1,rx,a,ex,d,q1⟩=>?_)
 subst ex
 obtain rfl:u=Value.ref a:=rx
 obtain ⟨t1,t2,_⟩:=v4k I1 d
 refine ⟨t1,t2,?_⟩
 rw [m.trees]
 refine Calls.callWith_builtin rfl (Calls.evalArgs_plain (Calls.spliced_cons (thn (he pins s1 σ H1 _ I1 q1) fun iv s2 ⟨y,H2,I2,ry,q2⟩ =>
  Calls.spliced_cons (thn (hf pins s2 σ H2 _ I2 q2) fun fv s3 ⟨z,H3,I3,rz,kvs,k,e3,ek,hl,q3,q4⟩=>Calls.spliced_nil ?_))))
 subst ek
 exact d_setd I3 e3 ry rz hl (fun w v' s' ev rw' I4=>⟨_,H3,I4,rw',q3 v' ev⟩) fun en s' I4=>⟨_,_,I4,rz,q4 en⟩
noncomputable def fSetD (j:Nat) (fe ff:Rho→Res D) (ρ:Rho):Out:=(getD' ρ j).go ρ fun ps=>(fe ρ).go ρ fun kd=>(ff ρ).go ρ fun d=>(keyK kd).go ρ fun k=>if ps.length<sizeLine then (if (valD ps k).isSome=true then .nx ρ else .nx (ρ.set j (some (.own (.d (putD ps k d)))))) else .bad
set_option tactic.hygienic true in
theorem ds_setd (j:Nat) (he:DE X xq e fe) (hf:DE X xq f ff) (hN:X.N[j]?=some x:=by rfl) (hvs:Vis X.env.scope x:=by first | exact Or.inl rfl | exact Or.inr (Or.inl rfl) | exact Or.inr (Or.inr rfl)) (hd:(x==("__debug__":Str))=false:=by decide) (hcd:(x==("__classdict__":Str))=false:=by decide)
  (m:M2 X (.Name x p) "setdefault" apos e f cpos:=by exact ⟨rfl,rfl,rfl,rfl⟩) (hs:swapsWith (.Call (.Attribute (.Name x p) "setdefault" apos) [e,f] [] cpos) none pos.line X.env=pure false:=by rfl) :
  DS X xq (.Expr (.Call (.Attribute (.Name x p) "setdefault" apos) [e,f] [] cpos) pos) (fSetD j fe ff) :=
 DS.of (u2U (pe_setd (u2D hN hvs hd hcd) he.out hf.out m) hs) fun B F ρ σ H T R q=>by
  have q:=q.out
  unfold fSetD at q
  obtain ⟨ps,eo,q2⟩:=getD'_ok (u0y q)
  obtain ⟨a,h,h1,h2,h3,h4,h5⟩:=R.own j _ eo
  refine ⟨.ref a,h1,a,rfl,?_,B,F,ρ,R,Res.all_mono (u0y q2) (fun kd q3 y F1 H1 st1 py=>?_) fun _ z=>errOf z⟩
  ·cases h5 with
   | d hr=>exact .inl ⟨_,.inl h4⟩
  have R1:=R.step st1
  refine ⟨B,F1,ρ,R1,Res.all_mono (u0y q3) (fun d q4 z F2 H2 st2 pz=>?_) fun _ z=>errOf z⟩
  have R2:=R1.step st2
  obtain ⟨k,ek,q5⟩:=u4T (py.same st2.ff) (u0y q4)
  subst ek
  obtain ⟨a',h',g1,g2,g3,g4,g5⟩:=R2.own j _ eo
  rw [h1] at g1;cases g1
  cases g5 with
  | d hr =>
   rename_i kvs
   by_cases hz:ps.length<sizeLine
   ·rw [if_pos hz] at q5
    have hv:=hr.val (k:=k)
    refine ⟨kvs,k,g4,rfl,by rw [hr.length];exact hz,fun v ev=>?_,fun en=>?_⟩
    ·cases e2:valD ps k with
     | none=>rw [e2] at hv;rw [hv] at ev;cases ev
     | some d'=>rw [e2] at q5;exact q5 σ F2 H2 R2
    ·cases e2:valD ps k with
     | some d'=>rw [e2] at hv;obtain ⟨v',e3,_⟩:=hv;rw [en] at e3;cases e3
     | none=>rw [e2] at q5;exact q5 σ F2 _ (R2.write (e:=eo) h1 (.d (hr.put pz)))
   ·rw [if_neg hz] at q5;exact q5.elim
end
noncomputable def mulS (z:Str) (k:Nat):Str:=if k=0 then Str.empty else if (k==1||z.length==0)=true then z else ⟨(List.replicate k z.cps).foldl (·++·) #[]⟩
noncomputable def dMulT (x y:D):Res D:=match x,y with
 | .str z,.int k=>gd (0≤k∧k≤1000∧z.length≤1000∧(mulS z k.toNat).length≤1000) (.ok (.str (mulS z k.toNat)))
 | x,y=>dMulX x y
section
variable {X:Cx}
set_option tactic.hygienic true in
theorem o_mulT:OpR X (binaryOp .Mult) (rD X.K dMulT):=by
 intro pins s σ H x y v u Q I rx ry ⟨F,dx,dy,fh,px,py,q⟩
 unfold dMulT at q
 split at q
 ·rename_i z k
  obtain ⟨⟨h1,h2,h3,h4⟩,q⟩:=u2C q
  cases py
  cases px
  obtain ⟨t,rfl⟩:=rx
  obtain ⟨t',rfl⟩:=ry
  have hs:(mulS z k.toNat).length≤sizeLine:=Nat.le_trans h4 (by decide)
  have fin:∀ t0 s',Inv X pins σ H s'→EP X pins σ Q (.str (mulS z k.toNat) t0) s':=fun t0 s' I'=>⟨.str _,H,I',⟨_,rfl⟩,q _ F H (Stp.refl fh) (.str hs)⟩
  by_cases c:k<1
  ·have e:mulS z k.toNat=Str.empty:=if_pos (by omega)
   refine P.mul_str_none c (by omega) ?_
   have:=fin s.toks _ (I.tok (s.toks+1))
   rw [e] at this
   exact this
  ·refine P.mul_str ?_ (fun _ _=>?_) (fun _ _=>?_) ?_
   ·rw [decide_eq_false (by omega),decide_eq_false (by omega)];rfl
   ·have hm:(z.length:Int)*k≤1000*1000:=Int.mul_le_mul (by omega) (by omega) (by omega) (by omega)
    have:(z.length:Int)≤(2^63 - 1) / k:=Int.le_ediv_of_mul_le (by omega) (by omega)
    omega
   ·have hm:z.length*k.toNat≤1000*1000:=Nat.mul_le_mul h3 (by omega)
    exact decide_eq_false (by rw [sizeLine_eq];omega)
   ·rw [if_neg c]
    by_cases c2:(k==1||z.length==0)=true
    ·rw [if_pos c2]
     have e:mulS z k.toNat=z:=by
      unfold mulS
      rw [if_neg (by omega),if_pos]
      simp only [Bool.or_eq_true,beq_iff_eq] at c2 ⊢
      rcases c2 with c2 | c2
      ·exact .inl (by omega)
      ·exact .inr c2
     have:=fin t s I
     rw [e] at this
     exact this
    ·rw [if_neg c2]
     have e:mulS z k.toNat=⟨(List.replicate k.toNat z.cps).foldl (·++·) #[]⟩:=by
      unfold mulS
      rw [if_neg (by omega),if_neg]
      simp only [Bool.or_eq_true,beq_iff_eq] at c2 ⊢
      intro c3
      exact c2 (by
       rcases c3 with c3 | c3
       ·exact .inl (by omega)
       ·exact .inr c3)
     have:=fin s.toks _ (I.tok (s.toks+1))
     rw [e] at this hs
     exact ⟨hs,this⟩
 ·exact u1o pins s σ H x y v u Q I rx ry ⟨F,_,_,fh,px,py,q⟩
end
section
variable {P:Program}{w:World}{A:Around}{E:VP}{s:Shared}
theorem nx_tup {j q:Addr}{i:Nat}{ys:Array Value}{x:Value}{Q:VP} (hj:s.heap.IsTupleIter j q i) (hq:s.heap.IsTuple q ys) (hx:ys[i]?=some x)
  (k:∀ h',h'.IsTupleIter j q (i+1)→Heap.SameBut j s.heap h'→Q x { s with heap:=h' }):wpAny (model P w) A (Builtin.SmallTypes.nextOf (.ref j)) Q E s:=by
 obtain ⟨oj,e1,e2,e3⟩:=id hj
 obtain ⟨oq,e4,-,n,e5⟩:=hq
 unfold Builtin.SmallTypes.nextOf
 refine wpAny_bind (wpAny_callSpecial?_slot (name:=Str.ofString "__next__") hj.typeIs F.slot_tuple_iterator_next (wpAny_call_entry F.slot_tuple_iterator_next hj.typeIs F.entry_tuple_iterator_next ?_ (F.args_tuple_iterator_next_1 _)))
 show wpAny _ _ (field (.ref j) 0 >>= _) _ _ s
 refine wpAny_bind (wpAny_field e1 e3 (x:=.ref q) rfl ?_)
 show wpAny _ _ (if (Value.ref q==Value.none)=true then _ else _) _ _ s
 rw [if_neg (show ¬ ((Value.ref q==Value.none)=true) from Bool.false_ne_true)]
 show wpAny _ _ (field (.ref j) 1 >>= _) _ _ s
 refine wpAny_bind (wpAny_field e1 e3 (x:=.int i 0) rfl ?_)
 show wpAny _ _ (seqItems? (.ref q) >>= _) _ _ s
 refine wpAny_bind (wpAny_seqItems e4 e5 ?_)
 simp only [Int.toNat_natCast,hx]
 exact wpAny_bind (wpAny_setField e1 e3 (by simp) (wpAny_pure ⟨x,rfl,wpAny_pure (k _ ⟨_,Heap.get?_update_self _ e1 (Obj.isFreed_of_fields (Obj.data_mapFields e3 _)),(Obj.cls_mapFields ..).trans e2,by rw [Obj.data_mapFields e3];simp [rawInt]⟩ (Heap.SameBut.update ..))⟩))
theorem u5B {j q:Addr}{i:Nat}{ys:Array Value}{Q:VP} (hn:A.handled=none) (hj:s.heap.IsTupleIter j q i) (hq:s.heap.IsTuple q ys) (hx:ys[i]?=none)
  (k:∀ h' u,Heap.ExtBut j s.heap h'→(∃ o,h'.get? u=some o∧o.cls=.type "StopIteration")→E (.ref u) { s with heap:=h' }):wpAny (model P w) A (Builtin.SmallTypes.nextOf (.ref j)) Q E s:=by
 obtain ⟨oj,e1,e2,e3⟩:=id hj
 obtain ⟨oq,e4,-,n,e5⟩:=hq
 unfold Builtin.SmallTypes.nextOf
 refine wpAny_bind (wpAny_callSpecial?_slot (name:=Str.ofString "__next__") hj.typeIs F.slot_tuple_iterator_next (wpAny_call_entry F.slot_tuple_iterator_next hj.typeIs F.entry_tuple_iterator_next ?_ (F.args_tuple_iterator_next_1 _)))
 show wpAny _ _ (field (.ref j) 0 >>= _) _ _ s
 refine wpAny_bind (wpAny_field e1 e3 (x:=.ref q) rfl ?_)
 show wpAny _ _ (if (Value.ref q==Value.none)=true then _ else _) _ _ s
 rw [if_neg (show ¬ ((Value.ref q==Value.none)=true) from Bool.false_ne_true)]
 show wpAny _ _ (field (.ref j) 1 >>= _) _ _ s
 refine wpAny_bind (wpAny_field e1 e3 (x:=.int i 0) rfl ?_)
 show wpAny _ _ (seqItems? (.ref q) >>= _) _ _ s
 refine wpAny_bind (wpAny_seqItems e4 e5 ?_)
 simp only [Int.toNat_natCast,hx]
 refine wpAny_bind (wpAny_rule (wpAny_bind (wpAny_setField e1 e3 (by simp) ?_)))
 show wpAny _ _ (newExc (.type "StopIteration") [] >>= _) _ _ _
 refine wpAny_bind ?_
 simp only [newExc,newTuple]
 refine wpAny_bind (wpAny_newObj_type (wpAny_bind (m:=firstArgMember _ _) (wpAny_of_eq (a:=Value.none) (by first | rfl | (simp only [firstArgMember];rfl)) (wpAny_newObj_type ?_ (by size_fits)))) (by size_fits))
 simp only [raiseNew]
 refine wpAny_bind (wpAny_handled ?_)
 first | rw [show A.in1.handled=none from hn] | rw [hn]
 exact wpAny_bind (wpAny_pure (wpAny_throw (k _ _ (((Heap.SameBut.update ..).extBut.push _).push _) ⟨_,Heap.get?_push_size _ rfl,rfl⟩)))
theorem drawT (hn:A.handled=none) (j q:Addr) (hne:q≠j) (ys:Array Value):Draws P w A j [j,q] ys.size (fun i v=>ys[i]?=some v) (fun i h=>h.IsTupleIter j q i∧h.IsTuple q ys) where
 live:=fun _ _ st=>let ⟨o,ho,_⟩:=st.1;⟨o,ho⟩
 frame:=fun _ _ _ st k=>⟨let ⟨o,a,b⟩:=st.1;⟨o,k j (by simp) o a,b⟩,let ⟨o,a,b⟩:=st.2;⟨o,k q (by simp) o a,b⟩⟩
 item:=fun i s Q E hi st k=>nx_tup st.1 st.2 (x:=ys[i]) (by simp [hi]) fun h' a b=>k _ h' s.toks (by simp [hi]) ⟨a,st.2.extBut b.extBut hne⟩ b
 done:=fun s Q E st k=>u5B hn st.1 st.2 (by simp) k
abbrev tIt (l:Addr):Obj:={ cls:=.type "tuple_iterator",data:=.fields #[.ref l,.int 0 0] }
abbrev eOb (j:Addr):Obj:={ cls:=.type "enumerate",data:=.fields #[.none,.bool false,.ref j,rawInt 0,.none,.none] }
set_option tactic.hygienic true in
theorem v1A (l:Addr) (ys:Array Value) (n:Nat) (dct:Option Addr) (sl:Array (Option Value)) :
  Meets (Builtin.«enumerate.__new__» ⟨[.type "enumerate",.ref l],[]⟩) (fun _ R s=>s.heap.get? l=some { cls:=.type "tuple",dict:=dct,data:=.seq ys n,slots:=sl } ∧
   R (.ok (.ret (.ref (s.heap.push (tIt l)).objs.size))) { s with heap:=(s.heap.push (tIt l)).push (eOb s.heap.objs.size) }) :=
 .of_wp fun prog w A R s h=>by
  obtain ⟨hp,g,d,tk,os⟩:=s;obtain ⟨hl,h⟩:=h
  have z1:=sub_enumerate
  have hL:Heap.IsTuple (Shared.heap ⟨hp,g,d,tk,os⟩) l ys:=⟨_,hl,rfl,n,rfl⟩
  wp_walk using AutoSeq1.wpAny_loadPart' hl
  refine wpAny_stack_any fun st=>wpAny_pure ?_
  split
  ·rename_i c _ _ _ _ _
   cases (c==Value.type "enumerate") <;> (wp_walk using AutoSeq1.wpAny_loadPart' hl,wpAny_pyIter_tuple hL;exact ⟨_,rfl,h⟩)
  ·wp_walk using AutoSeq1.wpAny_loadPart' hl,wpAny_pyIter_tuple hL
   exact ⟨_,rfl,h⟩
theorem v3V {l:Addr}{ys:Array Value}{Q:VP} (hL:s.heap.IsTuple l ys)
  (h:∀ h',IsEnum h' (s.heap.objs.size+1) s.heap.objs.size 0 .none→h'.IsTupleIter s.heap.objs.size l 0→(∀ b o,s.heap.get? b=some o→h'.get? b=some o)→Q (.ref (s.heap.objs.size+1)) { s with heap:=h' }) :
  wpAny (model P w) A (call (.type "enumerate") [.ref l]) Q E s:=by
 obtain ⟨⟨c,dct,dt,sl⟩,hl,hc,n,hd⟩:=hL
 obtain rfl:c=.type "tuple":=hc
 obtain rfl:dt=.seq ys n:=hd
 refine callType_new F.called_enumerate (by decide) (F.typeCall_enumerate_1 _) (F.newCall_enumerate_1 _) (fun obj=>F.args_object_init_2 obj _) F.entry_enumerate_new (v1A l ys n dct sl) ⟨hl,?_⟩
 have hz:(s.heap.push (tIt l)).objs.size=s.heap.objs.size+1:=Heap.size_push ..
 show _∧_
 rw [hz]
 have he:IsEnum ((s.heap.push (tIt l)).push (eOb s.heap.objs.size)) (s.heap.objs.size+1) s.heap.objs.size 0 .none:=by
  have:=Heap.get?_push_size (s.heap.push (tIt l)) (o:=eOb s.heap.objs.size) rfl
  rw [hz] at this;exact this
 exact ⟨⟨_,he,rfl⟩,h _ he ⟨_,Heap.get?_push_of_some _ (Heap.get?_push_size _ rfl),rfl,rfl⟩ fun b o x=>Heap.get?_push_of_some _ (Heap.get?_push_of_some _ x)⟩
end
def IteT (K:W.Frag) (a:Addr):It :=
 ⟨fun i H=>∃ xs x,SqT K H a xs∧xs[i]?=some x,fun i H y H'=>∃ p x,H p=none∧y=.ref p∧H'=upd H p (.tup [.int i,x])∧∀ xs,SqT K H a xs→xs[i]?=some x,fun i H=>∃ xs,SqT K H a xs∧xs.length≤i⟩
theorem v2K {P:Program}{w:World}{K:W.Frag}{es:List Expr}{k:Nat}{pos:Pos} (a e it:Addr) (hne:e≠it) :
  Turn P w K (.Tuple es k pos) (IteT K a) [e,it] e (fun i h=>(∃ old,IsEnum h e it (i:Int) old)∧h.IsTupleIter it a i) where
 mem:=by simp
 obj:=fun i h st b hb=>by
  obtain ⟨⟨old,q⟩,o,e2,c,d⟩:=st
  rcases List.mem_cons.mp hb with rfl | hb
  ·exact ⟨_,q,fun v z=>by cases z⟩
  ·obtain rfl:b=it:=by simpa using hb
   exact ⟨o,e2,fun v z=>by rw [d] at z;cases z⟩
 keep:=fun i h h' st k=>⟨let ⟨old,q⟩:=st.1;⟨old,k e (by simp) _ q⟩,let ⟨o,a,b⟩:=st.2;⟨o,k it (by simp) o a,b⟩⟩
 item:=by
  intro X hP hw hK hc i pins s σ H E I hf st hg
  subst hP hw hK
  obtain ⟨xs,x,hq,hx⟩:=hg
  obtain ⟨its,rv,p,hz⟩:=I.tuple hq
  have p:s.heap.IsTuple a its.toArray:=p
  obtain ⟨u,hu,ru⟩:=rv.get hx
  obtain ⟨⟨old,he⟩,hl⟩:=st
  have f1:=hf e (by simp)
  have f2:=hf it (by simp)
  have hel:e<s.heap.objs.size:=Heap.lt_size he
  have hae:a≠e:=by
   rintro rfl
   obtain ⟨o,e1,e2,_⟩:=p
   rw [he] at e1;cases e1;injection e2 with e2;exact absurd e2 (by decide)
  have hai:a≠it:=by
   rintro rfl
   obtain ⟨o,e1,e2,_⟩:=p
   obtain ⟨o',e3,e4,_⟩:=hl
   rw [e1] at e3;cases e3;rw [e2] at e4;injection e4 with e4;exact absurd e4 (by decide)
  have hil:i<its.toArray.size:=by
   have:=(List.getElem?_eq_some_iff.mp hu).1
   simpa using this
  refine wpAny_pyNext_enum_itemD (drawT (A:=X.A.in1) (I.ok.hd hc) it a hai its.toArray) he ⟨hl,p⟩ hil hne (fun z=>by
   rcases List.mem_cons.mp z with z | z
   ·exact hne z
   ·exact hae (List.mem_singleton.mp z).symm) fun y h1 tk hy eo li ht hsz kk=>⟨_,rfl,?_⟩
  obtain rfl:y=u:=by
   have:its[i]?=some y:=by simpa using hy
   rw [hu] at this;cases this;rfl
  refine wpAny_letOwnedTupleGo_enum (s:={ s with heap:=h1,toks:=tk+1 }) eo fun h2 en sb=>?_
  have hpe:s.heap.objs.size≠e:=Nat.ne_of_gt hel
  have hfr:H s.heap.objs.size=none:=I.hok.fresh (Nat.le_refl _)
  have k2:∀ b o,b≠e→b≠it→s.heap.get? b=some o→h2.get? b=some o:=fun b o hb hi q=>(sb.2 b hb).trans (kk b o hb hi q)
  have ht2:h2.get? s.heap.objs.size=some { cls:=.type "tuple",data:=.seq #[.int i tk,y] }:=(sb.2 _ hpe).trans ht
  have I2:=I.turned2 (t':=tk+1) (p:=s.heap.objs.size) (ys:=[.int i,x]) k2 f1 f2 (Nat.le_refl _) ⟨by show 2≤sizeLine;decide,[.int i tk,y],.cons ⟨_,rfl⟩ (.cons ru .nil),⟨_,ht2,rfl,_,rfl⟩⟩
  have en':IsEnum h2 e it (((i+1:Nat):Int)) y:=by
   have:((i+1:Nat):Int)=(i:Int)+1:=by omega
   rw [this];exact en
  refine ⟨.ref s.heap.objs.size,_,I2,rfl,⟨s.heap.objs.size,x,hfr,rfl,rfl,fun ys hy=>by rw [I.tuple_inj hy hq];exact hx⟩,⟨⟨y,en'⟩,?_⟩,fun b hb=>?_⟩
  ·obtain ⟨o,q,r⟩:=li.1
   exact ⟨o,(sb.2 it (Ne.symm hne)).trans q,r⟩
  ·have hb':b<s.heap.objs.size:=by
    rcases List.mem_cons.mp hb with rfl | hb
    ·exact hel
    ·obtain rfl:b=it:=by simpa using hb
     obtain ⟨o,q,_⟩:=hl
     exact Heap.lt_size q
   rw [u0l (Nat.ne_of_lt hb')]
   exact (hf b hb).1
 done:=by
  intro X hP hw hK hc i pins s σ H E I hf st hg
  subst hP hw hK
  obtain ⟨xs,hq,hx⟩:=hg
  obtain ⟨its,rv,p,hz⟩:=I.tuple hq
  have p:s.heap.IsTuple a its.toArray:=p
  obtain ⟨⟨old,he⟩,hl⟩:=st
  obtain ⟨f0,f1,f2,f3,f4,f5⟩:=hf it (by simp)
  have hlen:=rv.length
  unfold pyNext
  have hT:s.TypeIs (.ref e) "enumerate":=⟨_,he,rfl⟩
  refine wpAny_bind (wpAny_attempt (wpAny_callSpecial?_slot (name:=Str.ofString "__next__") hT F.slot_enumerate_next (wpAny_call_entry F.slot_enumerate_next hT F.entry_enumerate_next ?_ (F.args_enumerate_next_1 _))))
  show wpAny _ _ (field (.ref e) 2 >>= _) _ _ _
  refine wpAny_bind (wpAny_field he rfl (x:=.ref it) rfl (wpAny_bind (u5B (by first | exact I.ok.hd hc | exact (I.ok.hd hc)) hl p (by simp;omega) fun h' u eb hu=>?_)))
  obtain ⟨o,ho,hcl⟩:=hu
  exact wpAny_bind (wpAny_isInstance (T:="StopIteration") (b:=true) ⟨o,ho,hcl⟩ isSubtype_stop (wpAny_pure ⟨rfl,I.turned (t':=s.toks) (fun b o hb q=>eb b o hb q) f0 f1 f3 f4 f5⟩))
 self:=fun _ _ _ _ _ st h=>by
  obtain ⟨⟨old,he⟩,_⟩:=st
  exact wpAny_pyIter_enum he h
def iEnT (K:W.Frag) (ta:TA):TI:=fun σ H R=>ta σ H fun vs H1=>(∃ a xs,vs=[.ref a]∧SqL K H1 a xs∧R (Ite K a) H1)∨∃ a xs,vs=[.ref a]∧SqT K H1 a xs∧R (IteT K a) H1
section
variable {X:Cx}{xq:XQ}{a:Expr}{ta:TA}{p pos tp:Pos}{es:List Expr}{k:Nat}{fa:Rho→Res (List D)}
theorem pi_enT (hg:Gl X "enumerate") (hm:X.mg "enumerate"=none) (ha:PA X [a] ta) (hs:starEach [a] X.env=[(false,eval a X.env)]:=by rfl):PI X (.Tuple es k tp) (.Call (.Name "enumerate" p) [a] [] pos) (iEnT X.K ta):=by
 intro pins s σ H R I h
 refine Call_ (u3U I hg hm (show bootBuiltins "enumerate"=some (.type "enumerate") by decide +kernel) (PyProof.Rows.callWith_type1 (thn (ha pos pins s σ H _ I h) fun us s1 ⟨vs,H1,I1,r1,q1⟩=>?_) hs rfl))
 have hne:s1.heap.objs.size+1≠s1.heap.objs.size:=Nat.succ_ne_self _
 have hfp:∀ b∈[s1.heap.objs.size+1,s1.heap.objs.size],s1.heap.objs.size≤b:=fun b hb=>by
  rcases List.mem_cons.mp hb with rfl | hb
  ·exact Nat.le_succ _
  ·have e:b=s1.heap.objs.size:=by simpa using hb
   rw [e];exact Nat.le_refl _
 rcases q1 with ⟨a',xs,e,hq,q⟩ | ⟨a',xs,e,hq,q⟩
 ·subst e
  obtain ⟨u,rfl,ru⟩:=vals1 r1
  cases ru
  obtain ⟨its,rv,pl,hz⟩:=I1.list hq
  refine call_enumerate_list pl.isList fun h' en li hsz kk=>wpAny_pyIter_enum en ?_
  exact ⟨s1.heap.objs.size+1,[s1.heap.objs.size+1,s1.heap.objs.size],_,Ite X.K a',H1,rfl,I1.kept (t':=s1.toks) kk,u6E a' _ _ hne,⟨⟨_,en⟩,li⟩,fun b hb=>I1.fpOk (hfp b hb) (I1.hok.fresh (hfp b hb)),q⟩
 ·subst e
  obtain ⟨u,rfl,ru⟩:=vals1 r1
  cases ru
  obtain ⟨its,rv,pl,hz⟩:=I1.tuple hq
  refine v3V (show s1.heap.IsTuple a' its.toArray from pl) fun h' en li kk=>wpAny_pyIter_enum en ?_
  exact ⟨s1.heap.objs.size+1,[s1.heap.objs.size+1,s1.heap.objs.size],_,IteT X.K a',H1,rfl,I1.kept (t':=s1.toks) kk,v2K a' _ _ hne,⟨⟨_,en⟩,li⟩,fun b hb=>I1.fpOk (hfp b hb) (I1.hok.fresh (hfp b hb)),q⟩
theorem Feed.enT {K:W.Frag}{F:Hp}{a:Addr}{xs:List V}{ds:List D} (h:SqT K F a xs) (r:Rps K F xs ds):Feed K F (IteT K a) (enumL ds) where
 go i H e hi:=by
  have hi':i<xs.length:=by rw [r.length];simpa [enumL] using hi
  exact ⟨xs,xs[i],e.seqT h,by simp [hi']⟩
 yld i F1 H x H' d e1 e2 hd y:=by
  obtain ⟨p,v,hp,rfl,rfl,y⟩:=y
  have hv:xs[i]?=some v:=y xs ((e1.trans e2).seqT h)
  have hd2:∃ d0,ds[i]?=some d0∧d=.tup [.int (i:Nat),d0]:=by
   unfold enumL at hd
   rw [List.getElem?_map,List.getElem?_zipIdx] at hd
   cases q:ds[i]? with
   | none=>rw [q] at hd;cases hd
   | some d0=>rw [q] at hd;simp at hd;exact ⟨d0,rfl,hd.symm⟩
  obtain ⟨d0,q0,rfl⟩:=hd2
  obtain ⟨w,hw,pw⟩:=r.get q0
  rw [hv] at hw;cases hw
  have s:=Stp.new (o:=.tup [.int (i:Nat),v]) e2 hp
  exact ⟨_,s,.tup (.inl (.inl u0g)) (.cons (.int _) (.cons (pw.same (e1.trans s.ff)) .nil))⟩
 stop i H e hi:=⟨xs,e.seqT h,by rw [r.length];simpa [enumL] using hi⟩
noncomputable def enum2:List D→Res (List D)
 | [.lst ds]=>.ok (enumL ds)
 | [.tup ds]=>.ok (enumL ds)
 | _=>.bad
theorem v4s {tp:Pos} (hm:X.mg "enumerate"=none) (ha:DA X xq [a] fa) (hg:Gl X "enumerate":=by rfl):DI X xq (.Tuple es k tp) (.Call (.Name "enumerate" p) [a] [] pos) (fun ρ=>(fa ρ).bind enum2) :=
 ⟨fun pins s σ H R I z9=>un5 z9 fun B F ρ R' q=>pi_enT hg hm ha.out (u0r (u0k ha.ns).1) pins s σ H R I (seqA R' q fun ds vs F1 H1 s1 R1 p1 q1=>by
  unfold enum2 at q1
  split at q1
  ·obtain ⟨v,rfl,pv⟩:=rps1 p1
   cases pv with
   | lst hq hs=>exact .inl ⟨_,_,rfl,.inl (hq.same R1.fh),q1 _ F1 H1 s1 (Feed.enum (.inl hq) hs)⟩
  ·obtain ⟨v,rfl,pv⟩:=rps1 p1
   cases pv with
   | tup hq hs=>exact .inr ⟨_,_,rfl,R1.fh.seqT hq,q1 _ F1 H1 s1 (Feed.enT hq hs)⟩
  ·exact q1.elim)⟩
end
theorem v4d:Manifest.owners.lookup (String.ofList ['d','e','s','r','e','v','e','r'].reverse)=some Manifest.sig_reversed:=by kernel_rfl
theorem u4E:Slot "reversed" "__next__" "reversed.__next__":=.of (owner:="reversed") (n:="__next__") (by rw [typeLookup_type,builtinLookup_eq_fast];kernel_rfl) (by decide +kernel) (by decide +kernel) (by decide +kernel) (by first | exact .inl (by decide +kernel) | exact .inr (by decide +kernel)) (by rw [isSubtype_type];kernel_rfl)
theorem v1c:Slot "reversed" "__iter__" "reversed.__iter__":=.of (owner:="reversed") (n:="__iter__") (by rw [typeLookup_type,builtinLookup_eq_fast];kernel_rfl) (by decide +kernel) (by decide +kernel) (by decide +kernel) (by first | exact .inl (by decide +kernel) | exact .inr (by decide +kernel)) (by rw [isSubtype_type];kernel_rfl)
theorem rv_init:Slot "reversed" "__init__" "object.__init__":=.of (owner:="object") (n:="__init__") (by rw [typeLookup_type,builtinLookup_eq_fast];kernel_rfl) (by decide +kernel) (by decide +kernel) (by decide +kernel) (by first | exact .inl (by decide +kernel) | exact .inr (by decide +kernel)) (by rw [isSubtype_type];kernel_rfl)
theorem u8O:entryFor table "reversed.__next__"=some Builtin.«reversed.__next__»:=entryFor_of_tree (by kernel_rfl)
theorem u8P (a:Value):argsOk "reversed.__next__" ⟨[a],[]⟩:=by
 unfold argsOk;rw [signature?_of (id:="reversed.__next__") (n:=['_','_','t','x','e','n','_','_']) (o:=['d','e','s','r','e','v','e','r']) (by kernel_rfl) v4d];kernel_rfl
theorem v2Z (a:Value):argsOk "reversed.__iter__" ⟨[a],[]⟩:=by
 unfold argsOk;rw [signature?_of (id:="reversed.__iter__") (n:=['_','_','r','e','t','i','_','_']) (o:=['d','e','s','r','e','v','e','r']) (by kernel_rfl) v4d];kernel_rfl
theorem v2Y:entryFor table "reversed.__iter__"=some Builtin.«dict_keyiterator.__iter__» :=
 entryFor_alias (id':="dict_keyiterator.__iter__") (by kernel_rfl) (by first | rfl | decide +kernel | (unfold String.splitOn;simp +decide [String.splitOnAux])) (by decide +kernel) (by kernel_rfl)
theorem v1d:TypeCalled "reversed" "reversed.__new__" "object.__init__" :=
 ⟨by decide +kernel,by decide +kernel,⟨_,_,F.mro_reversed⟩,F.made_reversed,by decide +kernel,F.sub_reversed_self,rv_init⟩
theorem u7k:typeLookup (.type "tuple") "__reversed__"=pure none:=by rw [typeLookup_type,builtinLookup_eq_fast];kernel_rfl
theorem u6G:isSubtype (.type "tuple") (.type "dict")=pure false:=by rw [isSubtype_type];kernel_rfl
abbrev rvO (l:Addr) (i:Int):Obj:={ cls:=.type "reversed",data:=.fields #[.ref l,rawInt i] }
def IsRv (h:Heap) (a l:Addr) (i:Int):Prop:=h.get? a=some (rvO l i)
section
variable {P:Program}{w:World}{A:Around}{E:VP}{s:Shared}
theorem IsRv.ty {a l:Addr}{i:Int} (x:IsRv s.heap a l i):s.TypeIs (.ref a) "reversed":=⟨_,x,rfl⟩
theorem rv_new {l:Addr}{ys:Array Value}{Q:VP} (hL:s.heap.IsTuple l ys) (hz:(ys.size:Int)<2^63)
  (h:∀ t,Q (.ref s.heap.objs.size) { s with heap:=s.heap.push (rvO l ((ys.size:Int) - 1)),toks:=t }):wpAny (model P w) A (Builtin.«reversed.__new__» ⟨[.type "reversed",.ref l],[]⟩) (fun fin s'=>∃ v,fin=.done (.ret v)∧Q v s') E s:=by
 unfold Builtin.«reversed.__new__»;refine wpAny_bind (wpAny_of_eq (newClass_reversed _) ?_)
 try dsimp only
 refine wpAny_bind (wpAny_of_eq (a:=()) (by first | rfl | kernel_rfl) (wpAny_bind (wpAny_of_eq (a:=()) (by first | rfl | kernel_rfl) ?_)))
 try dsimp only
 refine wpAny_bind (wpAny_specialOf hL.typeIs u7k ?_)
 try dsimp only
 refine wpAny_bind ?_
 show wpAny _ _ (isInstance (.ref l) (.type "dict") >>= _) _ _ _
 refine wpAny_bind (wpAny_isInstance (T:="tuple") (b:=false) hL.typeIs u6G ?_)
 try dsimp only
 rw [if_neg Bool.false_ne_true]
 refine wpAny_bind (wpAny_specialOf hL.typeIs slot_tuple_getitem.lookup ?_)
 dsimp only
 rw [if_pos (by decide)]
 refine wpAny_pure ?_
 rw [if_neg (by decide)]
 refine wpAny_bind (len_tuple (show IsTup s.heap l ys from hL) hz (wpAny_bind (wpAny_of_eq (a:=some (ys.size:Int)) rfl ?_)))
 dsimp only
 exact wpAny_bind (m:=Builtin.SmallTypes.newRecord _ _) (show wpAny _ _ (newObj (.type "reversed") (.fields #[.ref l,rawInt ((ys.size:Int) - 1)])) _ _ _ from wpAny_newObj_type (wpAny_pure ⟨_,rfl,h _⟩))
theorem v3w (l:Addr) (ys:Array Value):Meets (Builtin.«reversed.__new__» ⟨[.type "reversed",.ref l],[]⟩) (fun _ R s=>s.heap.IsTuple l ys∧(ys.size:Int)<2^63∧∀ t,R (.ok (.ret (.ref s.heap.objs.size))) { s with heap:=s.heap.push (rvO l ((ys.size:Int) - 1)),toks:=t }) :=
 .of_wp fun prog w A R s h=>rv_new (Q:=fun v s'=>R (.ok (.ret v)) s') h.1 h.2.1 h.2.2
theorem call_rv {l:Addr}{ys:Array Value}{Q:VP} (hL:s.heap.IsTuple l ys) (hz:(ys.size:Int)<2^63)
  (h:∀ t,Q (.ref s.heap.objs.size) { s with heap:=s.heap.push (rvO l ((ys.size:Int) - 1)),toks:=t }):wpAny (model P w) A (call (.type "reversed") [.ref l]) Q E s:=by
 refine callType_new v1d (by decide) (F.typeCall_reversed_1 _) (F.newCall_reversed_1 _) (fun obj=>F.args_object_init_2 obj _) F.entry_reversed_new (v3w l ys) ⟨hL,hz,fun t=>?_⟩
 show _∧_
 exact ⟨⟨_,Heap.get?_push_size _ rfl,rfl⟩,h t⟩
theorem nx_rv {j l:Addr}{i:Nat}{ys:Array Value}{x:Value}{Q:Option Value→Shared→Prop} (hj:IsRv s.heap j l (i:Int)) (hl:s.heap.IsTuple l ys) (hz:(ys.size:Int)<2^63) (hx:ys[i]?=some x)
  (k:∀ h' t,IsRv h' j l ((i:Int) - 1)→Heap.SameBut j s.heap h'→Q (some x) { s with heap:=h',toks:=t }):wpAny (model P w) A (pyNext (.ref j)) Q E s:=by
 have hi:i<ys.size:=(Array.getElem?_eq_some_iff.mp hx).1
 unfold pyNext;refine wpAny_bind (wpAny_attempt (wpAny_callSpecial?_slot (name:=Str.ofString "__next__") hj.ty u4E (wpAny_call_entry u4E hj.ty u8O ?_ (u8P _))))
 unfold Builtin.«reversed.__next__»;refine wpAny_bind (wpAny_of_eq (a:=(Value.ref j,[])) rfl ?_)
 try dsimp only
 refine wpAny_bind (wpAny_field hj rfl (x:=.ref l) rfl (wpAny_bind (wpAny_field hj rfl (x:=rawInt (i:Int)) rfl ?_)))
 show wpAny _ _ (if (i:Int)<0 then _ else _) _ _ s
 rw [if_neg (by omega)]
 refine wpAny_bind (wpAny_specialOf hl.typeIs slot_tuple_getitem.lookup ?_)
 simp only [Option.isNone_some,Bool.false_eq_true,if_false]
 refine wpAny_bind (wpAny_mkInt (wpAny_bind (wpAny_attempt (getItem_tuple (j:=i) (show IsTup s.heap l ys from hl) (by omega) (by omega) (by simp [seqIndex?];omega) hx ?_))))
 dsimp only
 refine wpAny_bind (wpAny_field hj rfl (x:=rawInt (i:Int)) rfl ?_)
 show wpAny _ _ (setField (.ref j) 1 (rawInt ((i:Int) - 1)) >>= _) _ _ _
 exact wpAny_bind (wpAny_setField_rec hj (by simp) fun h2 e2 s2=>wpAny_pure ⟨x,rfl,wpAny_pure (k h2 _ e2 s2)⟩)
theorem v1u {j l:Addr}{Q:Option Value→Shared→Prop} (hn:A.handled=none) (hj:IsRv s.heap j l (-1))
  (k:∀ h',Heap.ExtBut j s.heap h'→Q none { s with heap:=h' }):wpAny (model P w) A (pyNext (.ref j)) Q E s:=by
 unfold pyNext;refine wpAny_bind (wpAny_attempt (wpAny_callSpecial?_slot (name:=Str.ofString "__next__") hj.ty u4E (wpAny_call_entry u4E hj.ty u8O ?_ (u8P _))))
 unfold Builtin.«reversed.__next__»;refine wpAny_bind (wpAny_of_eq (a:=(Value.ref j,[])) rfl ?_)
 try dsimp only
 refine wpAny_bind (wpAny_field hj rfl (x:=.ref l) rfl (wpAny_bind (wpAny_field hj rfl (x:=rawInt (-1)) rfl ?_)))
 show wpAny _ _ (if (-1:Int)<0 then _ else _) _ _ s
 rw [if_pos (by decide)]
 refine wpAny_bind (wpAny_rule (wpAny_bind ?_))
 show wpAny _ _ (setField (.ref j) 1 (rawInt (-1)) >>= fun _=>setField (.ref j) 0 .none) _ _ _
 refine wpAny_bind (wpAny_setField_rec hj (by simp) fun h2 e2 s2=>wpAny_setField_rec e2 (by simp) fun h3 e3 s3=>?_)
 refine wpAny_bind ?_
 show wpAny _ A.in1 (newExc (.type "StopIteration") [] >>= _) _ _ _
 refine wpAny_bind ?_
 simp only [newExc,newTuple]
 refine wpAny_bind (wpAny_newObj_type (wpAny_bind (m:=firstArgMember _ _) (wpAny_of_eq (a:=Value.none) (by first | rfl | (simp only [firstArgMember];rfl)) (wpAny_newObj_type ?_ (by size_fits)))) (by size_fits))
 simp only [raiseNew];refine wpAny_bind (wpAny_handled ?_)
 first | rw [show A.in1.handled=none from hn] | rw [hn]
 have x3:Heap.ExtBut j s.heap h3:=fun b o hb e=>s3.extBut b o hb (s2.extBut b o hb e)
 refine wpAny_bind (wpAny_pure (wpAny_throw ?_));exact wpAny_bind (wpAny_isInstance (T:="StopIteration") (b:=true) ⟨_,Heap.get?_push_size _ rfl,rfl⟩ isSubtype_stop (wpAny_pure (k _ ((x3.push _).push _))))
theorem it_rv {j l:Addr}{i:Int}{Q:VP} (hj:IsRv s.heap j l i) (h:Q (.ref j) s):wpAny (model P w) A (pyIter (.ref j)) Q E s:=by
 refine wpAny_pyIter_slot hj.ty v1c (wpAny_call_entry v1c hj.ty v2Y ?_ (v2Z _))
 show wpAny _ _ (ret (.ref j)) _ _ s
 exact wpAny_pure ⟨_,rfl,"reversed",_,hj.ty,u4E.lookup,h⟩
end
def ItR (K:W.Frag) (a:Addr) (n:Nat):It :=
 ⟨fun i H=>∃ xs,SqT K H a xs∧xs.length=n∧i<n,fun i H x H'=>H'=H∧∀ xs,SqT K H a xs→xs.reverse[i]?=some x,fun i H=>∃ xs,SqT K H a xs∧xs.length=n∧n≤i⟩
theorem turn_rv {P:Program}{w:World}{K:W.Frag}{tg:Expr} (a it:Addr) (n:Nat) (hz:(n:Int)<2^63):Turn P w K tg (ItR K a n) [it] it (fun i h=>i≤n∧IsRv h it a ((n:Int) - 1 - (i:Int))) where
 mem:=by simp
 obj:=fun i h st b hb=>by
  have e:b=it:=by simpa using hb
  subst e
  exact ⟨_,st.2,fun v z=>by cases z⟩
 keep:=fun i h h' st k=>⟨st.1,k it (by simp) _ st.2⟩
 item:=by
  intro X hP hw hK hc i pins s σ H E I hf st hg
  subst hP hw hK
  obtain ⟨xs,hq,hn,hi⟩:=hg
  obtain ⟨its,rv,p,hl⟩:=I.tuple hq
  have p:s.heap.IsTuple a its.toArray:=p
  have hlen:=rv.length
  have hxi:xs[n - 1 - i]?=some (xs[n - 1 - i]'(by omega)):=List.getElem?_eq_getElem (by omega)
  generalize xs[n - 1 - i]'(by omega)=x at hxi
  obtain ⟨u,hu,ru⟩:=rv.get hxi
  obtain ⟨f0,f1,f2,f3,f4,f5⟩:=hf it (by simp)
  have st2:IsRv s.heap it a ((n - 1 - i:Nat):Int):=by
   have e:(n:Int) - 1 - (i:Int)=((n - 1 - i:Nat):Int):=by omega
   rw [← e];exact st.2
  have hs:its.toArray.size=n:=by rw [List.size_toArray];omega
  refine nx_rv st2 p (by rw [hs];exact hz) (x:=u) (by simpa using hu) fun h' t st' sb=>?_
  have I1:Inv X pins σ H { s with heap:=h',toks:=t }:=I.turned (t':=t) (fun b o hb e=>(sb.2 b hb).trans e) f0 f1 f3 f4 f5
  have e2:((n - 1 - i:Nat):Int) - 1=(n:Int) - 1 - ((i+1:Nat):Int):=by omega
  rw [e2] at st'
  refine ⟨u,rfl,v0B (s:={ s with heap:=h',toks:=t }) (n:="reversed") st' rfl rfl (by decide) ⟨x,H,I1,ru,⟨rfl,fun ys hy=>?_⟩,⟨by omega,st'⟩,fun b hb=>(hf b hb).1⟩⟩
  rw [I.tuple_inj hy hq,List.getElem?_reverse (by omega),hn]
  exact hxi
 done:=by
  intro X hP hw hK hc i pins s σ H E I hf st hg
  subst hP hw hK
  obtain ⟨xs,hq,hn,hi⟩:=hg
  obtain ⟨f0,f1,f2,f3,f4,f5⟩:=hf it (by simp)
  have e:(n:Int) - 1 - (i:Int)=-1:=by have:=st.1;omega
  have st2:=st.2
  rw [e] at st2
  exact v1u (I.ok.hd hc) st2 fun h' eb=>⟨rfl,I.turned (t':=s.toks) (fun b o hb e=>eb b o hb e) f0 f1 f3 f4 f5⟩
 self:=fun _ _ _ _ _ st h=>it_rv st.2 h
theorem Feed.rev {K:W.Frag}{F:Hp}{a:Addr}{xs:List V}{ds:List D} (h:SqT K F a xs) (r:Rps K F xs ds):Feed K F (ItR K a xs.length) ds.reverse where
 go i H e hi:=⟨xs,e.seqT h,rfl,by rw [r.length];simpa using hi⟩
 yld i F1 H x H' d e1 e2 hd y:=by
  obtain ⟨rfl,y⟩:=y
  have hx:=y xs ((e1.trans e2).seqT h)
  have hi:i<ds.length:=by have:=(List.getElem?_eq_some_iff.mp hd).1;simpa using this
  rw [List.getElem?_reverse hi] at hd
  have hi2:i<xs.length:=by rw [r.length];exact hi
  rw [List.getElem?_reverse hi2] at hx
  obtain ⟨v,hv,p⟩:=r.get hd
  rw [r.length] at hx
  rw [hv] at hx;cases hx
  exact ⟨F1,Stp.refl e2,p.same e1⟩
 stop i H e hi:=⟨xs,e.seqT h,rfl,by rw [r.length];simpa using hi⟩
def iRev (K:W.Frag) (ta:TA):TI:=fun σ H R=>ta σ H fun vs H1=>∃ a xs,vs=[.ref a]∧SqT K H1 a xs∧R (ItR K a xs.length) H1
noncomputable def revT:List D→Res (List D)
 | [.tup ds]=>.ok ds.reverse
 | _=>.bad
section
variable {X:Cx}{xq:XQ}{a tg:Expr}{ta:TA}{p pos:Pos}{fa:Rho→Res (List D)}
theorem pi_rev (hg:Gl X "reversed") (hm:X.mg "reversed"=none) (ha:PA X [a] ta) (hs:starEach [a] X.env=[(false,eval a X.env)]:=by rfl):PI X tg (.Call (.Name "reversed" p) [a] [] pos) (iRev X.K ta):=by
 intro pins s σ H R I h
 refine Call_ (u3U I hg hm (show bootBuiltins "reversed"=some (.type "reversed") by decide +kernel) (PyProof.Rows.callWith_type1 (thn (ha pos pins s σ H _ I h) fun us s1 ⟨vs,H1,I1,r1,q1⟩=>?_) hs rfl))
 obtain ⟨a',xs,e,hq,q⟩:=q1
 subst e
 obtain ⟨u,rfl,ru⟩:=vals1 r1
 cases ru
 obtain ⟨its,rv,pl,hl⟩:=I1.tuple hq
 have hlen:=rv.length
 have hs2:its.toArray.size=xs.length:=by rw [List.size_toArray];omega
 have hz:(xs.length:Int)<2^63:=by have:=line63;omega
 refine call_rv (show s1.heap.IsTuple a' its.toArray from pl) (by rw [hs2];exact hz) fun t=>?_
 rw [hs2]
 have st:IsRv (s1.heap.push (rvO a' ((xs.length:Int) - 1))) s1.heap.objs.size a' ((xs.length:Int) - 1):=Heap.get?_push_size _ rfl
 refine it_rv st ?_
 exact ⟨s1.heap.objs.size,[s1.heap.objs.size],_,ItR X.K a' xs.length,H1,rfl,I1.kept (t':=t) (fun b o e=>Heap.get?_push_of_some _ e),turn_rv a' _ _ hz,⟨Nat.zero_le _,by simpa using st⟩,fun b hb=>by
  have e:b=s1.heap.objs.size:=by simpa using hb
  subst e
  exact I1.fpOk (Nat.le_refl _) (I1.hok.fresh (Nat.le_refl _)),q⟩
theorem di_rev (hm:X.mg "reversed"=none) (ha:DA X xq [a] fa) (hg:Gl X "reversed":=by rfl):DI X xq tg (.Call (.Name "reversed" p) [a] [] pos) (fun ρ=>(fa ρ).bind revT) :=
 ⟨fun pins s σ H R I z9=>un5 z9 fun B F ρ R' q=>pi_rev hg hm ha.out (u0r (u0k ha.ns).1) pins s σ H R I (seqA R' q fun ds vs F1 H1 s1 R1 p1 q1=>by
  unfold revT at q1
  split at q1
  ·obtain ⟨v,rfl,pv⟩:=rps1 p1
   cases pv with
   | tup hq hs=>exact ⟨_,_,rfl,R1.fh.seqT hq,q1 _ F1 H1 s1 (Feed.rev hq hs)⟩
  ·exact q1.elim)⟩
end
def spN (K:W.Frag) (g:List D→Res (List D)):Sp:=fun vs H Q E=>∃ F ds,Same F H∧Rps K F vs ds∧(g ds).all (fun es=>∀ a h F' H',Stp F H F' H'→F' a=none→H a=none→H' a=some h→Ro K F' a h (.l es)→Q (.ref a) H') (fun x=>∀ a F' H',Stp F H F' H'→Rp K F' (.ref a) x→E (.ref a) none H')
noncomputable def asLs (g:List D→Res (List D)) (ds:List D):Res D:=(g ds).bind fun es=>.ok (.lst es)
theorem Stp.keep {F H F' H':Hp}{a:Addr}{hh:HO} (s1:Stp F H F' H') (n1:F' a=none) (n2:H a=none) (e1:H' a=some hh):Stp F H (upd F' a hh) H':=⟨s1.ff.trans (u0h n1),fun b u x=>by
 unfold upd at x
 by_cases z:b=a
 ·rw [if_pos z] at x;cases x;subst z;exact e1
 ·rw [if_neg z] at x;exact s1.fh b u x,s1.hh,fun b x y=>by
 unfold upd
 by_cases z:b=a
 ·subst z;exact absurd n2 y
 ·rw [if_neg z];exact s1.no b x y⟩
theorem spN_X {K:W.Frag}{g:List D→Res (List D)} (vs:List V) (H:Hp) (Q:VK) (E:XK) (h:spX K (asLs g) vs H Q E):spN K g vs H Q E:=by
 obtain ⟨F,ds,fh,r,q⟩:=h
 refine ⟨F,ds,fh,r,Res.all_mono (Res.all_bind.mp q) (fun es k a hh F' H' s1 n1 n2 e1 r1=>?_) fun _ k=>k⟩
 exact k (.ref a) _ _ (s1.keep n1 n2 e1) ((Ro.same (u0h n1) r1).rp u0g)
inductive OutN where
 | rn (es:List D) | er (x:D) (ρ:Rho) | bad
structure OkN (K:W.Frag) (xq:XQ) (B:Hp×Hp) (T:Ends) (o:OutN):Prop where
 out:match o with
  | .rn es=>∀ a h F' H',Stp B.1 B.2 F' H'→F' a=none→B.2 a=none→H' a=some h→Ro K F' a h (.l es)→T.rt (.ref a) H'
  | .er x ρ=>∀ v σ F H,Rel K B ρ σ F H→Rp K F v x→xq v σ H
  | .bad=>False
def liftR (K:W.Frag) (xq:XQ) (f:Rho→OutN):TS:=fun T σ H=>∃ B F ρ,Rel K B ρ σ F H∧OkN K xq B T (f ρ)
structure DRB (X:Cx) (xq:XQ) (sts:List Stmt) (f:Rho→OutN):Prop where
 out:PSs X sts (liftR X.K xq f)
section
variable {X:Cx}{xq:XQ}{st:Stmt}{sts:List Stmt}{e o:Expr}{es:List Expr}{fn:Rho→Res OD}{fe:Rho→Res D}{fs:Rho→Res (List D)}{f:Rho→Out}{g:Rho→OutN}{pos p p2 pos2 apos cpos:Pos}{x:Str}
noncomputable def retN (fn:Rho→Res OD) (ρ:Rho):OutN:=match fn ρ with
 | .ok (.l es)=>.rn es
 | .err x=>.er x (frz ρ)
 | _=>.bad
theorem u7E (he:DN X xq e fn):DRB X xq [.Return (some e) pos] (retN fn) :=
 ⟨u8h fun pins s σ H T I z9=>un5 z9 fun B F ρ R q=>v4f he.out pins s σ H T I ⟨B,F,ρ,R,by
  have q:=q.out
  unfold retN at q
  cases h:fn ρ with
  | bad=>rw [h] at q;exact q.elim
  | err x=>rw [h] at q;exact fun v F1 H1 R1 p1=>q v σ F1 H1 R1 p1
  | ok o =>
   rw [h] at q
   cases o with
   | l ds=>exact fun a hh F' H' s n1 n2 e1 r1=>q a hh F' H' (R.st.trans s) n1 (R.st.hh.free n2) e1 r1
   | _=>exact q.elim⟩⟩
noncomputable def thenR (f:Rho→Out) (g:Rho→OutN) (ρ:Rho):OutN:=match f ρ with
 | .nx ρ1=>g ρ1
 | .er x ρ1=>.er x ρ1
 | _=>.bad
theorem u8y (h1:DS X xq st f) (h2:DRB X xq sts g):DRB X xq (st::sts) (thenR f g) :=
 ⟨fun pins s σ H T I z9=>un5 z9 fun B F ρ R q=>u8U h1.out h2.out pins s σ H T I ⟨B,F,ρ,R,⟨by
  have q1:=q.out
  unfold thenR at q1
  generalize f ρ=o at q1
  cases o with
  | nx ρ1=>exact fun σ1 F1 H1 R1=>⟨B,F1,ρ1,R1,⟨q1⟩⟩
  | rt d=>exact q1.elim
  | bk r=>exact q1.elim
  | ct r=>exact q1.elim
  | er x r=>exact q1
  | bad=>exact q1⟩⟩⟩
theorem DRB.fix (h:DRB X xq sts g):DRB X xq sts (fun ρ=>g (frz ρ)) :=
 ⟨fun pins s σ H T I z9=>un5 z9 fun B F ρ R q=>let ⟨F1,_,R1⟩:=R.frz;h.out pins s σ H T I ⟨B,F1,frz ρ,R1,q⟩⟩
theorem v0U {K:W.Frag}{B:Hp×Hp}{ρ:Rho}{σ:St}{F H F0 H0:Hp}{f:List D→Res (List D)}{ds:List D}{vs:List V}{Q:VK} (R:Rel K B ρ σ F H) (pv:Rps K F vs ds) (s0:Stp F0 H0 F H)
  (q:(f ds).all (fun es=>∀ a h F' H',Stp F0 H0 F' H'→F' a=none→H0 a=none→H' a=some h→Ro K F' a h (.l es)→Q (.ref a) H') (ErrK K xq B ρ σ)):spN K f vs H Q (fun u _ H'=>∃ a,u=.ref a∧xq (.ref a) σ H') :=
 ⟨F,ds,R.fh,pv,Res.all_mono q (fun es k a h F' H' st n1 n2 e1 r1=>k a h F' H' (s0.trans st) n1 (s0.hh.free n2) e1 r1) fun x k a F' H' st p=>⟨a,rfl,errR R st p k⟩⟩
def CalleeN (P:Program) (w:World) (K:W.Frag) (mg:MG) (base:Heap) (k:Nat) (x:Str) (ps:List Str) (f:List D→Res (List D)):Prop :=
 ∃ a fd,FnOk P w K mg base (CXe P w) k a fd ps (spN K f)∧Binds K fd ps []∧W.keepIn K (.ref a)=true∧mg x=some (.ref a)
theorem dn_fn {P:Program}{w:World}{K:W.Frag}{mg:MG}{base:Heap}{k k':Nat}{ps:List Str}{f:List D→Res (List D)} (hq:XqOk X xq) (h:CalleeN P w K mg base k x ps f) (hr:Room k' X.A) (ha:DA X xq (e::es) fs) (hk:k≤k':=by decide) (hg:Gl X x:=by rfl)
  (eP:X.prog=P:=by rfl) (ew:X.w=w:=by rfl) (eK:X.K=K:=by rfl) (em:X.mg=mg:=by rfl) (eb:X.base=base:=by rfl) (hdb:(x==("__debug__":Str))=false:=by decide):DN X xq (.Call (.Name x p) (e::es) [] pos) (fun ρ=>(fs ρ).bind fun ds=>(f ds).bind fun es=>.ok (.l es)) :=
 ⟨fun pins s σ H Q I z9=>un5 z9 fun B F ρ R q=>by
  subst eP ew eK em eb
  obtain ⟨a,fd,G,hb,hkp,hm⟩:=h
  refine wpAny_Call_Name_kw (u2o I hg hm ?_ hdb)
  refine W.callWith_K (h₀:=X.base) I.ok.mod.kin hkp (thn (ha.out pos pins s σ H _ I (seqA R q fun ds vs F1 H1 s1 R1 p1 q1=>show spN X.K f (vs++[]) H1 Q (fun u _ H'=>∃ a,u=.ref a∧xq (.ref a) σ H') from by rw [List.append_nil];exact v0U R1 p1 s1 (Res.all_bind.mp q1))) fun us s1 ⟨vs,H1,I1,r,q⟩=>⟨I1.kIn,?_⟩) (u0r (u0k ha.ns).1) (u1g (u0k ha.ns).2)
  exact u3A hq G (hr.mono hk) hb .nil I1 r q⟩
def MCalleeN (P:Program) (w:World) (K:W.Frag) (mg:MG) (base:Heap) (k:Nat) (C:Addr) (m:Str) (ps:List Str) (f:List D→Res (List D)):Prop :=
 ∃ a fd,Cls K C∧Meth K C m a∧FnOk P w K mg base (CXe P w) k a fd ps (spN K f)∧Binds K fd ps []
theorem MCalleeN.mx {P:Program}{w:World}{K:W.Frag}{mg:MG}{base:Heap}{k:Nat}{C:Addr}{m:Str}{ps:List Str}{f:List D→Res (List D)} (h:MCalleeN P w K mg base k C m ps f):MCallee P w K mg base k C m ps (asLs f) :=
 let ⟨a,fd,c,hm,G,hb⟩:=h;⟨a,fd,c,hm,G.imp spN_X,hb⟩
theorem dn_meth {P:Program}{w:World}{K:W.Frag}{mg:MG}{base:Heap}{k k':Nat}{ps:List Str}{f:List D→Res (List D)}{pl:Sem Bool}{fo:Rho→Res D}{C0:Addr}{m:Str} (hq:XqOk X xq) (h:MCalleeN P w K mg base k C0 m ps f) (hr:Room k' X.A) (ho:DE X xq o fo) (ha:DA X xq (e::es) fs) (hk:k≤k':=by decide)
  (eP:X.prog=P:=by rfl) (ew:X.w=w:=by rfl) (eK:X.K=K:=by rfl) (em:X.mg=mg:=by rfl) (eb:X.base=base:=by rfl)
  (ht:eval (.Call (.Attribute o m apos) (e::es) [] pos) X.env=(do
   let ov ← eval o X.env
   standAt apos.atName
   let (f,first) ← holding [ov] (getMethod ov m pl)
   callWith pos f first (backTo pos (starEach (e::es) X.env)) (backToKw pos (keywordEach [] X.env))):=by rfl) :
  DN X xq (.Call (.Attribute o m apos) (e::es) [] pos) (fun ρ=>(fo ρ).bind fun x=>(isI C0 m x).bind fun x=>(fs ρ).bind fun ds=>(f (x::ds)).bind fun es=>.ok (.l es)):=⟨fun pins s σ H Q I z9=>un5 z9 fun B F ρ R q=>by
 subst eP ew eK em eb
 obtain ⟨fa,fd,c,hm,G,hb⟩:=h
 refine W.methodCall_KW (pl:=pl) (thn (ho.out pins s σ H (fun x H1=>∃ a dx fs0,x=.ref a∧H1 a=some (.ins C0 dx fs0)∧fs0.lookup m=none∧liftA X.K xq fs σ H1 fun vs H2=>spN X.K f (.ref a::vs) H2 Q (fun u _ H'=>∃ a,u=.ref a∧xq (.ref a) σ H')) I (seqE R q fun d v F1 H1 s1 R1 p1 q1=>?_)) fun u s1 ⟨x,H1,I1,rx,a,dx,fs0,ex,ea,l,q⟩=>?_) ht
 ·obtain ⟨a,dx,fs0,rfl,e1,e2,q2⟩:=u9i p1 (Res.all_bind.mp q1)
  refine ⟨a,dx,fs0,rfl,R1.fh _ _ e1,e2,seqA R1 q2 fun ds vs F2 H2 s2 R2 p2 q3=>v0U R2 (.cons (p1.same s2.ff) p2) (s1.trans s2) (Res.all_bind.mp q3)⟩
 ·subst ex
  obtain rfl:u=Value.ref a:=rx
  refine u2B I1 ea c hm l ?_
  refine W.callWith_K (first:=[.ref a]) (h₀:=X.base) I.ok.mod.kin hm.kp (thn (ha.out pos pins s1 σ H1 _ I1 q) fun us s2 ⟨vs,H2,I2,r,q2⟩=>⟨I2.kIn,?_⟩) (u0r (u0k ha.ns).1) (u1g (u0k ha.ns).2)
  exact u3A (us:=.ref a::us) (vs:=.ref a::vs) hq G (hr.mono hk) hb .nil I2 (.cons rfl r) (by rw [List.append_nil];exact q2)⟩
theorem u9w {P:Program}{w:World}{K:W.Frag}{mg:MG}{base:Heap}{k k':Nat}{ps:List Str}{f:List D→Res (List D)}{pl:Sem Bool}{fo:Rho→Res D}{C0:Addr}{m:Str} (hq:XqOk X xq) (h:MCalleeN P w K mg base k C0 m ps f) (hr:Room k' X.A) (ho:DE X xq o fo) (hk:k≤k':=by decide)
  (eP:X.prog=P:=by rfl) (ew:X.w=w:=by rfl) (eK:X.K=K:=by rfl) (em:X.mg=mg:=by rfl) (eb:X.base=base:=by rfl)
  (ht:eval (.Call (.Attribute o m apos) [] [] pos) X.env=(do
   let ov ← eval o X.env
   standAt apos.atName
   let (f,first) ← holding [ov] (getMethod ov m pl)
   callWith pos f first (backTo pos (starEach [] X.env)) (backToKw pos (keywordEach [] X.env))):=by rfl) :
  DN X xq (.Call (.Attribute o m apos) [] [] pos) (fun ρ=>(fo ρ).bind fun x=>(isI C0 m x).bind fun x=>(f [x]).bind fun es=>.ok (.l es)):=⟨fun pins s σ H Q I z9=>un5 z9 fun B F ρ R q=>by
 subst eP ew eK em eb
 obtain ⟨fa,fd,c,hm,G,hb⟩:=h
 refine W.methodCall_KW (pl:=pl) (thn (ho.out pins s σ H (fun x H1=>∃ a dx fs0,x=.ref a∧H1 a=some (.ins C0 dx fs0)∧fs0.lookup m=none∧spN X.K f [.ref a] H1 Q (fun u _ H'=>∃ a,u=.ref a∧xq (.ref a) σ H')) I (seqE R q fun d v F1 H1 s1 R1 p1 q1=>?_)) fun u s1 ⟨x,H1,I1,rx,a,dx,fs0,ex,ea,l,q⟩=>?_) ht
 ·obtain ⟨a,dx,fs0,rfl,e1,e2,q2⟩:=u9i p1 (Res.all_bind.mp q1)
  exact ⟨a,dx,fs0,rfl,R1.fh _ _ e1,e2,v0U R1 (.cons p1 .nil) s1 (Res.all_bind.mp q2)⟩
 ·subst ex
  obtain rfl:u=Value.ref a:=rx
  refine u2B I1 ea c hm l ?_
  exact W.callWith_K0 (first:=[.ref a]) I1.kIn hm.kp (u3A (us:=[.ref a]) (vs:=[.ref a]) hq G (hr.mono hk) hb .nil I1 (.cons rfl .nil) q)⟩
theorem u8N {H H':Hp}{a:Addr}{u:HO} (h:Same H H') (n:H a=none):Same H (upd H' a u):=fun b v e=>by
 unfold upd
 by_cases z:b=a
 ·subst z;rw [n] at e;cases e
 ·rw [if_neg z];exact h b v e
noncomputable def isLo:OD→Bool
 | .l _=>true
 | _=>false
theorem u7D (he:DN X xq o fn) (hbase:attributeBase o "clear" X.env (eval o X.env)=eval o X.env:=by rfl) (hline:(apos.endLine==cpos.line)=true:=by rfl)
  (hsw:swapsWith (.Call (.Attribute o "clear" apos) [] [] cpos) none pos.line X.env=pure false:=by rfl) :
  DS X xq (.Expr (.Call (.Attribute o "clear" apos) [] [] cpos) pos) (fun ρ=>(fn ρ).go ρ fun u=>if isLo u=true then .nx ρ else .bad) :=
 DS.of (u2U (pe_bm0 PySem.F.plainAttrs_list PySem.F.slot_list_clear PySem.F.type_list_clear v3u he.out hbase hline) hsw) fun B F ρ σ H T R q=>⟨B,F,ρ,R,Res.all_mono (u0y q.out) (fun u q1 a h F' H' s n1 n2 e1 r1=>by
  cases r1 with
  | l hs=>exact ⟨.inl ⟨rfl,_,.inl (.inl e1)⟩,a,_,rfl,rfl,e1,q1 σ F _ (R.step (Stp.only R.fh (u8N s.hh n2)))⟩
  | _=>exact q1.elim) fun _ z=>errOf z⟩
theorem ds_appN (he:DN X xq o fn) (hx:DE X xq e fe) (hs:notStar e=true:=by rfl) (hbase:attributeBase o "append" X.env (eval o X.env)=eval o X.env:=by rfl) (hline:(apos.endLine==cpos.line)=true:=by rfl)
  (hsw:swapsWith (.Call (.Attribute o "append" apos) [e] [] cpos) none pos.line X.env=pure false:=by rfl) :
  DS X xq (.Expr (.Call (.Attribute o "append" apos) [e] [] cpos) pos) (fun ρ=>(fn ρ).go ρ fun u=>match u with | .l ds=>(fe ρ).go ρ fun _=>if ds.length<sizeLine then .nx ρ else .bad | _=>.bad) :=
 DS.of (u2U (pbm PySem.F.plainAttrs_list PySem.F.slot_list_append PySem.F.type_list_append u7l he.out (pac hx.out u4G hs) (by rw [List.all_cons,hs];rfl) rfl hbase hline) hsw) fun B F ρ σ H T R q=>⟨B,F,ρ,R,Res.all_mono (u0y q.out) (fun u q1 a h F' H' s n1 n2 e1 r1=>by
  cases r1 with
  | @l xs ds hs =>
   refine ⟨.inl ⟨rfl,_,.inl (.inl e1)⟩,B,F,ρ,R.step (Stp.only R.fh s.hh),Res.all_mono (u0y q1) (fun d q2 v F2 H2 st pv=>?_) fun _ z=>errOf z⟩
   by_cases hz:ds.length<sizeLine
   ·rw [if_pos hz] at q2
    exact ⟨a,_,v,rfl,rfl,st.hh _ _ e1,by rw [hs.length];exact hz,q2 σ F _ (R.step (Stp.only R.fh (u8N (s.hh.trans st.hh) n2)))⟩
   ·rw [if_neg hz] at q2;exact q2.elim
  | _=>exact q1.elim) fun _ z=>errOf z⟩
noncomputable def gSSo:D→Res OD
 | .lst ds=>match strsOf ds with
  | some ss=>gd (ss.length<64) (.ok (.l ((sortT (setOfT ss)).map D.str)))
  | none=>.bad
 | _=>.bad
set_option tactic.hygienic true in
theorem dn_sset (hc:X.calm=true) (hm:X.mg "sorted"=none) (hm2:X.mg "set"=none) (ha:DA X xq [e] fs) (hg:Gl X "sorted":=by rfl) (hg2:Gl X "set":=by rfl) :
  DN X xq (.Call (.Name "sorted" p) [.Call (.Name "set" p2) [e] [] pos2] [] pos) (fun ρ=>(fs ρ).bind fun ds=>one1 gSSo ds) :=
 ⟨fun pins s σ H Q I z9=>un5 z9 fun B F ρ R q=>pcB (u3Z hc) hg hm (by decide +kernel) (pac (pcT (u7J hc) hg2 hm2 (by decide +kernel) ha.out (by decide) (by decide) ha.ns) u4G) (by decide) (by decide) rfl pins s σ H Q I (seqA R q fun ds vs F1 H1 s1 R1 p1 q1=>by
  unfold one1 at q1
  split at q1
  ·rename_i d
   obtain ⟨v,rfl,pv⟩:=rps1 p1
   unfold gSSo at q1
   split at q1
   ·rename_i dl
    split at q1
    ·rename_i ss hs
     obtain ⟨h64,q3⟩:=u2C q1
     cases pv with
     | lst hq hr =>
      obtain ⟨e1,e2⟩:=u4s hr hs
      subst e1
      have hl:(setOfT ss).length≤ss.length:=by have:=u2q ss [];simpa [setOfT] using this
      have em:∀ z∈sortT (setOfT ss),z.length≤sizeLine:=fun z hz=>e2 z (u1U.mp (u1C.mp hz))
      refine ⟨_,ss,rfl,.inl (hq.same R1.fh),by unfold scanBound;omega,fun a na=>?_⟩
      refine ⟨a,setOfT ss,rfl,u0g,by omega,fun b nb=>?_⟩
      have f1:=Stp.new (o:=STO X.prog X.w a (setOfT ss)) R1.fh na
      exact q3 b _ _ _ ((s1.trans f1).trans (Stp.only f1.fh (u0h nb))) (f1.fh.free nb) ((s1.trans f1).hh.free nb) u0g (.l (u3m em))
    ·exact q1.elim
   ·exact q1.elim
  ·exact q1.elim)⟩
noncomputable def gSDo:List D→Res OD
 | [.dct kd]=>match keyStrs kd with
  | some ss=>gd (ss.length<64∧∀ z∈ss,z.length≤sizeLine) (.ok (.l ((sortT ss).map D.str)))
  | none=>.bad
 | _=>.bad
set_option tactic.hygienic true in
theorem v3T (hc:X.calm=true) (hm:X.mg "sorted"=none) (ha:DA X xq [e] fs) (hg:Gl X "sorted":=by rfl):DN X xq (.Call (.Name "sorted" p) [e] [] pos) (fun ρ=>(fs ρ).bind gSDo) :=
 ⟨fun pins s σ H Q I z9=>un5 z9 fun B F ρ R q=>pcB (u5M hc) hg hm (by decide +kernel) ha.out (by decide) (by decide) ha.ns pins s σ H Q I (seqA R q fun ds vs F1 H1 s1 R1 p1 q1=>by
  unfold gSDo at q1
  split at q1
  ·rename_i kd
   obtain ⟨v,rfl,pv⟩:=rps1 p1
   cases hk:keyStrs kd with
   | none=>simp only [hk] at q1;exact q1.elim
   | some ss =>
    simp only [hk] at q1
    obtain ⟨⟨h64,hz⟩,q2⟩:=u2C q1
    cases pv with
    | dK ha hr=>exact ⟨_,_,ss,rfl,R1.fh _ _ ha,u3C hr hk,h64,fun b nb=>q2 b _ F1 _ (s1.trans (Stp.only R1.fh (u0h nb))) (R1.fh.free nb) (s1.hh.free nb) u0g (.l (u3m fun z h=>hz z (u1C.mp h)))⟩
  ·exact q1.elim)⟩
end
noncomputable def runN (n m:Nat) (t:Rho→OutN) (ds:List D):Res (List D):=if ds.length=m then (match t (startD n ds) with | .rn es=>.ok es | .er x _=>.err x | .bad=>.bad) else .bad
section
variable {P:Program}{w:World}{K:W.Frag}{mg:MG}{base:Heap}
theorem Fun.okN {x qual:Str}{st:Stmt}{f:Addr}{fd:FuncData}{N ps:List Str}{k:Nat}{t:Rho→OutN} (F:Fun K x qual st f fd) (S:FnScope N ps (defScope st))
  (hbody:∀ (cdv:Value) (A:Around) (outer:List Env) (s:Shared) (H:Hp) (E:XK),Room k (A.deeper (envOfC qual (defScope st) s.heap.objs.size f cdv))→XqOk (cxR P w K mg base N qual (defScope st) f cdv A outer s H E) (xq0 E) →
   DRB (cxR P w K mg base N qual (defScope st) f cdv A outer s H E) (xq0 E) (defBody st) t):FnOk P w K mg base (CXe P w) (k+1) f fd ps (spN K (runN N.length ps.length t)):=by
 obtain ⟨oc,od,kV,doc,pm,an,cdv,ct,osl,rfl,lk,hcd⟩:=F.ex
 refine v3N lk hcd S (fun vs H Q E h=>?_) fun A outer s H vs Q E hr hsp=>?_
 ·obtain ⟨G,ds,fh,r,q⟩:=h
  rw [r.length]
  unfold runN at q
  split at q
  ·assumption
  ·exact q.elim
 ·obtain ⟨G,ds,fh,r,q⟩:=hsp
  have hst:(cxOf (CXe P w) P w K mg base N qual (defScope st) f cdv A outer s H E).stack=(cxOf (CXe P w) P w K mg base N qual (defScope st) f cdv A outer s H E).env::(cxOf (CXe P w) P w K mg base N qual (defScope st) f cdv A outer s H E).outer∧(cxOf (CXe P w) P w K mg base N qual (defScope st) f cdv A outer s H E).env.frame=some (cxOf (CXe P w) P w K mg base N qual (defScope st) f cdv A outer s H E).env.locals:=⟨rfl,rfl⟩
  have h1:=hbody cdv A outer s H E hr (u3h hst)
  refine ⟨_,PSs.wishTo h1.out ?_,(G,H),G,_,r.begin fh,⟨?_⟩⟩
  ·rintro u s' ⟨n,e,C,d,σ,H',fl,o,rfl,I,hx,tb,hfl,q⟩
   refine u6e I hst o hx tb hfl fun s2 I2 tr=>?_
   exact ⟨e,C,d,H',rfl,I2.os,I2.bare,I2.base,I2.hok,hx,tr.tb.mono o.s0,q e rfl⟩
  ·unfold runN at q
   split at q
   ·generalize t (startD N.length ds)=o at q
    cases o with
    | rn es=>exact q
    | er x ρ=>exact fun v σ F' H' R pv a ea=>by subst ea;exact q a F' H' R.st pv
    | bad=>exact q.elim
   ·exact q.elim
end
noncomputable def gLenX:List D→Res D
 | [.dct ps]=>.ok (.int ps.length)
 | ds=>gLen ds
theorem c_lenX {X:Cx}:CallR X (.builtin "len") (rDs X.K gLenX):=by
 intro pins s σ H xs us Q I r ⟨F,ds,fh,ps,q⟩
 unfold gLenX at q
 split at q
 ·obtain ⟨v,rfl,pv⟩:=rps1 ps
  cases pv with
  | dK ha hr=>exact v2A pins s σ H _ us Q I r ⟨_,_,rfl,fh _ _ ha,q _ F H (Stp.refl fh) (by rw [hr.length];exact .int _)⟩
 ·exact u0T pins s σ H xs us Q I r ⟨F,ds,fh,ps,q⟩
noncomputable def catD:D→D→Res OD
 | .lst xs,.lst ys=>gd (xs.length+ys.length≤sizeLine) (.ok (.l (xs++ys)))
 | _,_=>.bad
section
variable {X:Cx}{xq:XQ}{a b e:Expr}{fa fb fe:Rho→Res D}{pos:Pos}
theorem dn_cat (ha:DE X xq a fa) (hb:DE X xq b fb):DN X xq (.BinOp a .Add b pos) (fun ρ=>(fa ρ).bind fun x=>(fb ρ).bind fun y=>catD x y) :=
 ⟨fun pins s σ H Q I z9=>un5 z9 fun B F ρ R q=>pe_op v1p ha.out hb.out pins s σ H Q I (seqE R q fun d v F1 H1 s1 R1 p1 q1=>seqE R1 q1 fun d2 v2 F2 H2 s2 R2 p2 q2=>by
  have p1':=p1.same s2.ff
  cases p1' with
  | lst hx rx' =>
   cases p2 with
   | lst hy ry' =>
    obtain ⟨hz,q3⟩:=u2C q2
    exact ⟨_,_,_,_,rfl,rfl,hx.same R2.fh,hy.same R2.fh,by rw [rx'.length,ry'.length];exact hz,fun p n=>q3 p _ F2 _ ((s1.trans s2).trans (Stp.only R2.fh (u0h n))) (R2.fh.free n) ((s1.trans s2).hh.free n) u0g (.l (rx'.append ry'))⟩
   | _=>exact q2.elim
  | _=>exact q2.elim)⟩
theorem u8R {K:W.Frag}{F F':Hp}:∀ {vs:List V}{ds:List D},Rps K F vs ds→ds.all flatD=true→Rps K F' vs ds
 | _,_,.nil,_=>.nil
 | _,_,.cons h hs,z=>by
  rw [List.all_cons,Bool.and_eq_true] at z
  exact .cons (h.flat z.1) (u8R hs z.2)
theorem ds_extF {x:Str}{p apos cpos:Pos} (i:Nat) (he:DE X xq e fe) (hN:X.N[i]?=some x:=by rfl) (hv:Vis X.env.scope x:=by first | exact Or.inl rfl | exact Or.inr (Or.inl rfl) | exact Or.inr (Or.inr rfl)) (hd:(x==("__debug__":Str))=false:=by decide) (hcd:(x==("__classdict__":Str))=false:=by decide)
  (hs:notStar e=true:=by rfl) (hbase:attributeBase (.Name x p) "extend" X.env (eval (.Name x p) X.env)=eval (.Name x p) X.env:=by rfl) (hline:(apos.endLine==cpos.line)=true:=by rfl)
  (hsw:swapsWith (.Call (.Attribute (.Name x p) "extend" apos) [e] [] cpos) none pos.line X.env=pure false:=by rfl) :
  DS X xq (.Expr (.Call (.Attribute (.Name x p) "extend" apos) [e] [] cpos) pos) (fun ρ=>(getL ρ i).go ρ fun ds=>(fe (frz ρ)).go ρ fun d=>match d with | .lst es=>if ds.length+es.length≤sizeLine∧es.all flatD=true then .nx (ρ.set i (some (.own (.l (ds++es))))) else .bad | _=>.bad) :=
 DS.of (u2U (pbm PySem.F.plainAttrs_list PySem.F.slot_list_extend PySem.F.type_list_extend v1x (u2D hN hv hd hcd) (pac he.out u4G hs) (by rw [List.all_cons,hs];rfl) rfl hbase hline) hsw) fun B F ρ σ H T R q=>by
  obtain ⟨ds,e1,q1⟩:=u8v (u0y q.out)
  obtain ⟨l,h,h1,h2,h3,h4,h5⟩:=R.own i _ e1
  obtain ⟨F1,ef,R1⟩:=R.frz
  cases h5 with
  | l hs =>
   refine ⟨.ref l,h1,.inl ⟨rfl,_,.inl (.inl h4)⟩,B,F1,frz ρ,R1,Res.all_mono (u0y q1) (fun d q2 v F' H' st pv=>?_) fun _ z=>(errOf z).frz⟩
   cases pv with
   | @lst b zs es hq rs =>
    have q2:(if ds.length+es.length≤sizeLine∧es.all flatD=true then Out.nx (ρ.set i (some (.own (.l (ds++es))))) else .bad).all _ _ _ _ _:=q2
    by_cases hz:ds.length+es.length≤sizeLine∧es.all flatD=true
    ·rw [if_pos hz] at q2
     have R':=R.step (Stp.only R.fh st.hh)
     exact ⟨l,b,_,zs,rfl,rfl,st.hh _ _ h4,hq.same st.fh,by rw [hs.length,rs.length];exact hz.1,q2 σ F _ (R'.write (e:=e1) h1 (.l (hs.append (u8R rs hz.2))))⟩
    ·rw [if_neg hz] at q2;exact q2.elim
   | _=>exact q2.elim
end
end L2
namespace K06
open PySem L2 KW PySem.Spec PyProof.Rows
def top (i:Nat):Stmt:=PySem.Challenge.pw_rulestable_k06_what_a_grammar_tells.main.body.getD i (.Pass ⟨0,0,0,0⟩)
def meth (i j:Nat):Stmt:=match top i with
 | .ClassDef (body:=b) ..=>b.getD j (.Pass ⟨0,0,0,0⟩)
 | _=>.Pass ⟨0,0,0,0⟩
theorem hu64 {A:Around}{k:Nat} (hr:Room k A):A.units+64<cLine:=by have:=hr.un;omega
theorem hu100 {A:Around}{k:Nat} (hr:Room k A):A.units+100<cLine:=by have:=hr.un;omega
theorem hu200 {A:Around}{k:Nat} (hr:Room k A):A.units+200<cLine:=by have:=hr.un;omega
structure Adr where
 NoRule:Addr
 NoRanks:Addr
 NoSymbol:Addr
 TooMany:Addr
 NoHead:Addr
 Doubled:Addr
 NoPlace:Addr
 TableError:Addr
 Grammar:Addr
structure Txt (K:W.Frag) (mg:MG) (A:Adr):Prop where
 z_isinstance:mg "isinstance"=none
 z_str:mg "str"=none
 z_int:mg "int"=none
 z_bool:mg "bool"=none
 z_list:mg "list"=none
 z_tuple:mg "tuple"=none
 z_dict:mg "dict"=none
 z_len:mg "len"=none
 z_all:mg "all"=none
 z_range:mg "range"=none
 z_enumerate:mg "enumerate"=none
 z_sorted:mg "sorted"=none
 z_set:mg "set"=none
 z_reversed:mg "reversed"=none
 z_max:mg "max"=none
 z_min:mg "min"=none
 g_SIDES:GloD K mg "SIDES" (.tup [(.str "left"),(.str "right"),(.str "none")])
 g_MOST_IN_BODY:GloD K mg "MOST_IN_BODY" (.int 4)
 g_MOST_IN_RANK:GloD K mg "MOST_IN_RANK" (.int 10)
 g_MOST_RULES:GloD K mg "MOST_RULES" (.int 20)
 g_MOST_HEADS:GloD K mg "MOST_HEADS" (.int 8)
 g_MOST_SIGNS:GloD K mg "MOST_SIGNS" (.int 10)
 g_MOST_RANKS:GloD K mg "MOST_RANKS" (.int 6)
 g_LONGEST:GloD K mg "LONGEST" (.int 6)
 g_IN_SIGNS:GloD K mg "IN_SIGNS" (.str "abcdefghijklmnopqrstuvwxyz0123456789+-*/()[]=<>,;.!?^&")
 g_GREAT:GloD K mg "GREAT" (.str "ABCDEFGHIJKLMNOPQRSTUVWXYZ")
 g_SMALL_AND_FIGURES:GloD K mg "SMALL_AND_FIGURES" (.str "abcdefghijklmnopqrstuvwxyz0123456789")
 m_NoRule:mg "NoRule"=some (.ref A.NoRule)
 b_NoRule:XBase K A.NoRule
 m_NoRanks:mg "NoRanks"=some (.ref A.NoRanks)
 b_NoRanks:XBase K A.NoRanks
 m_NoSymbol:mg "NoSymbol"=some (.ref A.NoSymbol)
 b_NoSymbol:XBase K A.NoSymbol
 m_TooMany:mg "TooMany"=some (.ref A.TooMany)
 b_TooMany:XBase K A.TooMany
 m_NoHead:mg "NoHead"=some (.ref A.NoHead)
 b_NoHead:XBase K A.NoHead
 m_Doubled:mg "Doubled"=some (.ref A.Doubled)
 b_Doubled:XBase K A.Doubled
 m_NoPlace:mg "NoPlace"=some (.ref A.NoPlace)
 b_NoPlace:XBase K A.NoPlace
 m_TableError:mg "TableError"=some (.ref A.TableError)
 b_TableError:XBase K A.TableError
 cls:Cls K A.Grammar
 na_rules:NoAttr K A.Grammar "rules"
 na_ranks:NoAttr K A.Grammar "ranks"
 na_start:NoAttr K A.Grammar "start"
 x_found:XRead K "found" [A.NoSymbol,A.NoRule]
 x_place:XRead K "place" [A.NoPlace]
abbrev u3z:Stmt:=top 14
theorem u8e:FnScope ["thing"] ["thing"] (defScope u3z):=.au
abbrev u1H:Stmt:=top 15
theorem u4d:FnScope ["thing"] ["thing"] (defScope u1H):=.au
abbrev u2v:Stmt:=top 16
theorem u8f:FnScope ["text","allowed"] ["text","allowed"] (defScope u2v):=.au
abbrev u4y:Stmt:=top 17
theorem u9T:FnScope ["thing"] ["thing"] (defScope u4y):=.au
abbrev u4D:Stmt:=top 18
theorem u9Y:FnScope ["thing"] ["thing"] (defScope u4D):=.au
abbrev u2T:Stmt:=top 19
theorem u6R:FnScope ["thing"] ["thing"] (defScope u2T):=.au
abbrev u4C:Stmt:=top 28
theorem u9X:FnScope ["thing"] ["thing"] (defScope u4C):=.au
abbrev u3l:Stmt:=top 29
theorem u9Z:FnScope ["thing"] ["thing"] (defScope u3l):=.au
abbrev u4A:Stmt:=top 30
theorem u9V:FnScope ["thing"] ["thing"] (defScope u4A):=.au
abbrev u4z:Stmt:=top 31
theorem u9U:FnScope ["thing"] ["thing"] (defScope u4z):=.au
abbrev u1b:Stmt:=top 32
theorem u4e:FnScope ["thing"] ["thing"] (defScope u1b):=.au
abbrev u4B:Stmt:=top 33
theorem u9W:FnScope ["thing"] ["thing"] (defScope u4B):=.au
abbrev u1A:Stmt:=top 34
theorem u4u:FnScope ["rules"] ["rules"] (defScope u1A):=.au
abbrev u2u:Stmt:=top 35
theorem u0M:FnScope ["rules","found","rule","symbol"] ["rules"] (defScope u2u):=.au
abbrev u2k:Stmt:=top 36
theorem u1t:FnScope ["rules","ahead","number","rule"] ["rules"] (defScope u2k):=.au
abbrev u0Z:Stmt:=top 37
theorem u0H:FnScope ["rules","known","rule","symbol"] ["rules"] (defScope u0Z):=.au
abbrev u1a:Stmt:=top 38
theorem u0V:FnScope ["rules","heads","signs"] ["rules"] (defScope u1a):=.au
abbrev u2l:Stmt:=top 39
theorem u1u:FnScope ["ranks","ahead","rank","sign"] ["ranks"] (defScope u2l):=.au
abbrev u3y:Stmt:=top 42
theorem u8d:FnScope ["_law_script","_law_k"] ["_law_script","_law_k"] (defScope u3y):=.au
abbrev u3v:Stmt:=top 43
theorem u2H:FnScope ["_law_cell_here","_law_k","_law_number"] ["_law_cell_here","_law_k"] (defScope u3v):=.au
abbrev u4x:Stmt:=top 44
theorem u1z:FnScope ["_law_script","_law_at","_law_base","_law_count","_law_cell_here","_law_left","_law_found","_law_k"] ["_law_script","_law_at","_law_base","_law_count"] (defScope u4x):=.au
abbrev u2d:Stmt:=top 45
theorem u2j:FnScope ["_law_cell_here","_law_many","_law_letters","_law_tail"] ["_law_cell_here","_law_many"] (defScope u2d):=.au
abbrev u2a:Stmt:=top 46
theorem u3N:FnScope ["_law_cell_here","_law_many","_law_some"] ["_law_cell_here","_law_many"] (defScope u2a):=.au
abbrev u2P:Stmt:=top 47
theorem u3O:FnScope ["_law_number","_law_some"] ["_law_number"] (defScope u2P):=.au
abbrev u2m:Stmt:=top 48
theorem u5S:FnScope ["_law_number","_law_heads_here","_law_signs_here"] ["_law_number","_law_heads_here","_law_signs_here"] (defScope u2m):=.au
abbrev u0O:Stmt:=top 49
theorem u0m:FnScope ["_law_script","_law_at","_law_heads_here","_law_signs_here","_law_more","_law_rules_here","_law_k","_law_draws","_law_head","_law_some","_law_body"] ["_law_script","_law_at","_law_heads_here","_law_signs_here","_law_more"] (defScope u0O):=.au
abbrev u2b:Stmt:=top 50
theorem u0B:FnScope ["_law_script","_law_at","_law_draws","_law_names","_law_signs_here","_law_rules_here","_law_head","_law_body","_law_symbols","_law_heads_here"] ["_law_script","_law_at"] (defScope u2b):=.au
abbrev u1F:Stmt:=top 51
theorem u0W:FnScope ["_law_script","_law_rules_here","_law_draws","_law_some","_law_head","_law_body","_law_rule"] ["_law_script","_law_rules_here"] (defScope u1F):=.au
abbrev u2Q:Stmt:=top 52
theorem u0X:FnScope ["_law_script","_law_at","_law_draws","_law_pool","_law_ranks_here","_law_k","_law_side"] ["_law_script","_law_at"] (defScope u2Q):=.au
abbrev u2R:Stmt:=top 53
theorem u3P:FnScope ["_law_thing_here","_law_kinds_here"] ["_law_thing_here"] (defScope u2R):=.au
abbrev u3w:Stmt:=top 54
theorem u8c:FnScope ["_law_told","_law_due_here"] ["_law_told","_law_due_here"] (defScope u3w):=.au
abbrev u3x:Stmt:=top 55
theorem u2I:FnScope ["_law_ranks_here","_law_thing_here","_law_place","_law_rank_here"] ["_law_ranks_here","_law_thing_here"] (defScope u3x):=.au
abbrev u2c:Stmt:=top 56
theorem u1m:FnScope ["_law_ranks_here","_law_body","_law_found","_law_symbol_here"] ["_law_ranks_here","_law_body"] (defScope u2c):=.au
abbrev u1h:Stmt:=top 57
theorem u0x:FnScope ["_law_grammar","_law_rules_here","_law_ranks_here","_law_heads_here","_law_signs_here","_law_head","_law_body","_law_number","_law_rule","_law_place","_law_rank_here"] ["_law_grammar","_law_rules_here","_law_ranks_here"] (defScope u1h):=.au
abbrev u2S:Stmt:=top 58
theorem u0n:FnScope ["_law_grammar","_law_way","_law_thing_here","_law_told","e"] ["_law_grammar","_law_way","_law_thing_here"] (defScope u2S):=.au
abbrev u1G:Stmt:=top 59
theorem u4c:FnScope ["_law_thing_here","_law_many"] ["_law_thing_here","_law_many"] (defScope u1G):=.au
abbrev u3k:Stmt:=top 60
theorem u5y:FnScope ["_law_rules_here","_law_ranks_here","_law_way","_law_thing_here","_law_found"] ["_law_rules_here","_law_ranks_here","_law_way","_law_thing_here"] (defScope u3k):=.au
abbrev u2O:Stmt:=top 61
theorem u1N:FnScope ["_law_rules_here","_law_ranks_here","_law_draws","_law_some","_law_rule"] ["_law_rules_here","_law_ranks_here","_law_draws"] (defScope u2O):=.au
abbrev u1v:Stmt:=top 62
theorem u0w:FnScope ["_law_rules_here","_law_names","_law_head","_law_body","_law_many","_law_found"] ["_law_rules_here"] (defScope u1v):=.au
abbrev u5T:Stmt:=top 63
theorem u3Q:FnScope ["_law_script","_law_rules_here","_law_ranks_here","_law_grammar","_law_at","_law_thing_here","_law_way","_law_other"] ["_law_script"] (defScope u5T):=.au
abbrev u4w:Stmt:=meth 40 1
theorem u9S:FnScope ["self"] ["self"] (defScope u4w):=.au
abbrev u4v:Stmt:=meth 40 2
theorem u9R:FnScope ["self"] ["self"] (defScope u4v):=.au
abbrev u1n:Stmt:=meth 40 3
theorem u4t:FnScope ["self","head"] ["self","head"] (defScope u1n):=.au
abbrev u1E:Stmt:=meth 40 4
theorem u4b:FnScope ["self","number"] ["self","number"] (defScope u1E):=.au
abbrev u2M:Stmt:=meth 40 5
theorem u6P:FnScope ["self","number"] ["self","number"] (defScope u2M):=.au
abbrev u2N:Stmt:=meth 40 6
theorem u6Q:FnScope ["self","number"] ["self","number"] (defScope u2N):=.au
abbrev u2K:Stmt:=meth 40 7
theorem u2h:FnScope ["self","sign","place","rank"] ["self","sign"] (defScope u2K):=.au
abbrev u2L:Stmt:=meth 40 8
theorem u2i:FnScope ["self","number","symbol","place"] ["self","number"] (defScope u2L):=.au
abbrev u2J:Stmt:=meth 40 9
theorem u6O:FnScope ["self","place"] ["self","place"] (defScope u2J):=.au
noncomputable def isStrD:D→Bool
 | .str _=>true
 | _=>false
noncomputable def isTupD:D→Bool
 | .tup _=>true
 | _=>false
noncomputable def isLstD:D→Bool
 | .lst _=>true
 | _=>false
theorem v3Z {d:D} (h:selfD d=true):gIsA [d,.ty "str"]=.ok (.bl (isStrD d)):=by cases d <;> first | rfl | simp [selfD] at h
theorem a_tup {d:D} (h:selfD d=true):gIsA [d,.ty "tuple"]=.ok (.bl (isTupD d)):=by cases d <;> first | rfl | simp [selfD] at h
theorem a_lst {d:D} (h:selfD d=true):gIsA [d,.ty "list"]=.ok (.bl (isLstD d)):=by cases d <;> first | rfl | simp [selfD] at h
theorem a_lt {d:D} (h:selfD d=true):gIsA [d,.tup [.ty "list",.ty "tuple"]]=.ok (.bl (isLstD d||isTupD d)):=by cases d <;> first | rfl | simp [selfD] at h
noncomputable def signT:Str:="abcdefghijklmnopqrstuvwxyz0123456789+-*/()[]=<>,;.!?^&"
noncomputable def greatT:Str:="ABCDEFGHIJKLMNOPQRSTUVWXYZ"
noncomputable def smallT:Str:="abcdefghijklmnopqrstuvwxyz0123456789"
@[simp] theorem fold_sign:Str.ofString "abcdefghijklmnopqrstuvwxyz0123456789+-*/()[]=<>,;.!?^&"=signT:=rfl
@[simp] theorem fold_great:Str.ofString "ABCDEFGHIJKLMNOPQRSTUVWXYZ"=greatT:=rfl
@[simp] theorem fold_small:Str.ofString "abcdefghijklmnopqrstuvwxyz0123456789"=smallT:=rfl
noncomputable def fstC (z:Str):Str:=⟨#[z.cps.getD 0 0]⟩
noncomputable def tailC (z:Str):Str:=Txt.slice z (some 1) none
noncomputable def onlyS (z a:Str):Bool:=z.cps.toList.all fun c=>inS ⟨#[c]⟩ a
noncomputable def shortS (z:Str):Bool:=decide (1≤z.length)&&decide (z.length≤6)
noncomputable def sgnS (z:Str):Bool:=shortS z&&onlyS z signT
noncomputable def hdS (z:Str):Bool:=shortS z&&(inS (fstC z) greatT&&onlyS (tailC z) smallT)
noncomputable def sgnD:D→Bool
 | .str z=>sgnS z
 | _=>false
noncomputable def hdD:D→Bool
 | .str z=>hdS z
 | _=>false
noncomputable def shortD:D→Bool
 | .str z=>shortS z
 | _=>false
noncomputable def symD (d:D):Bool:=sgnD d||hdD d
noncomputable def pairD:D→Bool
 | .tup [_,_]=>true
 | _=>false
noncomputable def bodyD:D→Bool
 | .tup ds=>decide (ds.length≤4)&&ds.all symD
 | _=>false
noncomputable def ruleD:D→Bool
 | .tup [h,b]=>hdD h&&bodyD b
 | _=>false
noncomputable def goodS (z:Str):Bool:=PyData.strOk z&&decide (z.length≤1000)
mutual
noncomputable def goodD:D→Bool
 | .non | .bl _ | .int _=>true
 | .str z=>goodS z
 | .lst ds | .tup ds=>goodDs ds
 | .dct ps=>ps.isEmpty
 | _=>false
noncomputable def goodDs:List D→Bool
 | []=>true
 | d::ds=>goodD d&&goodDs ds
end
mutual
theorem u0J:∀ {d:D},goodD d=true→selfD d=true
 | .non,_ | .bl _,_ | .int _,_ | .str _,_=>rfl
 | .lst ds,h=>u3F (ds:=ds) h
 | .tup ds,h=>u3F (ds:=ds) h
 | .dct ps,h=>h
 | .ty _,h=>by simp [goodD] at h
 | .ins _ _,h=>by simp [goodD] at h
 | .exc _ _,h=>by simp [goodD] at h
 | .dn _ _,h=>by simp [goodD] at h
theorem u3F:∀ {ds:List D},goodDs ds=true→selfDs ds=true
 | [],_=>rfl
 | d::ds,h=>by
  have h:=Bool.and_eq_true_iff.mp h
  exact Bool.and_eq_true_iff.mpr ⟨u0J h.1,u3F h.2⟩
end
theorem u6i:∀ {ds:List D},goodDs ds=true→∀ d∈ds,goodD d=true
 | [],_,d,h=>(List.not_mem_nil h).elim
 | x::ds,hs,d,h=>by
  have hs:=Bool.and_eq_true_iff.mp hs
  rcases List.mem_cons.mp h with rfl | h
  ·exact hs.1
  ·exact u6i hs.2 d h
theorem u6j {ds:List D} (h:goodD (.lst ds)=true):∀ d∈ds,goodD d=true:=u6i (by simpa [goodD] using h)
theorem u1w {ds:List D} (h:goodD (.tup ds)=true):∀ d∈ds,goodD d=true:=u6i (by simpa [goodD] using h)
def P1 (p:D→Bool) (G:FD):Prop:=∀ d,goodD d=true→G [d]=.ok (.bl (p d))
theorem u7M {α:Type} (p:α→Bool):∀ l:List α,blsOf (l.map fun d=>D.bl (p d))=some (l.map p)
 | []=>rfl
 | x::l=>by simp [blsOf,u7M p l]
theorem v2x (z:Str):(chars z).length=z.length:=by unfold chars;rw [List.length_map,Array.length_toList];rfl
theorem u0I {n:Nat} (h:n≤1000):n≤sizeLine:=Nat.le_trans h (by decide)
theorem u8K {z:Str} (h:shortS z=true):z.length≤6:=by
 unfold shortS at h
 simp at h
 exact h.2
@[simp] theorem v3M {α:Type} (p:α→Bool) (l:List α):gAll [.lst (l.map fun d=>D.bl (p d))]=.ok (.bl (l.all p)):=by
 show (match blsOf (l.map fun d=>D.bl (p d)) with | some bs=>Res.ok (D.bl (bs.all id)) | none=>.bad)=_
 rw [u7M]
 simp [List.all_map,Function.comp_def]
noncomputable def chIn (a:Str):D→Bool
 | .str c=>inS c a
 | _=>false
theorem v2G (z a:Str):((chars z).all fun d=>chIn a d)=onlyS z a:=by
 unfold chars onlyS
 rw [List.all_map]
 rfl
theorem v2t (z:Str):z.cps.toList.length=z.length:=by rw [Array.length_toList];rfl
theorem ix0 {z:Str} (c:shortS z=true):dIx (.str z) (.int 0)=.ok (.str (fstC z)):=by
 have h:0<z.length:=by unfold shortS at c;simp at c;omega
 have e:atI z.cps.toList 0=some (z.cps.getD 0 0):=by
  have:=u6B (xs:=z.cps.toList) (j:=0) (v:=z.cps.getD 0 0) (by
   have h':0<z.cps.size:=h
   rw [Array.getElem?_toList]
   simp [Array.getD,h'])
  exact this
 show (match atI z.cps.toList 0 with | some c=>Res.ok (D.str ⟨#[c]⟩) | none=>.bad)=_
 rw [e]
 rfl
theorem sl1 (z:Str):dSl (.str z) (some 1) none=.ok (.str (tailC z)):=rfl
theorem v0X (z:Str):(tailC z).length≤z.length:=by
 unfold tailC
 rw [← v2t,← v2t,u9O,List.length_drop]
 omega
noncomputable def sideD:D→Bool
 | .str z=>z=="left"||(z=="right"||z=="none")
 | _=>false
noncomputable def rsgD:D→Bool
 | .tup ds=>decide (1≤ds.length)&&(decide (ds.length≤10)&&ds.all sgnD)
 | _=>false
noncomputable def rankD:D→Bool
 | .tup [s,b]=>sideD s&&rsgD b
 | _=>false
theorem v3K {z:Str} (h:goodD (.str z)=true):PyData.strOk z=true∧z.length≤1000:=by simpa [goodD,goodS] using h
theorem u1S {z:Str} (h:PyData.strOk z=true):cmpD (.str z)=.ok (.str z):=by
 have:SeqAt.shaped (.str z)=true:=by simp [SeqAt.shaped,PyData.canLay0,h,PyData.depth]
 simp [cmpD,D.py,this]
theorem u3b (a b:Str):PyData.eqv (.str a) (.str b)=(a==b):=rfl
theorem v2N (a b:Str):(a==b)=(b==a):=by
 rw [Bool.eq_iff_iff]
 simp only [beq_iff_eq]
 exact eq_comm
theorem v3G {z:Str} (h:PyData.strOk z=true):dIn (.str z) (.tup [.str "left",.str "right",.str "none"])=.ok (.bl (sideD (.str z))):=by
 have e1:cmpD (.str "left")=.ok (.str "left"):=u1S (by decide +kernel)
 have e2:cmpD (.str "right")=.ok (.str "right"):=u1S (by decide +kernel)
 have e3:cmpD (.str "none")=.ok (.str "none"):=u1S (by decide +kernel)
 show inD (.str z) _ false=_
 simp [inD,cmpDs,u1S h,e1,e2,e3,sideD,u3b,v2N z]
@[simp] theorem len_str (z:Str):gLen [.str z]=.ok (.int z.length):=rfl
@[simp] theorem len_tup (ds:List D):gLen [.tup ds]=.ok (.int ds.length):=rfl
@[simp] theorem len_lst (ds:List D):gLen [.lst ds]=.ok (.int ds.length):=rfl
theorem u1X (i j:Int):dEq (.int i) (.int j)=.ok (.bl (i==j)):=rfl
theorem ix_tn {ds:List D}{i:Nat}{d:D} (h:ds[i]?=some d):dIx (.tup ds) (.int i)=.ok d:=by
 show (match atI ds i with | some d=>Res.ok d | none=>.bad)=_
 rw [u6B h]
theorem v1L {ds:List D}{i:Nat}{d:D} (h:ds[i]?=some d):dIx (.lst ds) (.int i)=.ok d:=by
 show (match atI ds i with | some d=>Res.ok d | none=>.bad)=_
 rw [u6B h]
theorem ix_0 (x:D) (l:List D):dIx (.tup (x::l)) (.int 0)=.ok x:=ix_tn (i:=0) rfl
theorem ix_1 (x y:D) (l:List D):dIx (.tup (x::y::l)) (.int 1)=.ok y:=ix_tn (i:=1) rfl
theorem u3E (x:D) (l:List D):dIx (.lst (x::l)) (.int 0)=.ok x:=v1L (i:=0) rfl
section
variable {P:Program}{w:World}{K:W.Frag}{mg:MG}{base:Heap}{f:Addr}{fd:FuncData}{A:Adr}
set_option tactic.hygienic true in
theorem u4g (F:Fun K "is_short_text" "is_short_text" u1H f fd) (T:Txt K mg A):∃ G,FnOk P w K mg base CX0 1 f fd ["thing"] (spF K G)∧P1 shortD G:=by
 refine ⟨_,F.okT (k:=0) u4d (fun cdv Ar outer s H E hr=>u0e (u0i (u1R (d_B u1T T.z_isinstance (by decide +kernel) (u0a (dv 0) (u0a (d_ty T.z_str (T:="str") (by decide +kernel)) u0b))) (u3e (u8C o_le o_le u0c (d_B u0T T.z_len (by decide +kernel) (u0a (dv 0) u0b)) (u5d T.g_LONGEST)))))),?_⟩
 intro d h
 simp [runT,startD,v3Z (u0J h)]
 cases d <;> simp [isStrD,shortD,gLen]
 rename_i z
 unfold shortS
 by_cases c:1≤z.length
 ·have c':(1:Int)≤z.length:=by omega
  simp [c,c']
  omega
 ·have c':¬ (1:Int)≤z.length:=by omega
  simp [c,c']
theorem u8p (F:Fun K "has_only" "has_only" u2v f fd) (T:Txt K mg A):∃ G,FnOk P w K mg base CX0 1 f fd ["text","allowed"] (spF K G)∧∀ z a,z.length≤1000→G [.str z,.str a]=.ok (.bl (onlyS z a)):=by
 refine ⟨_,F.okT (k:=0) u8f (fun cdv Ar outer s H E hr=>u0e (u0i (d_B (c_all rfl) T.z_all (by decide +kernel) (u0a (DN.de (u1f ["mark"] [1] rfl (u0v (sc:=defScope u2v) (N:=["text","allowed"]) (by decide +kernel)) (u0E (dv 0)) (dg_n (show (["mark","allowed"]:List Str).Nodup by decide +kernel)) u1Z (u5e (o_in (hu100 hr)) (dv 0) (dv 1)))) u0b)))),?_⟩
 intro z a hz
 simp [runT,startD]
 rw [show items (.str z)=.ok (chars z) from rfl,Res.bind_ok,u0S (by rw [v2x];exact u0I hz),u0K (fun d=>D.bl (chIn a d)) (fun d hd=>?_)]
 ·simp only [Res.bind_ok,v2L,v3M,u5C,go_ok,outR_rt,v2G]
 ·obtain ⟨c,_,rfl⟩:=List.mem_map.mp hd
  refine ⟨_,rfl,rfl,?_⟩
  simp [rhoC]
  rfl
set_option tactic.hygienic true in
theorem v0g {G_is_short_text:FD} (c_is_short_text:Callee P w K mg base 1 "is_short_text" ["thing"] (spF K G_is_short_text)) {G_has_only:FD} (c_has_only:Callee P w K mg base 1 "has_only" ["text","allowed"] (spF K G_has_only)) (p_short:P1 shortD G_is_short_text) (p_only:∀ z a,z.length≤1000→G_has_only [.str z,.str a]=.ok (.bl (onlyS z a))) (F:Fun K "is_sign" "is_sign" u4y f fd) (T:Txt K mg A):∃ G,FnOk P w K mg base CX0 2 f fd ["thing"] (spF K G)∧P1 sgnD G:=by
 refine ⟨_,F.okT (k:=1) u9T (fun cdv Ar outer s H E hr=>u0e (u0i (u1R (d_fn c_is_short_text hr (u0a (dv 0) u0b)) (u3e (d_fn c_has_only hr (u0a (dv 0) (u0a (u5d T.g_IN_SIGNS) u0b))))))),?_⟩
 intro d h
 simp [runT,startD,p_short d h]
 cases d <;> simp [shortD,sgnD,sgnS]
 rename_i z
 by_cases c:shortS z=true
 ·simp [c,p_only z _ (by have:=u8K c;omega)]
 ·simp [c]
set_option tactic.hygienic true in
theorem v0l {G_is_short_text:FD} (c_is_short_text:Callee P w K mg base 1 "is_short_text" ["thing"] (spF K G_is_short_text)) {G_has_only:FD} (c_has_only:Callee P w K mg base 1 "has_only" ["text","allowed"] (spF K G_has_only)) (p_short:P1 shortD G_is_short_text) (p_only:∀ z a,z.length≤1000→G_has_only [.str z,.str a]=.ok (.bl (onlyS z a))) (F:Fun K "is_head" "is_head" u4D f fd) (T:Txt K mg A):∃ G,FnOk P w K mg base CX0 2 f fd ["thing"] (spF K G)∧P1 hdD G:=by
 refine ⟨_,F.okT (k:=1) u9Y (fun cdv Ar outer s H E hr=>u0e (u0i (u1R (d_fn c_is_short_text hr (u0a (dv 0) u0b)) (u1R (u5e (o_in (hu100 hr)) (d_ix x_ix (dv 0) u0c) (u5d T.g_GREAT)) (u3e (d_fn c_has_only hr (u0a (d_sl (dv 0) (u2f u0c) u4Z) (u0a (u5d T.g_SMALL_AND_FIGURES) u0b)))))))),?_⟩
 intro d h
 simp [runT,startD,p_short d h]
 cases d <;> simp [shortD,hdD,hdS]
 rename_i z
 by_cases c:shortS z=true
 ·have e2:(tailC z).length≤1000:=by
   have:=v0X z
   have:=u8K c
   omega
  simp [c,ix0 c,asI,sl1,dIn,dInG,p_only _ smallT e2]
  by_cases k:inS (fstC z) greatT=true <;> simp [k]
 ·simp [c]
theorem u7f {G_is_sign:FD} (c_is_sign:Callee P w K mg base 2 "is_sign" ["thing"] (spF K G_is_sign)) {G_is_head:FD} (c_is_head:Callee P w K mg base 2 "is_head" ["thing"] (spF K G_is_head)) (p_is_sign:P1 sgnD G_is_sign) (p_is_head:P1 hdD G_is_head) (F:Fun K "is_symbol" "is_symbol" u2T f fd) (T:Txt K mg A):∃ G,FnOk P w K mg base CX0 3 f fd ["thing"] (spF K G)∧P1 symD G:=by
 refine ⟨_,F.okT (k:=2) u6R (fun cdv Ar outer s H E hr=>u0e (u0i (d_or (d_fn c_is_sign hr (u0a (dv 0) u0b)) (u3e (d_fn c_is_head hr (u0a (dv 0) u0b)))))),?_⟩
 intro d h
 simp [runT,startD,p_is_sign d h,p_is_head d h,symD]
 by_cases c:sgnD d=true <;> simp [c]
set_option tactic.hygienic true in
theorem v0k (F:Fun K "is_pair" "is_pair" u4C f fd) (T:Txt K mg A):∃ G,FnOk P w K mg base CX0 1 f fd ["thing"] (spF K G)∧P1 pairD G:=by
 refine ⟨_,F.okT (k:=0) u9X (fun cdv Ar outer s H E hr=>u0e (u0i (u1R (d_B u1T T.z_isinstance (by decide +kernel) (u0a (dv 0) (u0a (d_ty T.z_tuple (T:="tuple") (by decide +kernel)) u0b))) (u3e (u5e (o_eq (hu64 hr)) (d_B u0T T.z_len (by decide +kernel) (u0a (dv 0) u0b)) u0c))))),?_⟩
 intro d h
 simp [runT,startD,a_tup (u0J h)]
 cases d <;> simp [isTupD,pairD,gLen]
 rename_i ds
 rw [u1X]
 match ds with
 | []=>rfl
 | [_]=>rfl
 | [_,_]=>rfl
 | _::_::_::l=>simp [pairD];omega
set_option tactic.hygienic true in
theorem v0m {G_is_symbol:FD} (c_is_symbol:Callee P w K mg base 3 "is_symbol" ["thing"] (spF K G_is_symbol)) (p_is_symbol:P1 symD G_is_symbol) (F:Fun K "is_body" "is_body" u3l f fd) (T:Txt K mg A):∃ G,FnOk P w K mg base CX0 4 f fd ["thing"] (spF K G)∧P1 bodyD G:=by
 refine ⟨_,F.okT (k:=3) u9Z (fun cdv Ar outer s H E hr=>u0e (u0i (u1R (d_B u1T T.z_isinstance (by decide +kernel) (u0a (dv 0) (u0a (d_ty T.z_tuple (T:="tuple") (by decide +kernel)) u0b))) (u1R (u5e o_le (d_B u0T T.z_len (by decide +kernel) (u0a (dv 0) u0b)) (u5d T.g_MOST_IN_BODY)) (u3e (d_B (c_all rfl) T.z_all (by decide +kernel) (u0a (DN.de (u1f ["part"] [] rfl (u0v (sc:=defScope u3l) (N:=["thing"]) (by decide +kernel)) (u0E (dv 0)) (dg_n (show (["part"]:List Str).Nodup by decide +kernel)) u1Z (d_fn c_is_symbol hr (u0a (dv 0) u0b)))) u0b))))))),?_⟩
 intro d h
 simp [runT,startD,a_tup (u0J h)]
 cases d <;> simp [isTupD,bodyD,gLen]
 rename_i ds
 by_cases c:ds.length≤4
 ·have c':(ds.length:Int)≤4:=by omega
  simp [c,c']
  rw [show items (.tup ds)=.ok ds from rfl,Res.bind_ok,u0S (u0I (by omega)),u0K (fun d=>D.bl (symD d)) (fun d hd=>?_)]
  ·simp
  ·exact ⟨_,rfl,rfl,by simp [rhoC,p_is_symbol d (u1w h d hd)]⟩
 ·have c':¬ (ds.length:Int)≤4:=by omega
  simp [c,c']
set_option tactic.hygienic true in
theorem v0i {G_is_pair:FD} (c_is_pair:Callee P w K mg base 1 "is_pair" ["thing"] (spF K G_is_pair)) {G_is_head:FD} (c_is_head:Callee P w K mg base 2 "is_head" ["thing"] (spF K G_is_head)) {G_is_body:FD} (c_is_body:Callee P w K mg base 4 "is_body" ["thing"] (spF K G_is_body)) (p_is_pair:P1 pairD G_is_pair) (p_is_head:P1 hdD G_is_head) (p_is_body:P1 bodyD G_is_body) (F:Fun K "is_rule" "is_rule" u4A f fd) (T:Txt K mg A):∃ G,FnOk P w K mg base CX0 5 f fd ["thing"] (spF K G)∧P1 ruleD G:=by
 refine ⟨_,F.okT (k:=4) u9V (fun cdv Ar outer s H E hr=>u0e (u0i (u1R (d_fn c_is_pair hr (u0a (dv 0) u0b)) (u1R (d_fn c_is_head hr (u0a (d_ix x_ix (dv 0) u0c) u0b)) (u3e (d_fn c_is_body hr (u0a (d_ix x_ix (dv 0) u0c) u0b))))))),?_⟩
 intro d h
 simp [runT,startD,p_is_pair d h]
 cases d <;> simp [pairD,ruleD]
 rename_i ds
 match ds,h with
 | [],_=>simp [pairD,ruleD]
 | [_],_=>simp [pairD,ruleD]
 | _::_::_::_,_=>simp [pairD,ruleD]
 | [x,y],h =>
  have h1:=p_is_head x (u1w h x (by simp))
  have h2:=p_is_body y (u1w h y (by simp))
  simp [pairD,ruleD,ix_0,ix_1,h1,h2]
  by_cases c:hdD x=true <;> simp [c]
set_option tactic.hygienic true in
theorem v0h (F:Fun K "is_side" "is_side" u4z f fd) (T:Txt K mg A):∃ G,FnOk P w K mg base CX0 1 f fd ["thing"] (spF K G)∧P1 sideD G:=by
 refine ⟨_,F.okT (k:=0) u9U (fun cdv Ar outer s H E hr=>u0e (u0i (u1R (d_B u1T T.z_isinstance (by decide +kernel) (u0a (dv 0) (u0a (d_ty T.z_str (T:="str") (by decide +kernel)) u0b))) (u3e (u5e (o_in (hu100 hr)) (dv 0) (u5d T.g_SIDES)))))),?_⟩
 intro d h
 simp [runT,startD,v3Z (u0J h)]
 cases d <;> simp [isStrD]
 case str z=>rw [v3G (v3K h).1];simp
 all_goals rfl
set_option tactic.hygienic true in
theorem u4h {G_is_sign:FD} (c_is_sign:Callee P w K mg base 2 "is_sign" ["thing"] (spF K G_is_sign)) (p_is_sign:P1 sgnD G_is_sign) (F:Fun K "is_rank_signs" "is_rank_signs" u1b f fd) (T:Txt K mg A):∃ G,FnOk P w K mg base CX0 3 f fd ["thing"] (spF K G)∧P1 rsgD G:=by
 refine ⟨_,F.okT (k:=2) u4e (fun cdv Ar outer s H E hr=>u0e (u0i (u1R (d_B u1T T.z_isinstance (by decide +kernel) (u0a (dv 0) (u0a (d_ty T.z_tuple (T:="tuple") (by decide +kernel)) u0b))) (u1R (u8C o_le o_le u0c (d_B u0T T.z_len (by decide +kernel) (u0a (dv 0) u0b)) (u5d T.g_MOST_IN_RANK)) (u3e (d_B (c_all rfl) T.z_all (by decide +kernel) (u0a (DN.de (u1f ["part"] [] rfl (u0v (sc:=defScope u1b) (N:=["thing"]) (by decide +kernel)) (u0E (dv 0)) (dg_n (show (["part"]:List Str).Nodup by decide +kernel)) u1Z (d_fn c_is_sign hr (u0a (dv 0) u0b)))) u0b))))))),?_⟩
 intro d h
 simp [runT,startD,a_tup (u0J h)]
 cases d <;> simp [isTupD,rsgD,gLen]
 rename_i ds
 by_cases c0:1≤ds.length
 ·have c0':(1:Int)≤ds.length:=by omega
  by_cases c:ds.length≤10
  ·have c':(ds.length:Int)≤10:=by omega
   simp [c,c',c0,c0']
   rw [show items (.tup ds)=.ok ds from rfl,Res.bind_ok,u0S (u0I (by omega)),u0K (fun d=>D.bl (sgnD d)) (fun d hd=>?_)]
   ·simp
   ·exact ⟨_,rfl,rfl,by simp [rhoC,p_is_sign d (u1w h d hd)]⟩
  ·have c':¬ (ds.length:Int)≤10:=by omega
   simp [c,c',c0,c0']
 ·have c0':¬ (1:Int)≤ds.length:=by omega
  simp [c0,c0']
set_option tactic.hygienic true in
theorem v0j {G_is_pair:FD} (c_is_pair:Callee P w K mg base 1 "is_pair" ["thing"] (spF K G_is_pair)) {G_is_side:FD} (c_is_side:Callee P w K mg base 1 "is_side" ["thing"] (spF K G_is_side)) {G_is_rank_signs:FD} (c_is_rank_signs:Callee P w K mg base 3 "is_rank_signs" ["thing"] (spF K G_is_rank_signs)) (p_is_pair:P1 pairD G_is_pair) (p_is_side:P1 sideD G_is_side) (p_is_rank_signs:P1 rsgD G_is_rank_signs) (F:Fun K "is_rank" "is_rank" u4B f fd) (T:Txt K mg A):∃ G,FnOk P w K mg base CX0 4 f fd ["thing"] (spF K G)∧P1 rankD G:=by
 refine ⟨_,F.okT (k:=3) u9W (fun cdv Ar outer s H E hr=>u0e (u0i (u1R (d_fn c_is_pair hr (u0a (dv 0) u0b)) (u1R (d_fn c_is_side hr (u0a (d_ix x_ix (dv 0) u0c) u0b)) (u3e (d_fn c_is_rank_signs hr (u0a (d_ix x_ix (dv 0) u0c) u0b))))))),?_⟩
 intro d h
 simp [runT,startD,p_is_pair d h]
 cases d <;> simp [pairD,rankD]
 rename_i ds
 match ds,h with
 | [],_=>simp [pairD,rankD]
 | [_],_=>simp [pairD,rankD]
 | _::_::_::_,_=>simp [pairD,rankD]
 | [x,y],h =>
  have h1:=p_is_side x (u1w h x (by simp))
  have h2:=p_is_rank_signs y (u1w h y (by simp))
  simp [pairD,rankD,ix_0,ix_1,h1,h2]
  by_cases c:sideD x=true <;> simp [c]
inductive Due where
 | fine | rule (d:D) | dbl (n:Nat) | many (n:Nat) | head (z:Str) | ranks (d:D)
noncomputable def Due.toD:Due→D
 | .fine=>.non
 | .rule d=>.tup [.str "rule",d]
 | .dbl n=>.tup [.str "doubled",.int n]
 | .many n=>.tup [.str "many",.int n]
 | .head z=>.tup [.str "head",.str z]
 | .ranks d=>.tup [.str "ranks",d]
noncomputable def Due.toR (A:Adr):Due→Res D
 | .fine=>.ok .non
 | .rule d=>.err (.exc A.NoRule [("found",d)])
 | .dbl n=>.err (.exc A.Doubled [("number",.int n)])
 | .many n=>.err (.exc A.TooMany [("found",.int n)])
 | .head z=>.err (.exc A.NoHead [("head",.str z)])
 | .ranks d=>.err (.exc A.NoRanks [("found",d)])
abbrev RR:=Str×List Str
noncomputable def rT (p:RR):D:=.tup [.str p.1,.tup (p.2.map D.str)]
theorem u3i:∀ {ds:List D}{ss:List Str},strsOf ds=some ss→ds=ss.map D.str
 | [],_,e=>by cases e;rfl
 | d::ds,ss,e=>by
  cases d with
  | str z =>
   unfold strsOf at e
   cases q:strsOf ds with
   | none=>rw [q] at e;cases e
   | some ts=>rw [q] at e;cases e;rw [u3i q];rfl
  | _=>cases e
theorem u2t:∀ ss:List Str,strsOf (ss.map D.str)=some ss
 | []=>rfl
 | z::ss=>by simp [strsOf,u2t ss]
theorem u6F:∀ {ds:List D},ds.all symD=true→∃ ss,strsOf ds=some ss
 | [],_=>⟨[],rfl⟩
 | d::ds,h=>by
  rw [List.all_cons,Bool.and_eq_true] at h
  obtain ⟨ss,e⟩:=u6F h.2
  cases d with
  | str z=>exact ⟨z::ss,by simp [strsOf,e]⟩
  | _=>simp [symD,sgnD,hdD] at h
noncomputable def asRule (d:D):Option RR:=match d with
 | .tup [.str h,.tup bs]=>if ruleD d=true then (strsOf bs).map fun ss=>(h,ss) else none
 | _=>none
theorem u5i {d:D} (h:ruleD d=false):asRule d=none:=by
 unfold asRule
 split
 ·rw [if_neg (by rw [h];exact Bool.false_ne_true)]
 ·rfl
theorem u3g {d:D} (h:ruleD d=true):∃ p,asRule d=some p∧d=rT p:=by
 cases d with
 | tup ds =>
  match ds,h with
  | [],h=>simp [ruleD] at h
  | [_],h=>simp [ruleD] at h
  | _::_::_::_,h=>simp [ruleD] at h
  | [x,y],h =>
   have h0:=h
   simp [ruleD] at h
   obtain ⟨h1,h2⟩:=h
   cases x with
   | str z =>
    cases y with
    | tup bs =>
     simp [bodyD] at h2
     obtain ⟨ss,e⟩:=u6F (List.all_eq_true.mpr h2.2)
     refine ⟨(z,ss),?_,?_⟩
     ·show (if ruleD _=true then (strsOf bs).map fun ss=>(z,ss) else none)=_
      rw [if_pos h0,e]
      rfl
     ·rw [u3i e];rfl
    | _=>simp [bodyD] at h2
   | _=>simp [hdD] at h1
 | _=>simp [ruleD] at h
structure OkR (p:RR):Prop where
 h:hdS p.1=true
 l:p.2.length≤4
 s:∀ b∈p.2,(sgnS b||hdS b)=true
 gh:goodS p.1=true
 gs:∀ b∈p.2,goodS b=true
theorem v4i {p:RR} (h:ruleD (rT p)=true) (g:goodD (rT p)=true):OkR p:=by
 obtain ⟨z,ss⟩:=p
 have h':hdS z=true∧(ss.length≤4∧∀ b∈ss,(sgnS b||hdS b)=true):=by
  simp [rT,ruleD,hdD,bodyD,symD,sgnD] at h
  exact ⟨h.1,h.2.1,fun b hb=>by simpa using h.2.2 b hb⟩
 have g1:=u1w g (.str z) (by simp [rT])
 have g2:=u1w g (.tup (ss.map D.str)) (by simp [rT])
 exact ⟨h'.1,h'.2.1,h'.2.2,by simpa [goodD] using g1,fun b hb=>by
  have:=u1w g2 (.str b) (List.mem_map.mpr ⟨b,hb,rfl⟩)
  simpa [goodD] using this⟩
theorem ok_rule {p:RR} (o:OkR p):ruleD (rT p)=true:=by
 obtain ⟨z,ss⟩:=p
 simp only [rT,ruleD,hdD,bodyD,Bool.and_eq_true,List.length_map,decide_eq_true_eq,List.all_map,List.all_eq_true]
 exact ⟨o.h,o.l,fun b hb=>o.s b hb⟩
noncomputable def pyR (p:RR):PyData:=.tuple [.str p.1,.tuple (p.2.map PyData.str)]
theorem u4m:∀ ss:List Str,D.pys (ss.map D.str)=some (ss.map PyData.str)
 | []=>rfl
 | z::ss=>by simp [D.pys,D.py,u4m ss]
theorem u3p:∀ {ss:List Str},(∀ b∈ss,goodS b=true)→PyData.canLayAll0 (ss.map PyData.str)=true
 | [],_=>rfl
 | z::ss,h=>by
  have h1:=h z List.mem_cons_self
  have h2:=u3p fun b hb=>h b (List.mem_cons_of_mem _ hb)
  simp [goodS] at h1
  simp [PyData.canLayAll0,PyData.canLay0,h1.1,h2]
theorem u3q:∀ ss:List Str,PyData.depthAll (ss.map PyData.str)≤1
 | []=>by simp [PyData.depthAll]
 | z::ss=>by
  have:=u3q ss
  simp [PyData.depthAll,PyData.depth]
  omega
theorem u9C {p:RR} (o:OkR p):cmpD (rT p)=.ok (pyR p):=by
 have h1:=o.gh
 simp [goodS] at h1
 have e:(rT p).py=some (pyR p):=by
  simp [rT,D.py,D.pys,u4m,pyR]
 have s:SeqAt.shaped (pyR p)=true:=by
  have d:=u3q p.2
  simp [SeqAt.shaped,pyR,PyData.canLay0,PyData.canLayAll0,h1.1,u3p o.gs,PyData.depth,PyData.depthAll]
  omega
 unfold cmpD
 rw [e]
 simp [s]
theorem u1j:∀ as bs:List Str,PyData.eqvAll (as.map PyData.str) (bs.map PyData.str)=decide (as=bs)
 | [],[]=>rfl
 | [],_::_=>rfl
 | _::_,[]=>rfl
 | a::as,b::bs=>by
  show (PyData.eqv (.str a) (.str b)&&PyData.eqvAll (as.map PyData.str) (bs.map PyData.str))=_
  rw [u1j as bs,u3b]
  by_cases c:a=b <;> simp [c]
theorem u9r (p q:RR):PyData.eqv (pyR p) (pyR q)=decide (p=q):=by
 obtain ⟨a,as⟩:=p
 obtain ⟨b,bs⟩:=q
 show (PyData.eqv (.str a) (.str b)&&(PyData.eqvAll (as.map PyData.str) (bs.map PyData.str)&&true))=_
 rw [u1j,u3b]
 by_cases c:a=b <;> simp [c]
theorem u5L:∀ {rs:List RR},(∀ p∈rs,OkR p)→cmpDs (rs.map rT)=.ok (rs.map pyR)
 | [],_=>rfl
 | p::rs,h=>by
  simp [cmpDs,u9C (h p List.mem_cons_self),u5L fun q hq=>h q (List.mem_cons_of_mem _ hq)]
theorem u9k {p:RR}{rs:List RR} (o:OkR p) (os:∀ q∈rs,OkR q) (neg:Bool):inD (rT p) (rs.map rT) neg=.ok (.bl (if neg=true then !decide (p∈rs) else decide (p∈rs))):=by
 have e:((rs.map pyR).any fun b=>PyData.eqv b (pyR p))=decide (p∈rs):=by
  rw [List.any_map,Bool.eq_iff_iff,List.any_eq_true,decide_eq_true_eq]
  constructor
  ·rintro ⟨q,hq,e⟩
   simp only [Function.comp,u9r,decide_eq_true_eq] at e
   rw [← e];exact hq
  ·intro h
   exact ⟨p,h,by simp only [Function.comp,u9r,decide_eq_true_eq]⟩
 simp only [inD,u9C o,u5L os,Res.bind_ok,e]
noncomputable def goRules (rs:List RR):List D→Due
 | []=>.fine
 | d::ds=>match asRule d with
  | none=>.rule d
  | some p=>if p∈rs then .dbl rs.length else goRules (rs++[p]) ds
noncomputable def dueRules:D→Due
 | .lst ds=>if 1≤ds.length∧ds.length≤20 then goRules [] ds else .many ds.length
 | d=>.rule d
@[simp] theorem u0F {α:Type}{ds:List D}{k:Res α} (h:ds.length≤1000):szD ds k=k:=szD_pos (u0I h)
theorem u4Y (k:Nat) (d:D) (ds:List D):(((d::ds).zipIdx k).map fun p=>D.tup [.int (p.2:Nat),p.1])=.tup [.int (k:Nat),d]::((ds.zipIdx (k+1)).map fun p=>D.tup [.int (p.2:Nat),p.1]):=rfl
noncomputable def isOkR {α:Type}:Res α→Bool
 | .ok _=>true
 | _=>false
noncomputable def rkOk:D→Bool
 | .tup [x,_]=>isOkR (cmpD x)
 | _=>true
noncomputable def isStop:Out→Bool
 | .rt _=>true
 | .er _ _=>true
 | _=>false
def StepOk {α β γ:Type} (S:α→List γ→Rho→Prop) (go:α→List γ→β) (Q:β→Out→Prop) (a:α) (d:γ) (ds:List γ) (o:Out):Prop :=
 (∃ a' ρ2,(o=.nx ρ2∨o=.ct ρ2)∧S a' ds ρ2∧go a (d::ds)=go a' ds)∨(isStop o=true∧Q (go a (d::ds)) o)
theorem u1r {α β γ:Type}{S:α→List γ→Rho→Prop}{go:α→List γ→β}{Q:β→Out→Prop}{a:α}{d:γ}{ds:List γ}{ρ:Rho} (a':α) (h:S a' ds ρ) (e:go a (d::ds)=go a' ds):StepOk S go Q a d ds (.nx ρ):=.inl ⟨a',ρ,.inl rfl,h,e⟩
theorem u2F {α β γ:Type}{S:α→List γ→Rho→Prop}{go:α→List γ→β}{Q:β→Out→Prop}{a:α}{d:γ}{v:D}{ds:List γ}{ρ:Rho} (h:Q (go a (d::ds)) (.er v ρ)):StepOk S go Q a d ds (.er v ρ):=.inr ⟨rfl,h⟩
theorem u0Q {α β γ:Type}{g:D→Rho→Res Rho}{tb:Rho→Out} (c:γ→D) (S:α→List γ→Rho→Prop) (go:α→List γ→β) (Q:β→Out→Prop) (nil:∀ a ρ,S a [] ρ→Q (go a []) (.nx ρ))
  (cons:∀ a d ds ρ,S a (d::ds) ρ→∃ ρ1,g (c d) ρ=.ok ρ1∧StepOk S go Q a d ds (tb ρ1)) :
  ∀ ds a ρ,S a ds ρ→Q (go a ds) (forD g tb (ds.map c) ρ)
 | [],a,ρ,h=>nil a ρ h
 | d::ds,a,ρ,h=>by
  obtain ⟨ρ1,e,k⟩:=cons a d ds ρ h
  simp only [List.map_cons,forD,e,u5C,go_ok]
  rcases k with ⟨a',ρ2,k1,k2,k3⟩ | ⟨k1,k2⟩
  ·rw [k3]
   rcases k1 with k1 | k1 <;> rw [k1] <;> exact u0Q c S go Q nil cons ds a' ρ2 k2
  ·generalize tb ρ1=o at k1 k2 ⊢
   cases o <;> first | exact k2 | cases k1
theorem u5G {α β:Type}{g:D→Rho→Res Rho}{tb:Rho→Out} (S:Nat→α→List D→Rho→Prop) (go:α→List D→β) (Q:β→Out→Prop) (nil:∀ k a ρ,S k a [] ρ→Q (go a []) (.nx ρ))
  (cons:∀ k a d ds ρ,S k a (d::ds) ρ→∃ ρ1,g (.tup [.int (k:Nat),d]) ρ=.ok ρ1∧StepOk (S (k+1)) go Q a d ds (tb ρ1)) :
  ∀ ds k a ρ,S k a ds ρ→Q (go a ds) (forD g tb ((ds.zipIdx k).map fun p=>.tup [.int (p.2:Nat),p.1]) ρ)
 | [],k,a,ρ,h=>nil k a ρ h
 | d::ds,k,a,ρ,h=>by
  obtain ⟨ρ1,e,z⟩:=cons k a d ds ρ h
  rw [u4Y]
  simp only [forD,e,u5C,go_ok]
  rcases z with ⟨a',ρ2,k1,k2,k3⟩ | ⟨k1,k2⟩
  ·rw [k3]
   rcases k1 with k1 | k1 <;> rw [k1] <;> exact u5G S go Q nil cons ds (k+1) a' ρ2 k2
  ·generalize tb ρ1=o at k1 k2 ⊢
   cases o <;> first | exact k2 | cases k1
noncomputable def keyR (p:RR):List DK:=[.s p.1,.t (p.2.map DK.s)]
theorem u9x:∀ ss:List Str,dksOf (ss.map D.str)=some (ss.map DK.s)
 | []=>rfl
 | z::ss=>by simp [dksOf,dkOf,u9x ss]
theorem v4q:∀ ss:List Str,DK.pys (ss.map DK.s)=ss.map PyData.str
 | []=>rfl
 | z::ss=>by simp [DK.pys,DK.py,v4q ss]
theorem v2l:∀ ss:List Str,DK.deps (ss.map DK.s)=0
 | []=>rfl
 | z::ss=>by simp [DK.deps,DK.dep,v2l ss]
theorem v3p {p:RR} (o:OkR p):okK (keyR p)=true:=by
 have e:(DK.t (keyR p)).py=pyR p:=by simp [keyR,DK.py,DK.pys,v4q,pyR]
 have d:=u3q p.2
 have h1:=o.gh
 simp [goodS] at h1
 unfold okK
 rw [e]
 have s:SeqAt.shaped (pyR p)=true:=by
  simp [SeqAt.shaped,pyR,PyData.canLay0,PyData.canLayAll0,h1.1,u3p o.gs,PyData.depth,PyData.depthAll]
  omega
 simp [s,keyR,DK.dep,DK.deps,v2l]
theorem u9d {p:RR} (o:OkR p):keyOf (rT p)=.ok (keyR p):=by
 have e:dksOf [D.str p.1,.tup (p.2.map D.str)]=some (keyR p):=by simp [dksOf,dkOf,u9x,keyR]
 show (match dksOf [D.str p.1,.tup (p.2.map D.str)] with | some ks=>gd (okK ks=true) (.ok ks) | none=>.bad)=_
 rw [e]
 simp [v3p o]
theorem u9e {p q:RR} (h:keyR p=keyR q):p=q:=by
 obtain ⟨a,as⟩:=p
 obtain ⟨b,bs⟩:=q
 simp only [keyR,List.cons.injEq,DK.s.injEq,DK.t.injEq,and_true] at h
 obtain ⟨rfl,h⟩:=h
 have:∀ as bs:List Str,as.map DK.s=bs.map DK.s→as=bs:=by
  intro as
  induction as with
  | nil=>intro bs h;cases bs with | nil=>rfl | cons _ _=>cases h
  | cons x as ih =>
   intro bs h
   cases bs with
   | nil=>cases h
   | cons y bs =>
    simp only [List.map_cons,List.cons.injEq,DK.s.injEq] at h
    rw [h.1,ih bs h.2]
 rw [this as bs h]
theorem in_keys {w:World}{p:RR}{rs:List RR}{kvs:List (List DK×D)} (o:OkR p) (e:kvs.map (·.1)=rs.map keyR):dInA w false (rT p) (.dn (hashW w) kvs)=.ok (.bl (decide (p∈rs))):=by
 have q:dInA w false (rT p) (.dn (hashW w) kvs)=inN w false (rT p) (hashW w) kvs:=by
  unfold dInA
  exact v2s w false _ _ _
 rw [q]
 unfold inN
 rw [u9d o,Res.bind_ok,if_pos rfl,e]
 have:(keyR p∈rs.map keyR)↔p∈rs:=by
  rw [List.mem_map]
  exact ⟨fun ⟨q,hq,e⟩=>u9e e ▸ hq,fun h=>⟨p,h,rfl⟩⟩
 simp [this]
theorem put_key {w:World}{p:RR}{kvs:List (List DK×D)}{fi:Rho→Res D}{fv:Rho→Res D}{ρ:Rho} (o:OkR p) (hl:kvs.length≤100) (hv:fv ρ=.ok (.bl true)) (hi:fi ρ=.ok (rT p)) (hg:getN ρ 1=.ok (hashW w,kvs)) :
  fPutN w 1 fi fv ρ=.nx (ρ.set 1 (some (.own (.n (hashW w) (putN kvs (keyR p) (.bl true)))))):=by
 unfold fPutN
 rw [hv,go_ok,hg,go_ok,hi,go_ok,u9d o,go_ok,if_pos ⟨rfl,Nat.lt_of_le_of_lt hl (by decide)⟩]
theorem v3B {p:RR}{rs:List RR}{kvs:List (List DK×D)}{d:D} (e:kvs.map (·.1)=rs.map keyR) (n:¬ p∈rs):(putN kvs (keyR p) d).map (·.1)=(rs++[p]).map keyR:=by
 unfold putN
 have:¬ keyR p∈kvs.map (·.1):=by
  rw [e,List.mem_map]
  exact fun ⟨q,hq,z⟩=>n (u9e z ▸ hq)
 rw [if_neg this,List.map_append,List.map_append,e]
 rfl
def S1 (ds:List D) (k:Nat) (rs:List RR) (rest:List D) (ρ:Rho):Prop:=k=rs.length∧ds=rs.map rT++rest∧(∀ p∈rs,OkR p)∧∃ x y,ρ=[some (.val (.lst ds)),x,y]
def S2 (w:World) (ds:List D) (k:Nat) (rs:List RR) (rest:List D) (ρ:Rho):Prop:=k=rs.length∧ds=rs.map rT++rest∧(∀ p∈rs,OkR p)∧∃ kvs x y,ρ=[some (.val (.lst ds)),some (.own (.n (hashW w) kvs)),x,y]∧kvs.map (·.1)=rs.map keyR
def Q2 (A:Adr) (u:Due) (o:Out):Prop:=outR o=u.toR A
theorem v3o {rs:List RR}{p:RR} (hr:∀ p∈rs,OkR p) (o:OkR p):∀ q∈rs++[p],OkR q:=fun q hq=>by
 rcases List.mem_append.mp hq with h | h
 ·exact hr q h
 ·rw [List.mem_singleton.mp h];exact o
@[simp] theorem items_lst (ds:List D):items (.lst ds)=.ok ds:=rfl
@[simp] theorem items_tup (ds:List D):items (.tup ds)=.ok ds:=rfl
theorem u7I:∀ {hs:List Str},(∀ b∈hs,goodS b=true)→cmpDs (hs.map D.str)=.ok (hs.map PyData.str)
 | [],_=>rfl
 | z::hs,h=>by
  have h1:=h z List.mem_cons_self
  simp [goodS] at h1
  simp [cmpDs,u1S h1.1,u7I fun b hb=>h b (List.mem_cons_of_mem _ hb)]
theorem v1R {z:Str}{hs:List Str} (g:goodS z=true) (gs:∀ b∈hs,goodS b=true) (neg:Bool):inD (.str z) (hs.map D.str) neg=.ok (.bl (if neg=true then !decide (z∈hs) else decide (z∈hs))):=by
 simp [goodS] at g
 have e:((hs.map PyData.str).any fun b=>PyData.eqv b (.str z))=decide (z∈hs):=by
  rw [List.any_map,Bool.eq_iff_iff,List.any_eq_true,decide_eq_true_eq]
  constructor
  ·rintro ⟨q,hq,e⟩
   simp only [Function.comp,u3b,beq_iff_eq] at e
   rw [← e];exact hq
  ·intro h
   exact ⟨z,h,by simp only [Function.comp,u3b,beq_iff_eq]⟩
 simp only [inD,u1S g.1,u7I gs,Res.bind_ok,e]
theorem u1B {z:Str}{hs:List Str} (g:goodS z=true) (gs:∀ b∈hs,goodS b=true):dNotIn (.str z) (.lst (hs.map D.str))=.ok (.bl (!decide (z∈hs))):=by
 rw [show dNotIn (.str z) (.lst (hs.map D.str))=inD (.str z) (hs.map D.str) true from u5f true _ _,v1R g gs]
 rfl
noncomputable def hsOf (rs:List RR):List Str:=rs.map (·.1)
noncomputable def headsL (rs:List RR):List Str:=sortT (setOfT (hsOf rs))
noncomputable def addSg (ss:List Str) (b:Str):List Str:=if sgnS b=true then addT ss b else ss
noncomputable def sgL (ss:List Str) (rs:List RR):List Str:=rs.foldl (fun ss p=>p.2.foldl addSg ss) ss
noncomputable def fstUnk (hs:List Str) (bs:List Str):Option Str:=bs.find? fun b=>hdS b&&!decide (b∈hs)
noncomputable def goKn (hs:List Str):Unit→List RR→Due
 | _,[]=>.fine
 | _,p::rs=>match fstUnk hs p.2 with
  | some b=>.head b
  | none=>goKn hs () rs
noncomputable def dueFew (rs:List RR):Due:=if (setOfT (hsOf rs)).length > 8 then .many (setOfT (hsOf rs)).length else if (sgL [] rs).length > 10 then .many (sgL [] rs).length else .fine
noncomputable def Due.or:Due→Due→Due
 | .fine,u=>u
 | u,_=>u
noncomputable def dueHeads (rs:List RR):Due:=(goKn (headsL rs) () rs).or (dueFew rs)
theorem u2y {rs:List RR} (h:∀ p∈rs,OkR p):∀ b∈headsL rs,goodS b=true:=fun b hb=>by
 obtain ⟨p,hp,rfl⟩:=List.mem_map.mp (u1U.mp (u1C.mp hb))
 exact (h p hp).gh
noncomputable def hd1:D→D
 | .tup (.str h::_)=>.str h
 | _=>.non
theorem v1V (rs:List RR):((rs.map rT).map hd1)=(hsOf rs).map D.str:=by
 unfold hsOf
 rw [List.map_map,List.map_map]
 rfl
@[simp] theorem u9n {ss:List Str} (h:ss.length<64):gSS (.lst (ss.map D.str))=.ok (.lst ((sortT (setOfT ss)).map D.str)):=by
 show (match strsOf (ss.map D.str) with | some ss=>gd (ss.length<64) (Res.ok (D.lst ((sortT (setOfT ss)).map D.str))) | none=>.bad)=_
 rw [u2t]
 simp [h]
theorem u8w (z b:Str):eqK (.str z) (.inr b)=decide (z=b):=by
 have:=u5J (.inr z) (.inr b)
 rw [show kD (.inr z)=D.str z from rfl] at this
 rw [this]
 by_cases c:z=b <;> simp [c]
theorem u8H {b:Str}:∀ {ps:List (D×D)}{ss:List Str},ps.map (·.1)=ss.map D.str→ps.any (fun p=>eqK p.1 (.inr b))=decide (b∈ss)
 | [],[],_=>rfl
 | [],_::_,e=>by cases e
 | _::_,[],e=>by cases e
 | (k,d)::ps,z::ss,e=>by
  simp only [List.map_cons,List.cons.injEq] at e
  rw [List.any_cons,u8H e.2,e.1,u8w]
  by_cases c:z=b
  ·subst c;simp
  ·have c':¬ b=z:=fun h=>c h.symm
   simp [c,c']
theorem u4S {ps:List (D×D)}{ss:List Str}{b:Str}{d:D} (e:ps.map (·.1)=ss.map D.str):(putD ps (.inr b) d).map (·.1)=(addT ss b).map D.str:=by
 unfold putD addT
 rw [u8H e]
 by_cases c:b∈ss
 ·rw [if_pos (by simpa using c),if_pos c,← e,List.map_map]
  refine List.map_congr_left fun p _=>?_
  simp only [Function.comp]
  split <;> rfl
 ·rw [if_neg (by simpa using c),if_neg c,List.map_append,List.map_append,e]
  rfl
theorem u3D:∀ {ps:List (D×D)}{ss:List Str},ps.map (·.1)=ss.map D.str→keyStrs ps=some ss
 | [],[],_=>rfl
 | [],_::_,e=>by cases e
 | _::_,[],e=>by cases e
 | (k,d)::ps,z::ss,e=>by
  simp only [List.map_cons,List.cons.injEq] at e
  obtain ⟨rfl,e⟩:=e
  simp [keyStrs,u3D e]
theorem val_key {b:Str}{ps:List (D×D)}{ss:List Str} (e:ps.map (·.1)=ss.map D.str):(valD ps (.inr b)).isSome=decide (b∈ss):=by
 rw [← u8H e]
 unfold valD
 rw [Option.isSome_map]
 clear e
 induction ps with
 | nil=>rfl
 | cons p ps ih =>
  rw [List.find?_cons,List.any_cons]
  cases q:eqK p.1 (.inr b)
  ·simpa using ih
  ·rfl
theorem v3Y {P:Str→Prop}{ss:List Str}{b:Str} (h:∀ z∈ss,P z) (hb:P b):∀ z∈addT ss b,P z:=fun z hz=>by
 unfold addT at hz
 split at hz
 ·exact h z hz
 ·rcases List.mem_append.mp hz with q | q
  ·exact h z q
  ·rw [List.mem_singleton.mp q];exact hb
theorem v2H {P:Str→Prop}{ss:List Str}{b:Str} (h:∀ z∈ss,P z) (hb:sgnS b=true→P b):∀ z∈addSg ss b,P z:=by
 unfold addSg
 by_cases c:sgnS b=true
 ·rw [if_pos c];exact v3Y h (hb c)
 ·rw [if_neg c];exact h
theorem u9p {P:Str→Prop}:∀ {bs ss:List Str},(∀ z∈ss,P z)→(∀ b∈bs,sgnS b=true→P b)→∀ z∈bs.foldl addSg ss,P z
 | [],_,h,_=>h
 | b::bs,ss,h,hb=>u9p (bs:=bs) (v2H h (hb b List.mem_cons_self)) fun x hx=>hb x (List.mem_cons_of_mem _ hx)
theorem u3u {P:Str→Prop}:∀ {rs:List RR}{ss:List Str},(∀ z∈ss,P z)→(∀ p∈rs,∀ b∈p.2,sgnS b=true→P b)→∀ z∈sgL ss rs,P z
 | [],_,h,_=>h
 | p::rs,ss,h,hb=>u3u (rs:=rs) (u9p h (hb p List.mem_cons_self)) fun q hq=>hb q (List.mem_cons_of_mem _ hq)
theorem u8L:∀ {rs:List RR}{ss:List Str},ss.Nodup→(sgL ss rs).Nodup
 | [],_,h=>h
 | p::rs,ss,h=>u8L (rs:=rs) (by
  show (p.2.foldl addSg ss).Nodup
  have:∀ (bs ss:List Str),ss.Nodup→(bs.foldl addSg ss).Nodup:=by
   intro bs
   induction bs with
   | nil=>intro ss h;exact h
   | cons b bs ih =>
    intro ss h
    refine ih _ ?_
    unfold addSg
    split
    ·exact u5N h
    ·exact h
  exact this _ _ h)
theorem v0S {ss pool:List Str} (nd:ss.Nodup) (h:∀ z∈ss,z∈pool):ss.length≤pool.length:=by
 induction ss generalizing pool with
 | nil=>simp
 | cons z ss ih =>
  obtain ⟨h1,h2⟩:=List.nodup_cons.mp nd
  have hz:=h z List.mem_cons_self
  have:=ih (pool:=pool.erase z) h2 fun y hy=>(List.mem_erase_of_ne (fun e:y=z=>h1 (e ▸ hy))).mpr (h y (List.mem_cons_of_mem _ hy))
  rw [List.length_erase_of_mem hz] at this
  have:0<pool.length:=List.length_pos_of_mem hz
  simp only [List.length_cons]
  omega
structure Few (rs:List RR):Prop where
 ok:∀ p∈rs,OkR p
 n:rs.length≤20
 s:(sgL [] rs).length<64
def Ssg (ds:D) (ss:List Str) (rs:List RR) (ρ:Rho):Prop:=(∀ p∈rs,OkR p)∧ss.length+4*rs.length≤200∧∃ kvs x y,ρ=[some (.val ds),some (.own (.d kvs)),x,y]∧kvs.map (·.1)=ss.map D.str
def Qsg (ds:D) (ss:List Str) (o:Out):Prop:=∃ kvs x y,o=.nx [some (.val ds),some (.own (.d kvs)),x,y]∧kvs.map (·.1)=ss.map D.str
def Ssi (ds:D) (r:Option Sl) (ss:List Str) (bs:List Str) (ρ:Rho):Prop:=(∀ b∈bs,goodS b=true)∧ss.length+bs.length≤200∧∃ kvs y,ρ=[some (.val ds),some (.own (.d kvs)),r,y]∧kvs.map (·.1)=ss.map D.str
def Skn (ds hs:D) (_:Unit) (rs:List RR) (ρ:Rho):Prop:=(∀ p∈rs,OkR p)∧∃ x y,ρ=[some (.val ds),some (.val hs),x,y]
def Ski (ds hs:D) (r:Option Sl) (_:Unit) (bs:List Str) (ρ:Rho):Prop:=(∀ b∈bs,goodS b=true)∧∃ y,ρ=[some (.val ds),some (.val hs),r,y]
def Qki (A:Adr) (ds hs:D) (u:Option Str) (o:Out):Prop:=match u with
 | none=>∃ x y,o=.nx [some (.val ds),some (.val hs),x,y]
 | some b=>∃ ρ,o=.er (.exc A.NoHead [("head",.str b)]) ρ
theorem u6o (hs:List Str) (b:Str) (bs:List Str):fstUnk hs (b::bs)=if (hdS b&&!decide (b∈hs))=true then some b else fstUnk hs bs:=by
 unfold fstUnk
 rw [List.find?_cons]
 cases (hdS b&&!decide (b∈hs)) <;> rfl
theorem u2s (ss:List Str) (b:Str):(addSg ss b).length≤ss.length+1:=by
 unfold addSg
 split
 ·exact u9H ss b
 ·omega
theorem u3I:∀ (bs ss:List Str),(bs.foldl addSg ss).length≤ss.length+bs.length
 | [],ss=>by simp
 | b::bs,ss=>by
  have:=u3I bs (addSg ss b)
  have:=u2s ss b
  simp only [List.foldl_cons,List.length_cons]
  omega
theorem v1i {b:Str}{kvs:List (D×D)}{ss:List Str}{fi fv:Rho→Res D}{ρ:Rho} (hl:kvs.length≤1000) (hv:fv ρ=.ok (.bl true)) (hi:fi ρ=.ok (.str b)) (hg:getD' ρ 1=.ok kvs) :
  fPutD 1 fi fv ρ=.nx (ρ.set 1 (some (.own (.d (putD kvs (.inr b) (.bl true)))))):=by
 unfold fPutD
 rw [hv,go_ok,hg,go_ok,hi,go_ok,show keyK (.str b)=.ok (.inr b) from rfl,go_ok,if_pos (Nat.lt_of_le_of_lt hl (by decide))]
theorem u5V {G_is_rule:FD} (c_is_rule:Callee P w K mg base 5 "is_rule" ["thing"] (spF K G_is_rule)) (x_NoRule:XCalleeF P w K mg base 1 "NoRule" A.NoRule ["self","found"] ["found"]) (x_TooMany:XCalleeF P w K mg base 1 "TooMany" A.TooMany ["self","found"] ["found"]) (x_Doubled:XCalleeF P w K mg base 1 "Doubled" A.Doubled ["self","number"] ["number"]) (p_is_rule:P1 ruleD G_is_rule) (F:Fun K "need_rules" "need_rules" u2k f fd) (T:Txt K mg A):∃ G,FnOk P w K mg base (CXe P w) 6 f fd ["rules"] (spX K G)∧∀ d,goodD d=true→G [d]=(dueRules d).toR A:=by
 refine ⟨_,F.okTX (k:=5) u1t (fun cdv Ar outer s H E hr hq=>u0d (u0z (u1s (u1e (d_B u1T T.z_isinstance (by decide +kernel) (u0a (dv 0) (u0a (d_ty T.z_list (T:="list") (by decide +kernel)) u0b))))) (u0e (u0L hq rfl x_NoRule hr (u0a (dv 0) u0b))) u0s)
  (u0d (u0z (u1s (u6t o_le o_le u0c (d_B u0T T.z_len (by decide +kernel) (u0a (dv 0) u0b)) (u5d T.g_MOST_RULES))) (u0e (u0L hq rfl x_TooMany hr (u0a (d_B u0T T.z_len (by decide +kernel) (u0a (dv 0) u0b)) u0b))) u0s)
  (u0d (u1K u1t.nd dn_newW)
  (u0e (u0G rfl (u6v T.z_enumerate (u0a (dv 0) u0b)) (u1Y (n:=2) rfl (u0o (dg_n u1t.nd) (u0o (dg_n u1t.nd) u1k)))
  (u0d (u0z (u1s (u1e (d_fn c_is_rule hr (u0a (dv 3) u0b)))) (u0e (u0L hq rfl x_NoRule hr (u0a (dv 3) u0b))) u0s)
   (u0d (u0z (u0q (o_inW (hu200 hr)) (dv 3) (dv 1)) (u0e (u0L hq rfl x_Doubled hr (u0a (dv 2) u0b))) u0s)
   (u0e (ds_putW 1 (hu200 hr) (dv 3) d_bl)))) hq.ps))))),?_⟩
 intro d h
 simp [runX,startD,a_lst (u0J h)]
 cases d with
 | lst ds =>
  have g:=u6j h
  by_cases c0:1≤ds.length
  ·have c0':(1:Int)≤ds.length:=by omega
   by_cases c:ds.length≤20
   ·have c':(ds.length:Int)≤20:=by omega
    simp [isLstD,dueRules,c,c',c0,c0']
    rw [show enum1 [.lst ds]=.ok (enumL ds) from rfl,go_ok]
    refine u5G (S2 w ds) goRules (Q2 A) ?_ ?_ ds 0 [] _ ⟨rfl,rfl,fun p hp=>(nomatch hp),[],none,none,rfl,rfl⟩
    ·rintro k rs ρ ⟨_,_,_,kvs,x,y,rfl,_⟩
     simp [Q2,goRules,Due.toR]
    ·rintro k rs d rest ρ ⟨rfl,e,hr,kvs,x,y,rfl,ek⟩
     have gd':=g d (by rw [e];simp)
     refine ⟨_,rfl,?_⟩
     simp [p_is_rule d gd']
     by_cases cr:ruleD d=true
     ·obtain ⟨p,ep,rfl⟩:=u3g cr
      have o:=v4i cr gd'
      have hl:kvs.length=rs.length:=by have:=congrArg List.length ek;simpa using this
      have hl2:rs.length≤20:=by have:=congrArg List.length e;simp at this;omega
      simp [cr,OD.toD,in_keys (w:=w) o ek]
      by_cases cp:p∈rs
      ·simp [cp]
       exact u2F (by simp [Q2,goRules,ep,cp,Due.toR])
      ·simp only [cp,if_false,Out.then_nx]
       rw [put_key (w:=w) (kvs:=kvs) o (by omega) rfl rfl rfl]
       exact u1r (rs++[p]) ⟨by simp,by rw [e];simp,v3o hr o,_,_,_,rfl,v3B ek cp⟩ (by simp [goRules,ep,cp])
     ·simp [cr]
      exact u2F (by simp [Q2,goRules,u5i (by simpa using cr),Due.toR])
   ·have c':¬ (ds.length:Int)≤20:=by omega
    simp [isLstD,dueRules,c,c',c0,c0',Due.toR]
  ·have c0':¬ (1:Int)≤ds.length:=by omega
   simp [isLstD,dueRules,c0,c0',Due.toR]
 | _=>simp [isLstD,dueRules,Due.toR]
theorem u8o (F:Fun K "heads_in" "heads_in" u1A f fd) (T:Txt K mg A):∃ G,FnOk P w K mg base CX0 1 f fd ["rules"] (spF K G)∧∀ rs:List RR,rs.length<64→G [.lst (rs.map rT)]=.ok (.lst ((headsL rs).map D.str)):=by
 refine ⟨_,F.okT (k:=0) u4u (fun cdv Ar outer s H E hr=>u0e (u0i (v2p rfl T.z_sorted T.z_set (u0a (DN.de (u1f ["rule"] [] rfl (u0v (sc:=defScope u1A) (N:=["rules"]) (by decide +kernel)) (u0E (dv 0)) (dg_n (show (["rule"]:List Str).Nodup by decide +kernel)) u1Z (d_ix x_ix (dv 0) u0c))) u0b)))),?_⟩
 intro rs hl
 simp [runT,startD]
 rw [u0S (u0I (by omega)),u0K hd1 (fun d hd=>?_)]
 ·simp only [v1V,Res.bind_ok,v2L,one1]
  rw [u9n (by simpa [hsOf] using hl)]
  simp [headsL]
 ·obtain ⟨p,_,rfl⟩:=List.mem_map.mp hd
  exact ⟨_,rfl,rfl,by simp [rhoC,rT,ix_0,hd1]⟩
theorem u8i {G_is_sign:FD} (c_is_sign:Callee P w K mg base 2 "is_sign" ["thing"] (spF K G_is_sign)) (p_is_sign:P1 sgnD G_is_sign) (F:Fun K "signs_in" "signs_in" u2u f fd) (T:Txt K mg A):∃ G,FnOk P w K mg base CX0 3 f fd ["rules"] (spF K G)∧∀ rs:List RR,Few rs→G [.lst (rs.map rT)]=.ok (.lst ((sortT (sgL [] rs)).map D.str)):=by
 refine ⟨_,F.okT (k:=2) u0M (fun cdv Ar outer s H E hr=>u0d (u1K u0M.nd u7F)
  (u0d (u0G rfl (u0E (dv 0)) (dg_n u0M.nd)
  (u0e (u0G rfl (u0E (d_ix x_ix (dv 2) u0c)) (dg_n u0M.nd)
   (u0e (u0z (u1e (d_fn c_is_sign hr (u0a (dv 3) u0b))) (u0e (u8x 1 (hu200 hr) (dv 3) d_bl)) u0s)))))
  (u0e (u0i (d_B (c_sortD rfl) T.z_sorted (by decide +kernel) (u0a (dv 1) u0b)))))),?_⟩
 intro rs fw
 simp [runT,startD]
 have key:∀ o,Qsg (.lst (rs.map rT)) (sgL [] rs) o→noE (outR (o.andThen fun ρ=>(((getV (frz ρ) 1).bind fun d=>Res.ok [d]).bind fun ds=>noE (gSD ds)).go ρ fun d=>Out.rt d))=.ok (.lst ((sortT (sgL [] rs)).map D.str)):=by
  rintro o ⟨kvs,x,y,rfl,ek⟩
  have e:gSD [.dct kvs]=.ok (.lst ((sortT (sgL [] rs)).map D.str)):=by
   show (match keyStrs kvs with | some ss=>gd (ss.length<64∧∀ z∈ss,z.length≤sizeLine) (Res.ok (D.lst ((sortT ss).map D.str))) | none=>.bad)=_
   rw [u3D ek]
   simp only
   refine u0S ⟨fw.s,fun z hz=>?_⟩
   have:=u3u (P:=fun z=>goodS z=true) (ss:=[]) (rs:=rs) (fun z h=>(nomatch h)) (fun p hp b hb _=>(fw.ok p hp).gs b hb) z hz
   simp [goodS] at this
   exact u0I this.2
  simp [OD.toD,e]
 apply key
 refine u0Q rT (Ssg (.lst (rs.map rT))) sgL (Qsg _) ?_ ?_ rs [] _ ⟨fw.ok,by have:=fw.n;simp;omega,[],none,none,rfl,rfl⟩
 ·rintro ss ρ ⟨_,_,kvs,x,y,rfl,ek⟩
  exact ⟨kvs,x,y,rfl,ek⟩
 ·rintro ss p ps ρ ⟨ok,hl,kvs,x,y,rfl,ek⟩
  have op:=ok p List.mem_cons_self
  refine ⟨_,rfl,?_⟩
  simp [rT,ix_1]
  generalize hI:forD _ _ _ _=o
  have q:Qsg (.lst (rs.map rT)) (p.2.foldl addSg ss) o:=by
   rw [← hI]
   refine u0Q D.str (Ssi (.lst (rs.map rT)) (some (.val (rT p)))) (fun ss bs=>bs.foldl addSg ss) (Qsg _) ?_ ?_ p.2 ss _ ⟨op.gs,by have:=op.l;simp at hl;omega,kvs,y,rfl,ek⟩
   ·rintro ss ρ ⟨_,_,kvs,y,rfl,ek⟩
    exact ⟨kvs,_,y,rfl,ek⟩
   ·rintro ss b bs ρ ⟨gs,hl,kvs,y,rfl,ek⟩
    have hk:kvs.length=ss.length:=by have:=congrArg List.length ek;simpa using this
    refine ⟨_,rfl,?_⟩
    simp [p_is_sign (.str b) (by simpa [goodD] using gs b List.mem_cons_self),sgnD]
    by_cases c:sgnS b=true
    ·simp only [c,if_true]
     rw [v1i (ss:=ss) (kvs:=kvs) (b:=b) (by simp at hl;omega) rfl rfl rfl]
     exact u1r (addSg ss b) ⟨fun z hz=>gs z (List.mem_cons_of_mem _ hz),by have:=u2s ss b;simp at hl;omega,_,_,rfl,by unfold addSg;rw [if_pos c];exact u4S ek⟩ rfl
    ·simp only [c]
     exact u1r (addSg ss b) ⟨fun z hz=>gs z (List.mem_cons_of_mem _ hz),by have:=u2s ss b;simp at hl;omega,_,_,rfl,by unfold addSg;rw [if_neg c];exact ek⟩ rfl
  obtain ⟨kvs',x',y',rfl,ek'⟩:=q
  exact u1r (p.2.foldl addSg ss) ⟨fun z hz=>ok z (List.mem_cons_of_mem _ hz),by have:=u3I p.2 ss;have:=op.l;simp at hl;omega,_,_,_,rfl,ek'⟩ rfl
theorem u2V {G_heads_in:FD} (c_heads_in:Callee P w K mg base 1 "heads_in" ["rules"] (spF K G_heads_in)) {G_is_head:FD} (c_is_head:Callee P w K mg base 2 "is_head" ["thing"] (spF K G_is_head)) (x_NoHead:XCalleeF P w K mg base 1 "NoHead" A.NoHead ["self","head"] ["head"]) (p_is_head:P1 hdD G_is_head) (p_heads:∀ rs:List RR,rs.length<64→G_heads_in [.lst (rs.map rT)]=.ok (.lst ((headsL rs).map D.str))) (F:Fun K "need_known_heads" "need_known_heads" u0Z f fd) (T:Txt K mg A):∃ G,FnOk P w K mg base (CXe P w) 3 f fd ["rules"] (spX K G)∧∀ rs:List RR,(∀ p∈rs,OkR p)→rs.length<64→G [.lst (rs.map rT)]=(goKn (headsL rs) () rs).toR A:=by
 refine ⟨_,F.okTX (k:=2) u0H (fun cdv Ar outer s H E hr hq=>u0d (ds_n u0H.nd (d_fn c_heads_in hr (u0a (dv 0) u0b)))
  (u0e (u0G rfl (u0E (dv 0)) (dg_n u0H.nd)
  (u0e (u0G rfl (u0E (d_ix x_ix (dv 2) u0c)) (dg_n u0H.nd)
   (u0e (u0z (dt_w (u9u (u1e (d_fn c_is_head hr (u0a (dv 3) u0b))) (u6s (u0q (u4K (hu100 hr)) (dv 3) (dv 1))))) (u0e (u0L hq rfl x_NoHead hr (u0a (dv 3) u0b))) u0s)) hq.ps)) hq.ps))),?_⟩
 intro rs ok hl
 simp [runX,startD,p_heads rs hl]
 refine u0Q rT (Skn (.lst (rs.map rT)) (.lst ((headsL rs).map D.str))) (goKn (headsL rs)) (Q2 A) ?_ ?_ rs () _ ⟨ok,none,none,rfl⟩
 ·rintro _ ρ ⟨_,x,y,rfl⟩
  simp [Q2,goKn,Due.toR]
 ·rintro _ p ps ρ ⟨okp,x,y,rfl⟩
  have op:=okp p List.mem_cons_self
  refine ⟨_,rfl,?_⟩
  simp [rT,ix_1]
  generalize hI:forD _ _ _ _=o
  have q:Qki A (.lst (rs.map rT)) (.lst ((headsL rs).map D.str)) (fstUnk (headsL rs) p.2) o:=by
   rw [← hI]
   refine u0Q D.str (Ski (.lst (rs.map rT)) (.lst ((headsL rs).map D.str)) (some (.val (rT p)))) (fun _ bs=>fstUnk (headsL rs) bs) (Qki A _ _) ?_ ?_ p.2 () _ ⟨op.gs,y,rfl⟩
   ·rintro _ ρ ⟨_,y,rfl⟩
    exact ⟨_,y,rfl⟩
   ·rintro _ b bs ρ ⟨gs,y,rfl⟩
    have gb:=gs b List.mem_cons_self
    refine ⟨_,rfl,?_⟩
    simp [p_is_head (.str b) (by simpa [goodD] using gb),hdD]
    by_cases c:hdS b=true
    ·simp [c,u1B gb (u2y ok)]
     by_cases k:b∈headsL rs
     ·simp [k]
      exact u1r () ⟨fun z hz=>gs z (List.mem_cons_of_mem _ hz),_,rfl⟩ (by simp [u6o,k])
     ·simp [k]
      exact u2F (by simp only [u6o,c,k];exact ⟨_,rfl⟩)
    ·simp [c]
     exact u1r () ⟨fun z hz=>gs z (List.mem_cons_of_mem _ hz),_,rfl⟩ (by simp [u6o,c])
  cases u:fstUnk (headsL rs) p.2 with
  | none =>
   rw [u] at q
   obtain ⟨x',y',rfl⟩:=q
   exact u1r () ⟨fun z hz=>okp z (List.mem_cons_of_mem _ hz),_,_,rfl⟩ (by simp [goKn,u])
  | some b =>
   rw [u] at q
   obtain ⟨ρ',rfl⟩:=q
   exact u2F (by simp [Q2,goKn,u,Due.toR])
theorem u2W {G_heads_in:FD} (c_heads_in:Callee P w K mg base 1 "heads_in" ["rules"] (spF K G_heads_in)) {G_signs_in:FD} (c_signs_in:Callee P w K mg base 3 "signs_in" ["rules"] (spF K G_signs_in)) (x_TooMany:XCalleeF P w K mg base 1 "TooMany" A.TooMany ["self","found"] ["found"]) (p_heads:∀ rs:List RR,rs.length<64→G_heads_in [.lst (rs.map rT)]=.ok (.lst ((headsL rs).map D.str))) (p_signs:∀ rs:List RR,Few rs→G_signs_in [.lst (rs.map rT)]=.ok (.lst ((sortT (sgL [] rs)).map D.str))) (F:Fun K "need_few_symbols" "need_few_symbols" u1a f fd) (T:Txt K mg A):∃ G,FnOk P w K mg base (CXe P w) 4 f fd ["rules"] (spX K G)∧∀ rs:List RR,Few rs→G [.lst (rs.map rT)]=(dueFew rs).toR A:=by
 refine ⟨_,F.okTX (k:=3) u0V (fun cdv Ar outer s H E hr hq=>u0d (ds_n u0V.nd (d_fn c_heads_in hr (u0a (dv 0) u0b)))
  (u0d (u0z (u0q o_gt (d_B u0T T.z_len (by decide +kernel) (u0a (dv 1) u0b)) (u5d T.g_MOST_HEADS)) (u0e (u0L hq rfl x_TooMany hr (u0a (d_B u0T T.z_len (by decide +kernel) (u0a (dv 1) u0b)) u0b))) u0s)
  (u0d (ds_n u0V.nd (d_fn c_signs_in hr (u0a (dv 0) u0b)))
  (u0e (u0z (u0q o_gt (d_B u0T T.z_len (by decide +kernel) (u0a (dv 2) u0b)) (u5d T.g_MOST_SIGNS)) (u0e (u0L hq rfl x_TooMany hr (u0a (d_B u0T T.z_len (by decide +kernel) (u0a (dv 2) u0b)) u0b))) u0s))))),?_⟩
 intro rs fw
 have n:=fw.n
 simp [runX,startD,p_heads rs (by omega),headsL,u1D]
 unfold dueFew
 by_cases c:(setOfT (hsOf rs)).length > 8
 ·have c':(8:Int)<(setOfT (hsOf rs)).length:=by omega
  simp [c,c',u1D,Due.toR]
 ·have c':¬ (8:Int)<(setOfT (hsOf rs)).length:=by omega
  simp [c,c',p_signs rs fw,u1D]
  by_cases k:(sgL [] rs).length > 10
  ·have k':(10:Int)<(sgL [] rs).length:=by omega
   simp [k,k',u1D,Due.toR]
  ·have k':¬ (10:Int)<(sgL [] rs).length:=by omega
   simp [k,k',Due.toR]
noncomputable def asRank (d:D):Option (List Str):=match d with
 | .tup [.str _,.tup bs]=>if rankD d=true then strsOf bs else none
 | _=>none
theorem u6M:∀ {ds:List D},ds.all sgnD=true→∃ ss,strsOf ds=some ss
 | [],_=>⟨[],rfl⟩
 | d::ds,h=>by
  rw [List.all_cons,Bool.and_eq_true] at h
  obtain ⟨ss,e⟩:=u6M h.2
  cases d with
  | str z=>exact ⟨z::ss,by simp [strsOf,e]⟩
  | _=>simp [sgnD] at h
theorem u8G {d:D} (h:rankD d=false):asRank d=none:=by
 unfold asRank
 split
 ·rw [if_neg (by rw [h];exact Bool.false_ne_true)]
 ·rfl
theorem u8F {d:D} (h:rankD d=true):∃ s ss,asRank d=some ss∧d=.tup [.str s,.tup (ss.map D.str)]∧ss.length≤10:=by
 cases d with
 | tup ds =>
  match ds,h with
  | [],h=>simp [rankD] at h
  | [_],h=>simp [rankD] at h
  | _::_::_::_,h=>simp [rankD] at h
  | [x,y],h =>
   have h0:=h
   simp [rankD] at h
   obtain ⟨h1,h2⟩:=h
   cases x with
   | str z =>
    cases y with
    | tup bs =>
     simp [rsgD] at h2
     obtain ⟨ss,e⟩:=u6M (List.all_eq_true.mpr h2.2.2)
     refine ⟨z,ss,?_,?_,?_⟩
     ·show (if rankD _=true then strsOf bs else none)=_
      rw [if_pos h0,e]
     ·rw [u3i e]
     ·have:=h2.2.1
      rw [u3i e,List.length_map] at this
      exact this
    | _=>simp [rsgD] at h2
   | _=>simp [sideD] at h1
 | _=>simp [rankD] at h
noncomputable def addAll (ks:List Str):List Str→Option (List Str)
 | []=>some ks
 | b::bs=>if b∈ks then none else addAll (ks++[b]) bs
noncomputable def goRk (ks:List Str):List D→Due
 | []=>.fine
 | d::ds=>match asRank d with
  | none=>.ranks d
  | some ss=>match addAll ks ss with
   | none=>.ranks d
   | some ks=>goRk ks ds
noncomputable def dueRanks:D→Due
 | .lst ds | .tup ds=>if ds.length > 6 then .many ds.length else goRk [] ds
 | d=>.ranks d
def Srk (ds:D) (ks:List Str) (rest:List D) (ρ:Rho):Prop:=(∀ d∈rest,goodD d=true)∧ks.length+10*rest.length≤100∧∃ kvs x y,ρ=[some (.val ds),some (.own (.d kvs)),x,y]∧kvs.map (·.1)=ks.map D.str
def Sri (ds:D) (r:Option Sl) (n:Nat) (ks:List Str) (bs:List Str) (ρ:Rho):Prop:=(ks.length+bs.length≤n∧n≤500)∧∃ kvs y,ρ=[some (.val ds),some (.own (.d kvs)),r,y]∧kvs.map (·.1)=ks.map D.str
def Qri (A:Adr) (ds d:D) (n:Nat) (u:Option (List Str)) (o:Out):Prop:=match u with
 | some ks=>ks.length≤n∧∃ kvs x y,o=.nx [some (.val ds),some (.own (.d kvs)),x,y]∧kvs.map (·.1)=ks.map D.str
 | none=>∃ ρ,o=.er (.exc A.NoRanks [("found",d)]) ρ
theorem in_dct {w:World}{b:Str}{kvs:List (D×D)}{ks:List Str} (e:kvs.map (·.1)=ks.map D.str):dInA w false (.str b) (.dct kvs)=.ok (.bl (decide (b∈ks))):=by
 rw [u9B,show keyK (.str b)=.ok (.inr b) from rfl,Res.bind_ok,val_key e]
 rfl
theorem add_not {ks:List Str}{b:Str} (h:¬ b∈ks):addT ks b=ks++[b]:=by unfold addT;rw [if_neg h]
theorem u5W {G_is_rank:FD} (c_is_rank:Callee P w K mg base 4 "is_rank" ["thing"] (spF K G_is_rank)) (x_NoRanks:XCalleeF P w K mg base 1 "NoRanks" A.NoRanks ["self","found"] ["found"]) (x_TooMany:XCalleeF P w K mg base 1 "TooMany" A.TooMany ["self","found"] ["found"]) (p_is_rank:P1 rankD G_is_rank) (F:Fun K "need_ranks" "need_ranks" u2l f fd) (T:Txt K mg A):∃ G,FnOk P w K mg base (CXe P w) 5 f fd ["ranks"] (spX K G)∧∀ d,goodD d=true→isLstD d=true→G [d]=(dueRanks d).toR A:=by
 refine ⟨_,F.okTX (k:=4) u1u (fun cdv Ar outer s H E hr hq=>u0d (u0z (u1s (u1e (d_B u1T T.z_isinstance (by decide +kernel) (u0a (dv 0) (u0a (u0f (u0a (d_ty T.z_list (T:="list") (by decide +kernel)) (u0a (d_ty T.z_tuple (T:="tuple") (by decide +kernel)) u0b))) u0b))))) (u0e (u0L hq rfl x_NoRanks hr (u0a (dv 0) u0b))) u0s)
  (u0d (u0z (u0q o_gt (d_B u0T T.z_len (by decide +kernel) (u0a (dv 0) u0b)) (u5d T.g_MOST_RANKS)) (u0e (u0L hq rfl x_TooMany hr (u0a (d_B u0T T.z_len (by decide +kernel) (u0a (dv 0) u0b)) u0b))) u0s)
  (u0d (u1K u1u.nd u7F)
  (u0e (u0G rfl (u0E (dv 0)) (dg_n u1u.nd)
  (u0d (u0z (u1s (u1e (d_fn c_is_rank hr (u0a (dv 2) u0b)))) (u0e (u0L hq rfl x_NoRanks hr (u0a (dv 2) u0b))) u0s)
   (u0e (u0G rfl (u0E (d_ix x_ix (dv 2) u0c)) (dg_n u1u.nd)
   (u0d (u0z (u0q (o_inW (hu200 hr)) (dv 3) (dv 1)) (u0e (u0L hq rfl x_NoRanks hr (u0a (dv 2) u0b))) u0s)
    (u0e (u8x 1 (hu200 hr) (dv 3) d_bl))) hq.ps))) hq.ps))))),?_⟩
 intro d h hl
 simp [runX,startD,a_lt (u0J h)]
 cases d with
 | lst ds =>
  have g:=u6j h
  by_cases c:ds.length > 6
  ·have c':(6:Int)<ds.length:=by omega
   simp [isLstD,isTupD,dueRanks,c,c',Due.toR]
  ·have c':¬ (6:Int)<ds.length:=by omega
   simp [isLstD,isTupD,dueRanks,c,c']
   rw [show ds=ds.map id from (List.map_id ds).symm]
   rw [show goRk [] (ds.map id)=goRk [] ds from by rw [List.map_id]]
   refine u0Q id (Srk (.lst (ds.map id))) goRk (Q2 A) ?_ ?_ ds [] _ ⟨g,by simp;omega,[],none,none,rfl,rfl⟩
   ·rintro ks ρ ⟨_,_,kvs,x,y,rfl,_⟩
    simp [Q2,goRk,Due.toR]
   ·rintro ks d rest ρ ⟨gr,hl,kvs,x,y,rfl,ek⟩
    have gd':=gr d List.mem_cons_self
    simp at hl
    refine ⟨_,rfl,?_⟩
    simp [p_is_rank d gd']
    by_cases cr:rankD d=true
    ·obtain ⟨s,ss,er,ed,hs⟩:=u8F cr
     subst ed
     simp [cr,ix_1]
     generalize hI:forD _ _ _ _=o
     have q:Qri A (.lst ds) (.tup [.str s,.tup (ss.map D.str)]) (ks.length+10) (addAll ks ss) o:=by
      rw [← hI]
      refine u0Q D.str (Sri (.lst ds) (some (.val (.tup [.str s,.tup (ss.map D.str)]))) (ks.length+10)) addAll (Qri A _ _ _) ?_ ?_ ss ks _ ⟨⟨by omega,by omega⟩,kvs,y,rfl,ek⟩
      ·rintro k ρ ⟨⟨h1,_⟩,kvs,y,rfl,ek⟩
       exact ⟨by simpa using h1,kvs,_,y,rfl,ek⟩
      ·rintro k b bs ρ ⟨⟨h1,h2⟩,kvs,y,rfl,ek⟩
       have hk:kvs.length=k.length:=by have:=congrArg List.length ek;simpa using this
       simp at h1
       refine ⟨_,rfl,?_⟩
       simp [OD.toD,in_dct (w:=w) ek]
       by_cases cb:b∈k
       ·simp [cb]
        exact u2F (by simp only [addAll,cb,if_true];exact ⟨_,rfl⟩)
       ·simp only [cb,if_false,Out.then_nx]
        rw [v1i (ss:=k) (kvs:=kvs) (b:=b) (by omega) rfl rfl rfl]
        exact u1r (k++[b]) ⟨⟨by simp;omega,h2⟩,_,_,rfl,by rw [← add_not cb];exact u4S ek⟩ (by simp [addAll,cb])
     cases u:addAll ks ss with
     | none =>
      rw [u] at q
      obtain ⟨ρ',rfl⟩:=q
      exact u2F (by simp [Q2,goRk,er,u,Due.toR])
     | some k =>
      rw [u] at q
      obtain ⟨hn,kvs',x',y',rfl,ek'⟩:=q
      refine u1r k ⟨fun z hz=>gr z (List.mem_cons_of_mem _ hz),by omega,kvs',x',y',by simp,ek'⟩ (by simp [goRk,er,u])
    ·simp [cr]
     exact u2F (by simp [Q2,goRk,u8G (by simpa using cr),Due.toR])
 | _=>simp [isLstD] at hl
noncomputable def rsOf:D→List RR
 | .lst ds=>ds.filterMap asRule
 | _=>[]
theorem u5h {d:D}{p:RR} (h:asRule d=some p):d=rT p∧ruleD d=true:=by
 cases q:ruleD d with
 | false=>rw [u5i q] at h;cases h
 | true =>
  obtain ⟨p',e,e2⟩:=u3g q
  rw [e] at h
  cases h
  exact ⟨e2,rfl⟩
theorem u3V:∀ {ds:List D}{rs:List RR},goRules rs ds=.fine→ds=(ds.filterMap asRule).map rT∧∀ d∈ds,ruleD d=true
 | [],_,_=>⟨rfl,fun d h=>(nomatch h)⟩
 | d::ds,rs,h=>by
  unfold goRules at h
  cases e:asRule d with
  | none=>rw [e] at h;cases h
  | some p =>
   rw [e] at h
   simp only at h
   split at h
   ·cases h
   ·obtain ⟨h1,h2⟩:=u3V h
    obtain ⟨e1,e2⟩:=u5h e
    refine ⟨?_,fun x hx=>?_⟩
    ·rw [List.filterMap_cons,e]
     simp only [List.map_cons]
     rw [← h1,← e1]
    ·rcases List.mem_cons.mp hx with rfl | hx
     ·exact e2
     ·exact h2 x hx
set_option tactic.hygienic true in
theorem u9v {d:D} (h:dueRules d=.fine) (g:goodD d=true):d=.lst ((rsOf d).map rT)∧1≤(rsOf d).length∧(rsOf d).length≤20∧∀ p∈rsOf d,OkR p:=by
 cases d with
 | lst ds =>
  simp only [dueRules] at h
  split at h
  ·rename_i c
   obtain ⟨h1,h2⟩:=u3V h
   have hl:(ds.filterMap asRule).length=ds.length:=by
    have:=congrArg List.length h1
    rw [List.length_map] at this
    exact this.symm
   refine ⟨congrArg D.lst h1,by rw [show rsOf (.lst ds)=ds.filterMap asRule from rfl,hl];exact c.1,by rw [show rsOf (.lst ds)=ds.filterMap asRule from rfl,hl];exact c.2,fun p hp=>?_⟩
   obtain ⟨d,hd,e⟩:=List.mem_filterMap.mp hp
   obtain ⟨e1,e2⟩:=u5h e
   subst e1
   exact v4i e2 (u6j g _ hd)
  ·cases h
 | _=>cases h
structure Hand (d:D):Prop where
 g:goodD d=true
 few:dueRules d=.fine→Few (rsOf d)
structure HandK (d:D):Prop where
 g:goodD d=true
 rk:∀ ds,(d=.lst ds∨d=.tup ds)→∀ x∈ds,rkOk x=true
noncomputable def dueAll (r k:D):Due:=(dueRules r).or ((dueHeads (rsOf r)).or (dueRanks k))
noncomputable def kindsD (d:D):D:=.lst [.bl (match d with | .bl _=>true | _=>false),.bl (match d with | .bl _=>true | .int _=>true | _=>false),.bl (isStrD d),.bl (isLstD d),.bl (isTupD d),.bl (match d with | .dct _=>true | _=>false)]
abbrev u1c:Stmt:=meth 40 0
theorem u5z:FnScope ["self","rules","ranks","told"] ["self","rules","ranks"] (defScope u1c):=.au
theorem ne_rr:Str.ofString "rules"≠Str.ofString "ranks":=by decide +kernel
theorem ne_rs:Str.ofString "rules"≠Str.ofString "start":=by decide +kernel
theorem ne_ks:Str.ofString "ranks"≠Str.ofString "start":=by decide +kernel
noncomputable def toldD:D→D
 | .non=>.tup []
 | d=>d
noncomputable def itemsD:D→List D
 | .lst ds=>ds
 | .tup ds=>ds
 | _=>[]
noncomputable def hd0 (r:D):Str:=match rsOf r with
 | p::_=>p.1
 | []=>""
noncomputable def gFlds (r k:D):List (Str×D):=[("rules",.tup (itemsD r)),("ranks",.tup (itemsD (toldD k))),("start",.str (hd0 r))]
open Classical in
noncomputable def gInit (A:Adr):List D→Res (List (Str×D))
 | [r,k]=>if Hand r∧HandK (toldD k)∧isLstD (toldD k)=true then ((dueAll r (toldD k)).toR A).bind fun _=>.ok (gFlds r k) else .bad
 | _=>.bad
theorem u8g {d:D} (h:dueRanks d=.fine):gTuple [d]=.ok (.tup (itemsD d)):=by
 cases d with
 | lst ds=>rfl
 | tup ds=>rfl
 | _=>cases h
theorem v0n {G_need_rules:FD} (c_need_rules:CalleeX P w K mg base 6 "need_rules" ["rules"] G_need_rules) {G_need_known_heads:FD} (c_need_known_heads:CalleeX P w K mg base 3 "need_known_heads" ["rules"] G_need_known_heads) {G_need_few_symbols:FD} (c_need_few_symbols:CalleeX P w K mg base 4 "need_few_symbols" ["rules"] G_need_few_symbols) {G_need_ranks:FD} (c_need_ranks:CalleeX P w K mg base 5 "need_ranks" ["ranks"] G_need_ranks) (p_nr:∀ d,goodD d=true→G_need_rules [d]=(dueRules d).toR A) (p_nk:∀ rs:List RR,(∀ p∈rs,OkR p)→rs.length<64→G_need_known_heads [.lst (rs.map rT)]=(goKn (headsL rs) () rs).toR A) (p_nf:∀ rs:List RR,Few rs→G_need_few_symbols [.lst (rs.map rT)]=(dueFew rs).toR A) (p_nn:∀ d,goodD d=true→isLstD d=true→G_need_ranks [d]=(dueRanks d).toR A) (F:FunD K "__init__" "Grammar.__init__" u1c f fd) (T:Txt K mg A):FnOk P w K mg base (CXe P w) 7 f fd ["self","rules","ranks"] (spInit K A.Grammar (gInit A)):=by
 refine F.okI (k:=6) u5z (fun ds h=>?_) (fun cdv Ar outer s H E hr hq=>⟨_,u0d (u3d (u8B hq c_need_rules hr (u0a (dv 1) u0b)))
  (u0d (u3d (u8B hq c_need_known_heads hr (u0a (dv 1) u0b)))
  (u0d (u3d (u8B hq c_need_few_symbols hr (u0a (dv 1) u0b)))
  (u0d (ds_n u5z.nd (d_ife (u0q o_is (dv 2) u3r) (u0f u0b) (dv 2)))
  (u0d (u3d (u8B hq c_need_ranks hr (u0a (dv 3) u0b)))
  (u0d (v2k 0 T.cls T.na_rules (d_T u2r T.z_tuple (by decide +kernel) (u0a (dv 1) u0b)))
  (u0d (v2k 0 T.cls T.na_ranks (d_T u2r T.z_tuple (by decide +kernel) (u0a (dv 3) u0b)))
  (u0e (v2k 0 T.cls T.na_start (d_ix x_ix (d_ix x_ix (d_fldO 0 T.cls (T.na_rules)) u0c) u0c))))))))),fun a ds h=>?_⟩)
 ·match ds,h with
  | [r,k],_=>rfl
  | [],h=>exact absurd rfl h
  | [_],h=>exact absurd rfl h
  | _::_::_::_,h=>exact absurd rfl h
 match ds,h with
 | [],h=>exact absurd rfl h
 | [_],h=>exact absurd rfl h
 | _::_::_::_,h=>exact absurd rfl h
 | [r,k],h =>
  have hh:Hand r∧HandK (toldD k)∧isLstD (toldD k)=true:=by
   refine Classical.byContradiction fun c=>h ?_
   exact if_neg c
  refine Eq.trans ?_ (if_pos hh).symm
  obtain ⟨hr,hk,hkl⟩:=hh
  have e4:=p_nn _ hk.g hkl
  have ek:(match isN k with | true=>(D.tup []) | false=>k)=toldD k:=by cases k <;> rfl
  simp [startI,startD,p_nr r hr.g]
  unfold dueAll
  cases e:dueRules r with
  | fine =>
   obtain ⟨e1,l1,l2,ok⟩:=u9v e hr.g
   have fw:=hr.few e
   have e2:=p_nk (rsOf r) ok (by omega)
   have e3:=p_nf (rsOf r) fw
   rw [← e1] at e2 e3
   have er:gTuple [r]=.ok (.tup (itemsD r)):=by rw [e1];rfl
   skip
   cases u:goKn (headsL (rsOf r)) () (rsOf r) with
   | fine =>
    rw [u] at e2
    cases v:dueFew (rsOf r) with
    | fine =>
     rw [v] at e3
     have go:∀ ρ:Rho,ρ[3]?=some (some (.val (toldD k)))→True:=fun _ _=>trivial
     cases x:dueRanks (toldD k) with
     | fine =>
      rw [x] at e4
      have ei:=u8g x
      have e5:(if isN k=true then Res.ok (D.tup []) else Res.ok k)=Res.ok (toldD k):=by cases k <;> rfl
      obtain ⟨p,ps,ep⟩:∃ p ps,rsOf r=p::ps:=by
       cases q:rsOf r with
       | nil=>rw [q] at l1;simp at l1
       | cons p ps=>exact ⟨p,ps,rfl⟩
      have i1:itemsD r=rT p::ps.map rT:=by
       rw [e1,ep];rfl
      have i2:dIx (.tup (itemsD r)) (.int 0)=.ok (rT p):=by rw [i1];exact ix_0 _ _
      have i3:dIx (rT p) (.int 0)=.ok (.str p.1):=ix_0 _ _
      have i4:hd0 r=p.1:=by unfold hd0;rw [ep]
      simp [Due.toR,Due.or,dIs,e2,e3,dueHeads,u,v,outI,e5,e4,er,ei,getI,putG,i2,i3,gFlds,i4,ne_rr,ne_rs,ne_ks,List.lookup]
     | _ =>
      rw [x] at e4
      cases k <;> simp [Due.toR,Due.or,dIs,isN,e2,e3,dueHeads,u,v,outI,e4,toldD] <;> (try (simp only [toldD] at e4;rw [e4];simp [Due.toR])) <;> done
    | _=>rw [v] at e3;simp [Due.toR,Due.or,dIs,e2,e3,dueHeads,u,v,outI]
   | _=>rw [u] at e2;simp [Due.toR,Due.or,dIs,e2,dueHeads,u,outI]
  | _=>simp [Due.toR,Due.or,outI,Res.bind,Res.go]
abbrev dN (n:Nat):D:=.int (n:Int)
theorem u1d {g:D→Rho→Res Rho}{tb:Rho→Out} (S:List D→Rho→Prop) (Q:Out→Prop) (nil:∀ ρ,S [] ρ→Q (.nx ρ))
  (cons:∀ d ds ρ,S (d::ds) ρ→∃ ρ1,g d ρ=.ok ρ1∧((∃ ρ2,tb ρ1=.nx ρ2∧S ds ρ2)∨∃ v,tb ρ1=.rt v∧Q (.rt v))):∀ ds ρ,S ds ρ→Q (forD g tb ds ρ)
 | [],ρ,h=>nil ρ h
 | d::ds,ρ,h=>by
  obtain ⟨ρ1,e,k⟩:=cons d ds ρ h
  simp only [forD,e,u5C,go_ok]
  rcases k with ⟨ρ2,k1,k2⟩ | ⟨v,k1,k2⟩
  ·rw [k1];exact u1d S Q nil cons ds ρ2 k2
  ·rw [k1];exact k2
theorem u7u (k m:Nat):intL (k:Int) (m+1)=dN k::intL ((k+1:Nat):Int) m:=by
 simp [intL,List.range_succ_eq_map,Function.comp_def,dN]
 intro a _
 omega
theorem u7x {g:D→Rho→Res Rho}{tb:Rho→Out} (n:Nat) (S:Nat→Rho→Prop) (Q:Out→Prop) (nil:∀ ρ,S n ρ→Q (.nx ρ))
  (cons:∀ k ρ,k<n→S k ρ→∃ ρ1,g (dN k) ρ=.ok ρ1∧((∃ ρ2,tb ρ1=.nx ρ2∧S (k+1) ρ2)∨∃ v,tb ρ1=.rt v∧Q (.rt v))):∀ m k ρ,k+m=n→S k ρ→Q (forD g tb (intL (k:Int) m) ρ)
 | 0,k,ρ,e,h=>by subst e;exact nil ρ h
 | m+1,k,ρ,e,h=>by
  rw [u7u]
  obtain ⟨ρ1,e1,z⟩:=cons k ρ (by omega) h
  simp only [forD,e1,u5C,go_ok]
  rcases z with ⟨ρ2,k1,k2⟩ | ⟨v,k1,k2⟩
  ·rw [k1];exact u7x n S Q nil cons m (k+1) ρ2 (by omega) k2
  ·rw [k1];exact k2
theorem u4p {g:D→Rho→Res Rho}{tb:Rho→Out}{n:Nat} (S:Nat→Rho→Prop) (Q:Out→Prop) {ρ:Rho} (h0:S 0 ρ) (nil:∀ ρ,S n ρ→Q (.nx ρ))
  (cons:∀ k ρ,k<n→S k ρ→∃ ρ1,g (dN k) ρ=.ok ρ1∧((∃ ρ2,tb ρ1=.nx ρ2∧S (k+1) ρ2)∨∃ v,tb ρ1=.rt v∧Q (.rt v))):Q (forD g tb (intL 0 n) ρ) :=
 u7x n S Q nil cons n 0 ρ (by omega) h0
theorem u4q {P:D→Prop}{g:D→Rho→Res Rho}{fT:Rho→Res Bool}{fe:Rho→Res D}{ρ:Rho}:∀ {ds:List D},(∀ d∈ds,∃ ρ1 y,g d ρ=.ok ρ1∧fT (frz ρ1)=.ok true∧fe ρ1=.ok y∧P y)→∃ ys,compD g fT fe ρ ds=.ok ys∧ys.length=ds.length∧∀ y∈ys,P y
 | [],_=>⟨[],rfl,rfl,fun y h=>(nomatch h)⟩
 | d::ds,h=>by
  obtain ⟨ρ1,y,e1,e2,e3,hp⟩:=h d List.mem_cons_self
  obtain ⟨ys,e,hl,hy⟩:=u4q (ds:=ds) fun x hx=>h x (List.mem_cons_of_mem _ hx)
  refine ⟨y::ys,?_,by simp [hl],fun z hz=>?_⟩
  ·simp [compD,e1,e2,e3,e]
  ·rcases List.mem_cons.mp hz with rfl | hz
   ·exact hp
   ·exact hy z hz
theorem u4n {n:Nat}{d:D} (h:d∈intL 0 n):∃ k,k<n∧d=dN k:=by
 simp [intL] at h
 obtain ⟨k,hk,e⟩:=h
 exact ⟨k,hk,e.symm⟩
theorem u6g (n:Nat):(intL 0 n).length=n:=by simp [intL]
theorem pull {α:Type}{c:α→D}{p:α→Prop}:∀ {ys:List D},(∀ y∈ys,∃ z,y=c z∧p z)→∃ zs:List α,ys=zs.map c∧∀ z∈zs,p z
 | [],_=>⟨[],rfl,fun z h=>(nomatch h)⟩
 | y::ys,h=>by
  obtain ⟨z,e,hz⟩:=h y List.mem_cons_self
  obtain ⟨zs,e2,hzs⟩:=pull (ys:=ys) fun x hx=>h x (List.mem_cons_of_mem _ hx)
  refine ⟨z::zs,by rw [e,e2];rfl,fun x hx=>?_⟩
  rcases List.mem_cons.mp hx with rfl | hx
  ·exact hz
  ·exact hzs x hx
theorem ix_m {α:Type}{c:α→D}{rs:List α}{i:Nat} (h:i<rs.length):dIx (.lst (rs.map c)) (.int (i:Int))=.ok (c rs[i]):=v1L (by rw [List.getElem?_map,List.getElem?_eq_getElem h];rfl)
theorem u7s {α:Type}{c:α→D}{rs:List α}{i:Nat} (h:i<rs.length):∃ x,x∈rs∧dIx (.lst (rs.map c)) (.int (i:Int))=.ok (c x):=⟨rs[i],List.getElem_mem h,ix_m h⟩
theorem u7r (x y:D) (l:List D):dIx (.lst (x::y::l)) (.int 1)=.ok y:=v1L (i:=1) rfl
theorem ixl_2 (x y z:D) (l:List D):dIx (.lst (x::y::z::l)) (.int 2)=.ok z:=v1L (i:=2) rfl
theorem modI (a:Int) {b:Nat} (h:0<b):∃ m:Nat,a%(b:Int)=(m:Int)∧m<b:=by
 have h1:=Int.emod_nonneg a (show (b:Int)≠0 by omega)
 have h2:=Int.emod_lt_of_pos a (show (0:Int)<(b:Int) by omega)
 exact ⟨(a%b).toNat,by omega,by omega⟩
theorem modZ (a:Int) {b:Int} (h:0<b):∃ m:Nat,a%b=(m:Int)∧(m:Int)<b:=by
 have h1:=Int.emod_nonneg a (show b≠0 by omega)
 have h2:=Int.emod_lt_of_pos a h
 exact ⟨(a%b).toNat,by omega,by omega⟩
@[simp] theorem u0j (i j:Int):dMulX (.int i) (.int j)=gd (CMul i j) (.ok (.int (i*j))):=Eq.trans rfl rfl
@[simp] theorem add_ii (i j:Int):dAdd (.int i) (.int j)=.ok (.int (i+j)):=Eq.trans rfl rfl
theorem u0D {i j:Int} (h:0<j):dMod (.int i) (.int j)=.ok (.int (i%j)):=if_pos h
theorem u5c {i j:Int} (h:0<j) (h2:j<2^64):dDiv (.int i) (.int j)=.ok (.int (i / j)):=if_pos ⟨h,h2⟩
theorem u6S {n:Nat} (h:n≤1000):rng1 [.int (n:Int)]=.ok (intL 0 n):=by
 show gd _ _=_
 rw [u0S (by omega),Int.toNat_natCast]
theorem rng_lit {n:Nat} (j:Int) (e:j=n) (h:n≤1000):rng1 [.int j]=.ok (intL 0 n):=by rw [e,u6S h]
theorem bindN {α β:Type} (a:α) (f:α→Res β):(Res.ok a).bind f=f a:=Eq.trans rfl rfl
theorem goN {α:Type} (a:α) (ρ:Rho) (k:α→Out):(Res.ok a).go ρ k=k a:=Eq.trans rfl rfl
theorem thenN (ρ:Rho) (f:Rho→Out):(Out.nx ρ).andThen f=f ρ:=Eq.trans rfl rfl
theorem u6x {α:Type}{xs:List α}{lo hi:Option Int}{x:α} (h:x∈cutC xs lo hi):x∈xs:=List.mem_of_mem_drop (List.mem_of_mem_take h)
theorem u6y {α:Type} (c:α→D) (xs:List α) (lo hi:Option Int):cutC (xs.map c) lo hi=(cutC xs lo hi).map c:=by
 unfold cutC
 rw [List.length_map,List.map_take,List.map_drop]
abbrev scr (ns:List Int):D:=.lst (ns.map D.int)
abbrev Row (G:FD):Prop:=∀ (ns:List Int) (i b n:Nat),0<b→b<1000000→n≤20→∃ rs:List Nat,G [scr ns,dN i,dN b,dN n]=.ok (.lst (rs.map dN))∧rs.length=n∧∀ x∈rs,x<b
def Srow (ns:List Int) (i b n:Nat) (c:Int) (k:Nat) (ρ:Rho):Prop:=∃ (l:Int) (rs:List Nat) (y:Option Sl),ρ=[some (.val (scr ns)),some (.val (dN i)),some (.val (dN b)),some (.val (dN n)),some (.val (.int c)),some (.val (.int l)),some (.own (.l (rs.map dN))),y]∧rs.length=k∧∀ x∈rs,x<b
def Qrow (b n:Nat) (o:Out):Prop:=∃ (ρ:Rho) (rs:List Nat),o=.nx ρ∧getV (frz ρ) 6=.ok (.lst (rs.map dN))∧rs.length=n∧∀ x∈rs,x<b
theorem u8m (F:Fun K "_law_cell" "_law_cell" u3y f fd) (T:Txt K mg A):∃ G,FnOk P w K mg base CX0 1 f fd ["_law_script","_law_k"] (spF K G)∧∀ (ns:List Int) (k:Nat),∃ c:Int,G [scr ns,dN k]=.ok (.int c):=by
 refine ⟨_,F.okT (k:=0) u8d (fun cdv Ar outer s H E hr=>u0d (u0z (u0q o_lt (dv 1) (d_B u0T T.z_len (by decide +kernel) (u0a (dv 0) u0b))) (u0e (u0i (d_ix x_ix (dv 0) (dv 1)))) u0s)
  (u0e (u0i u0c))),?_⟩
 intro ns k
 by_cases h:k<ns.length
 ·have h':(k:Int)<ns.length:=by omega
  exact ⟨ns[k],by simp [runT,startD,h,h',ix_m h]⟩
 ·have h':¬ (k:Int)<ns.length:=by omega
  exact ⟨0,by simp [runT,startD,h,h']⟩
theorem u8j (F:Fun K "_law_stir" "_law_stir" u3v f fd) (T:Txt K mg A):∃ G,FnOk P w K mg base CX0 1 f fd ["_law_cell_here","_law_k"] (spF K G)∧∀ (c:Int) (k:Nat),k≤100→∃ n:Int,G [.int c,dN k]=.ok (.int n):=by
 refine ⟨_,F.okT (k:=0) u2H (fun cdv Ar outer s H E hr=>u0d (ds_n u2H.nd (d_op u1i (d_op u1P (d_op u1P (d_op u1o (d_op u1i (dv 0) u0c) u0c) (d_op u1o u0c (dv 1))) u0c) u0c))
  (u0d (ds_n u2H.nd (d_op u1i (d_op u1o (dv 2) (dv 2)) u0c))
  (u0e (u0i (d_op u1i (d_op u1P (d_op u1P (d_op u1o (dv 2) (dv 2)) (d_op u1o u0c (dv 2))) u0c) u0c))))),?_⟩
 intro c k hk
 obtain ⟨m,e,hm⟩:=modZ c (b:=2147483647) (by omega)
 obtain ⟨m2,e2,hm2⟩:=modZ ((m:Int)*48271+69621*(k:Int)+7) (b:=2147483647) (by omega)
 obtain ⟨m3,e3,hm3⟩:=modZ ((m2:Int)*m2) (b:=2147483629) (by omega)
 have c1:CMul (m:Int) 48271:=.inr ⟨by omega,by omega⟩
 have c2:CMul 69621 (k:Int):=.inl ⟨by omega,by omega⟩
 have c3:CMul (m2:Int) m2:=.inr ⟨by omega,by omega⟩
 have c4:CMul (m3:Int) m3:=.inr ⟨by omega,by omega⟩
 have c5:CMul 16807 (m3:Int):=.inl ⟨by omega,by omega⟩
 refine ⟨((m3:Int)*m3+16807*m3+11)%2147483587,?_⟩
 have r1:dMod (.int c) (.int 2147483647)=.ok (.int m):=by rw [u0D (by omega),e]
 have r2:dMod (.int ((m:Int)*48271+69621*(k:Int)+7)) (.int 2147483647)=.ok (.int m2):=by rw [u0D (by omega),e2]
 have r3:dMod (.int ((m2:Int)*m2)) (.int 2147483629)=.ok (.int m3):=by rw [u0D (by omega),e3]
 have r4:dMod (.int ((m3:Int)*m3+16807*m3+11)) (.int 2147483587)=.ok (.int (((m3:Int)*m3+16807*m3+11)%2147483587)):=u0D (by omega)
 have s1:dMulX (.int m) (.int 48271)=.ok (.int (m*48271)):=by rw [u0j,u0S c1]
 have s2:dMulX (.int 69621) (.int k)=.ok (.int (69621*k)):=by rw [u0j,u0S c2]
 have s3:dMulX (.int m2) (.int m2)=.ok (.int (m2*m2)):=by rw [u0j,u0S c3]
 have s4:dMulX (.int m3) (.int m3)=.ok (.int (m3*m3)):=by rw [u0j,u0S c4]
 have s5:dMulX (.int 16807) (.int m3)=.ok (.int (16807*m3)):=by rw [u0j,u0S c5]
 simp [runT,startD,r1,r2,r3,r4,s1,s2,s3,s4,s5,-u0N,-u0j,-Res.bind_ok,-L2.go_ok,-Out.then_nx,bindN,goN,thenN]
theorem v0e {G_law_cell:FD} (c__law_cell:Callee P w K mg base 1 "_law_cell" ["_law_script","_law_k"] (spF K G_law_cell)) {G_law_stir:FD} (c__law_stir:Callee P w K mg base 1 "_law_stir" ["_law_cell_here","_law_k"] (spF K G_law_stir)) (p_cell:∀ (ns:List Int) (k:Nat),∃ c:Int,G_law_cell [scr ns,dN k]=.ok (.int c)) (p_stir:∀ (c:Int) (k:Nat),k≤100→∃ n:Int,G_law_stir [.int c,dN k]=.ok (.int n)) (F:Fun K "_law_row" "_law_row" u4x f fd) (T:Txt K mg A):∃ G,FnOk P w K mg base CX0 2 f fd ["_law_script","_law_at","_law_base","_law_count"] (spF K G)∧Row G:=by
 refine ⟨_,F.okT (k:=1) u1z (fun cdv Ar outer s H E hr=>u0d (ds_n u1z.nd (d_fn c__law_cell hr (u0a (dv 0) (u0a (dv 1) u0b))))
  (u0d (ds_n u1z.nd (d_op v3q (dv 4) (d_op o_pow u0c u0c)))
  (u0d (u1K u1z.nd (u3Y u0b))
  (u0d (u0G rfl (u1p T.z_range (u0a (dv 3) u0b)) (dg_n u1z.nd)
  (u0e (u0z (u0q o_ge (dv 4) (d_op o_pow u0c u0c)) (u0d (u1L 6 (d_op u1i (dv 5) (dv 2)))
    (u0e (ds_n u1z.nd (d_op u8t (dv 5) (dv 2))))) (u0e (u1L 6 (d_op u1i (d_op u8t (d_fn c__law_stir hr (u0a (dv 4) (u0a (dv 7) u0b))) u0c) (dv 2)))))))
  (u0e (u0i (dv 6))))))),?_⟩
 intro ns i b n hb hb2 hn
 obtain ⟨c,ec⟩:=p_cell ns i
 have cp:CPow 10 18:=by decide
 have hn':(-(2^62:Int))≤(n:Int)∧(n:Int)<2^62:=by omega
 have r0:dPow (.int 10) (.int 18)=.ok (.int 1000000000000000000):=by
  show gd _ _=_
  rw [u0S cp]
  rfl
 simp [runT,startD,ec,r0,u6S (show n≤1000 by omega),-u0N,-Res.bind_ok,-L2.go_ok,-Out.then_nx,bindN,goN,thenN]
 generalize hI:forD _ _ _ _=o
 have q:Qrow b n o:=by
  rw [← hI]
  refine u4p (Srow ns i b n c) (Qrow b n) ⟨_,[],none,rfl,rfl,fun x h=>(nomatch h)⟩ ?_ ?_
  ·rintro ρ ⟨l,rs,y,rfl,h1,h2⟩
   exact ⟨_,rs,rfl,rfl,h1,h2⟩
  ·rintro k ρ hk ⟨l,rs,y,rfl,h1,h2⟩
   refine ⟨_,rfl,.inl ?_⟩
   have hb':(0:Int)<b:=by omega
   have hs:rs.length<sizeLine:=Nat.lt_of_lt_of_le (show rs.length<1000 by omega) (by decide)
   have cd:CDivB l b:=by unfold CDivB;omega
   by_cases hc':(1000000000000000000:Int)≤c
   ·obtain ⟨m,e,hm⟩:=modI l (b:=b) hb
    skip
    have r1:dMod (.int l) (.int b)=.ok (.int m):=by rw [u0D hb',e]
    have r2:dDiv (.int l) (.int b)=.ok (.int (l / b)):=by rw [u5c hb' (by omega)]
    refine ⟨_,by simp [hc',r0,r1,r2,hs,-u0N,-Res.bind_ok,-L2.go_ok,-Out.then_nx,bindN,goN,thenN];rfl,l / b,rs++[m],some (.val (dN k)),by simp,by simp [h1],fun x hx=>?_⟩
    rcases List.mem_append.mp hx with h | h
    ·exact h2 x h
    ·rw [List.mem_singleton.mp h];exact hm
   ·obtain ⟨t,et⟩:=p_stir c k (by omega)
    obtain ⟨m,e,hm⟩:=modI (t / 8) (b:=b) hb
    have cd8:CDivB t 8:=by unfold CDivB;omega
    skip
    have r1:dMod (.int (t / 8)) (.int b)=.ok (.int m):=by rw [u0D hb',e]
    have r2:dDiv (.int t) (.int 8)=.ok (.int (t / 8)):=by rw [u5c (by omega) (by omega)]
    refine ⟨_,by simp [hc',r0,r1,r2,hs,et,-u0N,-Res.bind_ok,-L2.go_ok,-Out.then_nx,bindN,goN,thenN];rfl,l,rs++[m],some (.val (dN k)),by simp,by simp [h1],fun x hx=>?_⟩
    rcases List.mem_append.mp hx with h | h
    ·exact h2 x h
    ·rw [List.mem_singleton.mp h];exact hm
 obtain ⟨ρ,rs,rfl,g,h1,h2⟩:=q
 exact ⟨rs,by simp [g],h1,h2⟩
noncomputable def SIG:List Str:=["a","b","+","*","(",")","c","id","=","<=","if","0","[]","else",",","abc123","z","!"]
noncomputable def POOL:List Str:=SIG++(["zz"]:List Str)
noncomputable def TAIL:List Str:=["","a","x1","list0","9","abcd0"]
noncomputable def letC (i:Nat):Str:=⟨#[greatT.cps.getD i 0]⟩
noncomputable def tailJ (j:Nat):Str:=TAIL.getD j ""
noncomputable def okH (z:Str):Bool:=hdS z&&(goodS z&&!sgnS z)
noncomputable def okG (z:Str):Bool:=sgnS z&&(goodS z&&POOL.contains z)
theorem sig_ok:∀ z∈SIG,okG z=true:=by decide +kernel
theorem v3I:∀ i,i<26→∀ j,j<6→okH (letC i++tailJ j)=true:=by decide +kernel
theorem u2E {i j:Int} (h:-(2^64)<i∧i<2^64):dMulX (.int i) (.int j)=.ok (.int (i*j)):=by rw [u0j,u0S (show CMul i j from .inl h)]
theorem v1M {i:Nat} (h:i<26):dIx (.str greatT) (.int (i:Int))=.ok (.str (letC i)):=by
 have e:atI greatT.cps.toList (i:Int)=some (greatT.cps.getD i 0):=u6B (by
  have h':i<greatT.cps.size:=h
  rw [Array.getElem?_toList,Array.getElem?_eq_getElem h',Array.getD_eq_getD_getElem?,Array.getElem?_eq_getElem h']
  rfl)
 show (match atI greatT.cps.toList (i:Int) with | some c=>Res.ok (D.str ⟨#[c]⟩) | none=>.bad)=_
 rw [e]
 rfl
theorem v3y (i:Nat):(letC i).length=1:=rfl
theorem gdL {α:Type}{ds:List D}{r:Res α} (h:ds.length≤1000):gd (ds.length≤sizeLine) r=r:=u0S (u0I h)
theorem gdI {α:Type}{n:Nat}{r:Res α} (h:n≤1000):gd ((intL 0 n).length≤sizeLine) r=r:=gdL (by rw [u6g];exact h)
theorem v4w {x y:Str} (h:x.length+y.length≤1000):dAdd (.str x) (.str y)=.ok (.str (x++y)):=u0S (Nat.le_trans h (by decide))
theorem v4x {x y:List D} (h:x.length+y.length≤1000):dAdd (.lst x) (.lst y)=.ok (.lst (x++y)):=u0S (Nat.le_trans h (by decide))
abbrev dS (zs:List Str):D:=.lst (zs.map D.str)
def HH (z:Str):Prop:=∃ i,i<26∧∃ j,j<6∧z=letC i++tailJ j
theorem HH.ok {z:Str} (h:HH z):okH z=true:=by
 obtain ⟨i,hi,j,hj,rfl⟩:=h
 exact v3I i hi j hj
theorem u6n:∀ i,i<26→∀ j,j<6→fstC (letC i++tailJ j)=letC i:=by decide +kernel
theorem v1E:∀ i,i<26→∀ j,j<26→letC i=letC j→i=j:=by decide +kernel
noncomputable def sgI (i:Nat):Str:=SIG.getD i ""
theorem sgI_inj:∀ i,i<18→∀ j,j<18→sgI i=sgI j→i=j:=by decide +kernel
structure HDS (hs:List Str):Prop where
 hh:∀ z∈hs,HH z
 nd:hs.Nodup
 fl:∀ a∈hs,∀ b∈hs,fstC a=fstC b→a=b
abbrev Heads (G:FD):Prop:=∀ c n:Nat,n≤3→∃ hs:List Str,G [dN c,dN n]=.ok (dS hs)∧hs.length=n∧HDS hs
abbrev Signs (G:FD):Prop:=∀ c n:Nat,n≤18→∃ hs:List Str,G [dN c,dN n]=.ok (dS hs)∧hs.length=n∧(∀ z∈hs,okG z=true)∧hs.Nodup
theorem u3T {n:Nat}{f:Nat→Str} (h:∀ i,i<n→∀ j,j<n→f i=f j→i=j):((List.range n).map f).Nodup:=by
 unfold List.Nodup
 rw [List.pairwise_map]
 exact (List.nodup_range (n:=n)).imp_of_mem fun {a b} ha hb hab e=>hab (h a (List.mem_range.mp ha) b (List.mem_range.mp hb) e)
noncomputable def onI (f:Nat→Str):D→D
 | .int k=>.str (f k.toNat)
 | _=>.non
theorem u9j (f:Nat→Str) (n:Nat):(intL 0 n).map (onI f)=((List.range n).map f).map D.str:=by
 simp [intL,onI,Function.comp_def]
theorem dN_onI (f:Nat→Str) (xs:List Nat):(xs.map dN).map (onI f)=(xs.map f).map D.str:=by
 simp [onI,Function.comp_def]
abbrev SH:=Nat×List Nat
noncomputable def shD (p:SH):D:=.tup [dN p.1,.tup (p.2.map dN)]
noncomputable def SHAPES:List (List SH):=[[(0,[0,13,1]),(0,[1]),(1,[1,14,2]),(1,[2]),(2,[11,0,12]),(2,[10])],[(0,[0,11,10]),(0,[10])],[(0,[10,0,11]),(0,[])],[(0,[0,1]),(0,[]),(1,[10,11]),(1,[12,0,13])],
 [(0,[10,1,13]),(0,[11,2,13]),(0,[10,2,14]),(0,[11,1,14]),(1,[12]),(2,[12])],[(0,[1,2]),(1,[10]),(1,[]),(2,[11]),(2,[])],[(0,[10,0]),(0,[10]),(0,[11])],[(0,[1,10,1]),(1,[11,1]),(1,[12])],[(0,[10,1]),(1,[0,11]),(1,[])],[(0,[1,10]),(0,[2,11]),(1,[12]),(2,[12])]]
theorem u6L:∀ sh∈SHAPES,1≤sh.length∧sh.length≤6∧sh.Nodup∧∀ p∈sh,(p.1<3∧p.2.length≤3∧∀ x∈p.2,x<3∨(10≤x∧x<15))∧∀ x∈p.2,x<3→∃ q∈sh,q.1=x:=by decide +kernel
abbrev Shape (G:FD):Prop:=∀ c:Nat,∃ sh∈SHAPES,G [dN c]=.ok (.lst (sh.map shD))
noncomputable def sy (hs ss:List Str) (x:Nat):Str:=if 10≤x then ss.getD (x - 10) "" else hs.getD x ""
abbrev Symb (G:FD):Prop:=∀ (x:Nat) (hs ss:List Str),hs.length=3→ss.length=5→(x<3∨(10≤x∧x<15))→G [dN x,dS hs,dS ss]=.ok (.str (sy hs ss x))
theorem u1J {α:Type}{l:List α}{i:Nat}{d:α} (h:i<l.length):l.getD i d=l[i]:=by rw [List.getD_eq_getElem?_getD,List.getElem?_eq_getElem h];rfl
theorem u7d (F:Fun K "_law_heads" "_law_heads" u2d f fd) (T:Txt K mg A):∃ G,FnOk P w K mg base CX0 1 f fd ["_law_cell_here","_law_many"] (spF K G)∧Heads G:=by
 refine ⟨_,F.okT (k:=0) u2j (fun cdv Ar outer s H E hr=>u0d (ds_n u2j.nd u0p)
  (u0d (ds_n u2j.nd (d_ix x_ix (u1l (u0a u0p (u0a u0p (u0a u0p (u0a u0p (u0a u0p (u0a u0p u0b))))))) (d_op u1i (d_op u8t (dv 0) u0c) u0c)))
  (u0e (u0i (DN.de (u1f ["_law_k"] [0,2,3] rfl (u0v (sc:=defScope u2d) (N:=["_law_cell_here","_law_many","_law_letters","_law_tail"]) (by decide +kernel)) (u1p T.z_range (u0a (dv 1) u0b)) (dg_n (show (["_law_k","_law_cell_here","_law_letters","_law_tail"]:List Str).Nodup by decide +kernel)) u1Z (d_op u1P (d_ix x_ix (dv 2) (d_op u1i (d_op u1P (dv 1) (d_op u1o u0c (dv 0))) u0c)) (dv 3)))))))),?_⟩
 intro c n hn
 obtain ⟨j,e,hj⟩:=modZ ((c:Int) / 26) (b:=6) (by omega)
 have r1:dDiv (.int (c:Int)) (.int 26)=.ok (.int ((c:Int) / 26)):=u5c (by omega) (by omega)
 have r2:dMod (.int ((c:Int) / 26)) (.int 6)=.ok (dN j):=by rw [u0D (by omega),e]
 have r3:dIx (.lst [.str "",.str "a",.str "x1",.str "list0",.str "9",.str "abcd0"]) (dN j)=.ok (.str (tailJ j)):=by
  have:=ix_m (c:=D.str) (rs:=TAIL) (i:=j) (by show j<6;omega)
  rw [show tailJ j=TAIL[j]'(by show j<6;omega) from by unfold tailJ;rw [List.getD_eq_getElem?_getD,List.getElem?_eq_getElem];rfl]
  exact this
 have r4:(tailJ j).length≤6:=by
  have:∀ j,j<6→(tailJ j).length≤6:=by decide +kernel
  exact this j (by omega)
 simp [runT,startD,r1,r2,r3,u6S (show n≤1000 by omega),-u0N,-u0j,-Res.bind_ok,-L2.go_ok,-Out.then_nx,bindN,goN,thenN]
 rw [u0K (onI fun k=>letC ((c+7*k)%26)++tailJ j) fun d hd=>?_]
 ·rw [u9j]
  have hc:∀ k,(c+7*k)%26<26:=fun k=>Nat.mod_lt _ (by omega)
  refine ⟨_,by simp [gdI (show n≤1000 by omega)];rfl,by simp,fun z hz=>?_,u3T fun a ha b hb e=>?_,fun z hz z' hz' e=>?_⟩
  ·obtain ⟨k,_,rfl⟩:=List.mem_map.mp hz
   exact ⟨_,hc k,j,by omega,rfl⟩
  ·have e2:=congrArg fstC e
   rw [u6n _ (hc a) j (by omega),u6n _ (hc b) j (by omega)] at e2
   have:=v1E _ (hc a) _ (hc b) e2
   omega
  ·obtain ⟨a,ha,rfl⟩:=List.mem_map.mp hz
   obtain ⟨b,hb,rfl⟩:=List.mem_map.mp hz'
   rw [u6n _ (hc a) j (by omega),u6n _ (hc b) j (by omega)] at e
   rw [v1E _ (hc a) _ (hc b) e]
 ·obtain ⟨k,hk,rfl⟩:=u4n hd
  have hi:(c+7*k)%26<26:=Nat.mod_lt _ (by omega)
  have s1:dMulX (.int 7) (.int (k:Int))=.ok (.int (7*(k:Int))):=u2E (by omega)
  have s2:dMod (.int ((c:Int)+7*(k:Int))) (.int 26)=.ok (dN ((c+7*k)%26)):=by rw [u0D (by omega)];simp [dN]
  have s3:=v1M hi
  have s4:dAdd (.str (letC ((c+7*k)%26))) (.str (tailJ j))=.ok (.str (letC ((c+7*k)%26)++tailJ j)):=v4w (by rw [v3y];omega)
  exact ⟨_,rfl,by simp,by simp [rhoC,s1,s2,s3,s4,onI,-u0N,-u0j,-Res.bind_ok,-L2.go_ok,-Out.then_nx,bindN,goN,thenN]⟩
theorem u6X (F:Fun K "_law_signs" "_law_signs" u2a f fd) (T:Txt K mg A):∃ G,FnOk P w K mg base CX0 1 f fd ["_law_cell_here","_law_many"] (spF K G)∧Signs G:=by
 refine ⟨_,F.okT (k:=0) u3N (fun cdv Ar outer s H E hr=>u0d (ds_n u3N.nd (u1l (u0a u0p (u0a u0p (u0a u0p (u0a u0p (u0a u0p (u0a u0p (u0a u0p (u0a u0p (u0a u0p (u0a u0p (u0a u0p (u0a u0p (u0a u0p (u0a u0p (u0a u0p (u0a u0p (u0a u0p (u0a u0p u0b))))))))))))))))))))
  (u0e (u0i (DN.de (u1f ["_law_k"] [0,2] rfl (u0v (sc:=defScope u2a) (N:=["_law_cell_here","_law_many","_law_some"]) (by decide +kernel)) (u1p T.z_range (u0a (dv 1) u0b)) (dg_n (show (["_law_k","_law_cell_here","_law_some"]:List Str).Nodup by decide +kernel)) u1Z (d_ix x_ix (dv 2) (d_op u1i (d_op u1P (dv 1) (dv 0)) u0c))))))),?_⟩
 intro c n hn
 simp [runT,startD,u6S (show n≤1000 by omega),-u0N,-u0j,-Res.bind_ok,-L2.go_ok,-Out.then_nx,bindN,goN,thenN]
 rw [u0K (onI fun k=>sgI ((c+k)%18)) fun d hd=>?_]
 ·rw [u9j]
  have hc:∀ k,(c+k)%18<18:=fun k=>Nat.mod_lt _ (by omega)
  refine ⟨_,by simp [gdI (show n≤1000 by omega)];rfl,by simp,fun z hz=>?_,u3T fun a ha b hb e=>?_⟩
  ·obtain ⟨k,_,rfl⟩:=List.mem_map.mp hz
   refine sig_ok _ ?_
   unfold sgI
   rw [u1J (show (c+k)%18<SIG.length from hc k)]
   exact List.getElem_mem _
  ·have:=sgI_inj _ (hc a) _ (hc b) e
   omega
 ·obtain ⟨k,hk,rfl⟩:=u4n hd
  have hi:(c+k)%18<18:=Nat.mod_lt _ (by omega)
  have s2:dMod (.int ((c:Int)+(k:Int))) (.int 18)=.ok (dN ((c+k)%18)):=by rw [u0D (by omega)];simp [dN]
  have s3:=ix_m (c:=D.str) (rs:=SIG) (i:=(c+k)%18) (by show _<18;omega)
  have s3':dIx (.lst [.str "a",.str "b",.str "+",.str "*",.str "(",.str ")",.str "c",.str "id",.str "=",.str "<=",.str "if",.str "0",.str "[]",.str "else",.str ",",.str "abc123",.str "z",.str "!"]) (dN ((c+k)%18))=.ok (.str (sgI ((c+k)%18))):=by
   unfold sgI
   rw [u1J (show (c+k)%18<SIG.length from hi)]
   exact s3
  exact ⟨_,rfl,by simp,by simp [rhoC,s2,s3',onI,-u0N,-u0j,-Res.bind_ok,-L2.go_ok,-Out.then_nx,bindN,goN,thenN]⟩
theorem u6Y (F:Fun K "_law_shape" "_law_shape" u2P f fd) (T:Txt K mg A):∃ G,FnOk P w K mg base CX0 1 f fd ["_law_number"] (spF K G)∧Shape G:=by
 refine ⟨_,F.okT (k:=0) u3O (fun cdv Ar outer s H E hr=>u0d (u1K u3O.nd (u3Y (u0a (u1l (u0a (u0f (u0a u0c (u0a (u0f (u0a u0c (u0a u0c (u0a u0c u0b)))) u0b))) (u0a (u0f (u0a u0c (u0a (u0f (u0a u0c u0b)) u0b))) (u0a (u0f (u0a u0c (u0a (u0f (u0a u0c (u0a u0c (u0a u0c u0b)))) u0b))) (u0a (u0f (u0a u0c (u0a (u0f (u0a u0c u0b)) u0b))) (u0a (u0f (u0a u0c (u0a (u0f (u0a u0c (u0a u0c (u0a u0c u0b)))) u0b))) (u0a (u0f (u0a u0c (u0a (u0f (u0a u0c u0b)) u0b))) u0b))))))) u0b)))
  (u0d (u1L 1 (u1l (u0a (u0f (u0a u0c (u0a (u0f (u0a u0c (u0a u0c (u0a u0c u0b)))) u0b))) (u0a (u0f (u0a u0c (u0a (u0f (u0a u0c u0b)) u0b))) u0b))))
  (u0d (u1L 1 (u1l (u0a (u0f (u0a u0c (u0a (u0f (u0a u0c (u0a u0c (u0a u0c u0b)))) u0b))) (u0a (u0f (u0a u0c (u0a (u0f u0b) u0b))) u0b))))
  (u0d (u1L 1 (u1l (u0a (u0f (u0a u0c (u0a (u0f (u0a u0c (u0a u0c u0b))) u0b))) (u0a (u0f (u0a u0c (u0a (u0f u0b) u0b))) (u0a (u0f (u0a u0c (u0a (u0f (u0a u0c (u0a u0c u0b))) u0b))) (u0a (u0f (u0a u0c (u0a (u0f (u0a u0c (u0a u0c (u0a u0c u0b)))) u0b))) u0b))))))
  (u0d (u1L 1 (u1l (u0a (u0f (u0a u0c (u0a (u0f (u0a u0c (u0a u0c (u0a u0c u0b)))) u0b))) (u0a (u0f (u0a u0c (u0a (u0f (u0a u0c (u0a u0c (u0a u0c u0b)))) u0b))) (u0a (u0f (u0a u0c (u0a (u0f (u0a u0c (u0a u0c (u0a u0c u0b)))) u0b))) (u0a (u0f (u0a u0c (u0a (u0f (u0a u0c (u0a u0c (u0a u0c u0b)))) u0b))) (u0a (u0f (u0a u0c (u0a (u0f (u0a u0c u0b)) u0b))) (u0a (u0f (u0a u0c (u0a (u0f (u0a u0c u0b)) u0b))) u0b))))))))
  (u0d (u1L 1 (u1l (u0a (u0f (u0a u0c (u0a (u0f (u0a u0c (u0a u0c u0b))) u0b))) (u0a (u0f (u0a u0c (u0a (u0f (u0a u0c u0b)) u0b))) (u0a (u0f (u0a u0c (u0a (u0f u0b) u0b))) (u0a (u0f (u0a u0c (u0a (u0f (u0a u0c u0b)) u0b))) (u0a (u0f (u0a u0c (u0a (u0f u0b) u0b))) u0b)))))))
  (u0d (u1L 1 (u1l (u0a (u0f (u0a u0c (u0a (u0f (u0a u0c (u0a u0c u0b))) u0b))) (u0a (u0f (u0a u0c (u0a (u0f (u0a u0c u0b)) u0b))) (u0a (u0f (u0a u0c (u0a (u0f (u0a u0c u0b)) u0b))) u0b)))))
  (u0d (u1L 1 (u1l (u0a (u0f (u0a u0c (u0a (u0f (u0a u0c (u0a u0c (u0a u0c u0b)))) u0b))) (u0a (u0f (u0a u0c (u0a (u0f (u0a u0c (u0a u0c u0b))) u0b))) (u0a (u0f (u0a u0c (u0a (u0f (u0a u0c u0b)) u0b))) u0b)))))
  (u0d (u1L 1 (u1l (u0a (u0f (u0a u0c (u0a (u0f (u0a u0c (u0a u0c u0b))) u0b))) (u0a (u0f (u0a u0c (u0a (u0f (u0a u0c (u0a u0c u0b))) u0b))) (u0a (u0f (u0a u0c (u0a (u0f u0b) u0b))) u0b)))))
  (u0d (u1L 1 (u1l (u0a (u0f (u0a u0c (u0a (u0f (u0a u0c (u0a u0c u0b))) u0b))) (u0a (u0f (u0a u0c (u0a (u0f (u0a u0c (u0a u0c u0b))) u0b))) (u0a (u0f (u0a u0c (u0a (u0f (u0a u0c u0b)) u0b))) (u0a (u0f (u0a u0c (u0a (u0f (u0a u0c u0b)) u0b))) u0b))))))
  (u0e (u0i (d_ix x_ix (dv 1) (d_op u1i (dv 0) u0c)))))))))))))),?_⟩
 intro c
 obtain ⟨i,ei,hi⟩:=modZ (c:Int) (b:=10) (by omega)
 have s2:dMod (.int (c:Int)) (.int 10)=.ok (dN i):=by rw [u0D (by omega),ei]
 obtain ⟨sh,hm,s3⟩:=u7s (c:=fun sh:List SH=>D.lst (sh.map shD)) (rs:=SHAPES) (i:=i) (by show i<10;omega)
 refine ⟨sh,hm,?_⟩
 have sl:∀ k:Nat,k≤1000→k<sizeLine:=fun k h=>Nat.lt_of_le_of_lt h (by decide)
 simp [runT,startD,s2,sl,-u0N,-u0j,-Res.bind_ok,-L2.go_ok,-Out.then_nx,bindN,goN,thenN]
 refine Eq.trans (congrArg (fun r=>noE (outR ((noE r).go _ fun d=>Out.rt d))) s3) ?_
 rfl
theorem u5X (F:Fun K "_law_symbol" "_law_symbol" u2m f fd) (T:Txt K mg A):∃ G,FnOk P w K mg base CX0 1 f fd ["_law_number","_law_heads_here","_law_signs_here"] (spF K G)∧Symb G:=by
 refine ⟨_,F.okT (k:=0) u5S (fun cdv Ar outer s H E hr=>u0d (u0z (u0q o_ge (dv 0) u0c) (u0e (u0i (d_ix x_ix (dv 2) (d_op v3q (dv 0) u0c)))) u0s)
  (u0e (u0i (d_ix x_ix (dv 1) (dv 0))))),?_⟩
 intro x hs ss hl sl hx
 by_cases c:10≤x
 ·have c':(10:Int)≤x:=by omega
  have e:(x:Int) - 10=((x - 10:Nat):Int):=by omega
  have s3:=ix_m (c:=D.str) (rs:=ss) (i:=x - 10) (by omega)
  have e2:sy hs ss x=ss[x - 10]'(by omega):=by unfold sy;rw [if_pos c,u1J]
  rw [e2]
  simp [runT,startD,c',e,s3,-u0j,-Res.bind_ok,-L2.go_ok,-Out.then_nx,bindN,goN,thenN]
 ·have c':¬ (10:Int)≤x:=by omega
  have s3:=ix_m (c:=D.str) (rs:=hs) (i:=x) (by omega)
  have e2:sy hs ss x=hs[x]'(by omega):=by unfold sy;rw [if_neg c,u1J]
  rw [e2]
  simp [runT,startD,c',s3,-u0j,-Res.bind_ok,-L2.go_ok,-Out.then_nx,bindN,goN,thenN]
noncomputable def nmz (z:Str) (m:Nat):Str:=Txt.slice z none (some (6 - (m:Int)))++mulS "z" m
theorem nmz_ok:∀ i,i<26→∀ j,j<6→∀ m,m<3→okH (nmz (letC i++tailJ j) m)=true∧fstC (nmz (letC i++tailJ j) m)=fstC (letC i++tailJ j)∧(Txt.slice (letC i++tailJ j) none (some (6 - (m:Int)))).length+(mulS "z" m).length≤100:=by decide +kernel
def VR (p:RR):Prop:=OkR p∧∀ b∈p.2,sgnS b=true→b∈POOL
theorem u3B {z:Str} (h:okH z=true):hdS z=true∧goodS z=true∧sgnS z=false:=by
 unfold okH at h
 simpa [Bool.and_eq_true] using h
theorem u3o {z:Str} (h:okG z=true):sgnS z=true∧goodS z=true∧z∈POOL:=by
 unfold okG at h
 simpa [Bool.and_eq_true] using h
theorem u9J {h:Str}{bs:List Str} (hh:okH h=true) (hl:bs.length≤4) (hb:∀ b∈bs,okH b=true∨okG b=true):VR (h,bs):=by
 obtain ⟨a1,a2,a3⟩:=u3B hh
 refine ⟨⟨a1,hl,fun b m=>?_,a2,fun b m=>?_⟩,fun b m s=>?_⟩
 ·rcases hb b m with q | q
  ·rw [(u3B q).1,Bool.or_true]
  ·rw [(u3o q).1];rfl
 ·rcases hb b m with q | q
  ·exact (u3B q).2.1
  ·exact (u3o q).2.1
 ·rcases hb b m with q | q
  ·rw [(u3B q).2.2] at s;cases s
  ·exact (u3o q).2.2
theorem u4N {h:Str}{bs:List Str}{rs:List RR} (o:VR (h,bs)) (os:∀ q∈rs,VR q):dNotIn (.tup [.str h,.tup (bs.map D.str)]) (.lst (rs.map rT))=.ok (.bl (!decide ((h,bs)∈rs))):=by
 rw [show dNotIn (.tup [.str h,.tup (bs.map D.str)]) (.lst (rs.map rT))=inD (rT (h,bs)) (rs.map rT) true from u5f true _ _,u9k o.1 (fun q hq=>(os q hq).1)]
 rfl
theorem cut_two {α:Type} (xs:List α) (hi:Option Int) (h:2≤xs.length):(cutC xs (some 2) hi).length≤xs.length - 2:=by
 unfold cutC
 rw [show (some (2:Int))=some ((2:Nat):Int) from rfl,HT.sIx_nat,List.length_take,List.length_drop]
 omega
theorem five {rs:List Nat} (h:rs.length=5):∃ a b c d e,rs=[a,b,c,d,e]:=by
 match rs,h with
 | [a,b,c,d,e],_=>exact ⟨a,b,c,d,e,rfl⟩
theorem three {α:Type}{rs:List α} (h:rs.length=3):∃ a b c,rs=[a,b,c]:=by
 match rs,h with
 | [a,b,c],_=>exact ⟨a,b,c,rfl⟩
def VRs (rs:List RR):Prop:=∀ p∈rs,VR p
noncomputable abbrev dR (rs:List RR):D:=.lst (rs.map rT)
def RH (hs ss:List Str) (p:RR):Prop:=p.1∈hs∧p.2.length≤4∧∀ b∈p.2,b∈hs∨b∈ss
theorem v0O {hs ss:List Str}{p:RR} (hh:∀ z∈hs,okH z=true) (hg:∀ z∈ss,okG z=true) (h:RH hs ss p):VR p:=u9J (hh _ h.1) h.2.1 fun b hb=>(h.2.2 b hb).imp (hh b) (hg b)
structure GR (rs:List RR):Prop where
 n1:1≤rs.length
 v:VRs rs
 hh:∀ p∈rs,HH p.1
 nd:rs.Nodup
 cl:∀ p∈rs,∀ b∈p.2,b∈hsOf rs∨okG b=true
 fl:∀ p∈rs,∀ q∈rs,fstC p.1=fstC q.1→p.1=q.1
 sg:∃ ss:List Str,ss.length≤5∧∀ p∈rs,∀ b∈p.2,sgnS b=true→b∈ss
theorem gr_of {hs ss:List Str}{rs:List RR} (H:HDS hs) (hg:∀ z∈ss,okG z=true) (l:ss.length≤5) (n1:1≤rs.length) (nd:rs.Nodup) (rh:∀ p∈rs,RH hs ss p) (c:∀ p∈rs,∀ b∈p.2,b∈hs→b∈hsOf rs):GR rs where
 n1:=n1
 v p hp:=v0O (fun z hz=>(H.hh z hz).ok) hg (rh p hp)
 hh p hp:=H.hh _ (rh p hp).1
 nd:=nd
 cl p hp b hb:=((rh p hp).2.2 b hb).imp (c p hp b hb) (hg b)
 fl p hp q hq e:=H.fl _ (rh p hp).1 _ (rh q hq).1 e
 sg:=⟨ss,l,fun p hp b hb s=>((rh p hp).2.2 b hb).resolve_left fun z=>by
  have:=(u3B (H.hh b z).ok).2.2
  rw [this] at s;cases s⟩
abbrev Drawn (G:FD):Prop:=∀ (ns:List Int) (i:Nat) (hs ss:List Str) (m:Nat),1≤hs.length→hs.length≤3→ss.length≤5→m≤3→HDS hs→(∀ z∈ss,okG z=true) →
 ∃ rs:List RR,G [scr ns,dN i,dS hs,dS ss,dN m]=.ok (dR rs)∧rs.length≤6∧GR rs
structure SD (hs ss:List Str) (k:Nat) (rs:List RR):Prop where
 l:rs.length≤k
 nd:rs.Nodup
 rh:∀ p∈rs,RH hs ss p
 all:∀ j,(h:j<hs.length)→j<k→hs[j]∈hsOf rs
def Sdr (ns:List Int) (i:Nat) (hs ss:List Str) (m:Nat) (k:Nat) (ρ:Rho):Prop:=∃ (rs:List RR) (a b c d e:Option Sl),ρ=[some (.val (scr ns)),some (.val (dN i)),some (.val (dS hs)),some (.val (dS ss)),some (.val (dN m)),some (.own (.l (rs.map rT))),a,b,c,d,e]∧SD hs ss k rs
def Qdr (hs ss:List Str) (n:Nat) (o:Out):Prop:=∃ (ρ:Rho) (rs:List RR),o=.nx ρ∧getV (frz ρ) 5=.ok (dR rs)∧SD hs ss n rs
theorem v4b {hs ss:List Str}{k:Nat}{rs:List RR} (h:SD hs ss k rs) {z:Str}{bs:List Str} (m:(z,bs)∈rs) (hz:∀ h:k<hs.length,z=hs[k]):SD hs ss (k+1) rs where
 l:=by have:=h.l;omega
 nd:=h.nd
 rh:=h.rh
 all j hj hk:=by
  by_cases c:j=k
  ·subst c;rw [← hz hj];exact List.mem_map.mpr ⟨_,m,rfl⟩
  ·exact h.all j hj (by omega)
theorem v4c {hs ss:List Str}{k:Nat}{rs:List RR} (h:SD hs ss k rs) {z:Str}{bs:List Str} (m:¬ (z,bs)∈rs) (r:RH hs ss (z,bs)) (hz:∀ h:k<hs.length,z=hs[k]):SD hs ss (k+1) (rs++[(z,bs)]) where
 l:=by have:=h.l;simp;omega
 nd:=List.nodup_append.mpr ⟨h.nd,by simp,fun a ha b hb e=>by
  rw [List.mem_singleton.mp hb] at e
  exact m (e ▸ ha)⟩
 rh p hp:=by
  rcases List.mem_append.mp hp with q | q
  ·exact h.rh p q
  ·rw [List.mem_singleton.mp q];exact r
 all j hj hk:=by
  unfold hsOf
  rw [List.map_append,List.mem_append]
  by_cases c:j=k
  ·subst c;rw [← hz hj];exact .inr (by simp)
  ·exact .inl (h.all j hj (by omega))
theorem u3n {G_law_row:FD} (c__law_row:Callee P w K mg base 2 "_law_row" ["_law_script","_law_at","_law_base","_law_count"] (spF K G_law_row)) (p_row:Row G_law_row) (F:Fun K "_law_drawn_rules" "_law_drawn_rules" u0O f fd) (T:Txt K mg A):∃ G,FnOk P w K mg base CX0 3 f fd ["_law_script","_law_at","_law_heads_here","_law_signs_here","_law_more"] (spF K G)∧Drawn G:=by
 refine ⟨_,F.okT (k:=2) u0m (fun cdv Ar outer s H E hr=>u0d (u1K u0m.nd (u3Y u0b))
  (u0d (u0G rfl (u1p T.z_range (u0a (d_op u1P (d_B u0T T.z_len (by decide +kernel) (u0a (dv 2) u0b)) (dv 4)) u0b)) (dg_n u0m.nd)
  (u0d (ds_n u0m.nd (d_fn c__law_row hr (u0a (dv 0) (u0a (d_op u1P (dv 1) (dv 6)) (u0a u0c (u0a u0c u0b))))))
   (u0d (ds_n u0m.nd (d_ix x_ix (dv 2) (d_op u1i (dv 6) (d_B u0T T.z_len (by decide +kernel) (u0a (dv 2) u0b)))))
   (u0d (u0z (u0q o_ge (dv 6) (d_B u0T T.z_len (by decide +kernel) (u0a (dv 2) u0b))) (u0e (ds_n u0m.nd (d_ix x_ix (dv 2) (d_op u1i (d_ix x_ix (dv 7) u0c) (d_B u0T T.z_len (by decide +kernel) (u0a (dv 2) u0b)))))) u0s)
   (u0d (ds_n u0m.nd (d_op u1P (dv 2) (dv 3)))
   (u0d (u6u ["_law_draw"] [9] rfl (u0v (sc:=defScope u0O) (N:=["_law_script","_law_at","_law_heads_here","_law_signs_here","_law_more","_law_rules_here","_law_k","_law_draws","_law_head","_law_some","_law_body"]) (by decide +kernel)) u0m.nd (u0E (d_sl (dv 7) (u2f u0c) (u2f (d_op u1P u0c (d_op u1i (d_ix x_ix (dv 7) u0c) u0c))))) (dg_n (show (["_law_draw","_law_some"]:List Str).Nodup by decide +kernel)) u1Z (d_ix x_ix (dv 1) (d_op u1i (dv 0) (d_B u0T T.z_len (by decide +kernel) (u0a (dv 1) u0b)))))
   (u0e (u0z (u0q (u4K (hu100 hr)) (u0f (u0a (dv 8) (u0a (d_T u2r T.z_tuple (by decide +kernel) (u0a (dv 10) u0b)) u0b))) (dv 5)) (u0e (u1L 5 (u0f (u0a (dv 8) (u0a (d_T u2r T.z_tuple (by decide +kernel) (u0a (dv 10) u0b)) u0b))))) u0s))))))))
  (u0e (u0i (dv 5))))),?_⟩
 intro ns i hs ss m h1 h3 h5 hm hh hg
 have hh':∀ z∈hs,okH z=true:=fun z hz=>(hh.hh z hz).ok
 have r1:rng1 [.int ((hs.length:Int)+(m:Int))]=.ok (intL 0 (hs.length+m)):=rng_lit _ (by omega) (by omega)
 simp [runT,startD,r1,-u0N,-u0j,-Res.bind_ok,-L2.go_ok,-Out.then_nx,bindN,goN,thenN]
 generalize hI:forD _ _ _ _=o
 have q:Qdr hs ss (hs.length+m) o:=by
  rw [← hI]
  refine u4p (Sdr ns i hs ss m) (Qdr hs ss (hs.length+m)) ⟨[],none,none,none,none,none,rfl,⟨by simp,by simp,fun p h=>(nomatch h),fun j _ h=>absurd h (by omega)⟩⟩ ?_ ?_
  ·rintro ρ ⟨rs,a,b,c,d,e,rfl,h⟩
   exact ⟨_,rs,rfl,rfl,h⟩
  ·rintro k ρ hk ⟨rs,x1,x2,x3,x4,x5,rfl,sd⟩
   have l1:=sd.l
   refine ⟨_,rfl,.inl ?_⟩
   obtain ⟨ds,er,hl,hd⟩:=p_row ns (i+k) 24 5 (by omega) (by omega) (by omega)
   obtain ⟨d0,d1,d2,d3,d4,rfl⟩:=five hl
   have er':G_law_row [scr ns,.int ((i:Int)+(k:Int)),.int 24,.int 5]=.ok (.lst ([d0,d1,d2,d3,d4].map dN)):=er
   obtain ⟨j,ej,hj⟩:=modZ (k:Int) (b:=(hs.length:Int)) (by omega)
   have s1:dMod (.int (k:Int)) (.int (hs.length:Int))=.ok (dN j):=by rw [u0D (by omega),ej]
   have s2:=ix_m (c:=D.str) (rs:=hs) (i:=j) (by omega)
   obtain ⟨j',ej',hj'⟩:=modZ (d0:Int) (b:=(hs.length:Int)) (by omega)
   have s1':dMod (.int (d0:Int)) (.int (hs.length:Int))=.ok (dN j'):=by rw [u0D (by omega),ej']
   have s2':=ix_m (c:=D.str) (rs:=hs) (i:=j') (by omega)
   have s3:dAdd (dS hs) (dS ss)=.ok (dS (hs++ss)):=by rw [v4x (by simp;omega),← List.map_append]
   have s4:dMod (.int (d1:Int)) (.int 4)=.ok (.int ((d1:Int)%4)):=u0D (by omega)
   simp [er',s1,s2,-u0N,-u0j,-Res.bind_ok,-L2.go_ok,-Out.then_nx,bindN,goN,thenN]
   obtain ⟨cs,hcs,s5⟩:∃ cs:List Nat,cs.length≤3∧dSl (.lst [dN d0,dN d1,dN d2,dN d3,dN d4]) (some 2) (some (2+(d1:Int)%4))=.ok (.lst (cs.map dN)):=⟨cutC [d0,d1,d2,d3,d4] (some 2) (some (2+(d1:Int)%4)),cut_two _ _ (by simp),by rw [← u6y];rfl⟩
   have hcl:cs.length≤sizeLine:=Nat.le_trans hcs (by decide)
   have hsz:rs.length<sizeLine:=Nat.lt_of_le_of_lt (show rs.length≤1000 by omega) (by decide)
   by_cases c:hs.length≤k
   ·simp [c,u3E,u7r,s1',s2',s3,s4,s5,asI,hcl,-u0N,-u0j,-Res.bind_ok,-L2.go_ok,-Out.then_nx,bindN,goN,thenN]
    generalize hC:compD _ _ _ _ _=oc
    have qc:∃ ys,oc=.ok ys∧ys.length=(cs.map dN).length∧∀ y∈ys,∃ b,y=D.str b∧(b∈hs∨b∈ss):=by
     rw [← hC]
     refine u4q fun d hd=>?_
     obtain ⟨x,hx,rfl⟩:=List.mem_map.mp hd
     obtain ⟨t,et,ht⟩:=modZ (x:Int) (b:=((hs++ss).length:Int)) (by simp;omega)
     have t1:dMod (.int (x:Int)) (.int ((hs++ss).length:Int))=.ok (dN t):=by rw [u0D (by simp;omega),et]
     obtain ⟨b,hb,t2⟩:=u7s (c:=D.str) (rs:=hs++ss) (i:=t) (by omega)
     refine ⟨_,.str b,rfl,by simp,?_,b,rfl,List.mem_append.mp hb⟩
     generalize hs++ss=us at t1 t2
     simp [rhoC,t1,t2,-u0N,-u0j,-Res.bind_ok,-L2.go_ok,-Out.then_nx,bindN,goN,thenN]
    obtain ⟨ys,rfl,hy1,hy2⟩:=qc
    obtain ⟨bs,rfl,hb2⟩:=pull hy2
    have hbl:bs.length≤4:=by simpa using (show (bs.map D.str).length≤4 by rw [hy1];simp;omega)
    have r:RH hs ss (hs[j']'(by omega),bs):=⟨List.getElem_mem _,hbl,hb2⟩
    have v:VR (hs[j']'(by omega),bs):=v0O hh' hg r
    have nn:=u4N v fun p hp=>v0O hh' hg (sd.rh p hp)
    have g1:gTuple [dS bs]=.ok (.tup (bs.map D.str)):=rfl
    have hzk:∀ h:k<hs.length,hs[j']'(by omega)=hs[k]:=fun h=>absurd h (by omega)
    by_cases cm:(hs[j']'(by omega),bs)∈rs
    ·refine ⟨_,by simp [g1,nn,cm,u0F,-u0N,-u0j,-Res.bind_ok,-L2.go_ok,-Out.then_nx,bindN,goN,thenN];exact ⟨rfl,rfl,rfl,rfl,rfl⟩,rs,_,_,_,_,_,rfl,v4b sd cm hzk⟩
    ·refine ⟨_,by simp [g1,nn,cm,u0F,hsz,-u0N,-u0j,-Res.bind_ok,-L2.go_ok,-Out.then_nx,bindN,goN,thenN];rfl,rs++[(hs[j']'(by omega),bs)],_,_,_,_,_,by simp [rT];exact ⟨rfl,rfl,rfl,rfl,rfl⟩,v4c sd cm r hzk⟩
   ·simp [c,u3E,u7r,s3,s4,s5,asI,hcl,-u0N,-u0j,-Res.bind_ok,-L2.go_ok,-Out.then_nx,bindN,goN,thenN]
    generalize hC:compD _ _ _ _ _=oc
    have qc:∃ ys,oc=.ok ys∧ys.length=(cs.map dN).length∧∀ y∈ys,∃ b,y=D.str b∧(b∈hs∨b∈ss):=by
     rw [← hC]
     refine u4q fun d hd=>?_
     obtain ⟨x,hx,rfl⟩:=List.mem_map.mp hd
     obtain ⟨t,et,ht⟩:=modZ (x:Int) (b:=((hs++ss).length:Int)) (by simp;omega)
     have t1:dMod (.int (x:Int)) (.int ((hs++ss).length:Int))=.ok (dN t):=by rw [u0D (by simp;omega),et]
     obtain ⟨b,hb,t2⟩:=u7s (c:=D.str) (rs:=hs++ss) (i:=t) (by omega)
     refine ⟨_,.str b,rfl,by simp,?_,b,rfl,List.mem_append.mp hb⟩
     generalize hs++ss=us at t1 t2
     simp [rhoC,t1,t2,-u0N,-u0j,-Res.bind_ok,-L2.go_ok,-Out.then_nx,bindN,goN,thenN]
    obtain ⟨ys,rfl,hy1,hy2⟩:=qc
    obtain ⟨bs,rfl,hb2⟩:=pull hy2
    have hbl:bs.length≤4:=by simpa using (show (bs.map D.str).length≤4 by rw [hy1];simp;omega)
    have r:RH hs ss (hs[j]'(by omega),bs):=⟨List.getElem_mem _,hbl,hb2⟩
    have v:VR (hs[j]'(by omega),bs):=v0O hh' hg r
    have nn:=u4N v fun p hp=>v0O hh' hg (sd.rh p hp)
    have g1:gTuple [dS bs]=.ok (.tup (bs.map D.str)):=rfl
    have hzk:∀ h:k<hs.length,hs[j]'(by omega)=hs[k]:=fun h=>by
     have:j=k:=by
      have e2:(k:Int)%(hs.length:Int)=(k:Int):=Int.emod_eq_of_lt (by omega) (by omega)
      omega
     subst this
     rfl
    by_cases cm:(hs[j]'(by omega),bs)∈rs
    ·refine ⟨_,by simp [g1,nn,cm,u0F,-u0N,-u0j,-Res.bind_ok,-L2.go_ok,-Out.then_nx,bindN,goN,thenN];exact ⟨rfl,rfl,rfl,rfl,rfl⟩,rs,_,_,_,_,_,rfl,v4b sd cm hzk⟩
    ·refine ⟨_,by simp [g1,nn,cm,u0F,hsz,-u0N,-u0j,-Res.bind_ok,-L2.go_ok,-Out.then_nx,bindN,goN,thenN];rfl,rs++[(hs[j]'(by omega),bs)],_,_,_,_,_,by simp [rT];exact ⟨rfl,rfl,rfl,rfl,rfl⟩,v4c sd cm r hzk⟩
 obtain ⟨ρ,rs,rfl,g,sd⟩:=q
 have n1:1≤rs.length:=by
  have:=sd.all 0 (by omega) (by omega)
  have h9:=List.length_pos_of_mem this
  simp only [hsOf,List.length_map] at h9
  omega
 refine ⟨rs,by simp [g],by have:=sd.l;omega,gr_of hh hg h5 n1 sd.nd sd.rh fun p hp b hb hbh=>?_⟩
 obtain ⟨j,hj,rfl⟩:=List.getElem_of_mem hbh
 exact sd.all j hj (by omega)
abbrev Rules (G:FD):Prop:=∀ (ns:List Int) (i:Nat),∃ rs:List RR,G [scr ns,dN i]=.ok (dR rs)∧rs.length≤6∧GR rs
noncomputable def ph (hs ss:List Str) (p:SH):RR:=(hs.getD p.1 "",p.2.map (sy hs ss))
theorem u6l {l:List Str}{i:Nat} (h:i<l.length):l.getD i ""∈l:=by rw [u1J h];exact List.getElem_mem h
theorem u6m {l:List Str} (nd:l.Nodup) {i j:Nat} (hi:i<l.length) (hj:j<l.length) (e:l.getD i ""=l.getD j ""):i=j:=by
 rw [u1J hi,u1J hj] at e
 exact (List.getElem_inj nd).mp e
theorem v1B {α β:Type}{f:α→β}:∀ {xs ys:List α},(∀ x∈xs,∀ y∈ys,f x=f y→x=y)→xs.map f=ys.map f→xs=ys
 | [],[],_,_=>rfl
 | [],_::_,_,e=>by cases e
 | _::_,[],_,e=>by cases e
 | x::xs,y::ys,h,e=>by
  simp only [List.map_cons,List.cons.injEq] at e
  rw [h x List.mem_cons_self y List.mem_cons_self e.1,v1B (fun a ha b hb=>h a (List.mem_cons_of_mem _ ha) b (List.mem_cons_of_mem _ hb)) e.2]
theorem nd_on {α β:Type}{f:α→β}{xs:List α} (nd:xs.Nodup) (h:∀ x∈xs,∀ y∈xs,f x=f y→x=y):(xs.map f).Nodup:=by
 unfold List.Nodup
 rw [List.pairwise_map]
 exact nd.imp_of_mem fun {a b} ha hb hab e=>hab (h a ha b hb e)
section
variable {hs ss:List Str}
theorem u8J (l1:hs.length=3) (l2:ss.length=5) {x:Nat} (h:x<3∨(10≤x∧x<15)):(sy hs ss x∈hs∧x<3)∨(sy hs ss x∈ss∧10≤x):=by
 unfold sy
 by_cases c:10≤x
 ·rw [if_pos c];exact .inr ⟨u6l (by omega),c⟩
 ·rw [if_neg c];exact .inl ⟨u6l (by omega),by omega⟩
theorem sy_inj (H:HDS hs) (hg:∀ z∈ss,okG z=true) (nd:ss.Nodup) (l1:hs.length=3) (l2:ss.length=5) {x y:Nat} (hx:x<3∨(10≤x∧x<15)) (hy:y<3∨(10≤y∧y<15)) (e:sy hs ss x=sy hs ss y):x=y:=by
 have no:∀ z,z∈hs→z∈ss→False:=fun z a b=>by
  have h1:=(u3B (H.hh z a).ok).2.2
  rw [(u3o (hg z b)).1] at h1;cases h1
 rcases u8J l1 l2 hx with ⟨a,a'⟩ | ⟨a,a'⟩ <;> rcases u8J l1 l2 hy with ⟨b,b'⟩ | ⟨b,b'⟩
 ·unfold sy at e
  rw [if_neg (by omega),if_neg (by omega)] at e
  exact u6m H.nd (by omega) (by omega) e
 ·exact (no _ a (e ▸ b)).elim
 ·exact (no _ (e ▸ b) a).elim
 ·unfold sy at e
  rw [if_pos a',if_pos b'] at e
  have:=u6m nd (by omega) (by omega) e
  omega
theorem v2R (H:HDS hs) (hg:∀ z∈ss,okG z=true) (nd:ss.Nodup) (l1:hs.length=3) (l2:ss.length=5) {sh:List SH} (m:sh∈SHAPES):GR (sh.map (ph hs ss)):=by
 obtain ⟨s1,s2,s3,s4⟩:=u6L sh m
 refine gr_of H hg (by omega) (by simpa using s1) (nd_on s3 fun p hp q hq e=>?_) (fun p hp=>?_) fun p hp b hb hbh=>?_
 ·obtain ⟨⟨a1,a2,a3⟩,_⟩:=s4 p hp
  obtain ⟨⟨b1,b2,b3⟩,_⟩:=s4 q hq
  obtain ⟨px,pb⟩:=p
  obtain ⟨qx,qb⟩:=q
  simp only [ph,Prod.mk.injEq] at e
  have e1:px=qx:=u6m H.nd (by rw [l1];exact a1) (by rw [l1];exact b1) e.1
  have e2:pb=qb:=v1B (fun x hx y hy=>sy_inj H hg nd l1 l2 (a3 x hx) (b3 y hy)) e.2
  rw [e1,e2]
 ·obtain ⟨p,hp0,rfl⟩:=List.mem_map.mp hp
  obtain ⟨⟨a1,a2,a3⟩,_⟩:=s4 p hp0
  refine ⟨u6l (by rw [l1];exact a1),by simp [ph];omega,fun b hb=>?_⟩
  obtain ⟨x,hx,rfl⟩:=List.mem_map.mp hb
  exact (u8J l1 l2 (a3 x hx)).imp And.left And.left
 ·obtain ⟨p,hp0,rfl⟩:=List.mem_map.mp hp
  obtain ⟨⟨a1,a2,a3⟩,a4⟩:=s4 p hp0
  obtain ⟨x,hx,rfl⟩:=List.mem_map.mp hb
  rcases u8J l1 l2 (a3 x hx) with ⟨_,c⟩ | ⟨c,c'⟩
  ·obtain ⟨q,hq,e⟩:=a4 x hx c
   refine List.mem_map.mpr ⟨_,List.mem_map.mpr ⟨q,hq,rfl⟩,?_⟩
   unfold sy
   rw [if_neg (by omega),← e]
   rfl
  ·have h1:=(u3B (H.hh _ hbh).ok).2.2
   rw [(u3o (hg _ c)).1] at h1;cases h1
end
def Sru (a0 a1 a2:Option Sl) (hs ss:List Str) (sh0:List SH) (ds:List D) (ρ:Rho):Prop:=∃ (dn sh:List SH) (a b c:Option Sl),ρ=[a0,a1,a2,some (.val (dS hs)),some (.val (dS ss)),some (.own (.l ((dn.map (ph hs ss)).map rT))),a,b,c,none]∧ds=sh.map shD∧sh0=dn++sh
def Qru (hs ss:List Str) (sh0:List SH) (o:Out):Prop:=∃ ρ:Rho,o=.nx ρ∧getV (frz ρ) 5=.ok (dR (sh0.map (ph hs ss)))
theorem cut_nd {α:Type}{xs:List α} (h:xs.Nodup) {lo hi:Option Int}:(cutC xs lo hi).Nodup:=h.sublist ((List.take_sublist _ _).trans (List.drop_sublist _ _))
theorem take3 {α:Type} (xs:List α) {n:Nat} (h1:1≤n) (h:n≤xs.length):(cutC xs none (some (n:Int))).length=n:=by
 unfold cutC
 rw [HT.sIx_none,HT.sIx_nat,List.length_take,List.length_drop]
 omega
theorem u6Z {G_law_row:FD} (c__law_row:Callee P w K mg base 2 "_law_row" ["_law_script","_law_at","_law_base","_law_count"] (spF K G_law_row)) {G_law_heads:FD} (c__law_heads:Callee P w K mg base 1 "_law_heads" ["_law_cell_here","_law_many"] (spF K G_law_heads)) {G_law_signs:FD} (c__law_signs:Callee P w K mg base 1 "_law_signs" ["_law_cell_here","_law_many"] (spF K G_law_signs)) {G_law_drawn_rules:FD} (c__law_drawn_rules:Callee P w K mg base 3 "_law_drawn_rules" ["_law_script","_law_at","_law_heads_here","_law_signs_here","_law_more"] (spF K G_law_drawn_rules)) {G_law_shape:FD} (c__law_shape:Callee P w K mg base 1 "_law_shape" ["_law_number"] (spF K G_law_shape)) {G_law_symbol:FD} (c__law_symbol:Callee P w K mg base 1 "_law_symbol" ["_law_number","_law_heads_here","_law_signs_here"] (spF K G_law_symbol)) (p_row:Row G_law_row) (p_heads:Heads G_law_heads) (p_signs:Signs G_law_signs) (p_shape:Shape G_law_shape) (p_symb:Symb G_law_symbol) (p_drawn:Drawn G_law_drawn_rules) (F:Fun K "_law_rules" "_law_rules" u2b f fd) (T:Txt K mg A):∃ G,FnOk P w K mg base CX0 4 f fd ["_law_script","_law_at"] (spF K G)∧Rules G:=by
 refine ⟨_,F.okT (k:=3) u0B (fun cdv Ar outer s H E hr=>u0d (ds_n u0B.nd (d_fn c__law_row hr (u0a (dv 0) (u0a (dv 1) (u0a (d_op u1o (d_op u1o (d_op u1o u0c u0c) u0c) u0c) (u0a u0c u0b))))))
  (u0d (ds_n u0B.nd (d_fn c__law_heads hr (u0a (d_ix x_ix (dv 2) u0c) (u0a u0c u0b))))
  (u0d (ds_n u0B.nd (d_fn c__law_signs hr (u0a (d_ix x_ix (dv 2) u0c) (u0a u0c u0b))))
  (u0d (u0z (u0q o_lt (d_op u8t (d_ix x_ix (dv 2) u0c) u0c) u0c) (u0d (u1K u0B.nd (u3Y u0b))
   (u0d (u0G rfl (u0E (d_fn c__law_shape hr (u0a (d_ix x_ix (dv 2) u0c) u0b))) (u1Y (n:=2) rfl (u0o (dg_n u0B.nd) (u0o (dg_n u0B.nd) u1k)))
   (u0d (u6u ["_law_number"] [3,4] rfl (u0v (sc:=defScope u2b) (N:=["_law_script","_law_at","_law_draws","_law_names","_law_signs_here","_law_rules_here","_law_head","_law_body","_law_symbols","_law_heads_here"]) (by decide +kernel)) u0B.nd (u0E (dv 7)) (dg_n (show (["_law_number","_law_names","_law_signs_here"]:List Str).Nodup by decide +kernel)) u1Z (d_fn c__law_symbol hr (u0a (dv 0) (u0a (dv 1) (u0a (dv 2) u0b)))))
    (u0e (u1L 5 (u0f (u0a (d_ix x_ix (dv 3) (dv 6)) (u0a (d_T u2r T.z_tuple (by decide +kernel) (u0a (dv 8) u0b)) u0b)))))))
   (u0e (u0i (dv 5))))) u0s)
  (u0d (ds_n u0B.nd (d_sl (dv 3) u4Z (u2f (d_op u1P u0c (d_op u1i (d_ix x_ix (dv 2) u0c) u0c)))))
  (u0e (u0i (d_fn c__law_drawn_rules hr (u0a (dv 0) (u0a (d_op u1P (dv 1) u0c) (u0a (dv 9) (u0a (d_sl (dv 4) u4Z (u2f (d_op u1P u0c (d_op u1i (d_op u8t (d_ix x_ix (dv 2) u0c) u0c) u0c)))) (u0a (d_op u1i (d_op u8t (d_ix x_ix (dv 2) u0c) u0c) u0c) u0b))))))))))))),?_⟩
 intro ns i
 obtain ⟨ds,er,hl,hd⟩:=p_row ns i 360 3 (by omega) (by omega) (by omega)
 obtain ⟨d0,d1,d2,rfl⟩:=three hl
 have er':G_law_row [scr ns,dN i,.int 360,.int 3]=.ok (.lst [dN d0,dN d1,dN d2]):=er
 obtain ⟨hs,eh,lh,hh⟩:=p_heads d1 3 (by omega)
 obtain ⟨ss,es,ls,hg,nds⟩:=p_signs d2 5 (by omega)
 have eh':G_law_heads [dN d1,.int 3]=.ok (dS hs):=eh
 have es':G_law_signs [dN d2,.int 5]=.ok (dS ss):=es
 obtain ⟨sh0,m0,e1⟩:=p_shape d0
 obtain ⟨z1,z2,z3,z4⟩:=u6L sh0 m0
 have m1:dMulX (.int 3) (.int 3)=.ok (.int 9):=u2E (by omega)
 have m2:dMulX (.int 9) (.int 5)=.ok (.int 45):=u2E (by omega)
 have m3:dMulX (.int 45) (.int 8)=.ok (.int 360):=u2E (by omega)
 have v1:dDiv (dN d0) (.int 45)=.ok (.int ((d0:Int) / 45)):=u5c (by omega) (by omega)
 simp [runT,startD,m1,m2,m3,er',u3E,u7r,ixl_2,eh',es',v1]
 by_cases c:(d0:Int) / 45<3
 ·simp [c,e1,u3E]
  generalize hI:forD _ _ _ _=o
  have q:Qru hs ss sh0 o:=by
   rw [← hI]
   refine u1d (Sru _ _ _ hs ss sh0) (Qru hs ss sh0) ?_ ?_ (sh0.map shD) _ ⟨[],sh0,none,none,none,rfl,rfl,rfl⟩
   ·rintro ρ ⟨dn,sh,a,b,c,rfl,e,e0⟩
    cases sh with
    | cons p sh=>cases e
    | nil =>
     rw [List.append_nil] at e0
     subst e0
     exact ⟨_,rfl,rfl⟩
   ·rintro d ds ρ ⟨dn,sh,a,b,c,rfl,e,e0⟩
    cases sh with
    | nil=>cases e
    | cons p sh =>
     cases e
     have hp:p∈sh0:=by rw [e0];simp
     have hdl:dn.length≤6:=by have:=congrArg List.length e0;simp at this;omega
     obtain ⟨⟨k1,k2,k3⟩,_⟩:=z4 p hp
     obtain ⟨x,xs⟩:=p
     have k2:xs.length≤3:=k2
     have k1:x<3:=k1
     refine ⟨_,rfl,.inl ?_⟩
     have s2:=ix_m (c:=D.str) (rs:=hs) (i:=x) (by omega)
     have hxl:xs.length≤sizeLine:=Nat.le_trans k2 (by decide)
     have hsz:dn.length<sizeLine:=Nat.lt_of_le_of_lt (show dn.length≤1000 by omega) (by decide)
     simp [hxl]
     rw [u0K (onI (sy hs ss)) fun d hd=>?_]
     ·rw [dN_onI]
      have g1:gTuple [dS (xs.map (sy hs ss))]=.ok (.tup ((xs.map (sy hs ss)).map D.str)):=rfl
      have g2:ph hs ss (x,xs)=(hs[x]'(by omega),xs.map (sy hs ss)):=by unfold ph;rw [u1J]
      refine ⟨_,by simp [g1,s2,u0F,hsz];rfl,dn++[(x,xs)],sh,_,_,_,by simp [rT,g2];exact ⟨rfl,rfl,rfl⟩,rfl,by rw [e0];simp⟩
     ·obtain ⟨t,ht,rfl⟩:=List.mem_map.mp hd
      have t2:=p_symb t hs ss lh ls (k3 t ht)
      exact ⟨_,rfl,by simp,by simp [rhoC,t2,onI]⟩
  obtain ⟨ρ,rfl,g⟩:=q
  exact ⟨_,by simp [g],by simpa using z2,v2R hh hg nds lh ls m0⟩
 ·obtain ⟨j,ej,hj⟩:=modZ (d0:Int) (b:=3) (by omega)
  have s1:dMod (dN d0) (.int 3)=.ok (dN j):=by rw [u0D (by omega),ej]
  have s3:dDiv (dN d0) (.int 3)=.ok (.int ((d0:Int) / 3)):=u5c (by omega) (by omega)
  obtain ⟨j2,ej2,hj2⟩:=modZ ((d0:Int) / 3) (b:=3) (by omega)
  have s4:dMod (.int ((d0:Int) / 3)) (.int 3)=.ok (dN j2):=by rw [u0D (by omega),ej2]
  have s5:dDiv (dN d0) (.int 9)=.ok (.int ((d0:Int) / 9)):=u5c (by omega) (by omega)
  obtain ⟨j3,ej3,hj3⟩:=modZ ((d0:Int) / 9) (b:=4) (by omega)
  have s6:dMod (.int ((d0:Int) / 9)) (.int 4)=.ok (dN j3):=by rw [u0D (by omega),ej3]
  obtain ⟨hs2,lh2,nh2,eh2⟩:∃ hs2:List Str,hs2.length=1+j∧HDS hs2∧dSl (dS hs) none (some (1+(j:Int)))=.ok (dS hs2):=⟨cutC hs none (some ((1+j:Nat):Int)),take3 hs (by omega) (by omega),⟨fun z hz=>hh.hh z (u6x hz),cut_nd hh.nd,fun a ha b hb=>hh.fl a (u6x ha) b (u6x hb)⟩,by show Res.ok (D.lst (cutC (hs.map D.str) none (some ((1+j:Nat):Int))))=_;rw [u6y]⟩
  obtain ⟨ss2,ls2,ms2,es2⟩:∃ ss2:List Str,ss2.length=1+j2∧(∀ z∈ss2,z∈ss)∧dSl (dS ss) none (some (1+(j2:Int)))=.ok (dS ss2):=⟨cutC ss none (some ((1+j2:Nat):Int)),take3 ss (by omega) (by omega),fun z hz=>u6x hz,by show Res.ok (D.lst (cutC (ss.map D.str) none (some ((1+j2:Nat):Int))))=_;rw [u6y]⟩
  obtain ⟨rs,e,h1,h2⟩:=p_drawn ns (i+1) hs2 ss2 j3 (by omega) (by omega) (by omega) (by omega) nh2 (fun z hz=>hg z (ms2 z hz))
  have e':G_law_drawn_rules [scr ns,.int ((i:Int)+1),dS hs2,dS ss2,dN j3]=.ok (dR rs):=e
  refine ⟨rs,?_,h1,h2⟩
  simp [c,u3E,s1,s3,s4,s5,s6,asI,eh2,es2,e']
structure RuD (d:D):Prop where
 g:goodD d=true
 pl:∀ p,asRule d=some p→∀ b∈p.2,sgnS b=true→b∈POOL
structure RkD (d:D):Prop where
 g:goodD d=true
 rk:rkOk d=true
theorem u2A:∀ {ds:List D},(∀ d∈ds,goodD d=true)→goodDs ds=true
 | [],_=>rfl
 | d::ds,h=>by
  rw [goodDs,h d List.mem_cons_self,u2A fun x hx=>h x (List.mem_cons_of_mem _ hx)]
  rfl
theorem u2z {bs:List Str} (h:∀ b∈bs,goodS b=true):goodDs (bs.map D.str)=true:=u2A fun d hd=>by
 obtain ⟨b,hb,rfl⟩:=List.mem_map.mp hd
 exact h b hb
theorem v4e {p q:RR} (h:rT p=rT q):p=q:=by
 obtain ⟨a,as⟩:=p
 obtain ⟨b,bs⟩:=q
 simp only [rT,D.tup.injEq,List.cons.injEq,D.str.injEq,and_true] at h
 rw [h.1,(List.map_inj_right (fun x y e=>D.str.inj e)).mp h.2]
theorem u9m {a b:D} (h:goodD a=true) (k:goodD b=true):goodD (.tup [a,b])=true:=by
 show goodDs [a,b]=true
 simp [goodDs,h,k]
theorem ru_rT {p:RR} (h:VR p):RuD (rT p) where
 g:=u9m h.1.gh (u2z h.1.gs)
 pl q e:=by
  rw [v4e (u5h e).1] at h
  exact h.2
theorem rk_of {z:Str}{bs:List Str} (h:goodS z=true) (hb:∀ b∈bs,goodS b=true):RkD (.tup [.str z,.tup (bs.map D.str)]) where
 g:=u9m h (u2z hb)
 rk:=by
  have:PyData.strOk z=true:=by
   unfold goodS at h
   exact (Bool.and_eq_true_iff.mp h).1
  show isOkR (cmpD (.str z))=true
  rw [u1S this]
  rfl
def RkDs (ks:List D):Prop:=∀ d∈ks,RkD d
def RuDs (ks:List D):Prop:=∀ d∈ks,RuD d
theorem rus_rT {rs:List RR} (h:VRs rs):RuDs (rs.map rT):=fun d hd=>by
 obtain ⟨p,hp,rfl⟩:=List.mem_map.mp hd
 exact ru_rT (h p hp)
theorem sgs_few {rs:List RR} (h:VRs rs):(sgL [] rs).length<64:=by
 have:=v0S (pool:=POOL) (u8L (rs:=rs) (ss:=[]) (by simp)) (u3u (P:=fun z=>z∈POOL) (fun z hz=>(nomatch hz)) fun p hp b hb s=>(h p hp).2 b hb s)
 exact Nat.lt_of_le_of_lt this (by decide)
theorem v3J {ds:List D} (h:RuDs ds):Hand (.lst ds) where
 g:=u2A fun d hd=>(h d hd).g
 few e:=by
  have g:goodD (.lst ds)=true:=u2A fun d hd=>(h d hd).g
  obtain ⟨e1,l1,l2,ok⟩:=u9v e g
  refine ⟨ok,l2,sgs_few fun p hp=>⟨ok p hp,?_⟩⟩
  obtain ⟨d,hd,ed⟩:=List.mem_filterMap.mp hp
  exact (h d hd).pl p ed
theorem v1W {ds:List D} (h:RkDs ds):HandK (.lst ds) where
 g:=u2A fun d hd=>(h d hd).g
 rk:=by
  rintro xs (e | e) x hx
  ·cases e;exact (h x hx).rk
  ·cases e
noncomputable def SIDE:List Str:=["left","right","none"]
theorem u3j:∀ z∈SIDE,goodS z=true∧sideD (.str z)=true:=by decide +kernel
structure KR (kk:List RR):Prop where
 l:kk.length≤6
 g:∀ p∈kk,p.1∈SIDE∧1≤p.2.length∧p.2.length≤10∧∀ b∈p.2,okG b=true
 nd:(kk.flatMap (·.2)).Nodup
abbrev Ranks (G:FD):Prop:=∀ (ns:List Int) (i:Nat),∃ kk:List RR,G [scr ns,dN i]=.ok (dR kk)∧KR kk
structure SK (pool:List Str) (k:Nat) (kk:List RR):Prop where
 l:kk.length=k
 g:∀ p∈kk,p.1∈SIDE∧1≤p.2.length∧p.2.length≤10∧∀ b∈p.2,okG b=true
 sub:(kk.flatMap (·.2)).Sublist (pool.take (3*k))
def SrkL (a0 a1:Option Sl) (ds:List Nat) (pool:List Str) (k:Nat) (ρ:Rho):Prop:=∃ (kk:List RR) (a b:Option Sl),ρ=[a0,a1,some (.val (.lst (ds.map dN))),some (.val (dS pool)),some (.own (.l (kk.map rT))),a,b]∧SK pool k kk
def QrkL (pool:List Str) (m:Nat) (o:Out):Prop:=∃ (ρ:Rho) (kk:List RR),o=.nx ρ∧getV (frz ρ) 4=.ok (dR kk)∧SK pool m kk
theorem cut_at {α:Type} (xs:List α) {a n:Nat} (h:a+n≤xs.length):cutC xs (some (a:Int)) (some ((a+n:Nat):Int))=(xs.drop a).take n:=by
 unfold cutC
 rw [HT.sIx_nat,HT.sIx_nat,Nat.min_eq_left (by omega),Nat.min_eq_left (by omega)]
 congr 1
 omega
theorem sk_new {pool:List Str}{k n:Nat}{kk:List RR} (h:SK pool k kk) (hp:∀ z∈pool,okG z=true) {z:Str} (hz:z∈SIDE) (h1:1≤n) (h3:n≤3) (hl:3*k+n≤pool.length):SK pool (k+1) (kk++[(z,(pool.drop (3*k)).take n)]) where
 l:=by simp [h.l]
 g p q:=by
  rcases List.mem_append.mp q with q | q
  ·exact h.g p q
  ·rw [List.mem_singleton.mp q]
   refine ⟨hz,?_,?_,fun b hb=>hp b (List.mem_of_mem_drop (List.mem_of_mem_take hb))⟩
   ·simp only [List.length_take,List.length_drop];omega
   ·simp only [List.length_take,List.length_drop];omega
 sub:=by
  rw [List.flatMap_append,show 3*(k+1)=3*k+3 by omega,List.take_add]
  refine h.sub.append ?_
  simp only [List.flatMap_cons,List.flatMap_nil,List.append_nil]
  have:(pool.drop (3*k)).take n=((pool.drop (3*k)).take 3).take n:=by rw [List.take_take,Nat.min_eq_left h3]
  rw [this]
  exact List.take_sublist _ _
theorem u7a {G_law_row:FD} (c__law_row:Callee P w K mg base 2 "_law_row" ["_law_script","_law_at","_law_base","_law_count"] (spF K G_law_row)) {G_law_signs:FD} (c__law_signs:Callee P w K mg base 1 "_law_signs" ["_law_cell_here","_law_many"] (spF K G_law_signs)) (p_row:Row G_law_row) (p_signs:Signs G_law_signs) (F:Fun K "_law_ranks" "_law_ranks" u2Q f fd) (T:Txt K mg A):∃ G,FnOk P w K mg base CX0 3 f fd ["_law_script","_law_at"] (spF K G)∧Ranks G:=by
 refine ⟨_,F.okT (k:=2) u0X (fun cdv Ar outer s H E hr=>u0d (ds_n u0X.nd (d_fn c__law_row hr (u0a (dv 0) (u0a (dv 1) (u0a (d_op u1o (d_op u1o u0c u0c) u0c) (u0a u0c u0b))))))
  (u0d (ds_n u0X.nd (d_fn c__law_signs hr (u0a (d_ix x_ix (dv 2) u0c) (u0a u0c u0b))))
  (u0d (u1K u0X.nd (u3Y u0b))
  (u0d (u0G rfl (u1p T.z_range (u0a (d_op u1i (d_ix x_ix (dv 2) u0c) u0c) u0b)) (dg_n u0X.nd)
  (u0d (ds_n u0X.nd (d_ix x_ix (u1l (u0a u0p (u0a u0p (u0a u0p u0b)))) (d_op u1i (d_ix x_ix (dv 2) (d_op u1P u0c (dv 5))) u0c)))
   (u0e (u1L 4 (u0f (u0a (dv 6) (u0a (d_T u2r T.z_tuple (by decide +kernel) (u0a (d_sl (dv 3) (u2f (d_op u1o u0c (dv 5))) (u2f (d_op u1P (d_op u1P (d_op u1o u0c (dv 5)) u0c) (d_op u1i (d_op u8t (d_ix x_ix (dv 2) (d_op u1P u0c (dv 5))) u0c) u0c)))) u0b)) u0b)))))))
  (u0e (u0i (dv 4))))))),?_⟩
 intro ns i
 obtain ⟨ds,er,hl,hd⟩:=p_row ns i 756 8 (by omega) (by omega) (by omega)
 have er':G_law_row [scr ns,dN i,.int 756,.int 8]=.ok (.lst (ds.map dN)):=er
 have m1:dMulX (.int 18) (.int 7)=.ok (.int 126):=u2E (by omega)
 have m2:dMulX (.int 126) (.int 6)=.ok (.int 756):=u2E (by omega)
 have x0:dIx (.lst (ds.map dN)) (.int 0)=.ok (dN (ds[0]'(by omega))):=ix_m (i:=0) (by omega)
 have x1:dIx (.lst (ds.map dN)) (.int 1)=.ok (dN (ds[1]'(by omega))):=ix_m (i:=1) (by omega)
 obtain ⟨pool,es,ls,hg,nd⟩:=p_signs (ds[0]'(by omega)) 18 (by omega)
 have es':G_law_signs [dN (ds[0]'(by omega)),.int 18]=.ok (dS pool):=es
 obtain ⟨m,em,hm⟩:=modZ (ds[1]'(by omega):Int) (b:=7) (by omega)
 have s1:dMod (dN (ds[1]'(by omega))) (.int 7)=.ok (dN m):=by rw [u0D (by omega),em]
 simp [runT,startD,m1,m2,er',x0,x1,es',s1,u6S (show m≤1000 by omega),-u0N,-u0j,-Res.bind_ok,-L2.go_ok,-Out.then_nx,bindN,goN,thenN]
 generalize hI:forD _ _ _ _=o
 have q:QrkL pool m o:=by
  rw [← hI]
  refine u4p (SrkL _ _ ds pool) (QrkL pool m) ⟨[],none,none,rfl,rfl,fun p h=>(nomatch h),by simp⟩ ?_ ?_
  ·rintro ρ ⟨kk,a,b,rfl,h⟩
   exact ⟨_,kk,rfl,rfl,h⟩
  ·rintro k ρ hk ⟨kk,a,b,rfl,h⟩
   refine ⟨_,rfl,.inl ?_⟩
   have h1:=h.l
   have hx:2+k<ds.length:=by omega
   have x2:dIx (.lst (ds.map dN)) (.int (2+(k:Int)))=.ok (dN (ds[2+k]'hx)):=ix_m (i:=2+k) hx
   generalize ds[2+k]'hx=y at x2
   obtain ⟨t,et,ht⟩:=modZ (y:Int) (b:=3) (by omega)
   have t1:dMod (dN y) (.int 3)=.ok (dN t):=by rw [u0D (by omega),et]
   obtain ⟨z,hz,t2⟩:=u7s (c:=D.str) (rs:=SIDE) (i:=t) (by show t<3;omega)
   have t2':dIx (.lst [.str "left",.str "right",.str "none"]) (dN t)=.ok (.str z):=t2
   have t3:dDiv (dN y) (.int 3)=.ok (.int ((y:Int) / 3)):=u5c (by omega) (by omega)
   obtain ⟨e,ee,he⟩:=modZ ((y:Int) / 3) (b:=3) (by omega)
   have t4:dMod (.int ((y:Int) / 3)) (.int 3)=.ok (.int (e:Int)):=by rw [u0D (by omega),ee]
   have t5:dMulX (.int 3) (.int (k:Int))=.ok (.int (3*(k:Int))):=u2E (by omega)
   have t6:dSl (dS pool) (some (3*(k:Int))) (some (3*(k:Int)+1+(e:Int)))=.ok (dS ((pool.drop (3*k)).take (1+e))):=by
    have e1:(3*(k:Int))=((3*k:Nat):Int):=by omega
    have e2:(3*(k:Int)+1+(e:Int))=((3*k+(1+e):Nat):Int):=by omega
    show Res.ok (D.lst (cutC (pool.map D.str) (some (3*(k:Int))) (some (3*(k:Int)+1+(e:Int)))))=_
    rw [e2,e1,u6y,cut_at pool (a:=3*k) (n:=1+e) (by omega)]
   have sk:=sk_new h hg hz (n:=1+e) (by omega) (by omega) (by omega)
   generalize (pool.drop (3*k)).take (1+e)=bs at t6 sk
   have g1:gTuple [dS bs]=.ok (.tup (bs.map D.str)):=rfl
   have hsz:kk.length<sizeLine:=Nat.lt_of_le_of_lt (show kk.length≤1000 by omega) (by decide)
   refine ⟨_,by simp [x2,t1,t2',t3,t4,t5,t6,asI,g1,u0F,hsz,-u0N,-u0j,-Res.bind_ok,-L2.go_ok,-Out.then_nx,bindN,goN,thenN];rfl,kk++[(z,bs)],_,_,by simp [rT];exact ⟨rfl,rfl⟩,sk⟩
 obtain ⟨ρ,kk,rfl,g,h⟩:=q
 exact ⟨kk,by simp [g],by have:=h.l;omega,h.g,nd.sublist (h.sub.trans (List.take_sublist _ _))⟩
structure GS (rs:List RR):Prop where
 n1:1≤rs.length
 n:rs.length≤7
 v:VRs rs
 nd:rs.Nodup
 cl:∀ p∈rs,∀ b∈p.2,b∈hsOf rs∨okG b=true
 sg:∃ ss:List Str,ss.length≤5∧∀ p∈rs,∀ b∈p.2,sgnS b=true→b∈ss
 hn:∀ p∈rs,sgnS p.1=false
theorem pool_hd:∀ z∈POOL,hdS z=false:=by decide +kernel
theorem u7S {p:RR} (o:OkR p):asRule (rT p)=some p:=by
 obtain ⟨p',e,e2⟩:=u3g (ok_rule o)
 rw [e,v4e e2]
theorem u5F:∀ {qs rs:List RR},(rs++qs).Nodup→(∀ p∈qs,OkR p)→goRules rs (qs.map rT)=.fine
 | [],_,_,_=>rfl
 | p::qs,rs,nd,ok=>by
  have np:¬ p∈rs:=fun h=>(List.nodup_append.mp nd).2.2 p h p List.mem_cons_self rfl
  simp only [List.map_cons,goRules,u7S (ok p List.mem_cons_self),if_neg np]
  exact u5F (rs:=rs++[p]) (by simpa using nd) fun q hq=>ok q (List.mem_cons_of_mem _ hq)
theorem rsOf_dR {rs:List RR} (ok:∀ p∈rs,OkR p):rsOf (dR rs)=rs:=by
 show (rs.map rT).filterMap asRule=rs
 induction rs with
 | nil=>rfl
 | cons p rs ih =>
  rw [List.map_cons,List.filterMap_cons,u7S (ok p List.mem_cons_self)]
  simp only
  rw [ih fun q hq=>ok q (List.mem_cons_of_mem _ hq)]
theorem v1Y {hs:List Str}:∀ {rs:List RR},(∀ p∈rs,∀ b∈p.2,hdS b=true→b∈hs)→goKn hs () rs=.fine
 | [],_=>rfl
 | p::rs,h=>by
  have:fstUnk hs p.2=none:=List.find?_eq_none.mpr fun b hb=>by
   have:=h p List.mem_cons_self b hb
   simp only [Bool.and_eq_true,Bool.not_eq_true',decide_eq_false_iff_not,not_and,Classical.not_not]
   exact this
  unfold goKn
  rw [this]
  exact v1Y fun q hq=>h q (List.mem_cons_of_mem _ hq)
theorem u1V {rs:List RR}{z:Str}:z∈headsL rs↔z∈hsOf rs:=by unfold headsL;rw [u1C,u1U]
theorem okG_hd {z:Str} (h:okG z=true):hdS z=false:=pool_hd z (u3o h).2.2
theorem set_len (ss:List Str):(setOfT ss).length≤ss.length:=by have:=u2q ss [];simpa [setOfT] using this
section
variable {rs kk:List RR}
theorem GS.ok (h:GS rs):∀ p∈rs,OkR p:=fun p hp=>(h.v p hp).1
theorem GS.sl (h:GS rs):(sgL [] rs).length≤5:=by
 obtain ⟨ss,l,hs⟩:=h.sg
 exact Nat.le_trans (v0S (pool:=ss) (u8L (by simp)) (u3u (P:=fun z=>z∈ss) (fun z hz=>(nomatch hz)) hs)) l
theorem GS.few (h:GS rs):Few rs:=⟨h.ok,by have:=h.n;omega,by have:=h.sl;omega⟩
theorem GS.rules (h:GS rs):dueRules (dR rs)=.fine:=by
 show (if 1≤(rs.map rT).length∧(rs.map rT).length≤20 then goRules [] (rs.map rT) else .many _)=_
 rw [if_pos (by have:=h.n1;have:=h.n;simp;omega)]
 exact u5F (by simpa using h.nd) h.ok
theorem GS.heads (h:GS rs):dueHeads rs=.fine:=by
 unfold dueHeads
 rw [v1Y fun p hp b hb s=>u1V.mpr ((h.cl p hp b hb).resolve_right fun z=>by rw [okG_hd z] at s;cases s)]
 show dueFew rs=_
 unfold dueFew
 have h1:(setOfT (hsOf rs)).length≤7:=Nat.le_trans (set_len _) (by simpa [hsOf] using h.n)
 have h2:=h.sl
 rw [if_neg (by omega),if_neg (by omega)]
theorem v2F {p:RR} (h:p.1∈SIDE∧1≤p.2.length∧p.2.length≤10∧∀ b∈p.2,okG b=true):asRank (rT p)=some p.2:=by
 obtain ⟨h1,h2,h3,h4⟩:=h
 have:rankD (rT p)=true:=by
  simp only [rT,rankD,rsgD,Bool.and_eq_true,List.length_map,decide_eq_true_eq,List.all_map,List.all_eq_true]
  exact ⟨(u3j _ h1).2,h2,h3,fun b hb=>(u3o (h4 b hb)).1⟩
 show (if rankD (rT p)=true then strsOf (p.2.map D.str) else none)=_
 rw [if_pos this,u2t]
theorem u7W:∀ {ss ks:List Str},(ks++ss).Nodup→addAll ks ss=some (ks++ss)
 | [],ks,_=>by simp [addAll]
 | b::ss,ks,nd=>by
  have nb:¬ b∈ks:=fun h=>(List.nodup_append.mp nd).2.2 b h b List.mem_cons_self rfl
  rw [addAll,if_neg nb,u7W (by simpa using nd)]
  simp
theorem v1X:∀ {kk:List RR}{ks:List Str},(∀ p∈kk,asRank (rT p)=some p.2)→(ks++kk.flatMap (·.2)).Nodup→goRk ks (kk.map rT)=.fine
 | [],_,_,_=>rfl
 | p::kk,ks,h,nd=>by
  rw [List.flatMap_cons,← List.append_assoc] at nd
  simp only [List.map_cons,goRk,h p List.mem_cons_self,u7W (List.nodup_append.mp nd).1]
  exact v1X (fun q hq=>h q (List.mem_cons_of_mem _ hq)) nd
theorem KR.fine (h:KR kk):dueRanks (dR kk)=.fine:=by
 show (if (kk.map rT).length > 6 then .many _ else goRk [] (kk.map rT))=_
 rw [if_neg (by have:=h.l;simp;omega)]
 exact v1X (fun p hp=>v2F (h.g p hp)) (by simpa using h.nd)
theorem KR.hand (h:KR kk):HandK (dR kk):=v1W fun d hd=>by
 obtain ⟨p,hp,rfl⟩:=List.mem_map.mp hd
 exact rk_of (u3j _ (h.g p hp).1).1 fun b hb=>(u3o ((h.g p hp).2.2.2 b hb)).2.1
theorem v1C {A:Adr} (h:GS rs) (k:KR kk):gInit A [dR rs,dR kk]=.ok (gFlds (dR rs) (dR kk)):=by
 have e:dueAll (dR rs) (dR kk)=.fine:=by
  unfold dueAll
  rw [h.rules,rsOf_dR h.ok,h.heads,k.fine]
  rfl
 have:gInit A [dR rs,dR kk]=((dueAll (dR rs) (toldD (dR kk))).toR A).bind fun _=>.ok (gFlds (dR rs) (dR kk)):=if_pos ⟨v3J (rus_rT h.v),k.hand,rfl⟩
 rw [this,show toldD (dR kk)=dR kk from rfl,e]
 rfl
end
noncomputable abbrev gI (A:Adr) (rs kk:List RR):D:=.ins A.Grammar (gFlds (dR rs) (dR kk))
def inSome (rs:List RR) (b:Str):Prop:=b∈hsOf rs∨∃ p∈rs,b∈p.2
theorem gr_snoc {rs:List RR} (h:GR rs) {z:Str}{bs:List Str} (hz:z∈hsOf rs) (hl:bs.length≤4) (hb:∀ b∈bs,inSome rs b) (n:¬ (z,bs)∈rs):GR (rs++[(z,bs)]):=by
 have hh:∀ x∈hsOf rs,HH x:=fun x hx=>by
  obtain ⟨p,hp,rfl⟩:=List.mem_map.mp hx
  exact h.hh p hp
 have hb2:∀ b∈bs,b∈hsOf rs∨okG b=true:=fun b m=>by
  rcases hb b m with q | ⟨p,hp,q⟩
  ·exact .inl q
  ·exact h.cl p hp b q
 have hs:hsOf (rs++[(z,bs)])=hsOf rs++[z]:=by simp [hsOf]
 have v:VR (z,bs):=u9J (hh z hz).ok hl fun b m=>(hb2 b m).imp (fun q=>(hh b q).ok) id
 obtain ⟨q0,hq0,ez⟩:=List.mem_map.mp hz
 have hd:∀ p∈rs++[(z,bs)],∃ q∈rs,q.1=p.1:=fun p hp=>by
  rcases List.mem_append.mp hp with q | q
  ·exact ⟨p,q,rfl⟩
  ·rw [List.mem_singleton.mp q];exact ⟨q0,hq0,ez⟩
 refine ⟨by simp,fun p hp=>?_,fun p hp=>?_,List.nodup_append.mpr ⟨h.nd,by simp,fun a ha b hb e=>?_⟩,fun p hp b m=>?_,fun p hp q hq e=>?_,?_⟩
 ·rcases List.mem_append.mp hp with q | q
  ·exact h.v p q
  ·rw [List.mem_singleton.mp q];exact v
 ·obtain ⟨q,hq,e⟩:=hd p hp
  rw [← e];exact h.hh q hq
 ·rw [List.mem_singleton.mp hb] at e
  exact n (e ▸ ha)
 ·rw [hs,List.mem_append]
  rcases List.mem_append.mp hp with q | q
  ·exact (h.cl p q b m).imp .inl id
  ·rw [List.mem_singleton.mp q] at m
   exact (hb2 b m).imp .inl id
 ·obtain ⟨p',hp',e1⟩:=hd p hp
  obtain ⟨q',hq',e2⟩:=hd q hq
  rw [← e1,← e2] at e ⊢
  exact h.fl p' hp' q' hq' e
 ·obtain ⟨ss,l,k⟩:=h.sg
  refine ⟨ss,l,fun p hp b m s=>?_⟩
  rcases List.mem_append.mp hp with q | q
  ·exact k p q b m s
  ·rw [List.mem_singleton.mp q] at m
   rcases hb b m with q | ⟨p,hp,q⟩
   ·rw [(u3B (hh b q).ok).2.2] at s;cases s
   ·exact k p hp b q s
theorem vr_some {rs:List RR} (h:GR rs) {z:Str}{bs:List Str} (hz:z∈hsOf rs) (hl:bs.length≤4) (hb:∀ b∈bs,inSome rs b):VR (z,bs):=by
 have hh:∀ x∈hsOf rs,okH x=true:=fun x hx=>by
  obtain ⟨p,hp,rfl⟩:=List.mem_map.mp hx
  exact (h.hh p hp).ok
 refine u9J (hh z hz) hl fun b m=>?_
 rcases hb b m with q | ⟨p,hp,q⟩
 ·exact .inl (hh b q)
 ·exact (h.cl p hp b q).imp (hh b) id
abbrev Wider (G:FD):Prop:=∀ (ns:List Int) (rs:List RR),rs.length≤6→GR rs→∃ rs':List RR,G [scr ns,dR rs]=.ok (dR rs')∧rs'.length≤7∧GR rs'
noncomputable def ren (N:List (Str×Str)) (z:Str):Str:=(N.lookup z).getD z
noncomputable def rn (N:List (Str×Str)) (p:RR):RR:=(ren N p.1,p.2.map (ren N))
structure NI (rs:List RR) (N:List (Str×Str)):Prop where
 at_:∀ a b,N.lookup a=some b→HH a∧okH b=true∧fstC b=fstC a
theorem v1D (N:List (Str×Str)) (z b a:Str):(N++[(z,b)]).lookup a=(N.lookup a).or (if a=z then some b else none):=by
 rw [List.lookup_append]
 congr 1
 by_cases c:a=z
 ·simp [List.lookup,c]
 ·simp [List.lookup,c,beq_false_of_ne c]
theorem ni_snoc {rs:List RR}{N:List (Str×Str)} (h:NI rs N) {z b:Str} (hz:HH z) (hb:okH b=true) (hf:fstC b=fstC z):NI rs (N++[(z,b)]):=⟨fun a c e=>by
 rw [v1D] at e
 cases q:N.lookup a with
 | some x=>rw [q] at e;cases e;exact h.at_ a _ q
 | none =>
  rw [q] at e
  by_cases k:a=z
  ·rw [if_pos k] at e;cases e;rw [k];exact ⟨hz,hb,hf⟩
  ·rw [if_neg k] at e;cases e⟩
section
variable {rs:List RR}{N:List (Str×Str)}
theorem u3R (h:NI rs N) (all:∀ p∈rs,(N.lookup p.1).isSome=true) {z:Str} (hz:z∈hsOf rs):okH (ren N z)=true∧fstC (ren N z)=fstC z:=by
 obtain ⟨p,hp,rfl⟩:=List.mem_map.mp hz
 obtain ⟨b,e⟩:=Option.isSome_iff_exists.mp (all p hp)
 unfold ren
 rw [e]
 exact (h.at_ _ _ e).2
theorem u4F (h:NI rs N) {z:Str} (hz:okG z=true):ren N z=z:=by
 unfold ren
 cases e:N.lookup z with
 | none=>rfl
 | some b =>
  have:=(u3B (h.at_ _ _ e).1.ok).2.2
  rw [(u3o hz).1] at this;cases this
theorem v1g (g:GR rs) (h:NI rs N) (all:∀ p∈rs,(N.lookup p.1).isSome=true) {x y:Str} (hx:x∈hsOf rs∨okG x=true) (hy:y∈hsOf rs∨okG y=true) (e:ren N x=ren N y):x=y:=by
 rcases hx with hx | hx <;> rcases hy with hy | hy
 ·have e1:=(u3R h all hx).2
  have e2:=(u3R h all hy).2
  obtain ⟨p,hp,rfl⟩:=List.mem_map.mp hx
  obtain ⟨q,hq,rfl⟩:=List.mem_map.mp hy
  exact g.fl p hp q hq (by rw [← e1,← e2,e])
 ·have e1:=(u3B (u3R h all hx).1).2.2
  rw [e,u4F h hy,(u3o hy).1] at e1;cases e1
 ·have e1:=(u3B (u3R h all hy).1).2.2
  rw [← e,u4F h hx,(u3o hx).1] at e1;cases e1
 ·rw [u4F h hx,u4F h hy] at e;exact e
theorem ren_gs (g:GR rs) (n:rs.length≤7) (h:NI rs N) (all:∀ p∈rs,(N.lookup p.1).isSome=true):GS (rs.map (rn N)):=by
 have mh:∀ p∈rs,p.1∈hsOf rs:=fun p hp=>List.mem_map.mpr ⟨p,hp,rfl⟩
 have hs:∀ z∈hsOf rs,ren N z∈hsOf (rs.map (rn N)):=fun z hz=>by
  obtain ⟨p,hp,rfl⟩:=List.mem_map.mp hz
  exact List.mem_map.mpr ⟨_,List.mem_map.mpr ⟨p,hp,rfl⟩,rfl⟩
 refine ⟨by simpa using g.n1,by simpa using n,fun p hp=>?_,nd_on g.nd fun p hp q hq e=>?_,fun p hp b hb=>?_,?_,fun p hp=>?_⟩
 ·obtain ⟨p,hp0,rfl⟩:=List.mem_map.mp hp
  refine u9J (u3R h all (mh p hp0)).1 (by have:=(g.v p hp0).1.l;simpa using this) fun b hb=>?_
  obtain ⟨x,hx,rfl⟩:=List.mem_map.mp hb
  rcases g.cl p hp0 x hx with q | q
  ·exact .inl (u3R h all q).1
  ·exact .inr (by rw [u4F h q];exact q)
 ·obtain ⟨a,as⟩:=p
  obtain ⟨b,bs⟩:=q
  simp only [rn,Prod.mk.injEq] at e
  have e1:a=b:=v1g g h all (.inl (mh _ hp)) (.inl (mh _ hq)) e.1
  have e2:as=bs:=v1B (fun x hx y hy=>v1g g h all (g.cl _ hp x hx) (g.cl _ hq y hy)) e.2
  rw [e1,e2]
 ·obtain ⟨p,hp0,rfl⟩:=List.mem_map.mp hp
  obtain ⟨x,hx,rfl⟩:=List.mem_map.mp hb
  rcases g.cl p hp0 x hx with q | q
  ·exact .inl (hs x q)
  ·exact .inr (by rw [u4F h q];exact q)
 ·obtain ⟨ss,l,k⟩:=g.sg
  refine ⟨ss,l,fun p hp b hb s=>?_⟩
  obtain ⟨p,hp0,rfl⟩:=List.mem_map.mp hp
  obtain ⟨x,hx,rfl⟩:=List.mem_map.mp hb
  rcases g.cl p hp0 x hx with q | q
  ·rw [(u3B (u3R h all q).1).2.2] at s;cases s
  ·rw [u4F h q] at s ⊢;exact k p hp0 x hx s
 ·obtain ⟨p,hp0,rfl⟩:=List.mem_map.mp hp
  exact (u3B (u3R h all (mh p hp0)).1).2.2
end
noncomputable def hdT:D→D
 | .tup [.str z,_]=>.str z
 | _=>.non
theorem v1U (rs:List RR):(rs.map rT).map hdT=(hsOf rs).map D.str:=by
 unfold hsOf
 rw [List.map_map,List.map_map]
 rfl
abbrev vO (x:Option D):Option Sl:=x.map Sl.val
@[simp] theorem own_vO (x:Option D) (ρ:Rho):ownL (vO x::ρ)=ownL ρ:=by cases x <;> rfl
@[simp] theorem frz_vO (x:Option D) (ρ:Rho):frz (vO x::ρ)=vO x::frz ρ:=by cases x <;> rfl
@[simp] theorem own_val (d:D) (ρ:Rho):ownL (some (.val d)::ρ)=ownL ρ:=rfl
@[simp] theorem own_l (ds:List D) (ρ:Rho):ownL (some (.own (.l ds))::ρ)=ownL ρ:=rfl
@[simp] theorem own_d (ds:List (D×D)) (ρ:Rho):ownL (some (.own (.d ds))::ρ)=ownL ρ:=rfl
@[simp] theorem own_nil:ownL []=true:=rfl
@[simp] theorem own_none (ρ:Rho):ownL (none::ρ)=ownL ρ:=rfl
def Swi (a b c:Option Sl) (rs:List RR) (ds:List D) (ρ:Rho):Prop:=∃ (qs:List RR) (ss:List Str) (x y:Option D),ρ=[a,b,c,some (.own (.l (ss.map D.str))),vO x,vO y,none]∧ds=qs.map rT∧(∀ q∈qs,q∈rs)∧(∀ s∈ss,inSome rs s)∧1≤ss.length∧ss.length+4*qs.length≤40
def Qwi (a b c:Option Sl) (rs:List RR) (o:Out):Prop:=∃ (ss:List Str) (x y:Option D),o=.nx [a,b,c,some (.own (.l (ss.map D.str))),vO x,vO y,none]∧(∀ s∈ss,inSome rs s)∧1≤ss.length∧ss.length≤40
theorem v1S {h:Str}{bs:List Str}{rs:List RR} (o:VR (h,bs)) (os:∀ q∈rs,VR q):dIn (.tup [.str h,.tup (bs.map D.str)]) (.lst (rs.map rT))=.ok (.bl (decide ((h,bs)∈rs))):=by
 rw [show dIn (.tup [.str h,.tup (bs.map D.str)]) (.lst (rs.map rT))=inD (rT (h,bs)) (rs.map rT) false from u5f false _ _,u9k o.1 (fun q hq=>(os q hq).1)]
 rfl
noncomputable def nD (p:Str×Str):D×D:=(.str p.1,.str p.2)
theorem valN (z:Str):∀ N:List (Str×Str),valD (N.map nD) (.inr z)=(N.lookup z).map D.str
 | []=>rfl
 | (a,b)::N=>by
  have ih:=valN z N
  unfold valD at ih ⊢
  rw [List.map_cons,List.find?_cons,List.lookup_cons]
  show Option.map (fun p:D×D=>p.2) (match eqK (D.str a) (.inr z) with | true=>some (nD (a,b)) | false=>(N.map nD).find? fun p=>eqK p.1 (.inr z))=_
  rw [u8w]
  by_cases c:a=z
  ·subst c;simp [nD]
  ·have c':(z==a)=false:=beq_false_of_ne fun h=>c h.symm
   simp only [c,c',decide_false]
   exact ih
theorem anyN (z:Str):∀ N:List (Str×Str),(N.map nD).any (fun p=>eqK p.1 (.inr z))=(N.lookup z).isSome
 | []=>rfl
 | (a,b)::N=>by
  rw [List.map_cons,List.any_cons,anyN z N,List.lookup_cons,show (nD (a,b)).1=D.str a from rfl,u8w]
  by_cases c:a=z
  ·subst c;simp
  ·have c':(z==a)=false:=beq_false_of_ne fun h=>c h.symm
   simp [c,c']
theorem putNm {N:List (Str×Str)}{z b:Str} (h:(N.lookup z).isSome=false):putD (N.map nD) (.inr z) (.str b)=(N++[(z,b)]).map nD:=by
 unfold putD
 rw [anyN,h,if_neg Bool.false_ne_true,List.map_append]
 rfl
theorem ix_nm {N:List (Str×Str)}{z:Str} (h:(N.lookup z).isSome=true):gIxK (.dct (N.map nD)) (.str z)=.ok (.str (ren N z)):=by
 obtain ⟨b,e⟩:=Option.isSome_iff_exists.mp h
 simp only [gIxK,keyK,Res.bind_ok,valN,ren,e,Option.map_some,Option.getD_some]
theorem get_nm (N:List (Str×Str)) (z:Str):gGetK (N.map nD) (.str z) (.str z)=.ok (.str (ren N z)):=by
 show (keyK (.str z)).bind _=_
 rw [show keyK (.str z)=.ok (.inr z) from rfl,Res.bind_ok,valN]
 unfold ren
 cases N.lookup z <;> rfl
theorem nm_at {z:Str} (h:HH z) {m:Nat} (hm:m<3):okH (nmz z m)=true∧fstC (nmz z m)=fstC z∧(Txt.slice z none (some (6 - (m:Int)))).length+(mulS "z" m).length≤100:=by
 obtain ⟨i,hi,j,hj,rfl⟩:=h
 exact nmz_ok i hi j hj m hm
theorem u2p:∀ ss:List Str,hardDs (ss.map D.str)=true
 | []=>rfl
 | z::ss=>by simp [hardDs,hardD,u2p ss]
noncomputable def onS (f:Str→Str):D→D
 | .str z=>.str (f z)
 | _=>.non
theorem onS_map (f:Str→Str) (ss:List Str):(ss.map D.str).map (onS f)=(ss.map f).map D.str:=by
 simp [onS,Function.comp_def]
abbrev Renm (G:FD):Prop:=∀ rs:List RR,rs.length≤7→GR rs→∃ rs':List RR,G [dR rs]=.ok (dR rs')∧GS rs'
def Sn1 (rs:List RR) (ds:List D) (ρ:Rho):Prop:=∃ (qs:List RR) (N:List (Str×Str)) (x y z:Option D),ρ=[some (.val (dR rs)),some (.own (.d (N.map nD))),vO x,vO y,vO z,none]∧ds=qs.map rT∧(∀ q∈qs,q∈rs)∧NI rs N∧N.length+qs.length≤10∧∀ p∈rs,p∈qs∨(N.lookup p.1).isSome=true
def Qn1 (rs:List RR) (o:Out):Prop:=∃ (N:List (Str×Str)) (x y z:Option D),o=.nx [some (.val (dR rs)),some (.own (.d (N.map nD))),vO x,vO y,vO z,none]∧NI rs N∧∀ p∈rs,(N.lookup p.1).isSome=true
def Sn2 (rs:List RR) (N:List (Str×Str)) (ds:List D) (ρ:Rho):Prop:=∃ (dn qs:List RR) (x y z:Option D),ρ=[some (.val (dR rs)),some (.own (.d (N.map nD))),vO x,vO y,vO z,some (.own (.l ((dn.map (rn N)).map rT)))]∧ds=qs.map rT∧rs=dn++qs
def Qn2 (rs:List RR) (N:List (Str×Str)) (o:Out):Prop:=∃ ρ:Rho,o=.nx ρ∧getV (frz ρ) 5=.ok (dR (rs.map (rn N)))
noncomputable def numsL (z:Str):Nat→List RR→List Nat
 | _,[]=>[]
 | k,p::rs=>if p.1=z then k::numsL z (k+1) rs else numsL z (k+1) rs
noncomputable def exc1 (C:Addr) (f:Str) (d:D):D:=.exc C [(f,d)]
noncomputable def numD (A:Adr) (rs:List RR) (d:D):Res (List D):=match d with
 | .str z=>if z∈hsOf rs then .ok ((numsL z 0 rs).map dN) else .err (exc1 A.NoSymbol "found" d)
 | d=>.err (exc1 A.NoSymbol "found" d)
noncomputable def atR (rs:List RR) (d:D):Option RR:=match d with
 | .int i=>if 0≤i then rs[i.toNat]? else none
 | _=>none
noncomputable def optD:Option Nat→D
 | none=>.non
 | some n=>dN n
noncomputable def rkS (kk:List RR) (z:Str):Option Nat:=kk.findIdx? fun p=>decide (z∈p.2)
noncomputable def rkD (kk:List RR) (d:D):Option Nat:=match d with
 | .str z=>rkS kk z
 | _=>none
noncomputable def rkBy (kk:List RR) (bs:List Str):Option Nat:=bs.reverse.findSome? (rkS kk)
noncomputable def numOr (A:Adr) (C:Addr) (f:Str) (rs:List RR) (d:D) (g:RR→D):Res D:=match atR rs d with
 | some p=>.ok (g p)
 | none=>.err (exc1 C f d)
noncomputable def bT (p:RR):D:=.tup (p.2.map D.str)
structure GK (rs kk:List RR):Prop where
 r:GS rs
 k:KR kk
abbrev HdN (G:List D→Res (List D)):Prop:=∀ rs:List RR,rs.length<64→G [.tup (rs.map rT)]=.ok ((headsL rs).map D.str)
abbrev SgN (G:List D→Res (List D)):Prop:=∀ rs:List RR,Few rs→G [.tup (rs.map rT)]=.ok ((sortT (sgL [] rs)).map D.str)
abbrev MHd (A:Adr) (G:List D→Res (List D)):Prop:=∀ rs kk,GK rs kk→G [gI A rs kk]=.ok ((headsL rs).map D.str)
abbrev MSg (A:Adr) (G:List D→Res (List D)):Prop:=∀ rs kk,GK rs kk→G [gI A rs kk]=.ok ((sortT (sgL [] rs)).map D.str)
abbrev MNu (A:Adr) (G:List D→Res (List D)):Prop:=∀ rs kk d,GK rs kk→goodD d=true→G [gI A rs kk,d]=numD A rs d
abbrev MNn (A:Adr) (G:FD):Prop:=∀ rs kk d,GK rs kk→goodD d=true→G [gI A rs kk,d]=numOr A A.NoRule "found" rs d fun _=>.non
abbrev MHo (A:Adr) (G:FD):Prop:=∀ rs kk d,GK rs kk→goodD d=true→G [gI A rs kk,d]=numOr A A.NoRule "found" rs d fun p=>.str p.1
abbrev MBo (A:Adr) (G:FD):Prop:=∀ rs kk d,GK rs kk→goodD d=true→G [gI A rs kk,d]=numOr A A.NoRule "found" rs d bT
abbrev MRo (A:Adr) (G:FD):Prop:=∀ rs kk d,GK rs kk→goodD d=true→G [gI A rs kk,d]=.ok (optD (rkD kk d))
abbrev MRb (A:Adr) (G:FD):Prop:=∀ rs kk d,GK rs kk→goodD d=true→G [gI A rs kk,d]=numOr A A.NoRule "found" rs d fun p=>optD (rkBy kk p.2)
abbrev MSa (A:Adr) (G:FD):Prop:=∀ rs kk d,GK rs kk→goodD d=true→G [gI A rs kk,d]=numOr A A.NoPlace "place" kk d fun p=>.str p.1
noncomputable def isW:D→Bool
 | .int _=>true
 | _=>false
theorem u2e {A:Adr} (rs kk:List RR):fldD A.Grammar "rules" (gI A rs kk)=.ok (.tup (rs.map rT)):=by
 simp [fldD,gFlds,List.lookup,itemsD]
theorem u6p {A:Adr} (rs kk:List RR):fldD A.Grammar "ranks" (gI A rs kk)=.ok (.tup (kk.map rT)):=by
 have:(Str.ofString "ranks"==Str.ofString "rules")=false:=by decide +kernel
 simp [fldD,gFlds,List.lookup,itemsD,toldD,this]
theorem u6f {A:Adr}{m:Str} (h:(m=="rules")=false∧(m=="ranks")=false∧(m=="start")=false) (rs kk:List RR):isI A.Grammar m (gI A rs kk)=.ok (gI A rs kk):=by
 have:(gFlds (dR rs) (dR kk)).lookup m=none:=by
  unfold gFlds
  rw [List.lookup_cons,h.1,List.lookup_cons,h.2.1,List.lookup_cons,h.2.2]
  rfl
 show (if A.Grammar=A.Grammar∧_ then Res.ok _ else .bad)=_
 rw [if_pos ⟨rfl,this⟩]
@[simp] theorem isI_heads {A:Adr} (rs kk:List RR):isI A.Grammar (Str.ofString "heads") (gI A rs kk)=.ok (gI A rs kk):=u6f ⟨by decide +kernel,by decide +kernel,by decide +kernel⟩ rs kk
@[simp] theorem isI_signs {A:Adr} (rs kk:List RR):isI A.Grammar (Str.ofString "signs") (gI A rs kk)=.ok (gI A rs kk):=u6f ⟨by decide +kernel,by decide +kernel,by decide +kernel⟩ rs kk
@[simp] theorem v2I {A:Adr} (rs kk:List RR):isI A.Grammar (Str.ofString "numbers_of") (gI A rs kk)=.ok (gI A rs kk):=u6f ⟨by decide +kernel,by decide +kernel,by decide +kernel⟩ rs kk
@[simp] theorem v1O {A:Adr} (rs kk:List RR):isI A.Grammar (Str.ofString "need_number") (gI A rs kk)=.ok (gI A rs kk):=u6f ⟨by decide +kernel,by decide +kernel,by decide +kernel⟩ rs kk
@[simp] theorem isI_head_of {A:Adr} (rs kk:List RR):isI A.Grammar (Str.ofString "head_of") (gI A rs kk)=.ok (gI A rs kk):=u6f ⟨by decide +kernel,by decide +kernel,by decide +kernel⟩ rs kk
@[simp] theorem isI_body_of {A:Adr} (rs kk:List RR):isI A.Grammar (Str.ofString "body_of") (gI A rs kk)=.ok (gI A rs kk):=u6f ⟨by decide +kernel,by decide +kernel,by decide +kernel⟩ rs kk
@[simp] theorem isI_rank_of {A:Adr} (rs kk:List RR):isI A.Grammar (Str.ofString "rank_of") (gI A rs kk)=.ok (gI A rs kk):=u6f ⟨by decide +kernel,by decide +kernel,by decide +kernel⟩ rs kk
@[simp] theorem isI_rank_by {A:Adr} (rs kk:List RR):isI A.Grammar (Str.ofString "rank_by") (gI A rs kk)=.ok (gI A rs kk):=u6f ⟨by decide +kernel,by decide +kernel,by decide +kernel⟩ rs kk
@[simp] theorem isI_side_at {A:Adr} (rs kk:List RR):isI A.Grammar (Str.ofString "side_at") (gI A rs kk)=.ok (gI A rs kk):=u6f ⟨by decide +kernel,by decide +kernel,by decide +kernel⟩ rs kk
theorem u8r (F:Fun K "heads_in" "heads_in" u1A f fd) (T:Txt K mg A):∃ G,FnOk P w K mg base (CXe P w) 1 f fd ["rules"] (spN K G)∧HdN G:=by
 refine ⟨_,F.okN (k:=0) u4u (fun cdv Ar outer s H E hr hq=>u7E (dn_sset rfl T.z_sorted T.z_set (u0a (DN.de (u1f ["rule"] [] rfl (u0v (sc:=defScope u1A) (N:=["rules"]) (by decide +kernel)) (u0E (dv 0)) (dg_n (show (["rule"]:List Str).Nodup by decide +kernel)) u1Z (d_ix x_ix (dv 0) u0c))) u0b))),?_⟩
 intro rs hl
 simp [L2.runN,startD,retN]
 rw [u0S (u0I (by omega)),u0K hd1 (fun d hd=>?_)]
 ·have:gSSo (.lst ((hsOf rs).map D.str))=.ok (.l ((sortT (setOfT (hsOf rs))).map D.str)):=by
   show (match strsOf ((hsOf rs).map D.str) with | some ss=>gd (ss.length<64) (Res.ok (OD.l ((sortT (setOfT ss)).map D.str))) | none=>.bad)=_
   rw [u2t]
   simp [show (hsOf rs).length<64 by simpa [hsOf] using hl]
  simp only [v1V,Res.bind_ok,v2L,one1,this]
  rfl
 ·obtain ⟨p,_,rfl⟩:=List.mem_map.mp hd
  exact ⟨_,rfl,rfl,by simp [rhoC,rT,ix_0,hd1]⟩
theorem u8q {G_is_sign:FD} (c_is_sign:Callee P w K mg base 2 "is_sign" ["thing"] (spF K G_is_sign)) (p_is_sign:P1 sgnD G_is_sign) (F:Fun K "signs_in" "signs_in" u2u f fd) (T:Txt K mg A):∃ G,FnOk P w K mg base (CXe P w) 3 f fd ["rules"] (spN K G)∧SgN G:=by
 refine ⟨_,F.okN (k:=2) u0M (fun cdv Ar outer s H E hr hq=>u8y (u1K u0M.nd u7F)
  (u8y (u0G rfl (u0E (dv 0)) (dg_n u0M.nd)
  (u0e (u0G rfl (u0E (d_ix x_ix (dv 2) u0c)) (dg_n u0M.nd)
   (u0e (u0z (u1e (d_fn c_is_sign hr (u0a (dv 3) u0b))) (u0e (u8x 1 (hu200 hr) (dv 3) d_bl)) u0s)) hq.ps)) hq.ps)
  (DRB.fix (u7E (v3T rfl T.z_sorted (u0a (dv 1) u0b)))))),?_⟩
 intro rs fw
 simp [L2.runN,startD,thenR]
 generalize hI:forD _ _ _ _=o
 have q:Qsg (.tup (rs.map rT)) (sgL [] rs) o:=by
  rw [← hI]
  refine u0Q rT (Ssg (.tup (rs.map rT))) sgL (Qsg _) ?_ ?_ rs [] _ ⟨fw.ok,by have:=fw.n;simp;omega,[],none,none,rfl,rfl⟩
  ·rintro ss ρ ⟨_,_,kvs,x,y,rfl,ek⟩
   exact ⟨kvs,x,y,rfl,ek⟩
  ·rintro ss p ps ρ ⟨ok,hl,kvs,x,y,rfl,ek⟩
   have op:=ok p List.mem_cons_self
   refine ⟨_,rfl,?_⟩
   simp [rT,ix_1]
   generalize hI:forD _ _ _ _=o
   have q:Qsg (.tup (rs.map rT)) (p.2.foldl addSg ss) o:=by
    rw [← hI]
    refine u0Q D.str (Ssi (.tup (rs.map rT)) (some (.val (rT p)))) (fun ss bs=>bs.foldl addSg ss) (Qsg _) ?_ ?_ p.2 ss _ ⟨op.gs,by have:=op.l;simp at hl;omega,kvs,y,rfl,ek⟩
    ·rintro ss ρ ⟨_,_,kvs,y,rfl,ek⟩
     exact ⟨kvs,_,y,rfl,ek⟩
    ·rintro ss b bs ρ ⟨gs,hl,kvs,y,rfl,ek⟩
     have hk:kvs.length=ss.length:=by have:=congrArg List.length ek;simpa using this
     refine ⟨_,rfl,?_⟩
     simp [p_is_sign (.str b) (by simpa [goodD] using gs b List.mem_cons_self),sgnD]
     by_cases c:sgnS b=true
     ·simp only [c,if_true]
      rw [v1i (ss:=ss) (kvs:=kvs) (b:=b) (by simp at hl;omega) rfl rfl rfl]
      exact u1r (addSg ss b) ⟨fun z hz=>gs z (List.mem_cons_of_mem _ hz),by have:=u2s ss b;simp at hl;omega,_,_,rfl,by unfold addSg;rw [if_pos c];exact u4S ek⟩ rfl
     ·simp only [c]
      exact u1r (addSg ss b) ⟨fun z hz=>gs z (List.mem_cons_of_mem _ hz),by have:=u2s ss b;simp at hl;omega,_,_,rfl,by unfold addSg;rw [if_neg c];exact ek⟩ rfl
   obtain ⟨kvs',x',y',rfl,ek'⟩:=q
   exact u1r (p.2.foldl addSg ss) ⟨fun z hz=>ok z (List.mem_cons_of_mem _ hz),by have:=u3I p.2 ss;have:=op.l;simp at hl;omega,_,_,_,rfl,ek'⟩ rfl
 obtain ⟨kvs,x,y,rfl,ek⟩:=q
 have e:gSDo [.dct kvs]=.ok (.l ((sortT (sgL [] rs)).map D.str)):=by
  show (match keyStrs kvs with | some ss=>gd (ss.length<64∧∀ z∈ss,z.length≤sizeLine) (Res.ok (OD.l ((sortT ss).map D.str))) | none=>.bad)=_
  rw [u3D ek]
  simp only
  refine u0S ⟨fw.s,fun z hz=>?_⟩
  have:=u3u (P:=fun z=>goodS z=true) (ss:=[]) (rs:=rs) (fun z h=>(nomatch h)) (fun p hp b hb _=>(fw.ok p hp).gs b hb) z hz
  simp [goodS] at this
  exact u0I this.2
 simp [retN,OD.toD,e]
theorem v3d {G_heads_in:List D→Res (List D)} (cn_heads_in:CalleeN P w K mg base 1 "heads_in" ["rules"] G_heads_in) (p_hd:HdN G_heads_in) (F:Fun K "heads" "Grammar.heads" u4w f fd) (T:Txt K mg A):∃ G,FnOk P w K mg base (CXe P w) 2 f fd ["self"] (spN K G)∧MHd A G:=by
 refine ⟨_,F.okN (k:=1) u9S (fun cdv Ar outer s H E hr hq=>u7E (dn_fn hq cn_heads_in hr (u0a (u5s T.cls T.na_rules (dv 0)) u0b))),?_⟩
 intro rs kk g
 simp [L2.runN,startD,retN,u2e,p_hd rs (by have:=g.r.n;omega)]
theorem v3c {G_signs_in:List D→Res (List D)} (cn_signs_in:CalleeN P w K mg base 3 "signs_in" ["rules"] G_signs_in) (p_sg:SgN G_signs_in) (F:Fun K "signs" "Grammar.signs" u4v f fd) (T:Txt K mg A):∃ G,FnOk P w K mg base (CXe P w) 4 f fd ["self"] (spN K G)∧MSg A G:=by
 refine ⟨_,F.okN (k:=3) u9R (fun cdv Ar outer s H E hr hq=>u7E (dn_fn hq cn_signs_in hr (u0a (u5s T.cls T.na_rules (dv 0)) u0b))),?_⟩
 intro rs kk g
 simp [L2.runN,startD,retN,u2e,p_sg rs g.r.few]
theorem u8n (F:Fun K "is_whole" "is_whole" u3z f fd) (T:Txt K mg A):∃ G,FnOk P w K mg base CX0 1 f fd ["thing"] (spF K G)∧P1 isW G:=by
 refine ⟨_,F.okT (k:=0) u8e (fun cdv Ar outer s H E hr=>u0e (u0i (u1R (d_B u1T T.z_isinstance (by decide +kernel) (u0a (dv 0) (u0a (d_ty T.z_int (T:="int") (by decide +kernel)) u0b))) (u3e (d_not (d_B u1T T.z_isinstance (by decide +kernel) (u0a (dv 0) (u0a (d_ty T.z_bool (T:="bool") (by decide +kernel)) u0b)))))))),?_⟩
 intro d h
 simp [runT,startD]
 cases d <;> first | rfl | simp [goodD] at h
theorem u0A {A:Adr}{C:Addr}{f:Str}{rs:List RR}{d:D}{p:RR}{g:RR→D} (h:atR rs d=some p):numOr A C f rs d g=.ok (g p):=by unfold numOr;rw [h]
theorem u0P {A:Adr}{C:Addr}{f:Str}{rs:List RR}{d:D}{g:RR→D} (h:atR rs d=none):numOr A C f rs d g=.err (exc1 C f d):=by unfold numOr;rw [h]
theorem v2E {rs:List RR}{i:Int} (h:0≤i∧i<rs.length):∃ k:Nat,∃ hk:k<rs.length,i=(k:Int)∧atR rs (.int i)=some rs[k]:=by
 refine ⟨i.toNat,by omega,by omega,?_⟩
 show (if 0≤i then rs[i.toNat]? else none)=_
 rw [if_pos h.1,List.getElem?_eq_getElem (by omega)]
theorem v4u {rs:List RR}{d:D} (h:∀ i,d=.int i→¬ (0≤i∧i<rs.length)):atR rs d=none:=by
 cases d with
 | int i =>
  show (if 0≤i then rs[i.toNat]? else none)=_
  have:=h i rfl
  by_cases c:0≤i
  ·rw [if_pos c,List.getElem?_eq_none (by omega)]
  ·rw [if_neg c]
 | _=>rfl
theorem v3D {rs:List RR}{k:Nat} (h:k<rs.length):dIx (.tup (rs.map rT)) (.int (k:Int))=.ok (rT rs[k]):=ix_tn (by rw [List.getElem?_map,List.getElem?_eq_getElem h];rfl)
theorem u5o {G_is_whole:FD} (c_is_whole:Callee P w K mg base 1 "is_whole" ["thing"] (spF K G_is_whole)) (x_NoRule:XCalleeF P w K mg base 1 "NoRule" A.NoRule ["self","found"] ["found"]) (p_whole:P1 isW G_is_whole) (F:Fun K "need_number" "Grammar.need_number" u1E f fd) (T:Txt K mg A):∃ G,FnOk P w K mg base (CXe P w) 3 f fd ["self","number"] (spX K G)∧MNn A G:=by
 refine ⟨_,F.okTX (k:=2) u4b (fun cdv Ar outer s H E hr hq=>u0e (u0z (dt_w (u5r (u1s (u1e (d_fn c_is_whole hr (u0a (dv 1) u0b)))) (u3W (u1s (u6t o_le o_lt u0c (dv 1) (d_B u0T T.z_len (by decide +kernel) (u0a (u5s T.cls T.na_rules (dv 0)) u0b))))))) (u0e (u0L hq rfl x_NoRule hr (u0a (dv 1) u0b))) u0s)),?_⟩
 intro rs kk d g hd
 by_cases c:∃ i,d=.int i∧0≤i∧i<(rs.length:Int)
 ·obtain ⟨i,rfl,c1,c2⟩:=c
  obtain ⟨k,hk,rfl,e⟩:=v2E (rs:=rs) ⟨c1,c2⟩
  rw [u0A e]
  simp [runX,startD,p_whole _ hd,isW,u2e,c1,c2]
 ·have e:atR rs d=none:=v4u fun i e k=>c ⟨i,e,k⟩
  rw [u0P e]
  cases d with
  | int i =>
   by_cases c1:0≤i
   ·have c2:¬ i<(rs.length:Int):=fun h=>c ⟨i,rfl,c1,h⟩
    simp [runX,startD,p_whole _ hd,isW,u2e,c1,c2,exc1]
   ·simp [runX,startD,p_whole _ hd,isW,u2e,c1,exc1]
  | _=>simp [runX,startD,p_whole _ hd,isW,exc1]
theorem v0o {G_is_whole:FD} (c_is_whole:Callee P w K mg base 1 "is_whole" ["thing"] (spF K G_is_whole)) (x_NoPlace:XCalleeF P w K mg base 1 "NoPlace" A.NoPlace ["self","place"] ["place"]) (p_whole:P1 isW G_is_whole) (F:Fun K "side_at" "Grammar.side_at" u2J f fd) (T:Txt K mg A):∃ G,FnOk P w K mg base (CXe P w) 3 f fd ["self","place"] (spX K G)∧MSa A G:=by
 refine ⟨_,F.okTX (k:=2) u6O (fun cdv Ar outer s H E hr hq=>u0d (u0z (dt_w (u5r (u1s (u1e (d_fn c_is_whole hr (u0a (dv 1) u0b)))) (u3W (u1s (u6t o_le o_lt u0c (dv 1) (d_B u0T T.z_len (by decide +kernel) (u0a (u5s T.cls T.na_ranks (dv 0)) u0b))))))) (u0e (u0L hq rfl x_NoPlace hr (u0a (dv 1) u0b))) u0s)
  (u0e (u0i (d_ix x_ix (d_ix x_ix (u5s T.cls T.na_ranks (dv 0)) (dv 1)) u0c)))),?_⟩
 intro rs kk d g hd
 by_cases c:∃ i,d=.int i∧0≤i∧i<(kk.length:Int)
 ·obtain ⟨i,rfl,c1,c2⟩:=c
  obtain ⟨k,hk,rfl,e⟩:=v2E (rs:=kk) ⟨c1,c2⟩
  rw [u0A e]
  simp [runX,startD,p_whole _ hd,isW,u6p,c1,c2,v3D hk,rT,ix_0]
 ·have e:atR kk d=none:=v4u fun i e k=>c ⟨i,e,k⟩
  rw [u0P e]
  cases d with
  | int i =>
   by_cases c1:0≤i
   ·have c2:¬ i<(kk.length:Int):=fun h=>c ⟨i,rfl,c1,h⟩
    simp [runX,startD,p_whole _ hd,isW,u6p,c1,c2,exc1]
   ·simp [runX,startD,p_whole _ hd,isW,u6p,c1,exc1]
  | _=>simp [runX,startD,p_whole _ hd,isW,exc1]
theorem v0r {G_m_need_number:FD} (m_need_number:MCallee P w K mg base 3 A.Grammar "need_number" ["self","number"] G_m_need_number) (p_nn:MNn A G_m_need_number) (F:Fun K "head_of" "Grammar.head_of" u2M f fd) (T:Txt K mg A):∃ G,FnOk P w K mg base (CXe P w) 4 f fd ["self","number"] (spX K G)∧MHo A G:=by
 refine ⟨_,F.okTX (k:=3) u6P (fun cdv Ar outer s H E hr hq=>u0d (u3d (u1q hq m_need_number hr (dv 0) (u0a (dv 1) u0b)))
  (u0e (u0i (d_ix x_ix (d_ix x_ix (u5s T.cls T.na_rules (dv 0)) (dv 1)) u0c)))),?_⟩
 intro rs kk d g hd
 have nn:=p_nn rs kk d g hd
 cases e:atR rs d with
 | none =>
  rw [u0P e] at nn ⊢
  simp [runX,startD,nn]
 | some q =>
  rw [u0A e] at nn ⊢
  cases d with
  | int i =>
   have e':(if 0≤i then rs[i.toNat]? else none)=some q:=e
   by_cases c:0≤i
   ·rw [if_pos c] at e'
    obtain ⟨hk,e2⟩:=List.getElem?_eq_some_iff.mp e'
    have ei:i=((i.toNat:Nat):Int):=by omega
    generalize i.toNat=k at ei hk e2
    subst ei e2
    simp [runX,startD,nn,u2e,v3D hk,rT,ix_0]
   ·rw [if_neg c] at e';cases e'
  | _=>cases e
theorem v0s {G_m_need_number:FD} (m_need_number:MCallee P w K mg base 3 A.Grammar "need_number" ["self","number"] G_m_need_number) (p_nn:MNn A G_m_need_number) (F:Fun K "body_of" "Grammar.body_of" u2N f fd) (T:Txt K mg A):∃ G,FnOk P w K mg base (CXe P w) 4 f fd ["self","number"] (spX K G)∧MBo A G:=by
 refine ⟨_,F.okTX (k:=3) u6Q (fun cdv Ar outer s H E hr hq=>u0d (u3d (u1q hq m_need_number hr (dv 0) (u0a (dv 1) u0b)))
  (u0e (u0i (d_ix x_ix (d_ix x_ix (u5s T.cls T.na_rules (dv 0)) (dv 1)) u0c)))),?_⟩
 intro rs kk d g hd
 have nn:=p_nn rs kk d g hd
 cases e:atR rs d with
 | none =>
  rw [u0P e] at nn ⊢
  simp [runX,startD,nn]
 | some q =>
  rw [u0A e] at nn ⊢
  cases d with
  | int i =>
   have e':(if 0≤i then rs[i.toNat]? else none)=some q:=e
   by_cases c:0≤i
   ·rw [if_pos c] at e'
    obtain ⟨hk,e2⟩:=List.getElem?_eq_some_iff.mp e'
    have ei:i=((i.toNat:Nat):Int):=by omega
    generalize i.toNat=k at ei hk e2
    subst ei e2
    simp [runX,startD,nn,u2e,v3D hk,rT,ix_1,bT]
   ·rw [if_neg c] at e';cases e'
  | _=>cases e
theorem u3H {γ:Type}{g:D→Rho→Res Rho}{tb:Rho→Out} (c:γ→D) (S:Nat→List γ→Rho→Prop) (Q:Out→Prop) (nil:∀ k ρ,S k [] ρ→Q (.nx ρ))
  (cons:∀ k x xs ρ,S k (x::xs) ρ→∃ ρ1,g (.tup [dN k,c x]) ρ=.ok ρ1∧((∃ ρ2,tb ρ1=.nx ρ2∧S (k+1) xs ρ2)∨∃ v,tb ρ1=.rt v∧Q (.rt v))):∀ xs k ρ,S k xs ρ→Q (forD g tb (((xs.map c).zipIdx k).map fun p=>.tup [.int (p.2:Nat),p.1]) ρ)
 | [],k,ρ,h=>nil k ρ h
 | x::xs,k,ρ,h=>by
  obtain ⟨ρ1,e,z⟩:=cons k x xs ρ h
  rw [List.map_cons,u4Y]
  simp only [forD,e,u5C,go_ok]
  rcases z with ⟨ρ2,k1,k2⟩ | ⟨v,k1,k2⟩
  ·rw [k1];exact u3H c S Q nil cons xs (k+1) ρ2 k2
  ·rw [k1];exact k2
theorem v1f (z:Str) (k:Nat) (p:RR) (kk:List RR):(rkS (p::kk) z).map (·+k)=if z∈p.2 then some k else (rkS kk z).map (·+(k+1)):=by
 unfold rkS
 rw [List.findIdx?_cons]
 by_cases c:z∈p.2
 ·simp [c]
 ·simp [c,Option.map_map,Function.comp_def]
  congr 1
  funext a
  omega
theorem u4o {z:Str}{hs:List Str} (g:goodS z=true) (gs:∀ b∈hs,goodS b=true):dIn (.str z) (.tup (hs.map D.str))=.ok (.bl (decide (z∈hs))):=by
 rw [show dIn (.str z) (.tup (hs.map D.str))=inD (.str z) (hs.map D.str) false from u8D false _ _,v1R g gs]
 rfl
theorem KR.good {kk:List RR} (h:KR kk):∀ p∈kk,∀ b∈p.2,goodS b=true:=fun p hp b hb=>(u3o ((h.g p hp).2.2.2 b hb)).2.1
theorem rk_no {kk:List RR} (h:KR kk) {z:Str} (hz:sgnS z=false):rkS kk z=none:=by
 unfold rkS
 rw [List.findIdx?_eq_none_iff]
 intro p hp
 simp only [decide_eq_false_iff_not]
 intro hb
 rw [(u3o ((h.g p hp).2.2.2 z hb)).1] at hz
 cases hz
def Srn (a:D) (z:Str) (r:Option Nat) (k:Nat) (ks:List RR) (ρ:Rho):Prop:=(∀ p∈ks,∀ b∈p.2,goodS b=true)∧r=(rkS ks z).map (·+k)∧∃ x y,ρ=[some (.val a),some (.val (.str z)),x,y]
def Srd (a d:D) (_:Nat) (_:List RR) (ρ:Rho):Prop:=∃ x y,ρ=[some (.val a),some (.val d),x,y]
abbrev LRk (G:FD):Prop:=∀ kk d,KR kk→goodD d=true→G [dR kk,d]=.ok (optD (rkD kk d))
abbrev LRb (G:FD):Prop:=∀ kk (bs:List Str),KR kk→(∀ b∈bs,goodS b=true)→G [dR kk,.tup (bs.map D.str)]=.ok (optD (rkBy kk bs))
noncomputable def stepR (f:Str→Option Nat) (a:Option Nat) (b:Str):Option Nat:=match f b with
 | none=>a
 | some n=>some n
theorem u7y (f:Str→Option Nat):∀ (bs:List Str) (a:Option Nat),bs.foldl (stepR f) a=(bs.reverse.findSome? f).or a
 | [],a=>rfl
 | b::bs,a=>by
  rw [List.foldl_cons,u7y f bs,List.reverse_cons,List.findSome?_append,Option.or_assoc]
  congr 1
  unfold stepR
  cases h:f b <;> simp [h]
@[simp] theorem isN_opt (r:Option Nat):isN (optD r)=r.isNone:=by cases r <;> rfl
def Slb (kk:List RR) (bd:D) (r:Option Nat) (ds:List D) (ρ:Rho):Prop:=∃ (bs:List Str) (a:Option Nat) (y:Option Sl),ds=bs.map D.str∧(∀ b∈bs,goodS b=true)∧ρ=[some (.val (dR kk)),some (.val bd),some (.val (optD a)),y]∧r=bs.foldl (stepR (rkS kk)) a
def Srb (g d:D) (kk:List RR) (r:Option Nat) (ds:List D) (ρ:Rho):Prop:=∃ (bs:List Str) (x y:Option Sl),ds=bs.map D.str∧(∀ b∈bs,goodS b=true)∧ρ=[some (.val g),some (.val d),x,y]∧r=bs.findSome? (rkS kk)
noncomputable def pNu (z:Str):D→Bool
 | .tup [_,.tup (.str h::_)]=>decide (h=z)
 | _=>false
noncomputable def fNu:D→D
 | .tup [x,_]=>x
 | _=>.non
theorem u4M (z:Str):∀ (rs:List RR) (k:Nat),((((rs.map rT).zipIdx k).map fun p=>D.tup [.int (p.2:Nat),p.1]).filter (pNu z)).map fNu=(numsL z k rs).map dN
 | [],k=>rfl
 | p::rs,k=>by
  rw [List.map_cons,u4Y,List.filter_cons]
  unfold numsL
  by_cases c:p.1=z
  ·rw [if_pos (by simpa [pNu,rT] using c),if_pos c,List.map_cons,u4M z rs (k+1)]
   rfl
  ·rw [if_neg (by simpa [pNu,rT] using c),if_neg c,u4M z rs (k+1)]
theorem v3S {rs:List RR}{d:D} (h:d∈enumL (rs.map rT)):∃ (k:Nat) (p:RR),p∈rs∧d=.tup [dN k,rT p]:=by
 unfold enumL at h
 obtain ⟨⟨x,k⟩,hm,rfl⟩:=List.mem_map.mp h
 have:=List.mem_zipIdx' hm
 obtain ⟨p,hp,e⟩:=List.mem_map.mp (List.mem_of_getElem? (by
  have h1:=this.2
  exact (List.getElem?_eq_some_iff.mpr ⟨this.1,h1.symm⟩)))
 exact ⟨k,p,hp,by rw [← e]⟩
theorem v4l {a b:Str} (ga:goodS a=true) (gb:goodS b=true):dEq (.str a) (.str b)=.ok (.bl (decide (a=b))):=by
 simp [goodS] at ga gb
 show (cmpD (.str a)).bind _=_
 rw [u1S ga.1,Res.bind_ok,u1S gb.1,Res.bind_ok,u3b]
 by_cases c:a=b <;> simp [c]
theorem v2h (ds:List D):(enumL ds).length=ds.length:=by simp [enumL]
theorem u8X (z:Str):∀ (rs:List RR) (k:Nat),numsL z k rs=[]↔¬ z∈hsOf rs
 | [],k=>by simp [numsL,hsOf]
 | p::rs,k=>by
  have ih:=u8X z rs (k+1)
  unfold numsL
  unfold hsOf at ih ⊢
  by_cases c:p.1=z
  ·simp [c]
  ·rw [if_neg c,ih]
   have c':¬ z=p.1:=fun h=>c h.symm
   simp [c']
theorem u8l (F:Fun K "_law_rank" "_law_rank" u3x f fd) (T:Txt K mg A):∃ G,FnOk P w K mg base CX0 1 f fd ["_law_ranks_here","_law_thing_here"] (spF K G)∧LRk G:=by
 refine ⟨_,F.okT (k:=0) u2I (fun cdv Ar outer s H E hr=>u0d (u0G rfl (u6v T.z_enumerate (u0a (dv 0) u0b)) (u1Y (n:=2) rfl (u0o (dg_n u2I.nd) (u0o (dg_n u2I.nd) u1k)))
  (u0e (u0z (dt_w (u9u (u1e (d_B u1T T.z_isinstance (by decide +kernel) (u0a (dv 1) (u0a (d_ty T.z_str (T:="str") (by decide +kernel)) u0b)))) (u6s (u0q (o_in (hu100 hr)) (dv 1) (d_ix x_ix (dv 3) u0c))))) (u0e (u0i (dv 2))) u0s)))
  (u0e (u0i u3r))),?_⟩
 intro kk d hk g
 simp [runT,startD]
 rw [show enum1 [.lst (kk.map rT)]=.ok (enumL (kk.map rT)) from rfl,go_ok]
 unfold enumL
 cases d with
 | str z =>
  have gz:goodS z=true:=by simpa [goodD] using g
  have ts:gIsA [.str z,.ty "str"]=.ok (.bl true):=rfl
  refine u3H rT (Srn (dR kk) z (rkS kk z)) (fun o=>noE (outR (o.andThen fun ρ=>Out.rt .non))=.ok (optD (rkS kk z))) ?_ ?_ kk 0 _ ⟨hk.good,by simp,none,none,rfl⟩
  ·rintro k ρ ⟨_,e,x,y,rfl⟩
   have:rkS kk z=none:=e
   simp [this,optD]
  ·rintro k p ps ρ ⟨gs,e,x,y,rfl⟩
   refine ⟨_,rfl,?_⟩
   rw [v1f] at e
   by_cases c:z∈p.2
   ·rw [if_pos c] at e
    refine .inr ⟨dN k,by simp [ts,rT,ix_1,u4o gz (gs p List.mem_cons_self),c],?_⟩
    simp [e,optD]
   ·rw [if_neg c] at e
    exact .inl ⟨_,by simp [ts,rT,ix_1,u4o gz (gs p List.mem_cons_self),c];exact ⟨rfl,rfl⟩,fun q hq=>gs q (List.mem_cons_of_mem _ hq),e,_,_,rfl⟩
 | _ =>
  refine u3H rT (Srd (dR kk) _) (fun o=>noE (outR (o.andThen fun ρ=>Out.rt .non))=.ok .non) ?_ ?_ kk 0 _ ⟨none,none,rfl⟩
  ·rintro k ρ ⟨x,y,rfl⟩
   simp
  ·rintro k p ps ρ ⟨x,y,rfl⟩
   exact ⟨_,rfl,.inl ⟨_,by simp [v3Z (u0J g),isStrD];exact ⟨rfl,rfl⟩,_,_,rfl⟩⟩
theorem u5n {G_law_rank:FD} (c__law_rank:Callee P w K mg base 1 "_law_rank" ["_law_ranks_here","_law_thing_here"] (spF K G_law_rank)) (p_rank:LRk G_law_rank) (F:Fun K "_law_rank_by" "_law_rank_by" u2c f fd) (T:Txt K mg A):∃ G,FnOk P w K mg base CX0 2 f fd ["_law_ranks_here","_law_body"] (spF K G)∧LRb G:=by
 refine ⟨_,F.okT (k:=1) u1m (fun cdv Ar outer s H E hr=>u0d (ds_n u1m.nd u3r)
  (u0d (u0G rfl (u0E (dv 1)) (dg_n u1m.nd)
  (u0e (u0z (u0q v1t (d_fn c__law_rank hr (u0a (dv 0) (u0a (dv 3) u0b))) u3r) (u0e (ds_n u1m.nd (d_fn c__law_rank hr (u0a (dv 0) (u0a (dv 3) u0b))))) u0s)))
  (u0e (u0i (dv 2))))),?_⟩
 intro kk bs hk gs
 have rk:∀ b,goodS b=true→G_law_rank [dR kk,.str b]=.ok (optD (rkS kk b)):=fun b g=>p_rank kk (.str b) hk (by simpa [goodD] using g)
 simp [runT,startD]
 refine u1d (Slb kk _ (rkBy kk bs)) (fun o=>noE (outR (o.andThen fun ρ=>(getV (frz ρ) 2).go ρ fun d=>Out.rt d))=.ok (optD (rkBy kk bs))) ?_ ?_ (bs.map D.str) _ ⟨bs,none,none,rfl,gs,rfl,by rw [u7y];simp [rkBy]⟩
 ·rintro ρ ⟨bs',a,y,e,_,rfl,er⟩
  cases bs' with
  | cons b bs=>cases e
  | nil =>
   have:rkBy kk bs=a:=er
   simp [this]
 ·rintro d ds ρ ⟨bs',a,y,e,g,rfl,er⟩
  cases bs' with
  | nil=>cases e
  | cons b bs' =>
   cases e
   have gb:=g b List.mem_cons_self
   refine ⟨_,rfl,.inl ?_⟩
   cases c:rkS kk b with
   | none=>exact ⟨_,by simp [rk b gb,c,dIs,optD,isN];rfl,bs',a,_,rfl,fun x hx=>g x (List.mem_cons_of_mem _ hx),rfl,by rw [er,List.foldl_cons,stepR,c]⟩
   | some n=>exact ⟨_,by simp [rk b gb,c,dIs,optD,isN];rfl,bs',some n,_,rfl,fun x hx=>g x (List.mem_cons_of_mem _ hx),rfl,by rw [er,List.foldl_cons,stepR,c]⟩
theorem v0p {G_is_sign:FD} (c_is_sign:Callee P w K mg base 2 "is_sign" ["thing"] (spF K G_is_sign)) (p_is_sign:P1 sgnD G_is_sign) (F:Fun K "rank_of" "Grammar.rank_of" u2K f fd) (T:Txt K mg A):∃ G,FnOk P w K mg base (CXe P w) 3 f fd ["self","sign"] (spX K G)∧MRo A G:=by
 refine ⟨_,F.okTX (k:=2) u2h (fun cdv Ar outer s H E hr hq=>u0d (u0z (u1s (u1e (d_fn c_is_sign hr (u0a (dv 1) u0b)))) (u0e (u0i u3r)) u0s)
  (u0d (u0G rfl (v4s T.z_enumerate (u0a (u5s T.cls T.na_ranks (dv 0)) u0b)) (u1Y (n:=2) rfl (u0o (dg_n u2h.nd) (u0o (dg_n u2h.nd) u1k)))
  (u0e (u0z (u0q (o_in (hu100 hr)) (dv 1) (d_ix x_ix (dv 3) u0c)) (u0e (u0i (dv 2))) u0s)) hq.ps)
  (u0e (u0i u3r)))),?_⟩
 intro rs kk d g hd
 simp [runX,startD,p_is_sign d hd]
 cases d with
 | str z =>
  have gz:goodS z=true:=by simpa [goodD] using hd
  cases s:sgnS z with
  | false=>simp [sgnD,s,rkD,rk_no g.k s,optD]
  | true =>
   simp [sgnD,s,u6p,rkD]
   rw [show enum2 [.tup (kk.map rT)]=.ok (enumL (kk.map rT)) from rfl,go_ok]
   unfold enumL
   refine u3H rT (Srn (gI A rs kk) z (rkS kk z)) (fun o=>outR (o.andThen fun ρ=>Out.rt .non)=.ok (optD (rkS kk z))) ?_ ?_ kk 0 _ ⟨g.k.good,by simp,none,none,rfl⟩
   ·rintro k ρ ⟨_,e,x,y,rfl⟩
    have:rkS kk z=none:=e
    simp [this,optD]
   ·rintro k p ps ρ ⟨gs,e,x,y,rfl⟩
    refine ⟨_,rfl,?_⟩
    rw [v1f] at e
    by_cases c:z∈p.2
    ·rw [if_pos c] at e
     refine .inr ⟨dN k,by simp [rT,ix_1,u4o gz (gs p List.mem_cons_self),c],?_⟩
     simp [e,optD]
    ·rw [if_neg c] at e
     exact .inl ⟨_,by simp [rT,ix_1,u4o gz (gs p List.mem_cons_self),c];exact ⟨rfl,rfl⟩,fun q hq=>gs q (List.mem_cons_of_mem _ hq),e,_,_,rfl⟩
 | _=>simp [sgnD,rkD,optD]
theorem v0q {G_m_need_number:FD} (m_need_number:MCallee P w K mg base 3 A.Grammar "need_number" ["self","number"] G_m_need_number) {G_m_rank_of:FD} (m_rank_of:MCallee P w K mg base 3 A.Grammar "rank_of" ["self","sign"] G_m_rank_of) (p_nn:MNn A G_m_need_number) (p_ro:MRo A G_m_rank_of) (F:Fun K "rank_by" "Grammar.rank_by" u2L f fd) (T:Txt K mg A):∃ G,FnOk P w K mg base (CXe P w) 4 f fd ["self","number"] (spX K G)∧MRb A G:=by
 refine ⟨_,F.okTX (k:=3) u2i (fun cdv Ar outer s H E hr hq=>u0d (u3d (u1q hq m_need_number hr (dv 0) (u0a (dv 1) u0b)))
  (u0d (u0G rfl (di_rev T.z_reversed (u0a (d_ix x_ix (d_ix x_ix (u5s T.cls T.na_rules (dv 0)) (dv 1)) u0c) u0b)) (dg_n u2i.nd)
  (u0d (ds_n u2i.nd (u1q hq m_rank_of hr (dv 0) (u0a (dv 2) u0b)))
   (u0e (u0z (u0q v1t (dv 3) u3r) (u0e (u0i (dv 3))) u0s))) hq.ps)
  (u0e (u0i u3r)))),?_⟩
 intro rs kk d g hd
 have nn:=p_nn rs kk d g hd
 have rk:∀ b,goodS b=true→G_m_rank_of [gI A rs kk,.str b]=.ok (optD (rkS kk b)):=fun b gb=>p_ro rs kk (.str b) g (by simpa [goodD] using gb)
 cases e:atR rs d with
 | none =>
  rw [u0P e] at nn ⊢
  simp [runX,startD,nn]
 | some q =>
  rw [u0A e] at nn ⊢
  cases d with
  | int i =>
   have e':(if 0≤i then rs[i.toNat]? else none)=some q:=e
   by_cases c:0≤i
   ·rw [if_pos c] at e'
    obtain ⟨hk,e2⟩:=List.getElem?_eq_some_iff.mp e'
    have ei:i=((i.toNat:Nat):Int):=by omega
    generalize i.toNat=k at ei hk e2
    subst ei
    have gs:=(g.r.ok q (e2 ▸ List.getElem_mem hk)).gs
    have x1:=v3D hk
    rw [e2] at x1
    simp [runX,startD,nn,u2e,x1,rT,ix_1]
    rw [show revT [.tup (q.2.map D.str)]=.ok (q.2.reverse.map D.str) by simp [revT],go_ok]
    refine u1d (Srb (gI A rs kk) _ kk (rkBy kk q.2)) (fun o=>outR (o.andThen fun ρ=>Out.rt .non)=.ok (optD (rkBy kk q.2))) ?_ ?_ (q.2.reverse.map D.str) _ ⟨q.2.reverse,none,none,rfl,fun b hb=>gs b (List.mem_reverse.mp hb),rfl,rfl⟩
    ·rintro ρ ⟨bs,x,y,e,_,rfl,er⟩
     cases bs with
     | cons b bs=>cases e
     | nil =>
      have:rkBy kk q.2=none:=er
      simp [this,optD]
    ·rintro d ds ρ ⟨bs,x,y,e,gb,rfl,er⟩
     cases bs with
     | nil=>cases e
     | cons b bs =>
      cases e
      have gb1:=gb b List.mem_cons_self
      refine ⟨_,rfl,?_⟩
      rw [List.findSome?_cons] at er
      cases c:rkS kk b with
      | none =>
       rw [c] at er
       exact .inl ⟨_,by simp [rk b gb1,c,dIs,optD,isN];rfl,bs,_,_,rfl,fun x hx=>gb x (List.mem_cons_of_mem _ hx),rfl,er⟩
      | some n =>
       rw [c] at er
       exact .inr ⟨dN n,by simp [rk b gb1,c,optD,show dIsNot (dN n) .non=.ok (.bl true) from rfl],by rw [er];simp [optD]⟩
   ·rw [if_neg c] at e';cases e'
  | _=>cases e
theorem u5Y {G_is_head:FD} (c_is_head:Callee P w K mg base 2 "is_head" ["thing"] (spF K G_is_head)) {G_m_heads:List D→Res (List D)} (mn_heads:MCalleeN P w K mg base 2 A.Grammar "heads" ["self"] G_m_heads) (x_NoSymbol:XCalleeF P w K mg base 1 "NoSymbol" A.NoSymbol ["self","found"] ["found"]) (p_is_head:P1 hdD G_is_head) (p_hd:MHd A G_m_heads) (F:Fun K "numbers_of" "Grammar.numbers_of" u1n f fd) (T:Txt K mg A):∃ G,FnOk P w K mg base (CXe P w) 3 f fd ["self","head"] (spN K G)∧MNu A G:=by
 refine ⟨_,F.okN (k:=2) u4t (fun cdv Ar outer s H E hr hq=>u8y (u0z (dt_w (u5r (u1s (u1e (d_fn c_is_head hr (u0a (dv 1) u0b)))) (u3W (u0q (u4K (hu100 hr)) (dv 1) (u3f hq mn_heads.mx hr (dv 0)))))) (u0e (u0L hq rfl x_NoSymbol hr (u0a (dv 1) u0b))) u0s)
  (u7E (u1f ["number","rule"] [1] rfl (u0v (sc:=defScope u1n) (N:=["self","head"]) (by decide +kernel)) (v4s T.z_enumerate (u0a (u5s T.cls T.na_rules (dv 0)) u0b)) (u1Y (n:=2) rfl (u0o (dg_n (show (["number","rule","head"]:List Str).Nodup by decide +kernel)) (u0o (dg_n (show (["number","rule","head"]:List Str).Nodup by decide +kernel)) u1k))) (u9z (u0q (o_eq (hu64 hr)) (d_ix x_ix (dv 1) u0c) (dv 2))) (dv 0)))),?_⟩
 intro rs kk d g hd
 have hh:=p_hd rs kk g
 have ok:=g.r.ok
 have ln:rs.length≤sizeLine:=u0I (by have:=g.r.n;omega)
 cases d with
 | str z =>
  have gz:goodS z=true:=by simpa [goodD] using hd
  by_cases c:hdS z=true
  ·by_cases k:z∈headsL rs
   ·have k':z∈hsOf rs:=u1V.mp k
    simp [L2.runN,startD,thenR,p_is_head _ hd,hdD,c,asLs,hh,u1B gz (u2y ok),k,numD,k',retN,u2e]
    rw [show enum2 [.tup (rs.map rT)]=.ok (enumL (rs.map rT)) from rfl]
    simp [v2h,ln]
    rw [u0Y (pNu z) fNu fun d hd=>?_]
    ·unfold enumL
     rw [u4M]
     rfl
    ·obtain ⟨k,p,hp,rfl⟩:=v3S hd
     exact ⟨_,rfl,by simp [rhoC,rT,ix_0,v4l (ok p hp).gh gz,pNu],fun _=>by simp [rhoC,fNu]⟩
   ·have k':¬ z∈hsOf rs:=fun h=>k (u1V.mpr h)
    simp [L2.runN,startD,thenR,p_is_head _ hd,hdD,c,asLs,hh,u1B gz (u2y ok),k,numD,k',exc1]
  ·have k':¬ z∈hsOf rs:=fun h=>by
    obtain ⟨p,hp,rfl⟩:=List.mem_map.mp h
    exact c (ok p hp).h
   simp [L2.runN,startD,thenR,p_is_head _ hd,hdD,c,numD,k',exc1]
 | _=>simp [L2.runN,startD,thenR,p_is_head _ hd,hdD,numD,exc1]
structure Hnd (K:W.Frag) (A:Adr):Prop where
 xb_NoSymbol:xbB K A.NoSymbol=true
 sb_NoSymbol_NoSymbol:subK K A.NoSymbol A.NoSymbol=true
 xb_NoRule:xbB K A.NoRule=true
 sb_NoRule_NoSymbol:subK K A.NoRule A.NoSymbol=false
 sb_NoRule_NoRule:subK K A.NoRule A.NoRule=true
 xb_NoPlace:xbB K A.NoPlace=true
 sb_NoPlace_NoSymbol:subK K A.NoPlace A.NoSymbol=false
 sb_NoPlace_NoRule:subK K A.NoPlace A.NoRule=false
 sb_NoPlace_NoPlace:subK K A.NoPlace A.NoPlace=true
noncomputable def tw (s:Str) (d:D):D:=.tup [.str s,d]
noncomputable def tellW (rs kk:List RR) (w:Nat) (d:D):D:=match w with
 | 0=>match d with
  | .str z=>if z∈hsOf rs then tw "told" (.lst ((numsL z 0 rs).map dN)) else tw "symbol" d
  | d=>tw "symbol" d
 | 1=>match atR rs d with
  | some p=>tw "told" (.str p.1)
  | none=>tw "rule" d
 | 2=>match atR rs d with
  | some p=>tw "told" (bT p)
  | none=>tw "rule" d
 | 3=>match atR rs d with
  | some p=>tw "told" (optD (rkBy kk p.2))
  | none=>tw "rule" d
 | _=>match atR kk d with
  | some p=>tw "told" (.str p.1)
  | none=>tw "place" d
def okT (d:D):Prop:=goodD d=true∧dEqX d d=.ok (.bl true)
abbrev Same (G:FD):Prop:=∀ (s:Str) (x:D),goodS s=true→okT x→G [tw s x,tw s x]=.ok (.bl true)
noncomputable def isNum (n:Nat):D→Bool
 | .int i=>decide (0≤i)&&decide (i<(n:Int))
 | _=>false
noncomputable def isIntD:D→Bool
 | .int _=>true
 | .bl _=>true
 | _=>false
noncomputable def isBolD:D→Bool
 | .bl _=>true
 | _=>false
theorem a_int {d:D} (h:selfD d=true):gIsA [d,.ty "int"]=.ok (.bl (isIntD d)):=by cases d <;> first | rfl | simp [selfD] at h
theorem a_bool {d:D} (h:selfD d=true):gIsA [d,.ty "bool"]=.ok (.bl (isBolD d)):=by cases d <;> first | rfl | simp [selfD] at h
abbrev IsNu (G:FD):Prop:=∀ (n:Nat) (d:D),goodD d=true→G [d,dN n]=.ok (.bl (isNum n d))
abbrev Asked (A:Adr) (G:FD):Prop:=∀ rs kk w d,GK rs kk→w<5→goodD d=true→G [gI A rs kk,dN w,d]=.ok (tellW rs kk w d)
abbrev DueW (G:FD):Prop:=∀ rs kk w d,GK rs kk→w<5→goodD d=true→G [dR rs,dR kk,dN w,d]=.ok (tellW rs kk w d)
theorem u3J (i j:Int):dEqX (.int i) (.int j)=.ok (.bl (decide (i=j))):=by
 rw [show dEqX (.int i) (.int j)=dEq (.int i) (.int j) from rfl,u1X]
 by_cases c:i=j <;> simp [c]
theorem u6q {a b:Str} (ga:goodS a=true) (gb:goodS b=true):dEqX (.str a) (.str b)=.ok (.bl (decide (a=b))):=v4l ga gb
theorem v2v {ss:List Str} (h:∀ b∈ss,goodS b=true):cmpD (dS ss)=.ok (.list (ss.map PyData.str)):=by
 have e:(dS ss).py=some (.list (ss.map PyData.str)):=by simp [D.py,u4m]
 have s:SeqAt.shaped (.list (ss.map PyData.str))=true:=by
  have d:=u3q ss
  simp [SeqAt.shaped,PyData.canLay0,u3p h,PyData.depth]
  omega
 unfold cmpD
 rw [e]
 simp [s]
theorem v2u {ss:List Str} (h:∀ b∈ss,goodS b=true):cmpD (.tup (ss.map D.str))=.ok (.tuple (ss.map PyData.str)):=by
 have e:(D.tup (ss.map D.str)).py=some (.tuple (ss.map PyData.str)):=by simp [D.py,u4m]
 have s:SeqAt.shaped (.tuple (ss.map PyData.str))=true:=by
  have d:=u3q ss
  simp [SeqAt.shaped,PyData.canLay0,u3p h,PyData.depth]
  omega
 unfold cmpD
 rw [e]
 simp [s]
theorem u8T:∀ ns:List Nat,D.pys (ns.map dN)=some (ns.map fun n:Nat=>PyData.int (n:Int))
 | []=>rfl
 | n::ns=>by simp [D.pys,D.py,u8T ns]
theorem u9c:∀ ns:List Nat,PyData.canLayAll0 (ns.map fun n:Nat=>PyData.int (n:Int))=true
 | []=>rfl
 | n::ns=>by simp [PyData.canLayAll0,PyData.canLay0,u9c ns]
theorem u9A:∀ ns:List Nat,PyData.depthAll (ns.map fun n:Nat=>PyData.int (n:Int))≤1
 | []=>by simp [PyData.depthAll]
 | n::ns=>by
  have:=u9A ns
  simp [PyData.depthAll,PyData.depth]
  omega
theorem u3c:∀ ns:List Nat,PyData.eqvAll (ns.map fun n:Nat=>PyData.int (n:Int)) (ns.map fun n:Nat=>PyData.int (n:Int))=true
 | []=>rfl
 | n::ns=>by
  show (PyData.eqv (.int n) (.int n)&&PyData.eqvAll (ns.map fun n:Nat=>PyData.int (n:Int)) (ns.map fun n:Nat=>PyData.int (n:Int)))=true
  rw [u3c ns,show PyData.eqv (.int n) (.int n)=((n:Int)==(n:Int)) from rfl]
  simp
theorem u6z (ns:List Nat):cmpD (.lst (ns.map dN))=.ok (.list (ns.map fun n:Nat=>PyData.int (n:Int))):=by
 have e:(D.lst (ns.map dN)).py=some (.list (ns.map fun n:Nat=>PyData.int (n:Int))):=by simp [D.py,u8T]
 have s:SeqAt.shaped (.list (ns.map fun n:Nat=>PyData.int (n:Int)))=true:=by
  have d:=u9A ns
  simp [SeqAt.shaped,PyData.canLay0,u9c,PyData.depth]
  omega
 unfold cmpD
 rw [e]
 simp [s]
theorem u9s {x:D}{a:PyData} (n:dEqX x x=dEq x x) (h:cmpD x=.ok a) (e:PyData.eqv a a=true):dEqX x x=.ok (.bl true):=by
 rw [n]
 show (cmpD x).bind _=_
 rw [h,Res.bind_ok,Res.bind_ok,e]
theorem v3Q (ns:List Nat):dEqX (.lst (ns.map dN)) (.lst (ns.map dN))=.ok (.bl true):=u9s rfl (u6z ns) (by
 show PyData.eqvAll _ _=true
 exact u3c ns)
theorem eqX_lst {ss:List Str} (h:∀ b∈ss,goodS b=true):dEqX (dS ss) (dS ss)=.ok (.bl true):=u9s rfl (v2v h) (by
 show PyData.eqvAll (ss.map PyData.str) (ss.map PyData.str)=true
 rw [u1j];simp)
theorem eqX_tup {ss:List Str} (h:∀ b∈ss,goodS b=true):dEqX (.tup (ss.map D.str)) (.tup (ss.map D.str))=.ok (.bl true):=u9s rfl (v2u h) (by
 show PyData.eqvAll (ss.map PyData.str) (ss.map PyData.str)=true
 rw [u1j];simp)
theorem v3R (ns:List Nat):dEqX (.lst (ns.map dN)) (.lst [])=.ok (.bl ns.isEmpty):=by
 rw [show dEqX (.lst (ns.map dN)) (.lst [])=dEq (.lst (ns.map dN)) (.lst []) from rfl]
 show (cmpD (.lst (ns.map dN))).bind _=_
 rw [u6z,Res.bind_ok,show cmpD (.lst [])=.ok (.list []) from rfl,Res.bind_ok]
 cases ns <;> rfl
theorem v4m:dEqX (.lst []) (.lst [])=.ok (.bl true):=rfl
theorem v2g (d:D):dEqX (kindsD d) (kindsD d)=.ok (.bl true):=by
 have k:∀ a b c x y z:Bool,dEqX (.lst [.bl a,.bl b,.bl c,.bl x,.bl y,.bl z]) (.lst [.bl a,.bl b,.bl c,.bl x,.bl y,.bl z])=.ok (.bl true):=fun a b c x y z=>u9s (a:=.list [.bool a,.bool b,.bool c,.bool x,.bool y,.bool z]) rfl rfl (by
  have e:∀ a:Bool,PyData.eqv (.bool a) (.bool a)=true:=fun a=>by cases a <;> rfl
  show (PyData.eqv (.bool a) (.bool a)&&(PyData.eqv (.bool b) (.bool b)&&(PyData.eqv (.bool c) (.bool c)&&(PyData.eqv (.bool x) (.bool x)&&(PyData.eqv (.bool y) (.bool y)&&(PyData.eqv (.bool z) (.bool z)&&true))))))=true
  simp [e])
 exact k _ _ _ _ _ _
theorem u4J {z:Str} (h:goodS z=true):okT (.str z):=⟨by simpa [goodD] using h,by rw [u6q h h];simp⟩
theorem v1r (i:Int):okT (.int i):=⟨rfl,by rw [u3J];simp⟩
theorem u8s (r:Option Nat):okT (optD r):=by
 cases r with
 | none=>exact ⟨rfl,rfl⟩
 | some n=>exact v1r _
theorem v1q {ss:List Str} (h:∀ b∈ss,goodS b=true):okT (.tup (ss.map D.str)):=⟨u2z h,eqX_tup h⟩
theorem okT_lst {ss:List Str} (h:∀ b∈ss,goodS b=true):okT (dS ss):=⟨u2z h,eqX_lst h⟩
theorem v3n (ns:List Nat):okT (.lst (ns.map dN)):=⟨u2A fun d hd=>by
 obtain ⟨n,_,rfl⟩:=List.mem_map.mp hd
 rfl,v3Q ns⟩
noncomputable def pNr (rs:List RR) (z:Str):D→Bool
 | .int i=>decide ((hsOf rs).getD i.toNat ""=z)
 | _=>false
theorem u4L (rs:List RR) (z:Str):∀ m k,k+m=rs.length→((intL (k:Int) m).filter (pNr rs z)).map (fun d=>d)=(numsL z k (rs.drop k)).map dN
 | 0,k,h=>by rw [List.drop_of_length_le (by omega)];rfl
 | m+1,k,h=>by
  have hk:k<rs.length:=by omega
  have e:(hsOf rs).getD k ""=rs[k].1:=by rw [u1J (by simpa [hsOf] using hk)];simp [hsOf]
  rw [u7u,List.filter_cons,List.drop_eq_getElem_cons hk]
  unfold numsL
  have e2:pNr rs z (dN k)=decide (rs[k].1=z):=by
   show decide ((hsOf rs).getD (((k:Nat):Int)).toNat ""=z)=_
   rw [Int.toNat_natCast,e]
  rw [e2]
  by_cases c:rs[k].1=z
  ·rw [if_pos (by simpa using c),if_pos c,List.map_cons,List.map_cons,u4L rs z m (k+1) (by omega)]
  ·rw [if_neg (by simpa using c),if_neg c,u4L rs z m (k+1) (by omega)]
theorem u8W (rs:List RR) (z:Str):((intL 0 rs.length).filter (pNr rs z)).map (fun d=>d)=(numsL z 0 rs).map dN:=u4L rs z rs.length 0 (by omega)
theorem u9h {rs:List RR}{d:D}:isNum rs.length d=(atR rs d).isSome:=by
 cases d with
 | int i =>
  show (decide (0≤i)&&decide (i<(rs.length:Int)))=(if 0≤i then rs[i.toNat]? else none).isSome
  by_cases c:0≤i
  ·by_cases k:i<(rs.length:Int)
   ·rw [if_pos c,List.getElem?_eq_getElem (by omega)];simp [c,k]
   ·rw [if_pos c,List.getElem?_eq_none (by omega)];simp [c,k]
  ·rw [if_neg c];simp [c]
 | _=>rfl
theorem u4r {rs:List RR}{d:D}{p:RR} (h:atR rs d=some p):∃ k:Nat,∃ hk:k<rs.length,d=dN k∧rs[k]=p:=by
 cases d with
 | int i =>
  have e':(if 0≤i then rs[i.toNat]? else none)=some p:=h
  by_cases c:0≤i
  ·rw [if_pos c] at e'
   obtain ⟨hk,e2⟩:=List.getElem?_eq_some_iff.mp e'
   exact ⟨i.toNat,hk,by show D.int i=D.int ((i.toNat:Nat):Int);congr 1;omega,e2⟩
  ·rw [if_neg c] at e';cases e'
 | _=>cases h
theorem u7c (F:Fun K "_law_kinds" "_law_kinds" u2R f fd) (T:Txt K mg A):∃ G,FnOk P w K mg base CX0 1 f fd ["_law_thing_here"] (spF K G)∧∀ d,goodD d=true→G [d]=.ok (kindsD d):=by
 refine ⟨_,F.okT (k:=0) u3P (fun cdv Ar outer s H E hr=>u0d (ds_n u3P.nd (u1l (u0a (d_B u1T T.z_isinstance (by decide +kernel) (u0a (dv 0) (u0a (d_ty T.z_bool (T:="bool") (by decide +kernel)) u0b))) (u0a (d_B u1T T.z_isinstance (by decide +kernel) (u0a (dv 0) (u0a (d_ty T.z_int (T:="int") (by decide +kernel)) u0b))) (u0a (d_B u1T T.z_isinstance (by decide +kernel) (u0a (dv 0) (u0a (d_ty T.z_str (T:="str") (by decide +kernel)) u0b))) (u0a (d_B u1T T.z_isinstance (by decide +kernel) (u0a (dv 0) (u0a (d_ty T.z_list (T:="list") (by decide +kernel)) u0b))) u0b))))))
  (u0e (u0i (d_op u1P (dv 1) (u1l (u0a (d_B u1T T.z_isinstance (by decide +kernel) (u0a (dv 0) (u0a (d_ty T.z_tuple (T:="tuple") (by decide +kernel)) u0b))) (u0a (d_B u1T T.z_isinstance (by decide +kernel) (u0a (dv 0) (u0a (d_ty T.z_dict (T:="dict") (by decide +kernel)) u0b))) u0b))))))),?_⟩
 intro d h
 simp [runT,startD]
 cases d <;> first | rfl | simp [goodD] at h
theorem u8k {G_law_kinds:FD} (c__law_kinds:Callee P w K mg base 1 "_law_kinds" ["_law_thing_here"] (spF K G_law_kinds)) (p_kinds:∀ d,goodD d=true→G_law_kinds [d]=.ok (kindsD d)) (F:Fun K "_law_same" "_law_same" u3w f fd) (T:Txt K mg A):∃ G,FnOk P w K mg base CX0 2 f fd ["_law_told","_law_due_here"] (spF K G)∧Same G:=by
 refine ⟨_,F.okT (k:=1) u8c (fun cdv Ar outer s H E hr=>u0d (u0z (dt_w (u5r (u0q o_is (dv 0) u3r) (u3W (u0q o_is (dv 1) u3r)))) (u0e (u0i (u1R (u5e o_is (dv 0) u3r) (u3e (u5e o_is (dv 1) u3r))))) u0s)
  (u0e (u0i (u1R (u5e (u7j (hu64 hr)) (d_ix x_ix (dv 0) u0c) (d_ix x_ix (dv 1) u0c)) (u1R (u5e (u7j (hu64 hr)) (d_ix x_ix (dv 0) u0c) (d_ix x_ix (dv 1) u0c)) (u3e (u5e (u7j (hu64 hr)) (d_fn c__law_kinds hr (u0a (d_ix x_ix (dv 0) u0c) u0b)) (d_fn c__law_kinds hr (u0a (d_ix x_ix (dv 1) u0c) u0b))))))))),?_⟩
 intro s x gs g
 have s1:=u6q gs gs
 simp [runT,startD,tw,dIs,isN,ix_0,ix_1,s1,g.2,v2g,p_kinds _ g.1]
theorem u4f (F:Fun K "_law_is_number" "_law_is_number" u1G f fd) (T:Txt K mg A):∃ G,FnOk P w K mg base CX0 1 f fd ["_law_thing_here","_law_many"] (spF K G)∧IsNu G:=by
 refine ⟨_,F.okT (k:=0) u4c (fun cdv Ar outer s H E hr=>u0e (u0i (u1R (d_B u1T T.z_isinstance (by decide +kernel) (u0a (dv 0) (u0a (d_ty T.z_int (T:="int") (by decide +kernel)) u0b))) (u1R (d_not (d_B u1T T.z_isinstance (by decide +kernel) (u0a (dv 0) (u0a (d_ty T.z_bool (T:="bool") (by decide +kernel)) u0b)))) (u3e (u8C o_le o_lt u0c (dv 0) (dv 1))))))),?_⟩
 intro n d g
 simp [runT,startD,a_int (u0J g),a_bool (u0J g)]
 cases d with
 | int i=>by_cases c:0≤i <;> simp [isIntD,isBolD,isNum,c]
 | _=>simp [isIntD,isBolD,isNum]
theorem u7e {G_m_numbers_of:List D→Res (List D)} (mn_numbers_of:MCalleeN P w K mg base 3 A.Grammar "numbers_of" ["self","head"] G_m_numbers_of) {G_m_head_of:FD} (m_head_of:MCallee P w K mg base 4 A.Grammar "head_of" ["self","number"] G_m_head_of) {G_m_body_of:FD} (m_body_of:MCallee P w K mg base 4 A.Grammar "body_of" ["self","number"] G_m_body_of) {G_m_rank_by:FD} (m_rank_by:MCallee P w K mg base 4 A.Grammar "rank_by" ["self","number"] G_m_rank_by) {G_m_side_at:FD} (m_side_at:MCallee P w K mg base 3 A.Grammar "side_at" ["self","place"] G_m_side_at) (p_nu:MNu A G_m_numbers_of) (p_ho:MHo A G_m_head_of) (p_bo:MBo A G_m_body_of) (p_rb:MRb A G_m_rank_by) (p_sa:MSa A G_m_side_at) (Hn:Hnd K A) (F:Fun K "_law_asked" "_law_asked" u2S f fd) (T:Txt K mg A):∃ G,FnOk P w K mg base (CXe P w) 5 f fd ["_law_grammar","_law_way","_law_thing_here"] (spX K G)∧Asked A G:=by
 refine ⟨_,F.okTX (k:=4) u0n (fun cdv Ar outer s H E hr hq=>u0d (ds_n u0n.nd u3r)
  (u0d (ds_try ⟨rfl,rfl⟩ (fun pn xq1 hq=>u0e (u0z (u0q (o_eq (hu64 hr)) (dv 1) u0c) (u0e (ds_n u0n.nd (u0f (u0a u0p (u0a (u1q hq mn_numbers_of.mx hr (dv 0) (u0a (dv 2) u0b)) u0b))))) (u0e (u0z (u0q (o_eq (hu64 hr)) (dv 1) u0c) (u0e (ds_n u0n.nd (u0f (u0a u0p (u0a (u1q hq m_head_of hr (dv 0) (u0a (dv 2) u0b)) u0b))))) (u0e (u0z (u0q (o_eq (hu64 hr)) (dv 1) u0c) (u0e (ds_n u0n.nd (u0f (u0a u0p (u0a (u1q hq m_body_of hr (dv 0) (u0a (dv 2) u0b)) u0b))))) (u0e (u0z (u0q (o_eq (hu64 hr)) (dv 1) u0c) (u0e (ds_n u0n.nd (u0f (u0a u0p (u0a (u1q hq m_rank_by hr (dv 0) (u0a (dv 2) u0b)) u0b))))) (u0e (ds_n u0n.nd (u0f (u0a u0p (u0a (u1q hq m_side_at hr (dv 0) (u0a (dv 2) u0b)) u0b)))))))))))))
  (v2n (i:=4) ⟨rfl,rfl⟩ u0n.nd T.m_NoSymbol T.b_NoSymbol (fun ex=>u0e (ds_n u0n.nd (u0f (u0a u0p (u0a (v2o T.x_found (dv 4)) u0b)))))
  (v2n (i:=4) ⟨rfl,rfl⟩ u0n.nd T.m_NoRule T.b_NoRule (fun ex=>u0e (ds_n u0n.nd (u0f (u0a u0p (u0a (v2o T.x_found (dv 4)) u0b)))))
  (v2n (i:=4) ⟨rfl,rfl⟩ u0n.nd T.m_NoPlace T.b_NoPlace (fun ex=>u0e (ds_n u0n.nd (u0f (u0a u0p (u0a (v2o T.x_place (dv 4)) u0b)))))
  (dh_noK ⟨rfl,rfl⟩ T.m_TableError T.b_TableError (fun ex=>u0e (ds_n u0n.nd (u0f (u0a u0p (u0a u0c u0b)))))
  (dh_nil hq))))))
  (u0e (u0i (dv 3))))),?_⟩
 intro rs kk w d g hw hd
 generalize hH:hdAs K A.NoSymbol 4 _ _=HH
 have hs:∀ a b c x,HH (exc1 A.NoSymbol "found" x) [some (.val a),some (.val b),some (.val c),some (.val .non),none]=.nx [some (.val a),some (.val b),some (.val c),some (.val (.tup [.str "symbol",x])),none]:=fun a b c x=>by subst hH;simp [hdAs,Hn.xb_NoSymbol,Hn.xb_NoRule,Hn.xb_NoPlace,Hn.sb_NoSymbol_NoSymbol,Hn.sb_NoRule_NoSymbol,Hn.sb_NoRule_NoRule,Hn.sb_NoPlace_NoSymbol,Hn.sb_NoPlace_NoRule,Hn.sb_NoPlace_NoPlace,unset,List.lookup,exc1]
 have hR:∀ a b c x,HH (exc1 A.NoRule "found" x) [some (.val a),some (.val b),some (.val c),some (.val .non),none]=.nx [some (.val a),some (.val b),some (.val c),some (.val (.tup [.str "rule",x])),none]:=fun a b c x=>by subst hH;simp [hdAs,Hn.xb_NoSymbol,Hn.xb_NoRule,Hn.xb_NoPlace,Hn.sb_NoSymbol_NoSymbol,Hn.sb_NoRule_NoSymbol,Hn.sb_NoRule_NoRule,Hn.sb_NoPlace_NoSymbol,Hn.sb_NoPlace_NoRule,Hn.sb_NoPlace_NoPlace,unset,List.lookup,exc1]
 have hp:∀ a b c x,HH (exc1 A.NoPlace "place" x) [some (.val a),some (.val b),some (.val c),some (.val .non),none]=.nx [some (.val a),some (.val b),some (.val c),some (.val (.tup [.str "place",x])),none]:=fun a b c x=>by subst hH;simp [hdAs,Hn.xb_NoSymbol,Hn.xb_NoRule,Hn.xb_NoPlace,Hn.sb_NoSymbol_NoSymbol,Hn.sb_NoRule_NoSymbol,Hn.sb_NoRule_NoRule,Hn.sb_NoPlace_NoSymbol,Hn.sb_NoPlace_NoRule,Hn.sb_NoPlace_NoPlace,unset,List.lookup,exc1]
 have h0:=p_nu rs kk d g hd
 have h1:=p_ho rs kk d g hd
 have h2:=p_bo rs kk d g hd
 have h3:=p_rb rs kk d g hd
 have h4:=p_sa rs kk d g hd
 match w,hw with
 | 0,_ =>
  cases d with
  | str z =>
   by_cases c:z∈hsOf rs
   ·simp [numD,c] at h0
    simp [runX,startD,u1X,catchD,tellW,tw,hs,hR,hp,asLs,h0,c]
   ·simp [numD,c] at h0
    simp [runX,startD,u1X,catchD,tellW,tw,hs,hR,hp,asLs,h0,c]
  | _ =>
   simp [numD] at h0
   simp [runX,startD,u1X,catchD,tellW,tw,hs,hR,hp,asLs,h0]
 | 1,_ =>
  cases e:atR rs d with
  | none =>
   rw [u0P e] at h1
   simp [runX,startD,u1X,catchD,tellW,tw,hs,hR,hp,h1,e]
  | some p =>
   rw [u0A e] at h1
   simp [runX,startD,u1X,catchD,tellW,tw,hs,hR,hp,h1,e]
 | 2,_ =>
  cases e:atR rs d with
  | none =>
   rw [u0P e] at h2
   simp [runX,startD,u1X,catchD,tellW,tw,hs,hR,hp,h2,e]
  | some p =>
   rw [u0A e] at h2
   simp [runX,startD,u1X,catchD,tellW,tw,hs,hR,hp,h2,e]
 | 3,_ =>
  cases e:atR rs d with
  | none =>
   rw [u0P e] at h3
   simp [runX,startD,u1X,catchD,tellW,tw,hs,hR,hp,h3,e]
  | some p =>
   rw [u0A e] at h3
   simp [runX,startD,u1X,catchD,tellW,tw,hs,hR,hp,h3,e]
 | 4,_ =>
  cases e:atR kk d with
  | none =>
   rw [u0P e] at h4
   simp [runX,startD,u1X,catchD,tellW,tw,hs,hR,hp,h4,e]
  | some p =>
   rw [u0A e] at h4
   simp [runX,startD,u1X,catchD,tellW,tw,hs,hR,hp,h4,e]
theorem v0f {G_law_is_number:FD} (c__law_is_number:Callee P w K mg base 1 "_law_is_number" ["_law_thing_here","_law_many"] (spF K G_law_is_number)) {G_law_rank_by:FD} (c__law_rank_by:Callee P w K mg base 2 "_law_rank_by" ["_law_ranks_here","_law_body"] (spF K G_law_rank_by)) (p_num:IsNu G_law_is_number) (p_rb:LRb G_law_rank_by) (F:Fun K "_law_due" "_law_due" u3k f fd) (T:Txt K mg A):∃ G,FnOk P w K mg base CX0 3 f fd ["_law_rules_here","_law_ranks_here","_law_way","_law_thing_here"] (spF K G)∧DueW G:=by
 refine ⟨_,F.okT (k:=2) u5y (fun cdv Ar outer s H E hr=>u0d (u0z (u0q (u7j (hu64 hr)) (dv 2) u0c) (u0d (u6u ["_law_k"] [0,3] rfl (u0v (sc:=defScope u3k) (N:=["_law_rules_here","_law_ranks_here","_law_way","_law_thing_here","_law_found"]) (by decide +kernel)) u5y.nd (u1p T.z_range (u0a (d_B u0T T.z_len (by decide +kernel) (u0a (dv 0) u0b)) u0b)) (dg_n (show (["_law_k","_law_rules_here","_law_thing_here"]:List Str).Nodup by decide +kernel)) (u9z (dt_w (u9u (u1e (d_B u1T T.z_isinstance (by decide +kernel) (u0a (dv 2) (u0a (d_ty T.z_str (T:="str") (by decide +kernel)) u0b)))) (u6s (u0q (u7j (hu64 hr)) (d_ix x_ix (d_ix x_ix (dv 1) (dv 0)) u0c) (dv 2)))))) (dv 0))
   (u0e (u0i (d_ix x_ix (u1l (u0a (u0f (u0a u0p (u0a (dv 4) u0b))) (u0a (u0f (u0a u0p (u0a (dv 3) u0b))) u0b))) (d_T c_int T.z_int (by decide +kernel) (u0a (u5e (u7j (hu64 hr)) (dv 4) (u1l u0b)) u0b)))))) u0s)
  (u0d (u0z (u0q (u7j (hu64 hr)) (dv 2) u0c) (u0d (u0z (u1e (d_fn c__law_is_number hr (u0a (dv 3) (u0a (d_B u0T T.z_len (by decide +kernel) (u0a (dv 1) u0b)) u0b)))) (u0e (u0i (u0f (u0a u0p (u0a (d_ix x_ix (d_ix x_ix (dv 1) (dv 3)) u0c) u0b))))) u0s)
   (u0e (u0i (u0f (u0a u0p (u0a (dv 3) u0b)))))) u0s)
  (u0d (u0z (u1s (u1e (d_fn c__law_is_number hr (u0a (dv 3) (u0a (d_B u0T T.z_len (by decide +kernel) (u0a (dv 0) u0b)) u0b))))) (u0e (u0i (u0f (u0a u0p (u0a (dv 3) u0b))))) u0s)
  (u0e (u0i (u0f (u0a u0p (u0a (d_ix x_ix (u1l (u0a (d_ix x_ix (d_ix x_ix (dv 0) (dv 3)) u0c) (u0a (d_ix x_ix (d_ix x_ix (dv 0) (dv 3)) u0c) (u0a (d_fn c__law_rank_by hr (u0a (dv 1) (u0a (d_ix x_ix (d_ix x_ix (dv 0) (dv 3)) u0c) u0b))) u0b)))) (d_op v3q (dv 2) u0c)) u0b)))))))),?_⟩
 intro rs kk w d g hw hd
 by_cases w0:w=0
 ·subst w0
  have ln:rs.length≤sizeLine:=u0I (by have:=g.r.n;omega)
  simp [runT,startD,u3J,tellW,tw,u6S (show rs.length≤1000 by have:=g.r.n;omega),u6g,ln,-u0N,-u0j,-Res.bind_ok,-L2.go_ok,-Out.then_nx,bindN,goN,thenN]
  cases d with
  | str z =>
   have gz:goodS z=true:=by simpa [goodD] using hd
   rw [u0Y (pNr rs z) (fun d=>d) fun d hd=>?_]
   ·rw [u8W]
    have e1:=u8X z rs 0
    by_cases c:z∈hsOf rs
    ·have ne:¬ numsL z 0 rs=[]:=fun h=>(e1.mp h) c
     have ie:(numsL z 0 rs).isEmpty=false:=by
      cases h:numsL z 0 rs with
      | nil=>exact absurd h ne
      | cons _ _=>rfl
     simp [c,v3R,ie,gInt,u3E]
    ·have ne:numsL z 0 rs=[]:=e1.mpr c
     simp [c,v4m,ne,gInt,u7r]
   ·obtain ⟨k,hk,rfl⟩:=u4n hd
    have x1:=ix_m (c:=rT) hk
    have e:(hsOf rs).getD k ""=rs[k].1:=by rw [u1J (by simpa [hsOf] using hk)];simp [hsOf]
    have gh:=(g.r.ok _ (List.getElem_mem hk)).gh
    have ts:gIsA [.str z,.ty "str"]=.ok (.bl true):=rfl
    have ep:pNr rs z (dN k)=decide (rs[k].1=z):=by
     show decide ((hsOf rs).getD (((k:Nat):Int)).toNat ""=z)=_
     rw [Int.toNat_natCast,e]
    exact ⟨_,rfl,by rw [ep];simp [rhoC,ts,x1,rT,ix_0,u6q gh gz],fun _=>by simp [rhoC]⟩
  | _ =>
   rw [u0Y (fun _=>false) (fun d=>d) fun d hd=>?_]
   ·rw [show (intL 0 rs.length).filter (fun _=>false)=[] by rw [List.filter_eq_nil_iff];simp]
    simp [v4m,gInt,u7r]
   ·exact ⟨_,rfl,by simp [rhoC,v3Z (u0J (by assumption)),isStrD],fun h=>by cases h⟩
 by_cases w4:w=4
 ·subst w4
  have nu:=p_num kk.length d hd
  rw [u9h] at nu
  cases e:atR kk d with
  | none =>
   rw [e] at nu
   simp [runT,startD,u3J,tellW,tw,nu,e,-u0N,-u0j,-Res.bind_ok,-L2.go_ok,-Out.then_nx,bindN,goN,thenN]
  | some p =>
   rw [e] at nu
   obtain ⟨k,hk,rfl,ep⟩:=u4r e
   have x1:=ix_m (c:=rT) hk
   rw [ep] at x1
   simp [runT,startD,u3J,tellW,tw,nu,e,x1,rT,ix_0,-u0N,-u0j,-Res.bind_ok,-L2.go_ok,-Out.then_nx,bindN,goN,thenN]
 have w3:w=1∨w=2∨w=3:=by omega
 have c0:¬ (w:Int)=0:=by omega
 have c4:¬ (w:Int)=4:=by omega
 have nu:=p_num rs.length d hd
 rw [u9h] at nu
 cases e:atR rs d with
 | none =>
  rw [e] at nu
  simp [runT,startD,u3J,nu,w0,w4,c0,c4,-u0N,-u0j,-Res.bind_ok,-L2.go_ok,-Out.then_nx,bindN,goN,thenN]
  rcases w3 with rfl | rfl | rfl <;> simp [tellW,tw,e]
 | some p =>
  rw [e] at nu
  obtain ⟨k,hk,rfl,ep⟩:=u4r e
  have x1:=ix_m (c:=rT) hk
  rw [ep] at x1
  have rb:=p_rb kk p.2 g.k (g.r.ok p (ep ▸ List.getElem_mem hk)).gs
  simp [runT,startD,u3J,nu,w0,w4,c0,c4,x1,rT,ix_0,ix_1,rb,-u0N,-u0j,-Res.bind_ok,-L2.go_ok,-Out.then_nx,bindN,goN,thenN]
  rcases w3 with rfl | rfl | rfl <;> simp [tellW,tw,e,u3E,u7r,ixl_2,bT]
theorem u6V {G_law_row:FD} (c__law_row:Callee P w K mg base 2 "_law_row" ["_law_script","_law_at","_law_base","_law_count"] (spF K G_law_row)) (p_row:Row G_law_row) (F:Fun K "_law_wider" "_law_wider" u1F f fd) (T:Txt K mg A):∃ G,FnOk P w K mg base CX0 3 f fd ["_law_script","_law_rules_here"] (spF K G)∧Wider G:=by
 refine ⟨_,F.okT (k:=2) u0W (fun cdv Ar outer s H E hr=>u0d (ds_n u0W.nd (d_fn c__law_row hr (u0a (dv 0) (u0a u0c (u0a (d_op u1o u0c u0c) (u0a u0c u0b))))))
  (u0d (u1K u0W.nd (u1f ["_law_head","_law_body"] [] rfl (u0v (sc:=defScope u1F) (N:=["_law_script","_law_rules_here","_law_draws","_law_some","_law_head","_law_body","_law_rule"]) (by decide +kernel)) (u0E (dv 1)) (u1Y (n:=2) rfl (u0o (dg_n (show (["_law_head","_law_body"]:List Str).Nodup by decide +kernel)) (u0o (dg_n (show (["_law_head","_law_body"]:List Str).Nodup by decide +kernel)) u1k))) u1Z (dv 0)))
  (u0d (u0G rfl (u0E (DN.de (u5a T.z_list (u0a (dv 1) u0b)))) (u1Y (n:=2) rfl (u0o (dg_n u0W.nd) (u0o (dg_n u0W.nd) u1k)))
  (u0e (v4p 3 (DN.de (u5a T.z_list (u0a (dv 5) u0b))))))
  (u0d (ds_n u0W.nd (DE.hard (u0f (u0a (d_ix x_ix (d_ix x_ix (dv 1) (d_op u1i (d_ix x_ix (dv 2) u0c) (d_B u0T T.z_len (by decide +kernel) (u0a (dv 1) u0b)))) u0c) (u0a (d_T u2r T.z_tuple (by decide +kernel) (u0a (DN.de (u1f ["_law_draw"] [3] rfl (u0v (sc:=defScope u1F) (N:=["_law_script","_law_rules_here","_law_draws","_law_some","_law_head","_law_body","_law_rule"]) (by decide +kernel)) (u0E (d_sl (dv 2) (u2f u0c) u4Z)) (dg_n (show (["_law_draw","_law_some"]:List Str).Nodup by decide +kernel)) u1Z (d_ix x_ix (dv 1) (d_op u1i (dv 0) (d_B u0T T.z_len (by decide +kernel) (u0a (dv 1) u0b)))))) u0b)) u0b)))))
  (u0d (u0z (dt_w (u5r (u0q o_gt (d_op u1i (d_ix x_ix (dv 2) u0c) u0c) u0c) (u3W (u0q (o_in (hu100 hr)) (dv 6) (dv 1))))) (u0e (u0i (dv 1))) u0s)
  (u0e (u0i (d_op u1P (dv 1) (u1l (u0a (dv 6) u0b)))))))))),?_⟩
 intro ns rs hl h
 have n1:=h.n1
 obtain ⟨ds,er,hdl,hd⟩:=p_row ns 8 288 6 (by omega) (by omega) (by omega)
 match ds,hdl with
 | [d0,d1,d2,d3,d4,d5],_ =>
 have er':G_law_row [scr ns,.int 8,.int 288,.int 6]=.ok (.lst ([d0,d1,d2,d3,d4,d5].map dN)):=er
 have m1:dMulX (.int 24) (.int 12)=.ok (.int 288):=u2E (by omega)
 have hrl:rs.length≤sizeLine:=u0I (by omega)
 simp [runT,startD,m1,er',hrl]
 rw [u0K hdT fun d hd=>?_]
 ·rw [v1U]
  simp [seqOf]
  generalize hI:forD _ _ _ _=o
  have q:Qwi (some (.val (scr ns))) (some (.val (dR rs))) (some (.val (.lst [dN d0,dN d1,dN d2,dN d3,dN d4,dN d5]))) rs o:=by
   rw [← hI]
   refine u1d (Swi (some (.val (scr ns))) (some (.val (dR rs))) (some (.val (.lst [dN d0,dN d1,dN d2,dN d3,dN d4,dN d5]))) rs) (Qwi (some (.val (scr ns))) (some (.val (dR rs))) (some (.val (.lst [dN d0,dN d1,dN d2,dN d3,dN d4,dN d5]))) rs) ?_ ?_ (rs.map rT) _ ⟨rs,hsOf rs,none,none,rfl,rfl,fun q hq=>hq,fun s hs=>.inl hs,by simpa [hsOf] using n1,by simp [hsOf];omega⟩
   ·rintro ρ ⟨qs,ss,x,y,rfl,e,h1,h2,h3,h4⟩
    exact ⟨ss,x,y,rfl,h2,h3,by omega⟩
   ·rintro d ds ρ ⟨qs,ss,x,y,rfl,e,h1,h2,h3,h4⟩
    cases qs with
    | nil=>cases e
    | cons q qs =>
     cases e
     have hq:=h1 q List.mem_cons_self
     have ql:=(h.v q hq).1.l
     simp at h4
     have sl:ss.length+q.2.length<sizeLine:=Nat.lt_of_le_of_lt (show _≤1000 by omega) (by decide)
     refine ⟨_,rfl,.inl ⟨_,by simp [seqOf,rT,sl,Nat.le_of_lt sl];rfl,qs,ss++q.2,some (.str q.1),some (.tup (q.2.map D.str)),by simp,rfl,fun p hp=>h1 p (List.mem_cons_of_mem _ hp),fun s hs=>?_,by simp;omega,by simp;omega⟩⟩
     rcases List.mem_append.mp hs with k | k
     ·exact h2 s k
     ·exact .inr ⟨q,hq,k⟩
  obtain ⟨ss,x,y,rfl,g1,g2,g3⟩:=q
  have l4:4≤sizeLine:=u0I (by omega)
  obtain ⟨j,ej,hj⟩:=modZ (d1:Int) (b:=(rs.length:Int)) (by omega)
  have s1:dMod (.int (d1:Int)) (.int (rs.length:Int))=.ok (dN j):=by rw [u0D (by omega),ej]
  have s2:=ix_m (c:=rT) (rs:=rs) (i:=j) (by omega)
  have s3:dIx (rT (rs[j]'(by omega))) (.int 0)=.ok (.str (rs[j]'(by omega)).1):=ix_0 _ _
  have hjm:(rs[j]'(by omega)).1∈hsOf rs:=List.mem_map.mpr ⟨_,List.getElem_mem _,rfl⟩
  generalize (rs[j]'(by omega)).1=z0 at s3 hjm
  generalize rT (rs[j]'(by omega))=r0 at s2 s3
  have s4:dSl (.lst [dN d0,dN d1,dN d2,dN d3,dN d4,dN d5]) (some 2) none=.ok (.lst ([d2,d3,d4,d5].map dN)):=rfl
  have s5:dMod (.int (d0:Int)) (.int 4)=.ok (.int ((d0:Int)%4)):=u0D (by omega)
  simp [u3E,u7r,s1,s2,s3,s4,s5,asI]
  generalize hC:compD _ _ _ _ _=oc
  have qc:∃ ys,oc=.ok ys∧ys.length=([d2,d3,d4,d5].map dN).length∧∀ y∈ys,∃ b,y=D.str b∧inSome rs b:=by
   rw [← hC]
   refine u4q fun d hd=>?_
   obtain ⟨x,rfl⟩:∃ x:Nat,d=dN x:=by
    simp at hd
    rcases hd with rfl | rfl | rfl | rfl <;> exact ⟨_,rfl⟩
   obtain ⟨t,et,ht⟩:=modZ (x:Int) (b:=(ss.length:Int)) (by omega)
   have t1:dMod (.int (x:Int)) (.int (ss.length:Int))=.ok (dN t):=by rw [u0D (by omega),et]
   obtain ⟨b,hb,t2⟩:=u7s (c:=D.str) (rs:=ss) (i:=t) (by omega)
   exact ⟨_,.str b,rfl,by simp,by simp [rhoC,t1,t2],b,rfl,g1 b hb⟩
  obtain ⟨ys,rfl,hy1,hy2⟩:=qc
  obtain ⟨bs,rfl,hb2⟩:=pull hy2
  have hbl:bs.length≤4:=by simpa using (show (bs.map D.str).length≤4 by rw [hy1];simp)
  have nn:=v1S (vr_some h hjm hbl hb2) h.v
  have gt1:gTuple [dS bs]=.ok (.tup (bs.map D.str)):=rfl
  have ad:dAdd (dR rs) (.lst [.tup [.str z0,.tup (bs.map D.str)]])=.ok (dR (rs++[(z0,bs)])):=by rw [v4x (by simp;omega)];simp [rT]
  by_cases c0:(0:Int)<(d0:Int)%4
  ·exact ⟨rs,by simp [gt1,hardC,l4,hardD,hardDs,u2p,u3E,s5,u0F,c0],by omega,h⟩
  ·by_cases cm:(z0,bs)∈rs
   ·exact ⟨rs,by simp [gt1,hardC,l4,hardD,hardDs,u2p,u3E,s5,u0F,c0,nn,cm],by omega,h⟩
   ·exact ⟨rs++[(z0,bs)],by simp [gt1,hardC,l4,hardD,hardDs,u2p,u3E,s5,u0F,c0,nn,cm,ad],by simp;omega,gr_snoc h hjm hbl hb2 cm⟩
 ·obtain ⟨p,_,rfl⟩:=List.mem_map.mp hd
  exact ⟨_,rfl,by simp,by simp [rhoC,hdT,rT]⟩
theorem u5m (F:Fun K "_law_renamed" "_law_renamed" u1v f fd) (T:Txt K mg A):∃ G,FnOk P w K mg base CX0 1 f fd ["_law_rules_here"] (spF K G)∧Renm G:=by
 refine ⟨_,F.okT (k:=0) u0w (fun cdv Ar outer s H E hr=>u0d (u1K u0w.nd u7F)
  (u0d (u0G rfl (u0E (dv 0)) (u1Y (n:=2) rfl (u0o (dg_n u0w.nd) (u0o (dg_n u0w.nd) u1k)))
  (u0d (ds_n u0w.nd (DE.flat (d_op u1i (d_B c_lenX T.z_len (by decide +kernel) (u0a (dv 1) u0b)) u0c)))
   (u0e (ds_setd 1 (dv 2) (d_op u1P (d_sl (dv 2) u4Z (u2f (d_op v3q u0c (dv 4)))) (d_op o_mulT u0p (dv 4)))))))
  (u0d (u1K u0w.nd (u3Y u0b))
  (u0d (u0G rfl (u0E (dv 0)) (u1Y (n:=2) rfl (u0o (dg_n u0w.nd) (u0o (dg_n u0w.nd) u1k)))
  (u0e (u1L 5 (DE.hard (u0f (u0a (d_ixK (hu_of hr) (dv 1) (dv 2)) (u0a (d_T u2r T.z_tuple (by decide +kernel) (u0a (DN.de (u1f ["_law_symbol_here"] [1] rfl (u0v (sc:=defScope u1v) (N:=["_law_rules_here","_law_names","_law_head","_law_body","_law_many","_law_found"]) (by decide +kernel)) (u0E (dv 3)) (dg_n (show (["_law_symbol_here","_law_names"]:List Str).Nodup by decide +kernel)) u1Z (d_getK (hu_of hr) (dv 1) (dv 0) (dv 0)))) u0b)) u0b)))))))
  (u0e (u0i (dv 5))))))),?_⟩
 intro rs hl h
 simp [runT,startD]
 generalize hI:forD _ _ _ _=o
 have q:Qn1 rs o:=by
  rw [← hI]
  refine u1d (Sn1 rs) (Qn1 rs) ?_ ?_ (rs.map rT) _ ⟨rs,[],none,none,none,rfl,rfl,fun q hq=>hq,⟨fun a b e=>by cases e⟩,by simp;omega,fun p hp=>.inl hp⟩
  ·rintro ρ ⟨qs,N,x,y,z,rfl,e,h1,h2,h3,h4⟩
   cases qs with
   | cons q qs=>cases e
   | nil=>exact ⟨N,x,y,z,rfl,h2,fun p hp=>(h4 p hp).resolve_left (fun k=>nomatch k)⟩
  ·rintro d ds ρ ⟨qs,N,x,y,z,rfl,e,h1,h2,h3,h4⟩
   cases qs with
   | nil=>cases e
   | cons q qs =>
    cases e
    have hq:=h1 q List.mem_cons_self
    simp at h3
    refine ⟨_,rfl,.inl ?_⟩
    have hm:N.length%3<3:=Nat.mod_lt _ (by omega)
    have s1:gLenX [.dct (N.map nD)]=.ok (.int (N.length:Int)):=by show Res.ok (D.int ((N.map nD).length:Int))=_;rw [List.length_map]
    have s2:dMod (.int (N.length:Int)) (.int 3)=.ok (dN (N.length%3)):=by rw [u0D (by omega)];simp [dN]
    generalize N.length%3=m at hm s2
    obtain ⟨o1,o2,o3⟩:=nm_at (h.hh q hq) hm
    have s3:dSl (.str q.1) none (some (6 - (m:Int)))=.ok (.str (Txt.slice q.1 none (some (6 - (m:Int))))):=rfl
    have s4:dMulT (.str "z") (.int (m:Int))=.ok (.str (mulS "z" m)):=by
     show gd _ _=_
     rw [u0S ⟨by omega,by omega,by decide,by rw [Int.toNat_natCast];omega⟩,Int.toNat_natCast]
    have s5:dAdd (.str (Txt.slice q.1 none (some (6 - (m:Int))))) (.str (mulS "z" m))=.ok (.str (nmz q.1 m)):=v4w (by omega)
    have s6:N.length<sizeLine:=Nat.lt_of_le_of_lt (show N.length≤1000 by omega) (by decide)
    have rest:∀ p∈qs,p∈rs:=fun p hp=>h1 p (List.mem_cons_of_mem _ hp)
    cases c:(N.lookup q.1).isSome with
    | true =>
     refine ⟨_,by simp [fSetD,getD',rT,OD.toD,s1,s2,s3,s4,s5,s6,asI,flatC,flatD,keyK,valN,c];rfl,qs,N,some (.str q.1),some (.tup (q.2.map D.str)),some (dN m),by simp,rfl,rest,h2,by omega,fun p hp=>?_⟩
     rcases h4 p hp with k | k
     ·rcases List.mem_cons.mp k with rfl | k
      ·exact .inr c
      ·exact .inl k
     ·exact .inr k
    | false =>
     refine ⟨_,by simp [fSetD,getD',rT,OD.toD,s1,s2,s3,s4,s5,s6,asI,flatC,flatD,keyK,valN,c,putNm c];rfl,qs,N++[(q.1,nmz q.1 m)],some (.str q.1),some (.tup (q.2.map D.str)),some (dN m),by simp,rfl,rest,ni_snoc h2 (h.hh q hq) o1 o2,by simp;omega,fun p hp=>?_⟩
     rw [v1D]
     rcases h4 p hp with k | k
     ·rcases List.mem_cons.mp k with rfl | k
      ·exact .inr (by simp)
      ·exact .inl k
     ·exact .inr (by simp [k])
 obtain ⟨N,x,y,z,rfl,ni,all⟩:=q
 simp [ -u0N,-u0j,-Res.bind_ok,-L2.go_ok,-Out.then_nx,bindN,goN,thenN]
 generalize hJ:forD _ _ _ _=o2
 have q2:Qn2 rs N o2:=by
  rw [← hJ]
  refine u1d (Sn2 rs N) (Qn2 rs N) ?_ ?_ (rs.map rT) _ ⟨[],rs,x,y,z,rfl,rfl,rfl⟩
  ·rintro ρ ⟨dn,qs,x,y,z,rfl,e,e0⟩
   cases qs with
   | cons q qs=>cases e
   | nil =>
    rw [List.append_nil] at e0
    subst e0
    exact ⟨_,rfl,rfl⟩
  ·rintro d ds ρ ⟨dn,qs,x,y,z,rfl,e,e0⟩
   cases qs with
   | nil=>cases e
   | cons q qs =>
    cases e
    have hq:q∈rs:=by rw [e0];simp
    have hdl:dn.length≤7:=by have:=congrArg List.length e0;simp at this;omega
    have hsz:dn.length<sizeLine:=Nat.lt_of_le_of_lt (show dn.length≤1000 by omega) (by decide)
    have bl:q.2.length≤sizeLine:=u0I (by have:=(h.v q hq).1.l;omega)
    refine ⟨_,rfl,.inl ?_⟩
    have s1:=ix_nm (all q hq)
    simp [rT,OD.toD,bl,s1]
    rw [u0K (onS (ren N)) fun d hd=>?_]
    ·rw [onS_map]
     generalize eb:q.2.map (ren N)=bs
     have gt1:gTuple [dS bs]=.ok (.tup (bs.map D.str)):=rfl
     refine ⟨_,by simp [gt1,hardC,hardD,hardDs,u2p,hsz,u0F];rfl,dn++[q],qs,some (.str q.1),some (.tup (q.2.map D.str)),z,by simp [rT,rn,← eb],rfl,by rw [e0];simp⟩
    ·obtain ⟨b,_,rfl⟩:=List.mem_map.mp hd
     exact ⟨_,rfl,by simp,by simp [rhoC,asDct,get_nm,onS,OD.toD]⟩
 obtain ⟨ρ,rfl,g⟩:=q2
 exact ⟨_,by simp [g],ren_gs h hl ni all⟩
abbrev Thing (G:FD):Prop:=∀ rs kk (a b:Nat),GK rs kk→∃ d,G [dR rs,dR kk,.lst [dN a,dN b]]=.ok d∧okT d
def Sth (a b c:Option Sl) (rs:List RR) (ds:List D) (ρ:Rho):Prop:=∃ (qs:List RR) (ss:List D) (y:Option Sl),ρ=[a,b,c,some (.own (.l ss)),y]∧ds=qs.map rT∧(∀ q∈qs,q∈rs)∧(∀ d∈ss,okT d)∧1≤ss.length∧ss.length+4*qs.length≤100
def Qth (a b c:Option Sl) (o:Out):Prop:=∃ (ss:List D) (y:Option Sl),o=.nx [a,b,c,some (.own (.l ss)),y]∧(∀ d∈ss,okT d)∧1≤ss.length∧ss.length≤100
theorem v0W {l m:List Str} (nl:l.Nodup) (nm:m.Nodup) (h:∀ z,z∈l↔z∈m):sortT l=sortT m :=
 u2G ((u1y l).trans (((List.perm_ext_iff_of_nodup nl nm).mpr h).trans (u1y m).symm)) (u4l l) (u4l m)
theorem v3v {ss:List Str}{x z:Str}:z∈addT ss x↔z∈ss∨z=x:=by
 unfold addT
 by_cases c:x∈ss
 ·rw [if_pos c]
  exact ⟨.inl,fun h=>h.elim id fun e=>e ▸ c⟩
 ·rw [if_neg c];simp
theorem u5D:∀ {bs ss:List Str}{z:Str},z∈bs.foldl addSg ss↔z∈ss∨(z∈bs∧sgnS z=true)
 | [],ss,z=>by simp
 | b::bs,ss,z=>by
  rw [List.foldl_cons,u5D]
  unfold addSg
  by_cases c:sgnS b=true
  ·rw [if_pos c,v3v,List.mem_cons]
   constructor
   ·rintro ((h | h) | h)
    ·exact .inl h
    ·exact .inr ⟨.inl h,h ▸ c⟩
    ·exact .inr ⟨.inr h.1,h.2⟩
   ·rintro (h | ⟨h | h,k⟩)
    ·exact .inl (.inl h)
    ·exact .inl (.inr h)
    ·exact .inr ⟨h,k⟩
  ·rw [if_neg c,List.mem_cons]
   constructor
   ·rintro (h | h)
    ·exact .inl h
    ·exact .inr ⟨.inr h.1,h.2⟩
   ·rintro (h | ⟨h | h,k⟩)
    ·exact .inl h
    ·exact absurd (h ▸ k) c
    ·exact .inr ⟨h,k⟩
theorem v1y:∀ {rs:List RR}{ss:List Str}{z:Str},z∈sgL ss rs↔z∈ss∨((∃ p∈rs,z∈p.2)∧sgnS z=true)
 | [],ss,z=>by simp [sgL]
 | p::rs,ss,z=>by
  show z∈sgL (p.2.foldl addSg ss) rs↔_
  rw [v1y,u5D]
  constructor
  ·rintro ((h | h) | ⟨⟨q,hq,h⟩,k⟩)
   ·exact .inl h
   ·exact .inr ⟨⟨p,List.mem_cons_self,h.1⟩,h.2⟩
   ·exact .inr ⟨⟨q,List.mem_cons_of_mem _ hq,h⟩,k⟩
  ·rintro (h | ⟨⟨q,hq,h⟩,k⟩)
   ·exact .inl (.inl h)
   ·rcases List.mem_cons.mp hq with rfl | hq
    ·exact .inl (.inr ⟨h,k⟩)
    ·exact .inr ⟨⟨q,hq,h⟩,k⟩
noncomputable def newS (hs ss bs:List Str):List Str:=bs.filter fun b=>!decide (b∈hs)&&!decide (b∈ss)
noncomputable def gaS (hs ss:List Str) (rs:List RR):List Str:=rs.foldl (fun ss p=>ss++newS hs ss p.2) ss
theorem v1z {hs:List Str}:∀ {rs:List RR}{ss:List Str}{z:Str},z∈gaS hs ss rs↔z∈ss∨((∃ p∈rs,z∈p.2)∧¬ z∈hs)
 | [],ss,z=>by simp [gaS]
 | p::rs,ss,z=>by
  show z∈gaS hs (ss++newS hs ss p.2) rs↔_
  rw [v1z,List.mem_append]
  unfold newS
  rw [List.mem_filter]
  simp only [Bool.and_eq_true,Bool.not_eq_true',decide_eq_false_iff_not]
  constructor
  ·rintro ((h | ⟨h,k,_⟩) | ⟨⟨q,hq,h⟩,k⟩)
   ·exact .inl h
   ·exact .inr ⟨⟨p,List.mem_cons_self,h⟩,k⟩
   ·exact .inr ⟨⟨q,List.mem_cons_of_mem _ hq,h⟩,k⟩
  ·rintro (h | ⟨⟨q,hq,h⟩,k⟩)
   ·exact .inl (.inl h)
   ·rcases List.mem_cons.mp hq with rfl | hq
    ·by_cases c:z∈ss
     ·exact .inl (.inl c)
     ·exact .inl (.inr ⟨h,k,c⟩)
    ·exact .inr ⟨⟨q,hq,h⟩,k⟩
theorem GS.signs {rs:List RR} (h:GS rs):sortT (setOfT (gaS (headsL rs) [] rs))=sortT (sgL [] rs):=by
 refine v0W (u6N _) (u8L (by simp)) fun z=>?_
 rw [u1U,v1z,v1y]
 constructor
 ·rintro (k | ⟨⟨p,hp,hz⟩,k⟩)
  ·cases k
  ·exact .inr ⟨⟨p,hp,hz⟩,((h.cl p hp z hz).resolve_left fun q=>k (u1V.mpr q)) |> fun q=>(u3o q).1⟩
 ·rintro (k | ⟨⟨p,hp,hz⟩,k⟩)
  ·cases k
  ·refine .inr ⟨⟨p,hp,hz⟩,fun q=>?_⟩
   obtain ⟨q',hq',rfl⟩:=List.mem_map.mp (u1V.mp q)
   rw [h.hn q' hq'] at k
   cases k
theorem v2a {hs:List Str}:∀ (rs:List RR) (ss:List Str),(∀ p∈rs,p.2.length≤4)→(gaS hs ss rs).length≤ss.length+4*rs.length
 | [],ss,_=>by simp [gaS]
 | p::rs,ss,h=>by
  show (gaS hs (ss++newS hs ss p.2) rs).length≤_
  have h1:=v2a (hs:=hs) rs (ss++newS hs ss p.2) fun q hq=>h q (List.mem_cons_of_mem _ hq)
  have h2:=h p List.mem_cons_self
  have h3:(newS hs ss p.2).length≤p.2.length:=List.length_filter_le _ _
  simp only [List.length_append,List.length_cons] at h1 ⊢
  omega
noncomputable def pSg (hs ss:List Str):D→Bool
 | .str z=>!decide (z∈hs)&&!decide (z∈ss)
 | _=>false
theorem new_map (hs ss bs:List Str):((bs.map D.str).filter (pSg hs ss)).map (fun d=>d)=(newS hs ss bs).map D.str:=by
 induction bs with
 | nil=>rfl
 | cons b bs ih =>
  unfold newS at ih ⊢
  rw [List.map_cons,List.filter_cons,List.filter_cons]
  show (if (!decide (b∈hs)&&!decide (b∈ss))=true then _ else _:List D).map _=_
  split
  ·rw [List.map_cons,ih];rfl
  ·exact ih
theorem u7A:∀ ss:List Str,(ss.map D.str).all flatD=true
 | []=>rfl
 | z::ss=>by rw [List.map_cons,List.all_cons,u7A ss];rfl
theorem u6W (F:Fun K "_law_thing" "_law_thing" u2O f fd) (T:Txt K mg A):∃ G,FnOk P w K mg base CX0 1 f fd ["_law_rules_here","_law_ranks_here","_law_draws"] (spF K G)∧Thing G:=by
 refine ⟨_,F.okT (k:=0) u1N (fun cdv Ar outer s H E hr=>u0d (u1K u1N.nd (u3Y (u0a (d_ix x_ix (d_ix x_ix (dv 0) (d_op u1i (d_ix x_ix (dv 2) u0c) (d_B u0T T.z_len (by decide +kernel) (u0a (dv 0) u0b)))) u0c) (u0a u0p (u0a u0p (u0a u0p (u0a u0p (u0a u0p (u0a u0p (u0a u3r (u0a d_bl (u0a d_bl (u0a (d_un u_neg u0c) (u0a (d_B u0T T.z_len (by decide +kernel) (u0a (dv 0) u0b)) u0b))))))))))))))
  (DB.fix (u0d (u1K u1N.nd (dn_cat (dv 3) (u1l (u0a (d_B u0T T.z_len (by decide +kernel) (u0a (dv 1) u0b)) (u0a (d_op u1i (d_ix x_ix (dv 2) u0c) u0c) (u0a (d_op o_pow u0c u0c) (u0a (u0f (u0a u0p u0b)) (u0a (u1l u0b) (u0a (DN.de u7F) (u0a (u1l (u0a u0p u0b)) (u0a u0c (u0a u0c u0b))))))))))))
  (u0d (u0G rfl (u0E (dv 0)) (dg_n u1N.nd)
  (u0e (v4p 3 (DN.de (u5a T.z_list (u0a (d_ix x_ix (dv 4) u0c) u0b))))))
  (u0e (u0i (d_ix x_ix (dv 3) (d_op u1i (d_ix x_ix (dv 2) u0c) (d_B u0T T.z_len (by decide +kernel) (u0a (dv 3) u0b)))))))))),?_⟩
 intro rs kk a b g
 have n1:=g.r.n1
 have n:=g.r.n
 have kl:=g.k.l
 obtain ⟨j,ej,hj⟩:=modZ (b:Int) (b:=(rs.length:Int)) (by omega)
 have s1:dMod (.int (b:Int)) (.int (rs.length:Int))=.ok (dN j):=by rw [u0D (by omega),ej]
 have s2:=ix_m (c:=rT) (rs:=rs) (i:=j) (by omega)
 have s3:dIx (rT (rs[j]'(by omega))) (.int 0)=.ok (.str (rs[j]'(by omega)).1):=ix_0 _ _
 have gz:goodS (rs[j]'(by omega)).1=true:=(g.r.ok _ (List.getElem_mem _)).gh
 generalize (rs[j]'(by omega)).1=z0 at s3 gz
 generalize rT (rs[j]'(by omega))=r0 at s2 s3
 have s4:dMod (.int (b:Int)) (.int 24)=.ok (.int ((b:Int)%24)):=u0D (by omega)
 have s5:dPow (.int 10) (.int 20)=.ok (.int 100000000000000000000):=by
  show gd _ _=_
  rw [u0S (show CPow 10 20 by decide)]
  rfl
 have ng:dNeg (.int 1)=.ok (.int (-1)):=rfl
 have l21:21≤sizeLine:=u0I (by omega)
 simp [runT,startD,u3E,u7r,s1,s2,s3,s4,s5,ng,OD.toD,u0F,catD,l21]
 generalize hI:forD _ _ _ _=o
 have q:Qth (some (.val (dR rs))) (some (.val (dR kk))) (some (.val (.lst [dN a,dN b]))) o:=by
  rw [← hI]
  refine u1d (Sth (some (.val (dR rs))) (some (.val (dR kk))) (some (.val (.lst [dN a,dN b]))) rs) (Qth _ _ _) ?_ ?_ (rs.map rT) _ ⟨rs,_,none,rfl,rfl,fun q hq=>hq,?_,by simp,by simp;omega⟩
  ·rintro ρ ⟨qs,ss,y,rfl,e,h1,h2,h3,h4⟩
   exact ⟨ss,y,rfl,h2,h3,by omega⟩
  ·rintro d ds ρ ⟨qs,ss,y,rfl,e,h1,h2,h3,h4⟩
   cases qs with
   | nil=>cases e
   | cons q qs =>
    cases e
    have hq:=g.r.ok q (h1 q List.mem_cons_self)
    have ql:=hq.l
    simp at h4
    have sl:ss.length+q.2.length≤sizeLine:=u0I (by omega)
    refine ⟨_,rfl,.inl ⟨_,by simp [seqOf,rT,ix_1,sl];rfl,qs,ss++q.2.map D.str,_,by simp;rfl,rfl,fun p hp=>h1 p (List.mem_cons_of_mem _ hp),fun d hd=>?_,by simp;omega,by simp;omega⟩⟩
    rcases List.mem_append.mp hd with k | k
    ·exact h2 d k
    ·obtain ⟨z,hz,rfl⟩:=List.mem_map.mp k
     exact u4J (hq.gs z hz)
  ·intro d hd
   simp at hd
   rcases hd with rfl | hd
   ·exact u4J gz
   repeat (rcases hd with rfl | hd;· (first | exact u4J (by decide +kernel) | exact v1r _ | exact ⟨rfl,rfl⟩ | exact v1q (ss:=["A"]) (by decide +kernel) | exact okT_lst (ss:=["a"]) (by decide +kernel)))
 obtain ⟨ss,y,rfl,h2,h3,h4⟩:=q
 obtain ⟨t,et,ht⟩:=modZ (a:Int) (b:=(ss.length:Int)) (by omega)
 have t1:dMod (.int (a:Int)) (.int (ss.length:Int))=.ok (dN t):=by rw [u0D (by omega),et]
 have ht':t<ss.length:=by omega
 have t2:dIx (.lst ss) (dN t)=.ok (ss[t]'ht'):=v1L (List.getElem?_eq_getElem ht')
 exact ⟨ss[t]'ht',by simp [u3E,t1,t2,OD.toD],h2 _ (List.getElem_mem ht')⟩
abbrev Plain (A:Adr) (G:FD):Prop:=∀ rs kk,GK rs kk→G [gI A rs kk,dR rs,dR kk]=.ok (.bl true)
theorem gSS_h {ss:List Str} (h:ss.length<64):gSS (dS ss)=.ok (dS (sortT (setOfT ss))):=u9n h
theorem u9a {x:D}{a:PyData} (h:cmpD x=.ok a) (e:PyData.eqv a a=true):dNeX x x=.ok (.bl false):=by
 show (cmpD x).bind _=_
 rw [h,Res.bind_ok,Res.bind_ok,e]
 rfl
theorem u6d {ss:List Str} (h:∀ b∈ss,goodS b=true):dNeX (dS ss) (dS ss)=.ok (.bl false):=u9a (v2v h) (by
 show PyData.eqvAll (ss.map PyData.str) (ss.map PyData.str)=true
 rw [u1j];simp)
theorem neX_tup {ss:List Str} (h:∀ b∈ss,goodS b=true):dNeX (.tup (ss.map D.str)) (.tup (ss.map D.str))=.ok (.bl false):=u9a (v2u h) (by
 show PyData.eqvAll (ss.map PyData.str) (ss.map PyData.str)=true
 rw [u1j];simp)
theorem v1v {z:Str} (h:goodS z=true):dNeX (.str z) (.str z)=.ok (.bl false):=u9a (u1S (by simp [goodS] at h;exact h.1)) (by rw [u3b];simp)
theorem u9b (ns:List Nat):dNeX (.lst (ns.map dN)) (.lst (ns.map dN))=.ok (.bl false):=u9a (u6z ns) (by
 show PyData.eqvAll _ _=true
 exact u3c ns)
theorem v2D {rs pre qs:List RR}{q:RR} (e:rs=pre++q::qs):atR rs (dN pre.length)=some q:=by
 show (if (0:Int)≤((pre.length:Nat):Int) then rs[((pre.length:Nat):Int).toNat]? else none)=_
 rw [if_pos (by omega),Int.toNat_natCast,e]
 simp
def Sp1 (A:Adr) (rs kk:List RR) (ds:List D) (ρ:Rho):Prop:=∃ (qs:List RR) (ss:List Str) (x5 x6:Option D),ρ=[some (.val (gI A rs kk)),some (.val (dR rs)),some (.val (dR kk)),some (.val (dS (headsL rs))),some (.own (.l (ss.map D.str))),vO x5,vO x6,none,none,none,none]∧ds=qs.map rT∧(∀ q∈qs,OkR q)∧gaS (headsL rs) [] rs=gaS (headsL rs) ss qs∧(∀ z∈ss,goodS z=true)∧ss.length+4*qs.length≤60
def Qp1 (A:Adr) (rs kk:List RR) (ss:List Str) (o:Out):Prop:=∃ x5 x6:Option D,o=.nx [some (.val (gI A rs kk)),some (.val (dR rs)),some (.val (dR kk)),some (.val (dS (headsL rs))),some (.own (.l (ss.map D.str))),vO x5,vO x6,none,none,none,none]
def Sp2 (A:Adr) (rs kk:List RR) (ss:List Str) (ds:List D) (ρ:Rho):Prop:=∃ (hs:List Str) (x5 x6 x7 x8 x9 xa:Option D),ρ=[some (.val (gI A rs kk)),some (.val (dR rs)),some (.val (dR kk)),some (.val (dS (headsL rs))),some (.own (.l (ss.map D.str))),vO x5,vO x6,vO x7,vO x8,vO x9,vO xa]∧ds=hs.map D.str∧∀ z∈hs,z∈hsOf rs
def Qp (A:Adr) (rs kk:List RR) (ss:List Str) (o:Out):Prop:=∃ x5 x6 x7 x8 x9 xa:Option D,o=.nx [some (.val (gI A rs kk)),some (.val (dR rs)),some (.val (dR kk)),some (.val (dS (headsL rs))),some (.own (.l (ss.map D.str))),vO x5,vO x6,vO x7,vO x8,vO x9,vO xa]
def Sp3 (A:Adr) (rs kk:List RR) (ss:List Str) (rr:List RR) (k:Nat) (qs:List RR) (ρ:Rho):Prop:=∃ (pre:List RR) (x5 x6 x7 x8 x9 xa:Option D),ρ=[some (.val (gI A rs kk)),some (.val (dR rs)),some (.val (dR kk)),some (.val (dS (headsL rs))),some (.own (.l (ss.map D.str))),vO x5,vO x6,vO x7,vO x8,vO x9,vO xa]∧rr=pre++qs∧pre.length=k
theorem u7b {G_law_same:FD} (c__law_same:Callee P w K mg base 2 "_law_same" ["_law_told","_law_due_here"] (spF K G_law_same)) {G_law_rank_by:FD} (c__law_rank_by:Callee P w K mg base 2 "_law_rank_by" ["_law_ranks_here","_law_body"] (spF K G_law_rank_by)) {G_m_heads:List D→Res (List D)} (mn_heads:MCalleeN P w K mg base 2 A.Grammar "heads" ["self"] G_m_heads) {G_m_signs:List D→Res (List D)} (mn_signs:MCalleeN P w K mg base 4 A.Grammar "signs" ["self"] G_m_signs) {G_m_numbers_of:List D→Res (List D)} (mn_numbers_of:MCalleeN P w K mg base 3 A.Grammar "numbers_of" ["self","head"] G_m_numbers_of) {G_m_side_at:FD} (m_side_at:MCallee P w K mg base 3 A.Grammar "side_at" ["self","place"] G_m_side_at) {G_m_head_of:FD} (m_head_of:MCallee P w K mg base 4 A.Grammar "head_of" ["self","number"] G_m_head_of) {G_m_body_of:FD} (m_body_of:MCallee P w K mg base 4 A.Grammar "body_of" ["self","number"] G_m_body_of) {G_m_rank_by:FD} (m_rank_by:MCallee P w K mg base 4 A.Grammar "rank_by" ["self","number"] G_m_rank_by) (p_hd:MHd A G_m_heads) (p_sg:MSg A G_m_signs) (p_nu:MNu A G_m_numbers_of) (p_ho:MHo A G_m_head_of) (p_bo:MBo A G_m_body_of) (p_rb:MRb A G_m_rank_by) (p_sa:MSa A G_m_side_at) (p_lrb:LRb G_law_rank_by) (p_same:Same G_law_same) (F:Fun K "_law_plain" "_law_plain" u1h f fd) (T:Txt K mg A):∃ G,FnOk P w K mg base (CXe P w) 5 f fd ["_law_grammar","_law_rules_here","_law_ranks_here"] (spX K G)∧Plain A G:=by
 refine ⟨_,F.okTX (k:=4) u0x (fun cdv Ar outer s H E hr hq=>u0d (ds_n u0x.nd (v2p rfl T.z_sorted T.z_set (u0a (DN.de (u1f ["_law_head","_law_body"] [] rfl (u0v (sc:=defScope u1h) (N:=["_law_grammar","_law_rules_here","_law_ranks_here","_law_heads_here","_law_signs_here","_law_head","_law_body","_law_number","_law_rule","_law_place","_law_rank_here"]) (by decide +kernel)) (u0E (dv 1)) (u1Y (n:=2) rfl (u0o (dg_n (show (["_law_head","_law_body"]:List Str).Nodup by decide +kernel)) (u0o (dg_n (show (["_law_head","_law_body"]:List Str).Nodup by decide +kernel)) u1k))) u1Z (dv 0))) u0b)))
  (u0d (u1K u0x.nd (u3Y u0b))
  (u0d (u0G rfl (u0E (dv 1)) (u1Y (n:=2) rfl (u0o (dg_n u0x.nd) (u0o (dg_n u0x.nd) u1k)))
  (u0e (ds_extF 4 (DN.de (u1f ["_law_symbol_here"] [3,4] rfl (u0v (sc:=defScope u1h) (N:=["_law_grammar","_law_rules_here","_law_ranks_here","_law_heads_here","_law_signs_here","_law_head","_law_body","_law_number","_law_rule","_law_place","_law_rank_here"]) (by decide +kernel)) (u0E (dv 6)) (dg_n (show (["_law_symbol_here","_law_heads_here","_law_signs_here"]:List Str).Nodup by decide +kernel)) (u9z (dt_w (u9u (u0q (u4K (hu100 hr)) (dv 0) (dv 1)) (u6s (u0q (u4K (hu100 hr)) (dv 0) (dv 2)))))) (dv 0))))) hq.ps)
  (u0d (u0z (dt_w (u5r (u0q (u5q (hu64 hr)) (u3f hq mn_heads.mx hr (dv 0)) (dv 3)) (u3W (u0q (u5q (hu64 hr)) (u3f hq mn_signs.mx hr (dv 0)) (v2p rfl T.z_sorted T.z_set (u0a (dv 4) u0b)))))) (u0e (u0i d_bl)) u0s)
  (u0d (u0G rfl (u0E (dv 3)) (dg_n u0x.nd)
  (u0e (u0z (u0q (u5q (hu64 hr)) (u1q hq mn_numbers_of.mx hr (dv 0) (u0a (dv 5) u0b)) (DN.de (u1f ["_law_k"] [1,5] rfl (u0v (sc:=defScope u1h) (N:=["_law_grammar","_law_rules_here","_law_ranks_here","_law_heads_here","_law_signs_here","_law_head","_law_body","_law_number","_law_rule","_law_place","_law_rank_here"]) (by decide +kernel)) (u1p T.z_range (u0a (d_B u0T T.z_len (by decide +kernel) (u0a (dv 1) u0b)) u0b)) (dg_n (show (["_law_k","_law_rules_here","_law_head"]:List Str).Nodup by decide +kernel)) (u9z (u0q (u7j (hu64 hr)) (d_ix x_ix (d_ix x_ix (dv 1) (dv 0)) u0c) (dv 2))) (dv 0)))) (u0e (u0i d_bl)) u0s)) hq.ps)
  (u0d (u0G rfl (u6v T.z_enumerate (u0a (dv 1) u0b)) (u1Y (n:=2) rfl (u0o (dg_n u0x.nd) (u0o (dg_n u0x.nd) u1k)))
  (u0d (u0z (dt_w (u5r (u0q (u5q (hu64 hr)) (u1q hq m_head_of hr (dv 0) (u0a (dv 7) u0b)) (d_ix x_ix (dv 8) u0c)) (u3W (u0q (u5q (hu64 hr)) (u1q hq m_body_of hr (dv 0) (u0a (dv 7) u0b)) (d_ix x_ix (dv 8) u0c))))) (u0e (u0i d_bl)) u0s)
   (u0e (u0z (u1s (u1e (d_fn c__law_same hr (u0a (u0f (u0a u0p (u0a (u1q hq m_rank_by hr (dv 0) (u0a (dv 7) u0b)) u0b))) (u0a (u0f (u0a u0p (u0a (d_fn c__law_rank_by hr (u0a (dv 2) (u0a (d_ix x_ix (dv 8) u0c) u0b))) u0b))) u0b))))) (u0e (u0i d_bl)) u0s))) hq.ps)
  (u0d (u0G rfl (u6v T.z_enumerate (u0a (dv 2) u0b)) (u1Y (n:=2) rfl (u0o (dg_n u0x.nd) (u0o (dg_n u0x.nd) u1k)))
  (u0e (u0z (u0q (u5q (hu64 hr)) (u1q hq m_side_at hr (dv 0) (u0a (dv 9) u0b)) (d_ix x_ix (dv 10) u0c)) (u0e (u0i d_bl)) u0s)) hq.ps)
  (u0e (u0i (u1R (d_B u1T T.z_isinstance (by decide +kernel) (u0a (u3f hq mn_heads.mx hr (dv 0)) (u0a (d_ty T.z_list (T:="list") (by decide +kernel)) u0b))) (u3e (d_B u1T T.z_isinstance (by decide +kernel) (u0a (u3f hq mn_signs.mx hr (dv 0)) (u0a (d_ty T.z_list (T:="list") (by decide +kernel)) u0b)))))))))))))),?_⟩
 intro rs kk g
 have n:=g.r.n
 have ok:=g.r.ok
 have ln:rs.length≤sizeLine:=u0I (by omega)
 have hh:=p_hd rs kk g
 have hs:=p_sg rs kk g
 have hl:(hsOf rs).length<64:=by simp [hsOf];omega
 have gh:=u2y ok
 have gsl:(gaS (headsL rs) [] rs).length≤28:=by
  have:=v2a (hs:=headsL rs) rs [] fun p hp=>(ok p hp).l
  simp at this
  omega
 have gsg:∀ b∈sortT (sgL [] rs),goodS b=true:=fun b hb=>u3u (P:=fun z=>goodS z=true) (ss:=[]) (rs:=rs) (fun z h=>(nomatch h)) (fun p hp b hb _=>(ok p hp).gs b hb) b (u1C.mp hb)
 have e1:gSS (dS (hsOf rs))=.ok (dS (headsL rs)):=gSS_h hl
 have e2:gSS (dS (gaS (headsL rs) [] rs))=.ok (dS (sortT (sgL [] rs))):=by rw [gSS_h (by omega),g.r.signs]
 simp [runX,startD,ln]
 rw [u0K hdT fun d hd=>?_]
 ·rw [v1U]
  simp [one1,e1]
  generalize hI:forD _ _ _ _=o
  have q:Qp1 A rs kk (gaS (headsL rs) [] rs) o:=by
   rw [← hI]
   refine u1d (Sp1 A rs kk) (Qp1 A rs kk _) ?_ ?_ (rs.map rT) _ ⟨rs,[],none,none,rfl,rfl,ok,rfl,fun z h=>(nomatch h),by simp;omega⟩
   ·rintro ρ ⟨qs,ss,x5,x6,rfl,e,h1,h2,h3,h4⟩
    cases qs with
    | cons q qs=>cases e
    | nil=>rw [h2];exact ⟨x5,x6,rfl⟩
   ·rintro d ds ρ ⟨qs,ss,x5,x6,rfl,e,h1,h2,h3,h4⟩
    cases qs with
    | nil=>cases e
    | cons q qs =>
     cases e
     have oq:=h1 q List.mem_cons_self
     have ql:=oq.l
     simp at h4
     have nl:(newS (headsL rs) ss q.2).length≤q.2.length:=List.length_filter_le _ _
     have bl:q.2.length≤sizeLine:=u0I (by omega)
     have sl:ss.length+(newS (headsL rs) ss q.2).length≤sizeLine:=u0I (by omega)
     refine ⟨_,rfl,.inl ?_⟩
     simp [rT,bl]
     rw [u0Y (pSg (headsL rs) ss) (fun d=>d) fun d hd=>?_]
     ·rw [new_map]
      have fs:=List.all_eq_true.mp (u7A (newS (headsL rs) ss q.2))
      have gn:∀ z∈ss++newS (headsL rs) ss q.2,goodS z=true:=fun z hz=>by
       rcases List.mem_append.mp hz with k | k
       ·exact h3 z k
       ·exact oq.gs z (List.mem_filter.mp k).1
      have e3:gaS (headsL rs) [] rs=gaS (headsL rs) (ss++newS (headsL rs) ss q.2) qs:=h2
      generalize newS (headsL rs) ss q.2=ns at nl sl fs gn e3
      refine ⟨_,by simp only [bindN,v2L,goN,List.length_map,sl];exact if_pos ⟨trivial,fs⟩,qs,ss++ns,some (.str q.1),some (.tup (q.2.map D.str)),by simp,rfl,fun p hp=>h1 p (List.mem_cons_of_mem _ hp),e3,gn,by simp;omega⟩
     ·obtain ⟨z,hz,rfl⟩:=List.mem_map.mp hd
      have gz:=oq.gs z hz
      refine ⟨_,rfl,?_,fun _=>by simp [rhoC]⟩
      by_cases c:z∈headsL rs
      ·simp [rhoC,u1B gz gh,c,pSg]
      ·simp [rhoC,u1B gz gh,u1B gz h3,c,pSg]
  obtain ⟨x5,x6,rfl⟩:=q
  have en:∀ ks:List RR,enum1 [dR ks]=.ok (enumL (ks.map rT)):=fun _=>rfl
  have il:∀ ks:List D,gIsA [.lst ks,.ty "list"]=.ok (.bl true):=fun _=>rfl
  generalize hss:gaS (headsL rs) [] rs=ss at e2
  simp [asLs,hh,hs,one1,e2,u6d gh,u6d gsg]
  generalize hJ:forD _ _ _ _=o2
  have q2:Qp A rs kk ss o2:=by
   rw [← hJ]
   refine u1d (Sp2 A rs kk ss) (Qp A rs kk ss) ?_ ?_ ((headsL rs).map D.str) _ ⟨headsL rs,x5,x6,none,none,none,none,rfl,rfl,fun z hz=>u1V.mp hz⟩
   ·rintro ρ ⟨hs,x5,x6,x7,x8,x9,xa,rfl,e,h⟩
    exact ⟨x5,x6,x7,x8,x9,xa,rfl⟩
   ·rintro d ds ρ ⟨hs,x5,x6,x7,x8,x9,xa,rfl,e,h⟩
    cases hs with
    | nil=>cases e
    | cons z hs =>
     cases e
     have hz:=h z List.mem_cons_self
     have gz:goodS z=true:=by
      obtain ⟨p,hp,rfl⟩:=List.mem_map.mp hz
      exact (ok p hp).gh
     have nu:G_m_numbers_of [gI A rs kk,.str z]=.ok ((numsL z 0 rs).map dN):=by
      rw [p_nu rs kk (.str z) g (by simpa [goodD] using gz)]
      exact if_pos hz
     refine ⟨_,rfl,.inl ?_⟩
     simp [nu,u6S (show rs.length≤1000 by omega),u6g,ln,-u0N,-u0j,-Res.bind_ok,-L2.go_ok,-Out.then_nx,bindN,goN,thenN]
     rw [u0Y (pNr rs z) (fun d=>d) fun d hd=>?_]
     ·rw [u8W]
      refine ⟨_,by simp [u9b];rfl,hs,some (.str z),x6,x7,x8,x9,xa,by simp,rfl,fun y hy=>h y (List.mem_cons_of_mem _ hy)⟩
     ·obtain ⟨k,hk,rfl⟩:=u4n hd
      have x1:=ix_m (c:=rT) hk
      have e:(hsOf rs).getD k ""=rs[k].1:=by rw [u1J (by simpa [hsOf] using hk)];simp [hsOf]
      have gk:=(ok _ (List.getElem_mem hk)).gh
      have ep:pNr rs z (dN k)=decide (rs[k].1=z):=by
       show decide ((hsOf rs).getD (((k:Nat):Int)).toNat ""=z)=_
       rw [Int.toNat_natCast,e]
      exact ⟨_,rfl,by rw [ep];simp [rhoC,x1,rT,ix_0,u6q gk gz],fun _=>by simp [rhoC]⟩
  obtain ⟨x5,x6,x7,x8,x9,xa,rfl⟩:=q2
  simp [en]
  generalize hK:forD _ _ _ _=o3
  have q3:Qp A rs kk ss o3:=by
   rw [← hK]
   unfold enumL
   refine u3H rT (Sp3 A rs kk ss rs) (Qp A rs kk ss) ?_ ?_ rs 0 _ ⟨[],x5,x6,x7,x8,x9,xa,rfl,rfl,rfl⟩
   ·rintro k ρ ⟨pre,x5,x6,x7,x8,x9,xa,rfl,_⟩
    exact ⟨x5,x6,x7,x8,x9,xa,rfl⟩
   ·rintro k q qs ρ ⟨pre,x5,x6,x7,x8,x9,xa,rfl,e,rfl⟩
    have at_:=v2D e
    have oq:=ok q (by rw [e];simp)
    have ho:=p_ho rs kk (dN pre.length) g rfl
    have bo:=p_bo rs kk (dN pre.length) g rfl
    have rb:=p_rb rs kk (dN pre.length) g rfl
    rw [u0A at_] at ho bo rb
    have lrb:=p_lrb kk q.2 g.k oq.gs
    have sm:=p_same "rank" (optD (rkBy kk q.2)) (by decide +kernel) (u8s _)
    refine ⟨_,rfl,.inl ⟨_,by simp [ho,bo,rb,lrb,bT,rT,ix_0,ix_1,v1v oq.gh,neX_tup oq.gs,u0F];simp only [tw] at sm;simp [sm];rfl,pre++[q],x5,x6,some (dN pre.length),some (rT q),x9,xa,by simp [rT],by rw [e];simp,by simp⟩⟩
  obtain ⟨x5,x6,x7,x8,x9,xa,rfl⟩:=q3
  simp [en]
  generalize hL:forD _ _ _ _=o4
  have q4:Qp A rs kk ss o4:=by
   rw [← hL]
   unfold enumL
   refine u3H rT (Sp3 A rs kk ss kk) (Qp A rs kk ss) ?_ ?_ kk 0 _ ⟨[],x5,x6,x7,x8,x9,xa,rfl,rfl,rfl⟩
   ·rintro k ρ ⟨pre,x5,x6,x7,x8,x9,xa,rfl,_⟩
    exact ⟨x5,x6,x7,x8,x9,xa,rfl⟩
   ·rintro k q qs ρ ⟨pre,x5,x6,x7,x8,x9,xa,rfl,e,rfl⟩
    have at_:=v2D e
    have gq:=(u3j _ (g.k.g q (by rw [e];simp)).1).1
    have sa:=p_sa rs kk (dN pre.length) g rfl
    rw [u0A at_] at sa
    refine ⟨_,rfl,.inl ⟨_,by simp [sa,rT,ix_0,v1v gq];rfl,pre++[q],x5,x6,x7,x8,some (dN pre.length),some (rT q),by simp [rT],by rw [e];simp,by simp⟩⟩
  obtain ⟨x5,x6,x7,x8,x9,xa,rfl⟩:=q4
  simp [asLs,hh,hs,il]
 ·obtain ⟨p,_,rfl⟩:=List.mem_map.mp hd
  exact ⟨_,rfl,by simp,by simp [rhoC,hdT,rT]⟩
theorem tell_ok {rs kk:List RR} (g:GK rs kk) {w:Nat}{d:D} (hd:okT d):∃ s x,tellW rs kk w d=tw s x∧goodS s=true∧okT x:=by
 have at_:∀ {p:RR},atR rs d=some p→OkR p:=fun e=>by
  obtain ⟨k,hk,_,ep⟩:=u4r e
  exact g.r.ok _ (ep ▸ List.getElem_mem hk)
 unfold tellW
 split
 ·split
  ·split
   ·exact ⟨_,_,rfl,by decide +kernel,v3n _⟩
   ·exact ⟨_,_,rfl,by decide +kernel,hd⟩
  ·exact ⟨_,_,rfl,by decide +kernel,hd⟩
 ·cases e:atR rs d with
  | none=>exact ⟨_,_,rfl,by decide +kernel,hd⟩
  | some p=>exact ⟨_,_,rfl,by decide +kernel,u4J (at_ e).gh⟩
 ·cases e:atR rs d with
  | none=>exact ⟨_,_,rfl,by decide +kernel,hd⟩
  | some p=>exact ⟨_,_,rfl,by decide +kernel,v1q (at_ e).gs⟩
 ·cases e:atR rs d with
  | none=>exact ⟨_,_,rfl,by decide +kernel,hd⟩
  | some p=>exact ⟨_,_,rfl,by decide +kernel,u8s _⟩
 ·cases e:atR kk d with
  | none=>exact ⟨_,_,rfl,by decide +kernel,hd⟩
  | some p =>
   obtain ⟨k,hk,_,ep⟩:=u4r e
   exact ⟨_,_,rfl,by decide +kernel,u4J (u3j _ (g.k.g p (ep ▸ List.getElem_mem hk)).1).1⟩
noncomputable def rQ:List RR:=[("Qq",["zz","Qq"]),("Qq",[])]
noncomputable def kQ:List RR:=[("none",["zz"])]
theorem qs_ok:okH "Qq"=true∧okG "zz"=true∧sgnS "Qq"=false:=by decide +kernel
theorem gQ:GK rQ kQ:=by
 obtain ⟨h1,h2,h3⟩:=qs_ok
 refine ⟨⟨by decide,by decide,fun p hp=>?_,by decide,fun p hp b hb=>?_,⟨["zz"],by decide,fun p hp b hb s=>?_⟩,fun p hp=>?_⟩,⟨by decide,fun p hp=>?_,by decide⟩⟩
 ·simp only [rQ,List.mem_cons,List.not_mem_nil,or_false] at hp
  rcases hp with rfl | rfl
  ·refine u9J h1 (by decide) fun b hb=>?_
   simp only [List.mem_cons,List.not_mem_nil,or_false] at hb
   rcases hb with rfl | rfl
   ·exact .inr h2
   ·exact .inl h1
  ·exact u9J h1 (by decide) fun b hb=>(nomatch hb)
 ·simp only [rQ,List.mem_cons,List.not_mem_nil,or_false] at hp
  rcases hp with rfl | rfl
  ·simp only [List.mem_cons,List.not_mem_nil,or_false] at hb
   rcases hb with rfl | rfl
   ·exact .inr h2
   ·exact .inl (by decide)
  ·cases hb
 ·simp only [rQ,List.mem_cons,List.not_mem_nil,or_false] at hp
  rcases hp with rfl | rfl
  ·simp only [List.mem_cons,List.not_mem_nil,or_false] at hb
   rcases hb with rfl | rfl
   ·exact List.mem_cons_self
   ·rw [h3] at s;cases s
  ·cases hb
 ·simp only [rQ,List.mem_cons,List.not_mem_nil,or_false] at hp
  rcases hp with rfl | rfl <;> exact h3
 ·simp only [kQ,List.mem_cons,List.not_mem_nil,or_false] at hp
  subst hp
  refine ⟨by decide,by decide,by decide,fun b hb=>?_⟩
  simp only [List.mem_cons,List.not_mem_nil,or_false] at hb
  subst hb
  exact h2
theorem q_heads:(headsL rQ)=(["Qq"]:List Str):=by decide +kernel
theorem q_signs:sortT (sgL [] rQ)=(["zz"]:List Str):=by decide +kernel
theorem q_nums:numsL "Qq" 0 rQ=[0,1]:=by decide +kernel
theorem q_in:("Qq":Str)∈hsOf rQ:=by decide +kernel
theorem q_rk:rkBy kQ ["zz","Qq"]=some 0:=by decide +kernel
theorem v1h:goodS "Qq"=true∧goodS "zz"=true:=by decide +kernel
def Slw (A:Adr) (ns:List Int) (rs kk:List RR) (ds:List D) (ρ:Rho):Prop:=∃ x4 x5 x6:Option D,ρ=[some (.val (scr ns)),some (.val (dR rs)),some (.val (dR kk)),some (.val (gI A rs kk)),vO x4,vO x5,vO x6,none]∧∀ d∈ds,∃ i:Nat,d=dN i
def Qlw (A:Adr) (ns:List Int) (rs kk:List RR) (o:Out):Prop:=∃ x4 x5 x6:Option D,o=.nx [some (.val (scr ns)),some (.val (dR rs)),some (.val (dR kk)),some (.val (gI A rs kk)),vO x4,vO x5,vO x6,none]
def Sli2 (A:Adr) (ns:List Int) (rs kk:List RR) (x4 d:D) (_:Nat) (ρ:Rho):Prop:=∃ x6:Option D,ρ=[some (.val (scr ns)),some (.val (dR rs)),some (.val (dR kk)),some (.val (gI A rs kk)),some (.val x4),some (.val d),vO x6,none]
def Qli2 (A:Adr) (ns:List Int) (rs kk:List RR) (x4 d:D) (o:Out):Prop:=∃ x6:Option D,o=.nx [some (.val (scr ns)),some (.val (dR rs)),some (.val (dR kk)),some (.val (gI A rs kk)),some (.val x4),some (.val d),vO x6,none]
theorem pr_law {G_law_renamed:FD} (c__law_renamed:Callee P w K mg base 1 "_law_renamed" ["_law_rules_here"] (spF K G_law_renamed)) {G_law_ranks:FD} (c__law_ranks:Callee P w K mg base 3 "_law_ranks" ["_law_script","_law_at"] (spF K G_law_ranks)) {G_law_plain:FD} (c__law_plain:CalleeX P w K mg base 5 "_law_plain" ["_law_grammar","_law_rules_here","_law_ranks_here"] G_law_plain) {G_law_wider:FD} (c__law_wider:Callee P w K mg base 3 "_law_wider" ["_law_script","_law_rules_here"] (spF K G_law_wider)) {G_law_thing:FD} (c__law_thing:Callee P w K mg base 1 "_law_thing" ["_law_rules_here","_law_ranks_here","_law_draws"] (spF K G_law_thing)) {G_law_rules:FD} (c__law_rules:Callee P w K mg base 4 "_law_rules" ["_law_script","_law_at"] (spF K G_law_rules)) {G_law_row:FD} (c__law_row:Callee P w K mg base 2 "_law_row" ["_law_script","_law_at","_law_base","_law_count"] (spF K G_law_row)) {G_law_same:FD} (c__law_same:Callee P w K mg base 2 "_law_same" ["_law_told","_law_due_here"] (spF K G_law_same)) {G_law_asked:FD} (c__law_asked:CalleeX P w K mg base 5 "_law_asked" ["_law_grammar","_law_way","_law_thing_here"] G_law_asked) {G_law_due:FD} (c__law_due:Callee P w K mg base 3 "_law_due" ["_law_rules_here","_law_ranks_here","_law_way","_law_thing_here"] (spF K G_law_due)) {G_law_rank:FD} (c__law_rank:Callee P w K mg base 1 "_law_rank" ["_law_ranks_here","_law_thing_here"] (spF K G_law_rank)) {G_m_heads:List D→Res (List D)} (mn_heads:MCalleeN P w K mg base 2 A.Grammar "heads" ["self"] G_m_heads) {G_m_signs:List D→Res (List D)} (mn_signs:MCalleeN P w K mg base 4 A.Grammar "signs" ["self"] G_m_signs) {G_m_numbers_of:List D→Res (List D)} (mn_numbers_of:MCalleeN P w K mg base 3 A.Grammar "numbers_of" ["self","head"] G_m_numbers_of) {G_m_rank_by:FD} (m_rank_by:MCallee P w K mg base 4 A.Grammar "rank_by" ["self","number"] G_m_rank_by) {G_m_rank_of:FD} (m_rank_of:MCallee P w K mg base 3 A.Grammar "rank_of" ["self","sign"] G_m_rank_of) (k_Grammar:KCallee P w K mg base 7 "Grammar" A.Grammar ["self","rules","ranks"] [] (gInit A)) (p_row:Row G_law_row) (p_rules:Rules G_law_rules) (p_wider:Wider G_law_wider) (p_renm:Renm G_law_renamed) (p_ranks:Ranks G_law_ranks) (p_plain:Plain A G_law_plain) (p_thing:Thing G_law_thing) (p_asked:Asked A G_law_asked) (p_due:DueW G_law_due) (p_same:Same G_law_same) (p_ro:MRo A G_m_rank_of) (p_lrk:LRk G_law_rank) (p_hd:MHd A G_m_heads) (p_sg:MSg A G_m_signs) (p_nu:MNu A G_m_numbers_of) (p_rb:MRb A G_m_rank_by) (F:Fun K "law" "law" u5T f fd) (T:Txt K mg A):∃ G,FnOk P w K mg base (CXe P w) 9 f fd ["_law_script"] (spX K G)∧∀ ns:List Int,G [scr ns]=.ok (.bl true):=by
 refine ⟨_,F.okTX (k:=8) u3Q (fun cdv Ar outer s H E hr hq=>u0d (ds_n u3Q.nd (d_fn c__law_renamed hr (u0a (d_fn c__law_wider hr (u0a (dv 0) (u0a (d_fn c__law_rules hr (u0a (dv 0) (u0a u0c u0b))) u0b))) u0b)))
  (u0d (ds_n u3Q.nd (d_fn c__law_ranks hr (u0a (dv 0) (u0a u0c u0b))))
  (u0d (ds_n u3Q.nd (v4t hq k_Grammar hr (u0a (DN.de (u5a T.z_list (u0a (dv 1) u0b))) (u0a (DN.de (u5a T.z_list (u0a (dv 2) u0b))) u0b))))
  (u0d (u0z (u1s (u1e (u8B hq c__law_plain hr (u0a (dv 3) (u0a (dv 1) (u0a (dv 2) u0b)))))) (u0e (u0i d_bl)) u0s)
  (u0d (u0G rfl (v2m T.z_range (u0a u0c (u0a (d_B (c_max rfl) T.z_max (by decide +kernel) (u0a u0c (u0a (d_B (c_min rfl) T.z_min (by decide +kernel) (u0a (d_B u0T T.z_len (by decide +kernel) (u0a (dv 0) u0b)) (u0a u0c u0b))) u0b))) u0b))) (dg_n u3Q.nd)
  (u0d (ds_n u3Q.nd (d_fn c__law_thing hr (u0a (dv 1) (u0a (dv 2) (u0a (d_fn c__law_row hr (u0a (dv 0) (u0a (dv 4) (u0a (d_op u1o (d_op u1o u0c u0c) u0c) (u0a u0c u0b))))) u0b)))))
   (u0d (u0G rfl (u1p T.z_range (u0a u0c u0b)) (dg_n u3Q.nd)
   (u0e (u0z (u1s (u1e (d_fn c__law_same hr (u0a (u8B hq c__law_asked hr (u0a (dv 3) (u0a (dv 6) (u0a (dv 5) u0b)))) (u0a (d_fn c__law_due hr (u0a (dv 1) (u0a (dv 2) (u0a (dv 6) (u0a (dv 5) u0b))))) u0b))))) (u0e (u0i d_bl)) u0s)) hq.ps)
   (u0e (u0z (u1s (u1e (d_fn c__law_same hr (u0a (u0f (u0a u0p (u0a (u1q hq m_rank_of hr (dv 3) (u0a (dv 5) u0b)) u0b))) (u0a (u0f (u0a u0p (u0a (d_fn c__law_rank hr (u0a (dv 2) (u0a (dv 5) u0b))) u0b))) u0b))))) (u0e (u0i d_bl)) u0s)))) hq.ps)
  (u0d (ds_n u3Q.nd (v4t hq k_Grammar hr (u0a (u1l (u0a (u0f (u0a u0p (u0a (u0f (u0a u0p (u0a u0p u0b))) u0b))) (u0a (u0f (u0a u0p (u0a (u0f u0b) u0b))) u0b))) (u0a (u1l (u0a (u0f (u0a u0p (u0a (u0f (u0a u0p u0b)) u0b))) u0b)) u0b))))
  (u0d (u0z (dt_w (u5r (u0q (u5q (hu64 hr)) (u3f hq mn_heads.mx hr (dv 7)) (u1l (u0a u0p u0b))) (u5r (u0q (u5q (hu64 hr)) (u3f hq mn_signs.mx hr (dv 7)) (u1l (u0a u0p u0b))) (u5r (u0q (u5q (hu64 hr)) (u1q hq mn_numbers_of.mx hr (dv 7) (u0a u0p u0b)) (u1l (u0a u0c (u0a u0c u0b)))) (u3W (u0q (u5q (hu64 hr)) (u1q hq m_rank_by hr (dv 7) (u0a u0c u0b)) u0c)))))) (u0e (u0i d_bl)) u0s)
  (u0d (u7D (u9w hq mn_heads hr (dv 3)))
  (u0d (ds_appN (u9w hq mn_signs hr (dv 3)) u0p)
  (u0d (u7D (dn_meth hq mn_numbers_of hr (dv 3) (u0a (d_ix x_ix (d_ix x_ix (dv 1) u0c) u0c) u0b)))
  (u0e (u0i (u8B hq c__law_plain hr (u0a (dv 3) (u0a (dv 1) (u0a (dv 2) u0b)))))))))))))))),?_⟩
 intro ns
 obtain ⟨rs0,e0,l0,g0⟩:=p_rules ns 1
 obtain ⟨rs1,e1,l1,g1⟩:=p_wider ns rs0 l0 g0
 obtain ⟨rs,e2,g2⟩:=p_renm rs1 l1 g1
 obtain ⟨kk,e3,g3⟩:=p_ranks ns 9
 have g:GK rs kk:=⟨g2,g3⟩
 have e0':G_law_rules [scr ns,.int 1]=.ok (dR rs0):=e0
 have e3':G_law_ranks [scr ns,.int 9]=.ok (dR kk):=e3
 have mk:=v1C (A:=A) g2 g3
 have pl:=p_plain rs kk g
 have sq:seqOf [dR rs]=.ok (.l (rs.map rT)):=rfl
 have sq2:seqOf [dR kk]=.ok (.l (kk.map rT)):=rfl
 simp [runX,startD,e0',e1,e2,e3',sq,sq2,mk,pl,-u0N,-u0j,-Res.bind_ok,-L2.go_ok,-Out.then_nx,bindN,goN,thenN]
 obtain ⟨m,hm1,hm2,em⟩:∃ m:Nat,14≤m∧m≤63∧gMax [.int 14,.int (if (63:Int)<(ns.length:Int) then 63 else (ns.length:Int))]=.ok (dN m):=by
  by_cases c:(63:Int)<(ns.length:Int)
  ·exact ⟨63,by omega,by omega,by rw [if_pos c];rfl⟩
  ·rw [if_neg c]
   by_cases c2:(ns.length:Int) > 14
   ·exact ⟨ns.length,by omega,by omega,by show Res.ok (D.int (if (ns.length:Int) > 14 then (ns.length:Int) else 14))=_;rw [if_pos c2]⟩
   ·exact ⟨14,by omega,by omega,by show Res.ok (D.int (if (ns.length:Int) > 14 then (ns.length:Int) else 14))=_;rw [if_neg c2];rfl⟩
 have mn:gMin [.int (ns.length:Int),.int 63]=.ok (.int (if (63:Int)<(ns.length:Int) then 63 else (ns.length:Int))):=rfl
 have er:rng2 [.int 10,dN m]=.ok (intL 10 (m - 10)):=by
  show gd _ _=_
  rw [u0S (by omega)]
  congr 2
  omega
 simp [mn,em,er,-u0N,-u0j,-Res.bind_ok,-L2.go_ok,-Out.then_nx,bindN,goN,thenN]
 generalize hI:forD _ _ _ _=o
 have q:Qlw A ns rs kk o:=by
  rw [← hI]
  refine u1d (Slw A ns rs kk) (Qlw A ns rs kk) ?_ ?_ (intL 10 (m - 10)) _ ⟨none,none,none,rfl,fun d hd=>?_⟩
  ·rintro ρ ⟨x4,x5,x6,rfl,_⟩
   exact ⟨x4,x5,x6,rfl⟩
  ·rintro d ds ρ ⟨x4,x5,x6,rfl,h⟩
   obtain ⟨at_,rfl⟩:=h d List.mem_cons_self
   obtain ⟨rw_,e4,l4,_⟩:=p_row ns at_ 13824 2 (by omega) (by omega) (by omega)
   match rw_,l4 with
   | [a,b],_ =>
   have e4':G_law_row [scr ns,dN at_,.int 13824,.int 2]=.ok (.lst [dN a,dN b]):=e4
   obtain ⟨t,e5,ot⟩:=p_thing rs kk a b g
   have gt:=ot.1
   have m1:dMulX (.int 24) (.int 24)=.ok (.int 576):=u2E (by omega)
   have m2:dMulX (.int 576) (.int 24)=.ok (.int 13824):=u2E (by omega)
   have r5:rng1 [.int 5]=.ok (intL 0 5):=u6S (n:=5) (by omega)
   refine ⟨_,rfl,.inl ?_⟩
   simp [m1,m2,e4',e5,r5,-u0N,-u0j,-Res.bind_ok,-L2.go_ok,-Out.then_nx,bindN,goN,thenN]
   generalize hJ:forD _ _ _ _=o2
   have q2:Qli2 A ns rs kk (dN at_) t o2:=by
    rw [← hJ]
    refine u4p (n:=5) (Sli2 A ns rs kk (dN at_) t) (Qli2 A ns rs kk (dN at_) t) ⟨x6,rfl⟩ ?_ ?_
    ·rintro ρ ⟨x6,rfl⟩
     exact ⟨x6,rfl⟩
    ·rintro k ρ hk ⟨x6,rfl⟩
     have ea:=p_asked rs kk k t g hk gt
     have ed:=p_due rs kk k t g hk gt
     obtain ⟨s,x,et,gs,gx⟩:=tell_ok g (w:=k) ot
     have es:=p_same s x gs gx
     rw [← et] at es
     exact ⟨_,rfl,.inl ⟨_,by simp [ea,ed,es,-u0N,-u0j,-Res.bind_ok,-L2.go_ok,-Out.then_nx,bindN,goN,thenN];rfl,some (dN k),by simp⟩⟩
   obtain ⟨x6',rfl⟩:=q2
   have ro:=p_ro rs kk t g gt
   have lr:=p_lrk kk t g3 gt
   have es:=p_same "rank" (optD (rkD kk t)) (by decide +kernel) (u8s _)
   simp only [tw] at es
   refine ⟨_,by simp [ro,lr,u0F,es,-u0N,-u0j,-Res.bind_ok,-L2.go_ok,-Out.then_nx,bindN,goN,thenN];rfl,some (dN at_),some t,x6',by simp,fun d hd=>h d (List.mem_cons_of_mem _ hd)⟩
  ·unfold intL at hd
   obtain ⟨i,_,rfl⟩:=List.mem_map.mp hd
   exact ⟨10+i,rfl⟩
 obtain ⟨x4,x5,x6,rfl⟩:=q
 have mq:gInit A [.lst [.tup [.str "Qq",.tup [.str "zz",.str "Qq"]],.tup [.str "Qq",.tup []]],.lst [.tup [.str "none",.tup [.str "zz"]]]]=.ok (gFlds (dR rQ) (dR kQ)):=v1C (A:=A) gQ.r gQ.k
 simp [mq,-u0N,-u0j,-Res.bind_ok,-L2.go_ok,-Out.then_nx,bindN,goN,thenN]
 have h1:G_m_heads [gI A rQ kQ]=.ok [.str "Qq"]:=by rw [p_hd rQ kQ gQ,q_heads];rfl
 have h2:G_m_signs [gI A rQ kQ]=.ok [.str "zz"]:=by rw [p_sg rQ kQ gQ,q_signs];rfl
 have h3:G_m_numbers_of [gI A rQ kQ,.str "Qq"]=.ok [.int 0,.int 1]:=by
  rw [p_nu rQ kQ (.str "Qq") gQ (by simpa [goodD] using v1h.1)]
  have e:numD A rQ (.str "Qq")=.ok ((numsL "Qq" 0 rQ).map dN):=by simp [numD,q_in]
  rw [e,q_nums]
  rfl
 have h4:G_m_rank_by [gI A rQ kQ,.int 0]=.ok (.int 0):=by
  have e:=p_rb rQ kQ (.int 0) gQ rfl
  rw [u0A (p:=("Qq",["zz","Qq"])) rfl] at e
  rw [e,q_rk]
  rfl
 have c1:dNeX (.lst [.str "Qq"]) (.lst [.str "Qq"])=.ok (.bl false):=u6d (ss:=["Qq"]) fun b hb=>by rw [List.mem_singleton.mp hb];exact v1h.1
 have c2:dNeX (.lst [.str "zz"]) (.lst [.str "zz"])=.ok (.bl false):=u6d (ss:=["zz"]) fun b hb=>by rw [List.mem_singleton.mp hb];exact v1h.2
 have c3:dNeX (.lst [.int 0,.int 1]) (.lst [.int 0,.int 1])=.ok (.bl false):=u9b [0,1]
 have c4:dNeX (.int 0) (.int 0)=.ok (.bl false):=rfl
 have hh:=p_hd rs kk g
 have hs:=p_sg rs kk g
 have sl:(sortT (sgL [] rs)).length<sizeLine:=by rw [u1D];exact Nat.lt_of_le_of_lt (show _≤1000 by have:=g2.sl;omega) (by decide)
 have n1:=g2.n1
 have x0:dIx (dR rs) (.int 0)=.ok (rT (rs[0]'(by omega))):=ix_m (i:=0) (by omega)
 have x1:dIx (rT (rs[0]'(by omega))) (.int 0)=.ok (.str (rs[0]'(by omega)).1):=ix_0 _ _
 have nu:G_m_numbers_of [gI A rs kk,.str (rs[0]'(by omega)).1]=.ok ((numsL (rs[0]'(by omega)).1 0 rs).map dN):=by
  rw [p_nu rs kk _ g (by simpa [goodD] using (g2.ok _ (List.getElem_mem (by omega))).gh)]
  exact if_pos (List.mem_map.mpr ⟨_,List.getElem_mem _,rfl⟩)
 generalize (rs[0]'(by omega)).1=z0 at x1 nu
 generalize rT (rs[0]'(by omega))=r0 at x0 x1
 simp [asLs,h1,h2,h3,h4,c1,c2,c3,c4,hh,hs,sl,x0,x1,nu,isLo,pl,-u0N,-u0j,-Res.bind_ok,-L2.go_ok,-Out.then_nx,bindN,goN,thenN]
noncomputable def noLst (K:W.Frag):Bool:=K.all fun p=>match p.2.cls with
 | .type T=>!(T=="list")
 | _=>true
set_option tactic.hygienic true in
theorem v3t {K:W.Frag} (h:noLst K=true) {a:Addr}{o:Obj} (e:K.lookup a=some o):o.cls≠.type "list":=fun z=>by
 have hm:(a,o)∈K:=by
  unfold noLst at h
  clear h
  induction K with
  | nil=>cases e
  | cons p K ih =>
   obtain ⟨b,u⟩:=p
   rw [List.lookup_cons] at e
   split at e
   ·rename_i q
    cases e
    rw [beq_iff_eq.mp q]
    exact List.mem_cons_self
   ·exact List.mem_cons_of_mem _ (ih e)
 have:=List.all_eq_true.mp h _ hm
 simp only [z] at this
 simp at this
theorem u8Q {K:W.Frag}{F:Hp}:∀ ns:List Int,Rps K F (ns.map V.int) (ns.map D.int)
 | []=>.nil
 | n::ns=>.cons (.int n) (u8Q ns)
def spLaw6 (K:W.Frag):Sp:=fun vs H Q _=>∃ (a:Addr) (ns:List Int),vs=[.ref a]∧SqL K H a (ns.map V.int)∧∀ H',Q (.bl true) H'
theorem law_imp {P:Program}{w:World}{K:W.Frag}{mg:MG}{base:Heap}{k:Nat}{f:Addr}{fd:FuncData}{ps:List Str}{G:FD} (nl:noLst K=true) (h:FnOk P w K mg base (CXe P w) k f fd ps (spX K G)) (p:∀ ns:List Int,G [scr ns]=.ok (.bl true)) :
  FnOk P w K mg base (CXe P w) k f fd ps (spLaw6 K):=h.imp fun vs H Q E ⟨a,ns,e,hs,q⟩=>by
 subst e
 rcases hs with hs | ⟨o,its,n,e1,e2,_⟩
 ·refine ⟨H,[scr ns],Same.refl H,.cons (.lst hs (u8Q ns)) .nil,?_⟩
  rw [p ns]
  intro v F' H' st pv
  cases pv
  exact q H'
 ·exact absurd e2 (v3t nl e1)
theorem s_xf {X:Cx}{o value:Expr}{ta tv:TE}{f:Str}{pos pos':Pos} (ha:JE X o ta) (hv:JE X value tv) (hs:swapsWith value (some (.Attribute o f pos')) pos.line X.env=pure false:=by rfl):JS X (.Assign [.Attribute o f pos'] value pos) (sXF X.K ta tv f):=⟨ps_xf ha.out hv.out hs⟩
section
variable {P:Program}{w:World}{K:W.Frag}{mg:MG}{base:Heap}{f C:Addr}{fd:FuncData}
theorem ok_x {q fl:Str}{st:Stmt}{p1 p2 p3 p4:Pos} (F:Fun K "__init__" q st f fd) (S:FnScope ["self",fl] ["self",fl] (defScope st)) (hb:defBody st=[.Assign [.Attribute (.Name "self" p1) fl p2] (.Name fl p3) p4]) (e1:(fl==("__debug__":Str))=false) (e2:(fl==("__classdict__":Str))=false) (c:XCls K C f) (n:NoAttr K C fl):FnOk P w K mg base CX0 1 f fd ["self",fl] (spXI C [fl]):=by
 have vi:∀ x∈(["self",fl]:List Str),Vis (defScope st) x:=fun x hx=>(S.par x hx).elim .inl fun z=>.inr (.inl z)
 refine F.okJ S (fun vs H Q E h=>?_) (fun cdv A outer s H vs Q E hr h=>?_)
 ·obtain ⟨a,args,n',rfl,hl,_⟩:=h
  rw [List.length_cons,hl];rfl
 obtain ⟨a,args,n',rfl,hl,ha,q⟩:=h
 match args,hl,q with
 | [v],_,q =>
  rw [hb]
  refine ⟨_,b_one (s_xf (ev 0 rfl (vi _ (by simp))) (ev 1 rfl (vi _ (by simp)) e1 e2)),?_⟩
  exact ⟨_,rfl,_,rfl,a,C,f,n',rfl,c,n,ha,fun dx h1 h2=>q dx h1 h2⟩
end
def AtF (K:W.Frag) (x:Str) (st:Stmt):Prop:=∃ f oc od kV dc pm an cd ct sl,W.nsIn K mainGlobals x=some (some (.ref f))∧K.lookup f=some ⟨oc,od,.func (W.fnOf x x (defArgs st) (defBody st) (defScope st) .none kV dc pm an cd ct),sl⟩∧W.codeIn K cd x=true∧W.keepIn K (.ref f)=true
def AtM (K:W.Frag) (C:Addr) (x q:Str) (st:Stmt):Prop:=∃ f oc od kV dc pm an cd ct sl,W.findIn K (.ref C) x=some (some (.ref f))∧W.isFn K (.ref f)=true∧K.lookup f=some ⟨oc,od,.func (W.fnOf x q (defArgs st) (defBody st) (defScope st) .none kV dc pm an cd ct),sl⟩∧W.codeIn K cd q=true∧W.keepIn K (.ref f)=true
def AtX (K:W.Frag) (C:Addr) (x q fl:Str) (st:Stmt):Prop:=W.nsIn K mainGlobals x=some (some (.ref C))∧∃ f oc od kV dc pm an cd ct sl,W.findIn K (.ref C) "__init__"=some (some (.ref f))∧K.lookup f=some ⟨oc,od,.func (W.fnOf "__init__" q (defArgs st) (defBody st) (defScope st) .none kV dc pm an cd ct),sl⟩∧W.codeIn K cd q=true∧W.keepIn K (.ref f)=true∧xcB K C f=true∧W.findIn K (.ref C) fl=some none∧xbB K C=true
section
variable {P:Program}{w:World}{K:W.Frag}{h:Heap}{mg:MG}{base:Heap}{f C:Addr}{fd:FuncData}{x q fl m:Str}{st:Stmt}{k:Nat}{ps:List Str}{p1 p2 p3 p4 p5:Str}
theorem AtF.go (a:AtF K x st) (X:K.In h) (G:h.Ns mainGlobals mg):∃ f fd,Fun K x x st f fd∧mg x=some (.ref f)∧W.keepIn K (.ref f)=true:=by
 obtain ⟨f,oc,od,kV,dc,pm,an,cd,ct,sl,h1,h2,h3,h4⟩:=a
 exact ⟨f,_,u9o h2 h3 h4,W.mg_of X G h1,h4⟩
theorem AtM.go (a:AtM K C x q st):∃ f fd,Fun K x q st f fd∧Meth K C x f:=by
 obtain ⟨f,oc,od,kV,dc,pm,an,cd,ct,sl,h1,h2,h3,h4,h5⟩:=a
 exact ⟨f,_,u9o h3 h4 h5,h1,h2,h5⟩
theorem AtX.go (a:AtX K C x q fl st) (X:K.In h) (G:h.Ns mainGlobals mg):∃ f fd,Fun K "__init__" q st f fd∧XCls K C f∧NoAttr K C fl∧mg x=some (.ref C)∧XBase K C:=by
 obtain ⟨h0,f,oc,od,kV,dc,pm,an,cd,ct,sl,h1,h2,h3,h4,h5,h6,h7⟩:=a
 exact ⟨f,_,u9o h2 h3 h4,xcls_of h5,h6,W.mg_of X G h0,u4j h7⟩
abbrev bA (x q:Str) (st:Stmt) (us:List Value) (l:List (Str×Value)):Prop:=∀ (kV doc pm:Value) (an:Option Addr) (cdv ct:Value),bindArgs (W.fnOf x q (defArgs st) (defBody st) (defScope st) .none kV doc pm an cdv ct) ⟨us,[]⟩=pure l
theorem _root_.L2.Fun.b1 (F:Fun K x q st f fd) (e:∀ a,bA x q st [a] [(p1,a)]):Binds K fd [p1] []:=F.binds fun kV doc pm an cdv ct us hl=>match us,hl with | [a],_=>e a kV doc pm an cdv ct
theorem _root_.L2.Fun.b2 (F:Fun K x q st f fd) (e:∀ a b,bA x q st [a,b] [(p1,a),(p2,b)]):Binds K fd [p1,p2] []:=F.binds fun kV doc pm an cdv ct us hl=>match us,hl with | [a,b],_=>e a b kV doc pm an cdv ct
theorem _root_.L2.Fun.b3 (F:Fun K x q st f fd) (e:∀ a b c,bA x q st [a,b,c] [(p1,a),(p2,b),(p3,c)]):Binds K fd [p1,p2,p3] []:=F.binds fun kV doc pm an cdv ct us hl=>match us,hl with | [a,b,c],_=>e a b c kV doc pm an cdv ct
theorem _root_.L2.Fun.b4 (F:Fun K x q st f fd) (e:∀ a b c d,bA x q st [a,b,c,d] [(p1,a),(p2,b),(p3,c),(p4,d)]):Binds K fd [p1,p2,p3,p4] []:=F.binds fun kV doc pm an cdv ct us hl=>match us,hl with | [a,b,c,d],_=>e a b c d kV doc pm an cdv ct
theorem _root_.L2.Fun.b5 (F:Fun K x q st f fd) (e:∀ a b c d g,bA x q st [a,b,c,d,g] [(p1,a),(p2,b),(p3,c),(p4,d),(p5,g)]):Binds K fd [p1,p2,p3,p4,p5] []:=F.binds fun kV doc pm an cdv ct us hl=>match us,hl with | [a,b,c,d,g],_=>e a b c d g kV doc pm an cdv ct
theorem mkC {g:FD} (H:FnOk P w K mg base CX0 k f fd ps (spF K g)) (b:Binds K fd ps []) (kp:W.keepIn K (.ref f)=true) (a:mg x=some (.ref f)):Callee P w K mg base k x ps (spF K g):=⟨f,fd,H,b,kp,a⟩
theorem mkX {g:FD} (H:FnOk P w K mg base (CXe P w) k f fd ps (spX K g)) (b:Binds K fd ps []) (kp:W.keepIn K (.ref f)=true) (a:mg x=some (.ref f)):CalleeX P w K mg base k x ps g:=⟨f,fd,H,b,kp,a⟩
theorem mkN {g:List D→Res (List D)} (H:FnOk P w K mg base (CXe P w) k f fd ps (spN K g)) (b:Binds K fd ps []) (kp:W.keepIn K (.ref f)=true) (a:mg x=some (.ref f)):CalleeN P w K mg base k x ps g:=⟨f,fd,H,b,kp,a⟩
theorem mkM {g:FD} (c:Cls K C) (m:Meth K C x f) (H:FnOk P w K mg base (CXe P w) k f fd ps (spX K g)) (b:Binds K fd ps []):MCallee P w K mg base k C x ps g:=⟨f,fd,c,m,H,b⟩
theorem mkMN {g:List D→Res (List D)} (c:Cls K C) (m:Meth K C x f) (H:FnOk P w K mg base (CXe P w) k f fd ps (spN K g)) (b:Binds K fd ps []):MCalleeN P w K mg base k C x ps g:=⟨f,fd,c,m,H,b⟩
theorem mkE (H:FnOk P w K mg base CX0 1 f fd ["self",fl] (spXI C [fl])) (b:Binds K fd ["self",fl] []) (c:XCls K C f) (a:mg x=some (.ref C)):XCalleeF P w K mg base 1 x C ["self",fl] [fl]:=⟨f,fd,c,H,b,a⟩
end
set_option maxHeartbeats 0 in
theorem all_mk {l:W.OpenLaw}{w:World}{K:W.Frag}{h:Heap}{mg:MG}{fa tG aS fG fl CNoRule CNoRanks CNoSymbol CTooMany CNoHead CDoubled CNoPlace CTableError CGrammar:Addr} (X:K.In h) (G:h.Ns mainGlobals mg) (hfa:mg "law"=some (.ref fa)) {odt odS odG anG odl anl:Option Addr}{slt slS slG sll:Array (Option Value)}{oct ocG kVG dcG pmG cdG ctG ocl kVl dcl pml cdl ctl:Value}{nT nS:Nat}{tMOST_IN_BODY tMOST_IN_RANK tMOST_RULES tMOST_HEADS tMOST_SIGNS tMOST_RANKS tLONGEST tIN_SIGNS tGREAT tSMALL_AND_FIGURES ts1 ts2 ts3:Tok}
  (h0:AtF K "is_whole" u3z) (h1:AtF K "is_short_text" u1H) (h2:AtF K "has_only" u2v) (h3:AtF K "is_sign" u4y) (h4:AtF K "is_head" u4D) (h5:AtF K "is_symbol" u2T) (h6:AtF K "is_pair" u4C) (h7:AtF K "is_body" u3l) (h8:AtF K "is_rule" u4A) (h9:AtF K "is_side" u4z) (h10:AtF K "is_rank_signs" u1b) (h11:AtF K "is_rank" u4B) (h12:AtF K "heads_in" u1A) (h13:AtF K "signs_in" u2u) (h14:AtF K "need_rules" u2k) (h15:AtF K "need_known_heads" u0Z) (h16:AtF K "need_few_symbols" u1a) (h17:AtF K "need_ranks" u2l) (h18:AtF K "_law_cell" u3y) (h19:AtF K "_law_stir" u3v) (h20:AtF K "_law_row" u4x) (h21:AtF K "_law_heads" u2d) (h22:AtF K "_law_signs" u2a) (h23:AtF K "_law_shape" u2P) (h24:AtF K "_law_symbol" u2m) (h25:AtF K "_law_drawn_rules" u0O) (h26:AtF K "_law_rules" u2b) (h27:AtF K "_law_wider" u1F) (h28:AtF K "_law_ranks" u2Q) (h29:AtF K "_law_kinds" u2R) (h30:AtF K "_law_same" u3w) (h31:AtF K "_law_rank" u3x) (h32:AtF K "_law_rank_by" u2c) (h33:AtF K "_law_plain" u1h) (h34:AtF K "_law_asked" u2S) (h35:AtF K "_law_is_number" u1G) (h36:AtF K "_law_due" u3k) (h37:AtF K "_law_thing" u2O) (h38:AtF K "_law_renamed" u1v) (xNoRule:AtX K CNoRule "NoRule" "NoRule.__init__" "found" (meth 2 0)) (xNoRanks:AtX K CNoRanks "NoRanks" "NoRanks.__init__" "found" (meth 3 0)) (xNoSymbol:AtX K CNoSymbol "NoSymbol" "NoSymbol.__init__" "found" (meth 4 0)) (xTooMany:AtX K CTooMany "TooMany" "TooMany.__init__" "found" (meth 5 0)) (xNoHead:AtX K CNoHead "NoHead" "NoHead.__init__" "head" (meth 6 0)) (xDoubled:AtX K CDoubled "Doubled" "Doubled.__init__" "number" (meth 7 0)) (xNoPlace:AtX K CNoPlace "NoPlace" "NoPlace.__init__" "place" (meth 8 0)) (gT:W.nsIn K mainGlobals "TableError"=some (some (.ref CTableError))∧xbB K CTableError=true) (s_NoSymbol_NoSymbol:subK K CNoSymbol CNoSymbol=true) (b_NoSymbol:xbB K CNoSymbol=true) (s_NoRule_NoSymbol:subK K CNoRule CNoSymbol=false) (s_NoRule_NoRule:subK K CNoRule CNoRule=true) (b_NoRule:xbB K CNoRule=true) (s_NoPlace_NoSymbol:subK K CNoPlace CNoSymbol=false) (s_NoPlace_NoRule:subK K CNoPlace CNoRule=false) (s_NoPlace_NoPlace:subK K CNoPlace CNoPlace=true) (b_NoPlace:xbB K CNoPlace=true) (gG:W.nsIn K mainGlobals "Grammar"=some (some (.ref CGrammar))) (mheads:AtM K CGrammar "heads" "Grammar.heads" u4w) (msigns:AtM K CGrammar "signs" "Grammar.signs" u4v) (mnumbers_of:AtM K CGrammar "numbers_of" "Grammar.numbers_of" u1n) (mneed_number:AtM K CGrammar "need_number" "Grammar.need_number" u1E) (mhead_of:AtM K CGrammar "head_of" "Grammar.head_of" u2M) (mbody_of:AtM K CGrammar "body_of" "Grammar.body_of" u2N) (mrank_of:AtM K CGrammar "rank_of" "Grammar.rank_of" u2K) (mrank_by:AtM K CGrammar "rank_by" "Grammar.rank_by" u2L) (mside_at:AtM K CGrammar "side_at" "Grammar.side_at" u2J) (aG:W.findIn K (.ref CGrammar) "__init__"=some (some (.ref fG))) (lG:K.lookup fG=some ⟨ocG,odG,.func (W.fnOf "__init__" "Grammar.__init__" (defArgs u1c) (defBody u1c) (defScope u1c) (.ref tG) kVG dcG pmG anG cdG ctG),slG⟩) (ltG:K.lookup tG=some ⟨oct,odt,.seq #[.none] nT,slt⟩) (cG:W.codeIn K cdG "Grammar.__init__"=true) (pgG:W.plainGet K CGrammar Str.empty=true) (hdG:W.hasDictIn K CGrammar=true) (poG:W.plainOver K CGrammar=true) (saG:W.findIn K (.ref CGrammar) "__setattr__"=some (some (.builtin "object.__setattr__"))) (mkG:W.makesIn K CGrammar=true) (fnG:W.isFn K (.ref fG)=true) (kpG:W.keepIn K (.ref CGrammar)=true) (naRu:W.findIn K (.ref CGrammar) "rules"=some none) (naRa:W.findIn K (.ref CGrammar) "ranks"=some none) (naSt:W.findIn K (.ref CGrammar) "start"=some none) (nl:noLst K=true) (gSI:W.nsIn K mainGlobals "SIDES"=some (some (.ref aS))) (lS:K.lookup aS=some ⟨.type "tuple",odS,.seq #[.str "left" ts1,.str "right" ts2,.str "none" ts3] nS,slS⟩) (gMOST_IN_BODY:W.nsIn K mainGlobals "MOST_IN_BODY"=some (some (.int 4 tMOST_IN_BODY))) (gMOST_IN_RANK:W.nsIn K mainGlobals "MOST_IN_RANK"=some (some (.int 10 tMOST_IN_RANK))) (gMOST_RULES:W.nsIn K mainGlobals "MOST_RULES"=some (some (.int 20 tMOST_RULES))) (gMOST_HEADS:W.nsIn K mainGlobals "MOST_HEADS"=some (some (.int 8 tMOST_HEADS))) (gMOST_SIGNS:W.nsIn K mainGlobals "MOST_SIGNS"=some (some (.int 10 tMOST_SIGNS))) (gMOST_RANKS:W.nsIn K mainGlobals "MOST_RANKS"=some (some (.int 6 tMOST_RANKS))) (gLONGEST:W.nsIn K mainGlobals "LONGEST"=some (some (.int 6 tLONGEST))) (gIN_SIGNS:W.nsIn K mainGlobals "IN_SIGNS"=some (some (.str "abcdefghijklmnopqrstuvwxyz0123456789+-*/()[]=<>,;.!?^&" tIN_SIGNS))) (gGREAT:W.nsIn K mainGlobals "GREAT"=some (some (.str "ABCDEFGHIJKLMNOPQRSTUVWXYZ" tGREAT))) (gSMALL_AND_FIGURES:W.nsIn K mainGlobals "SMALL_AND_FIGURES"=some (some (.str "abcdefghijklmnopqrstuvwxyz0123456789" tSMALL_AND_FIGURES))) (zz:∀ x∈(["isinstance","str","int","bool","list","tuple","dict","len","all","range","enumerate","sorted","set","reversed","max","min"]:List Str),W.nsIn K mainGlobals x=some none) (al:W.nsIn K mainGlobals "law"=some (some (.ref fl))) (ll:K.lookup fl=some ⟨ocl,odl,.func (W.fnOf "law" "law" (defArgs u5T) (defBody u5T) (defScope u5T) .none kVl dcl pml anl cdl ctl),sll⟩) (cl:W.codeIn K cdl "law"=true) (kl:W.keepIn K (.ref fl)=true)
  : ∃ fd:FuncData,(∀ (s:Shared) (v:Value),BindsTo s fd ⟨[v],[]⟩ [("_law_script",v)])∧∀ base:Heap,K.In base→base.Ns mainGlobals mg→FnOk l.prog w K mg base (CXe l.prog w) 9 fa fd ["_law_script"] (spLaw6 K):=by
 cases hfa.symm.trans (W.mg_of X G al)
 refine Classical.byContradiction fun hZ=>?_
 obtain ⟨_,_,FNoRule,XNoRule,NNoRule,MNoRule,BNoRule⟩:=xNoRule.go X G
 obtain ⟨_,_,FNoRanks,XNoRanks,NNoRanks,MNoRanks,BNoRanks⟩:=xNoRanks.go X G
 obtain ⟨_,_,FNoSymbol,XNoSymbol,NNoSymbol,MNoSymbol,BNoSymbol⟩:=xNoSymbol.go X G
 obtain ⟨_,_,FTooMany,XTooMany,NTooMany,MTooMany,BTooMany⟩:=xTooMany.go X G
 obtain ⟨_,_,FNoHead,XNoHead,NNoHead,MNoHead,BNoHead⟩:=xNoHead.go X G
 obtain ⟨_,_,FDoubled,XDoubled,NDoubled,MDoubled,BDoubled⟩:=xDoubled.go X G
 obtain ⟨_,_,FNoPlace,XNoPlace,NNoPlace,MNoPlace,BNoPlace⟩:=xNoPlace.go X G
 let A:Adr:=⟨CNoRule,CNoRanks,CNoSymbol,CTooMany,CNoHead,CDoubled,CNoPlace,CTableError,CGrammar⟩
 have xf:XRead K "found" [CNoSymbol,CNoRule]:=by
  intro C hC
  simp only [List.mem_cons,List.not_mem_nil,or_false] at hC
  rcases hC with rfl | rfl
  ·exact ⟨⟨_,XNoSymbol⟩,NNoSymbol⟩
  ·exact ⟨⟨_,XNoRule⟩,NNoRule⟩
 have xp:XRead K "place" [CNoPlace]:=by
  intro C hC
  rw [List.mem_singleton.mp hC]
  exact ⟨⟨_,XNoPlace⟩,NNoPlace⟩
 have T:Txt K mg A:={ z_isinstance:=W.mg_none_of X G (zz _ (by decide)),z_str:=W.mg_none_of X G (zz _ (by decide)),z_int:=W.mg_none_of X G (zz _ (by decide)),z_bool:=W.mg_none_of X G (zz _ (by decide)),z_list:=W.mg_none_of X G (zz _ (by decide)),z_tuple:=W.mg_none_of X G (zz _ (by decide)),z_dict:=W.mg_none_of X G (zz _ (by decide)),z_len:=W.mg_none_of X G (zz _ (by decide)),z_all:=W.mg_none_of X G (zz _ (by decide)),z_range:=W.mg_none_of X G (zz _ (by decide)),z_enumerate:=W.mg_none_of X G (zz _ (by decide)),z_sorted:=W.mg_none_of X G (zz _ (by decide)),z_set:=W.mg_none_of X G (zz _ (by decide)),z_reversed:=W.mg_none_of X G (zz _ (by decide)),z_max:=W.mg_none_of X G (zz _ (by decide)),z_min:=W.mg_none_of X G (zz _ (by decide)),g_SIDES:=⟨.ref aS,⟨_,W.mg_of X G gSI,rfl⟩,fun F=>.tup (xs:=[.str "left",.str "right",.str "none"]) (.inr ⟨_,_,_,lS,rfl,rfl,(show 3≤sizeLine by decide),.cons ⟨_,rfl⟩ (.cons ⟨_,rfl⟩ (.cons ⟨_,rfl⟩ .nil))⟩) (.cons (.str (by decide +kernel)) (.cons (.str (by decide +kernel)) (.cons (.str (by decide +kernel)) .nil)))⟩,g_MOST_IN_BODY:=⟨.int _,⟨_,W.mg_of X G gMOST_IN_BODY,⟨_,rfl⟩⟩,fun F=>.int _⟩,g_MOST_IN_RANK:=⟨.int _,⟨_,W.mg_of X G gMOST_IN_RANK,⟨_,rfl⟩⟩,fun F=>.int _⟩,g_MOST_RULES:=⟨.int _,⟨_,W.mg_of X G gMOST_RULES,⟨_,rfl⟩⟩,fun F=>.int _⟩,g_MOST_HEADS:=⟨.int _,⟨_,W.mg_of X G gMOST_HEADS,⟨_,rfl⟩⟩,fun F=>.int _⟩,g_MOST_SIGNS:=⟨.int _,⟨_,W.mg_of X G gMOST_SIGNS,⟨_,rfl⟩⟩,fun F=>.int _⟩,g_MOST_RANKS:=⟨.int _,⟨_,W.mg_of X G gMOST_RANKS,⟨_,rfl⟩⟩,fun F=>.int _⟩,g_LONGEST:=⟨.int _,⟨_,W.mg_of X G gLONGEST,⟨_,rfl⟩⟩,fun F=>.int _⟩,g_IN_SIGNS:=⟨.str _,⟨_,W.mg_of X G gIN_SIGNS,⟨_,rfl⟩⟩,fun F=>.str (by decide +kernel)⟩,g_GREAT:=⟨.str _,⟨_,W.mg_of X G gGREAT,⟨_,rfl⟩⟩,fun F=>.str (by decide +kernel)⟩,g_SMALL_AND_FIGURES:=⟨.str _,⟨_,W.mg_of X G gSMALL_AND_FIGURES,⟨_,rfl⟩⟩,fun F=>.str (by decide +kernel)⟩,m_NoRule:=MNoRule,b_NoRule:=BNoRule,m_NoRanks:=MNoRanks,b_NoRanks:=BNoRanks,m_NoSymbol:=MNoSymbol,b_NoSymbol:=BNoSymbol,m_TooMany:=MTooMany,b_TooMany:=BTooMany,m_NoHead:=MNoHead,b_NoHead:=BNoHead,m_Doubled:=MDoubled,b_Doubled:=BDoubled,m_NoPlace:=MNoPlace,b_NoPlace:=BNoPlace,m_TableError:=W.mg_of X G gT.1,b_TableError:=u4j gT.2,cls:=⟨pgG,hdG,poG,saG⟩,na_rules:=naRu,na_ranks:=naRa,na_start:=naSt,x_found:=xf,x_place:=xp }
 have Hn:Hnd K A:={ xb_NoSymbol:=b_NoSymbol,xb_NoRule:=b_NoRule,xb_NoPlace:=b_NoPlace,sb_NoSymbol_NoSymbol:=s_NoSymbol_NoSymbol,sb_NoRule_NoSymbol:=s_NoRule_NoSymbol,sb_NoRule_NoRule:=s_NoRule_NoRule,sb_NoPlace_NoSymbol:=s_NoPlace_NoSymbol,sb_NoPlace_NoRule:=s_NoPlace_NoRule,sb_NoPlace_NoPlace:=s_NoPlace_NoPlace }
 obtain ⟨_,_,F0,a0,k0⟩:=h0.go X G
 obtain ⟨_,_,F1,a1,k1⟩:=h1.go X G
 obtain ⟨_,_,F2,a2,k2⟩:=h2.go X G
 obtain ⟨_,_,F3,a3,k3⟩:=h3.go X G
 obtain ⟨_,_,F4,a4,k4⟩:=h4.go X G
 obtain ⟨_,_,F5,a5,k5⟩:=h5.go X G
 obtain ⟨_,_,F6,a6,k6⟩:=h6.go X G
 obtain ⟨_,_,F7,a7,k7⟩:=h7.go X G
 obtain ⟨_,_,F8,a8,k8⟩:=h8.go X G
 obtain ⟨_,_,F9,a9,k9⟩:=h9.go X G
 obtain ⟨_,_,F10,a10,k10⟩:=h10.go X G
 obtain ⟨_,_,F11,a11,k11⟩:=h11.go X G
 obtain ⟨_,_,F12,a12,k12⟩:=h12.go X G
 obtain ⟨_,_,F13,a13,k13⟩:=h13.go X G
 obtain ⟨_,_,F14,a14,k14⟩:=h14.go X G
 obtain ⟨_,_,F15,a15,k15⟩:=h15.go X G
 obtain ⟨_,_,F16,a16,k16⟩:=h16.go X G
 obtain ⟨_,_,F17,a17,k17⟩:=h17.go X G
 obtain ⟨_,_,F18,a18,k18⟩:=h18.go X G
 obtain ⟨_,_,F19,a19,k19⟩:=h19.go X G
 obtain ⟨_,_,F20,a20,k20⟩:=h20.go X G
 obtain ⟨_,_,F21,a21,k21⟩:=h21.go X G
 obtain ⟨_,_,F22,a22,k22⟩:=h22.go X G
 obtain ⟨_,_,F23,a23,k23⟩:=h23.go X G
 obtain ⟨_,_,F24,a24,k24⟩:=h24.go X G
 obtain ⟨_,_,F25,a25,k25⟩:=h25.go X G
 obtain ⟨_,_,F26,a26,k26⟩:=h26.go X G
 obtain ⟨_,_,F27,a27,k27⟩:=h27.go X G
 obtain ⟨_,_,F28,a28,k28⟩:=h28.go X G
 obtain ⟨_,_,F29,a29,k29⟩:=h29.go X G
 obtain ⟨_,_,F30,a30,k30⟩:=h30.go X G
 obtain ⟨_,_,F31,a31,k31⟩:=h31.go X G
 obtain ⟨_,_,F32,a32,k32⟩:=h32.go X G
 obtain ⟨_,_,F33,a33,k33⟩:=h33.go X G
 obtain ⟨_,_,F34,a34,k34⟩:=h34.go X G
 obtain ⟨_,_,F35,a35,k35⟩:=h35.go X G
 obtain ⟨_,_,F36,a36,k36⟩:=h36.go X G
 obtain ⟨_,_,F37,a37,k37⟩:=h37.go X G
 obtain ⟨_,_,F38,a38,k38⟩:=h38.go X G
 have F39:=u9o (st:=u5T) ll cl kl
 obtain ⟨_,_,Fheads,nheads⟩:=mheads.go
 obtain ⟨_,_,Fsigns,nsigns⟩:=msigns.go
 obtain ⟨_,_,Fnumbers_of,nnumbers_of⟩:=mnumbers_of.go
 obtain ⟨_,_,Fneed_number,nneed_number⟩:=mneed_number.go
 obtain ⟨_,_,Fhead_of,nhead_of⟩:=mhead_of.go
 obtain ⟨_,_,Fbody_of,nbody_of⟩:=mbody_of.go
 obtain ⟨_,_,Frank_of,nrank_of⟩:=mrank_of.go
 obtain ⟨_,_,Frank_by,nrank_by⟩:=mrank_by.go
 obtain ⟨_,_,Fside_at,nside_at⟩:=mside_at.go
 have FG:FunD K "__init__" "Grammar.__init__" u1c fG _:=⟨_,_,_,_,_,_,_,_,_,_,rfl,lG,cG⟩
 have bG3:Binds K (W.fnOf "__init__" "Grammar.__init__" (defArgs u1c) (defBody u1c) (defScope u1c) (.ref tG) kVG dcG pmG anG cdG ctG) ["self","rules","ranks"] []:=fun s us XI hl=>match us,hl with | [_,_,_],_=>BindsTo.of_defaults rfl (XI _ _ ltG) rfl rfl rfl
 refine hZ ⟨W.fnOf "law" "law" (defArgs u5T) (defBody u5T) (defScope u5T) .none kVl dcl pml anl cdl ctl,fun s v=>.of_eq rfl,fun base _ _=>Classical.byContradiction fun hY=>?_⟩
 have ENoRule:=mkE (ok_x (P:=l.prog) (w:=w) (base:=base) FNoRule .au rfl rfl rfl XNoRule NNoRule) (FNoRule.b2 fun _ _ _ _ _ _ _ _=>rfl) XNoRule MNoRule
 have ENoRanks:=mkE (ok_x (P:=l.prog) (w:=w) (base:=base) FNoRanks .au rfl rfl rfl XNoRanks NNoRanks) (FNoRanks.b2 fun _ _ _ _ _ _ _ _=>rfl) XNoRanks MNoRanks
 have ENoSymbol:=mkE (ok_x (P:=l.prog) (w:=w) (base:=base) FNoSymbol .au rfl rfl rfl XNoSymbol NNoSymbol) (FNoSymbol.b2 fun _ _ _ _ _ _ _ _=>rfl) XNoSymbol MNoSymbol
 have ETooMany:=mkE (ok_x (P:=l.prog) (w:=w) (base:=base) FTooMany .au rfl rfl rfl XTooMany NTooMany) (FTooMany.b2 fun _ _ _ _ _ _ _ _=>rfl) XTooMany MTooMany
 have ENoHead:=mkE (ok_x (P:=l.prog) (w:=w) (base:=base) FNoHead .au rfl rfl rfl XNoHead NNoHead) (FNoHead.b2 fun _ _ _ _ _ _ _ _=>rfl) XNoHead MNoHead
 have EDoubled:=mkE (ok_x (P:=l.prog) (w:=w) (base:=base) FDoubled .au rfl rfl rfl XDoubled NDoubled) (FDoubled.b2 fun _ _ _ _ _ _ _ _=>rfl) XDoubled MDoubled
 have ENoPlace:=mkE (ok_x (P:=l.prog) (w:=w) (base:=base) FNoPlace .au rfl rfl rfl XNoPlace NNoPlace) (FNoPlace.b2 fun _ _ _ _ _ _ _ _=>rfl) XNoPlace MNoPlace
 obtain ⟨_,H,p38⟩:=u5m (P:=l.prog) (w:=w) (base:=base)  F38 T
 have C38:=mkC H (F38.b1 fun _ _ _ _ _ _ _=>rfl) k38 a38
 obtain ⟨_,H,p18⟩:=u8m (P:=l.prog) (w:=w) (base:=base)  F18 T
 have C18:=mkC H (F18.b2 fun _ _ _ _ _ _ _ _=>rfl) k18 a18
 obtain ⟨_,H,p19⟩:=u8j (P:=l.prog) (w:=w) (base:=base)  F19 T
 have C19:=mkC H (F19.b2 fun _ _ _ _ _ _ _ _=>rfl) k19 a19
 obtain ⟨_,H,p20⟩:=v0e C18 C19 p18 p19 F20 T
 have C20:=mkC H (F20.b4 fun _ _ _ _ _ _ _ _ _ _=>rfl) k20 a20
 obtain ⟨_,H,p22⟩:=u6X (P:=l.prog) (w:=w) (base:=base)  F22 T
 have C22:=mkC H (F22.b2 fun _ _ _ _ _ _ _ _=>rfl) k22 a22
 obtain ⟨_,H,p28⟩:=u7a C20 C22 p20 p22 F28 T
 have C28:=mkC H (F28.b2 fun _ _ _ _ _ _ _ _=>rfl) k28 a28
 obtain ⟨_,H,p29⟩:=u7c (P:=l.prog) (w:=w) (base:=base)  F29 T
 have C29:=mkC H (F29.b1 fun _ _ _ _ _ _ _=>rfl) k29 a29
 obtain ⟨_,H,p30⟩:=u8k C29 p29 F30 T
 have C30:=mkC H (F30.b2 fun _ _ _ _ _ _ _ _=>rfl) k30 a30
 obtain ⟨_,H,p31⟩:=u8l (P:=l.prog) (w:=w) (base:=base)  F31 T
 have C31:=mkC H (F31.b2 fun _ _ _ _ _ _ _ _=>rfl) k31 a31
 obtain ⟨_,H,p32⟩:=u5n C31 p31 F32 T
 have C32:=mkC H (F32.b2 fun _ _ _ _ _ _ _ _=>rfl) k32 a32
 obtain ⟨_,H,q12⟩:=u8r (P:=l.prog) (w:=w) (base:=base)  F12 T
 have N12:=mkN H (F12.b1 fun _ _ _ _ _ _ _=>rfl) k12 a12
 obtain ⟨_,H,p_heads⟩:=v3d N12 q12 Fheads T
 have m_heads:=mkMN T.cls nheads H (Fheads.b1 fun _ _ _ _ _ _ _=>rfl)
 obtain ⟨_,H,p1⟩:=u4g (P:=l.prog) (w:=w) (base:=base)  F1 T
 have C1:=mkC H (F1.b1 fun _ _ _ _ _ _ _=>rfl) k1 a1
 obtain ⟨_,H,p2⟩:=u8p (P:=l.prog) (w:=w) (base:=base)  F2 T
 have C2:=mkC H (F2.b2 fun _ _ _ _ _ _ _ _=>rfl) k2 a2
 obtain ⟨_,H,p3⟩:=v0g C1 C2 p1 p2 F3 T
 have C3:=mkC H (F3.b1 fun _ _ _ _ _ _ _=>rfl) k3 a3
 obtain ⟨_,H,q13⟩:=u8q C3 p3 F13 T
 have N13:=mkN H (F13.b1 fun _ _ _ _ _ _ _=>rfl) k13 a13
 obtain ⟨_,H,p_signs⟩:=v3c N13 q13 Fsigns T
 have m_signs:=mkMN T.cls nsigns H (Fsigns.b1 fun _ _ _ _ _ _ _=>rfl)
 obtain ⟨_,H,p4⟩:=v0l C1 C2 p1 p2 F4 T
 have C4:=mkC H (F4.b1 fun _ _ _ _ _ _ _=>rfl) k4 a4
 obtain ⟨_,H,p_numbers_of⟩:=u5Y C4 m_heads ENoSymbol p4 p_heads Fnumbers_of T
 have m_numbers_of:=mkMN T.cls nnumbers_of H (Fnumbers_of.b2 fun _ _ _ _ _ _ _ _=>rfl)
 obtain ⟨_,H,p0⟩:=u8n (P:=l.prog) (w:=w) (base:=base)  F0 T
 have C0:=mkC H (F0.b1 fun _ _ _ _ _ _ _=>rfl) k0 a0
 obtain ⟨_,H,p_side_at⟩:=v0o C0 ENoPlace p0 Fside_at T
 have m_side_at:=mkM T.cls nside_at H (Fside_at.b2 fun _ _ _ _ _ _ _ _=>rfl)
 obtain ⟨_,H,p_need_number⟩:=u5o C0 ENoRule p0 Fneed_number T
 have m_need_number:=mkM T.cls nneed_number H (Fneed_number.b2 fun _ _ _ _ _ _ _ _=>rfl)
 obtain ⟨_,H,p_head_of⟩:=v0r m_need_number p_need_number Fhead_of T
 have m_head_of:=mkM T.cls nhead_of H (Fhead_of.b2 fun _ _ _ _ _ _ _ _=>rfl)
 obtain ⟨_,H,p_body_of⟩:=v0s m_need_number p_need_number Fbody_of T
 have m_body_of:=mkM T.cls nbody_of H (Fbody_of.b2 fun _ _ _ _ _ _ _ _=>rfl)
 obtain ⟨_,H,p_rank_of⟩:=v0p C3 p3 Frank_of T
 have m_rank_of:=mkM T.cls nrank_of H (Frank_of.b2 fun _ _ _ _ _ _ _ _=>rfl)
 obtain ⟨_,H,p_rank_by⟩:=v0q m_need_number m_rank_of p_need_number p_rank_of Frank_by T
 have m_rank_by:=mkM T.cls nrank_by H (Frank_by.b2 fun _ _ _ _ _ _ _ _=>rfl)
 obtain ⟨_,H,p33⟩:=u7b C30 C32 m_heads m_signs m_numbers_of m_side_at m_head_of m_body_of m_rank_by p_heads p_signs p_numbers_of p_head_of p_body_of p_rank_by p_side_at p32 p30 F33 T
 have C33:=mkX H (F33.b3 fun _ _ _ _ _ _ _ _ _=>rfl) k33 a33
 obtain ⟨_,H,p27⟩:=u6V C20 p20 F27 T
 have C27:=mkC H (F27.b2 fun _ _ _ _ _ _ _ _=>rfl) k27 a27
 obtain ⟨_,H,p37⟩:=u6W (P:=l.prog) (w:=w) (base:=base)  F37 T
 have C37:=mkC H (F37.b3 fun _ _ _ _ _ _ _ _ _=>rfl) k37 a37
 obtain ⟨_,H,p21⟩:=u7d (P:=l.prog) (w:=w) (base:=base)  F21 T
 have C21:=mkC H (F21.b2 fun _ _ _ _ _ _ _ _=>rfl) k21 a21
 obtain ⟨_,H,p25⟩:=u3n C20 p20 F25 T
 have C25:=mkC H (F25.b5 fun _ _ _ _ _ _ _ _ _ _ _=>rfl) k25 a25
 obtain ⟨_,H,p23⟩:=u6Y (P:=l.prog) (w:=w) (base:=base)  F23 T
 have C23:=mkC H (F23.b1 fun _ _ _ _ _ _ _=>rfl) k23 a23
 obtain ⟨_,H,p24⟩:=u5X (P:=l.prog) (w:=w) (base:=base)  F24 T
 have C24:=mkC H (F24.b3 fun _ _ _ _ _ _ _ _ _=>rfl) k24 a24
 obtain ⟨_,H,p26⟩:=u6Z C20 C21 C22 C25 C23 C24 p20 p21 p22 p23 p24 p25 F26 T
 have C26:=mkC H (F26.b2 fun _ _ _ _ _ _ _ _=>rfl) k26 a26
 obtain ⟨_,H,p34⟩:=u7e m_numbers_of m_head_of m_body_of m_rank_by m_side_at p_numbers_of p_head_of p_body_of p_rank_by p_side_at Hn F34 T
 have C34:=mkX H (F34.b3 fun _ _ _ _ _ _ _ _ _=>rfl) k34 a34
 obtain ⟨_,H,p35⟩:=u4f (P:=l.prog) (w:=w) (base:=base)  F35 T
 have C35:=mkC H (F35.b2 fun _ _ _ _ _ _ _ _=>rfl) k35 a35
 obtain ⟨_,H,p36⟩:=v0f C35 C32 p35 p32 F36 T
 have C36:=mkC H (F36.b4 fun _ _ _ _ _ _ _ _ _ _=>rfl) k36 a36
 obtain ⟨_,H,p6⟩:=v0k (P:=l.prog) (w:=w) (base:=base)  F6 T
 have C6:=mkC H (F6.b1 fun _ _ _ _ _ _ _=>rfl) k6 a6
 obtain ⟨_,H,p5⟩:=u7f C3 C4 p3 p4 F5 T
 have C5:=mkC H (F5.b1 fun _ _ _ _ _ _ _=>rfl) k5 a5
 obtain ⟨_,H,p7⟩:=v0m C5 p5 F7 T
 have C7:=mkC H (F7.b1 fun _ _ _ _ _ _ _=>rfl) k7 a7
 obtain ⟨_,H,p8⟩:=v0i C6 C4 C7 p6 p4 p7 F8 T
 have C8:=mkC H (F8.b1 fun _ _ _ _ _ _ _=>rfl) k8 a8
 obtain ⟨_,H,p14⟩:=u5V C8 ENoRule ETooMany EDoubled p8 F14 T
 have C14:=mkX H (F14.b1 fun _ _ _ _ _ _ _=>rfl) k14 a14
 obtain ⟨_,H,p12⟩:=u8o (P:=l.prog) (w:=w) (base:=base)  F12 T
 have C12:=mkC H (F12.b1 fun _ _ _ _ _ _ _=>rfl) k12 a12
 obtain ⟨_,H,p15⟩:=u2V C12 C4 ENoHead p4 p12 F15 T
 have C15:=mkX H (F15.b1 fun _ _ _ _ _ _ _=>rfl) k15 a15
 obtain ⟨_,H,p13⟩:=u8i C3 p3 F13 T
 have C13:=mkC H (F13.b1 fun _ _ _ _ _ _ _=>rfl) k13 a13
 obtain ⟨_,H,p16⟩:=u2W C12 C13 ETooMany p12 p13 F16 T
 have C16:=mkX H (F16.b1 fun _ _ _ _ _ _ _=>rfl) k16 a16
 obtain ⟨_,H,p9⟩:=v0h (P:=l.prog) (w:=w) (base:=base)  F9 T
 have C9:=mkC H (F9.b1 fun _ _ _ _ _ _ _=>rfl) k9 a9
 obtain ⟨_,H,p10⟩:=u4h C3 p3 F10 T
 have C10:=mkC H (F10.b1 fun _ _ _ _ _ _ _=>rfl) k10 a10
 obtain ⟨_,H,p11⟩:=v0j C6 C9 C10 p6 p9 p10 F11 T
 have C11:=mkC H (F11.b1 fun _ _ _ _ _ _ _=>rfl) k11 a11
 obtain ⟨_,H,p17⟩:=u5W C11 ENoRanks ETooMany p11 F17 T
 have C17:=mkX H (F17.b1 fun _ _ _ _ _ _ _=>rfl) k17 a17
 have KG:KCallee l.prog w K mg base 7 "Grammar" A.Grammar ["self","rules","ranks"] [] (gInit A):=⟨fG,_,[],[],⟨mkG,aG,fnG,kpG⟩,v0n C14 C15 C16 C17 p14 p15 p16 p17 FG T,bG3,.nil,fun F=>.nil,W.mg_of X G gG⟩
 obtain ⟨_,H,p39⟩:=pr_law C38 C28 C33 C27 C37 C26 C20 C30 C34 C36 C31 m_heads m_signs m_numbers_of m_rank_by m_rank_of KG p20 p26 p27 p38 p28 p33 p37 p34 p36 p30 p_rank_of p31 p_heads p_signs p_numbers_of p_rank_by F39 T
 exact hY (law_imp nl H p39)
theorem walk {l:W.OpenLaw}{q:Program}{loose:List Str}{XP:(Str→Option Value)→Heap→Prop}{YP:World→Heap→Prop}{d:DefRec}{K:Params→W.Frag} (hn:l.most=some 63) (hdf:d.params.defaults=[])
  (hY:∀ (w:World) (h:Heap),YP w h→(K w.params).In h)
  (F:∀ (w:World) (mg:MG) (fa:Addr) (h:Heap),(K w.params).In h→h.Ns mainGlobals mg→mg d.name=some (.ref fa) →
   ∃ fd:FuncData,(∀ (s:Shared) (u:Value),BindsTo s fd ⟨[u],[]⟩ [("_law_script",u)])∧∀ base:Heap,(K w.params).In base→base.Ns mainGlobals mg→FnOk l.prog w (K w.params) mg base (CXe l.prog w) 9 fa fd ["_law_script"] (spLaw6 (K w.params))) :
  W.WalkO q loose XP YP l.row.toRowW d [] (fun f vs=>PySem.call f vs) :=
 L2.walk_of (n:=63) (k:=9) (x:="_law_script") (CX:=fun w=>CXe l.prog w) (sp:=fun w=>spLaw6 (K w.params)) hn (by decide) hdf ⟨rfl,by decide,by decide⟩ hY F (fun _ H a ns hl hO hS=>⟨a,ns,rfl,hS,fun _=>rfl⟩) fun _ _ _ _ _ ⟨_,_,_,_,_,_,_,_,_,_,_,z⟩=>z
end
end K06
end
namespace PySem.W.Fast
def tw6593100630523931719:=True
def tw6548645322320297362:=True
def tw16409336143907626790:=True
def tw15043000910728336834:=True
def tw6457537793248225815:=True
def tw16008513547665973276:=True
def tw8950901554605283089:=True
def tw4448331509026779793:=True
def tw7487248030010719998:=True
def tw1890223306290177588:=True
def tw11129348450053318850:=True
def tw10774926545974352793:=True
def tw5810926572206488837:=True
def tw17310977919690415675:=True
def tw1455829752050304710:=True
def tw2922729111823490628:=True
def tw13166982030459414341:=True
def tw14691181915930904030:=True
def tw18297880915405377874:=True
def tw1044339597486200221:=True
def tw1378159301968476718:=True
def tw2240759449636260014:=True
def tw10043953809468048048:=True
def tw15629408207935993613:=True
def tw3477957414778459313:=True
def tw16144516322954237827:=True
def tw9714778435235084491:=True
def tw13747604034939471629:=True
def tw16235957422349109189:=True
def tw15165655020813338543:=True
def tw1655190306445953464:=True
def tw13950921133243387815:=True
def tw6119311243066087091:=True
def tw4641464185415302879:=True
def tw14252625921675556314:=True
def tw2577409555120096197:=True
def tw13834966877745742382:=True
def tw115387880234700215:=True
def tw14946573137162800594:=True
def tw5050263949589693448:=True
def tw8589909480467451442:=True
def tw10397153500333942513:=True
def tw7902975967328247500:=True
def tw2154076228391928630:=True
def tw15276941311685956807:=True
def tw17268629295640193806:=True
def tw11641490347759492450:=True
def tw41673147326109499:=True
def tw10949784093804541974:=True
def tw11000468937986620462:=True
def tw12718809694137231844:=True
def tw373130377746761591:=True
def tw5651018411874617700:=True
def tw10933867200967135264:=True
def tw3000677120555637208:=True
def tw6644338729103174482:=True
def tw17069100980614772246:=True
def tw4532328202106040096:=True
def tw2440042592130625307:=True
def tw3981907976036661034:=True
def tw9716382757023001342:=True
def tw4334233459205903718:=True
def tw4281331213838327334:=True
def tw1810599981025015679:=True
def tw15837080589605774989:=True
def tw13492445619333681704:=True
def tw1700134172575890886:=True
def tw17862417165799308530:=True
def tw12543318531787469178:=True
def tw3261000765841858466:=True
def tw11288117755832119099:=True
def tw8765879007785665650:=True
def tw1384725509670028899:=True
def tw8550484510930238012:=True
def tw8345270600489967111:=True
def tw7951733170541144582:=True
def tw7396883315371516478:=True
def tw10989102590306482582:=True
def tw1991523257931807055:=True
def tw8566749935842690375:=True
def tw15090867085176866919:=True
def tw15111408798710637098:=True
def tw16968673618710887643:=True
def tw5644795754799018738:=True
def tw3405346760628748065:=True
def tw15260549406352971744:=True
def tw13542877761563671655:=True
def tw14001444576449445481:=True
def tw16447263642303467745:=True
def tw12524300567633724093:=True
def tw16588687363219140903:=True
def tw4206397967127162556:=True
def tw18269037472516568025:=True
def tw10501846870766642237:=True
def tw8371925724815549366:=True
def tw13440231407125354559:=True
def tw3352968078539966523:=True
def tw18421940963215226161:=True
def tw12310200898785216628:=True
def tw15449232645655205755:=True
def tw4399829648495405192:=True
def tw16170045723721602404:=True
def tw15016971363579919543:=True
def tw245661399747547932:=True
def tw6526570784439649233:=True
def tw4455623579708129942:=True
def tw14749926877095178209:=True
def tw2453123800489671586:=True
def tw5234821352188292781:=True
def tw878198327373888338:=True
def tw3591979216143113377:=True
def tw14582441427471543556:=True
def tw1755747440154991506:=True
def tw6842205405477044309:=True
def tw7446770650908290623:=True
def tw8823554040655828166:=True
def tw16781655846912827393:=True
def tw9121805938815264593:=True
def tw16931325628273348174:=True
def tw3024293182722244392:=True
def tw11909697044670156293:=True
def tw7020804480673040571:=True
def tw12730702025120025157:=True
def tw15805367297785468526:=True
def tw4833000902202798549:=True
def tw18192680109885085818:=True
def tw2282485627752115399:=True
def tw15138749660817839271:=True
def tw7268760584441448543:=True
def tw16856462536673685706:=True
def tw18252038009892859520:=True
def tw3157160966572024857:=True
def tw17137242491631628704:=True
def tw15894121807495721206:=True
def tw6083448905620739716:=True
def tw8774146599770563797:=True
def tw4048301251519468711:=True
def tw7974324398471897314:=True
def tw10662910100443742046:=True
def tw13491880442164333993:=True
def tw3824695823610815904:=True
def tw1512366457614132655:=True
def tw14520240674046164880:=True
def tw16475721403341875817:=True
def tw169086024827880401:=True
def tw10327734453083703276:=True
def tw17117276468565434234:=True
def tw2913366135767783865:=True
def tw6449764452736346873:=True
def tw16934851552651737883:=True
def tw92985053847522790:=True
def tw16187603190522385022:=True
def tw5581598733748626127:=True
def tw4553906931749509002:=True
def tw12040538743925154723:=True
def tw3076448703408422435:=True
def tw11962026315465952253:=True
def tw4786780143976042495:=True
def tw8604814315337456918:=True
def tw1137095921673932420:=True
def tw18150130226265205898:=True
def tw5329637574408381122:=True
def tw6065374415156115489:=True
def tw9083428228141119762:=True
def tw1245273084318955803:=True
def tw5826485345262577766:=True
def tw14682163821996205438:=True
def tw6270004707364403151:=True
def tw16664821591425199571:=True
def tw15893857312376434306:=True
def tw18066537471690328356:=True
def tw6845348833945516796:=True
def tw3010885727817339870:=True
def tw2180338552264018367:=True
def tw10681259757611669339:=True
def tw12571519446515085231:=True
def tw1053545915657231365:=True
def tw14392239799387429855:=True
def tw8226270017186167639:=True
def tw17734639075233893618:=True
def tw5238584101554136718:=True
def tw7675529289470021617:=True
def tw11768039539428782689:=True
def tw10378640617361404848:=True
def tw12516329344938655920:=True
def tw560543313017764273:=True
def tw12200865869141471351:=True
def tw2567439371815137870:=True
def tw17762917004564542603:=True
def tw13035634524120001553:=True
def tw14391064010283358690:=True
def tw372805262059958840:=True
def tw4794029429471812839:=True
def tw2303509934578278272:=True
def tw15474540154910138374:=True
def tw4127939207240952961:=True
def tw6364381834010822584:=True
def tw1573958894814350098:=True
def tw472458362580852306:=True
def tw4391886610792463613:=True
def tw6307792858751737234:=True
def tw17021142085516457267:=True
def tw7877002956487048913:=True
def tw755355458729682132:=True
def tw672254597749316564:=True
def tw15677636962171731041:=True
def tw430200579717926842:=True
def tw15710161185691476927:=True
def tw11262515158927513653:=True
def tw6672854400784244077:=True
def tw3014894353411876594:=True
def tw14660020796911980067:=True
def tw3397775452873363194:=True
def tw11547170403388808947:=True
def tw303591057870233355:=True
def tw9492609630191217743:=True
def tw1464699219456896434:=True
def tw16711736959925422759:=True
def tw15850949005604970258:=True
def tw154916926509712469:=True
def tw5878183175139719503:=True
def tw13138702326245219101:=True
def tw7955705139163558761:=True
def tw7478935271086035753:=True
def tw3396481734085426780:=True
def tw5516415820309381726:=True
def tw16113323936799799109:=True
def tw763532908381537905:=True
def tw5204743455851271608:=True
def tw1022031829733994796:=True
def tw6988528168931200050:=True
def tw2420009428464777986:=True
def tw7186301407874472729:=True
def tw16732624586442144710:=True
def tw6874097497198792905:=True
def tw2568658679816261049:=True
def tw16847313682731022001:=True
def tw8023739135811210263:=True
def tw4106288585097432892:=True
def tw4811673148977411707:=True
def tw851690942915865697:=True
def tw14222589842932831184:=True
def tw16827822777035693109:=True
def tw6217253488088461142:=True
def tw8679365015086931141:=True
def tw18137255709319074172:=True
def tw16860580449207097035:=True
def tw297280985685929956:=True
def tw8315416182536598077:=True
def tw11210090164857573839:=True
def tw1441706885294222075:=True
def tw311420066930387328:=True
def tw3959303357153397514:=True
def tw12735714264157447463:=True
def tw3680016457363543046:=True
def tw17619228468182415615:=True
def tw7653670327538646869:=True
def tw947916166932874144:=True
def tw13773096587101919589:=True
def tw10528420216348942877:=True
def tw16983244574978359856:=True
def tw9579044265707225733:=True
def tw6983189246934084588:=True
def tw17375149743473922335:=True
def tw15006915936057317360:=True
def tw7971658195921241462:=True
def tw878090236835248841:=True
def tw6845139609898246793:=True
def tw6565299056162281053:=True
def tw4629421965605136129:=True
def tw6261253650650532546:=True
def tw16361842528074496813:=True
def tw1617519502137662638:=True
def tw6613300972676086582:=True
def tw18224196224582892235:=True
def tw4575192102534231810:=True
def tw1761758200182524101:=True
def tw17434672527249491868:=True
def tw10222344169738397424:=True
def tw8149173131936824871:=True
def tw7676208661620730207:=True
def tw1188788732822248450:=True
def tw14054218000602464692:=True
def tw11164275168794538284:=True
def tw6639497898768044849:=True
def tw8591631013658559915:=True
end PySem.W.Fast
open PySem PySem.W PyProof.Rows
set_option maxRecDepth 100000 in
set_option maxHeartbeats 0 in
theorem PySem.Challenge.cw_rulestable_k06_what_a_grammar_tells_holds : PySem.Challenge.rw_rulestable_k06_what_a_grammar_tells.Holds := by
  w_on; o_law; k_head; (case hw => w_witness2)
  k_fill
  refine K06.walk (l := PySem.Challenge.rw_rulestable_k06_what_a_grammar_tells) rfl rfl (fun w h Y => PySem.W.kIn_of Y) ?F
  case F =>
    intro w mg fa h KX G hmg
    refine' K06.all_mk KX G hmg ?h0 ?h1 ?h2 ?h3 ?h4 ?h5 ?h6 ?h7 ?h8 ?h9 ?h10 ?h11 ?h12 ?h13 ?h14 ?h15 ?h16 ?h17 ?h18 ?h19 ?h20 ?h21 ?h22 ?h23 ?h24 ?h25 ?h26 ?h27 ?h28 ?h29 ?h30 ?h31 ?h32 ?h33 ?h34 ?h35 ?h36 ?h37 ?h38 ?h39 ?h40 ?h41 ?h42 ?h43 ?h44 ?h45 ?h46 ?h47 ?h48 ?h49 ?h50 ?h51 ?h52 ?h53 ?h54 ?h55 ?h56 ?h57 ?h58 ?h59 ?h60 ?h61 ?h62 ?h63 ?h64 ?h65 ?h66 ?h67 ?h68 ?h69 ?h70 ?h71 ?h72 ?h73 ?h74 ?h75 ?h76 ?h77 ?h78 ?h79 ?h80 ?h81 ?h82 ?h83 ?h84 ?h85 ?h86 ?h87 ?h88 ?h89 ?h90 ?h91 ?h92 ?h93 ?h94 ?h95 ?h96 ?h97
    case h0 | h1 | h2 | h3 | h4 | h5 | h6 | h7 | h8 | h9 | h10 | h11 | h12 | h13 | h14 | h15 | h16 | h17 | h18 | h19 | h20 | h21 | h22 | h23 | h24 | h25 | h26 | h27 | h28 | h29 | h30 | h31 | h32 | h33 | h34 | h35 | h36 | h37 | h38 => exact ⟨_, _, _, _, _, _, _, _, _, _, by k_is, by k_is, by k_is, by k_is⟩
    case h39 | h40 | h41 | h42 | h43 | h44 | h45 => exact ⟨by k_is, _, _, _, _, _, _, _, _, _, _, by k_is, by k_is, by k_is, by k_is, by kernel_rfl, by k_is, by kernel_rfl⟩
    case h46 => exact ⟨by k_is, by kernel_rfl⟩
    case h47 | h48 | h49 | h50 | h51 | h52 | h53 | h54 | h55 => kernel_rfl
    case h56 => k_is
    case h57 | h58 | h59 | h60 | h61 | h62 | h63 | h64 | h65 => exact ⟨_, _, _, _, _, _, _, _, _, _, by k_is, by first | k_is | kernel_rfl, by k_is, by k_is, by k_is⟩
    case h66 | h67 | h68 | h69 => k_is
    case h70 | h71 | h72 | h73 | h74 | h75 | h76 | h77 | h78 | h79 => first | k_is | kernel_rfl
    case h80 => kernel_rfl
    case h81 | h82 | h83 | h84 | h85 | h86 | h87 | h88 | h89 | h90 | h91 | h92 => k_is
    case h93 => intro x hx; simp only [List.mem_cons, List.not_mem_nil, or_false] at hx; rcases hx with rfl | rfl | rfl | rfl | rfl | rfl | rfl | rfl | rfl | rfl | rfl | rfl | rfl | rfl | rfl | rfl <;> k_is
    case h94 | h95 | h96 | h97 => k_is
