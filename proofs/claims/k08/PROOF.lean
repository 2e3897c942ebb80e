import PyProof.Rows.All
import Wide.All
import OpenK.AllK
import Wide.FinOn
import Lean
import PyProof.EqAt
import PyProof.EqKinds
import PyProof.TupleCall
import PyProof.Rows.SetFrom
import PyProof.Rows.SortStr
import KE.KDictSum
import KE.KEqDict
import KE.KDictLaws
import PyProof.StrOps2
import PySem.Challenge.RW_rulestable_k08_whole_any_text
set_option Elab.async false
set_option linter.all false
set_option maxRecDepth 100000
set_option tactic.hygienic false
section
abbrev VP:=PySem.Value->PySem.Shared->Prop
abbrev LO:=List (PySem.Addr×PySem.Obj)
abbrev MG:=PySem.Str->Option PySem.Value
abbrev z0:=@List.mem_cons_of_mem
abbrev z5:=@PySem.Heap.get?_push_of_some
abbrev z6:=@List.mem_cons_self
abbrev z7:=@PySem.Heap.get?_push_size
abbrev z8:=@List.mem_cons
abbrev y6:=@List.mem_singleton
abbrev y7:=@Nat.le_refl
abbrev y9:=@PySem.Heap.lt_size
abbrev x8:=@List.size_toArray
abbrev x9:=@List.mem_append
abbrev w5:=@List.map_cons
abbrev w6:=@List.mem_map
abbrev w9:=@Nat.lt_of_lt_of_le
abbrev v5:=@Nat.le_trans
abbrev v6:=@List.length_map
abbrev v7:=@List.getElem?_map
abbrev v9:=@Nat.ne_of_lt
abbrev u5:=@List.getElem?_eq_getElem
abbrev u6:=@List.mem_append_right
abbrev u7:=@List.getElem?_eq_some_iff
abbrev u9:=@List.length_cons
abbrev t7:=@Bool.false_eq_true
abbrev t8:=@Bool.false_ne_true
abbrev t9:=@Bool.and_eq_true
abbrev s9:=@Bool.and_eq_true_iff
abbrev r9:=@Array.length_toList
abbrev q9:=@PySem.Heap.get?_update_other
abbrev z0A:=@Nat.lt_of_le_of_lt
abbrev z0B:=@List.mem_of_mem_drop
abbrev z0C:=@List.getElem?_set_ne
abbrev z0D:=@List.all_cons
abbrev z0E:=@List.getElem?_replicate
abbrev z0F:=@List.getElem_mem
abbrev z0G:=@Nat.lt_irrefl
abbrev z0H:=@List.map_append
abbrev z0I:=@List.find?_cons
abbrev z0J:=@List.lookup_cons
abbrev z1A:=@List.length_eq_zero_iff
abbrev z1B:=@List.length_drop
abbrev z1C:=@List.getElem?_append_right
abbrev z1D:=@Bool.eq_iff_iff
abbrev z1E:=@PySem.Heap.get?_update_self
abbrev z1F:=@Array.getElem?_toList
abbrev z1G:=@List.not_mem_nil
abbrev z1H:=@Nat.zero_le
abbrev z1I:=@List.mem_append_left
abbrev z1J:=@List.foldl_cons
abbrev z2A:=@List.getElem?_set_self
abbrev z2B:=@List.length_append
abbrev z2C:=@List.length_replicate
abbrev z2D:=@List.length_pos_iff
abbrev z2E:=@List.length_take
abbrev z2F:=@List.all_eq_true
abbrev z2G:=@List.getElem?_set
abbrev z2H:=@List.getElem?_append
abbrev z2I:=@List.getElem?_append_left
abbrev z2J:=@List.map_map
abbrev z3A:=@List.mem_of_mem_take
abbrev z3B:=@List.nodup_cons
abbrev z3C:=@List.mem_filterMap
abbrev z3D:=@List.drop_eq_getElem_cons
abbrev z3E:=@Array.getElem?_eq_getElem
namespace L2
open PySem PySem.Spec PyProof.Rows
abbrev Key:=Sum Int Str
noncomputable def keyIs:Key->Value->Bool
 | .inl k,v=>Value.isInt k v
 | .inr x,v=>Value.isStrOf x v
noncomputable def keyH (w:World):Key->Int
 | .inl k=>hashInt k
 | .inr x=>hashStr w x
theorem u0P:∀{k:Key}{v:Value},keyIs k v=true->(∃i t,k=Sum.inl i/\v=Value.int i t)\/(∃x t,k=Sum.inr x/\v=Value.str x t)
 | .inl i,v,h=>by
  obtain⟨t,e⟩:=Value.isInt_shape (k:=i) (v:=v) h
  exact .inl ⟨i,t,rfl,e⟩
 | .inr x,v,h=>by
  obtain⟨t,e⟩:=Value.isStrOf_shape (x:=x) (v:=v) h
  exact .inr ⟨x,t,rfl,e⟩
def v2s (i:Int) (t:Tok):keyIs (.inl i) (.int i t)=true:=by simp[keyIs,Value.isInt]
def v2r (x:Str) (t:Tok):keyIs (.inr x) (.str x t)=true:=by simp[keyIs,Value.isStrOf]
def key_ll (a b:Int):decide ((Sum.inl a:Key)=Sum.inl b)=(a==b):=by
 by_cases e:a=b
 ·subst e;simp
 ·have h:¬ (Sum.inl a:Key)=Sum.inl b:=fun q=>e (Sum.inl.inj q)
  rw[decide_eq_false h]
  exact(beq_eq_false_iff_ne.mpr e).symm
def key_rr (a b:Str):decide ((Sum.inr a:Key)=Sum.inr b)=decide (a=b):=by
 by_cases e:a=b
 ·subst e;simp
 ·have h:¬ (Sum.inr a:Key)=Sum.inr b:=fun q=>e (Sum.inr.inj q)
  rw[decide_eq_false h,decide_eq_false e]
def key_lr (a:Int) (b:Str):decide ((Sum.inl a:Key)=Sum.inr b)=false:=decide_eq_false (λq=>nomatch q)
def key_rl (a:Str) (b:Int):decide ((Sum.inr a:Key)=Sum.inl b)=false:=decide_eq_false (λq=>nomatch q)
noncomputable def mixKind (prog:Program) (w:World):PySem.KeyKind prog w Key where
 is:=keyIs
 hash:=keyH w
 inj:=λv a b ha hb=>by
  rcases u0P ha with⟨i,t,rfl,rfl⟩|⟨x,t,rfl,rfl⟩
  ·rcases u0P hb with ⟨j,u,rfl,e⟩ | ⟨y,u,rfl,e⟩
   ·injection e with e1 _;rw[e1]
   ·exact nomatch e
  ·rcases u0P hb with ⟨j,u,rfl,e⟩ | ⟨y,u,rfl,e⟩
   ·exact nomatch e
   ·injection e with e1 _;rw[e1]
 byValue:=λk v h=>by
  rcases u0P h with⟨i,t,rfl,rfl⟩|⟨x,t,rfl,rfl⟩<;>rfl
 pyHash:=λhv h=>by
  rcases u0P hv with⟨i,t,rfl,rfl⟩|⟨x,t,rfl,rfl⟩
  ·exact wpAny_pyHash_int h
  ·exact wpAny_pyHash_str h
 eqBool:=λhu hv h=>by
  rcases u0P hu with⟨i,t,rfl,rfl⟩|⟨x,t,rfl,rfl⟩
  ·rcases u0P hv with ⟨j,u,rfl,rfl⟩ | ⟨y,u,rfl,rfl⟩
   ·rw[key_ll] at h;exact wpAny_eqBool_int h
   ·rw[key_lr] at h;exact SeqAt.EqAt.int_str i t y u _ _ _ _ h
  ·rcases u0P hv with ⟨j,u,rfl,rfl⟩ | ⟨y,u,rfl,rfl⟩
   ·rw[key_rl] at h;exact SeqAt.EqAt.str_int x t j u _ _ _ _ h
   ·rw[key_rr] at h;exact wpAny_eqBool_str h
 «strs»:=λk x t v h=>by
  rcases u0P h with⟨i,u,rfl,e⟩|⟨y,u,rfl,e⟩
  ·exact nomatch e
  ·injection e with e1 _
   subst e1
   cases v<;>rfl
def v1j (prog:Program) (w:World) (k:Key) (v:Value):(mixKind prog w).is k v=keyIs k v:=rfl
def u3z (prog:Program) (w:World) (i:Int) (t:Tok):(mixKind prog w).is (.inl i) (.int i t)=true:=v2s i t
def u3y (prog:Program) (w:World) (x:Str) (t:Tok):(mixKind prog w).is (.inr x) (.str x t)=true:=v2r x t
inductive V where
 | non|bl (b:Bool)|int (i:Int)|str (x:Str)|byt (b:Array UInt8)|flt (b:UInt64)|ref (a:Addr)|ty (n:String)
 deriving DecidableEq
def RelV:V->Value->Prop
 | .non,u=>u=Value.none
 | .bl b,u=>u=Value.bool b
 | .int i,u=>∃t,u=Value.int i t
 | .str x,u=>∃t,u=Value.str x t
 | .byt b,u=>∃t,u=Value.bytes b t
 | .flt b,u=>∃t,u=Value.float b t
 | .ref a,u=>u=Value.ref a
 | .ty n,u=>u=Value.type n
abbrev Vals:List V->List Value->Prop:=Paired RelV
theorem Vals.length (r:Vals xs us):xs.length=us.length:=Paired.length r
theorem Vals.get:∀{xs:List V}{us:List Value}{i:Nat}{x:V},Vals xs us->xs[i]?=some x->∃u,us[i]?=some u/\RelV x u
 | _,_,_,_,.nil,e=>by simp at e
 | _,_,0,_,.cons r _,e=>by simp at e;subst e;exact⟨_,rfl,r⟩
 | _,_,i+1,x,.cons _ t,e=>by
  obtain⟨u,h1,h2⟩:=Vals.get (i:=i) (x:=x) t (by simpa using e)
  exact⟨u,by simpa using h1,h2⟩
theorem Vals.set {x:V}{u:Value} (r:RelV x u):∀{xs:List V}{us:List Value} (i:Nat),Vals xs us->Vals (xs.set i x) (us.set i u)
 | _,_,_,.nil=>.nil
 | _,_,0,.cons _ t=>.cons r t
 | _,_,i+1,.cons q t=>.cons q (Vals.set r i t)
theorem Vals.append:∀{xs ys:List V}{us ws:List Value},Vals xs us->Vals ys ws->Vals (xs++ys) (us++ws)
 | _,_,_,_,.nil,s=>s
 | _,_,_,_,.cons r t,s=>.cons r (Vals.append t s)
theorem Vals.take:∀{xs:List V}{us:List Value} (n:Nat),Vals xs us->Vals (xs.take n) (us.take n)
 | _,_,0,_=>.nil
 | _,_,_+1,.nil=>.nil
 | _,_,n+1,.cons r t=>.cons r (Vals.take n t)
theorem Vals.drop:∀{xs:List V}{us:List Value} (n:Nat),Vals xs us->Vals (xs.drop n) (us.drop n)
 | _,_,0,r=>r
 | _,_,_+1,.nil=>.nil
 | _,_,n+1,.cons _ t=>Vals.drop n t
def RelO:Option V->Option Value->Prop
 | some v,some u=>RelV v u
 | none,none=>True
 | _,_=>False
noncomputable def KV {κ:Type}:List (κ×V)->List (κ×Value)->Prop:=Paired λ(p:κ×V) (q:κ×Value)=>p.1=q.1/\RelV p.2 q.2
noncomputable def kV:Key->V
 | .inl i=>.int i
 | .inr x=>.str x
inductive HO where
 /-- a list -/
 | lst (xs:List V)
 /-- a tuple (never changes) -/
 | tup (xs:List V)
 /-- a dict whose keys are ints and texts;one whose keys are tuples of ints and texts (the empty one is both) -/
 | dK (kvs:List (Key×V))|dT (kvs:List (List Key×V))
 /-- a set of ints: its members,its size -/
 | set (S:Int->Bool) (n:Nat)
 /-- an instance of the class at C,its dict at dx,its attributes -/
 | ins (C dx:Addr) (fs:List (Str×V))
 /-- the dict of the instance at x -/
 | own (x:Addr)
 /-- the dict of an exception -/
 | xd (fs:List (Str×V))
 /-- a bound method,f of x -/
 | met (f x:Addr)
 /-- a range object lo,lo+1,.. below hi -/
 | rng (lo hi:Int)
 /-- a thing that is known to the object (the script;a dict while a loop walks it): read,never written while it is so -/
 | frz (o:Obj) (u:HO)
 /-- a code object's table -/
 | tbl (ps:Array Value)
 /-- any other thing,by what is true of its one object (a def of one's own: SetO a S n:=HO.ext λh=>..) -/
 | ext (φ:Heap->Prop)
abbrev Hp:=Addr->Option HO
noncomputable def upd (H:Hp) (a:Addr) (o:HO):Hp:=λb=>if b=a then some o else H b
def u0j :upd H a o a=some o:=by unfold upd;rw[if_pos rfl]
def u0o (h:b≠a):upd H a o b=H b:=by unfold upd;rw[if_neg h]
def upd_upd :upd (upd H a o) a u=upd H a u:=by
 funext b;unfold upd;split<;>rfl
def ne_of {H:Hp}{a b:Addr}{o u:HO} (h:H a=some o) (h':H b=some u) (d:o≠u):a≠b:=by
 intro e;subst e;rw[h] at h';exact d (Option.some.inj h')
def u0y {H:Hp}{a b:Addr}{o:HO} (h:H a=some o) (h':H b=none):a≠b:=by
 intro e;subst e;rw[h] at h';cases h'
section
variable (P:Program) (w:World)
def ObjOk (H:Hp) (h:Heap) (a:Addr):HO->Prop
 | .lst xs=>xs.length<=sizeLine/\∃(its:List Value) (n:Nat),Vals xs its/\h.get? a=some { cls:=.type "list",data:=.seq its.toArray n }
 | .tup xs=>xs.length<=sizeLine/\∃its:List Value,Vals xs its/\IsTup h a its.toArray
 | .dK kvs=>kvs.length<=sizeLine/\(a==sysModules)=false/\∃vs,KV kvs vs/\h.DictOf (mixKind P w) a vs
 | .dT kvs=>kvs.length<=sizeLine/\(a==sysModules)=false/\∃xs:List (List Key×Addr×Value),
   Paired (λ(p:List Key×V) (q:List Key×Addr×Value)=>p.1=q.1/\H q.2.1=some (.tup (p.1.map kV))/\RelV p.2 q.2.2) kvs xs /\
   ∃o es ep,h.get? a=some o/\o.ExactDict/\o.data=.dict es ep/\es.toList=xs.map (entryOfKey (tupleKind (mixKind P w)))/\(xs.map (·.1)).Nodup
 | .set S n=>h.SetOf (intKind P w) a S n
 | .ins C dx fs=>H dx=some (.own a)/\fs.length<=1000/\dx≠a/\h.get? a=some (W.instObj C dx) /\
   ∃mA,h.Ns1 dx mA/\(∀f,RelO (fs.lookup f) (mA f))/\PySem.Within mA (fs.map (·.1))
 | .own _=>∃o,h.get? a=some o
 | .xd fs=>∃mA,h.Ns1 a mA/\∀f,RelO (fs.lookup f) (mA f)
 | .rng lo hi=>∃t u v,h.get? a=some { cls:=.type "range",data:=.fields #[.int lo t,.int hi u,.int 1 v] }
 | .frz o u=>h.get? a=some o/\ObjOk H h a u
 | .tbl ps=>h.get? a=some { cls:=.none,data:=.fields ps }
 | .met f x=>h.get? a=some (W.methodObj (.ref f) (.ref x))
 | .ext φ=>φ h/\(∃o,h.get? a=some o)/\∀h1 h2:Heap,φ h1->(∀o,h1.get? a=some o->h2.get? a=some o)->φ h2
def HOk (H:Hp) (h:Heap):Prop:=∀a o,H a=some o->ObjOk P w H h a o
end
section
variable {P:Program}{w:World}{H H':Hp}{h h':Heap}{a:Addr}{o:HO}
theorem ObjOk.lt (x:ObjOk P w H h a o):a<h.objs.size:=by
 cases o with
 | lst xs=>obtain⟨_,_,_,_,e⟩:=x;exact y9 e
 | tup xs=>obtain⟨_,_,_,p⟩:=x;exact p.lt
 | dK kvs=>obtain⟨_,_,_,_,o,_,_,e,_⟩:=x;exact y9 e
 | dT kvs=>obtain⟨_,_,_,_,o,_,_,e,_⟩:=x;exact y9 e
 | set S n=>obtain⟨o,_,_,_,e,_⟩:=x;exact y9 e
 | ins C dx fs=>obtain⟨_,_,_,e,_⟩:=x;exact y9 e
 | own y=>obtain⟨_,e⟩:=x;exact y9 e
 | xd fs=>obtain⟨_,⟨_,_,_,e,_⟩,_⟩:=x;exact y9 e
 | rng lo hi=>obtain⟨_,_,_,e⟩:=x;exact y9 e
 | frz ob u=>obtain⟨e,_⟩:=x;exact y9 e
 | tbl ps=>exact y9 (show h.get? a=some _ from x)
 | met f y=>exact y9 (show h.get? a=some _ from x)
 | ext φ=>obtain⟨_,⟨_,e⟩,_⟩:=x;exact y9 e
theorem Paired.mapP {α β:Type}{F G:α->β->Prop}:∀{l₁:List α}{l₂:List β},Paired F l₁ l₂->(∀a b,F a b->G a b)->Paired G l₁ l₂
 | _,_,.nil,_=>.nil
 | _,_,.cons r t,f=>.cons (f _ _ r) (Paired.mapP t f)
def ObjOk.stay (x:ObjOk P w H h a o) (k:∀b u,(b=a\/H b=some (.own a))->h.get? b=some u->h'.get? b=some u)
 (ho:∀b,H b=some (.own a)->H' b=some (.own a)) (ht:∀b xs,H b=some (.tup xs)->H' b=some (.tup xs)):ObjOk P w H' h' a o:=by
 induction o with
 | lst xs=>obtain⟨z,its,n,r,e⟩:=x;exact⟨z,its,n,r,k _ _ (.inl rfl) e⟩
 | tup xs=>obtain⟨z,its,r,ob,e,c⟩:=x;exact⟨z,its,r,ob,k _ _ (.inl rfl) e,c⟩
 | dK kvs=>obtain⟨z,y,vs,r,ob,es,ep,e,c⟩:=x;exact⟨z,y,vs,r,ob,es,ep,k _ _ (.inl rfl) e,c⟩
 | dT kvs =>
  obtain⟨z,y,xs,r,ob,es,ep,e,c⟩:=x
  exact⟨z,y,xs,Paired.mapP r λp q z=>⟨z.1,ht _ _ z.2.1,z.2.2⟩,ob,es,ep,k _ _ (.inl rfl) e,c⟩
 | set S n=>obtain⟨ob,es,ep,t,e,c⟩:=x;exact⟨ob,es,ep,t,k _ _ (.inl rfl) e,c⟩
 | ins C dx fs =>
  obtain⟨d,z,ne,e,mA,⟨od,es,ep,e2,c⟩,r⟩:=x
  exact⟨ho _ d,z,ne,k _ _ (.inl rfl) e,mA,⟨od,es,ep,k _ _ (.inr d) e2,c⟩,r⟩
 | own y=>obtain⟨ob,e⟩:=x;exact⟨ob,k _ _ (.inl rfl) e⟩
 | xd fs=>obtain⟨mA,⟨od,es,ep,e,c⟩,r⟩:=x;exact⟨mA,⟨od,es,ep,k _ _ (.inl rfl) e,c⟩,r⟩
 | rng lo hi=>obtain⟨t,u,v,e⟩:=x;exact⟨t,u,v,k _ _ (.inl rfl) e⟩
 | frz ob u ih=>obtain⟨e,q⟩:=x;exact⟨k _ _ (.inl rfl) e,ih q⟩
 | tbl ps =>
  have e:h.get? a=some { cls:=.none,data:=.fields ps }:=x
  show h'.get? a=some { cls:=.none,data:=.fields ps }
  exact k a _ (.inl rfl) e
 | met f y =>
  have e:h.get? a=some (W.methodObj (.ref f) (.ref y)):=x
  show h'.get? a=some (W.methodObj (.ref f) (.ref y))
  exact k a _ (.inl rfl) e
 | ext φ=>obtain⟨p,⟨o,e⟩,st⟩:=x;exact⟨st _ _ p λo q=>k _ _ (.inl rfl) q,⟨o,k _ _ (.inl rfl) e⟩,st⟩
theorem HOk.lt (x:HOk P w H h) (e:H a=some o):a<h.objs.size:=(x a o e).lt
def HOk.fresh (x:HOk P w H h) (e:h.objs.size<=a):H a=none:=by
 cases q:H a with
 | none=>rfl
 | some u=>exact absurd (w9 (x.lt q) e) (z0G _)
def HOk.kept (x:HOk P w H h) (k:∀b u,h.get? b=some u->h'.get? b=some u):HOk P w H h':=λa o e =>
 (x a o e).stay (λb u _ q=>k b u q) (λ_ q=>q) λ_ _ q=>q
def HOk.laid (x:HOk P w H h) (k:∀b u,h.get? b=some u->h'.get? b=some u) (hp:h.objs.size<=a) (new:ObjOk P w (upd H a o) h' a o):HOk P w (upd H a o) h':=λb u e=>by
 have hn:=x.fresh hp
 by_cases hb:b=a
 ·subst hb;rw[u0j] at e;cases e;exact new
 ·rw [u0o hb] at e
  exact(x b u e).stay (λc v _ q=>k c v q) (λc q=>by rw[u0o (u0y q hn)];exact q) λc xs q=>by rw[u0o (u0y q hn)];exact q
end
def Rd (H:Hp) (a:Addr) (u:HO):Prop:=H a=some u\/∃o,H a=some (.frz o u)
def Rd.ok (r:Rd H a u) (x:HOk P w H h):ObjOk P w H h a u:=by
 rcases r with r|⟨o,r⟩
 ·exact x a u r
 ·obtain ⟨_,q⟩:=x a _ r
  exact q
def Mut:Option HO->Prop
 | some (.lst _)=>True
 | some (.dK _)=>True
 | some (.dT _)=>True
 | some (.set _ _)=>True
 | some (.ins _ _ _)=>True
 | some (.ext _)=>True
 | _=>False
section
variable {P:Program}{w:World}{H:Hp}{h h':Heap}{x e:Addr}{o':HO}
def HOk.write (ok:HOk P w H h) (mu:Mut (H x)) (he:e=x\/H e=some (.own x)) (k:∀b u,b≠e->h.get? b=some u->h'.get? b=some u) (heo:∃u,h'.get? e=some u)
 (new:ObjOk P w (upd H x o') h' x o'):HOk P w (upd H x o') h':=λb u q=>by
 have nown:∀c y,H c=some (.own y)->c≠x:=λc y r z=>by subst z;rw[r] at mu;exact mu
 have ntup:∀c xs,H c=some (.tup xs)->c≠x:=λc xs r z=>by subst z;rw[r] at mu;exact mu
 by_cases hb:b=x
 ·subst hb;rw[u0j] at q;cases q;exact new
 ·rw [u0o hb] at q
  by_cases hbe:b=e
  ·have q':H b=some (.own x):=by
    rcases he with z|z
    ·exact absurd (hbe.trans z) hb
    ·rw[hbe];exact z
   rw[q] at q';cases q'
   obtain⟨v,hv⟩:=heo
   exact⟨v,by rw[hbe];exact hv⟩
  ·refine (ok b u q).stay (fun c v hc r=>k c v ?_ r) (fun c r=>by rw [u0o (nown c b r)];exact r) fun c xs r=>by rw [u0o (ntup c xs r)];exact r
   rcases hc with rfl|hc
   ·exact hbe
   ·rintro rfl
    rcases he with z|z
    ·exact nown c b hc z
    ·rw[hc] at z;cases z;exact hb rfl
end
structure Un (fs ex:List Addr) (H H':Hp) (h h':Heap):Prop where
 keep:∀b o,h.get? b=some o->H b=none->b∉fs->b∉ex->h'.get? b=some o
 slot:∀b o,h.get? b=some o->H b=none->b∈fs->b∉ex->∃sl,h'.get? b=some { o with slots:=sl }
 free:∀b o,h.get? b=some o->H b=none->b∉ex->H' b=none
 there:∀b o,h.get? b=some o->b∉ex->∃o',h'.get? b=some o'
 tups:∀b xs,H b=some (.tup xs)->H' b=some (.tup xs)
 frzs:∀b o u,H b=some (.frz o u)->H' b=some (.frz o u)
 tbls:∀b ps,H b=some (.tbl ps)->∃more,H' b=some (.tbl (ps++more))
section
variable {fs fs' ex ex':List Addr}{H H1 H2:Hp}{h h1 h2 h':Heap}{a x e:Addr}{o:HO}
def Un.any (u:Un fs ex H H1 h h1) (q:h.get? b=some ob) (n:H b=none) (hx:b∉ex):∃sl,h1.get? b=some { ob with slots:=sl }:=by
 by_cases hb:b∈fs
 ·exact u.slot b ob q n hb hx
 ·exact⟨ob.slots,u.keep b ob q n hb hx⟩
def Un.kept (k:∀b u,h.get? b=some u->h'.get? b=some u):Un fs ex H H h h' :=
 ⟨λb ob q _ _ _=>k b ob q,λb ob q _ _ _=>⟨ob.slots,k b ob q⟩,λ_ _ _ n _=>n,λb ob q _=>⟨ob,k b ob q⟩,λ_ _ q=>q,λ_ _ _ q=>q,λ_ ps q=>⟨#[],by rw[q];simp⟩⟩
def Un.refl:Un fs ex H H h h:=Un.kept λ_ _ q=>q
def Un.laid (k:∀b u,h.get? b=some u->h'.get? b=some u) (hp:h.objs.size<=a) (hn:H a=none):Un fs ex H (upd H a o) h h' where
 keep:=λb u q _ _ _=>k b u q
 slot:=λb u q _ _ _=>⟨u.slots,k b u q⟩
 free:=λb u q n _=>by rw[u0o (v9 (w9 (y9 q) hp))];exact n
 there:=λb u q _=>⟨u,k b u q⟩
 tups:=λb xs q=>by rw[u0o (u0y q hn)];exact q
 frzs:=λb u xs q=>by rw[u0o (u0y q hn)];exact q
 tbls:=λb ps q=>⟨#[],by rw[u0o (u0y q hn),q];simp⟩
def Un.write (mu:Mut (H x)) (he:e=x\/H e=some (.own x)) (k:∀b u,b≠e->h.get? b=some u->h'.get? b=some u) (heo:∃u,h'.get? e=some u):Un fs ex H (upd H x o) h h':=by
 have hx:∀b,H b=none->b≠x:=λb n z=>by subst z;rw[n] at mu;exact mu
 have hb:∀b,H b=none->b≠e:=λb n z=>by
  subst z
  rcases he with r|r
  ·exact hx b n r
  ·rw[n] at r;cases r
 have hm:∀b u,H b=some u->¬ Mut (some u)->b≠x:=λb u q nm z=>by subst z;rw[q] at mu;exact nm mu
 refine⟨λb u q n _ _=>k b u (hb b n) q,λb u q n _ _=>⟨u.slots,k b u (hb b n) q⟩,λb u q n _=>by rw[u0o (hx b n)];exact n,λb u q _=>?_,
  λb xs q=>by rw[u0o (hm b _ q λz=>z)];exact q,λb u xs q=>by rw[u0o (hm b _ q λz=>z)];exact q,λb ps q=>⟨#[],by rw[u0o (hm b _ q λz=>z),q];simp⟩⟩
 by_cases hbe:b=e
 ·subst hbe;exact heo
 ·exact⟨u,k b u hbe q⟩
end
noncomputable def trk (h:Heap) (H:Hp):List Addr:=(List.range h.objs.size).filter λa=>(H a).isSome
noncomputable def hidT (h:Heap) (H:Hp):Heap:=W.hideAll h (trk h H)
def v2D (h:Heap) (H:Hp):(hidT h H).objs.size=h.objs.size:=W.hideAll_size _ _
def v3X (e:h.get? b=some o) (n:H b=none):(hidT h H).get? b=some o :=
 W.hideAll_get _ e λhm=>by
  have q:(H b).isSome=true:=(List.mem_filter.mp hm).2
  rw[n] at q;simp at q
def of_hidT (e:(hidT h H).get? b=some o):h.get? b=some o/\H b=none:=by
 have e':h.get? b=some o:=W.of_hideAll (trk h H) e
 refine⟨e',?_⟩
 cases q:H b with
 | none=>rfl
 | some x =>
  have hm:b∈trk h H:=List.mem_filter.mpr ⟨List.mem_range.mpr (y9 e'),by simp[q]⟩
  have z:(hidT h H).get? b=none:=W.hideAll_none (trk h H) hm
  rw[z] at e;cases e
structure Mod (K:W.Frag) (mg:MG) (base:Heap):Prop where
 kin:K.In base
 glob:base.Ns mainGlobals mg
 blt:∃mb,base.Ns builtinsNs mb/\∀x:Str,x≠"__name__"->mb x=bootBuiltins x
 nolimit:base.NoLimit
structure Cx where
 prog:Program
 w:World
 K:W.Frag
 mg:Str->Option Value
 base:Heap
 A:Around
 N:List Str
 s₀:Shared
 H₀:Hp
 env:Env
 outer:List Env
 stack:List Env
 ex:List Addr
 fn:Str->Bool
 calm:Bool
 pn:LO
 xe:Value->Shared->Prop
noncomputable def frs (l:List Env):List Addr:=l.filterMap (·.frame)
noncomputable abbrev Cx.fs (X:Cx):List Addr:=frs X.outer
def Vis (sc:Scope) (x:Str):Prop:=sc.names.lookup x=some .local\/sc.names.lookup x=some .cell\/sc.names.lookup x=some .free
def Loc (sc:Scope) (x:Str):Prop:=sc.names.lookup x=some .local\/sc.names.lookup x=some .cell
def Look (env:Env) (h:Heap) (m:MG) (x:Str) (u:Value):Prop :=
 (env.kindOf x=some .local/\m x=some u)\/((env.kindOf x=some .cell\/env.kindOf x=some .free)/\∃c,env.cells.lookup x=some c/\h.IsCell c (some u))
structure Cx.Ok (X:Cx):Prop where
 mod:Mod X.K X.mg X.base
 kind:X.env.scope.kind=.function
 glob:X.env.globals=mainGlobals
 blt:X.env.builtins=builtinsNs
 above:X.s₀.heap.objs.size<=X.env.locals
 inj:∀x y c,X.env.cells.lookup x=some c->X.env.cells.lookup y=some c->x=y
 has:∀x,(X.env.kindOf x=some .cell\/X.env.kindOf x=some .free)->∃c,X.env.cells.lookup x=some c
 cab:∀x c,X.fn x=true->X.env.cells.lookup x=some c->X.s₀.heap.objs.size<=c
 hd:X.calm=true->X.A.handled=none
 frames:X.A.frames=some X.stack
 stk:X.stack=X.outer\/(X.stack=X.env::X.outer/\X.env.frame=some X.env.locals)
 exf:∀b∈X.ex,b≠X.env.locals/\∀x c,X.env.cells.lookup x=some c->c≠b
 bs:∀b o,X.base.get? b=some o->X.s₀.heap.get? b=some o/\X.H₀ b=none
 bsz:X.base.objs.size<=X.s₀.heap.objs.size
 noex:∀b o,X.base.get? b=some o->b∉X.ex
 exfs:∀b∈X.ex,b∉X.fs
 funs:X.s₀.heap.FunFrames X.base X.outer
 frf:∀b∈X.fs,X.H₀ b=none
structure Inv (X:Cx) (pins:LO) (σ:List (Option V)) (H:Hp) (s:Shared):Prop where
 ok:X.Ok
 os:s.os=X.s₀.os
 bare:AllBare s.gens
 base:Un X.fs X.ex X.H₀ H X.s₀.heap s.heap
 loc:∃m,s.heap.Ns X.env.locals m/\∀(i:Nat) (x:Str) (v:V),X.N[i]?=some x->σ[i]?=some (some v)->Vis X.env.scope x->∃u,RelV v u/\Look X.env s.heap m x u
 cell:∀x c,X.env.cells.lookup x=some c->∃v,s.heap.IsCell c v
 free:H X.env.locals=none
 freeC:∀x c,X.env.cells.lookup x=some c->H c=none
 pin:∀p∈X.pn++pins,s.heap.get? p.1=some p.2/\H p.1=none/\p.1≠X.env.locals/\p.1∉X.fs/\∀v,p.2.data≠.cell v
 hok:HOk X.prog X.w H s.heap
 len:σ.length=X.N.length
section
variable {X:Cx}{pins:LO}{σ:List (Option V)}{H H':Hp}{s:Shared}{h':Heap}
def Cx.Ok.nofr (ok:X.Ok) (e:X.base.get? b=some o):b∉X.fs:=λhb=>by
 have:=(ok.funs.mem hb).1
 rw[e] at this;cases this
theorem Inv.bs (I:Inv X pins σ H s):∀b o,X.base.get? b=some o->s.heap.get? b=some o/\H b=none:=λb o e =>
 ⟨I.base.keep b o (I.ok.bs b o e).1 (I.ok.bs b o e).2 (I.ok.nofr e) (I.ok.noex b o e),I.base.free b o (I.ok.bs b o e).1 (I.ok.bs b o e).2 (I.ok.noex b o e)⟩
def Inv.bk (I:Inv X pins σ H s):∀b o,X.base.get? b=some o->s.heap.get? b=some o:=λb o e=>(I.bs b o e).1
theorem Inv.mod (I:Inv X pins σ H s):Mod X.K X.mg X.base:=I.ok.mod
def Inv.kIn (I:Inv X pins σ H s):X.K.In s.heap:=I.ok.mod.kin.keeps I.bk
def Inv.fr (I:Inv X pins σ H s):∃m,Fr X.base X.env.locals s.heap m :=
 let ⟨m,hn,_⟩:=I.loc
 ⟨m,hn,I.bk,v5 I.ok.bsz I.ok.above⟩
theorem Inv.lt (I:Inv X pins σ H s):X.env.locals<s.heap.objs.size:=by obtain⟨_,hn,_⟩:=I.loc;exact hn.lt
def Inv.sz (I:Inv X pins σ H s):X.s₀.heap.objs.size<=s.heap.objs.size:=v5 I.ok.above (Nat.le_of_lt I.lt)
def Inv.nofs (I:Inv X pins σ H s) (h:s.heap.objs.size<=a):a∉X.fs:=λhb=>by
 obtain⟨_,o,ho,_⟩:=I.ok.funs.mem hb
 exact absurd (w9 (y9 ho) (v5 I.sz h)) (z0G _)
def Inv.cne (I:Inv X pins σ H s):∀x c,X.env.cells.lookup x=some c->c≠X.env.locals:=λx c e z=>by
 obtain⟨v,o,ho,hd⟩:=I.cell x c e
 obtain⟨m,⟨o',es,ep,ho',hd',_⟩,_⟩:=I.loc
 rw[z,ho'] at ho;cases ho;rw[hd'] at hd;cases hd
theorem Inv.funs (I:Inv X pins σ H s):s.heap.FunFrames X.base X.outer:=by
 have all:∀(l:List Env),(∀b∈frs l,b∈X.fs)->X.s₀.heap.FunFrames X.base l->s.heap.FunFrames X.base l:=by
  intro l
  induction l with
  | nil=>intro _ _;trivial
  | cons env r ih =>
   intro hs hl
   obtain⟨hk,⟨L,o,hf,hn,ho,hd⟩,hr⟩:=hl
   have hL:L∈X.fs:=hs L (by unfold frs;rw[List.filterMap_cons,hf];exact z6)
   obtain⟨sl,e⟩:=I.base.slot L o ho (I.ok.frf L hL) hL λz=>I.ok.exfs L z hL
   exact⟨hk,⟨L,_,hf,hn,e,hd⟩,ih (λb hb=>hs b (by unfold frs;rw[List.filterMap_cons,hf];exact z0 _ hb)) hr⟩
 exact all X.outer (λ_ hb=>hb) I.ok.funs
theorem Inv.stack (I:Inv X pins σ H s):s.heap.FunFrames X.base X.stack:=by
 rcases I.ok.stk with e|⟨e,hf⟩
 ·rw[e];exact I.funs
 ·rw [e]
  obtain⟨m,hn,_⟩:=I.loc
  refine .cons (by rw[I.ok.kind];decide) hf hn ?_ I.funs
  exact Heap.get?_none_of_le (v5 I.ok.bsz I.ok.above)
def Inv.stkSub (I:Inv X pins σ H s):∀b∈frs X.stack,b∈X.env.locals::X.fs:=λb hb=>by
 rcases I.ok.stk with e|⟨e,hf⟩
 ·rw[e] at hb;exact z0 _ hb
 ·rw [e] at hb
  unfold frs at hb
  rw[List.filterMap_cons,hf] at hb
  exact hb
def Inv.stkFree (I:Inv X pins σ H s):∀b∈frs X.stack,H b=none:=λb hb=>by
 rcases z8.mp (I.stkSub b hb) with e|hb
 ·rw[e];exact I.free
 ·obtain ⟨_,o,ho,_⟩:=I.ok.funs.mem hb
  exact I.base.free b o ho (I.ok.frf b hb) λz=>I.ok.exfs b z hb
def Inv.step {g':Array GenState}{t':Nat}{d':Drawn}{ch:List Addr} (I:Inv X pins σ H s)
  (hch:∀b∈ch,(b∈X.ex\/X.s₀.heap.objs.size<=b)/\b≠X.env.locals/\(∀x c,X.env.cells.lookup x=some c->c≠b)/\∀p∈X.pn++pins,p.1≠b)
  (keep:∀b o,b≠X.env.locals->b∉X.fs->b∉ch->s.heap.get? b=some o->H b=none->h'.get? b=some o)
  (slot:∀b o,b≠X.env.locals->b∈X.fs->b∉ch->s.heap.get? b=some o->H b=none->∃sl,h'.get? b=some { o with slots:=sl }) (free:∀b o,b∉ch->s.heap.get? b=some o->H b=none->H' b=none)
  (there:∀b o,b∉ch->s.heap.get? b=some o->∃o',h'.get? b=some o')
  (tups:∀b xs,H b=some (.tup xs)->H' b=some (.tup xs)) (frzs:∀b o u,H b=some (.frz o u)->H' b=some (.frz o u)) (tbls:∀b ps,H b=some (.tbl ps)->∃more,H' b=some (.tbl (ps++more)))
  (ns:∀m,s.heap.Ns X.env.locals m->h'.Ns X.env.locals m) (hok:HOk X.prog X.w H' h') (hg:AllBare g') :
  Inv X pins σ H' { s with heap:=h',gens:=g',drawn:=d',toks:=t' }:=by
 have neL:∀b o,X.s₀.heap.get? b=some o->b≠X.env.locals:=λb o e=>v9 (w9 (y9 e) I.ok.above)
 have neC:∀b o,X.s₀.heap.get? b=some o->b∉X.ex->b∉ch:=λb o e hx hb=>by
  rcases(hch b hb).1 with z|z
  ·exact hx z
  ·exact absurd (w9 (y9 e) z) (z0G _)
 have cellK:∀x c,X.env.cells.lookup x=some c->∀v,s.heap.IsCell c v->h'.IsCell c v:=λx c e v ⟨o,ho,hd⟩=>by
  have nch:c∉ch:=λz=>(hch c z).2.2.1 x c e rfl
  by_cases hc:c∈X.fs
  ·obtain ⟨sl,q⟩:=slot c o (I.cne x c e) hc nch ho (I.freeC x c e)
   exact⟨_,q,hd⟩
  ·exact⟨o,keep c o (I.cne x c e) hc nch ho (I.freeC x c e),hd⟩
 refine⟨I.ok,I.os,hg,⟨λb o e n hb hx=>?_,λb o e n hb hx=>?_,λb o e n hx=>?_,λb o e hx=>?_,λb xs e=>tups b xs (I.base.tups b xs e),λb o xs e=>frzs b o xs (I.base.frzs b o xs e),λb ps e=>?_⟩,?_,λx c e=>?_,?_,λx c e=>?_,λp hp=>?_,hok,I.len⟩
 ·exact keep b o (neL b o e) hb (neC b o e hx) (I.base.keep b o e n hb hx) (I.base.free b o e n hx)
 ·obtain ⟨sl,e1⟩:=I.base.slot b o e n hb hx
  obtain⟨sl',e2⟩:=slot b _ (neL b o e) hb (neC b o e hx) e1 (I.base.free b o e n hx)
  exact⟨sl',e2⟩
 ·obtain ⟨o',e1⟩:=I.base.there b o e hx
  exact free b o' (neC b o e hx) e1 (I.base.free b o e n hx)
 ·obtain ⟨o',e1⟩:=I.base.there b o e hx
  exact there b o' (neC b o e hx) e1
 ·obtain ⟨m1,e1⟩:=I.base.tbls b ps e
  obtain⟨m2,e2⟩:=tbls b _ e1
  exact⟨m1++m2,by rw[e2,Array.append_assoc]⟩
 ·obtain ⟨m,hn,hl⟩:=I.loc
  refine⟨m,ns m hn,λi x v e1 e2 e3=>?_⟩
  obtain⟨u,r,l⟩:=hl i x v e1 e2 e3
  refine⟨u,r,?_⟩
  rcases l with l|⟨k,c,e,z⟩
  ·exact .inl l
  ·exact .inr ⟨k,c,e,cellK x c e _ z⟩
 ·obtain ⟨v,z⟩:=I.cell x c e
  exact⟨v,cellK x c e v z⟩
 ·obtain ⟨m,⟨o,_,_,ho,_⟩,_⟩:=I.loc
  exact free _ o (λz=>(hch _ z).2.1 rfl) ho I.free
 ·obtain ⟨v,o,ho,hd⟩:=I.cell x c e
  exact free c o (λz=>(hch c z).2.2.1 x c e rfl) ho (I.freeC x c e)
 ·obtain ⟨e,n,ne,nf,d⟩:=I.pin p hp
  have nch:p.1∉ch:=λz=>(hch p.1 z).2.2.2 p hp rfl
  exact⟨keep p.1 p.2 ne nf nch e n,free p.1 p.2 nch e n,ne,nf,d⟩
def Inv.un {t':Nat} (I:Inv X pins σ H s) (u:Un X.fs [] H H' s.heap h') (hok:HOk X.prog X.w H' h'):Inv X pins σ H' { s with heap:=h',toks:=t' }:=by
 obtain⟨m,⟨o,es,ep,ho,r⟩,_⟩:=id I.loc
 obtain⟨sl,hL⟩:=u.any ho I.free (by simp)
 exact I.step (g':=s.gens) (d':=s.drawn) (ch:=[]) (λ_ z=>nomatch z) (λb o _ hb _ e n=>u.keep b o e n hb (by simp)) (λb o _ hb _ e n=>u.slot b o e n hb (by simp)) (λb o _ e n=>u.free b o e n (by simp)) (λb o _ e=>u.there b o e (by simp)) u.tups u.frzs u.tbls (λm' hm=>by
  obtain⟨o',es',ep',ho',r'⟩:=hm
  rw[ho] at ho';cases ho'
  exact⟨_,es',ep',hL,r'⟩) hok I.bare
def Inv.call {g':Array GenState}{t':Nat}{d':Drawn}{ch:List Addr} (I:Inv X pins σ H s) (u:Un (frs X.stack) ch H H' s.heap h') (hok:HOk X.prog X.w H' h') (hg:AllBare g')
  (hch:∀b∈ch,(b∈X.ex\/X.s₀.heap.objs.size<=b)/\b≠X.env.locals/\(∀x c,X.env.cells.lookup x=some c->c≠b)/\∀p∈X.pn++pins,p.1≠b) :
  Inv X pins σ H' { s with heap:=h',gens:=g',drawn:=d',toks:=t' }:=by
 obtain⟨m,⟨o,es,ep,ho,r⟩,_⟩:=id I.loc
 obtain⟨sl,hL⟩:=u.any ho I.free λz=>(hch _ z).2.1 rfl
 exact I.step (ch:=ch) hch (λb o hL hb hc e n=>u.keep b o e n (λz=>(z8.mp (I.stkSub b z)).elim hL hb) hc) (λb o _ _ hc e n=>u.any e n hc) (λb o hc e n=>u.free b o e n hc) (λb o hc e=>u.there b o e hc) u.tups u.frzs u.tbls (λm' hm=>by
  obtain⟨o',es',ep',ho',r'⟩:=hm
  rw[ho] at ho';cases ho'
  exact⟨_,es',ep',hL,r'⟩) hok hg
def Inv.turned {t':Nat}{it:Addr} (I:Inv X pins σ H s) (k:∀b o,b≠it->s.heap.get? b=some o->h'.get? b=some o) (hn:H it=none) (hL:it≠X.env.locals)
  (h1:it∈X.ex\/X.s₀.heap.objs.size<=it) (h2:∀x c,X.env.cells.lookup x=some c->c≠it) (h3:∀p∈X.pn++pins,p.1≠it):Inv X pins σ H { s with heap:=h',toks:=t' }:=by
 have nit:∀b u,H b=some u->b≠it:=λb u e z=>by rw[z,hn] at e;cases e
 refine I.step (g':=s.gens) (d':=s.drawn) (ch:=[it]) (λb hb=>?_) (λb o _ _ hc e _=>k b o (λz=>hc (by simp[z])) e) (λb o _ _ hc e _=>⟨o.slots,k b o (λz=>hc (by simp[z])) e⟩) (λ_ _ _ _ n=>n)
  (λb o hc e=>⟨o,k b o (λz=>hc (by simp[z])) e⟩) (λ_ _ e=>e) (λ_ _ _ e=>e) (λb ps e=>⟨#[],by rw[e];simp⟩) (λm hm=>?_) (λb u e=>?_) I.bare
 ·have e:b=it:=by simpa using hb
  subst e
  exact⟨h1,hL,h2,h3⟩
 ·obtain ⟨o,es,ep,ho,r⟩:=hm
  exact⟨o,es,ep,k _ o (Ne.symm hL) ho,r⟩
 ·refine (I.hok b u e).stay (fun c v hc q=>k c v ?_ q) (fun _ q=>q) fun _ _ q=>q
  rcases hc with z|z
  ·rw[z];exact nit b u e
  ·exact nit c _ z
def Inv.tok (I:Inv X pins σ H s) (t:Nat):Inv X pins σ H { s with toks:=t }:=I.un (h':=s.heap) (t':=t) Un.refl I.hok
theorem Inv.kept (I:Inv X pins σ H s) (k:∀b u,s.heap.get? b=some u->h'.get? b=some u):Inv X pins σ H { s with heap:=h',toks:=t' }:=I.un (Un.kept k) (I.hok.kept k)
theorem Inv.laid (I:Inv X pins σ H s) (k:∀b u,s.heap.get? b=some u->h'.get? b=some u) (hp:s.heap.objs.size<=a) (new:ObjOk X.prog X.w (upd H a o) h' a o) :
 Inv X pins σ (upd H a o) { s with heap:=h',toks:=t' }:=I.un (Un.laid k hp (I.hok.fresh hp)) (I.hok.laid k hp new)
theorem Inv.write (I:Inv X pins σ H s) (mu:Mut (H x)) (he:e=x\/H e=some (.own x)) (k:∀b u,b≠e->s.heap.get? b=some u->h'.get? b=some u) (heo:∃u,h'.get? e=some u)
 (new:ObjOk X.prog X.w (upd H x o) h' x o):Inv X pins σ (upd H x o) { s with heap:=h',toks:=t' }:=I.un (Un.write mu he k heo) (I.hok.write mu he k heo new)
def Inv.weak (I:Inv X pins σ H s) (hl:σ'.length=σ.length) (w:∀(i:Nat) v,σ'[i]?=some (some v)->σ[i]?=some (some v)):Inv X pins σ' H s :=
 ⟨I.ok,I.os,I.bare,I.base,by obtain⟨m,hn,hl'⟩:=I.loc;exact⟨m,hn,λi x v e1 e2 e3=>hl' i x v e1 (w i v e2) e3⟩,I.cell,I.free,I.freeC,I.pin,I.hok,hl.trans I.len⟩
def Inv.pins_of (I:Inv X pins σ H s) (h:∀p∈pins',s.heap.get? p.1=some p.2/\H p.1=none/\p.1≠X.env.locals/\p.1∉X.fs/\∀v,p.2.data≠.cell v):Inv X pins' σ H s :=
 ⟨I.ok,I.os,I.bare,I.base,I.loc,I.cell,I.free,I.freeC,λp hp=>(x9.mp hp).elim (λz=>I.pin p (z1I _ z)) (h p),I.hok,I.len⟩
def u6Y {N:List Str} (hN:N.Nodup) {i j:Nat}{x:Str} (a:N[i]?=some x) (b:N[j]?=some x):i=j:=by
 obtain⟨h1,e1⟩:=u7.mp a
 obtain⟨h2,e2⟩:=u7.mp b
 exact(List.getElem_inj hN).mp (e1.trans e2.symm)
def u7z {M:Model}{A:Around}{E:VP}{i:Nat}{x:Str}{v:V}{u:Value}{Q:Unit->Shared->Prop} (I:Inv X pins σ H s) (hN:X.N.Nodup) (hi:X.N[i]?=some x) (hx:Loc X.env.scope x) (r:RelV v u)
  (h:∀s',Inv X pins (σ.set i (some v)) H s'->(∃a,Heap.SameBut a s.heap s'.heap/\(a=X.env.locals\/X.env.cells.lookup x=some a))->Q () s') (hf:X.fn x=true\/X.env.scope.names.lookup x=some .local:=by first|exact .inl rfl|exact .inr rfl|assumption):wpAny M A (storeName X.env x u) Q E s:=by
 obtain⟨m,hn,hl⟩:=id I.loc
 have hcls:(X.env.scope.kind==.class||(X.env.scope.kind==.module&&X.env.locals != X.env.globals))=false:=by rw[I.ok.kind];rfl
 have hiσ:i<σ.length:=by rw[I.len];exact(u7.mp hi).1
 have cne:=I.cne
 have tracked:∀{a:Addr}{h':Heap},(∃o,s.heap.get? a=some o/\H a=none)->Heap.SameBut a s.heap h'->HOk X.prog X.w H h':=λ{a h'} ha hs b ob e=>by
  obtain⟨_,_,hfree⟩:=ha
  refine(I.hok b ob e).stay (λc w' hc q=>(hs.2 c ?_).trans q) (λ_ q=>q) λ_ _ q=>q
  rintro rfl
  rcases hc with rfl|hc
  ·rw[hfree] at e;cases e
  ·rw[hfree] at hc;cases hc
 rcases hx with hk|hk
 ·refine wpAny_storeName_local hk hn (fun h' hn' hs=>?_) hcls
  obtain⟨oL,_,_,hoL,_⟩:=id hn
  refine h _ ⟨I.ok,I.os,I.bare,⟨λb o e n hb hx=>?_,λb o e n hb hx=>?_,I.base.free,λb o e hx=>?_,I.base.tups,I.base.frzs,I.base.tbls⟩,⟨_,hn',λj y v' e1 e2 e3=>?_⟩,λy c e=>?_,I.free,I.freeC,λp hp=>?_,tracked ⟨oL,hoL,I.free⟩ hs,by simpa using I.len⟩ ⟨_,hs,.inl rfl⟩
  ·exact(hs.2 b (v9 (w9 (y9 e) I.ok.above))).trans (I.base.keep b o e n hb hx)
  ·obtain ⟨sl,e1⟩:=I.base.slot b o e n hb hx
   exact⟨sl,(hs.2 b (v9 (w9 (y9 e) I.ok.above))).trans e1⟩
  ·obtain ⟨o',e1⟩:=I.base.there b o e hx
   exact⟨o',(hs.2 b (v9 (w9 (y9 e) I.ok.above))).trans e1⟩
  ·by_cases hj:j=i
   ·subst hj
    rw[hi] at e1;cases e1
    rw[z2A hiσ] at e2
    cases e2
    exact⟨u,r,.inl ⟨hk,by simp⟩⟩
   ·rw [z0C (Ne.symm hj)] at e2
    obtain⟨u',r',q⟩:=hl j y v' e1 e2 e3
    refine⟨u',r',?_⟩
    rcases q with⟨k,e⟩|⟨k,c,e,z⟩
    ·refine .inl ⟨k,?_⟩
     have:y≠x:=λe=>hj (u6Y hN e1 (e ▸ hi))
     simp[this,e]
    ·exact .inr ⟨k,c,e,z.sameBut hs (cne y c e)⟩
  ·obtain ⟨w',z⟩:=I.cell y c e
   exact⟨w',z.sameBut hs (cne y c e)⟩
  ·obtain ⟨e,n,ne,nf,d⟩:=I.pin p hp
   exact⟨(hs.2 p.1 ne).trans e,n,ne,nf,d⟩
 ·have hfn:X.fn x=true:=by
   rcases hf with z|z
   ·exact z
   ·rw[z] at hk;cases hk
  obtain⟨c,hc⟩:=I.ok.has x (.inl hk)
  obtain⟨w',z⟩:=I.cell x c hc
  refine wpAny_storeName_cell I.ok.kind hk hc z (λh' hc' hs=>?_)
  obtain⟨oc,hoc,hocd⟩:=id z
  refine h { s with heap:=h' } ⟨I.ok,I.os,I.bare,⟨λb o e n hb hx=>?_,λb o e n hb hx=>?_,I.base.free,λb o e hx=>?_,I.base.tups,I.base.frzs,I.base.tbls⟩,⟨m,hn.sameBut hs (Ne.symm (cne x c hc)),λj y v' e1 e2 e3=>?_⟩,λy c' e=>?_,I.free,I.freeC,λp hp=>?_,tracked ⟨oc,hoc,I.freeC x c hc⟩ hs,by simpa using I.len⟩ ⟨c,hs,.inr hc⟩
  ·exact(hs.2 b (v9 (w9 (y9 e) (I.ok.cab x c hfn hc)))).trans (I.base.keep b o e n hb hx)
  ·obtain ⟨sl,e1⟩:=I.base.slot b o e n hb hx
   exact⟨sl,(hs.2 b (v9 (w9 (y9 e) (I.ok.cab x c hfn hc)))).trans e1⟩
  ·obtain ⟨o',e1⟩:=I.base.there b o e hx
   exact⟨o',(hs.2 b (v9 (w9 (y9 e) (I.ok.cab x c hfn hc)))).trans e1⟩
  ·by_cases hj:j=i
   ·subst hj
    rw[hi] at e1;cases e1
    rw[z2A hiσ] at e2
    cases e2
    exact⟨u,r,.inr ⟨.inl hk,c,hc,hc'⟩⟩
   ·rw [z0C (Ne.symm hj)] at e2
    obtain⟨u',r',q⟩:=hl j y v' e1 e2 e3
    refine⟨u',r',?_⟩
    rcases q with q|⟨k,c',e,z'⟩
    ·exact .inl q
    ·refine .inr ⟨k,c',e,z'.sameBut hs ?_⟩
     rintro rfl
     exact hj (u6Y hN e1 (I.ok.inj _ _ _ e hc ▸ hi))
  ·by_cases hcc:c'=c
   ·subst hcc;exact⟨_,hc'⟩
   ·obtain ⟨w2,z2⟩:=I.cell y c' e
    exact⟨w2,z2.sameBut hs hcc⟩
  ·obtain ⟨e,n,ne,nf,d⟩:=I.pin p hp
   refine⟨(hs.2 p.1 ?_).trans e,n,ne,nf,d⟩
   intro q
   rw[q,hoc] at e
   have q':oc=p.2:=Option.some.inj e
   exact d w' (by rw[<- q'];exact hocd)
def u4Q (I:Inv X pins σ H s) (hN:X.N.Nodup) (hi:X.N[i]?=some x) (hx:Loc X.env.scope x) (r:RelV v u)
 (h:∀s',Inv X pins (σ.set i (some v)) H s'->Q () s') (hf:X.fn x=true\/X.env.scope.names.lookup x=some .local:=by first|exact .inl rfl|exact .inr rfl|assumption):wpAny M A (storeName X.env x u) Q E s :=
 u7z I hN hi hx r (λs' I' _=>h s' I') hf
def Inv.call' (I:Inv X pins σ H s) (ho:s'.os=s.os) (u:Un (frs X.stack) ch H H' s.heap s'.heap) (hok:HOk X.prog X.w H' s'.heap) (hg:AllBare s'.gens)
 (hch:∀b∈ch,(b∈X.ex\/X.s₀.heap.objs.size<=b)/\b≠X.env.locals/\(∀x c,X.env.cells.lookup x=some c->c≠b)/\∀p∈X.pn++pins,p.1≠b):Inv X pins σ H' s':=by
 obtain⟨h',g',d',t',o'⟩:=s'
 have e:o'=s.os:=ho
 subst e
 exact I.call (g':=g') (t':=t') (d':=d') u hok hg hch
end
abbrev XK:=Value->Option Addr->Hp->Prop
abbrev St:=List (Option V)
abbrev VK:=V->Hp->Prop
abbrev TE:=St->Hp->VK->Prop
abbrev TT:=St->Hp->(Bool->Hp->Prop)->Prop
abbrev TA:=St->Hp->(List V->Hp->Prop)->Prop
structure Ends where
 nx:St->Hp->Prop
 rt:VK
 bk:St->Hp->Prop:=λ_ _=>False
 ct:St->Hp->Prop:=λ_ _=>False
abbrev TS:=Ends->St->Hp->Prop
def EP (X:Cx) (pins:LO) (σ:St) (Q:VK) (u:Value) (s':Shared):Prop:=∃v H',Inv X pins σ H' s'/\RelV v u/\Q v H'
def TP (X:Cx) (pins:LO) (σ:St) (Q:Bool->Hp->Prop) (b:Bool) (s':Shared):Prop:=∃H',Inv X pins σ H' s'/\Q b H'
def AP (X:Cx) (pins:LO) (σ:St) (Q:List V->Hp->Prop) (us:List Value) (s':Shared):Prop:=∃vs H',Inv X pins σ H' s'/\Vals vs us/\Q vs H'
def SP (X:Cx) (pins:LO) (D:Ends) (f:Flow) (s':Shared):Prop :=
 match f with
 | .next=>∃σ' H',Inv X pins σ' H' s'/\D.nx σ' H'
 | .brk=>∃σ' H',Inv X pins σ' H' s'/\D.bk σ' H'
 | .cont=>∃σ' H',Inv X pins σ' H' s'/\D.ct σ' H'
 | .ret u=>∃v σ' H',Inv X pins σ' H' s'/\RelV v u/\D.rt v H'
def PE (X:Cx) (e:Expr) (t:TE):Prop :=
 ∀(pins:LO) (s:Shared) (σ:St) (H:Hp) (Q:VK),Inv X pins σ H s->t σ H Q->wpAny (model X.prog X.w) X.A (eval e X.env) (EP X pins σ Q) X.xe s
def PT (X:Cx) (e:Expr) (t:TT):Prop :=
 ∀(pins:LO) (s:Shared) (σ:St) (H:Hp) (Q:Bool->Hp->Prop),Inv X pins σ H s->t σ H Q->wpAny (model X.prog X.w) X.A (isTrue e X.env (eval e X.env)) (TP X pins σ Q) X.xe s
def PW (X:Cx) (e:Expr) (t:TT):Prop :=
 ∀(whole:Sem Value) (pins:LO) (s:Shared) (σ:St) (H:Hp) (Q:Bool->Hp->Prop),Inv X pins σ H s->t σ H Q->wpAny (model X.prog X.w) X.A (isTrue e X.env whole) (TP X pins σ Q) X.xe s
def PW.pt (h:PW X e t):PT X e t:=h _
def PA (X:Cx) (es:List Expr) (t:TA):Prop :=
 ∀(pos:Pos) (pins:LO) (s:Shared) (σ:St) (H:Hp) (Q:List V->Hp->Prop),Inv X pins σ H s->t σ H Q->wpAny (model X.prog X.w) X.A (spliced (backTo pos (starEach es X.env))) (AP X pins σ Q) X.xe s
def PS (X:Cx) (st:Stmt) (t:TS):Prop :=
 ∀(pins:LO) (s:Shared) (σ:St) (H:Hp) (D:Ends),Inv X pins σ H s->t D σ H->wpAny (model X.prog X.w) X.A (exec st X.env) (SP X pins D) X.xe s
def PSs (X:Cx) (st:List Stmt) (t:TS):Prop :=
 ∀(pins:LO) (s:Shared) (σ:St) (H:Hp) (D:Ends),Inv X pins σ H s->t D σ H->wpAny (model X.prog X.w) X.A (execs st X.env) (SP X pins D) X.xe s
def thn {α:Type}{t:Sem α}{Q Q':α->Shared->Prop} (h:wpAny M A t Q E s) (hQ:∀a s,Q a s->Q' a s):wpAny M A t Q' E s:=wpAny_mono h hQ λ_ _ x=>x
section
variable {X:Cx}
def bin {a b:Expr}{ta tb:TE} (ha:PE X a ta) (hb:PE X b tb) {pins:LO}{s:Shared}{σ:St}{H:Hp}{R:V->V->Hp->Prop} (I:Inv X pins σ H s) (h:ta σ H λx H1=>tb σ H1 λy H2=>R x y H2)
  {α:Type}{Q:α->Shared->Prop}{f:Value->Value->Sem α}
  (hf:∀v u s2 x y H2,Inv X pins σ H2 s2->RelV x v->RelV y u->R x y H2->wpAny (model X.prog X.w) X.A (f v u) Q X.xe s2) :
  wpAny (model X.prog X.w) X.A (eval a X.env) (λv s₁=>wpAny (model X.prog X.w) X.A (eval b X.env) (λu s₂=>wpAny (model X.prog X.w) X.A (f v u) Q X.xe s₂) X.xe s₁) X.xe s:=by
 refine thn (ha pins s σ H _ I h) λv s1 z92=>?_
 obtain⟨x,H1,I1,r1,q1⟩:=z92
 refine thn (hb pins s1 σ H1 _ I1 q1) λu s2 z93=>?_
 obtain⟨y,H2,I2,r2,q2⟩:=z93
 exact hf v u s2 x y H2 I2 r1 r2 q2
def tVar (i:Nat):TE:=λσ H Q=>∃v,σ[i]?=some (some v)/\Q v H
def tC (v:V):TE:=λ_ H Q=>Q v H
def u3m (hN:X.N[i]?=some x) (hv:Vis X.env.scope x) (hd:(x==("__debug__":Str))=false:=by decide) (hcd:(x==("__classdict__":Str))=false:=by decide):PE X (.Name x pos) (tVar i):=by
 intro pins s σ H Q I h
 obtain⟨v,e,h⟩:=h
 obtain⟨m,hn,hl⟩:=I.loc
 obtain⟨u,r,l⟩:=hl i x v hN e hv
 have fin:EP X pins σ Q u s:=⟨v,H,I,r,h⟩
 rcases l with⟨hk,hm⟩|⟨hk,c,hc,hcell⟩
 ·exact wpAny_Name (wpAny_loadName_local I.ok.kind hk hn hm fin) hd
 ·rcases hk with hk | hk
  ·exact wpAny_Name (wpAny_loadName_cell I.ok.kind hk hc hcell fin) hd
  ·exact wpAny_Name (wpAny_loadName_free I.ok.kind hk hc hcell fin hcd) hd
def v4v {i j pos}:PE X (.Constant (.int i) j pos) (tC (.int i)):=λ_ _ _ H _ I h=>wpAny_Constant_int ⟨.int i,H,I.tok _,⟨_,rfl⟩,h⟩
def pe_bl {b j pos}:PE X (.Constant (.bool b) j pos) (tC (.bl b)):=λ_ _ _ H _ I h=>Constant_bool ⟨.bl b,H,I,rfl,h⟩
def pe_non {j pos}:PE X (.Constant .none j pos) (tC .non):=λ_ _ _ H _ I h=>Constant_none ⟨.non,H,I,rfl,h⟩
def u9M {x j pos}:PE X (.Constant (.str x) j pos) (tC (.str x)):=λ_ _ _ H _ I h=>Calls.Constant_str ⟨.str x,H,I.tok _,⟨_,rfl⟩,h⟩
def Gl (X:Cx) (x:Str):Prop:=X.env.kindOf x=some .globalImplicit
def u3C (I:Inv X pins σ H s) (hg:Gl X x) (hm:X.mg x=some u) (h:Q u s)
 (hd:(x==("__debug__":Str))=false:=by decide):wpAny (model X.prog X.w) X.A (eval (.Name x pos) X.env) Q E s :=
 Calls.Name_function_global I.ok.kind hg (Calls.loadGlobal_global (by rw[I.ok.glob];exact I.mod.glob.keeps I.bk) hm h) hd
def u6s (I:Inv X pins σ H s) (hg:Gl X x) (hm:X.mg x=none) (hv:bootBuiltins x=some u) (h:Q u s)
 (hn:x≠"__name__":=by decide) (hd:(x==("__debug__":Str))=false:=by decide):wpAny (model X.prog X.w) X.A (eval (.Name x pos) X.env) Q E s:=by
 obtain⟨mb,h1,h2⟩:=I.mod.blt
 exact Calls.Name_function_global I.ok.kind hg (Calls.loadGlobal_builtin (by rw[I.ok.glob];exact I.mod.glob.keeps I.bk) hm (by rw[I.ok.blt];exact h1.keeps I.bk) ((h2 x hn).trans hv) h) hd
def pe_glob (hg:Gl X x) (hm:X.mg x=some u) (r:RelV v u) (hd:(x==("__debug__":Str))=false:=by decide):PE X (.Name x pos) (tC v) :=
 λ_ _ _ H _ I h=>u3C I hg hm ⟨v,H,I,r,h⟩ hd
def pe_bltn (hg:Gl X x) (hm:X.mg x=none) (hv:bootBuiltins x=some u) (r:RelV v u) (hn:x≠"__name__":=by decide) (hd:(x==("__debug__":Str))=false:=by decide):PE X (.Name x pos) (tC v) :=
 λ_ _ _ H _ I h=>u6s I hg hm hv ⟨v,H,I,r,h⟩ hn hd
variable {a b:Expr}{ta tb:TE}{pos:Pos}
def PC (X:Cx) (op:CmpOp) (a b:Expr) (t:TE):Prop :=
 ∀(pins:LO) (s:Shared) (σ:St) (H:Hp) (Q:VK),Inv X pins σ H s->t σ H Q ->
  wpAny (model X.prog X.w) X.A (eval a X.env) (λv s₁=>wpAny (model X.prog X.w) X.A (eval b X.env) (λu s₂=>wpAny (model X.prog X.w) X.A (compareOp op v u) (EP X pins σ Q) X.xe s₂) X.xe s₁) X.xe s
def tB (t:TE):TT:=λσ H Q=>t σ H λx H1=>∃c,x=.bl c/\Q c H1
def pt_cmp (h:PC X op a b t) (h1:behindInMarks op b=false:=by first|exact nobehind _ (by decide) (by decide)|rfl):PT X (.Compare a [op] [b] pos) (tB t):=by
 intro pins s σ H Q I hw
 refine wpAny_isTrue_Compare1 (thn (h pins s σ H _ I hw) λv s1 h1=>thn h1 λu s2 h2=>thn h2 λc s3 z94=>?_) h1
 obtain⟨x,H1,I1,r1,q1⟩:=z94
 obtain⟨d,rfl,q⟩:=q1
 cases r1
 exact wpAny_truthy_bool ⟨H1,I1,q⟩
def pt_val (h:PE X e t) (he:∀whole,isTrue e X.env whole=(do let v <- whole;standAt e.pos;holding [v] (truthy v)):=by intro _;rfl):PT X e (tB t):=by
 intro pins s σ H Q I hw
 refine isTrue_plain (thn (h pins s σ H _ I hw) λv s1 z95=>?_) (he _)
 obtain⟨x,H1,I1,r1,q1⟩:=z95
 obtain⟨d,rfl,q⟩:=q1
 cases r1
 exact wpAny_truthy_bool ⟨H1,I1,q⟩
variable {tA tB':TT}{rest:List Expr}
def tAnd (t u:TT):TT:=λσ H Q=>t σ H λc H1=>if c=true then u σ H1 Q else Q false H1
def tOr (t u:TT):TT:=λσ H Q=>t σ H λc H1=>if c=true then Q true H1 else u σ H1 Q
def tNot (t:TT):TT:=λσ H Q=>t σ H λc H1=>Q (!c) H1
def pw_and1 (ha:PT X a tA):PW X (.BoolOp .And [a] pos) tA:=by
 intro wh pins s σ H Q I h
 refine isTrue_and (thn (ha pins s σ H Q I h) λc s1 e=>?_)
 cases c with
 | true=>exact isTrue_and_nil e
 | false=>exact e
def pw_or1 (ha:PT X a tA):PW X (.BoolOp .Or [a] pos) tA:=by
 intro wh pins s σ H Q I h
 refine isTrue_or (thn (ha pins s σ H Q I h) λc s1 e=>?_)
 cases c with
 | false=>exact isTrue_or_nil e
 | true=>exact e
def pw_and (ha:PT X a tA) (hb:PW X (.BoolOp .And (b::rest) pos) tB'):PW X (.BoolOp .And (a::b::rest) pos) (tAnd tA tB'):=by
 intro wh pins s σ H Q I h
 refine isTrue_and (thn (ha pins s σ H _ I h) λc s1 z96=>?_)
 obtain⟨H1,I1,q1⟩:=z96
 cases c with
 | true=>exact hb wh pins s1 σ H1 Q I1 q1
 | false=>exact⟨H1,I1,q1⟩
def pw_or (ha:PT X a tA) (hb:PW X (.BoolOp .Or (b::rest) pos) tB'):PW X (.BoolOp .Or (a::b::rest) pos) (tOr tA tB'):=by
 intro wh pins s σ H Q I h
 refine isTrue_or (thn (ha pins s σ H _ I h) λc s1 z97=>?_)
 obtain⟨H1,I1,q1⟩:=z97
 cases c with
 | true=>exact⟨H1,I1,q1⟩
 | false=>exact hb wh pins s1 σ H1 Q I1 q1
def pt_not (ha:PT X a tA):PT X (.UnaryOp .Not a pos) (tNot tA):=by
 intro pins s σ H Q I h
 exact isTrue_not (ha pins s σ H (λc H1=>Q (!c) H1) I h)
def tAndV (ta tb:TE):TE:=λσ H Q=>ta σ H λx H1=>∃c,x=.bl c/\if c=true then tb σ H1 Q else Q (.bl false) H1
def tOrV (ta tb:TE):TE:=λσ H Q=>ta σ H λx H1=>∃c,x=.bl c/\if c=true then Q (.bl true) H1 else tb σ H1 Q
def pe_one {op} (h:PE X a t):PE X (.BoolOp op [a] pos) t:=λpins s σ H Q I hw=>BoolOp_one (h pins s σ H Q I hw)
def pe_and (ha:PE X a ta) (hb:PE X (.BoolOp .And (b::rest) pos) tb):PE X (.BoolOp .And (a::b::rest) pos) (tAndV ta tb):=by
 intro pins s σ H Q I h
 refine BoolOp_and (thn (ha pins s σ H _ I h) λv s1 z98=>?_)
 obtain⟨x,H1,I1,r1,q1⟩:=z98
 obtain⟨c,rfl,q1⟩:=q1
 cases r1
 refine wpAny_truthy_bool ?_
 cases c with
 | true=>exact hb pins s1 σ H1 Q I1 q1
 | false=>exact⟨.bl false,H1,I1,rfl,q1⟩
def pe_or (ha:PE X a ta) (hb:PE X (.BoolOp .Or (b::rest) pos) tb):PE X (.BoolOp .Or (a::b::rest) pos) (tOrV ta tb):=by
 intro pins s σ H Q I h
 refine BoolOp_or (thn (ha pins s σ H _ I h) λv s1 z99=>?_)
 obtain⟨x,H1,I1,r1,q1⟩:=z99
 obtain⟨c,rfl,q1⟩:=q1
 cases r1
 refine wpAny_truthy_bool ?_
 cases c with
 | false=>exact hb pins s1 σ H1 Q I1 q1
 | true=>exact⟨.bl true,H1,I1,rfl,q1⟩
def tIf (t:TT) (ta tb:TE):TE:=λσ H Q=>t σ H λc H1=>if c=true then ta σ H1 Q else tb σ H1 Q
def v3D (hc:PT X c tA) (ha:PE X a ta) (hb:PE X b tb):PE X (.IfExp c a b pos) (tIf tA ta tb):=by
 intro pins s σ H Q I h
 refine wpAny_IfExp (thn (hc pins s σ H _ I h) λd s1 z910=>?_)
 obtain⟨H1,I1,q1⟩:=z910
 cases d with
 | true=>exact ha pins s1 σ H1 Q I1 q1
 | false=>exact hb pins s1 σ H1 Q I1 q1
end
def SqL (K:W.Frag) (H:Hp) (a:Addr) (xs:List V):Prop :=
 Rd H a (.lst xs) \/
  ∃(o:Obj) (its:Array Value) (n:Nat),K.lookup a=some o/\o.cls=.type "list"/\o.dict=none/\o.data=.seq its n/\its.size<=sizeLine/\Vals xs its.toList
def SqT (K:W.Frag) (H:Hp) (a:Addr) (xs:List V):Prop :=
 Rd H a (.tup xs) \/
  ∃(o:Obj) (its:Array Value) (n:Nat),K.lookup a=some o/\o.cls=.type "tuple"/\o.data=.seq its n/\its.size<=sizeLine/\Vals xs its.toList
noncomputable def absV:Value->Option V
 | .none=>some .non
 | .bool b=>some (.bl b)
 | .int i _=>some (.int i)
 | .str x _=>some (.str x)
 | .bytes b _=>some (.byt b)
 | .float b _=>some (.flt b)
 | .ref a=>some (.ref a)
 | .type n=>some (.ty n)
 | _=>none
def RelV.abs (r:RelV x u):absV u=some x:=by
 cases x with
 | non=>cases r;rfl
 | bl _=>cases r;rfl
 | int _=>obtain⟨t,rfl⟩:=r;rfl
 | str _=>obtain⟨t,rfl⟩:=r;rfl
 | byt _=>obtain⟨t,rfl⟩:=r;rfl
 | flt _=>obtain⟨t,rfl⟩:=r;rfl
 | ref _=>cases r;rfl
 | ty _=>cases r;rfl
theorem RelV.inj (r:RelV x u) (q:RelV y u):x=y:=Option.some.inj (r.abs.symm.trans q.abs)
theorem Vals.inj:∀{xs ys:List V}{us:List Value},Vals xs us->Vals ys us->xs=ys
 | _,_,_,.nil,.nil=>rfl
 | _,_,_,.cons r t,.cons r' t'=>by rw[r.inj r',Vals.inj t t']
section
variable {X:Cx}{pins:LO}{σ:St}{H:Hp}{s:Shared}{a:Addr}{xs ys:List V}
def Inv.list (I:Inv X pins σ H s) (h:SqL X.K H a xs):∃its:List Value,Vals xs its/\PlainL s.heap a its.toArray/\xs.length<=sizeLine:=by
 rcases h with h|⟨o,its,n,hk,hc,hd,hs,hz,r⟩
 ·obtain ⟨z,its,n,r,e⟩:=h.ok I.hok
  exact⟨its,r,⟨_,n,e,rfl,rfl,rfl⟩,z⟩
 ·refine ⟨its.toList,r,⟨o,n,I.kIn a o hk,hc,hd,by simpa using hs⟩,?_⟩
  have e:=r.length
  simp only[r9] at e
  omega
def Inv.tuple (I:Inv X pins σ H s) (h:SqT X.K H a xs):∃its:List Value,Vals xs its/\IsTup s.heap a its.toArray/\xs.length<=sizeLine:=by
 rcases h with h|⟨o,its,n,hk,hc,hs,hz,r⟩
 ·obtain ⟨z,its,r,p⟩:=h.ok I.hok
  exact⟨its,r,p,z⟩
 ·refine ⟨its.toList,r,⟨o,I.kIn a o hk,hc,n,by simpa using hs⟩,?_⟩
  have e:=r.length
  simp only[r9] at e
  omega
def Inv.list_inj (I:Inv X pins σ H s) (h:SqL X.K H a xs) (h':SqL X.K H a ys):xs=ys:=by
 obtain⟨its,r,⟨o,n,e,_,_,d⟩,_⟩:=I.list h
 obtain⟨its',r',⟨o',n',e',_,_,d'⟩,_⟩:=I.list h'
 rw[e] at e';cases e'
 rw[d] at d'
 injection d' with d1 _
 have:its=its':=by simpa using congrArg Array.toList d1
 subst this
 exact r.inj r'
def Inv.tuple_inj (I:Inv X pins σ H s) (h:SqT X.K H a xs) (h':SqT X.K H a ys):xs=ys:=by
 obtain⟨its,r,⟨o,e,_,n,d⟩,_⟩:=I.tuple h
 obtain⟨its',r',⟨o',e',_,n',d'⟩,_⟩:=I.tuple h'
 rw[e] at e';cases e'
 rw[d] at d'
 injection d' with d1 _
 have:its=its':=by simpa using congrArg Array.toList d1
 subst this
 exact r.inj r'
end
abbrev Cx.wish (X:Cx) (E:VP):Cx:={ X with xe:=E }
abbrev Cx.nox (X:Cx):Cx:=X.wish λ_ _=>False
theorem Cx.Ok.wish {X:Cx} (ok:X.Ok) (E:VP):(X.wish E).Ok :=
 ⟨ok.mod,ok.kind,ok.glob,ok.blt,ok.above,ok.inj,ok.has,ok.cab,ok.hd,ok.frames,ok.stk,ok.exf,ok.bs,ok.bsz,ok.noex,ok.exfs,ok.funs,ok.frf⟩
def Cx.Ok.unwish {X:Cx}{E:VP} (ok:(X.wish E).Ok):X.Ok :=
 ⟨ok.mod,ok.kind,ok.glob,ok.blt,ok.above,ok.inj,ok.has,ok.cab,ok.hd,ok.frames,ok.stk,ok.exf,ok.bs,ok.bsz,ok.noex,ok.exfs,ok.funs,ok.frf⟩
section
variable {X:Cx}{pins:LO}{σ:St}{H:Hp}{s:Shared}{E:VP}
theorem Inv.wish (I:Inv X pins σ H s) (E:VP):Inv (X.wish E) pins σ H s:=⟨I.ok.wish E,I.os,I.bare,I.base,I.loc,I.cell,I.free,I.freeC,I.pin,I.hok,I.len⟩
theorem Inv.unwish (I:Inv (X.wish E) pins σ H s):Inv X pins σ H s:=⟨I.ok.unwish,I.os,I.bare,I.base,I.loc,I.cell,I.free,I.freeC,I.pin,I.hok,I.len⟩
theorem SP.unwish (h:SP (X.wish E) pins D f s'):SP X pins D f s':=by
 cases f with
 | next=>obtain⟨σ',H',I,q⟩:=h;exact⟨σ',H',I.unwish,q⟩
 | brk=>obtain⟨σ',H',I,q⟩:=h;exact⟨σ',H',I.unwish,q⟩
 | cont=>obtain⟨σ',H',I,q⟩:=h;exact⟨σ',H',I.unwish,q⟩
 | ret u=>obtain⟨v,σ',H',I,r,q⟩:=h;exact⟨v,σ',H',I.unwish,r,q⟩
theorem PSs.nox {st:List Stmt}{t:TS} (h:PSs X.nox st t):PSs X st t:=λpins s σ H D I hw =>
 wpAny_mono (h pins s σ H D (I.wish _) hw) (λ_ _ q=>q.unwish) λ_ _ z=>False.elim z
end
section
variable {X:Cx}{st:Stmt}{rest:List Stmt}{t u:TS}{e:Expr}{te:TE}{pos:Pos}
def tNext:TS:=λD σ H=>D.nx σ H
def tSeq (t u:TS):TS:=λD σ H=>t { D with nx:=u D } σ H
def pss_nil:PSs X [] tNext:=λ_ _ σ H _ I h=>wpAny_execs_nil ⟨σ,H,I,h⟩
def u4S (h1:PS X st t) (h2:PSs X rest u):PSs X (st::rest) (tSeq t u):=by
 intro pins s σ H D I h
 refine wpAny_execs_cons (thn (h1 pins s σ H { D with nx:=u D } I h) λf s1 q=>?_)
 cases f with
 | next =>
  obtain⟨σ',H',I',q⟩:=q
  exact h2 pins s1 σ' H' D I' q
 | ret v=>exact q
 | brk=>exact q
 | cont=>exact q
def v1Y (h1:PS X st t):PSs X [st] t:=by
 intro pins s σ H D I h
 refine wpAny_execs_cons (thn (h1 pins s σ H D I h) λf s1 q=>?_)
 cases f with
 | next=>exact wpAny_execs_nil q
 | ret v=>exact q
 | brk=>exact q
 | cont=>exact q
def Inv.quiet (I:Inv X pins σ H s):interactive X.env=false:=by simp[interactive,I.ok.kind]
def tDrop (te:TE):TS:=λD σ H=>te σ H λ_ H1=>D.nx σ H1
def u6P (he:PE X e te) (hs:swapsWith e none pos.line X.env=pure false:=by rfl):PS X (.Expr e pos) (tDrop te):=by
 intro pins s σ H D I h
 exact wpAny_Expr_any (thn (he pins s σ H _ I h) λv s1 z911=>by obtain⟨x,H1,I1,r1,q1⟩:=z911;exact⟨σ,H1,I1,q1⟩) I.quiet hs
def tRet (te:TE):TS:=λD σ H=>te σ H D.rt
def v4q (he:PE X e te):PS X (.Return (some e) pos) (tRet te):=by
 intro pins s σ H D I h
 exact wpAny_Return_some (thn (he pins s σ H _ I h) λv s1 z912=>by obtain⟨x,H1,I1,r1,q1⟩:=z912;exact⟨x,σ,H1,I1,r1,q1⟩)
def tIfS (c:TT) (t u:TS):TS:=λD σ H=>c σ H λb H1=>if b=true then t D σ H1 else u D σ H1
def ps_if (hc:PT X c tc) (ha:PSs X a t) (hb:PSs X b u):PS X (.If c a b pos) (tIfS tc t u):=by
 intro pins s σ H D I h
 refine wpAny_If (thn (hc pins s σ H _ I h) λd s1 z913=>?_)
 obtain⟨H1,I1,q1⟩:=z913
 cases d with
 | true=>exact ha pins s1 σ H1 D I1 q1
 | false=>exact hb pins s1 σ H1 D I1 q1
end
abbrev TG:=V->St->Hp->(St->Hp->Prop)->Prop
abbrev TGs:=List V->St->Hp->(St->Hp->Prop)->Prop
def PG (X:Cx) (target:Expr) (t:TG):Prop :=
 ∀(pins:LO) (s:Shared) (σ:St) (H:Hp) (v:V) (u:Value) (Q:St->Hp->Prop),Inv X pins σ H s->RelV v u->t v σ H Q ->
  wpAny (model X.prog X.w) X.A (assign target X.env u) (λ_ s'=>∃σ' H',Inv X pins σ' H' s'/\Q σ' H') X.xe s
def PGs (X:Cx) (ts:List Expr) (t:TGs):Prop :=
 ∀(pins:LO) (s:Shared) (σ:St) (H:Hp) (vs:List V) (us:List Value) (Q:St->Hp->Prop),Inv X pins σ H s->Vals vs us->t vs σ H Q ->
  wpAny (model X.prog X.w) X.A (assignInOrder ((assignEach ts X.env).map (·.2)) us) (λ_ s'=>∃σ' H',Inv X pins σ' H' s'/\Q σ' H') X.xe s
abbrev TSet:=V->V->V->Hp->(Hp->Prop)->Prop
def PSet (X:Cx) (t:TSet):Prop :=
 ∀(pins:LO) (s:Shared) (σ:St) (H:Hp) (o i v:V) (ov iv u:Value) (Q:Hp->Prop),Inv X pins σ H s->RelV o ov->RelV i iv->RelV v u->t o i v H Q ->
  wpAny (model X.prog X.w) X.A (setItem ov iv u) (λ_ s'=>∃H',Inv X pins σ H' s'/\Q H') X.xe s
section
variable {X:Cx}{pos:Pos}
def gName (i:Nat):TG:=λv σ H Q=>Q (σ.set i (some v)) H
def pg_name (hN:X.N.Nodup) (hi:X.N[i]?=some x) (hx:Loc X.env.scope x) (hf:X.fn x=true\/X.env.scope.names.lookup x=some .local:=by first|exact .inl rfl|exact .inr rfl|assumption):PG X (.Name x pos) (gName i):=by
 intro pins s σ H v u Q I r h
 exact wpAny_assign_Name (u4Q I hN hi hx r (λs' I'=>⟨_,H,I',h⟩) hf)
def gNil:TGs:=λvs σ H Q=>vs=[]/\Q σ H
def gCons (t:TG) (u:TGs):TGs:=λvs σ H Q=>∃v r,vs=v::r/\t v σ H λσ' H'=>u r σ' H' Q
def v2c:PGs X [] gNil:=by
 intro pins s σ H vs us Q I r h
 obtain⟨e,h⟩:=h
 subst e
 cases r
 exact assignInOrder_nil ⟨σ,H,I,h⟩
def u6V (h1:PG X e t) (h2:PGs X es u)
 (hs:(assignEach (e::es) X.env).map (·.2)=assign e X.env::(assignEach es X.env).map (·.2):=by rfl):PGs X (e::es) (gCons t u):=by
 intro pins s σ H vs us Q I r h
 obtain⟨v,vr,e1,h⟩:=h
 subst e1
 cases r with
 | cons r rr =>
  rw[hs]
  refine assignInOrder_cons (thn (h1 pins s σ H _ _ _ I r h) λ_ s1 z914=>?_)
  obtain⟨σ1,H1,I1,q1⟩:=z914
  exact h2 pins s1 σ1 H1 _ _ Q I1 rr q1
def gTup (K:W.Frag) (n:Nat) (t:TGs):TG:=λv σ H Q=>∃a xs,v=.ref a/\SqT K H a xs/\xs.length=n/\t xs σ H Q
def v4t (hc:X.calm=true) (h:PGs X es t)
 (hn:(assignEach es X.env).length=n:=by rfl) (hst:(assignEach es X.env).findIdx? (·.1)=none:=by rfl):PG X (.Tuple es k pos) (gTup X.K n t):=by
 intro pins s σ H v u Q I r hw
 obtain⟨a,xs,e1,hq,hl,hw⟩:=hw
 subst e1
 cases r
 obtain⟨its,rv,ht,hz⟩:=I.tuple hq
 refine assign_Tuple_tuple (I.ok.hd hc) ht (by simp[hn,<- hl,rv.length]) hst λh' hx=>?_
 have I1:Inv X pins σ H { s with heap:=h' }:=I.kept (t':=s.toks) λb o e=>hx b o (v9 (y9 e)) e
 exact h pins _ σ H xs _ Q I1 (by simpa using rv) hw
def gSub (to ti:TE) (t:TSet):TG:=λv σ H Q=>to σ H λo H1=>ti σ H1 λi H2=>t o i v H2 λH3=>Q σ H3
def v4u (ho:PE X o to) (hi:PE X i ti) (hs:PSet X t)
 (ha:∀ v,assign (.Subscript o i pos) X.env v=(do
 let ov <- holding [v] (eval o X.env)
 let iv <- holding [v,ov] (eval i X.env)
 standAt pos
 holding [v,ov,iv] (setItem ov iv v)
 release [v,ov,iv] []):=by intro _;rfl):PG X (.Subscript o i pos) (gSub to ti t):=by
 intro pins s σ H v u Q I r h
 rw[ha]
 refine wpAny_bind (wpAny_holding (thn (ho pins s σ H _ I h) λov s1 z915=>?_))
 obtain⟨x,H1,I1,r1,q1⟩:=z915
 refine wpAny_bind (wpAny_holding (thn (hi pins s1 σ H1 _ I1 q1) λiv s2 z916=>?_))
 obtain⟨y,H2,I2,r2,q2⟩:=z916
 refine wpAny_bind (wpAny_standAt (wpAny_bind (wpAny_holding (thn (hs pins s2 σ H2 x y v ov iv u _ I2 r1 r2 r q2) λ_ s3 z917=>?_))))
 obtain⟨H3,I3,q3⟩:=z917
 exact wpAny_release ⟨σ,H3,I3,q3⟩
def tAsg (te:TE) (g:TG):TS:=λD σ H=>te σ H λx H1=>g x σ H1 D.nx
def v4s (he:PE X e te) (hg:PG X tg g) (hs:swapsWithSole [tg] e pos.line X.env=pure false:=by rfl) (hw:swappedStores [tg] e X.env=pure none:=by rfl)
 (h1:(assignEach [tg] X.env).map (·.2)=[assign tg X.env]:=by rfl):PS X (.Assign [tg] e pos) (tAsg te g):=by
 intro pins s σ H D I h
 refine wpAny_Assign_stores (thn (he pins s σ H _ I h) λv s1 z918=>?_) hs hw
 obtain⟨x,H1,I1,r1,q1⟩:=z918
 rw[h1]
 exact thn (hg pins s1 σ H1 x v _ I1 r1 q1) λ_ s2 q=>q
def ps_set (hN:X.N.Nodup) (hi:X.N[i]?=some x) (hx:Loc X.env.scope x) (he:PE X e te) (hs:swapsWith e (some (.Name x pos')) pos.line X.env=pure false:=by rfl) (hf:X.fn x=true\/X.env.scope.names.lookup x=some .local:=by first|exact .inl rfl|exact .inr rfl|assumption) :
 PS X (.Assign [.Name x pos'] e pos) (tAsg te (gName i)):=by
 intro pins s σ H D I h
 refine wpAny_Assign_Name (thn (he pins s σ H _ I h) λv s1 z919=>?_) hs
 obtain⟨y,H1,I1,r1,q1⟩:=z919
 exact u4Q I1 hN hi hx r1 (λs2 I2=>⟨_,H1,I2,q1⟩) hf
end
structure It where
 go:Nat->Hp->Prop
 yld:Nat->Hp->V->Hp->Prop
 stop:Nat->Hp->Prop
def FpOk (X:Cx) (pins:LO) (H:Hp) (b:Addr):Prop :=
 H b=none/\b≠X.env.locals/\b∉X.fs/\(b∈X.ex\/X.s₀.heap.objs.size<=b)/\(∀x c,X.env.cells.lookup x=some c->c≠b)/\∀p∈X.pn++pins,p.1≠b
def Inv.fpOk (I:Inv X pins σ H s) (hb:s.heap.objs.size<=b) (hn:H' b=none):FpOk X pins H' b:=by
 refine⟨hn,Nat.ne_of_gt (w9 I.lt hb),I.nofs hb,.inr (v5 I.sz hb),λx c e z=>?_,λp hp z=>?_⟩
 ·obtain ⟨v,q⟩:=I.cell x c e
  exact absurd (w9 q.lt (by rw[z];exact hb)) (z0G _)
 ·exact absurd (w9 (y9 (I.pin p hp).1) (by rw[z];exact hb)) (z0G _)
structure Turn (P:Program) (w:World) (K:W.Frag) (tg:Expr) (J:It) (fp:List Addr) (it:Addr) (tn:Nat->Heap->Prop):Prop where
 mem:it∈fp
 obj:∀i h,tn i h->∀b∈fp,∃o,h.get? b=some o/\∀v,o.data≠.cell v
 keep:∀i h h',tn i h->(∀b∈fp,∀o,h.get? b=some o->h'.get? b=some o)->tn i h'
 item:∀(X:Cx),X.prog=P->X.w=w->X.K=K->X.calm=true->∀(i:Nat) (pins:LO) (s:Shared) (σ:St) (H:Hp) (E:VP),Inv X pins σ H s->(∀b∈fp,FpOk X pins H b)->tn i s.heap->J.go i H ->
  wpAny (model P w) X.A (pyNext (.ref it)) (λr s1=>∃u,r=some u /\
   wpAny (model P w) X.A (letOwnedTupleGo tg (.ref it) u) (λ_ s2=>∃x H',Inv X pins σ H' s2/\RelV x u/\J.yld i H x H'/\tn (i+1) s2.heap/\∀b∈fp,H' b=none) E s1) E s
 done:∀(X:Cx),X.prog=P->X.w=w->X.K=K->X.calm=true->∀(i:Nat) (pins:LO) (s:Shared) (σ:St) (H:Hp) (E:VP),Inv X pins σ H s->(∀b∈fp,FpOk X pins H b)->tn i s.heap->J.stop i H ->
  wpAny (model P w) X.A (pyNext (.ref it)) (λr s1=>r=none/\Inv X pins σ H s1) E s
 self:∀(A:Around) (i:Nat) (s:Shared) (Q:VP) (E:VP),tn i s.heap->Q (.ref it) s->wpAny (model P w) A (pyIter (.ref it)) Q E s
abbrev TI:=St->Hp->(It->Hp->Prop)->Prop
def PIE (X:Cx) (pins:LO) (σ:St) (tg:Expr) (R:It->Hp->Prop) (itv:Value) (s2:Shared):Prop :=
 ∃(it:Addr) (fp:List Addr) (tn:Nat->Heap->Prop) (J:It) (H':Hp),itv=.ref it/\Inv X pins σ H' s2/\Turn X.prog X.w X.K tg J fp it tn/\tn 0 s2.heap/\(∀b∈fp,FpOk X pins H' b)/\R J H'
def PI (X:Cx) (tg iter:Expr) (wi:TI):Prop :=
 ∀(pins:LO) (s:Shared) (σ:St) (H:Hp) (R:It->Hp->Prop),Inv X pins σ H s->wi σ H R ->
  wpAny (model X.prog X.w) X.A (eval iter X.env) (λv s1=>wpAny (model X.prog X.w) X.A (pyIter v) (PIE X pins σ tg R) X.xe s1) X.xe s
def v2G (ho:s.heap.get? it=some o) (hc:o.cls=.type n) (hd:o.data=.fields vs)
 (hn:["enumerate","zip","dict_itemiterator","dict_reverseitemiterator","odict_iterator","itertools.zip_longest","itertools.pairwise"].contains n=false) (hQ:Q () s):wpAny M A (letOwnedTupleGo tg (.ref it) u) Q E s:=by
 unfold letOwnedTupleGo
 cases tg<;>first
  | exact wpAny_pure hQ
  | (cases u<;>first
    | exact wpAny_pure hQ
    | (refine wpAny_bind (wpAny_load ho ?_)
       rw[hc,hd]
       show wpAny M A (if (["enumerate","zip","dict_itemiterator","dict_reverseitemiterator","odict_iterator","itertools.zip_longest","itertools.pairwise"].contains n&&vs[0]?==some (rawInt _))=true then _ else _) Q E s
       rw[if_neg (by intro h;rw[hn,Bool.false_and] at h;cases h)]
       exact wpAny_pure hQ))
def Itl (K:W.Frag) (a:Addr):It :=
 ⟨λi H=>∃xs x,SqL K H a xs/\xs[i]?=some x,λi H x H'=>H'=H/\∀xs,SqL K H a xs->xs[i]?=some x,λi H=>∃xs,SqL K H a xs/\xs.length<=i⟩
def Itt (K:W.Frag) (a:Addr):It :=
 ⟨λi H=>∃xs x,SqT K H a xs/\xs[i]?=some x,λi H x H'=>H'=H/\∀xs,SqT K H a xs->xs[i]?=some x,λi H=>∃xs,SqT K H a xs/\xs.length<=i⟩
def Itr (lo:Int) (n:Nat):It:=⟨λi _=>i<n,λi H x H'=>H'=H/\x=.int (lo+i),λi _=>n<=i⟩
def v1J {P:Program}{w:World}{K:W.Frag}{tg:Expr} (a it:Addr):Turn P w K tg (Itl K a) [it] it (λi h=>h.IsListIter it a i) where
 mem:=by simp
 obj:=λi h st b hb=>by
  have e:b=it:=by simpa using hb
  subst e
  obtain⟨o,e,c,d⟩:=st
  exact⟨o,e,λv z=>by rw[d] at z;cases z⟩
 keep:=λi h h' st k=>st.at λo e=>k it (by simp) o e
 item:=by
  intro X hP hw hK hc i pins s σ H E I hf st hg
  subst hP hw hK
  obtain⟨xs,x,hq,hx⟩:=hg
  obtain⟨its,rv,p,hz⟩:=I.list hq
  obtain⟨u,hu,ru⟩:=rv.get hx
  obtain⟨f0,f1,f2,f3,f4,f5⟩:=hf it (by simp)
  refine wpAny_pyNext_list_item st p.isList (x:=u) (by simpa using hu) λh' st' sb=>?_
  have I1:Inv X pins σ H { s with heap:=h' }:=I.turned (t':=s.toks) (λb o hb e=>(sb.2 b hb).trans e) f0 f1 f3 f4 f5
  obtain⟨o,e,c,d⟩:=id st'
  exact⟨u,rfl,v2G (s:={ s with heap:=h' }) e c d (by decide) ⟨x,H,I1,ru,⟨rfl,λys hy=>by rw[I.list_inj hy hq];exact hx⟩,st',λb hb=>(hf b hb).1⟩⟩
 done:=by
  intro X hP hw hK hc i pins s σ H E I hf st hg
  subst hP hw hK
  obtain⟨xs,hq,hx⟩:=hg
  obtain⟨its,rv,p,hz⟩:=I.list hq
  obtain⟨f0,f1,f2,f3,f4,f5⟩:=hf it (by simp)
  have hl:=rv.length
  exact wpAny_pyNext_list_end (I.ok.hd hc) st p.isList (by simp;omega) λh' eb=>⟨rfl,I.turned (t':=s.toks) (λb o hb e=>eb b o hb e) f0 f1 f3 f4 f5⟩
 self:=λ_ _ _ _ _ st h=>wpAny_pyIter_listiter st h
def v0E {P:Program}{w:World}{K:W.Frag}{tg:Expr} (a it:Addr):Turn P w K tg (Itt K a) [it] it (λi h=>h.IsTupleIter it a i) where
 mem:=by simp
 obj:=λi h st b hb=>by
  have e:b=it:=by simpa using hb
  subst e
  obtain⟨o,e,c,d⟩:=st
  exact⟨o,e,λv z=>by rw[d] at z;cases z⟩
 keep:=λi h h' st k=>st.at λo e=>k it (by simp) o e
 item:=by
  intro X hP hw hK hc i pins s σ H E I hf st hg
  subst hP hw hK
  obtain⟨xs,x,hq,hx⟩:=hg
  obtain⟨its,rv,p,hz⟩:=I.tuple hq
  obtain⟨u,hu,ru⟩:=rv.get hx
  obtain⟨f0,f1,f2,f3,f4,f5⟩:=hf it (by simp)
  refine wpAny_pyNext_tuple_item st (show s.heap.IsTuple a its.toArray from p) (x:=u) (by simpa using hu) λh' st' sb=>?_
  have I1:Inv X pins σ H { s with heap:=h' }:=I.turned (t':=s.toks) (λb o hb e=>(sb.2 b hb).trans e) f0 f1 f3 f4 f5
  obtain⟨o,e,c,d⟩:=id st'
  exact⟨u,rfl,v2G (s:={ s with heap:=h' }) e c d (by decide) ⟨x,H,I1,ru,⟨rfl,λys hy=>by rw[I.tuple_inj hy hq];exact hx⟩,st',λb hb=>(hf b hb).1⟩⟩
 done:=by
  intro X hP hw hK hc i pins s σ H E I hf st hg
  subst hP hw hK
  obtain⟨xs,hq,hx⟩:=hg
  obtain⟨its,rv,p,hz⟩:=I.tuple hq
  obtain⟨f0,f1,f2,f3,f4,f5⟩:=hf it (by simp)
  have hl:=rv.length
  exact wpAny_pyNext_tuple_end (I.ok.hd hc) st (show s.heap.IsTuple a its.toArray from p) (by simp;omega) λh' eb=>⟨rfl,I.turned (t':=s.toks) (λb o hb e=>eb b o hb e) f0 f1 f3 f4 f5⟩
 self:=λ_ _ _ _ _ st h=>wpAny_pyIter_tupleiter st h
def v0F {P:Program}{w:World}{K:W.Frag}{tg:Expr} (it:Addr) (lo:Int) (n:Nat):Turn P w K tg (Itr lo n) [it] it (λi h=>IsRangeIter h it (lo+(i:Nat)*1) ((n:Int) - (i:Nat)) 1) where
 mem:=by simp
 obj:=λi h st b hb=>by
  have e:b=it:=by simpa using hb
  subst e
  exact⟨_,st,λv z=>by
   have z':Data.fields _=Data.cell v:=z
   cases z'⟩
 keep:=λi h h' st k=>k it (by simp) _ st
 item:=by
  intro X hP hw hK hc i pins s σ H E I hf st hg
  subst hP hw hK
  obtain⟨f0,f1,f2,f3,f4,f5⟩:=hf it (by simp)
  have W:=Walks.range (prog:=X.prog) (w:=X.w) (I.ok.hd hc) it lo 1 n
  refine W.item i s _ _ hg st λv h' tk hv st' kk=>?_
  obtain⟨t,rfl⟩:=hv
  have I1:Inv X pins σ H { s with heap:=h',toks:=tk }:=I.turned (λb o hb e=>kk b o (by simpa using hb) e) f0 f1 f3 f4 f5
  refine⟨_,rfl,v2G (s:={ s with heap:=h',toks:=tk }) (n:="range_iterator") st' rfl rfl (by decide) ⟨.int (lo+i),H,I1,⟨t,?_⟩,⟨rfl,rfl⟩,st',λb hb=>(hf b hb).1⟩⟩
  rw[Int.mul_one]
 done:=by
  intro X hP hw hK hc i pins s σ H E I hf st hg
  subst hP hw hK
  obtain⟨f0,f1,f2,f3,f4,f5⟩:=hf it (by simp)
  exact wpAny_pyNext_range_end (I.ok.hd hc) st (by have:n<=i:=hg;omega) λh' eb=>⟨rfl,I.turned (t':=s.toks) (λb o hb e=>eb b o hb e) f0 f1 f3 f4 f5⟩
 self:=λ_ _ _ _ _ st h=>wpAny_pyIter_rangeiter st h
section
variable {X:Cx}{tg:Expr}
def iList (K:W.Frag) (tl:TE):TI:=λσ H R=>tl σ H λx H1=>∃a,x=.ref a/\(∃xs,SqL K H1 a xs)/\R (Itl K a) H1
def iTup (K:W.Frag) (tl:TE):TI:=λσ H R=>tl σ H λx H1=>∃a,x=.ref a/\(∃xs,SqT K H1 a xs)/\R (Itt K a) H1
def u9m {l:Expr}{tl:TE} (hl:PE X l tl):PI X tg l (iList X.K tl):=by
 intro pins s σ H R I h
 refine thn (hl pins s σ H _ I h) λv s1 z920=>?_
 obtain⟨x,H1,I1,r1,q1⟩:=z920
 obtain⟨a,e,⟨xs,hq⟩,q⟩:=q1
 subst e
 cases r1
 obtain⟨its,rv,p,hz⟩:=I1.list hq
 refine wpAny_pyIter_list p.isList ?_
 refine⟨s1.heap.objs.size,[s1.heap.objs.size],_,_,H1,rfl,I1.kept (t':=s1.toks) λb o e=>z5 _ e,v1J a _,⟨_,z7 _ rfl,rfl,rfl⟩,λb hb=>?_,q⟩
 have e:b=s1.heap.objs.size:=by simpa using hb
 subst e
 exact I1.fpOk (y7 _) (I1.hok.fresh (y7 _))
def pi_tup {l:Expr}{tl:TE} (hl:PE X l tl):PI X tg l (iTup X.K tl):=by
 intro pins s σ H R I h
 refine thn (hl pins s σ H _ I h) λv s1 z921=>?_
 obtain⟨x,H1,I1,r1,q1⟩:=z921
 obtain⟨a,e,⟨xs,hq⟩,q⟩:=q1
 subst e
 cases r1
 obtain⟨its,rv,p,hz⟩:=I1.tuple hq
 refine wpAny_pyIter_tuple (show s1.heap.IsTuple a its.toArray from p) ?_
 refine⟨s1.heap.objs.size,[s1.heap.objs.size],_,_,H1,rfl,I1.kept (t':=s1.toks) λb o e=>z5 _ e,v0E a _,⟨_,z7 _ rfl,rfl,rfl⟩,λb hb=>?_,q⟩
 have e:b=s1.heap.objs.size:=by simpa using hb
 subst e
 exact I1.fpOk (y7 _) (I1.hok.fresh (y7 _))
def u9L {pins:LO}{σ:St}{H:Hp}{s:Shared}{R:It->Hp->Prop}{E:VP}{lo hi:Int}{t u v:Tok}{tk:Nat} (I:Inv X pins σ H s) (h1:-(2^62)<=lo) (h2:lo<2^62) (h3:-(2^62)<=hi) (h4:hi<2^62)
  (q:R (Itr lo (hi - lo).toNat) H):wpAny (model X.prog X.w) X.A (pyIter (.ref s.heap.objs.size)) (PIE X pins σ tg R) E { s with heap:=s.heap.push { cls:=.type "range",data:=.fields #[.int lo t,.int hi u,.int 1 v] },toks:=tk }:=by
 refine wpAny_pyIter_range (IsRange.new ..) (small_one h1 h2 h3 h4) ?_
 have I1:Inv X pins σ H { s with heap:=s.heap.push { cls:=.type "range",data:=.fields #[.int lo t,.int hi u,.int 1 v] },toks:=tk }:=I.kept λb o e=>z5 _ e
 refine⟨(s.heap.push { cls:=.type "range",data:=.fields #[.int lo t,.int hi u,.int 1 v] }).objs.size,[(s.heap.push { cls:=.type "range",data:=.fields #[.int lo t,.int hi u,.int 1 v] }).objs.size],_,_,H,rfl,
  I1.kept (t':=tk) λb o e=>z5 _ e,v0F _ lo (hi - lo).toNat,?_,λb hb=>?_,q⟩
 ·have e1:lo+((0:Nat):Int)*1=lo:=by simp
  have e2:(((hi - lo).toNat:Nat):Int) - ((0:Nat):Int)=Builtin.Range.rangeSize lo hi 1:=by rw[rangeSize_one];split<;>omega
  show IsRangeIter _ _ (lo+((0:Nat):Int)*1) ((((hi - lo).toNat:Nat):Int) - ((0:Nat):Int)) 1
  rw[e1,e2]
  exact z7 _ rfl
 ·have e:b=(s.heap.push { cls:=.type "range",data:=.fields #[.int lo t,.int hi u,.int 1 v] }).objs.size:=by simpa using hb
  subst e
  exact I1.fpOk (y7 _) (I1.hok.fresh (y7 _))
def iRng1 (ta:TA):TI:=λσ H R=>ta σ H λvs H1=>∃j:Int,vs=[.int j]/\-(2^62)<=j/\j<2^62/\R (Itr 0 j.toNat) H1
def iRng2 (ta:TA):TI:=λσ H R=>ta σ H λvs H1=>∃i j:Int,vs=[.int i,.int j]/\(-(2^62)<=i/\i<2^62/\-(2^62)<=j/\j<2^62)/\R (Itr i (j - i).toNat) H1
def v2b {a:Expr}{ta:TA}{p pos:Pos} (hg:Gl X "range") (hm:X.mg "range"=none) (ha:PA X [a] ta) (hs:starEach [a] X.env=[(false,eval a X.env)]:=by rfl):PI X tg (.Call (.Name "range" p) [a] [] pos) (iRng1 ta):=by
 intro pins s σ H R I h
 refine Call_ (u6s I hg hm boot_range (PyProof.Rows.callWith_type1 (thn (ha pos pins s σ H _ I h) λus s1 z922=>?_) hs rfl))
 obtain⟨vs,H1,I1,r1,q1⟩:=z922
 obtain⟨j,e,q1,q2,q⟩:=q1
 subst e
 cases r1 with
 | cons r rr =>
  cases rr
  obtain⟨t,rfl⟩:=r
  exact call_range_1 (u9L I1 (by omega) (by omega) q1 q2 (by simpa using q))
def v2a (hg:Gl X "range") (hm:X.mg "range"=none) (ha:PA X [a,b] ta) (hs:starEach [a,b] X.env=[(false,eval a X.env),(false,eval b X.env)]:=by rfl) (hs2:starEach [b] X.env=[(false,eval b X.env)]:=by rfl) :
 PI X tg (.Call (.Name "range" p) [a,b] [] pos) (iRng2 ta):=by
 intro pins s σ H R I h
 refine Call_ (u6s I hg hm boot_range (PyProof.Rows.callWith_type1 (thn (ha pos pins s σ H _ I h) λus s1 ⟨vs,H1,I1,r1,q1⟩=>?_) (by rw[hs,hs2]) (by rw[hs2];rfl)))
 obtain⟨i,j,e,⟨q1,q2,q3,q4⟩,q⟩:=q1
 subst e
 cases r1 with
 | cons r rr =>
  cases rr with
  | cons r' rr =>
   cases rr
   obtain⟨t,rfl⟩:=r
   obtain⟨t',rfl⟩:=r'
   exact call_range_2 (u9L I1 q1 q2 q3 q4 q)
def tFor (wi:TI) (g:TG) (tb:TS):TS:=λD σ H=>wi σ H λJ H1=>∃W:Nat->Nat->St->Hp->Prop,(∃m,W 0 m σ H1)/\∀i m σ H,W i m σ H ->
 (J.stop i H/\D.nx σ H)\/(J.go i H/\∃N:St->Hp->Prop,(∀σ' H',N σ' H'->∃m',m'<m/\W (i+1) m' σ' H')/\∀x H',J.yld i H x H'->g x σ H' λσ2 H2=>tb { D with nx:=N,ct:=N,bk:=D.nx } σ2 H2)
noncomputable def pinsAt (fp:List Addr) (h:Heap):LO:=fp.filterMap λb=>(h.get? b).map λo=>(b,o)
def u3g (hb:b∈fp) (e:h.get? b=some o):(b,o)∈pinsAt fp h:=z3C.mpr ⟨b,hb,by rw[e];rfl⟩
def v2j (hp:p∈pinsAt fp h):p.1∈fp/\h.get? p.1=some p.2:=by
 obtain⟨b,hb,e⟩:=z3C.mp hp
 cases q:h.get? b with
 | none=>rw[q] at e;cases e
 | some o =>
  rw[q] at e
  have e':(b,o)=p:=Option.some.inj e
  subst e'
  exact⟨hb,q⟩
def Inv.pinned (I:Inv X pins σ H s) (hf:∀b∈fp,FpOk X pins H b) (ho:∀b∈fp,∃o,s.heap.get? b=some o/\∀v,o.data≠.cell v):Inv X (pins++pinsAt fp s.heap) σ H s :=
 I.pins_of λp hp=>(x9.mp hp).elim (λz=>I.pin p (u6 _ z)) λz=>by
  obtain⟨hb,e⟩:=v2j z
  obtain⟨f0,f1,f2,_⟩:=hf p.1 hb
  obtain⟨o,e',d⟩:=ho p.1 hb
  rw[e] at e';cases e'
  exact⟨e,f0,f1,f2,d⟩
def Inv.unpinned (I:Inv X (pins++pl) σ H s):Inv X pins σ H s:=I.pins_of λp hp=>I.pin p (u6 _ (z1I _ hp))
def v4r (hp:PassesOwn (model X.prog X.w) X.A X.env X.xe) (hc:X.calm=true) (hi:PI X tg iter wi) (hg:PG X tg g) (hb:PSs X body tb)
 (hs:∀x,foldedSetIterable iter X.env x=pure x:=by intro _;rfl):PS X (.For tg iter body [] pos) (tFor wi g tb):=by
 intro pins s σ H D I h
 refine wpAny_For (thn (hi pins s σ H _ I h) λv s1 h1=>thn h1 λitv s2 h2=>?_) hs
 obtain⟨it,fp,tn,J,H2,e,I2,T,st2,f2,W,⟨m0,w0⟩,turn⟩:=h2
 subst e
 have stat:∀{H':Hp},(∀b∈fp,H' b=none)->∀b∈fp,FpOk X pins H' b:=λhn b hb=>⟨hn b hb,(f2 b hb).2⟩
 refine codeAny_forLoop_any (λn s'=>∃i σ' H',Inv X pins σ' H' s'/\tn i s'.heap/\(∀b∈fp,H' b=none)/\W i n σ' H') ?_ m0 ⟨0,σ,H2,I2,st2,λb hb=>(f2 b hb).1,w0⟩
 rintro n s3 ⟨i,σ3,H3,I3,st3,fr3,w3⟩
 rcases turn i n σ3 H3 w3 with⟨stop,qn⟩|⟨go,N,hN,step⟩
 ·refine wpAny_passesOwn hp (thn (T.done X rfl rfl rfl hc i pins s3 σ3 H3 X.xe I3 (stat fr3) st3 stop) fun r s4 z924=>?_)
  obtain⟨hr,I4⟩:=z924
  subst hr
  exact wpAny_execs_nil ⟨σ3,H3,I4,qn⟩
 ·refine wpAny_passesOwn hp (thn (T.item X rfl rfl rfl hc i pins s3 σ3 H3 X.xe I3 (stat fr3) st3 go) fun r s4 z925=>?_)
  obtain⟨u,hr,h4⟩:=z925
  subst hr
  refine wpAny_passesOwn hp (thn h4 λ_ s5 z926=>?_)
  obtain⟨x,H5,I5,r5,y5,st5,fr5⟩:=z926
  have I5':=I5.pinned (stat fr5) (T.obj _ _ st5)
  refine wpAny_passesOwn hp (thn (hg _ s5 σ3 H5 x u _ I5' r5 (step x H5 y5)) λ_ s6 z927=>?_)
  obtain⟨σ6,H6,I6,q6⟩:=z927
  refine wpAny_passesOwn hp (thn (hb _ s6 σ6 H6 _ I6 q6) λf s7 q7=>?_)
  have again:∀{σ7:St}{H7:Hp},Inv X (pins++pinsAt fp s5.heap) σ7 H7 s7->N σ7 H7->∃m,m<n/\∃i σ' H',Inv X pins σ' H' s7/\tn i s7.heap/\(∀b∈fp,H' b=none)/\W i m σ' H':=λ{σ7 H7} I7 n7=>by
   obtain⟨m',hm,w7⟩:=hN σ7 H7 n7
   refine⟨m',hm,i+1,σ7,H7,I7.unpinned,T.keep _ _ _ st5 λb hb o e=>(I7.pin (b,o) (u6 _ (u6 _ (u3g hb e)))).1,λb hb=>?_,w7⟩
   obtain⟨o,e,d⟩:=T.obj _ _ st5 b hb
   exact(I7.pin (b,o) (u6 _ (u6 _ (u3g hb e)))).2.1
  cases f with
  | next=>obtain⟨σ7,H7,I7,n7⟩:=q7;exact again I7 n7
  | cont=>obtain⟨σ7,H7,I7,n7⟩:=q7;exact again I7 n7
  | brk=>obtain⟨σ7,H7,I7,q7⟩:=q7;exact⟨σ7,H7,I7.unpinned,q7⟩
  | ret v=>obtain⟨x7,σ7,H7,I7,r7,q7⟩:=q7;exact⟨x7,σ7,H7,I7.unpinned,r7,q7⟩
end
def v0g {K:W.Frag}{a:Addr}{xs:List V}{g:TG}{tb:TS}{D:Ends}{σ:St}{H:Hp} (Pv:Nat->St->Hp->Prop) (h0:Pv 0 σ H) (hl:∀i σ H,i<=xs.length->Pv i σ H->SqL K H a xs)
  (hs:∀i x σ H,xs[i]?=some x->Pv i σ H->g x σ H λσ2 H2=>tb { D with nx:=Pv (i+1),ct:=Pv (i+1),bk:=D.nx } σ2 H2) (hd:∀σ H,Pv xs.length σ H->D.nx σ H) :
  ∃W:Nat->Nat->St->Hp->Prop,(∃m,W 0 m σ H)/\∀i m σ H,W i m σ H ->
   ((Itl K a).stop i H/\D.nx σ H)\/((Itl K a).go i H/\∃N:St->Hp->Prop,(∀σ' H',N σ' H'->∃m',m'<m/\W (i+1) m' σ' H')/\∀x H',(Itl K a).yld i H x H'->g x σ H' λσ2 H2=>tb { D with nx:=N,ct:=N,bk:=D.nx } σ2 H2):=by
 refine⟨λi m σ H=>m=xs.length - i/\i<=xs.length/\Pv i σ H,⟨xs.length,by simp,z1H _,h0⟩,?_⟩
 rintro i m σ H ⟨rfl,hi,p⟩
 have q:=hl i σ H hi p
 by_cases hlt:i<xs.length
 ·refine .inr ⟨⟨xs,xs[i],q,by simp [hlt]⟩,Pv (i+1),fun σ' H' p'=>⟨xs.length - (i+1),by omega,rfl,hlt,p'⟩,fun x H' y=>?_⟩
  obtain⟨e,y⟩:=y
  subst e
  exact hs i x σ _ (y xs q) p
 ·have e:i=xs.length:=by omega
  subst e
  exact .inl ⟨⟨xs,q,y7 _⟩,hd σ H p⟩
abbrev R2:=V->V->Hp->VK->Prop
def OpR (X:Cx) (f:Value->Value->Sem Value) (r:R2):Prop :=
 ∀(pins:LO) (s:Shared) (σ:St) (H:Hp) (x y:V) (v u:Value) (Q:VK),Inv X pins σ H s->RelV x v->RelV y u->r x y H Q ->
  wpAny (model X.prog X.w) X.A (f v u) (EP X pins σ Q) X.xe s
def UnR (X:Cx) (f:Value->Sem Value) (r:V->Hp->VK->Prop):Prop :=
 ∀(pins:LO) (s:Shared) (σ:St) (H:Hp) (x:V) (v:Value) (Q:VK),Inv X pins σ H s->RelV x v->r x H Q ->
  wpAny (model X.prog X.w) X.A (f v) (EP X pins σ Q) X.xe s
def CallR (X:Cx) (f:Value) (r:List V->Hp->VK->Prop):Prop :=
 ∀(pins:LO) (s:Shared) (σ:St) (H:Hp) (xs:List V) (us:List Value) (Q:VK),Inv X pins σ H s->Vals xs us->r xs H Q ->
  wpAny (model X.prog X.w) X.A (call f us) (EP X pins σ Q) X.xe s
def TruR (X:Cx) (r:V->Hp->(Bool->Hp->Prop)->Prop):Prop :=
 ∀(pins:LO) (s:Shared) (σ:St) (H:Hp) (x:V) (v:Value) (Q:Bool->Hp->Prop),Inv X pins σ H s->RelV x v->r x H Q ->
  wpAny (model X.prog X.w) X.A (truthy v) (TP X pins σ Q) X.xe s
def tOp (r:R2) (ta tb:TE):TE:=λσ H Q=>ta σ H λx H1=>tb σ H1 λy H2=>r x y H2 Q
def tUn (r:V->Hp->VK->Prop) (ta:TE):TE:=λσ H Q=>ta σ H λx H1=>r x H1 Q
def rI (C:Int->Int->Prop) (g:Int->Int->V):R2:=λx y H Q=>∃i j,x=.int i/\y=.int j/\C i j/\Q (g i j) H
def rI0 (g:Int->Int->V):R2:=λx y H Q=>∃i j,x=.int i/\y=.int j/\Q (g i j) H
def rU (g:Int->V):V->Hp->VK->Prop:=λx H Q=>∃i,x=.int i/\Q (g i) H
section
variable {X:Cx}{a b c:Expr}{ta tb tc:TE}{pos:Pos}
def binT (ha:PE X a ta) (hb:PE X b tb) {pins:LO}{s:Shared}{σ:St}{H:Hp}{R:V->V->Hp->Prop} (I:Inv X pins σ H s)
  (h:ta σ H λx H1=>tb σ H1 λy H2=>R x y H2) {Q:VP}{f:Value->Value->Sem Value}
  (hf:∀v u s2 x y H2,Inv X pins σ H2 s2->RelV x v->RelV y u->R x y H2->wpAny (model X.prog X.w) X.A (f v u) Q X.xe s2) :
  wpAny (model X.prog X.w) X.A (eval a X.env) (λv s₁=>wpAny (model X.prog X.w) X.A (eval b X.env) (λu s₂=>wpAny (model X.prog X.w) X.A (f v u) Q X.xe s₂) X.xe s₁) X.xe s:=by
 refine thn (ha pins s σ H _ I h) λv s1 z928=>?_
 obtain⟨x,H1,I1,r1,q1⟩:=z928
 refine thn (hb pins s1 σ H1 _ I1 q1) λu s2 z929=>?_
 obtain⟨y,H2,I2,r2,q2⟩:=z929
 exact hf v u s2 x y H2 I2 r1 r2 q2
def pe_op {op:Operator}{r:R2} (ho:OpR X (binaryOp op) r) (ha:PE X a ta) (hb:PE X b tb):PE X (.BinOp a op b pos) (tOp r ta tb):=by
 intro pins s σ H Q I h
 exact wpAny_BinOp (binT ha hb I h λv u s2 x y H2 I2 rx ry q=>ho pins s2 σ H2 x y v u Q I2 rx ry q)
def pe_un (ho:UnR X (unaryOp op) r) (ha:PE X a ta):PE X (.UnaryOp op a pos) (tUn r ta):=by
 intro pins s σ H Q I h
 exact UnaryOp_ (thn (ha pins s σ H _ I h) λv s1 z930=>by obtain⟨x,H1,I1,r1,q1⟩:=z930;exact ho pins s1 σ H1 x v Q I1 r1 q1)
def opI {f:Value->Value->Sem Value}{C:Int->Int->Prop}{g:Int->Int->Int}
  (rule:∀(i j:Int) (t u:Tok) (s:Shared) (Q:VP) (E:VP),C i j->Q (.int (g i j) s.toks) { s with toks:=s.toks+1 }->wpAny (model X.prog X.w) X.A (f (.int i t) (.int j u)) Q E s) :
  OpR X f (rI C λi j=>.int (g i j)):=by
 intro pins s σ H x y v u Q I rx ry h
 obtain⟨i,j,rfl,rfl,hc,q⟩:=h
 obtain⟨t,rfl⟩:=rx
 obtain⟨t',rfl⟩:=ry
 exact rule i j t t' s _ _ hc ⟨.int (g i j),H,I.tok _,⟨_,rfl⟩,q⟩
def opI0 {f:Value->Value->Sem Value}{g:Int->Int->Int}
  (rule:∀(i j:Int) (t u:Tok) (s:Shared) (Q:VP) (E:VP),Q (.int (g i j) s.toks) { s with toks:=s.toks+1 }->wpAny (model X.prog X.w) X.A (f (.int i t) (.int j u)) Q E s) :
  OpR X f (rI0 λi j=>.int (g i j)):=by
 intro pins s σ H x y v u Q I rx ry h
 obtain⟨i,j,rfl,rfl,q⟩:=h
 obtain⟨t,rfl⟩:=rx
 obtain⟨t',rfl⟩:=ry
 exact rule i j t t' s _ _ ⟨.int (g i j),H,I.tok _,⟨_,rfl⟩,q⟩
def opB0 {f:Value->Value->Sem Value}{g:Int->Int->Bool}
  (rule:∀(i j:Int) (t u:Tok) (s:Shared) (Q:VP) (E:VP),Q (.bool (g i j)) s->wpAny (model X.prog X.w) X.A (f (.int i t) (.int j u)) Q E s) :
  OpR X f (rI0 λi j=>.bl (g i j)):=by
 intro pins s σ H x y v u Q I rx ry h
 obtain⟨i,j,rfl,rfl,q⟩:=h
 obtain⟨t,rfl⟩:=rx
 obtain⟨t',rfl⟩:=ry
 exact rule i j t t' s _ _ ⟨.bl (g i j),H,I,rfl,q⟩
def CPow (i j:Int):Prop:=0<=j/\j<=1000000/\i.natAbs<2^64
def CMul (i j:Int):Prop:=(-(2^64)<i/\i<2^64)\/(-(2^64)<j/\j<2^64)
def CMul.ok (h:CMul i j):IntMulOk i j:=by
 rcases h with⟨h1,h2⟩|⟨h1,h2⟩
 ·exact .of_left (intBits_le_64 h1 h2)
 ·exact .of_right (intBits_le_64 h1 h2)
def op_add:OpR X (binaryOp .Add) (rI0 λi j=>.int (i+j)):=opI0 λ_ _ _ _ _ _ _ q=>add_int q
def op_sub:OpR X (binaryOp .Sub) (rI0 λi j=>.int (i - j)):=opI0 λ_ _ _ _ _ _ _ q=>sub_int q
def op_mul:OpR X (binaryOp .Mult) (rI CMul λi j=>.int (i*j)):=opI λ_ _ _ _ _ _ _ hc q=>mul_int q hc.ok
def op_mod:OpR X (binaryOp .Mod) (rI (λ_ j=>0<j) λi j=>.int (i%j)):=opI λi j _ _ _ _ _ hc q=>by
 have h1:(0:Int)<j:=hc
 exact mod_int' (by omega) (by rw[Int.fmod_eq_emod_of_nonneg i (by omega)];exact q)
def op_pow:OpR X (binaryOp .Pow) (rI CPow λi j=>.int (i^j.toNat)):=opI λ_ _ _ _ _ _ _ hc q=>pow_int_small hc.1 hc.2.1 hc.2.2 q
def unI {f:Value->Sem Value}{g:Int->Int}
  (rule:∀(i:Int) (t:Tok) (s:Shared) (Q:VP) (E:VP),Q (.int (g i) s.toks) { s with toks:=s.toks+1 }->wpAny (model X.prog X.w) X.A (f (.int i t)) Q E s) :
  UnR X f (rU λi=>.int (g i)):=by
 intro pins s σ H x v Q I rx h
 obtain⟨i,rfl,q⟩:=h
 obtain⟨t,rfl⟩:=rx
 exact rule i t s _ _ ⟨.int (g i),H,I.tok _,⟨_,rfl⟩,q⟩
def v4m:UnR X (unaryOp .USub) (rU λi=>.int (-i)):=unI λ_ _ _ _ _ q=>neg_int q
end
noncomputable def scal:V->V->Bool
 | .non,.non=>true | .non,.int _=>true | .int _,.non=>true | .non,.bl _=>true | .bl _,.non=>true | .non,.str _=>true | .str _,.non=>true
 | .int _,.int _=>true | .bl _,.bl _=>true | .str _,.str _=>true | .byt _,.byt _=>true
 | .int _,.str _=>true | .str _,.int _=>true | .bl _,.str _=>true | .str _,.bl _=>true
 | _,_=>false
def rEq:R2:=λx y H Q=>scal x y=true/\Q (.bl (decide (x=y))) H
def dec_int :decide (V.int i=V.int j)=(i==j):=by
 rw[z1D]
 simp
def dec_bl :decide (V.bl i=V.bl j)=(i==j):=by
 rw[z1D]
 simp
def dec_str :decide (V.str i=V.str j)=(i==j):=by
 rw[z1D]
 simp
def dec_byt :decide (V.byt i=V.byt j)=(i.toList==j.toList):=by
 rw[z1D]
 cases i
 cases j
 simp
section
variable {X:Cx}{a b c:Expr}{ta tb tc:TE}{pos:Pos}
def u1z (I:Inv X pins σ H s) (q:Q (.bl k) H) (e:k=k'):EP X pins σ Q (.bool k') s:=by
 subst e
 exact⟨.bl k,H,I,rfl,q⟩
def op_eq:OpR X (compareOp .Eq) rEq:=by
 intro pins s σ H x y v u Q I rx ry h
 obtain⟨hs,q⟩:=h
 cases x with
 | non =>
  cases rx
  cases y with
  | non=>cases ry;exact PySem.EqNone.eq_none_none (u1z I q (by simp))
  | bl j=>cases ry;exact PySem.EqNone.eq_none_bool (u1z I q (by simp))
  | int j=>obtain⟨t',rfl⟩:=ry;exact PySem.EqNone.eq_none_int (u1z I q (by simp))
  | str j=>obtain⟨t',rfl⟩:=ry;exact PySem.EqNone.eq_none_str (u1z I q (by simp))
  | _=>exact absurd (show false=true from hs) t8
 | bl i =>
  cases rx
  cases y with
  | non=>cases ry;exact PySem.EqNone.eq_bool_none (u1z I q (by simp))
  | bl j=>cases ry;exact eq_bool (u1z I q dec_bl)
  | str j=>obtain⟨t',rfl⟩:=ry;exact PySem.EqMixed.eq_bool_str (u1z I q (by simp))
  | _=>exact absurd (show false=true from hs) t8
 | int i =>
  obtain⟨t,rfl⟩:=rx
  cases y with
  | non=>cases ry;exact PySem.EqNone.eq_int_none (u1z I q (by simp))
  | int j=>obtain⟨t',rfl⟩:=ry;exact eq_int (u1z I q dec_int)
  | str j=>obtain⟨t',rfl⟩:=ry;exact PySem.EqMixed.eq_int_str (u1z I q (by simp))
  | _=>exact absurd (show false=true from hs) t8
 | str i =>
  obtain⟨t,rfl⟩:=rx
  cases y with
  | non=>cases ry;exact PySem.EqNone.eq_str_none (u1z I q (by simp))
  | bl j=>cases ry;exact PySem.EqMixed.eq_str_bool (u1z I q (by simp))
  | int j=>obtain⟨t',rfl⟩:=ry;exact PySem.EqMixed.eq_str_int (u1z I q (by simp))
  | str j=>obtain⟨t',rfl⟩:=ry;exact eq_str (u1z I q dec_str)
  | _=>exact absurd (show false=true from hs) t8
 | byt i =>
  obtain⟨t,rfl⟩:=rx
  cases y with
  | byt j=>obtain⟨t',rfl⟩:=ry;exact W.eq_bytes (u1z I q dec_byt)
  | _=>exact absurd (show false=true from hs) t8
 | _=>cases y<;>exact absurd (show false=true from hs) t8
def op_lt:OpR X (compareOp .Lt) (rI0 λi j=>.bl (decide (i<j))):=opB0 λ_ _ _ _ _ _ _ q=>lt_int q
def op_le:OpR X (compareOp .LtE) (rI0 λi j=>.bl (decide (i<=j))):=opB0 λ_ _ _ _ _ _ _ q=>le_int q
def op_gt:OpR X (compareOp .Gt) (rI0 λi j=>.bl (decide (j<i))):=opB0 λ_ _ _ _ _ _ _ q=>gt_int q
def op_ge:OpR X (compareOp .GtE) (rI0 λi j=>.bl (decide (j<=i))):=opB0 λ_ _ _ _ _ _ _ q=>ge_int q
def v2g:OpR X (compareOp .In) (λx y H Q=>∃i j,x=.str i/\y=.str j/\Q (.bl (!(Builtin.Str.occurrences j i 0 j.length 1).isEmpty)) H):=by
 intro pins s σ H x y v u Q I rx ry h
 obtain⟨i,j,rfl,rfl,q⟩:=h
 obtain⟨t,rfl⟩:=rx
 obtain⟨t',rfl⟩:=ry
 exact in_str (u1z I q rfl)
def op_isN:OpR X (compareOp .Is) (λx y H Q=>y=.non/\Q (.bl (decide (x=.non))) H):=by
 intro pins s σ H x y v u Q I rx ry h
 obtain⟨rfl,q⟩:=h
 cases ry
 refine is_none_gen (u1z I q ?_)
 cases x<;>first
  | (cases rx;rfl)
  | (obtain⟨t,rfl⟩:=rx;rfl)
def op_notN:OpR X (compareOp .IsNot) (λx y H Q=>y=.non/\Q (.bl (!decide (x=.non))) H):=by
 intro pins s σ H x y v u Q I rx ry h
 obtain⟨rfl,q⟩:=h
 cases ry
 refine isnot_none_gen (u1z I q ?_)
 cases x<;>first
  | (cases rx;rfl)
  | (obtain⟨t,rfl⟩:=rx;rfl)
def nomark (b:Expr) (h:op≠.In:=by decide) (h2:op≠.NotIn:=by decide):behindInMarks op b=false:=by
 have e1:(op==CmpOp.In)=false:=by cases op<;>first|rfl|exact absurd rfl h
 have e2:(op==CmpOp.NotIn)=false:=by cases op<;>first|rfl|exact absurd rfl h2
 cases b<;>simp[behindInMarks,e1,e2]
def pe_cmpR {op:CmpOp}{r:R2} (ho:OpR X (compareOp op) r) (ha:PE X a ta) (hb:PE X b tb) (hm:behindInMarks op b=false):PE X (.Compare a [op] [b] pos) (tOp r ta tb):=by
 intro pins s σ H Q I h
 exact wpAny_Compare1 (binT ha hb I h λv u s2 x y H2 I2 rx ry q=>ho pins s2 σ H2 x y v u Q I2 rx ry q) hm
def tTest (t:TE):TT:=λσ H Q=>t σ H λx H'=>∃k,x=.bl k/\Q k H'
def v1X (ho:OpR X (compareOp op) r) (ha:PE X a ta) (hb:PE X b tb) (hm:behindInMarks op b=false):PT X (.Compare a [op] [b] pos) (tTest (tOp r ta tb)):=by
 intro pins s σ H Q I h
 refine wpAny_isTrue_Compare1 (thn (ha pins s σ H _ I h) λv s1 ⟨x,H1,I1,r1,q1⟩=>thn (hb pins s1 σ H1 _ I1 q1) λu s2 ⟨y,H2,I2,r2,q2⟩ =>
  thn (ho pins s2 σ H2 x y v u _ I2 r1 r2 q2) λc s3 ⟨z,H3,I3,r3,k,e,q3⟩=>?_) hm
 subst e
 cases r3
 exact wpAny_truthy_bool ⟨H3,I3,q3⟩
def tChain (r r':R2) (ta tb tc:TE):TE:=λσ H Q=>ta σ H λx H1=>tb σ H1 λy H2=>r x y H2 λz H3=>∃k,z=.bl k /\
 (if k=true then tc σ H3 λw' H4=>r' y w' H4 Q else Q (.bl false) H3)
def v3F (ho:OpR X (compareOp op) r) (ho':OpR X (compareOp op') r') (ha:PE X a ta) (hb:PE X b tb) (hc:PE X c tc)
 (hm:lastMarks [op,op'] [b,c]=false:=by with_unfolding_all rfl):PE X (.Compare a [op,op'] [b,c] pos) (tChain r r' ta tb tc):=by
 intro pins s σ H Q I h
 refine Compare_chain (thn (ha pins s σ H _ I h) λv s1 ⟨x,H1,I1,r1,q1⟩=>chain_link (thn (hb pins s1 σ H1 _ I1 q1) λu s2 ⟨y,H2,I2,r2,q2⟩ =>
  thn (ho pins s2 σ H2 x y v u _ I2 r1 r2 q2) λd s3 ⟨z,H3,I3,r3,k,e,q3⟩=>?_)) hm
 subst e
 cases r3
 refine wpAny_truthy_bool ?_
 cases k with
 | false=>exact ite_ff ⟨.bl false,H3,I3,rfl,q3⟩
 | true=>exact ite_tt (chain_last (thn (hc pins s3 σ H3 _ I3 q3) λw' s4 z937=>by obtain⟨z',H4,I4,r4,q4⟩:=z937;exact ho' pins s4 σ H4 y z' u w' Q I4 r2 r4 q4))
def v3A (ho:OpR X (compareOp op) r) (ho':OpR X (compareOp op') r') (ha:PE X a ta) (hb:PE X b tb) (hc:PE X c tc)
 (hm:lastMarks [op,op'] [b,c]=false:=by with_unfolding_all rfl):PT X (.Compare a [op,op'] [b,c] pos) (tTest (tChain r r' ta tb tc)):=by
 intro pins s σ H Q I h
 refine isTrue_chain (thn (ha pins s σ H _ I h) λv s1 ⟨x,H1,I1,r1,q1⟩=>test_link (thn (hb pins s1 σ H1 _ I1 q1) λu s2 ⟨y,H2,I2,r2,q2⟩ =>
  thn (ho pins s2 σ H2 x y v u _ I2 r1 r2 q2) λd s3 ⟨z,H3,I3,r3,k,e,q3⟩=>?_)) hm
 subst e
 cases r3
 refine wpAny_truthy_bool ?_
 cases k with
 | false =>
  obtain⟨k',e',q'⟩:=q3
  cases e'
  exact ite_ff ⟨H3,I3,q'⟩
 | true =>
  refine ite_tt (test_last (thn (hc pins s3 σ H3 _ I3 q3) λw' s4 ⟨z',H4,I4,r4,q4⟩=>thn (ho' pins s4 σ H4 y z' u w' _ I4 r2 r4 q4) λd' s5 z942=>?_))
  obtain⟨z2,H5,I5,r5,k2,e2,q5⟩:=z942
  subst e2
  cases r5
  exact wpAny_truthy_bool ⟨H5,I5,q5⟩
def TruV (K:W.Frag) (x:V) (H:Hp) (k:Bool):Prop :=
 match x with
 | .non=>k=false
 | .bl b=>k=b
 | .int i=>k=(i != 0)
 | .str y=>y.length<=sizeLine/\k=((y.length:Int) != 0)
 | .byt y=>y.size<=sizeLine/\k=((y.size:Int) != 0)
 | .ref p=>(∃xs,SqL K H p xs/\k=!xs.isEmpty)\/(∃xs,SqT K H p xs/\k=!xs.isEmpty)\/∃kvs,H p=some (.dK kvs)/\k=!kvs.isEmpty
 | _=>False
def v1p {κ:Type}{kvs:List (κ×V)}{vs:List (κ×Value)} (r:KV kvs vs):(!vs.isEmpty)=!kvs.isEmpty:=by
 cases r<;>rfl
def u6w (r:Vals xs its):(!its.toArray.isEmpty)=!xs.isEmpty:=by
 cases r<;>simp
def line63:(sizeLine:Nat)<2^63:=by rw[sizeLine_eq];decide
def tru_ok:TruR X (λx H Q=>∃k,TruV X.K x H k/\Q k H):=by
 intro pins s σ H x v Q I rx h
 obtain⟨k,e,q⟩:=h
 have hl:=line63
 have hs:sizeLine=16777216:=sizeLine_eq
 cases x with
 | non =>
  cases rx
  have e':k=false:=e
  subst e'
  exact truthy_none ⟨H,I,q⟩
 | bl b =>
  cases rx
  have e':k=b:=e
  subst e'
  exact wpAny_truthy_bool ⟨H,I,q⟩
 | int i =>
  obtain⟨t,rfl⟩:=rx
  have e':k=(i != 0):=e
  subst e'
  exact PySem.P.truthy_int ⟨H,I,q⟩
 | str y =>
  obtain⟨t,rfl⟩:=rx
  obtain⟨hy,e'⟩:y.length<=sizeLine/\k=((y.length:Int) != 0):=e
  subst e'
  exact PySem.P.truthy_str (by omega) ⟨H,I.tok _,q⟩
 | byt y =>
  obtain⟨t,rfl⟩:=rx
  obtain⟨hy,e'⟩:y.size<=sizeLine/\k=((y.size:Int) != 0):=e
  subst e'
  exact W.truthy_bytes (by omega) ⟨H,I.tok _,q⟩
 | ref p =>
  cases rx
  have e':(∃xs,SqL X.K H p xs/\k=!xs.isEmpty)\/(∃xs,SqT X.K H p xs/\k=!xs.isEmpty)\/∃kvs,H p=some (.dK kvs)/\k=!kvs.isEmpty:=e
  rcases e' with⟨xs,hx,e'⟩|⟨xs,hx,e'⟩|⟨kvs,hx,e'⟩
  ·subst e'
   obtain⟨its,r,pl,hz⟩:=I.list hx
   have hlen:=r.length
   exact wpAny_truthy_list pl.isList (by simp only[x8];omega) ⟨H,I.tok _,by rw[u6w r];exact q⟩
  ·subst e'
   obtain⟨its,r,pl,hz⟩:=I.tuple hx
   have hlen:=r.length
   exact truthy_tuple pl (by simp only[x8];omega) ⟨H,I.tok _,by rw[u6w r];exact q⟩
  ·subst e'
   obtain⟨hz,hS,vs,r,m⟩:kvs.length<=sizeLine/\(p==sysModules)=false/\∃vs,KV kvs vs/\s.heap.DictOf (mixKind X.prog X.w) p vs:=I.hok p _ hx
   have hlen:kvs.length=vs.length:=Paired.length r
   exact wpAny_truthy_dict hS m (by omega) ⟨H,I.tok _,by rw[v1p r];exact q⟩
 | _=>exact(show False from e).elim
def v1h:OpR X (binaryOp .Add) (λx y H Q=>∃i j,x=.str i/\y=.str j/\i.length+j.length<=sizeLine/\Q (.str (i++j)) H):=by
 intro pins s σ H x y v u Q I rx ry h
 obtain⟨i,j,rfl,rfl,hz,q⟩:=h
 obtain⟨t,rfl⟩:=rx
 obtain⟨t',rfl⟩:=ry
 exact add_str (λt' tk=>⟨.str (i++j),H,I.tok _,⟨_,rfl⟩,q⟩) hz
def vals1 (r:Vals [x] us):∃u,us=[u]/\RelV x u:=by
 cases r with
 | cons r1 r2=>cases r2;exact⟨_,rfl,r1⟩
def vals2 (r:Vals [x,y] us):∃u w',us=[u,w']/\RelV x u/\RelV y w':=by
 cases r with
 | cons r1 r2 =>
  cases r2 with
  | cons r3 r4=>cases r4;exact⟨_,_,rfl,r1,r3⟩
def v3g (hc:X.calm=true):CallR X (.builtin "max") (λxs H Q=>∃i j,xs=[.int i,.int j]/\Q (.int (if j > i then j else i)) H):=by
 intro pins s σ H xs us Q I r h
 obtain⟨i,j,rfl,q⟩:=h
 obtain⟨u,w',rfl,⟨t,rfl⟩,⟨t',rfl⟩⟩:=vals2 r
 refine max_two_ints (I.ok.hd hc) λh' tk k=>⟨_,H,I.kept k,?_,q⟩
 by_cases hj:j > i
 ·rw[if_pos hj,if_pos hj];exact⟨_,rfl⟩
 ·rw[if_neg hj,if_neg hj];exact⟨_,rfl⟩
def v3f (hc:X.calm=true):CallR X (.builtin "min") (λxs H Q=>∃i j,xs=[.int i,.int j]/\Q (.int (if j<i then j else i)) H):=by
 intro pins s σ H xs us Q I r h
 obtain⟨i,j,rfl,q⟩:=h
 obtain⟨u,w',rfl,⟨t,rfl⟩,⟨t',rfl⟩⟩:=vals2 r
 refine min_two_ints (I.ok.hd hc) λh' tk k=>⟨_,H,I.kept k,?_,q⟩
 by_cases hj:j<i
 ·rw[if_pos hj,if_pos hj];exact⟨_,rfl⟩
 ·rw[if_neg hj,if_neg hj];exact⟨_,rfl⟩
def u8z:CallR X (.type "int") (λxs H Q=>(∃i,xs=[.int i]/\Q (.int i) H)\/∃k,xs=[.bl k]/\Q (.int (if k then 1 else 0)) H):=by
 intro pins s σ H xs us Q I r h
 rcases h with⟨i,rfl,q⟩|⟨k,rfl,q⟩
 ·obtain ⟨u,rfl,t,rfl⟩:=vals1 r
  exact call_int_int ⟨.int i,H,I,⟨_,rfl⟩,q⟩
 ·obtain ⟨u,rfl,r1⟩:=vals1 r
  cases r1
  exact call_int_bool ⟨.int (if k then 1 else 0),H,I.tok _,⟨_,rfl⟩,q⟩
def LenV (K:W.Frag) (x:V) (H:Hp) (n:Nat):Prop :=
 match x with
 | .str y=>y.length<=sizeLine/\n=y.length
 | .byt y=>y.size<=sizeLine/\n=y.size
 | .ref p=>(∃xs,SqL K H p xs/\n=xs.length)\/∃xs,SqT K H p xs/\n=xs.length
 | _=>False
def u7t:CallR X (.builtin "len") (λxs H Q=>∃x n,xs=[x]/\LenV X.K x H n/\Q (.int n) H):=by
 intro pins s σ H xs us Q I r h
 obtain⟨x,n,rfl,e,q⟩:=h
 obtain⟨u,rfl,rx⟩:=vals1 r
 have hl:=line63
 have hs:sizeLine=16777216:=sizeLine_eq
 cases x with
 | str y =>
  obtain⟨t,rfl⟩:=rx
  obtain⟨hy,e'⟩:y.length<=sizeLine/\n=y.length:=e
  subst e'
  exact len_str (by omega) ⟨.int _,H,I.tok _,⟨_,rfl⟩,q⟩
 | byt y =>
  obtain⟨t,rfl⟩:=rx
  obtain⟨hy,e'⟩:y.size<=sizeLine/\n=y.size:=e
  subst e'
  exact W.len_bytes (by omega) ⟨.int _,H,I.tok _,⟨_,rfl⟩,q⟩
 | ref p =>
  cases rx
  have e':(∃xs,SqL X.K H p xs/\n=xs.length)\/∃xs,SqT X.K H p xs/\n=xs.length:=e
  rcases e' with⟨xs,hx,e'⟩|⟨xs,hx,e'⟩
  ·subst e'
   obtain⟨its,r',pl,hz⟩:=I.list hx
   have hlen:=r'.length
   exact Calls.call_len_list pl.isList (by simp only[x8];omega) ⟨.int xs.length,H,I.tok _,⟨_,by simp only[x8];rw[hlen]⟩,q⟩
  ·subst e'
   obtain⟨its,r',pl,hz⟩:=I.tuple hx
   have hlen:=r'.length
   exact len_tuple pl (by simp only[x8];omega) ⟨.int xs.length,H,I.tok _,⟨_,by simp only[x8];rw[hlen]⟩,q⟩
 | _=>exact(show False from e).elim
end
structure ObjM (h:Heap) (x dx C:Addr) (mA:MG):Prop where
 obj:h.get? x=some (W.instObj C dx)
 ns:h.Ns1 dx mA
 ne:dx≠x
set_option tactic.hygienic true in
def u8c {h:Heap}{dx:Addr}{mA:MG} (n:h.Ns1 dx mA):∃od,h.get? dx=some od/\∀name,W.lookIn name od=some (mA name):=by
 obtain⟨o,es,ep,ho,hd,hk,_,hm⟩:=n
 refine⟨o,ho,λname=>?_⟩
 have e:=hm name
 unfold nsFind findBy at e
 rw[<- Array.find?_toList] at e
 unfold W.lookIn
 rw[hd]
 dsimp only
 split
 ·rename_i y q
  rw[q] at e
  exact congrArg some e
 ·rename_i q
  rw[q] at e
  have a:es.toList.any (·.refKey)=false:=by
   rw[List.any_eq_false]
   intro y hy
   obtain⟨z,t,hkey⟩:=hk y (Array.mem_toList_iff.mp hy)
   simp[DictEntry.refKey,hkey]
  have a':¬ es.toList.any (·.refKey)=true:=by rw[a];exact t8
  rw[if_neg a']
  exact congrArg some e
def ObjM.look (I:ObjM h x dx C mA):∃od,W.InstAt h x (W.instObj C dx) C (some od)/\∀name,W.lookIn name od=some (mA name) :=
 let ⟨od,ho,hl⟩:=u8c I.ns
 ⟨od,⟨I.obj,rfl,rfl,ho⟩,hl⟩
section
variable {prog:Program}{w:World}{A:Around}{E:VP}{s:Shared}{K:W.Frag}{x dx C f:Addr}{mA:MG}{name:Str}{v:Value}
def get_map (X:K.In s.heap) (I:ObjM s.heap x dx C mA) (hg:W.plainGet K C name=true) (hh:W.hasDictIn K C=true)
 (ha:W.findIn K (.ref C) name=some none) (hv:mA name=some v) (hv':W.handedIn v=true) (h:Q v { s with toks:=s.toks+1 }) :
 wpAny (model prog w) A (getAttr (.ref x) name expr) Q E s:=by
 obtain⟨od,J,hl⟩:=I.look
 exact W.get_value X J (W.plainGet_of hg).1 (W.findObj_own hh ha rfl (by rw[hl,hv])) hv' h
def set_map (X:K.In s.heap) (I:ObjM s.heap x dx C mA)
 (hs:W.findIn K (.ref C) "__setattr__"=some (some (.builtin "object.__setattr__"))) (hp:W.plainOver K C=true) (ht:W.takerIn K C name=some none) (hh:W.hasDictIn K C=true)
 (hw:PySem.Within mA ns) (hsz:ns.length<=sizeLine)
 (h:∀h',ObjM h' x dx C (λy=>if y=name then some v else mA y)->Heap.SameBut dx s.heap h'->Q () { s with heap:=h',toks:=s.toks+2 }) :
 wpAny (model prog w) A (setAttr (.ref x) name v) Q E s:=by
 obtain⟨od,J,hl⟩:=I.look
 refine W.set_plain X J hs (W.osa_open (s:={ s with toks:=s.toks+1 }) (r:=none) X J hp ht λb=>?_)
 obtain⟨cd,hc,hd'⟩:=W.any_some hh
 have hx:s.heap.get? x=some ⟨.ref C,some dx,.plain,#[]⟩:=I.obj
 refine wpAny_bind (wpAny_pure (wpAny_bind (wpAny_bind (wpAny_loadPart hx (wpAny_bind (W.Looks.here (s:={ s with toks:=s.toks+1 }) (W.looks_clsIn X hc) ?_))))))
 rw[hd']
 refine wpAny_pure (a:=some dx) (wpAny_bind (wpAny_pure (wpAny_bind ?_)))
 refine wpAny_nsSet1 (s:={ s with toks:=s.toks+1 }) I.ns λh' hn2 hs2=>?_
 obtain⟨oD,esD,epD,hoD,hdD,hcD⟩:=hn2.count (PySem.Within.cons name v hw)
 refine wpAny_bind (wpAny_lookBehind hoD (by rw[hdD];exact pastItsLine_dict (v5 hcD (by rw[u9];omega))) ?_)
 exact wpAny_pure (h _ ⟨(hs2.2 _ (Ne.symm I.ne)).trans I.obj,hn2,I.ne⟩ hs2)
def v3O (X:K.In s.heap) (hm:W.makesIn K C=true)
 (hi:W.findIn K (.ref C) "__init__"=some (some (.ref f))) (hf:W.typeIn K (.ref f)=some (.type "function"))
 (h:codeAny (model prog w) (A.under (.builtin "type.__call__" ⟨.ref C::vs,kw⟩)) (.call (.ref f) ⟨.ref (s.heap.objs.size+1)::vs,kw⟩) (W.InitBack (s.heap.objs.size+1) R)
 { s with heap:=(s.heap.push W.emptyDict).push (W.instObj C s.heap.objs.size) }) :
 codeAny (model prog w) A (.call (.ref C) ⟨vs,kw⟩) R s:=by
 obtain⟨hh,g,d,t,os⟩:=s
 exact W.make_core (W.makes_of X hm) (W.looks_findIn X hi) (λself=>W.bind_fn X self hf) (.inl rfl) h
end
noncomputable def putF (f:Str) (v:V):List (Str×V)->List (Str×V)
 | []=>[(f,v)]
 | (g,x)::r=>if g=f then (g,v)::r else (g,x)::putF f v r
theorem u5A (f g:Str) (v:V):∀fs:List (Str×V),(putF f v fs).lookup g=if g=f then some v else fs.lookup g
 | []=>by
  show List.lookup g [(f,v)]=_
  by_cases h:g=f
  ·have hb:(g==f)=true:=beq_iff_eq.mpr h
   simp only[List.lookup,hb,if_pos h]
  ·have hb:(g==f)=false:=beq_eq_false_iff_ne.mpr h
   simp only[List.lookup,hb,if_neg h]
 | (k,x)::r=>by
  have ih:=u5A f g v r
  rw[show putF f v ((k,x)::r)=(if k=f then (k,v)::r else (k,x)::putF f v r) from rfl]
  by_cases hk:k=f
  ·rw [if_pos hk]
   by_cases h:g=k
   ·have hb:(g==k)=true:=beq_iff_eq.mpr h
    simp only[List.lookup,hb,if_pos (h.trans hk)]
   ·have hb:(g==k)=false:=beq_eq_false_iff_ne.mpr h
    simp only[List.lookup,hb,if_neg (λe:g=f=>h (e.trans hk.symm))]
  ·rw [if_neg hk]
   by_cases h:g=k
   ·have hb:(g==k)=true:=beq_iff_eq.mpr h
    simp only[List.lookup,hb,if_neg (λe:g=f=>hk (h.symm.trans e))]
   ·have hb:(g==k)=false:=beq_eq_false_iff_ne.mpr h
    simp only[List.lookup,hb]
    exact ih
theorem u5D (f:Str) (v:V):∀fs:List (Str×V),f∈(putF f v fs).map (·.1)/\∀g,g∈fs.map (·.1)->g∈(putF f v fs).map (·.1)
 | []=>⟨by simp[putF],λg h=>by simp at h⟩
 | (k,x)::r=>by
  obtain⟨i1,i2⟩:=u5D f v r
  rw[show putF f v ((k,x)::r)=(if k=f then (k,v)::r else (k,x)::putF f v r) from rfl]
  by_cases hk:k=f
  ·rw [if_pos hk]
   subst hk
   exact⟨by simp,λg h=>by simpa using h⟩
  ·rw [if_neg hk]
   refine⟨?_,λg h=>?_⟩
   ·rw [w5]
    exact z0 _ i1
   ·rw [w5] at h |-
    rcases z8.mp h with e|e
    ·exact z8.mpr (.inl e)
    ·exact z0 _ (i2 g e)
theorem u5C (f:Str) (v:V):∀fs:List (Str×V),(putF f v fs).length<=fs.length+1
 | []=>by simp[putF]
 | (k,x)::r=>by
  have ih:=u5C f v r
  rw[show putF f v ((k,x)::r)=(if k=f then (k,v)::r else (k,x)::putF f v r) from rfl]
  by_cases hk:k=f
  ·rw[if_pos hk,u9,u9];omega
  ·rw[if_neg hk,u9,u9];omega
def RelO.some_of (r:RelO (some v) o):∃u,o=some u/\RelV v u:=by
 cases o with
 | none=>exact(show False from r).elim
 | some u=>exact⟨u,rfl,r⟩
def u8j (r:RelV v u):W.handedIn u=true:=by
 cases v with
 | non=>cases (show u=Value.none from r);rfl
 | bl b=>cases (show u=Value.bool b from r);rfl
 | int i=>obtain⟨t,e⟩:=(show ∃t,u=Value.int i t from r);cases e;rfl
 | str x=>obtain⟨t,e⟩:=(show ∃t,u=Value.str x t from r);cases e;rfl
 | byt b=>obtain⟨t,e⟩:=(show ∃t,u=Value.bytes b t from r);cases e;rfl
 | flt b=>obtain⟨t,e⟩:=(show ∃t,u=Value.float b t from r);cases e;rfl
 | ref a=>cases (show u=Value.ref a from r);rfl
 | ty n=>cases (show u=Value.type n from r);rfl
section
variable {P:Program}{w:World}{H H':Hp}{h h':Heap}{a C dx:Addr}{fs fs':List (Str×V)}
def u9u (hok:HOk P w H h) (e:H a=some (.ins C dx fs)):∃mA,ObjM h a dx C mA/\(∀f,RelO (fs.lookup f) (mA f))/\PySem.Within mA (fs.map (·.1))/\fs.length<=1000/\H dx=some (.own a):=by
 obtain⟨d,z,ne,ob,mA,n,r,q⟩:=(show ObjOk P w H h a (.ins C dx fs) from hok a _ e)
 exact⟨mA,⟨ob,n,ne⟩,r,q,z,d⟩
end
structure Cls (K:W.Frag) (C:Addr):Prop where
 pg:W.plainGet K C Str.empty=true
 hd:W.hasDictIn K C=true
 po:W.plainOver K C=true
 sa:W.findIn K (.ref C) "__setattr__"=some (some (.builtin "object.__setattr__"))
def Cls.get {K:W.Frag}{C:Addr} (c:Cls K C) (f:Str):W.plainGet K C f=true:=c.pg
def NoAttr (K:W.Frag) (C:Addr) (f:Str):Prop:=W.findIn K (.ref C) f=some none
def NoAttr.taker {K:W.Frag}{C:Addr}{f:Str} (n:NoAttr K C f):W.takerIn K C f=some none:=by
 unfold W.takerIn
 rw[show W.findIn K (.ref C) f=some none from n]
 rfl
section
variable {X:Cx}{pins:LO}{σ:St}{H:Hp}{s:Shared}{a C dx:Addr}{fs:List (Str×V)}{f:Str}{v:V}{A:Around}{E:VP}
def v1s (I:Inv X pins σ H s) (e:H a=some (.ins C dx fs)) (c:Cls X.K C) (n:NoAttr X.K C f) (l:fs.lookup f=some v)
 (h:∀u s',Inv X pins σ H s'->RelV v u->Q u s'):wpAny (model X.prog X.w) A (getAttr (.ref a) f b) Q E s:=by
 obtain⟨mA,O,r,_,_,_⟩:=u9u I.hok e
 obtain⟨u,hu,ru⟩:=RelO.some_of (v:=v) (o:=mA f) (by rw[<- l];exact r f)
 exact get_map I.kIn O (c.get f) c.hd n hu (u8j ru) (h u _ (I.tok _) ru)
def v0I (I:Inv X pins σ H s) (e:H a=some (.ins C dx fs)) (c:Cls X.K C) (n:NoAttr X.K C f) (hl:fs.length<1000) (ry:RelV y u)
 (h:∀s',Inv X pins σ (upd H a (.ins C dx (putF f y fs))) s'->Q () s'):wpAny (model X.prog X.w) A (setAttr (.ref a) f u) Q E s:=by
 obtain⟨mA,O,r,wi,_,ho⟩:=u9u I.hok e
 have hz:(fs.map (·.1)).length<=sizeLine:=by rw[v6,sizeLine_eq];omega
 refine set_map I.kIn O c.sa c.po n.taker c.hd wi hz λh' O' sb=>h _ ?_
 have hd:∃o,h'.get? dx=some o:=let ⟨o,_,_,e',_⟩:=O'.ns;⟨o,e'⟩
 refine I.write (x:=a) (e:=dx) (by rw[e];exact True.intro) (.inr ho) (λb q hb z=>(sb.2 b hb).trans z) hd ?_
 refine⟨by rw[u0o O.ne];exact ho,?_,O.ne,O'.obj,_,O'.ns,λg=>?_,λg hg=>?_⟩
 ·have:=u5C f y fs;omega
 ·show RelO ((putF f y fs).lookup g) (if g=f then some u else mA g)
  rw[u5A]
  by_cases q:g=f
  ·rw[if_pos q,if_pos q];exact ry
  ·rw[if_neg q,if_neg q];exact r g
 ·by_cases q:g=f
  ·rw[q];exact(u5D f y fs).1
  ·refine (u5D f y fs).2 g (wi g fun z=>hg ?_)
   show(if g=f then some u else mA g)=none
   rw[if_neg q];exact z
def Inv.made (I:Inv X pins σ H s):Inv X pins σ (upd (upd H s.heap.objs.size (.own (s.heap.objs.size+1))) (s.heap.objs.size+1) (.ins C s.heap.objs.size []))
 { s with heap:=(s.heap.push W.emptyDict).push (W.instObj C s.heap.objs.size) }:=by
 have e1:(s.heap.push W.emptyDict).get? s.heap.objs.size=some W.emptyDict:=z7 s.heap rfl
 have e2:((s.heap.push W.emptyDict).push (W.instObj C s.heap.objs.size)).get? (s.heap.objs.size+1)=some (W.instObj C s.heap.objs.size):=by
  have:=z7 (s.heap.push W.emptyDict) (o:=W.instObj C s.heap.objs.size) rfl
  rwa [Heap.size_push] at this
 have e3:(s.heap.push W.emptyDict).Ns s.heap.objs.size (λ_=>none):=⟨W.emptyDict,#[],_,e1,rfl,(λe he=>absurd he (by simp)),λ_=>rfl⟩
 have I1:=I.laid (a:=s.heap.objs.size) (o:=.own (s.heap.objs.size+1)) (h':=s.heap.push W.emptyDict) (t':=s.toks) (λb u q=>z5 _ q) (y7 _) ⟨_,e1⟩
 refine I1.laid (a:=s.heap.objs.size+1) (o:=.ins C s.heap.objs.size []) (t':=s.toks) (λb u q=>z5 _ q) (Nat.le_of_eq (Heap.size_push _ _)) ?_
 have ne:s.heap.objs.size≠s.heap.objs.size+1:=v9 (Nat.lt_succ_self _)
 refine⟨by rw[u0o ne,u0j],z1H _,ne,e2,λ_=>none,(Heap.Ns1.of_empty e3).at λo q=>z5 _ q,λ_=>True.intro,λy hy=>absurd rfl hy⟩
def v3i (hb:attributeBase e f env (eval e env)=eval e env)
 (h:wpAny (model prog w) A (eval e env) (λo s₁=>wpAny (model prog w) A (getAttr o f true) Q E s₁) E s):wpAny (model prog w) A (eval (.Attribute e f pos) env) Q E s :=
 Attribute_any_ h (by rw[arm_eval_Attribute,hb])
end
def tFld (K:W.Frag) (ta:TE) (f:Str):TE:=λσ H Q=>ta σ H λx H1=>∃a C dx fs v,x=.ref a/\H1 a=some (.ins C dx fs)/\Cls K C/\NoAttr K C f/\fs.lookup f=some v/\Q v H1
def sFld (K:W.Frag) (ta tv:TE) (f:Str):TS:=λD σ H=>tv σ H λy H1=>ta σ H1 λx H2=>∃a C dx fs,x=.ref a/\H2 a=some (.ins C dx fs)/\Cls K C/\NoAttr K C f/\fs.length<1000 /\
 D.nx σ (upd H2 a (.ins C dx (putF f y fs)))
section
variable {X:Cx}{o e value:Expr}{f:Str}{pos pos' tpos:Pos}{ta tv:TE}
def v4x (he:PE X e ta) (hb:attributeBase e f X.env (eval e X.env)=eval e X.env):PE X (.Attribute e f pos) (tFld X.K ta f):=by
 intro pins s σ H Q I h
 refine v3i hb (thn (he pins s σ H _ I h) λu s1 z943=>?_)
 obtain⟨x,H1,I1,rx,a,C,dx,fs,v,ex,ea,c,n,l,q⟩:=z943
 subst ex
 obtain rfl:u=Value.ref a:=rx
 exact v1s I1 ea c n l λu' s2 I2 ru=>⟨v,H1,I2,ru,q⟩
def ps_fld (ha:PE X o ta) (hv:PE X value tv) (hs:swapsWith value (some (.Attribute o f pos')) pos.line X.env=pure false):PS X (.Assign [.Attribute o f pos'] value pos) (sFld X.K ta tv f):=by
 intro pins s σ H D I h
 refine plainObj_wpAny_Assign_Attribute (thn (hv pins s σ H _ I h) λu s1 ⟨y,H1,I1,ry,q⟩=>thn (ha pins s1 σ H1 _ I1 q) λov s2 z945=>?_) hs
 obtain⟨x,H2,I2,rx,a,C,dx,fs,ex,ea,c,n,l,q2⟩:=z945
 subst ex
 obtain rfl:ov=Value.ref a:=rx
 exact v0I I2 ea c n l ry λs3 I3=>⟨σ,_,I3,q2⟩
end
section
variable {X:Cx}{pins:LO}{σ:St}{H:Hp}{s:Shared}{A:Around}{E:VP}{Q:VP}{c:Value}{b:Bool}
inductive TyOf (K:W.Frag) (H:Hp):V->Value->Prop where
 | non:TyOf K H .non (.type "NoneType")
 | bl (x:Bool):TyOf K H (.bl x) (.type "bool")
 | int (i:Int):TyOf K H (.int i) (.type "int")
 | str (x:Str):TyOf K H (.str x) (.type "str")
 | flt (x:UInt64):TyOf K H (.flt x) (.type "float")
 | lst {a:Addr}{xs:List V} (e:H a=some (.lst xs)):TyOf K H (.ref a) (.type "list")
 | frz {a:Addr}{o:Obj}{xs:List V} (e:H a=some (.frz o (.lst xs))):TyOf K H (.ref a) (.type "list")
 | tup {a:Addr}{xs:List V} (e:H a=some (.tup xs)):TyOf K H (.ref a) (.type "tuple")
 | dK {a:Addr}{kvs:List (Key×V)} (e:H a=some (.dK kvs)):TyOf K H (.ref a) (.type "dict")
 | dT {a:Addr}{kvs:List (List Key×V)} (e:H a=some (.dT kvs)):TyOf K H (.ref a) (.type "dict")
 | ins {a C dx:Addr}{fs:List (Str×V)} (e:H a=some (.ins C dx fs)) (cl:Cls K C) (ha:W.findIn K (.ref C) "__class__"=some (some (.builtin "object.__class__")))
   (hn:W.specialIn K (.builtin "object.__class__") "__get__"=some (some (.builtin "getset_descriptor.__get__"))) (htk:W.takesIn K (.builtin "object.__class__")=some true)
   (hm:W.mroIn K C (.type "object")=some true):TyOf K H (.ref a) (.ref C)
def u1X (I:Inv X pins σ H s) (rx:RelV x u) (ty:TyOf X.K H x t) (e:W.kitOne X.K t c=some b) (h:∀tk,Q (.bool b) { s with toks:=tk }) :
 wpAny (model X.prog X.w) A (call (.builtin "isinstance") [u,c]) Q E s:=by
 cases ty with
 | non=>cases (show u=Value.none from rx);exact W.kia_one W.kitx_none I.kIn True.intro e (λz=>nomatch z) h
 | bl y=>cases (show u=Value.bool y from rx);exact W.kia_one W.kitx_bool I.kIn True.intro e (λz=>nomatch z) h
 | int i=>obtain⟨t,q⟩:=(show ∃t,u=Value.int i t from rx);cases q;exact W.kia_one W.kitx_int I.kIn True.intro e (λz=>nomatch z) h
 | str y=>obtain⟨t,q⟩:=(show ∃t,u=Value.str y t from rx);cases q;exact W.kia_one W.kitx_str I.kIn True.intro e (λz=>nomatch z) h
 | flt y=>obtain⟨t,q⟩:=(show ∃t,u=Value.float y t from rx);cases q;exact W.kia_one W.kitx_float I.kIn True.intro e (λz=>nomatch z) h
 | @lst a xs ea =>
  cases (show u=Value.ref a from rx)
  obtain⟨_,_,n,_,h1⟩:=(show ObjOk X.prog X.w H s.heap a (.lst xs) from I.hok a _ ea)
  exact W.kia_one W.kitx_list I.kIn ⟨_,h1,rfl⟩ e (λz=>nomatch z) h
 | @frz a ob xs ea =>
  cases (show u=Value.ref a from rx)
  obtain⟨_,_,_,n,_,h1⟩:=(show ObjOk X.prog X.w H s.heap a (.frz ob (.lst xs)) from I.hok a _ ea)
  exact W.kia_one W.kitx_list I.kIn ⟨_,h1,rfl⟩ e (λz=>nomatch z) h
 | @tup a xs ea =>
  cases (show u=Value.ref a from rx)
  obtain⟨_,_,_,p⟩:=(show ObjOk X.prog X.w H s.heap a (.tup xs) from I.hok a _ ea)
  obtain⟨o,h1,h2,_⟩:=p
  exact W.kia_one W.kitx_tuple I.kIn ⟨o,h1,h2⟩ e (λz=>nomatch z) h
 | @dK a kvs ea =>
  cases (show u=Value.ref a from rx)
  obtain⟨_,_,vs,_,p⟩:=(show ObjOk X.prog X.w H s.heap a (.dK kvs) from I.hok a _ ea)
  obtain⟨o,es,ep,h1,h2,_⟩:=p
  exact W.kia_one W.kitx_dict I.kIn ⟨o,h1,h2.1⟩ e (λz=>nomatch z) h
 | @dT a kvs ea =>
  cases (show u=Value.ref a from rx)
  obtain⟨_,_,xs,_,o,es,ep,h1,h2,_⟩:=(show ObjOk X.prog X.w H s.heap a (.dT kvs) from I.hok a _ ea)
  exact W.kia_one W.kitx_dict I.kIn ⟨o,h1,h2.1⟩ e (λz=>nomatch z) h
 | @ins a C dx fs ea cl ha hn htk hm =>
  cases (show u=Value.ref a from rx)
  obtain⟨mA,O,_⟩:=u9u I.hok ea
  obtain⟨od,J,_⟩:=O.look
  exact W.kia_one (W.kitx_own (cl.get _) cl.hd ha hn htk hm) I.kIn J e (λz=>nomatch z) h
end
structure Room (k:Nat) (A:Around):Prop where
 hd:A.handled=none
 dp:A.depth+3*k+5<recursionLimit
 un:A.units+16*k+200<cLine
def Room.mono (r:Room k A) (h:j<=k):Room j A:=⟨r.hd,by have:=r.dp;omega,by have:=r.un;omega⟩
theorem Room.deeper (r:Room (k+1) A) (env:Env):Room k (A.deeper env) :=
 ⟨r.hd,by have:=r.dp;show A.depth+1+3*k+5<_;omega,by have:=r.un;show A.units+3+16*k+200<_;omega⟩
def v1m {A:Around}{C:Addr}{us:List Value}{kw:List (Str×Value)}:(A.under (.builtin "type.__call__" ⟨.ref C::us,kw⟩)).depth=A.depth+1:=by
 first|rfl|simp[Around.under,Code.weight,Code.isCreation,Code.isGuard,Code.isCaller,Code.frames,Code.isFrame,guardIds]
def v1l {A:Around}{C:Addr}{us:List Value}{kw:List (Str×Value)}:(A.under (.builtin "type.__call__" ⟨.ref C::us,kw⟩)).units=A.units+1:=by
 first|rfl|simp[Around.under,Code.cUnits,Code.frames,Code.isFrame]
def Room.make (r:Room (k+1) A) (C:Addr) (us:List Value) (kw:List (Str×Value)):Room k (A.under (.builtin "type.__call__" ⟨.ref C::us,kw⟩)) :=
 ⟨r.hd,by have:=r.dp;rw[v1m];omega,by have:=r.un;rw[v1l];omega⟩
theorem Room.depth (r:Room k A):A.depth<recursionLimit:=by have:=r.dp;omega
def tNil:TA:=λ_ H Q=>Q [] H
def tCons (ta:TE) (tr:TA):TA:=λσ H Q=>ta σ H λx H1=>tr σ H1 λxs H2=>Q (x::xs) H2
section
variable {X:Cx}{e:Expr}{es:List Expr}{te:TE}{t:TA}{pos:Pos}
def u4z:PA X [] tNil:=λ_ _ _ _ H Q I h=>Calls.spliced_nil ⟨[],H,I,.nil,h⟩
def pa_cons (ha:PE X e te) (hr:PA X es t) (hs:starEach (e::es) X.env=(false,eval e X.env)::starEach es X.env:=by rfl):PA X (e::es) (tCons te t):=by
 intro pos pins s σ H Q I h
 rw[hs]
 show wpAny _ _ (spliced ((false,eval e X.env)::backTo pos (starEach es X.env))) _ _ s
 refine Calls.spliced_cons (thn (ha pins s σ H _ I h) λu s1 z946=>?_)
 obtain⟨x,H1,I1,r1,q1⟩:=z946
 exact thn (hr pos pins s1 σ H1 _ I1 q1) λus s2 ⟨xs,H2,I2,r2,q2⟩=>⟨x::xs,H2,I2,.cons r1 r2,q2⟩
def tTup (t:TA):TE:=λσ H Q=>t σ H λxs H1=>xs.length<=sizeLine/\∀p,H1 p=none->Q (.ref p) (upd H1 p (.tup xs))
def tLst (t:TA):TE:=λσ H Q=>t σ H λxs H1=>xs.length<=sizeLine/\∀p,H1 p=none->Q (.ref p) (upd H1 p (.lst xs))
def pe_tup {x1} (h:PA X es t):PE X (.Tuple es x1 pos) (tTup t):=by
 intro pins s σ H Q I hq
 refine wpAny_Tuple_spliced (thn (h pos pins s σ H _ I hq) λus s1 ⟨xs,H1,I1,r,z,q⟩=>⟨by rw[<- r.length];exact z,?_⟩)
 have hf:H1 s1.heap.objs.size=none:=I1.hok.fresh (y7 _)
 refine⟨.ref s1.heap.objs.size,upd H1 s1.heap.objs.size (.tup xs),I1.laid (t':=s1.toks) (λb u e=>z5 _ e) (y7 _) ?_,rfl,q _ hf⟩
 exact⟨z,us,r,⟨_,z7 _ rfl,rfl,_,rfl⟩⟩
def v2d (h:PA X es t):PE X (.List es pos) (tLst t):=by
 intro pins s σ H Q I hq
 refine wpAny_List_spliced (thn (h pos pins s σ H _ I hq) λus s1 ⟨xs,H1,I1,r,z,q⟩=>⟨by rw[<- r.length];exact z,?_⟩)
 have hf:H1 s1.heap.objs.size=none:=I1.hok.fresh (y7 _)
 refine⟨.ref s1.heap.objs.size,upd H1 s1.heap.objs.size (.lst xs),I1.laid (t':=s1.toks) (λb u e=>z5 _ e) (y7 _) ?_,rfl,q _ hf⟩
 exact⟨z,us,0,r,z7 _ rfl⟩
end
abbrev Sp:=List V->Hp->VK->XK->Prop
abbrev CXT:=List Env->Hp->Shared->XK->Value->Shared->Prop
structure Env0 (P:Program) (w:World) (K:W.Frag) (mg:MG) (base:Heap) (A:Around) (outer:List Env) (s:Shared) (H:Hp):Prop where
 frames:A.frames=some outer
 mod:Mod K mg base
 bs:∀b o,base.get? b=some o->s.heap.get? b=some o/\H b=none
 bsz:base.objs.size<=s.heap.objs.size
 funs:s.heap.FunFrames base outer
 frf:∀b∈frs outer,H b=none
 hok:HOk P w H s.heap
 bare:AllBare s.gens
def CE (outer:List Env) (P:Program) (w:World) (H:Hp) (s:Shared) (Q:VK) (u:Value) (s':Shared):Prop :=
 ∃v H',s'.os=s.os/\AllBare s'.gens/\Un (frs outer) [] H H' s.heap s'.heap/\HOk P w H' s'.heap/\RelV v u/\Q v H'
def CR (CX:CXT) (outer:List Env) (P:Program) (w:World) (H:Hp) (s:Shared) (Q:VK) (E:XK) (r:Result) (s':Shared):Prop :=
 match r with
 | .ok (.ret u)=>CE outer P w H s Q u s'
 | .ok _=>False
 | .error e=>CX outer H s E e s'
structure FnOk (P:Program) (w:World) (K:W.Frag) (mg:MG) (base:Heap) (CX:CXT) (k:Nat) (f:Addr) (fd:FuncData) (ps:List Str) (sp:Sp):Prop where
 len:∀vs H Q E,sp vs H Q E->vs.length=ps.length
 run:∀(A:Around) (outer:List Env) (s:Shared) (H:Hp) (args:Args) (us:List Value) (vs:List V) (Q:VK) (E:XK),Room k A->Env0 P w K mg base A outer s H->BindsTo s fd args (ps.zip us)->Vals vs us->sp vs H Q E ->
  codeAny (model P w) A (.call (.ref f) args) (CR CX outer P w H s Q E) s
def FnOk.imp {P:Program}{w:World}{K:W.Frag}{mg:MG}{base:Heap}{CX:CXT}{k:Nat}{f:Addr}{fd:FuncData}{ps:List Str}{sp sp':Sp} (F:FnOk P w K mg base CX k f fd ps sp)
  (h:∀vs H Q E,sp' vs H Q E->sp vs H Q E):FnOk P w K mg base CX k f fd ps sp' :=
 ⟨λvs H Q E q=>F.len vs H Q E (h _ _ _ _ q),λA outer s H args us vs Q E hr he hb hv hs=>F.run A outer s H args us vs Q E hr he hb hv (h _ _ _ _ hs)⟩
def Env0.make {P:Program}{w:World}{K:W.Frag}{mg:MG}{base:Heap}{A:Around}{outer:List Env}{s:Shared}{H:Hp} (e:Env0 P w K mg base A outer s H) (C:Addr) (us:List Value) (kw:List (Str×Value)) :
  Env0 P w K mg base (A.under (.builtin "type.__call__" ⟨.ref C::us,kw⟩)) outer s H:=⟨by first|exact e.frames|(simpa[Around.under,Code.envs,Code.isFrame,pushEnvs] using e.frames),e.mod,e.bs,e.bsz,e.funs,e.frf,e.hok,e.bare⟩
section
variable {X:Cx}{pins:LO}{σ:St}{H:Hp}{s s':Shared}
def Inv.env0 (I:Inv X pins σ H s):Env0 X.prog X.w X.K X.mg X.base X.A X.stack s H :=
 ⟨I.ok.frames,I.ok.mod,I.bs,v5 I.ok.bsz I.sz,I.stack,I.stkFree,I.hok,I.bare⟩
def Inv.after (I:Inv X pins σ H s) (h:CE X.stack X.prog X.w H s Q u s'):EP X pins σ Q u s':=by
 obtain⟨v,H',os,bare,un,hok,r,q⟩:=h
 obtain⟨hh,g,d,t,os'⟩:=s'
 obtain rfl:os'=s.os:=os
 exact⟨v,H',I.call (h':=hh) (g':=g) (d':=d) (t':=t) (ch:=[]) un hok bare (λb z=>absurd z (by simp)),r,q⟩
end
def tCall (sp:Sp) (dvs:List V) (E:XK) (t:TA):TE:=λσ H Q=>t σ H λvs H1=>sp (vs++dvs) H1 Q E
def Binds (K:W.Frag) (fd:FuncData) (ps:List Str) (ds:List Value):Prop :=
 ∀(s:Shared) (us:List Value),K.In s.heap->(us++ds).length=ps.length->BindsTo s fd ⟨us,[]⟩ (ps.zip (us++ds))
def Binds.all {K:W.Frag}{fd:FuncData}{ps:List Str} (h:∀us:List Value,us.length=ps.length->bindArgs fd ⟨us,[]⟩=pure (ps.zip us)):Binds K fd ps []:=λs us _ hl=>by
 rw[List.append_nil] at hl |-
 exact .of_eq (h us hl)
def Passes (CX:CXT) (X:Cx) (E:XK):Prop:=∀(pins:LO) (σ:St) (H:Hp) (s:Shared) (e:Value) (s':Shared),Inv X pins σ H s->CX X.stack H s E e s'->X.xe e s'
section
variable {X:Cx}{CX:CXT}{k:Nat}{f C:Addr}{fd:FuncData}{ps:List Str}{sp:Sp}{dvs:List V}{ds:List Value}{E:XK}{x m:Str}{p pos apos:Pos}{e o:Expr}{es:List Expr}{ta:TE}{t:TA}
def run_fn (F:FnOk X.prog X.w X.K X.mg X.base CX k f fd ps sp) (hr:Room k X.A) (hb:Binds X.K fd ps ds) (hd:Vals dvs ds) (hx:Passes CX X E)
 (I:Inv X pins σ H s) (r:Vals vs us) (h:sp (vs++dvs) H Q E):wpAny (model X.prog X.w) X.A (call (.ref f) us) (EP X pins σ Q) X.xe s:=by
 have r2:Vals (vs++dvs) (us++ds):=r.append hd
 have hl:(us++ds).length=ps.length:=by rw[<- r2.length];exact F.len _ _ _ _ h
 refine wpAny_call (codeAny_mono (F.run X.A X.stack s H ⟨us,[]⟩ (us++ds) (vs++dvs) Q E hr I.env0 (hb s us I.kIn hl) r2 h) λr s' hq=>?_)
 cases r with
 | error e=>exact hx pins σ H s e s' I hq
 | ok fl =>
  cases fl with
  | ret u=>exact I.after hq
  | next=>exact False.elim hq
  | brk=>exact False.elim hq
  | cont=>exact False.elim hq
def pe_call (F:FnOk X.prog X.w X.K X.mg X.base CX k f fd ps sp) (hr:Room k X.A) (hg:Gl X x) (hm:X.mg x=some (.ref f)) (hk:W.keepIn X.K (.ref f)=true) (hb:Binds X.K fd ps ds) (hd:Vals dvs ds) (hx:Passes CX X E)
 (ha:PA X (e::es) t) (hdb:(x==("__debug__":Str))=false:=by decide) (he:starEach (e::es) X.env=(false,eval e X.env)::starEach es X.env:=by rfl) (hpl:(backTo pos (starEach es X.env)).any (·.1)=false:=by rfl) :
 PE X (.Call (.Name x p) (e::es) [] pos) (tCall sp dvs E t):=by
 intro pins s σ H Q I h
 refine wpAny_Call_Name_kw (u3C I hg hm ?_ hdb)
 refine W.callWith_K (h₀:=X.base) I.ok.mod.kin hk (thn (ha pos pins s σ H _ I h) λus s1 ⟨vs,H1,I1,r,q⟩=>⟨I1.kIn,?_⟩) he hpl
 exact run_fn F hr hb hd hx I1 r q
structure Mk (K:W.Frag) (C f:Addr):Prop where
 makes:W.makesIn K C=true
 init:W.findIn K (.ref C) "__init__"=some (some (.ref f))
 fn:W.isFn K (.ref f)=true
 kp:W.keepIn K (.ref C)=true
end
structure FnScope (N P:List Str) (sc:Scope):Prop where
 kind:sc.kind=.function
 co:sc.isCoroutine=false
 gen:sc.isGenerator=false
 nd:N.Nodup
 pre:N.take P.length=P
 par:∀x∈P,sc.names.lookup x=some .local\/sc.names.lookup x=some .cell
 nofree:∀y∈sc.names,y.2≠.free
theorem u8B {kindOf:Str->Option NameKind}{x:Str}:∀{binds:List (Str×Value)}{m:MG},(∀v,(x,v)∉binds)->bindL kindOf binds m x=m x
 | [],_,_=>rfl
 | (n,v)::r,m,h=>by
  unfold bindL
  rw[u8B λw hw=>h w (z0 _ hw)]
  split
  ·have:x≠n:=by rintro rfl;exact h v z6
   simp[this]
  ·rfl
theorem u8D {kindOf:Str->Option NameKind}{x:Str}:∀{binds:List (Str×Value)}{m:MG},(∀v,(x,v)∉binds)->bindC kindOf binds m x=m x
 | [],_,_=>rfl
 | (n,v)::r,m,h=>by
  unfold bindC
  rw[u8D λw hw=>h w (z0 _ hw)]
  split
  ·rfl
  ·have:x≠n:=by rintro rfl;exact h v z6
   simp[this]
theorem u8C {kindOf:Str->Option NameKind}{x:Str}{v:Value}:∀{P:List Str}{vs:List Value}{i:Nat}{m:MG},P.Nodup->P[i]?=some x->vs[i]?=some v->kindOf x=some .local ->
  bindL kindOf (P.zip vs) m x=some v
 | [],_,_,_,_,h,_,_=>by simp at h
 | _::_,[],_,_,_,_,h,_=>by simp at h
 | p::P,w::vs,0,m,nd,h1,h2,hk=>by
  simp at h1 h2;subst h1;subst h2
  show bindL kindOf ((p,w)::P.zip vs) m p=_
  unfold bindL
  rw[u8B λv hv=>(z3B.mp nd).1 (List.of_mem_zip hv).1,if_pos hk]
  simp
 | p::P,w::vs,i+1,m,nd,h1,h2,hk=>by
  show bindL kindOf ((p,w)::P.zip vs) m x=_
  unfold bindL
  exact u8C (i:=i) (z3B.mp nd).2 (by simpa using h1) (by simpa using h2) hk
theorem u8E {kindOf:Str->Option NameKind}{x:Str}{v:Value}:∀{P:List Str}{vs:List Value}{i:Nat}{m:MG},P.Nodup->P[i]?=some x->vs[i]?=some v->kindOf x≠some .local ->
  bindC kindOf (P.zip vs) m x=some v
 | [],_,_,_,_,h,_,_=>by simp at h
 | _::_,[],_,_,_,_,h,_=>by simp at h
 | p::P,w::vs,0,m,nd,h1,h2,hk=>by
  simp at h1 h2;subst h1;subst h2
  show bindC kindOf ((p,w)::P.zip vs) m p=_
  unfold bindC
  rw[u8D λv hv=>(z3B.mp nd).1 (List.of_mem_zip hv).1,if_neg hk]
  simp
 | p::P,w::vs,i+1,m,nd,h1,h2,hk=>by
  show bindC kindOf ((p,w)::P.zip vs) m x=_
  unfold bindC
  exact u8E (i:=i) (z3B.mp nd).2 (by simpa using h1) (by simpa using h2) hk
noncomputable def start (N:List Str) (vs:List V):St:=vs.map some++List.replicate (N.length - vs.length) none
noncomputable def cxOf (CX:CXT) (P:Program) (w:World) (K:W.Frag) (mg:MG) (base:Heap) (N:List Str) (qual:Str) (scope:Scope) (f:Addr) (cd:Value) (A:Around) (outer:List Env) (s:Shared) (H:Hp) (E:XK):Cx where
 prog:=P
 w:=w
 K:=K
 mg:=mg
 base:=base
 A:=A.deeper (envOfC qual scope s.heap.objs.size f cd)
 N:=N
 s₀:=s
 H₀:=H
 env:=envOfC qual scope s.heap.objs.size f cd
 outer:=outer
 stack:=envOfC qual scope s.heap.objs.size f cd::outer
 ex:=[]
 calm:=true
 fn:=λ_=>true
 pn:=[]
 xe:=λe s'=>wpAny (model P w) (A.deeper (envOfC qual scope s.heap.objs.size f cd)) (leaving (envOfC qual scope s.heap.objs.size f cd) e) (λ_ s''=>CX outer H s E e s'') (λe' s''=>CX outer H s E e' s'') s'
def v0w {sc:Scope}{n:Nat}{x:Str} (h:sc.names.lookup x=some .cell):∃c,(cellsFrom n sc.names []).lookup x=some c:=by
 have q:=W.cellsFrom_some sc.names n [] (.inl h)
 exact Option.isSome_iff_exists.mp q
def v2z {CX:CXT}{P:Program}{w:World}{K:W.Frag}{mg:MG}{base:Heap}{N ps:List Str}{qual:Str}{scope:Scope}{f:Addr}{cd:Value}{A:Around}{outer:List Env}{s s1:Shared}{H:Hp}{E:XK}{us:List Value}{vs:List V}
  (S:FnScope N ps scope) (hd:A.handled=none) (e0:Env0 P w K mg base A outer s H) (hl:vs.length=ps.length) (r:Vals vs us)
  (x:InCallC s s.heap.objs.size (bindL (envOfC qual scope s.heap.objs.size f cd).kindOf (ps.zip us) λ_=>none) (cellsFrom (s.heap.objs.size+1) scope.names []) (bindC (envOfC qual scope s.heap.objs.size f cd).kindOf (ps.zip us) λ_=>none) s1) :
  Inv (cxOf CX P w K mg base N qual scope f cd A outer s H E) [] (start N vs) H s1:=by
 have hpl:ps.length<=N.length:=by have:=congrArg List.length S.pre;rw[z2E] at this;omega
 obtain⟨h1,tk,rfl,hk⟩:=x.done
 have noA:∀b:Addr,b∉(cxOf CX P w K mg base N qual scope f cd A outer s H E).ex:=λb z=>absurd (show b∈([]:List Addr) from z) (by simp)
 refine⟨⟨e0.mod,S.kind,rfl,rfl,y7 _,λy z c h1 h2=>?_,λy hy=>?_,λy c _ h=>?_,λ_=>hd,Around.frames_deeper e0.frames,.inr ⟨rfl,rfl⟩,λb z=>absurd z (noA b),e0.bs,e0.bsz,λb _ _=>noA b,λb z=>absurd z (noA b),e0.funs,e0.frf⟩,
  rfl,e0.bare,Un.kept hk,⟨_,x.toInCall.ns,λi y v h1 h2 h3=>?_⟩,λy c h=>⟨_,x.cell y c h⟩,e0.hok.fresh (y7 _),λy c h=>?_,λp hp=>absurd (show p∈([]:LO) from hp) (by simp),e0.hok.kept hk,?_⟩
 ·exact name_of_addr x.apart (PySem.mem_of_lookup h1) (PySem.mem_of_lookup h2)
 ·have hy:scope.names.lookup y=some .cell\/scope.names.lookup y=some .free:=hy
  rcases hy with hy|hy
  ·exact v0w hy
  ·exact absurd rfl (S.nofree _ (PySem.mem_of_lookup hy))
 ·exact Nat.le_of_lt (x.above y c (PySem.mem_of_lookup h))
 ·have hi:i<vs.length:=by
   unfold start at h2
   by_cases hi:i<vs.length
   ·exact hi
   ·rw [z1C (by simpa using hi)] at h2
    rw[z0E] at h2
    split at h2<;>cases h2
  have ha:vs[i]?=some v:=by
   unfold start at h2
   rw[z2I (by simpa using hi),v7] at h2
   cases e:vs[i]? with
   | none=>rw[e] at h2;cases h2
   | some a=>rw[e] at h2;cases h2;rfl
  obtain⟨u,hu,rv⟩:=r.get ha
  have hp:ps[i]?=some y:=by
   rw[<- S.pre,List.getElem?_take_of_lt (by omega)];exact h1
  have ndP:ps.Nodup:=by rw[<- S.pre];exact S.nd.sublist (List.take_sublist _ _)
  refine⟨u,rv,?_⟩
  rcases S.par y (List.mem_of_getElem? hp) with k|k
  ·exact .inl ⟨k,u8C ndP hp hu k⟩
  ·obtain ⟨c,e⟩:=v0w (n:=s.heap.objs.size+1) k
   refine .inr ⟨.inl k,c,e,?_⟩
   have q:=x.cell y c e
   rw[u8E ndP hp hu (by show scope.names.lookup y≠_;rw[k];decide)] at q
   exact q
 ·exact e0.hok.fresh (Nat.le_of_lt (x.above y c (PySem.mem_of_lookup h)))
 ·unfold start
  show _=N.length
  rw[z2B,v6,z2C]
  omega
def fn_of {CX:CXT}{P:Program}{w:World}{K:W.Frag}{mg:MG}{base:Heap}{k:Nat}{f:Addr}{name qual:Str}{params:Arguments}{body:List Stmt}{scope:Scope}{dV kV doc pm cdv ct oc:Value}{an od:Option Addr}
  {osl:Array (Option Value)}{N ps:List Str}{sp:Sp} (lk:K.lookup f=some ⟨oc,od,.func (W.fnOf name qual params body scope dV kV doc pm an cdv ct),osl⟩) (hcd:W.codeIn K cdv qual=true) (S:FnScope N ps scope)
  (len:∀vs H Q E,sp vs H Q E->vs.length=ps.length)
  (hbody:∀ (A:Around) (outer:List Env) (s:Shared) (H:Hp) (vs:List V) (Q:VK) (E:XK),Room k (A.deeper (envOfC qual scope s.heap.objs.size f cdv))->sp vs H Q E ->
   ∃t,PSs (cxOf CX P w K mg base N qual scope f cdv A outer s H E) body t/\t { nx:=λ_ H'=>Q .non H',rt:=Q } (start N vs) H) :
  FnOk P w K mg base CX (k+1) f (W.fnOf name qual params body scope dV kV doc pm an cdv ct) ps sp:=by
 refine⟨len,λA outer s H args us vs Q E hr e0 hb r hsp=>?_⟩
 have hl:=len _ _ _ _ hsp
 have KX:K.In s.heap:=e0.mod.kin.keeps λb o e=>(e0.bs b o e).1
 have lim:s.heap.NoLimit:=e0.mod.nolimit.keeps λb o e=>(e0.bs b o e).1
 have hkind:∀y∈ps.zip us,scope.names.lookup y.1=some .local\/(scope.names.lookup y.1=some .cell/\((cellsFrom (s.heap.objs.size+1) scope.names []).lookup y.1).isSome=true):=λ⟨n,v⟩ hy=>by
  rcases S.par n (List.of_mem_zip hy).1 with q|q
  ·exact .inl q
  ·exact .inr ⟨q,W.cellsFrom_some _ _ _ (.inl q)⟩
 refine codeAny_call_function hr.depth (KX _ _ lk) rfl S.co S.gen rfl (W.codeRec_of KX hcd) (hb _ _ _ _ ?_)
 refine wpAny_newFunctionEnv_cells S.kind hkind λenv he s1 x=>?_
 subst he
 refine⟨lim.keeps x.toInCall.keep,codeAny_func ?_⟩
 obtain⟨t,ht,hq⟩:=hbody A outer s H vs Q E (hr.deeper _) hsp
 have I:Inv (cxOf CX P w K mg base N qual scope f cdv A outer s H E) [] (start N vs) H s1:=v2z S hr.hd e0 hl r x
 refine wpAny_mono (ht [] s1 (start N vs) H _ I hq) (λfl s' hs=>?_) λe s' hs=>hs
 have fin:∀{σ':St}{H':Hp}{v:V}{u:Value},Inv (cxOf CX P w K mg base N qual scope f cdv A outer s H E) [] σ' H' s'->RelV v u->Q v H'->CE outer P w H s Q u s' :=
  λ{σ' H' v u} J rv q=>⟨v,H',J.os,J.bare,J.base,J.hok,rv,q⟩
 cases fl with
 | ret u =>
  obtain⟨v,σ',H',J,rv,q⟩:=hs
  exact fin J rv q
 | next =>
  obtain⟨σ',H',J,q⟩:=hs
  exact fin (v:=V.non) (u:=Value.none) J rfl q
 | brk =>
  obtain⟨_,_,_,q⟩:=hs
  exact False.elim q
 | cont =>
  obtain⟨_,_,_,q⟩:=hs
  exact False.elim q
section
variable {X:Cx}{x:Str}{p pos:Pos}{e:Expr}{es:List Expr}{t:TA}{id T:String}{r:List V->Hp->VK->Prop}
def tCB (r:List V->Hp->VK->Prop) (t:TA):TE:=λσ H Q=>t σ H λvs H1=>r vs H1 Q
def v3G (hc:CallR X (.builtin id) r) (hg:Gl X x) (hm:X.mg x=none) (hv:bootBuiltins x=some (.builtin id)) (ha:PA X (e::es) t) (hn:x≠"__name__":=by decide) (hdb:(x==("__debug__":Str))=false:=by decide)
 (he:starEach (e::es) X.env=(false,eval e X.env)::starEach es X.env:=by rfl) (hpl:(backTo pos (starEach es X.env)).any (·.1)=false:=by rfl):PE X (.Call (.Name x p) (e::es) [] pos) (tCB r t):=by
 intro pins s σ H Q I h
 refine wpAny_Call_Name_kw (u6s I hg hm hv ?_ hn hdb)
 exact PyProof.Rows.callWith_builtin1 (thn (ha pos pins s σ H _ I h) λus s1 z952=>by obtain⟨vs,H1,I1,r1,q1⟩:=z952;exact hc pins s1 σ H1 vs us Q I1 r1 q1) he hpl
def v2e (hc:CallR X (.type T) r) (hg:Gl X x) (hm:X.mg x=none) (hv:bootBuiltins x=some (.type T)) (ha:PA X (e::es) t) (hn:x≠"__name__":=by decide) (hdb:(x==("__debug__":Str))=false:=by decide)
 (he:starEach (e::es) X.env=(false,eval e X.env)::starEach es X.env:=by rfl) (hpl:(backTo pos (starEach es X.env)).any (·.1)=false:=by rfl):PE X (.Call (.Name x p) (e::es) [] pos) (tCB r t):=by
 intro pins s σ H Q I h
 refine wpAny_Call_Name_kw (u6s I hg hm hv ?_ hn hdb)
 exact PyProof.Rows.callWith_type1 (thn (ha pos pins s σ H _ I h) λus s1 z953=>by obtain⟨vs,H1,I1,r1,q1⟩:=z953;exact hc pins s1 σ H1 vs us Q I1 r1 q1) he hpl
end
end L2
namespace HT
open PySem PyProof.Rows
section
open PySem.SeqAt
open PySem.AutoSeq1 (wpAny_loadPart')
open PySem.MeetsSeq PySem.MeetsSeq2 PySem.MeetsSeq3
end
section
variable {prog:Program}{w:World}{A:Around}{E:VP}{s:Shared}
noncomputable def sIx (n d:Nat):Option Int->Nat
 | none=>d
 | some v=>if v<0 then (v+(n:Int)).toNat else min v.toNat n
def sIx_none (n d:Nat):sIx n d none=d:=rfl
def sIx_nat (n d k:Nat):sIx n d (some (k:Int))=min k n:=by
 show(if (k:Int)<0 then ((k:Int)+(n:Int)).toNat else min (k:Int).toNat n)=min k n
 rw[if_neg (by omega),Int.toNat_natCast]
def sIx_le (n d:Nat) (hd:d<=n) (o:Option Int):sIx n d o<=n:=by
 cases o with
 | none=>exact hd
 | some v =>
  show(if v<0 then (v+(n:Int)).toNat else min v.toNat n)<=n
  by_cases hv:v<0
  ·rw[if_pos hv];omega
  ·rw[if_neg hv];exact Nat.min_le_right _ _
def v3c (v:Int) (n d:Nat):(if v<0 then max (v+(n:Int)) 0 else min v (n:Int))=((sIx n d (some v):Nat):Int):=by
 show(if v<0 then max (v+(n:Int)) 0 else min v (n:Int))=(((if v<0 then (v+(n:Int)).toNat else min v.toNat n):Nat):Int)
 by_cases hv:v<0
 ·simp only[if_pos hv];omega
 ·simp only[if_neg hv];omega
def v1z (lo hi:Option Int) (n:Nat):Builtin.Slice.sliceAdjust lo hi 1 (n:Int)=(((sIx n 0 lo:Nat):Int),((sIx n n hi:Nat):Int)):=by
 have h1:¬ ((1:Int)<0):=by omega
 unfold Builtin.Slice.sliceAdjust
 simp only[h1,if_false]
 refine Prod.ext ?_ ?_
 ·cases lo with
  | none=>rfl
  | some v=>exact v3c v n 0
 ·cases hi with
  | none=>rfl
  | some v=>exact v3c v n n
def v1g (i j:Nat):Builtin.Slice.slicePlaces (i:Int) (j:Int) 1=j - i:=by
 unfold Builtin.Slice.slicePlaces
 have h1:(1:Int) > 0:=by omega
 simp only[h1,if_true,Int.ediv_one]
 split<;>omega
def slicePart_ (p:IsPart v o) (h:Q o s):wpAny (model prog w) A (Builtin.Slice.slicePartIndex v) Q E s:=by
 cases p with
 | none=>exact slicePart_none h
 | int i t=>exact slicePart_int h
def u4C {sl:Addr}{vl vu:Value}{lo hi:Option Int}{n:Nat}{Q:Int×Int×Nat->Shared->Prop} (hs:s.heap.IsSliceOf sl vl vu .none) (pl:IsPart vl lo) (pu:IsPart vu hi)
  (h:Q (((sIx n 0 lo:Nat):Int),1,sIx n n hi - sIx n 0 lo) s):wpAny (model prog w) A (Builtin.Slice.sliceApplied (.ref sl) (pure (n:Int))) Q E s:=by
 obtain⟨os,hos,hcs,hds⟩:=id hs
 unfold Builtin.Slice.sliceApplied Builtin.Slice.sliceFields
 refine wpAny_bind (wpAny_bind (wpAny_field hos hds (x:=vl) rfl (wpAny_bind (wpAny_field hos hds (x:=vu) rfl (wpAny_bind (wpAny_field hos hds (x:=.none) rfl (wpAny_pure ?_)))))))
 refine wpAny_bind (slicePart_none ?_)
 show wpAny _ _ (if ((1:Int)==0)=true then _ else _) _ _ s
 rw[if_neg (by decide)]
 refine wpAny_bind (slicePart_ pl (wpAny_bind (slicePart_ pu (wpAny_bind (wpAny_pure ?_)))))
 show wpAny _ _ (match Builtin.Slice.sliceAdjust lo hi 1 (n:Int) with|(lo,hi)=>pure (lo,(1:Int),Builtin.Slice.slicePlaces lo hi 1)) _ _ s
 rw[v1z lo hi n]
 show wpAny _ _ (pure (((sIx n 0 lo:Nat):Int),(1:Int),Builtin.Slice.slicePlaces ((sIx n 0 lo:Nat):Int) ((sIx n n hi:Nat):Int) 1)) _ _ s
 rw[v1g]
 exact wpAny_pure h
def v3B (xs:Array Value) (i k:Nat):((List.range k).filterMap λ(m:Nat)=>xs[((i:Int)+(m:Int)*1).toNat]?).toArray=((xs.toList.drop i).take k).toArray:=by
 have e:(λ(m:Nat)=>xs[((i:Int)+(m:Int)*1).toNat]?)=λm=>xs[i+m]?:=by
  funext m
  have:((i:Int)+(m:Int)*1).toNat=i+m:=by omega
  rw[this]
 rw[e]
 have:=pick_run xs i k
 rw[List.filterMap_map] at this
 have e2:((λx=>xs[x]?) ∘ λx=>i+x)=λm=>xs[i+m]?:=rfl
 rw[e2] at this
 rw[this]
def getItem_tuple_cut {t sl:Addr}{items:Array Value}{vl vu:Value}{lo hi:Option Int}{Q:VP} (ht:IsTup s.heap t items) (hs:s.heap.IsSliceOf sl vl vu .none) (pl:IsPart vl lo) (pu:IsPart vu hi)
  (hw:¬ (sIx items.size 0 lo=0/\sIx items.size items.size hi=items.size))
  (h:Q (.ref s.heap.objs.size) { s with heap:=s.heap.push { cls:=.type "tuple",data:=.seq ((items.toList.drop (sIx items.size 0 lo)).take (sIx items.size items.size hi - sIx items.size 0 lo)).toArray } })
  (hsz:items.size<=sizeLine):wpAny (model prog w) A (getItem (.ref t) (.ref sl)) Q E s:=by
 have htake:sizeOk (.seq ((items.toList.drop (sIx items.size 0 lo)).take (sIx items.size items.size hi - sIx items.size 0 lo)).toArray):=by
  show((items.toList.drop (sIx items.size 0 lo)).take (sIx items.size items.size hi - sIx items.size 0 lo)).toArray.size<=sizeLine
  rw[x8,z2E,z1B,r9]
  omega
 have hj:sIx items.size items.size hi<=items.size:=sIx_le _ _ (y7 _) hi
 obtain⟨os,hos,hcs,hds⟩:=id hs
 have hTs:s.TypeIs (.ref sl) "slice":=⟨os,hos,hcs⟩
 unfold getItem
 try with_reducible refine wpAny_holding ?_
 first|refine wpAny_bind (wpAny_pure ?_)|skip
 refine wpAny_bind (wpAny_sequenceKey ht.typeIs (by decide) ?_)
 refine wpAny_bind (wpAny_callSpecial?_slot (name:=Str.ofString "__getitem__") ht.typeIs PyProof.Rows.slot_tuple_getitem
  (wpAny_call_entry PyProof.Rows.slot_tuple_getitem ht.typeIs entry_tuple_getitem ?_ (args_tuple_getitem _ _)))
 show wpAny _ _ (Builtin.Tuple.tupleItemsOf (.ref t) >>= _) _ _ s
 refine wpAny_bind (tupleItemsOf_ ht ?_)
 refine wpAny_bind (wpAny_typeOf hTs ?_)
 rw[if_pos (by decide)]
 refine wpAny_bind (u4C hs pl pu ?_)
 have hno:¬ ((((sIx items.size 0 lo:Nat):Int)==0&&(1:Int)==1&&(sIx items.size items.size hi - sIx items.size 0 lo)==items.size)=true):=by
  intro q
  rw[t9,t9] at q
  have q1:((sIx items.size 0 lo:Nat):Int)=0:=eq_of_beq q.1.1
  have q2:sIx items.size items.size hi - sIx items.size 0 lo=items.size:=eq_of_beq q.2
  exact hw ⟨by omega,by omega⟩
 show wpAny _ _ (if (((sIx items.size 0 lo:Nat):Int)==0&&(1:Int)==1&&(sIx items.size items.size hi - sIx items.size 0 lo)==items.size)=true then _ else _) _ _ s
 rw[if_neg hno,v3B]
 first
  | exact wpAny_bind (m:=Builtin.Tuple.tupleExact _) (wpAny_newObj_type (wpAny_pure ⟨_,rfl,wpAny_pure h⟩) htake)
  | exact wpAny_bind (m:=Builtin.Tuple.tupleExact _) (wpAny_newObj_type (wpAny_bind (wpAny_pure (wpAny_pure ⟨_,rfl,wpAny_pure h⟩))) htake)
  | exact wpAny_bind (wpAny_bind (m:=Builtin.Tuple.tupleExact _) (wpAny_newObj_type (wpAny_pure (wpAny_pure ⟨_,rfl,wpAny_pure h⟩)) htake))
  | exact wpAny_bind (wpAny_bind (m:=Builtin.Tuple.tupleExact _) (wpAny_newObj_type (wpAny_pure ⟨_,rfl,wpAny_pure h⟩) htake))
end
end HT
namespace L2
open PySem PySem.Spec PyProof.Rows
abbrev TO:=St->Hp->(Option Int->Hp->Prop)->Prop
def PO (X:Cx) (e:Option Expr) (t:TO):Prop :=
 ∀(pins:LO) (s:Shared) (σ:St) (H:Hp) (Q:Option Int->Hp->Prop),Inv X pins σ H s->t σ H Q ->
  wpAny (model X.prog X.w) X.A (evalPart e X.env) (λu s'=>∃o H',Inv X pins σ H' s'/\IsPart u o/\Q o H') X.xe s
noncomputable def tNoPart:TO:=λ_ H Q=>Q none H
noncomputable def tPart (t:TE):TO:=λσ H Q=>t σ H λx H1=>∃i,x=.int i/\Q (some i) H1
section
variable {X:Cx}{e:Expr}{te:TE}{lo hi:Option Expr}{tl th:TO}{pos p2:Pos}
def po_none:PO X none tNoPart:=by
 intro pins s σ H Q I h
 rw[evalPart_none]
 exact wpAny_pure ⟨none,H,I,.none,h⟩
def po_some (h:PE X e te):PO X (some e) (tPart te):=by
 intro pins s σ H Q I hw
 rw[evalPart_some]
 refine thn (h pins s σ H _ I hw) λu s1 z954=>?_
 obtain⟨x,H1,I1,r1,q1⟩:=z954
 obtain⟨i,rfl,q⟩:=q1
 obtain⟨t,rfl⟩:=r1
 exact⟨some i,H1,I1,.int i t,q⟩
def SlR (X:Cx) (r:V->Option Int->Option Int->Hp->VK->Prop):Prop :=
 ∀(pins:LO) (s:Shared) (σ:St) (H:Hp) (x:V) (v vl vu:Value) (lo hi:Option Int) (sl:Addr) (Q:VK),Inv X pins σ H s->RelV x v->s.heap.IsSliceOf sl vl vu .none->IsPart vl lo->IsPart vu hi->r x lo hi H Q ->
  ∃T id,typeLookup (.type T) "__getitem__"=pure (some (.builtin id))/\s.TypeIs v T/\wpAny (model X.prog X.w) X.A (getItem v (.ref sl)) (EP X pins σ Q) X.xe s
def tSl (r:V->Option Int->Option Int->Hp->VK->Prop) (te:TE) (tl th:TO):TE:=λσ H Q=>te σ H λx H1=>tl σ H1 λl H2=>th σ H2 λu H3=>r x l u H3 Q
def v3C (hr:SlR X r) (he:PE X e te) (hl:PO X lo tl) (hu:PO X hi th):PE X (.Subscript e (.Slice lo hi none p2) pos) (tSl r te tl th):=by
 intro pins s σ H Q I h
 refine Subscript_ (thn (he pins s σ H _ I h) λv s1 z955=>?_)
 obtain⟨x,H1,I1,r1,q1⟩:=z955
 refine wpAny_Slice (thn (hl pins s1 σ H1 _ I1 q1) λvl s2 ⟨l,H2,I2,pl,q2⟩=>thn (hu pins s2 σ H2 _ I2 q2) λvu s3 z957=>?_)
 obtain⟨u,H3,I3,pu,q3⟩:=z957
 rw[evalPart_none]
 refine wpAny_pure ?_
 have I4:Inv X pins σ H3 { s3 with heap:=s3.heap.push { cls:=.type "slice",data:=.fields #[vl,vu,.none] } }:=I3.kept (t':=s3.toks) λb ob q=>z5 _ q
 obtain⟨T,id,hT,ht,hg⟩:=hr pins { s3 with heap:=s3.heap.push { cls:=.type "slice",data:=.fields #[vl,vu,.none] } } σ H3 x v vl vu l u s3.heap.objs.size Q I4 r1 (Heap.IsSliceOf.new ..) pl pu q3
 show wpAny (model X.prog X.w) X.A (subscriptTail e (.Slice lo hi none p2) v (.ref s3.heap.objs.size)) (EP X pins σ Q) X.xe { s3 with heap:=s3.heap.push { cls:=.type "slice",data:=.fields #[vl,vu,.none] } }
 exact tail_any (ops:=[.ref s3.heap.objs.size,v]) ht hT hg (by with_unfolding_all rfl)
noncomputable def cutV (xs:List V) (lo hi:Option Int):List V:=(xs.drop (HT.sIx xs.length 0 lo)).take (HT.sIx xs.length xs.length hi - HT.sIx xs.length 0 lo)
def u5N (xs:List V) (lo hi:Option Int):(cutV xs lo hi).length<=xs.length:=by
 unfold cutV
 rw[z2E,z1B]
 omega
def rSlT (K:W.Frag):V->Option Int->Option Int->Hp->VK->Prop:=λx lo hi H Q=>∃a xs,x=.ref a/\SqT K H a xs /\
 ¬ (HT.sIx xs.length 0 lo=0/\HT.sIx xs.length xs.length hi=xs.length)/\∀p,H p=none->Q (.ref p) (upd H p (.tup (cutV xs lo hi)))
def sl_tup:SlR X (rSlT X.K):=by
 intro pins s σ H x v vl vu lo hi sl Q I rx hs pl pu h
 obtain⟨a,xs,rfl,hx,hw,q⟩:=h
 cases rx
 obtain⟨its,r,ht,hz⟩:=I.tuple hx
 have hlen:its.toArray.size=xs.length:=by rw[x8];exact r.length.symm
 refine⟨"tuple",_,PyProof.Rows.slot_tuple_getitem.lookup,ht.typeIs,?_⟩
 refine HT.getItem_tuple_cut ht hs pl pu (by rw[hlen];exact hw) ?_ (by rw[hlen];exact hz)
 rw[hlen]
 refine⟨.ref s.heap.objs.size,_,I.laid (t':=s.toks) (o:=.tup (cutV xs lo hi)) (λb ob q=>z5 _ q) (y7 _) ?_,rfl,q _ (I.hok.fresh (y7 _))⟩
 exact⟨v5 (u5N xs lo hi) hz,_,(r.drop (HT.sIx xs.length 0 lo)).take (HT.sIx xs.length xs.length hi - HT.sIx xs.length 0 lo),IsTup.new _ _⟩
end
noncomputable def ixN (n:Nat) (i:Int):Option Nat:=if 0<=i then (if i<n then some i.toNat else none) else if -(n:Int)<=i then some (i+n).toNat else none
noncomputable def atI {α:Type} (xs:List α) (i:Int):Option α:=(ixN xs.length i).bind λj=>xs[j]?
def v2w (h:ixN n i=some j):seqIndex? i n=some j/\j<n/\-(n:Int)<=i/\i<n:=by
 unfold ixN at h
 by_cases h0:0<=i
 ·rw [if_pos h0] at h
  by_cases h1:i<n
  ·rw [if_pos h1] at h
   have e:i.toNat=j:=Option.some.inj h
   exact⟨by rw[seqIndex_of h0 h1,e],by omega,by omega,h1⟩
  ·rw[if_neg h1] at h;cases h
 ·rw [if_neg h0] at h
  by_cases h1:-(n:Int)<=i
  ·rw [if_pos h1] at h
   have e:(i+n).toNat=j:=Option.some.inj h
   exact⟨by rw[seqIndex_neg (by omega) h1,e],by omega,h1,by omega⟩
  ·rw[if_neg h1] at h;cases h
def u9z {α:Type}{xs:List α}{v:α} (h:atI xs i=some v):∃j,seqIndex? i xs.length=some j/\xs[j]?=some v/\j<xs.length/\-(xs.length:Int)<=i/\i<xs.length:=by
 unfold atI at h
 cases e:ixN xs.length i with
 | none=>rw[e] at h;cases h
 | some j =>
  rw[e] at h
  obtain⟨h1,h2,h3,h4⟩:=v2w e
  exact⟨j,h1,h,h2,h3,h4⟩
def u7u {α:Type}{xs:List α}{j:Nat}{v:α} (h:xs[j]?=some v):atI xs (j:Int)=some v:=by
 have hj:j<xs.length:=(u7.mp h).1
 have e:ixN xs.length (j:Int)=some j:=by
  unfold ixN
  rw[if_pos (by omega),if_pos (by omega)];simp
 unfold atI;rw[e];exact h
def v0z {α:Type} (xs:List α) (v:α):atI (xs++[v]) (-1)=some v:=by
 have hl:(xs++[v]).length=xs.length+1:=by simp
 have e:ixN (xs++[v]).length (-1)=some xs.length:=by
  unfold ixN
  rw[hl,if_neg (by decide),if_pos (by omega)]
  congr 1
  omega
 unfold atI
 rw[e]
 show(xs++[v])[xs.length]?=some v
 simp
def PlainIx (b:Expr):Prop:=∀o i,subscripted b false o i=operate [o,i] (getItem o i)
def IxR (X:Cx) (r:R2):Prop :=
 ∀(value slice:Expr) (pins:LO) (s:Shared) (σ:St) (H:Hp) (x y:V) (v u:Value) (Q:VK),Inv X pins σ H s->RelV x v->RelV y u->r x y H Q ->
  subscripted slice false v u=operate [v,u] (getItem v u)->wpAny (model X.prog X.w) X.A (subscriptTail value slice v u) (EP X pins σ Q) X.xe s
def MtR (X:Cx) (id:String) (r:V->List V->Hp->VK->Prop):Prop :=
 ∀(pins:LO) (s:Shared) (σ:St) (H:Hp) (x:V) (xs:List V) (v:Value) (us:List Value) (Q:VK),Inv X pins σ H s->RelV x v->Vals xs us->r x xs H Q ->
  wpAny (model X.prog X.w) X.A (call (.builtin id) (v::us)) (EP X pins σ Q) X.xe s
section
variable {X:Cx}{a b:Expr}{ta tb:TE}{pos:Pos}
def pe_ix (hr:IxR X r) (ha:PE X a ta) (hb:PE X b tb) (hs:PlainIx b):PE X (.Subscript a b pos) (tOp r ta tb):=by
 intro pins s σ H Q I h
 exact Subscript_ (binT ha hb I h λv u s2 x y H2 I2 rx ry q=>hr a b pins s2 σ H2 x y v u Q I2 rx ry q (hs _ _))
def rIxL (K:W.Frag):R2:=λx y H Q=>∃p xs i v,x=.ref p/\y=.int i/\SqL K H p xs/\atI xs i=some v/\Q v H
def rIxT (K:W.Frag):R2:=λx y H Q=>∃p xs i v,x=.ref p/\y=.int i/\SqT K H p xs/\atI xs i=some v/\Q v H
def rIxS:R2:=λx y H Q=>∃z i c,x=.str z/\y=.int i/\z.length<=sizeLine/\atI z.cps.toList i=some c/\Q (.str ⟨#[c]⟩) H
def u9t:IxR X (rIxL X.K):=by
 intro value slice pins s σ H x y v u Q I rx ry h hs
 obtain⟨p,xs,i,z,rfl,rfl,hq,he,q⟩:=h
 cases rx
 obtain⟨t,rfl⟩:=ry
 obtain⟨its,r,pl,hz⟩:=I.list hq
 obtain⟨j,h1,h2,h3,h4,h5⟩:=u9z he
 obtain⟨w,ew,rw'⟩:=r.get h2
 have hl:=r.length
 have hn:=line63
 have fin:EP X pins σ Q w s:=⟨z,H,I,rw',q⟩
 by_cases h0:0<=i
 ·have hj:i.toNat=j:=by
   rw[seqIndex_of h0 h5] at h1
   exact Option.some.inj h1
  exact item_listR pl.isList h0 (by omega) (by rw[hj];simpa using ew) fin hs
 ·have hj:(i+(its.toArray.size:Int)).toNat=j:=by
   rw[seqIndex_neg (by omega) h4] at h1
   rw[x8,<- hl]
   exact Option.some.inj h1
  exact subscriptTail_builtinR (x:=w) pl.isList.typeIs slot_list_getitem.lookup
   (wpAny_getItem_list_neg (Q:=λr s'=>r=w/\EP X pins σ Q r s') pl.isList (by omega) (by rw[x8]<;>omega) (by omega) (by rw[hj];simpa using ew) ⟨rfl,fin⟩) hs
def ix_tup:IxR X (rIxT X.K):=by
 intro value slice pins s σ H x y v u Q I rx ry h hs
 obtain⟨p,xs,i,z,rfl,rfl,hq,he,q⟩:=h
 cases rx
 obtain⟨t,rfl⟩:=ry
 obtain⟨its,r,pl,hz⟩:=I.tuple hq
 obtain⟨j,h1,h2,h3,h4,h5⟩:=u9z he
 obtain⟨w,ew,rw'⟩:=r.get h2
 have hl:=r.length
 have hn:=line63
 have fin:EP X pins σ Q w s:=⟨z,H,I,rw',q⟩
 exact subscriptTail_builtinR (x:=w) pl.typeIs slot_tuple_getitem.lookup
  (getItem_tuple (j:=j) (Q:=λr s'=>r=w/\EP X pins σ Q r s') pl (by omega) (by omega) (by rw[x8,<- hl];exact h1) (by simpa using ew) ⟨rfl,fin⟩) hs
def ix_str:IxR X rIxS:=by
 intro value slice pins s σ H x y v u Q I rx ry h hs
 obtain⟨z,i,c,rfl,rfl,hz,he,q⟩:=h
 obtain⟨t,rfl⟩:=rx
 obtain⟨t',rfl⟩:=ry
 obtain⟨j,h1,h2,h3,h4,h5⟩:=u9z he
 have hl:z.cps.toList.length=z.length:=by simp[Str.length]
 rw[hl] at h1 h4 h5
 have hn:=line63
 exact tail_any (typeIs_str s z t) slot_str_getitem.lookup (getItem_str (c:=c) (by
  have e1:decide (i < -(2^63:Int))=false:=decide_eq_false (by omega)
  have e2:decide (i ≥ 2^63)=false:=decide_eq_false (by omega)
  rw[e1,e2,Bool.or_false]) (by rw[h1];simpa using h2) ⟨.str ⟨#[c]⟩,H,I.tok _,⟨_,rfl⟩,q⟩) hs
def v1k (its:List Value) (n j:Nat) (u:Value):Obj.mapSeq (·.setIfInBounds j u) { cls:=.type "list",data:=.seq its.toArray n }={ cls:=.type "list",data:=.seq (its.set j u).toArray n }:=by
 simp[Obj.mapSeq]
theorem Inv.lst (I:Inv X pins σ H s) (h:H p=some (.lst xs)) :
 ∃(its:List Value) (n:Nat),Vals xs its/\s.heap.get? p=some { cls:=.type "list",data:=.seq its.toArray n }/\xs.length<=sizeLine:=by
 obtain⟨z,its,n,r,e⟩:=I.hok p _ h
 exact⟨its,n,r,e,z⟩
def Inv.lstUpd {pins:LO}{σ:St}{H:Hp}{s:Shared}{p:Addr}{xs ys:List V}{its its':List Value}{n n':Nat}{f:Obj->Obj} (I:Inv X pins σ H s) (h:H p=some (.lst xs))
  (ho:s.heap.get? p=some { cls:=.type "list",data:=.seq its.toArray n }) (hf:f { cls:=.type "list",data:=.seq its.toArray n }={ cls:=.type "list",data:=.seq its'.toArray n' }) (r:Vals ys its') (hz:ys.length<=sizeLine) (t:Nat) :
  Inv X pins σ (upd H p (.lst ys)) { s with heap:=s.heap.update p f,toks:=t }:=by
 have e:(s.heap.update p f).get? p=some { cls:=.type "list",data:=.seq its'.toArray n' }:=by
  rw[z1E f ho (by rw[hf]<;>rfl),hf]
 refine I.write (x:=p) (e:=p) (by rw[h];trivial) (.inl rfl) (λb u hb q=>(q9 _ _ (Ne.symm hb)).trans q) ⟨_,e⟩ ?_
 exact⟨hz,its',n',r,e⟩
noncomputable def rSetL:V->V->V->Hp->(Hp->Prop)->Prop:=λo i v H Q=>∃p xs k j,o=.ref p/\i=.int k/\H p=some (.lst xs)/\ixN xs.length k=some j/\Q (upd H p (.lst (xs.set j v)))
def u9H:PSet X rSetL:=by
 intro pins s σ H o i v ov iv u Q I ro ri rv h
 obtain⟨p,xs,k,j,rfl,rfl,hp,hj,q⟩:=h
 cases ro
 obtain⟨t,rfl⟩:=ri
 obtain⟨its,n,r,ho,hz⟩:=I.lst hp
 obtain⟨h1,h2,h3,h4⟩:=v2w hj
 have hl:=r.length
 have hn:=line63
 have I':Inv X pins σ (upd H p (.lst (xs.set j v))) { s with heap:=s.heap.update p (Obj.mapSeq (·.setIfInBounds j u)) } :=
  I.lstUpd hp ho (v1k its n j u) (r.set rv j) (by rw[List.length_set];exact hz) s.toks
 by_cases h0:0<=k
 ·have hk:k.toNat=j:=by
   rw[seqIndex_of h0 h4] at h1
   exact Option.some.inj h1
  exact W.ki_setAt ho h0 (by omega) (by rw[x8,<- hl];exact h4) (by rw[hk];exact⟨_,I',q⟩)
 ·have hk:(k+(its.toArray.size:Int)).toNat=j:=by
   rw[seqIndex_neg (by omega) h3] at h1
   rw[x8,<- hl]
   exact Option.some.inj h1
  exact W.ki_setBack ho (by omega) (by rw[x8,<- hl];exact h3) (by omega) (by rw[hk];exact⟨_,I',q⟩)
def u7C (lo hi:Option Int) (n:Nat):(sliceBounds lo hi none n).1=((HT.sIx n 0 lo:Nat):Int)/\(sliceBounds lo hi none n).2.1=((HT.sIx n n hi:Nat):Int)/\(sliceBounds lo hi none n).2.2=1:=by
 refine⟨?_,?_,rfl⟩
 ·cases lo with
  | none=>simp[sliceBounds,HT.sIx]
  | some i =>
   simp only[sliceBounds,HT.sIx,Option.getD_none,show(1:Int) > 0 by decide,if_true]
   by_cases h:i<0
   ·simp only[h,if_true]<;>omega
   ·simp only[h,if_false]<;>omega
 ·cases hi with
  | none=>simp[sliceBounds,HT.sIx]
  | some i =>
   simp only[sliceBounds,HT.sIx,Option.getD_none,show(1:Int) > 0 by decide,if_true]
   by_cases h:i<0
   ·simp only[h,if_true]<;>omega
   ·simp only[h,if_false]<;>omega
def u6L (its:List Value) (lo hi:Option Int):slicePick its.toArray lo hi none=((its.drop (HT.sIx its.length 0 lo)).take (HT.sIx its.length its.length hi - HT.sIx its.length 0 lo)).toArray:=by
 obtain⟨h1,h2,h3⟩:=u7C lo hi its.toArray.size
 unfold slicePick
 rw[h1,h2,h3]
 simp only[sliceRange_one,pick_run,x8]<;>rfl
def rSlL (K:W.Frag):V->Option Int->Option Int->Hp->VK->Prop:=λx lo hi H Q=>∃a xs,x=.ref a/\SqL K H a xs/\∀p,H p=none->Q (.ref p) (upd H p (.lst (cutV xs lo hi)))
def sl_list:SlR X (rSlL X.K):=by
 intro pins s σ H x v vl vu lo hi sl Q I rx hs pl pu h
 obtain⟨a,xs,rfl,hx,q⟩:=h
 cases rx
 obtain⟨its,r,ht,hz⟩:=I.list hx
 have hlen:=r.length
 refine⟨"list",_,slot_list_getitem.lookup,ht.isList.typeIs,?_⟩
 refine wpAny_getItem_list_slice ht.isList hs pl pu .none (by simp) ?_ (by rw[x8]<;>omega)
 rw[u6L,<- hlen]
 refine⟨.ref s.heap.objs.size,_,I.laid (t':=s.toks) (o:=.lst (cutV xs lo hi)) (λb ob q=>z5 _ q) (y7 _) ?_,rfl,q _ (I.hok.fresh (y7 _))⟩
 exact⟨v5 (u5N xs lo hi) hz,_,0,(r.drop (HT.sIx xs.length 0 lo)).take (HT.sIx xs.length xs.length hi - HT.sIx xs.length 0 lo),z7 _ rfl⟩
def u7X:OpR X (compareOp .NotIn) (λx y H Q=>∃i j,x=.str i/\y=.str j/\Q (.bl (!(!(Builtin.Str.occurrences j i 0 j.length 1).isEmpty))) H):=by
 intro pins s σ H x y v u Q I rx ry h
 obtain⟨i,j,rfl,rfl,q⟩:=h
 obtain⟨t,rfl⟩:=rx
 obtain⟨t',rfl⟩:=ry
 exact notIn_str ⟨.bl _,H,I,rfl,q⟩
def u8y:CallR X (.type "list") (λxs H Q=>∃p ys,xs=[.ref p]/\(SqL X.K H p ys\/SqT X.K H p ys)/\∀l,H l=none->Q (.ref l) (upd H l (.lst ys))):=by
 intro pins s σ H xs us Q I r h
 obtain⟨p,ys,rfl,hq,q⟩:=h
 obtain⟨u,rfl,rx⟩:=vals1 r
 cases rx
 have fin:∀(its:List Value),Vals ys its->ys.length<=sizeLine->∀(h':Heap) (c':Nat),(∀b o',s.heap.get? b=some o'->h'.get? b=some o') ->
   h'.get? s.heap.objs.size=some { cls:=.type "list",dict:=none,data:=.seq its.toArray c',slots:=#[] }->EP X pins σ Q (.ref s.heap.objs.size) { s with heap:=h' }:=λits r' hz h' c' kp e =>
  ⟨.ref s.heap.objs.size,_,I.laid (t':=s.toks) kp (y7 _) (show ObjOk X.prog X.w _ h' _ (.lst ys) from⟨hz,its,c',r',e⟩),rfl,q _ (I.hok.fresh (y7 _))⟩
 rcases hq with hq|hq
 ·obtain ⟨its,r',pl,hz⟩:=I.list hq
  have hlen:=r'.length
  obtain⟨o,ho,hc,n,hd⟩:=pl.isList
  exact call_list_seq p (.inl rfl) ho hc hd (λh' c' kp e=>fin its r' hz h' c' kp e) (by simp only[x8]<;>omega)
 ·obtain ⟨its,r',pl,hz⟩:=I.tuple hq
  have hlen:=r'.length
  obtain⟨o,ho,hc,n,hd⟩:=pl
  exact call_list_seq p (.inr rfl) ho hc hd (λh' c' kp e=>fin its r' hz h' c' kp e) (by simp only[x8]<;>omega)
def u3Z:CallR X (.type "tuple") (λxs H Q=>∃p ys,xs=[.ref p]/\((SqL X.K H p ys/\∀l,H l=none->Q (.ref l) (upd H l (.tup ys)))\/(SqT X.K H p ys/\Q (.ref p) H))):=by
 intro pins s σ H xs us Q I r h
 obtain⟨p,ys,rfl,h⟩:=h
 obtain⟨u,rfl,rx⟩:=vals1 r
 cases rx
 rcases h with⟨hq,q⟩|⟨hq,q⟩
 ·obtain ⟨its,r',pl,hz⟩:=I.list hq
  have hlen:=r'.length
  refine call_tuple_list pl.isList (λh' kp=>?_) (by simp only[x8]<;>omega)
  have I1:Inv X pins σ H { s with heap:=h' }:=I.kept (t':=s.toks) kp
  have I2:Inv X pins σ (upd H h'.objs.size (.tup ys)) { s with heap:=h'.push { cls:=.type "tuple",data:=.seq its.toArray } } :=
   I1.laid (t':=s.toks) (λb o e=>z5 _ e) (y7 _) (show ObjOk X.prog X.w _ _ _ (.tup ys) from⟨hz,its,r',IsTup.new _ _⟩)
  exact⟨.ref h'.objs.size,_,I2,rfl,q _ (I1.hok.fresh (y7 _))⟩
 ·obtain ⟨its,r',pl,hz⟩:=I.tuple hq
  exact call_tuple_same pl ⟨.ref p,H,I,rfl,q⟩
def tyV (K:W.Frag) (T:String) (x:V) (H:Hp):Prop:=match x with
 | .str _=>T="str"
 | .int _=>T="int"
 | .ref p=>(T="list"/\∃xs,SqL K H p xs)\/(T="tuple"/\∃o,K.lookup p=some o/\o.cls=.type "tuple"/\o.dict=none) \/
   (T="dict"/\((∃kvs,H p=some (.dK kvs))\/∃kvs,H p=some (.dT kvs)))\/(T="set"/\∃S n,H p=some (.set S n))
 | _=>False
def tyV_is (I:Inv X pins σ H s) (r:RelV x v) (ty:tyV X.K T x H) :
 s.TypeIs v T/\∀a,v=.ref a->∃ob,s.heap.get? a=some ob/\ob.dict=none:=by
 cases x with
 | str z =>
  obtain⟨t,rfl⟩:=r
  cases (show T="str" from ty)
  exact⟨typeIs_str s z t,λ_ e=>nomatch e⟩
 | int i =>
  obtain⟨t,rfl⟩:=r
  cases (show T="int" from ty)
  exact⟨typeIs_int s i t,λ_ e=>nomatch e⟩
 | ref p =>
  cases r
  rcases ty with⟨rfl,xs,hq⟩|⟨rfl,o,hk,hc,hd⟩|⟨rfl,hk⟩|⟨rfl,S,n,hk⟩
  ·obtain ⟨its,_,pl,_⟩:=I.list hq
   refine⟨pl.isList.typeIs,λa e=>?_⟩
   cases e
   obtain⟨o,n,e,c,hd,_⟩:=pl
   exact⟨o,e,hd⟩
  ·refine ⟨⟨o,I.kIn p o hk,hc⟩,fun a e=>?_⟩
   cases e
   exact⟨o,I.kIn _ o hk,hd⟩
  ·have z:∃o,s.heap.get? p=some o/\o.ExactDict:=by
    rcases hk with⟨kvs,hk⟩|⟨kvs,hk⟩
    ·obtain ⟨_,_,_,_,o,_,_,e,ex,_⟩:=I.hok p _ hk
     exact⟨o,e,ex⟩
    ·obtain ⟨_,_,_,_,o,_,_,e,ex,_⟩:=I.hok p _ hk
     exact⟨o,e,ex⟩
   obtain⟨o,e,ex⟩:=z
   refine⟨⟨o,e,ex.1⟩,λa e2=>?_⟩
   cases e2
   exact⟨o,e,ex.2.1⟩
  ·obtain ⟨o,_,_,_,e,ex,_⟩:=I.hok p _ hk
   refine⟨⟨o,e,ex.1⟩,λa e2=>?_⟩
   cases e2
   exact⟨o,e,ex.2.1⟩
 | _=>exact False.elim ty
def tBM (K:W.Frag) (T:String) (r:V->List V->Hp->VK->Prop) (to:TE) (t:TA):TE:=λσ H Q=>to σ H λx H1=>tyV K T x H1/\t σ H1 λxs H2=>r x xs H2 Q
variable {o e:Expr}{es:List Expr}{to:TE}{t:TA}{name:Str}{apos cpos:Pos}{T id:String}{r:V->List V->Hp->VK->Prop}
def pe_bm (pa:PlainAttrs T) (slot:Slot T name id) (hty:typeOf (.builtin id)=pure (.type "method_descriptor")) (hm:MtR X id r) (ho:PE X o to) (ha:PA X (e::es) t)
 (hbase:attributeBase o name X.env (eval o X.env)=eval o X.env:=by rfl)
 (hfew:((backTo cpos (starEach (e::es) X.env)).all (fun x=>!x.1)&&(backToKw cpos (keywordEach [] X.env)).all (fun x=>x.1.isSome)
 && decide ((e::es).length+([]:List Keyword).length+(if ([]:List Keyword).isEmpty then 0 else 1)<30))=true:=by rfl)
 (hline:(apos.endLine==cpos.line)=true:=by rfl) (hs:starEach (e::es) X.env=(false,eval e X.env)::starEach es X.env:=by rfl) (hplain:(backTo cpos (starEach es X.env)).any (·.1)=false:=by rfl) :
 PE X (.Call (.Attribute o name apos) (e::es) [] cpos) (tBM X.K T r to t):=by
 intro pins s σ H Q I h
 refine wpAny_Call_method_late hbase hfew hline rfl (thn (ho pins s σ H _ I h) λv s1 z958=>?_)
 obtain⟨x,H1,I1,r1,ty,q1⟩:=z958
 obtain⟨h1,h2⟩:=tyV_is I1 r1 ty
 refine⟨T,id,pa,slot,hty,h1,h2,?_⟩
 have hA:=ha cpos pins s1 σ H1 _ I1 q1
 rw[hs] at hA |-
 refine Calls.callWith_builtin (by show(false||(backTo cpos (starEach es X.env)).any (·.1))=false;rw[hplain]<;>rfl) (Calls.evalArgs_plain ?_)
 exact thn hA λus s2 ⟨vs,H2,I2,r2,q2⟩=>hm pins s2 σ H2 x vs v us Q I2 r1 r2 q2
end
def MtM (X:Cx) (id:String) (r:V->List V->Hp->VK->Prop):Prop :=
 ∀(pins:LO) (s:Shared) (σ:St) (H:Hp) (x:V) (xs:List V) (v:Value) (us:List Value) (Q:VK),Inv X pins σ H s->RelV x v->Vals xs us->r x xs H Q ->
  wpAny (model X.prog X.w) X.A (call (.builtin id) (v::us)) (EP X pins σ Q) X.xe s
theorem Vals.one:∀{x:V}{us:List Value},Vals [x] us->∃u,us=[u]/\RelV x u
 | _,_,.cons r .nil=>⟨_,rfl,r⟩
theorem Vals.rep {xs:List V}{us:List Value} (h:Vals xs us):∀k:Nat,Vals (List.replicate k xs).flatten (List.replicate k us).flatten
 | 0=>.nil
 | k+1=>by
  rw[List.replicate_succ,List.replicate_succ,List.flatten_cons,List.flatten_cons]
  exact Vals.append h (Vals.rep h k)
theorem u5I (its:List Value):∀(k:Nat) (acc:List Value),
  List.foldl (λx1 x2=>x1++x2) acc.toArray (List.replicate k its.toArray)=(acc++(List.replicate k its).flatten).toArray
 | 0,acc=>by simp
 | k+1,acc=>by
  have e:acc.toArray++its.toArray=(acc++its).toArray:=by simp
  have e2:(acc++its)++(List.replicate k its).flatten=acc++(List.replicate (k+1) its).flatten:=by
   rw[List.replicate_succ,List.flatten_cons,List.append_assoc]
  rw[<- e2,<- u5I its k (acc++its),<- e,List.replicate_succ,z1J]
section
variable {X:Cx}{pins:LO}{σ:St}{H:Hp}{s:Shared}{l b:Addr}{xs ys zs:List V}
def Inv.lset {its its':List Value}{n:Nat}{f:Array Value->Array Value}{t':Nat} (I:Inv X pins σ H s) (hH:H l=some (.lst xs))
  (e:s.heap.get? l=some { cls:=.type "list",data:=.seq its.toArray n }) (hf:f its.toArray=its'.toArray) (hv:Vals ys its') (hz:ys.length<=sizeLine) :
  Inv X pins σ (upd H l (.lst ys)) { s with heap:=s.heap.update l (Obj.mapSeq f),toks:=t' }:=by
 have q:=PySem.IsL.update e f
 rw[hf] at q
 refine I.write (x:=l) (e:=l) (by rw[hH];exact trivial) (.inl rfl) (λb' u hb hu=>(q9 s.heap (Obj.mapSeq f) (Ne.symm hb)).trans hu) ⟨_,q⟩ ?_
 exact⟨hz,its',_,hv,q⟩
def Inv.lnew (I:Inv X pins σ H s) (hv:Vals ys its) (hz:ys.length<=sizeLine) :
 Inv X pins σ (upd H s.heap.objs.size (.lst ys)) { s with heap:=s.heap.push { cls:=.type "list",data:=.seq its.toArray },toks:=t' } :=
 I.laid (λ_ _ q=>z5 _ q) (y7 _) ⟨hz,its,0,hv,z7 _ rfl⟩
theorem Inv.fresh (I:Inv X pins σ H s):H s.heap.objs.size=none:=I.hok.fresh (y7 _)
def Inv.lstM (I:Inv X pins σ H s) (hH:H l=some (.lst xs)):xs.length<=sizeLine/\∃(its:List Value) (n:Nat),Vals xs its/\xs.length=its.length/\s.heap.get? l=some { cls:=.type "list",data:=.seq its.toArray n }:=by
 obtain⟨z,its,n,r,e⟩:=I.hok l _ hH
 exact⟨z,its,n,r,r.length,e⟩
def notLongL (h:n<=sizeLine):Builtin.List.listTooLong n=false:=by
 unfold Builtin.List.listTooLong
 exact decide_eq_false (by omega)
end
section
variable {X:Cx}
def rAppend:V->List V->Hp->VK->Prop:=λx vs H Q=>∃l xs y,x=.ref l/\vs=[y]/\H l=some (.lst xs)/\xs.length<sizeLine/\Q .non (upd H l (.lst (xs++[y])))
def u8a:MtM X "list.append" rAppend:=by
 intro pins s σ H x vs v us Q I rx rv h
 obtain⟨l,xs,y,rfl,rfl,hH,hz,q⟩:=h
 cases rx
 obtain⟨u,rfl,ru⟩:=rv.one
 obtain⟨z,its,n,r,hl,e⟩:=I.lstM hH
 refine call_meets F.slot_list_append ⟨_,e,rfl⟩ F.entry_list_append (F.args_list_append_2 _ _) (PySem.list_append l its.toArray n u (by rw[x8];omega)) ⟨e,?_⟩
 refine⟨.non,_,I.lset (its':=its++[u]) hH e (by simp) (r.append (.cons ru .nil)) ?_,rfl,q⟩
 rw[z2B,List.length_singleton]
 omega
def v2n {α:Type} (xs:List α) (k:Nat):(List.replicate k xs).flatten.length=k*xs.length:=by
 induction k with
 | zero=>simp
 | succ k ih=>rw[List.replicate_succ,List.flatten_cons,z2B,ih,Nat.succ_mul,Nat.add_comm]
end
end L2
namespace Att
open PySem PySem.W PySem.Calls PyProof.Rows
def u5F :∀(ns:List Int) (vs:List Value),WellAll P h vs (ns.map WData.int)->IntsAre vs ns:=by
 intro ns
 induction ns with
 | nil =>
  intro vs w
  rw[List.map_nil] at w
  cases w
  exact .nil
 | cons n ns ih =>
  intro vs w
  rw[w5] at w
  cases w with
  | cons a b =>
   cases a
   exact .cons _ _ (ih _ b)
def v1R {l:OpenLaw}{n:Nat} (hn:l.most=some n) {P:Params}{h:Heap}{args:List WData}{vals:List Value}
  (hpre:l.row.toRowW.claim.pre args=true) (hwl:WellAll P h vals args) :
  ∃a vs ns,vals=[Value.ref a]/\args=[WData.list (ns.map WData.int)]/\h.get? a=some { cls:=.type "list",data:=.seq vs.toArray }/\IntsAre vs ns/\ns.length<=n:=by
 have hsh:WShape.hasAll [] args [.list .int]=true:=(pre_splitW hpre).1
 have hc:l.pre.holds [] { args:=args }=true:=(pre_splitW hpre).2
 obtain⟨d,r,rfl,h1,h2⟩:=hasAllW_cons hsh
 obtain rfl:=hasAllW_nil h2
 obtain⟨xs,rfl,h3⟩:=hasW_list h1
 obtain⟨ns,rfl⟩:=items_int h3
 have hlen:ns.length<=n:=by
  unfold OpenLaw.pre at hc
  have h4:(WTm.not (.lt (.lit (.int (n:Int))) (.len (.arg 0)))).holds [] { args:=[.list (ns.map .int)] }=true:=by
   have h4:=(holds_andW hc).1
   rw[hn] at h4
   exact h4
  have h5:=condW_of h4 (w_not (w_lt w_lit (w_len_list (w_arg rfl))))
  rw[v6] at h5
  refine Nat.le_of_not_lt λq=>?_
  have q':(n:Int)<((ns.length:Nat):Int):=by omega
  first
   | (rw[decide_eq_true q'] at h5;exact absurd h5 (by decide))
   | (simp at h5;omega)
 cases hwl with
 | cons w1 w2 =>
  cases w2
  cases w1 with
  | list ho hall=>exact⟨_,_,ns,rfl,rfl,ho,u5F ns _ hall,hlen⟩
def v1Z (l:OpenLaw) (args:List WData):l.row.toRowW.claim.post args (.bool true) args=true :=
 postW_of (r:=l.row.toRowW) (X:=(true==true))
  (show WShape.has [] (.bool true) .bool=true by first|rfl|decide|simp[WShape.has,WShape.arms,WShape.armsAll])
  (show(WTm.eq .res (.lit (.bool true))).value [] { args:=args,res:=some (.bool true),after:=args }=some (.bool (true==true)) from w_eq_bool (w_res rfl) w_lit) rfl
def attach_call {l:OpenLaw}{n:Nat}{q:Program}{loose:List Str}{XP:(Str->Option Value)->Heap->Prop}{YP:World->Heap->Prop}{d:DefRec}
  (hn:l.most=some n) (hdf:d.params.defaults=[])
  (call:∀ (w:World) (s₀ s₁:Shared) (mg mb:MG) (fa:Addr) (o:Obj) (pm cd doc:Value) (a:Addr) (vs:List Value) (ns:List Int),
   Ground q loose [] XP w s₀ mg mb s₁.heap->YP w s₁.heap ->
   s₁.heap.get? fa=some o->o.data=.func (docDef d.name d.params d.body d.scope pm cd doc)->s₁.heap.CodeRec cd d.name->mg d.name=some (.ref fa) ->
   s₁.heap.get? a=some { cls:=.type "list",data:=.seq vs.toArray }->IntsAre vs ns->ns.length<=n->s₁.gens=#[] ->
   codeAny (model l.prog w) callerA (.call (.ref fa) ⟨[.ref a],[]⟩) (λr s'=>r=.ok (.ret (.bool true))/\OldK s₁.heap s'.heap/\s'.os=s₁.os/\AllBare s'.gens) s₁) :
  WalkO q loose XP YP l.row.toRowW d [] (λf vs=>PySem.call f vs):=by
 intro w s₀ s₁ mg mb G Y fa o pm cd doc dV kV ho hd hcd hD hmg hg args vals as hpre hlay hrd hwl hlo
 obtain rfl:dV=.none:=Dflts.none hD hdf
 obtain rfl:kV=.none:=Dflts.noKw hD
 obtain⟨a,vs,ns,rfl,rfl,hobj,hints,hlen⟩:=v1R hn hpre hwl
 refine enter_call (codeAny_mono (call w s₀ s₁ mg mb fa o pm cd doc a vs ns G Y ho (fd_plain hd) hcd hmg hobj hints hlen hg) λr s' hq=>?_)
 obtain⟨rfl,h2,h3,h4⟩:=hq
 exact⟨.inl ⟨.bool true,.bool true,[],rfl,λ_=>rfl,.bool true,v1Z l _,λ_=>⟨List.Pairwise.nil,λ_ hm=>(nomatch hm)⟩⟩,h2,h3,h4⟩
end Att
namespace L2
open PySem PySem.Spec PyProof.Rows
theorem u7w:∀{vs:List Value}{ns:List Int},IntsAre vs ns->Vals (ns.map V.int) vs
 | _,_,.nil=>.nil
 | _,_,.cons n t h=>.cons ⟨t,rfl⟩ (u7w h)
def Only (H:Hp):Prop:=∀b,H b=none\/∃o xs,H b=some (.frz o (.lst xs))
def v3R {P:Program}{w:World}{K:W.Frag}{mg mb:MG}{CX:CXT}{k:Nat}{fa a:Addr}{fd:FuncData}{x:Str}{sp:Sp}{s₁:Shared}{vs:List Value}{ns:List Int}
  (KX:K.In s₁.heap) (hns:s₁.heap.Ns mainGlobals mg) (hb:s₁.heap.Ns builtinsNs mb) (hbb:∀x:Str,x≠"__name__"->mb x=bootBuiltins x) (hlim:s₁.heap.NoLimit) (hg:s₁.gens=#[])
  (ha:s₁.heap.get? a=some { cls:=.type "list",data:=.seq vs.toArray }) (hi:IntsAre vs ns) (hl:ns.length<=sizeLine) (hr:Room k callerA)
  (F:∀base:Heap,K.In base->base.Ns mainGlobals mg->FnOk P w K mg base CX k fa fd [x] sp) (hbind:∀(s:Shared) (u:Value),BindsTo s fd ⟨[u],[]⟩ [(x,u)])
  (hsp:∀H:Hp,Only H->SqL K H a (ns.map V.int)->sp [.ref a] H (λv _=>v=.bl true) λ_ _ _=>False)
  (hCX:∀H e s',CX [] H s₁ (λ_ _ _=>False) e s'->False) :
  codeAny (model P w) callerA (.call (.ref fa) ⟨[.ref a],[]⟩) (λr s'=>r=.ok (.ret (.bool true))/\OldK s₁.heap s'.heap/\s'.os=s₁.os/\AllBare s'.gens) s₁:=by
 have rv:=u7w hi
 have lenV:=hi.length
 have core:∀H:Hp,Only H->SqL K H a (ns.map V.int)->HOk P w H s₁.heap->(∀b,H b≠none->b=a)->(H a≠none->K.lookup a=none) ->
   codeAny (model P w) callerA (.call (.ref fa) ⟨[.ref a],[]⟩) (λr s'=>r=.ok (.ret (.bool true))/\OldK s₁.heap s'.heap/\s'.os=s₁.os/\AllBare s'.gens) s₁:=by
  intro H hO hS hok hA hK
  have base_of:∀{b:Addr}{o:Obj},s₁.heap.get? b=some o->H b=none->(hidT s₁.heap H).get? b=some o:=λe n=>v3X e n
  have noA:∀{b:Addr}{o:Obj}{es:Array DictEntry}{ep:Nat},s₁.heap.get? b=some o->o.data=.dict es ep->H b=none:=λ{b o es ep} e d=>by
   cases q:H b with
   | none=>rfl
   | some u =>
    have e':b=a:=hA b (by rw[q];simp)
    subst e'
    rw[ha] at e;cases e
    have d':Data.seq vs.toArray _=Data.dict es ep:=d
    cases d'
  have nsK:∀{b:Addr}{m:MG},s₁.heap.Ns b m->(hidT s₁.heap H).Ns b m:=λ{b m} ⟨o,es,ep,e,d,r⟩=>⟨o,es,ep,base_of e (noA e d),d,r⟩
  have hKb:K.In (hidT s₁.heap H):=λb o e=>base_of (KX b o e) (by
   cases q:H b with
   | none=>rfl
   | some u =>
    have e':b=a:=hA b (by rw[q];simp)
    subst e'
    rw[hK (by rw[q];simp)] at e;cases e)
  have hM:Mod K mg (hidT s₁.heap H):=⟨hKb,nsK hns,⟨mb,nsK hb,hbb⟩,by obtain⟨mc,h1,h2⟩:=hlim;exact⟨mc,nsK h1,h2⟩⟩
  have e0:Env0 P w K mg (hidT s₁.heap H) callerA [] s₁ H:=⟨rfl,hM,λb o e=>of_hidT e,Nat.le_of_eq (v2D _ _),trivial,λb hb=>absurd (show b∈([]:List Addr) from hb) (by simp),hok,.of_eq hg⟩
  refine codeAny_mono ((F _ hKb (nsK hns)).run callerA [] s₁ H ⟨[.ref a],[]⟩ [.ref a] [.ref a] _ _ hr e0 (hbind s₁ (.ref a)) (.cons rfl .nil) (hsp H hO hS)) λr s' h=>?_
  cases r with
  | error e=>exact(hCX H e s' h).elim
  | ok fl =>
   cases fl with
   | next=>exact False.elim h
   | brk=>exact False.elim h
   | cont=>exact False.elim h
   | ret u =>
    obtain⟨v,H',os,bare,un,hok',r',q⟩:=h
    have q':v=.bl true:=q
    subst q'
    obtain rfl:u=Value.bool true:=r'
    refine⟨rfl,OldK.of_keep λb o e=>?_,os,bare⟩
    cases q:H b with
    | none=>exact un.keep b o e q (by intro z;exact absurd (show b∈([]:List Addr) from z) (by simp)) (by simp)
    | some u =>
     rcases hO b with z|⟨ob,xs,z⟩
     ·rw[q] at z;cases z
     ·have z2:=un.frzs b ob _ z
      obtain⟨e1,_⟩:=hok b _ z
      obtain⟨e2,_⟩:=hok' b _ z2
      rw[e] at e1;cases e1
      exact e2
 cases hk:K.lookup a with
 | some o =>
  have e:=KX a o hk
  rw[ha] at e
  cases e
  refine core (λ_=>none) (λ_=>.inl rfl) (.inr ⟨_,vs.toArray,_,hk,rfl,rfl,rfl,by rw[x8,lenV];exact hl,by simpa using rv⟩) (λb u z=>by have z':(none:Option HO)=some u:=z;cases z') (λb z=>absurd rfl z) λz=>absurd rfl z
 | none =>
  refine core (λb=>if b=a then some (.frz { cls:=.type "list",data:=.seq vs.toArray } (.lst (ns.map V.int))) else none) (λb=>?_) (.inl (.inr ⟨{ cls:=.type "list",data:=.seq vs.toArray },if_pos rfl⟩)) (λb u z=>?_) (λb z=>?_) λ_=>hk
  ·by_cases hb:b=a
   ·exact .inr ⟨_,_,if_pos hb⟩
   ·exact .inl (if_neg hb)
  ·by_cases hb:b=a
   ·have z':=(if_pos hb).symm.trans z
    cases z'
    subst hb
    exact⟨ha,by rw[v6];exact hl,vs,_,rv,ha⟩
   ·have z':=(if_neg hb).symm.trans z
    cases z'
  ·by_cases hb:b=a
   ·exact hb
   ·exact absurd (if_neg hb) z
def walk_of {l:W.OpenLaw}{n k:Nat}{q:Program}{loose:List Str}{XP:(Str->Option Value)->Heap->Prop}{YP:World->Heap->Prop}{d:DefRec}{K:Params->W.Frag}{CX:World->CXT}{sp:World->Sp}{x:Str}
  (hn:l.most=some n) (hn2:n<=sizeLine) (hdf:d.params.defaults=[]) (hr:Room k callerA)
  (hY:∀(w:World) (h:Heap),YP w h->(K w.params).In h)
  (F:∀ (w:World) (mg:MG) (fa:Addr) (h:Heap),(K w.params).In h->h.Ns mainGlobals mg->mg d.name=some (.ref fa) ->
   ∃fd:FuncData,(∀(s:Shared) (u:Value),BindsTo s fd ⟨[u],[]⟩ [(x,u)]) /\
    ∀base:Heap,(K w.params).In base->base.Ns mainGlobals mg->FnOk l.prog w (K w.params) mg base (CX w) k fa fd [x] (sp w))
  (hsp:∀(w:World) (H:Hp) (a:Addr) (ns:List Int),ns.length<=n->Only H->SqL (K w.params) H a (ns.map V.int)->sp w [.ref a] H (λv _=>v=.bl true) λ_ _ _=>False)
  (hCX:∀(w:World) (H:Hp) (s:Shared) (e:Value) (s':Shared),CX w [] H s (λ_ _ _=>False) e s'->False) :
  W.WalkO q loose XP YP l.row.toRowW d [] (λf vs=>PySem.call f vs):=by
 refine Att.attach_call hn hdf λw s₀ s₁ mg mb fa o pm cd doc a vs ns G Y ho hd hcd hmg hobj hints hlen hg=>?_
 have KX:=hY w _ Y
 obtain⟨fd,hb,hF⟩:=F w mg fa _ KX G.T.g hmg
 exact v3R KX G.T.g G.T.b G.T.builtins G.T.nolimit hg hobj hints (v5 hlen hn2) hr hF hb (λH hO hS=>hsp w H a ns hlen hO hS) λH e s'=>hCX w H s₁ e s'
noncomputable def defArgs (s:Stmt):Arguments:=match s with
 | .FunctionDef _ a _ _ _ _ _ _ _ _=>a
 | _=>{ posonlyargs:=[],args:=[],vararg:=none,kwonlyargs:=[],kw_defaults:=[],kwarg:=none,defaults:=[] }
noncomputable def defBody (s:Stmt):List Stmt:=match s with
 | .FunctionDef _ _ b _ _ _ _ _ _ _=>b
 | _=>[]
noncomputable def defScope (s:Stmt):Scope:=match s with
 | .FunctionDef _ _ _ _ _ _ sc _ _ _=>sc
 | _=>{ kind:=.function,names:=[],isGenerator:=false,isCoroutine:=false }
abbrev CX0:CXT:=λ_ _ _ _ _ _=>False
abbrev E0:XK:=λ_ _ _=>False
def pass0 :Passes CX0 X E0:=λ_ _ _ _ _ _ _ h=>h.elim
structure Fun (K:W.Frag) (x qual:Str) (st:Stmt) (f:Addr) (fd:FuncData):Prop where
 ex:∃(oc:Value) (od:Option Addr) (kV doc pm:Value) (an:Option Addr) (cdv ct:Value) (osl:Array (Option Value)),
  fd=W.fnOf x qual (defArgs st) (defBody st) (defScope st) .none kV doc pm an cdv ct/\K.lookup f=some ⟨oc,od,.func fd,osl⟩/\W.codeIn K cdv qual=true
 kp:W.keepIn K (.ref f)=true
section
variable {P:Program}{w:World}{K:W.Frag}{mg:MG}{base:Heap}
def Fun.ok {x qual:Str}{st:Stmt}{f:Addr}{fd:FuncData}{N ps:List Str}{k:Nat}{sp:Sp} (F:Fun K x qual st f fd) (S:FnScope N ps (defScope st)) (len:∀vs H Q E,sp vs H Q E->vs.length=ps.length)
  (hbody:∀ (cdv:Value) (A:Around) (outer:List Env) (s:Shared) (H:Hp) (vs:List V) (Q:VK) (E:XK),Room k (A.deeper (envOfC qual (defScope st) s.heap.objs.size f cdv))->sp vs H Q E ->
   ∃t,PSs (cxOf CX0 P w K mg base N qual (defScope st) f cdv A outer s H E).nox (defBody st) t/\t { nx:=λ_ H'=>Q .non H',rt:=Q } (start N vs) H):FnOk P w K mg base CX0 (k+1) f fd ps sp:=by
 obtain⟨oc,od,kV,doc,pm,an,cdv,ct,osl,rfl,lk,hcd⟩:=F.ex
 refine fn_of lk hcd S len λA outer s H vs Q E hr hsp=>?_
 obtain⟨t,h,q⟩:=hbody cdv A outer s H vs Q E hr hsp
 exact⟨t,h.nox,q⟩
def Fun.binds {x qual:Str}{st:Stmt}{f:Addr}{fd:FuncData}{ps:List Str} (F:Fun K x qual st f fd)
  (h:∀(kV doc pm:Value) (an:Option Addr) (cdv ct:Value) (us:List Value),us.length=ps.length->bindArgs (W.fnOf x qual (defArgs st) (defBody st) (defScope st) .none kV doc pm an cdv ct) ⟨us,[]⟩=pure (ps.zip us)):Binds K fd ps []:=by
 obtain⟨oc,od,kV,doc,pm,an,cdv,ct,osl,rfl,lk,hcd⟩:=F.ex
 exact .all (h kV doc pm an cdv ct)
def v2I {x qual:Str}{st:Stmt}{f:Addr}{oc:Value}{od an:Option Addr}{osl:Array (Option Value)}{kV doc pm cdv ct:Value} (l:K.lookup f=some ⟨oc,od,.func (W.fnOf x qual (defArgs st) (defBody st) (defScope st) .none kV doc pm an cdv ct),osl⟩)
  (c:W.codeIn K cdv qual=true) (k:W.keepIn K (.ref f)=true):Fun K x qual st f (W.fnOf x qual (defArgs st) (defBody st) (defScope st) .none kV doc pm an cdv ct):=⟨⟨oc,od,kV,doc,pm,an,cdv,ct,osl,rfl,l,c⟩,k⟩
end
def Same (H H':Hp):Prop:=∀b o,H b=some o->H' b=some o
def Same.refl (H:Hp):Same H H:=λ_ _ h=>h
def Same.trans (a:Same H H1) (b:Same H1 H2):Same H H2:=λc o h=>b c o (a c o h)
def Same.free (e:Same H H') (h:H' l=Option.none):H l=Option.none:=by
 cases q:H l with
 | none=>rfl
 | some o =>
  rw[e l o q] at h
  cases h
def Same.seq {K:W.Frag}{H H':Hp}{a:Addr}{xs:List V} (e:Same H H') (h:SqL K H a xs):SqL K H' a xs:=by
 rcases h with(h|⟨o,h⟩)|h
 ·exact .inl (.inl (e _ _ h))
 ·exact .inl (.inr ⟨o,e _ _ h⟩)
 ·exact .inr h
section
variable {P:Program}{w:World}{H H':Hp}{h h1 h2:Heap}{a C:Addr}{o:HO}{fs ex:List Addr}
def HOk.track (x:HOk P w H h) (hn:H a=none) (new:ObjOk P w (upd H a o) h a o):HOk P w (upd H a o) h:=λb u e=>by
 by_cases hb:b=a
 ·subst hb;rw[u0j] at e;cases e;exact new
 ·rw [u0o hb] at e
  exact(x b u e).stay (λ_ _ _ q=>q) (λc q=>by rw[u0o (u0y q hn)];exact q) (λc xs q=>by rw[u0o (u0y q hn)];exact q)
def Un.track (u:Un fs ex H H' h h1) (hn:H' a=none) (ha:h.get? a=none):Un fs ex H (upd H' a o) h h1 where
 keep:=u.keep
 slot:=u.slot
 free:=λb ob q n hx=>by
  rw[u0o (by rintro rfl;rw[ha] at q;cases q)]
  exact u.free b ob q n hx
 there:=u.there
 tups:=λb xs q=>by have:=u.tups b xs q;rw[u0o (u0y this hn)];exact this
 frzs:=λb ob xs q=>by have:=u.frzs b ob xs q;rw[u0o (u0y this hn)];exact this
 tbls:=λb ps q=>by
  obtain⟨m,this⟩:=u.tbls b ps q
  exact⟨m,by rw[u0o (u0y this hn)];exact this⟩
end
theorem u4s (env:Env) (f:Str×NameKind->List (Str×Addr)->Sem (ForInStep (List (Str×Addr))))
  (h1:∀n cs a,env.cells.lookup n=some a->f (n,.free) cs=pure (.yield ((n,a)::cs))) (h2:∀n k cs,k≠.free->f (n,k) cs=pure (.yield cs)) :
  ∀(l:List (Str×NameKind)) (cs:List (Str×Addr)),(∀x∈l,x.2=.free->∃c,env.cells.lookup x.1=some c)->(∀x c,cs.lookup x=some c->env.cells.lookup x=some c) ->
   ∃cl,forIn l cs f=pure cl/\(∀x c,cl.lookup x=some c->env.cells.lookup x=some c)/\(∀x∈l,x.2=.free->∃c,cl.lookup x.1=some c)/\∀x c,cs.lookup x=some c->∃c',cl.lookup x=some c'
 | [],cs,_,hc=>⟨cs,rfl,hc,(λ_ z=>(nomatch z)),λx c q=>⟨c,q⟩⟩
 | (n,k)::l,cs,hl,hc=>by
  by_cases hk:k=.free
  ·subst hk
   obtain⟨a,ha⟩:=hl (n,.free) z6 rfl
   have hc':∀x c,((n,a)::cs).lookup x=some c->env.cells.lookup x=some c:=λx c q=>by
    rw[z0J] at q
    cases e:x==n with
    | true=>rw[e] at q;cases q;rw[eq_of_beq e];exact ha
    | false=>rw[e] at q;exact hc x c q
   obtain⟨cl,e,p1,p2,p3⟩:=u4s env f h1 h2 l ((n,a)::cs) (λx hx=>hl x (z0 _ hx)) hc'
   refine⟨cl,?_,p1,λx hx hf=>?_,λx c q=>?_⟩
   ·rw[List.forIn_cons,h1 n cs a ha,pure_bind];exact e
   ·rcases z8.mp hx with rfl | hx
    ·exact p3 n a (by rw[z0J];simp)
    ·exact p2 x hx hf
   ·by_cases e:(x==n)=true
    ·exact p3 x a (by rw[z0J,e])
    ·have e':(x==n)=false:=by simpa using e
     exact p3 x c (by rw[z0J,e'];exact q)
  ·obtain ⟨cl,e,p1,p2,p3⟩:=u4s env f h1 h2 l cs (fun x hx=>hl x (z0 _ hx)) hc
   refine⟨cl,?_,p1,λx hx hf=>?_,p3⟩
   ·rw[List.forIn_cons,h2 n k cs hk,pure_bind];exact e
   ·rcases z8.mp hx with rfl | hx
    ·exact absurd hf hk
    ·exact p2 x hx hf
def u2H (h:∀x∈scope.names,x.2=.free->∃c,env.cells.lookup x.1=some c) :
 ∃cl,closureFor scope env=pure cl/\(∀x c,cl.lookup x=some c->env.cells.lookup x=some c)/\∀x∈scope.names,x.2=.free->∃c,cl.lookup x.1=some c:=by
 unfold closureFor
 obtain⟨cl,e,p1,p2,_⟩:=u4s env (λ(x:Str×NameKind) (r:List (Str×Addr))=>match x with
   | (name,kind)=>if (kind==NameKind.free)=true then (do let a <- cellOf env name;pure (ForInStep.yield ((name,a)::r))) else pure (ForInStep.yield r))
  (fun n cs a ha=>by simp [cellOf,ha]) (fun n k cs hk=>by
   have:(k==NameKind.free)=false:=by simpa using hk
   simp[this]) scope.names [] h (λx c q=>by simp at q)
 refine⟨cl,?_,p1,p2⟩
 first
  | (rw[e];rfl)
  | (simp only[pure_bind,bind_pure] at e |-;exact e)
  | (show(forIn scope.names [] _ >>= _)=_;rw[e];rfl)
theorem u2i (env:Env):∀(names:List (Str×NameKind)) (x:Str),
  (names.map fun (n,k)=>if (k==NameKind.free&&env.scope.kind==.function&&env.kindOf n==some .cell) then (n,NameKind.cell) else (n,k)).lookup x =
   (names.lookup x).map λk=>if (k==NameKind.free&&env.scope.kind==.function&&env.kindOf x==some .cell) then NameKind.cell else k
 | [],x=>rfl
 | (n,k)::r,x=>by
  have ih:=u2i env r x
  show List.lookup x ((if (k==NameKind.free&&env.scope.kind==.function&&env.kindOf n==some .cell)=true then (n,NameKind.cell) else (n,k))::_)=_
  cases hx:x==n with
  | true =>
   have e:=eq_of_beq hx
   subst e
   by_cases hc:(k==NameKind.free&&env.scope.kind==.function&&env.kindOf x==some .cell)=true
   ·rw[if_pos hc];simp only[z0J,hx,Option.map_some,if_pos hc]
   ·rw[if_neg hc];simp only[z0J,hx,Option.map_some,if_neg hc]
  | false =>
   by_cases hc:(k==NameKind.free&&env.scope.kind==.function&&env.kindOf n==some .cell)=true
   ·rw[if_pos hc];simp only[z0J,hx];exact ih
   ·rw[if_neg hc];simp only[z0J,hx];exact ih
abbrev cxC (X:Cx) (own:List Str) (outs:List Nat) (scope:Scope) (cl:List (Str×Addr)) (C:Addr) (s:Shared) (H:Hp) (fp:List Addr):Cx where
 prog:=X.prog
 w:=X.w
 K:=X.K
 mg:=X.mg
 base:=X.base
 A:=X.A
 N:=own++outs.map λj=>X.N.getD j Str.empty
 s₀:=s
 H₀:=H
 env:=compEnvC scope cl C X.env
 outer:=X.stack
 stack:=X.stack
 ex:=fp
 fn:=λ_=>false
 calm:=X.calm
 pn:=[]
 xe:=λ_ _=>False
noncomputable def stC (k:Nat) (outs:List Nat) (σ:St):St:=List.replicate k none++outs.map λj=>(σ[j]?).join
structure CompOk (sc:Scope) (N:List Str) (own:List Str) (outs:List Nat) (scope:Scope):Prop where
 kind:scope.kind=.function
 cell:∀y∈scope.names,y.2≠.cell
 loc:∀y∈scope.names,y.2=.local->scope.names.lookup y.1=some .local
 fre:∀y∈scope.names,y.2=.free->sc.names.lookup y.1=some .cell\/sc.names.lookup y.1=some .free
 out:∀j∈outs,∃y,N[j]?=some y/\scope.names.lookup y=some .free
 ownN:∀y∈own,scope.names.lookup y=some .local
noncomputable def compB (sc:Scope) (N:List Str) (own:List Str) (outs:List Nat) (scope:Scope):Bool :=
 decide (scope.kind=.function)&&scope.names.all (λy=>y.2 != .cell)&&scope.names.all (λy=>y.2 != .local||scope.names.lookup y.1==some .local) &&
 scope.names.all (λy=>y.2 != .free||sc.names.lookup y.1==some .cell||sc.names.lookup y.1==some .free) &&
 outs.all (λj=>match N[j]? with|some y=>scope.names.lookup y==some .free|none=>false)&&own.all (λy=>scope.names.lookup y==some .local)
def u0q (h:compB sc N own outs scope=true):CompOk sc N own outs scope:=by
 unfold compB at h
 simp only[t9,z2F,decide_eq_true_eq] at h
 obtain⟨⟨⟨⟨⟨h1,h2⟩,h3⟩,h4⟩,h5⟩,h6⟩:=h
 refine⟨h1,λy hy=>?_,λy hy hl=>?_,λy hy hl=>?_,λj hj=>?_,λy hy=>?_⟩
 ·simpa using h2 y hy
 ·have:=h3 y hy
  rw[hl] at this
  simpa using this
 ·have:=h4 y hy
  rw[hl] at this
  simpa using this
 ·have:=h5 j hj
  cases e:N[j]? with
  | none=>rw[e] at this;cases this
  | some y=>rw[e] at this;exact⟨y,rfl,by simpa using this⟩
 ·simpa using h6 y hy
def PIf (X:Cx) (ifs:List Expr) (t:TT):Prop :=
 ∀(pins:LO) (s:Shared) (σ:St) (H:Hp) (Q:Bool->Hp->Prop),Inv X pins σ H s->t σ H Q ->
  wpAny (model X.prog X.w) X.A (forIn ifs true λc r=>if r=true then do let ok <- isTrue c X.env (eval c X.env);pure (ForInStep.yield ok) else pure (ForInStep.yield r)) (TP X pins σ Q) X.xe s
def tYes:TT:=λ_ H Q=>Q true H
def pif_nil :PIf X [] tYes:=λpins s σ H Q I h=>wpAny_pure ⟨H,I,h⟩
def pif_one (hc:PT X c t):PIf X [c] t:=λpins s σ H Q I h=>by
 rw[List.forIn_cons]
 simp only[if_true,List.forIn_nil]
 refine wpAny_bind (wpAny_bind (thn (hc pins s σ H Q I h) λb s1 q=>wpAny_pure (wpAny_pure q)))
def CompRd (k:Nat) (outs:List Nat) (σ:St) (g:TG) (ti:TT) (te:TE) (J:It) (H1:Hp) (Q:VK):Prop:=∃W:Nat->Nat->List V->Hp->Prop,(∃m,W 0 m [] H1)/\∀i m ys H,W i m ys H->ys.length<=sizeLine /\
 ((J.stop i H/\∀ p,H p=none->Q (.ref p) (upd H p (.lst ys))) \/
  (J.go i H/\∃N:List V->Hp->Prop,(∀ys' H',N ys' H'->∃m',m'<m/\W (i+1) m' ys' H')/\∀x H',J.yld i H x H'->g x (stC k outs σ) H' λσ2 H2=>σ2.drop k=(outs.map λj=>(σ[j]?).join)/\ti σ2 H2 λb H3=>if b=true then te σ2 H3 λy H4=>N (ys++[y]) H4 else N ys H3))
def tComp (k:Nat) (outs:List Nat) (wi:TI) (g:TG) (ti:TT) (te:TE):TE:=λσ H Q=>wi σ H λJ H1=>CompRd k outs σ g ti te J H1 Q
theorem u6f (I:Nat->Shared->Prop)
 (turn:∀ n s,I n s->wpAny (model prog w) A (pyNext it) (fun r s₁=>match r with
 | none=>R (.ok .next) s₁
 | some v=>wpAny (model prog w) A (letOwnedTupleGo target it v) (λ_ s₁'=>wpAny (model prog w) A (assign target env v) (λ_ s₂ =>
 wpAny (model prog w) A (forIn ifs true λc r=>if r=true then do let ok <- isTrue c env (eval c env);pure (ForInStep.yield ok) else pure (ForInStep.yield r)) (λok s₃ =>
 if ok=true then wpAny (model prog w) A (eval elt env) (λx s₄ =>
 wpAny (model prog w) A (call (.builtin "list.append") [acc,x]) (λ_ s₅=>∃m,m<n/\I m s₅) (λ_ _=>False) s₄) (λ_ _=>False) s₃
 else ∃m,m<n/\I m s₃) (λ_ _=>False) s₂) (λ_ _=>False) s₁') (λ_ _=>False) s₁) (λ_ _=>False) s)
 (n:Nat) (h:I n s) :
 codeAny (model prog w) A (.compLoop (.ListComp elt [⟨target,iter,ifs,0⟩] scope pos) 0 it acc env) R s:=by
 refine codeAny_loop rfl I (λn s hI=>?_) n h
 show wpAny _ A ((compTurn (.ListComp elt [⟨target,iter,ifs,0⟩] scope pos) 0 it acc env).onRaise (λx=>do noteFrame x env;theTreesLotGoes x)) _ _ s
 refine wpAny_noted ?_
 rw[compTurn_list]
 refine wpAny_bind (wpAny_standAt (wpAny_bind (wpAny_mono (turn n s hI) (λr s₁ h₁=>?_) λ_ _ h'=>h'.elim)))
 cases r with
 | none=>exact wpAny_pure h₁
 | some v =>
  refine wpAny_bind (wpAny_mono h₁ (λ_ s₁' h₁'=>?_) λ_ _ h'=>h'.elim)
  refine wpAny_bind (wpAny_mono h₁' (λ_ s₂ h₂=>wpAny_bind (wpAny_mono h₂ (λok s₃ h₃=>?_) λ_ _ h'=>h'.elim)) λ_ _ h'=>h'.elim)
  cases ok with
  | false=>exact wpAny_pure ⟨rfl,h₃⟩
  | true =>
   exact wpAny_bind (wpAny_bind (wpAny_mono h₃ (λx s₄ h₄=>wpAny_bind (wpAny_mono h₄ (λ_ s₅ h₅=>wpAny_pure (wpAny_pure ⟨rfl,h₅⟩)) λ_ _ h'=>h'.elim)) λ_ _ h'=>h'.elim))
section
variable {X:Cx}{pins:LO}{σ:St}{H:Hp}{s:Shared}{own:List Str}{outs:List Nat}{scope:Scope}{cl:List (Str×Addr)}{C:Addr}{fp:List Addr}
def u8g {sc:Scope} (ok:CompOk X.env.scope X.N own outs scope) (h:(compEnvC scope cl C X.env).kindOf x=some .cell\/(compEnvC scope cl C X.env).kindOf x=some .free):(x,NameKind.free)∈scope.names:=by
 have e:(compEnvC scope cl C X.env).kindOf x=(scope.names.lookup x).map λk=>if (k==NameKind.free&&X.env.scope.kind==.function&&X.env.kindOf x==some .cell) then NameKind.cell else k:=u2i X.env scope.names x
 rw[e] at h
 cases q:scope.names.lookup x with
 | none=>rw[q] at h;simp at h
 | some k =>
  have hm:=PySem.mem_of_lookup q
  by_cases hk:k=.free
  ·subst hk;exact hm
  ·rw [q] at h
   have hkf:(k==NameKind.free)=false:=by simpa using hk
   simp only[Option.map_some,hkf,Bool.false_and,t7,if_false,Option.some.injEq] at h
   rcases h with h|h
   ·exact absurd h (ok.cell _ hm)
   ·exact absurd h hk
def cxC_ok (I:Inv X pins σ H s) (ok:CompOk X.env.scope X.N own outs scope) (hcl:∀x c,cl.lookup x=some c->X.env.cells.lookup x=some c) (hcf:∀x∈scope.names,x.2=.free->∃c,cl.lookup x.1=some c)
 (hC:s.heap.objs.size<=C) (hfp:∀b∈fp,FpOk X pins H b) (hfs:∀b∈fp,b<s.heap.objs.size):(cxC X own outs scope cl C s H fp).Ok where
 mod:=I.ok.mod
 kind:=ok.kind
 glob:=I.ok.glob
 blt:=I.ok.blt
 above:=hC
 inj:=λx y c h1 h2=>I.ok.inj x y c (hcl x c h1) (hcl y c h2)
 has:=λx h=>by
  have hm:=u8g (sc:=scope) ok h
  exact hcf _ hm rfl
 cab:=λx c h _=>by cases h
 hd:=I.ok.hd
 frames:=I.ok.frames
 stk:=.inl rfl
 exf:=λb hb=>⟨v9 (w9 (hfs b hb) hC),λx c e=>(hfp b hb).2.2.2.2.1 x c (hcl x c e)⟩
 bs:=I.bs
 bsz:=v5 I.ok.bsz I.sz
 noex:=λb o e hb=>by
  rcases(hfp b hb).2.2.2.1 with z|z
  ·exact I.ok.noex b o e z
  ·have h1:b<X.base.objs.size:=y9 e
   exact absurd (w9 h1 (v5 I.ok.bsz z)) (z0G _)
 exfs:=λb hb z=>by
  rcases z8.mp (I.stkSub b z) with q|q
  ·exact(hfp b hb).2.1 q
  ·exact(hfp b hb).2.2.1 q
 funs:=I.stack
 frf:=I.stkFree
def getD_eq {N:List Str}{j:Nat}{y:Str} (h:N[j]?=some y):N.getD j Str.empty=y:=by
 rw[List.getD_eq_getElem?_getD,h];rfl
def v3V (I:Inv X pins σ H s) (ok:CompOk X.env.scope X.N own outs scope) (hcl:∀x c,cl.lookup x=some c->X.env.cells.lookup x=some c) (hcf:∀x∈scope.names,x.2=.free->∃c,cl.lookup x.1=some c)
  (hC:s.heap.objs.size<=C) (hfp:∀b∈fp,FpOk X pins H b) (hfs:∀b∈fp,b<s.heap.objs.size) {h':Heap}{t':Nat}{m:MG} (hk:∀b o,s.heap.get? b=some o->h'.get? b=some o) (hn:h'.Ns C m) :
  Inv (cxC X own outs scope cl C s H fp) [] (stC own.length outs σ) H { s with heap:=h',toks:=t' }:=by
 refine⟨cxC_ok I ok hcl hcf hC hfp hfs,rfl,I.bare,Un.kept hk,⟨m,hn,λi x v e1 e2 e3=>?_⟩,λx c e=>?_,I.hok.fresh hC,λx c e=>I.freeC x c (hcl x c e),λp hp=>(nomatch hp),I.hok.kept hk,?_⟩
 ·have hi:own.length<=i:=by
   by_cases hi:own.length<=i
   ·exact hi
   ·exfalso
    unfold stC at e2
    rw[z2I (by simp;omega),z0E] at e2
    split at e2<;>cases e2
  unfold stC at e2
  rw[z1C (by simp;omega),z2C,v7] at e2
  have e1':(own++outs.map λj=>X.N.getD j Str.empty)[i]?=some x:=e1
  rw[z1C hi,v7] at e1'
  cases q:outs[i - own.length]? with
  | none=>rw[q] at e2;cases e2
  | some j =>
   rw[q] at e1' e2
   obtain⟨y,hy,hyf⟩:=ok.out j (List.mem_of_getElem? q)
   have ex:y=x:=by
    rw[<- getD_eq hy]
    exact Option.some.inj e1'
   subst ex
   have ev:σ[j]?=some (some v):=by
    have e2':(σ[j]?).join=some v:=Option.some.inj e2
    cases z:σ[j]? with
    | none=>rw[z] at e2';cases e2'
    | some o=>rw[z] at e2';cases o with
     | none=>cases e2'
     | some v'=>cases e2';rfl
   obtain⟨m0,hn0,hl⟩:=I.loc
   have hkd:=ok.fre (y,.free) (PySem.mem_of_lookup hyf) rfl
   obtain⟨u,r,l⟩:=hl j y v hy ev (hkd.elim (λz=>.inr (.inl z)) λz=>.inr (.inr z))
   refine⟨u,r,?_⟩
   rcases l with⟨k,_⟩|⟨k,c,ec,hcell⟩
   ·exfalso
    have k':X.env.scope.names.lookup y=some .local:=k
    rcases hkd with z|z
    ·have z':X.env.scope.names.lookup y=some .cell:=z
     rw[k'] at z';cases z'
    ·have z':X.env.scope.names.lookup y=some .free:=z
     rw[k'] at z';cases z'
   ·refine .inr ⟨?_,?_⟩
    ·have e:(compEnvC scope cl C X.env).kindOf y=(scope.names.lookup y).map fun k=>if (k==NameKind.free&&X.env.scope.kind==.function&&X.env.kindOf y==some .cell) then NameKind.cell else k:=u2i X.env scope.names y
     show(compEnvC scope cl C X.env).kindOf y=_\/(compEnvC scope cl C X.env).kindOf y=_
     rw[e,hyf,Option.map_some]
     split
     ·exact .inl rfl
     ·exact .inr rfl
    ·obtain ⟨c',ec'⟩:=hcf (y,.free) (PySem.mem_of_lookup hyf) rfl
     refine⟨c',ec',?_⟩
     have:c'=c:=Option.some.inj ((hcl y c' ec').symm.trans ec)
     subst this
     obtain⟨o,ho,hd⟩:=hcell
     exact⟨o,hk _ o ho,hd⟩
 ·obtain ⟨v,o,ho,hd⟩:=I.cell x c (hcl x c e)
  exact⟨v,o,hk c o ho,hd⟩
 ·unfold stC
  show _=(own++outs.map λj=>X.N.getD j Str.empty).length
  simp
end
section
variable {X:Cx}{tg iter elt:Expr}{ifs:List Expr}{own:List Str}{outs:List Nat}{scope:Scope}{wi:TI}{g:TG}{ti:TT}{te:TE}{pos:Pos}
def u8v {pins:LO}{σ:St}{H:Hp}{s:Shared}{cl:List (Str×Addr)}{it:Addr}{fp:List Addr}{tn:Nat->Heap->Prop}{J:It}{E:VP}{Q:VK} (hc:X.calm=true) (ok:CompOk X.env.scope X.N own outs scope)
  (hcl:∀x c,cl.lookup x=some c->X.env.cells.lookup x=some c) (hcf:∀x∈scope.names,x.2=.free->∃c,cl.lookup x.1=some c)
  (hg:∀{C fp},PG (cxC X own outs scope cl C s H fp) tg g) (hf:∀{C fp},PIf (cxC X own outs scope cl C s H fp) ifs ti) (he:∀{C fp},PE (cxC X own outs scope cl C s H fp) elt te)
  (I:Inv X pins σ H s) (T:Turn X.prog X.w X.K tg J fp it tn) (st:tn 0 s.heap) (f2:∀b∈fp,FpOk X pins H b)
  (hW:CompRd own.length outs σ g ti te J H Q)
  {RR:Value->Addr->Result->Shared->Prop}
  (hRR:∀D C Hf s' m,s'.heap.Ns C m->Inv X pins σ Hf s'->Hf C=none->C≠X.env.locals->X.s₀.heap.objs.size<=C->(∀x c,X.env.cells.lookup x=some c->c≠C)->(∀p∈X.pn++pins,p.1≠C)->Q (.ref D) Hf->RR (.ref D) C (.ok .next) s') :
  wpAny (model X.prog X.w) X.A (newList []) (λacc s₃=>wpAny (model X.prog X.w) X.A (newFunctionEnv scope X.env.globals cl [] X.env.qual none .none (some X.env)) (λcenv s₄ =>
   codeAny (model X.prog X.w) X.A (.compStart (.ListComp elt [⟨tg,iter,ifs,0⟩] scope pos) 0 (.ref it) acc { cenv with scope:=relabel scope X.env }) (RR acc cenv.locals) s₄) E s₃) E s:=by
 obtain⟨W,⟨m0,w0⟩,turn⟩:=hW
 have hfs:∀b∈fp,@LT.lt Nat _ b s.heap.objs.size:=λb hb=>let ⟨o,e,_⟩:=T.obj _ _ st b hb;y9 e
 refine wpAny_newObj_type (wpAny_newFunctionEnv ok.cell (by intro y hy;simp at hy) (λh₁ hns₁ hsb₁=>?_) ok.kind)
 dsimp only at hns₁ hsb₁ |-
 generalize hH2:s.heap.push { cls:=.type "list",dict:=none,data:=.seq ([]:List Value).toArray }=H2 at hns₁ hsb₁ |-
 have hC:H2.objs.size=s.heap.objs.size+1:=by rw[<- hH2,Heap.size_push]
 generalize eC:H2.objs.size=C at hns₁ hsb₁ hC |-
 have hDC:s.heap.objs.size≠C:=by omega
 have below:∀b,b<s.heap.objs.size->b≠C/\b≠s.heap.objs.size:=λb hb=>⟨by omega,by omega⟩
 have old:∀b o,s.heap.get? b=some o->h₁.get? b=some o:=λb o e=>hsb₁.extBut b o (below b (y9 e)).1 (z5 _ (hH2 ▸ z5 _ e))
 have hacc:h₁.PlainList s.heap.objs.size #[]:=⟨_,hsb₁.extBut _ _ hDC (z5 _ (hH2 ▸ z7 _ rfl))⟩
 have hst₁:tn 0 h₁:=T.keep _ _ _ st λb _ o e=>old b o e
 have fresh:∀a,s.heap.objs.size<=a->s.heap.get? a=none:=λa ha=>by
  cases e:s.heap.get? a with
  | none=>rfl
  | some o'=>exact absurd (y9 e) (Nat.not_lt.mpr ha)
 obtain⟨D,hD⟩:∃D:Nat,s.heap.objs.size=D:=⟨_,rfl⟩
 rw[hD] at hDC hacc |-
 have hDs:s.heap.get? D=none:=fresh D (Nat.le_of_eq hD)
 have hCs:s.heap.get? C=none:=fresh C (by omega)
 have hDfp:D∉fp:=λz=>by have:=hfs D z;omega
 have hI0:∀t',Inv (cxC X own outs scope cl C s H fp) [] (stC own.length outs σ) H { s with heap:=h₁,toks:=t' }:=λt'=>v3V I ok hcl hcf (by omega) f2 hfs old hns₁
 have cellNe:∀x c,cl.lookup x=some c->@LT.lt Nat _ c s.heap.objs.size:=λx c e=>let ⟨v,q⟩:=I.cell x c (hcl x c e);q.lt
 have stkLt:∀b∈frs X.stack,@LT.lt Nat _ b s.heap.objs.size:=λb hb=>by
  obtain⟨_,o,ho,_⟩:=I.stack.mem hb
  exact y9 ho
 have stat:∀{H':Hp}{oD:Obj},(∀b∈fp,H' b=none)->∀b∈fp,FpOk (cxC X own outs scope cl C s H fp) [(D,oD)] H' b:=λ{H' oD} hn b hb=>by
  refine⟨hn b hb,(below b (hfs b hb)).1,λz=>?_,.inl hb,λx c e z=>(f2 b hb).2.2.2.2.1 x c (hcl x c e) z,λp hp z=>?_⟩
  ·rcases z8.mp (I.stkSub b z) with q | q
   ·exact(f2 b hb).2.1 q
   ·exact(f2 b hb).2.2.1 q
  ·have:p=(D,oD):=by simpa using hp
   subst this
   exact hDfp (show D∈fp from(show D=b from z) ▸ hb)
 have loop:∀s₃:Shared,s₃={ s with heap:=h₁,toks:=s.toks+([]:List (Str×Value)).length } ->
   codeAny (model X.prog X.w) X.A (.compLoop (.ListComp elt [⟨tg,iter,ifs,0⟩] scope pos) 0 (.ref it) (.ref D) (compEnvC scope cl C X.env)) (RR (.ref D) C) s₃:=by
  rintro s₃ rfl
  refine u6f (λn s'=>∃i ys us nn H',Inv (cxC X own outs scope cl C s H fp) [(D,{ cls:=.type "list",data:=.seq us.toArray nn })] (stC own.length outs σ) H' s'/\tn i s'.heap/\(∀b∈fp,H' b=none)/\Vals ys us/\W i n ys H') ?_ m0 ?_
  ·rintro n s3 ⟨i,ys,us,nn,H3,I3,st3,fr3,hv,w3⟩
   have hD3:=I3.pin (D,_) (u6 _ z6)
   obtain⟨hz,ht⟩:=turn i n ys H3 w3
   rcases ht with⟨stop,qn⟩|⟨go,NN,hNN,step⟩
   ·refine thn (T.done (cxC X own outs scope cl C s H fp) rfl rfl rfl hc i _ s3 _ H3 _ I3 (stat fr3) st3 stop) fun r s4 z961=>?_
    obtain⟨hr,I4⟩:=z961
    subst hr
    have hD4:=I4.pin (D,_) (u6 _ z6)
    obtain⟨m4,hn4,_⟩:=I4.loc
    have hC4:H3 C=none:=I4.free
    have hok:HOk X.prog X.w (upd H3 D (.lst ys)) s4.heap:=I4.hok.track hD4.2.1 ⟨hz,us,nn,hv,hD4.1⟩
    have hun:Un (frs X.stack) fp H (upd H3 D (.lst ys)) s.heap s4.heap:=Un.track I4.base hD4.2.1 hDs
    have I5:Inv X pins σ (upd H3 D (.lst ys)) s4:=I.call' I4.os hun hok I4.bare λb hb=>⟨(f2 b hb).2.2.2.1,(f2 b hb).2.1,(f2 b hb).2.2.2.2.1,(f2 b hb).2.2.2.2.2⟩
    refine hRR D C _ s4 m4 hn4 I5 (by rw[u0o hDC.symm];exact hC4) ?_ ?_ ?_ ?_ (qn D hD4.2.1)
    ·intro z
     have h1:@LT.lt Nat _ X.env.locals s.heap.objs.size:=I.lt
     have z':@Eq Nat C X.env.locals:=z
     omega
    ·have h1:=I.sz
     exact v5 h1 (by omega)
    ·intro x c e z
     obtain⟨v,q⟩:=I.cell x c e
     have h1:@LT.lt Nat _ c s.heap.objs.size:=q.lt
     have z':@Eq Nat c C:=z
     omega
    ·intro p hp z
     have h1:@LT.lt Nat _ p.1 s.heap.objs.size:=y9 (I.pin p hp).1
     have z':@Eq Nat p.1 C:=z
     omega
   ·refine thn (T.item (cxC X own outs scope cl C s H fp) rfl rfl rfl hc i _ s3 _ H3 (fun _ _=>False) I3 (stat fr3) st3 go) fun r s4 z962=>?_
    obtain⟨u,hr,h4⟩:=z962
    subst hr
    refine thn h4 λ_ s5 z963=>?_
    obtain⟨x,H5,I5,r5,y5,st5,fr5⟩:=z963
    have I5':=I5.pinned (stat fr5) (T.obj _ _ st5)
    refine thn (hg _ s5 _ H5 x u _ I5' r5 (step x H5 y5)) λ_ s6 z964=>?_
    obtain⟨σ6,H6,I6,d6,q6⟩:=z964
    have weak:∀{H7:Hp}{s7:Shared}{us':List Value}{nn':Nat},Inv (cxC X own outs scope cl C s H fp) [(D,{ cls:=.type "list",data:=.seq us'.toArray nn' })] σ6 H7 s7->Inv (cxC X own outs scope cl C s H fp) [(D,{ cls:=.type "list",data:=.seq us'.toArray nn' })] (stC own.length outs σ) H7 s7:=λ{H7 s7 us' nn'} I7=>by
     refine I7.weak (by have e:=I7.len;have e2:(cxC X own outs scope cl C s H fp).N.length=own.length+outs.length:=by simp
                        rw[e,e2];unfold stC;simp) λj v e=>?_
     have hj:own.length<=j:=by
      by_cases hj:own.length<=j
      ·exact hj
      ·exfalso
       unfold stC at e
       rw[z2I (by simp;omega),z0E] at e
       split at e<;>cases e
     unfold stC at e
     rw[z1C (by simp;omega),z2C,<- d6,List.getElem?_drop] at e
     rw[show own.length+(j - own.length)=j by omega] at e
     exact e
    refine thn (hf _ s6 σ6 H6 _ I6 q6) λb s7 z965=>?_
    obtain⟨H7,I7,q7⟩:=z965
    have keepT:∀{H8:Hp}{s8:Shared},Inv (cxC X own outs scope cl C s H fp) ([(D,{ cls:=.type "list",data:=.seq us.toArray nn })]++pinsAt fp s5.heap) σ6 H8 s8->(∀b∈fp,∀o,s5.heap.get? b=some o->s8.heap.get? b=some o)/\∀b∈fp,H8 b=none:=λ{H8 s8} I8=>by
     refine⟨λb hb o e=>(I8.pin (b,o) (u6 _ (u6 _ (u3g hb e)))).1,λb hb=>?_⟩
     obtain⟨o,e,d⟩:=T.obj _ _ st5 b hb
     exact(I8.pin (b,o) (u6 _ (u6 _ (u3g hb e)))).2.1
    cases b with
    | false =>
     rw[if_neg (by simp)] at q7
     rw[if_neg (by simp)]
     obtain⟨m',hm,w7⟩:=hNN _ _ q7
     exact⟨m',hm,i+1,ys,us,nn,H7,weak I7.unpinned,T.keep _ _ _ st5 (keepT I7).1,(keepT I7).2,hv,w7⟩
    | true =>
     rw[if_pos rfl] at q7
     rw[if_pos rfl]
     refine thn (he _ s7 σ6 H7 _ I7 q7) λu8 s8 z966=>?_
     obtain⟨y8,H8,I8,r8,q8⟩:=z966
     obtain⟨m',hm,w8⟩:=hNN _ _ q8
     have hD8:=I8.pin (D,_) (u6 _ (z1I _ z6))
     refine wpAny_list_append_plain (hsz:=by rw[x8,<- hv.length];exact hz) (x:=u8) ⟨nn,hD8.1⟩ λh9 hl9 hs9=>?_
     obtain⟨n9,e9⟩:=hl9
     have k9:∀b o,b≠D->s8.heap.get? b=some o->h9.get? b=some o:=λb o hb e=>(hs9.2 b hb).trans e
     have I8':Inv (cxC X own outs scope cl C s H fp) [] σ6 H8 s8:=I8.pins_of λp hp=>(nomatch hp)
     have I9:Inv (cxC X own outs scope cl C s H fp) [] σ6 H8 { s8 with heap:=h9,toks:=s8.toks }:=I8'.turned k9 hD8.2.1 hDC (.inr (by show s.heap.objs.size<=D;omega)) (λx c e z=>by have h1:=cellNe x c e;have z':@Eq Nat c D:=z;omega) (λp hp=>(nomatch hp))
     have e9':h9.get? D=some { cls:=.type "list",data:=.seq (us++[u8]).toArray n9 }:=by
      rw[e9];simp
     have I9':Inv (cxC X own outs scope cl C s H fp) [(D,{ cls:=.type "list",data:=.seq (us++[u8]).toArray n9 })] σ6 H8 { s8 with heap:=h9,toks:=s8.toks }:=I9.pins_of λp hp=>by
      have:p=(D,{ cls:=.type "list",data:=.seq (us++[u8]).toArray n9 }):=by simpa using hp
      subst this
      refine⟨e9',hD8.2.1,hDC,λz=>?_,λv z=>by cases z⟩
      have:=stkLt D z
      omega
     refine⟨m',hm,i+1,ys++[y8],us++[u8],n9,H8,weak I9',?_,(keepT I8).2,hv.append (.cons r8 .nil),w8⟩
     exact T.keep _ _ _ st5 λb hb o e=>k9 b o (λz=>hDfp (show D∈fp from(show b=D from z) ▸ hb)) ((keepT I8).1 b hb o e)
  ·obtain ⟨n0,e0⟩:=hacc
   refine⟨0,[],[],n0,H,(hI0 _).pins_of λp hp=>?_,hst₁,λb hb=>(f2 b hb).1,.nil,w0⟩
   have:p=(D,{ cls:=.type "list",data:=.seq ([]:List Value).toArray n0 }):=by simpa using hp
   subst this
   refine⟨e0,I.hok.fresh (by omega),hDC,λz=>?_,λv z=>by cases z⟩
   have:=stkLt D z
   omega
 exact codeAny_compStart_list (loop _ rfl) (T.self _ 0 _ _ _ hst₁ (loop _ rfl))
def u8i (I:Inv X pins σ H s) (ok:CompOk X.env.scope X.N own outs scope):∀x∈scope.names,x.2=.free->∃c,X.env.cells.lookup x.1=some c:=λx hx hf=>I.ok.has x.1 (ok.fre x hx hf)
def pe_comp (own:List Str) (outs:List Nat) (hc:X.calm=true) (ok:CompOk X.env.scope X.N own outs scope) (hi:PI X tg iter wi)
 (hg:∀{cl C s H fp},PG (cxC X own outs scope cl C s H fp) tg g) (hf:∀{cl C s H fp},PIf (cxC X own outs scope cl C s H fp) ifs ti) (he:∀{cl C s H fp},PE (cxC X own outs scope cl C s H fp) elt te)
 (hs:∀x,foldedSetIterable iter X.env x=pure x:=by intro _;rfl):PE X (.ListComp elt [⟨tg,iter,ifs,0⟩] scope pos) (tComp own.length outs wi g ti te):=by
 intro pins s σ H Q I h
 obtain⟨cl,ecl,hcl,hcf⟩:=u2H (u8i I ok)
 rw[eval_ListComp]
 refine wpAny_comprehension_free (use:=none) rfl hs ecl ok.kind ok.loc (thn (hi pins s σ H _ I h) λxv s₁ h₁=>thn h₁ λitv s₂ h₂=>?_)
 obtain⟨it,fp,tn,J,H2,e,I2,T,st2,f2,hW⟩:=h₂
 subst e
 refine u8v (Q:=Q) (RR:=λacc C=>compPost (model X.prog X.w) X.A X.xe none (EP X pins σ Q) acc C) hc ok hcl hcf hg hf he I2 T st2 f2 hW ?_
 intro D C Hf s' m hn I' hC hL hs0 hce hpi q
 refine⟨m,hn,λh' hs'=>?_⟩
 exact⟨.ref D,Hf,I'.turned (t':=s'.toks) (λb o hb e=>(hs'.2 b hb).trans e) hC hL (.inr hs0) hce hpi,rfl,q⟩
set_option tactic.hygienic true in
def u6r (own:List Str) (outs:List Nat) (hc:X.calm=true) (ok:CompOk X.env.scope X.N own outs scope) (hN:X.N.Nodup) (hy:X.N[i]?=some y) (hx:X.env.scope.names.lookup y=some .local) (hi:PI X tg iter wi)
 (hg:∀{cl C s H fp},PG (cxC X own outs scope cl C s H fp) tg g) (hf:∀{cl C s H fp},PIf (cxC X own outs scope cl C s H fp) ifs ti) (he:∀{cl C s H fp},PE (cxC X own outs scope cl C s H fp) elt te)
 (hsw:swapsWith (.ListComp elt [⟨tg,iter,ifs,0⟩] scope pos) (some (.Name y py)) spos.line X.env=pure true:=by rfl)
 (hs:∀x,foldedSetIterable iter X.env x=pure x:=by intro _;rfl):PS X (.Assign [.Name y py] (.ListComp elt [⟨tg,iter,ifs,0⟩] scope pos) spos) (tAsg (tComp own.length outs wi g ti te) (gName i)):=by
 intro pins s σ H D I h
 obtain⟨cl,ecl,hcl,hcf⟩:=u2H (u8i I ok)
 rw[exec_Assign_Name_used _ _ _ _ hsw]
 refine wpAny_bind (wpAny_standAt (wpAny_bind ?_))
 show wpAny _ X.A (do let _ <- comprehension (.ListComp elt [⟨tg,iter,ifs,0⟩] scope pos) scope X.env _ (newList []) false (eval iter X.env) (some (assign (.Name y py) X.env))) _ _ s
 refine wpAny_bind (wpAny_mono (wpAny_comprehension_free (use:=some (assign (.Name y py) X.env)) (Q:=λ_ s'=>SP X pins D .next s') rfl hs ecl ok.kind ok.loc
  (thn (hi pins s σ H _ I h) λxv s₁ h₁=>thn h₁ λitv s₂ h₂=>?_)) (λ_ s' hq=>wpAny_pure (wpAny_pure hq)) λ_ _ e=>e)
 obtain⟨it,fp,tn,J,H2,e,I2,T,st2,f2,hW⟩:=h₂
 subst e
 refine u8v (Q:=λx H1=>gName i x σ H1 D.nx) (RR:=λacc C=>compPost (model X.prog X.w) X.A X.xe (some (assign (.Name y py) X.env)) (λ_ s'=>SP X pins D .next s') acc C) hc ok hcl hcf hg hf he I2 T st2 f2 hW ?_
 intro D' C Hf s' m hn I' hC hL hs0 hce hpi q
 show wpAny _ X.A (assign (.Name y py) X.env (.ref D')) _ _ _
 refine wpAny_assign_Name (u7z I' hN hy (.inl hx) (v:=.ref D') rfl (λs2 I2' z967=>?_) (.inr hx))
 obtain⟨a,hsb,ha⟩:=z967
 have haC:C≠a:=by
  rcases ha with rfl|ha
  ·exact hL
  ·exact λz=>hce _ _ ha z.symm
 refine⟨m,hn.sameBut hsb haC,λh' hs'=>?_⟩
 exact⟨_,Hf,I2'.turned (t':=s2.toks) (λb o hb e=>(hs'.2 b hb).trans e) hC hL (.inr hs0) hce hpi,q⟩
end
section
variable {X:Cx}{tg:Expr}
def rSlS:V->Option Int->Option Int->Hp->VK->Prop:=λx lo hi H Q=>∃z,x=.str z/\z.length<=sizeLine/\Q (.str (Txt.slice z lo hi)) H
def sl_str:SlR X rSlS:=by
 intro pins s σ H x v vl vu lo hi sl Q I rx hs pl pu h
 obtain⟨z,rfl,hz,q⟩:=h
 obtain⟨t,rfl⟩:=rx
 refine⟨"str",_,PySem.F.slot_str_getitem.lookup,typeIs_str _ _ _,?_⟩
 have fin:∀lo' hi',lo'=lo->hi'=hi->∀t' k,EP X pins σ Q (.str (Txt.slice z lo' hi') t') { s with toks:=k }:=λlo' hi' e1 e2 t' k=>by
  subst e1 e2
  exact⟨.str _,H,I.tok k,⟨t',rfl⟩,q⟩
 obtain⟨o,ho,hc,hd⟩:=hs
 cases pl with
 | none =>
  cases pu with
  | none=>exact wpAny_getItem_str_slice (l:=none) (u:=none) (st:=none) ⟨o,ho,hc,hd⟩ rfl (post_val_or_str ⟨v5 (Txt.slice_le z _ _) hz,λt' k=>fin _ _ rfl rfl t' k⟩)
  | int j uj=>exact wpAny_getItem_str_slice (l:=none) (u:=some (j,uj)) (st:=none) ⟨o,ho,hc,hd⟩ rfl (post_val_or_str ⟨v5 (Txt.slice_le z _ _) hz,λt' k=>fin _ _ rfl rfl t' k⟩)
 | int i ui =>
  cases pu with
  | none=>exact wpAny_getItem_str_slice (l:=some (i,ui)) (u:=none) (st:=none) ⟨o,ho,hc,hd⟩ rfl (post_val_or_str ⟨v5 (Txt.slice_le z _ _) hz,λt' k=>fin _ _ rfl rfl t' k⟩)
  | int j uj=>exact wpAny_getItem_str_slice (l:=some (i,ui)) (u:=some (j,uj)) (st:=none) ⟨o,ho,hc,hd⟩ rfl (post_val_or_str ⟨v5 (Txt.slice_le z _ _) hz,λt' k=>fin _ _ rfl rfl t' k⟩)
def Its (z:Str):It:=⟨λi _=>i<z.cps.size,λi H x H'=>H'=H/\∃c,z.cps[i]?=some c/\x=.str ⟨#[c]⟩,λi _=>z.cps.size<=i⟩
def v0G {P:Program}{w:World}{K:W.Frag}{tg:Expr} (z:Str) (t:Tok) (it:Addr):Turn P w K tg (Its z) [it] it (λi h=>h.IsStrIter it "str_ascii_iterator" z t i) where
 mem:=by simp
 obj:=λi h st b hb=>by
  have e:b=it:=by simpa using hb
  subst e
  obtain⟨o,e,c,d⟩:=st
  exact⟨o,e,λv z=>by rw[d] at z;cases z⟩
 keep:=λi h h' st k=>let ⟨o,e,r⟩:=st;⟨o,k it (by simp) o e,r⟩
 item:=by
  intro X hP hw hK hc i pins s σ H E I hf st hg
  subst hP hw hK
  obtain⟨f0,f1,f2,f3,f4,f5⟩:=hf it (by simp)
  have hg':i<z.cps.size:=hg
  refine wpAny_pyNext_ascii_item st (c:=z.cps[i]) (by simp[hg']) λh' st' sb=>?_
  have I1:Inv X pins σ H { s with heap:=h',toks:=s.toks+1 }:=I.turned (λb o hb e=>(sb.2 b hb).trans e) f0 f1 f3 f4 f5
  obtain⟨o,e,c,d⟩:=id st'
  exact⟨_,rfl,v2G (s:={ s with heap:=h',toks:=s.toks+1 }) e c d (by decide) ⟨.str ⟨#[z.cps[i]]⟩,H,I1,⟨_,rfl⟩,⟨rfl,z.cps[i],by simp[hg'],rfl⟩,st',λb hb=>(hf b hb).1⟩⟩
 done:=by
  intro X hP hw hK hc i pins s σ H E I hf st hg
  subst hP hw hK
  obtain⟨f0,f1,f2,f3,f4,f5⟩:=hf it (by simp)
  have hg':z.cps.size<=i:=hg
  exact wpAny_pyNext_ascii_end (I.ok.hd hc) st (by simp;omega) λh' eb=>⟨rfl,I.turned (t':=s.toks) (λb o hb e=>eb b o hb e) f0 f1 f3 f4 f5⟩
 self:=λ_ _ _ _ _ st h=>wpAny_pyIter_striter_ascii st h
def v1I {P:Program}{w:World}{K:W.Frag}{tg:Expr} (z:Str) (t:Tok) (it:Addr):Turn P w K tg (Its z) [it] it (λi h=>h.IsStrIter it "str_iterator" z t i) where
 mem:=by simp
 obj:=λi h st b hb=>by
  have e:b=it:=by simpa using hb
  subst e
  obtain⟨o,e,c,d⟩:=st
  exact⟨o,e,λv z=>by rw[d] at z;cases z⟩
 keep:=λi h h' st k=>let ⟨o,e,r⟩:=st;⟨o,k it (by simp) o e,r⟩
 item:=by
  intro X hP hw hK hc i pins s σ H E I hf st hg
  subst hP hw hK
  obtain⟨f0,f1,f2,f3,f4,f5⟩:=hf it (by simp)
  have hg':i<z.cps.size:=hg
  refine wpAny_pyNext_wide_item st (c:=z.cps[i]) (by simp[hg']) λh' st' sb=>?_
  have I1:Inv X pins σ H { s with heap:=h',toks:=s.toks+1 }:=I.turned (λb o hb e=>(sb.2 b hb).trans e) f0 f1 f3 f4 f5
  obtain⟨o,e,c,d⟩:=id st'
  exact⟨_,rfl,v2G (s:={ s with heap:=h',toks:=s.toks+1 }) e c d (by decide) ⟨.str ⟨#[z.cps[i]]⟩,H,I1,⟨_,rfl⟩,⟨rfl,z.cps[i],by simp[hg'],rfl⟩,st',λb hb=>(hf b hb).1⟩⟩
 done:=by
  intro X hP hw hK hc i pins s σ H E I hf st hg
  subst hP hw hK
  obtain⟨f0,f1,f2,f3,f4,f5⟩:=hf it (by simp)
  have hg':z.cps.size<=i:=hg
  exact wpAny_pyNext_wide_end (I.ok.hd hc) st (by simp;omega) λh' eb=>⟨rfl,I.turned (t':=s.toks) (λb o hb e=>eb b o hb e) f0 f1 f3 f4 f5⟩
 self:=λ_ _ _ _ _ st h=>wpAny_pyIter_striter_wide st h
def iStr (tl:TE):TI:=λσ H R=>tl σ H λx H1=>∃z,x=.str z/\R (Its z) H1
def pi_str {l:Expr}{tl:TE} (hl:PE X l tl):PI X tg l (iStr tl):=by
 intro pins s σ H R I h
 refine thn (hl pins s σ H _ I h) λv s1 z968=>?_
 obtain⟨x,H1,I1,r1,q1⟩:=z968
 obtain⟨z,rfl,q⟩:=q1
 obtain⟨t,rfl⟩:=r1
 cases ha:z.cps.all (·<128) with
 | true =>
  refine wpAny_pyIter_ascii ha ?_
  have hn:H1 s1.heap.objs.size=none:=I1.hok.fresh (y7 _)
  exact⟨s1.heap.objs.size,[s1.heap.objs.size],_,Its z,H1,rfl,I1.kept (t':=s1.toks) (λb o e=>z5 _ e),v0G z t _,⟨_,z7 _ rfl,rfl,rfl⟩,λb hb=>by
   have e:b=s1.heap.objs.size:=by simpa using hb
   subst e
   exact I1.fpOk (y7 _) hn,q⟩
 | false =>
  refine wpAny_pyIter_wide ha ?_
  have hn:H1 s1.heap.objs.size=none:=I1.hok.fresh (y7 _)
  exact⟨s1.heap.objs.size,[s1.heap.objs.size],_,Its z,H1,rfl,I1.kept (t':=s1.toks) (λb o e=>z5 _ e),v1I z t _,⟨_,z7 _ rfl,rfl,rfl⟩,λb hb=>by
   have e:b=s1.heap.objs.size:=by simpa using hb
   subst e
   exact I1.fpOk (y7 _) hn,q⟩
def v4i (hc:X.calm=true):CallR X (.builtin "all") (λxs H Q=>∃(p:Addr) (bs:List Bool),xs=[.ref p]/\SqL X.K H p (bs.map V.bl)/\Q (.bl (bs.all id)) H):=by
 intro pins s σ H xs us Q I r h
 obtain⟨p,bs,rfl,hq,q⟩:=h
 obtain⟨u,rfl,ru⟩:=vals1 r
 cases ru
 obtain⟨its,rv,hl,hz⟩:=I.list hq
 have hlen:=rv.length
 rw[v6] at hlen
 have hlt:p<s.heap.objs.size:=let ⟨o,ho,_⟩:=hl.isList;y9 ho
 refine call_all_walk (wpAny_pyIter_list hl.isList ?_)
 refine⟨s.heap.objs.size,_,_,_,_,_,λi=>bs.getD i false,rfl,Walks.list (show X.A.in1.handled=none from I.ok.hd hc) s.heap.objs.size p (v9 hlt) its.toArray,⟨⟨_,z7 _ rfl,rfl,rfl⟩,hl.isList.at λo e=>z5 _ e⟩,?_,?_⟩
 ·intro i v s' Q' E' hv hQ
  have hv':its[i]?=some v:=by simpa using hv
  have hi:i<bs.length:=by
   have:=(u7.mp hv').1
   omega
  have hx:(bs.map V.bl)[i]?=some (V.bl bs[i]):=by rw[v7,u5 hi];rfl
  obtain⟨u,hu,ru⟩:=rv.get hx
  rw[hv'] at hu
  cases hu
  cases ru
  have e:bs.getD i false=bs[i]:=by rw[List.getD_eq_getElem?_getD,u5 hi];rfl
  have hQ':Q' (bs.getD i false) s':=hQ
  rw[e] at hQ'
  exact wpAny_truthy_bool hQ'
 ·intro h' tk hk
  have hw:∀b o,s.heap.get? b=some o->h'.get? b=some o:=λb o e=>hk b o (by
   intro z
   have:b=s.heap.objs.size:=by simpa using z
   subst this
   exact absurd (y9 e) (z0G _)) (z5 _ e)
  have e:(List.range its.toArray.size).all (λi=>bs.getD i false)=bs.all id:=by
   rw[x8,<- hlen]
   clear hlen hq rv q hz
   induction bs with
   | nil=>rfl
   | cons b bs ih =>
    rw[u9,List.range_succ_eq_map,z0D,List.all_map,z0D]
    simp only[List.getD_cons_zero,id]
    congr 1
  rw[e]
  exact⟨.bl _,H,I.kept hw,rfl,q⟩
theorem u4b:∀{ys:List Str}{us:List Value},Vals (ys.map V.str) us->StrsAre us ys
 | [],_,r=>by cases r;exact .nil
 | y::ys,_,r=>by
  rw[w5] at r
  cases r with
  | cons r1 r2 =>
   obtain⟨t,e⟩:=r1
   subst e
   exact .cons y t (u4b r2)
def CDivB (i j:Int):Prop:=0<j/\j<2^64
def v3H:OpR X (binaryOp .FloorDiv) (rI CDivB λi j=>.int (i / j)):=opI λi j _ _ _ _ _ hc q=>by
 have h1:(0:Int)<j:=hc.1
 have h2:j<2^64:=hc.2
 refine floordiv_int (by omega) (by rw[Int.fdiv_eq_ediv_of_nonneg i (by omega)];exact q) (.inl (PyProof.noPylong_of_log2 ?_))
 have:j.natAbs.log2<64:=(Nat.log2_lt (by omega)).mpr (by omega)
 omega
end
noncomputable def notStar:Expr->Bool
 | .Starred _ _=>false
 | _=>true
def u0K (h:notStar e=true):starEach (e::es) env=(false,eval e env)::starEach es env:=by
 cases e<;>first|rfl|exact absurd h t8
theorem u2d {pos:Pos}{env:Env}:∀{es:List Expr},es.all notStar=true->(backTo pos (starEach es env)).any (·.1)=false
 | [],_=>rfl
 | e::es,h=>by
  rw[z0D,t9] at h
  rw[u0K h.1]
  show(false||(backTo pos (starEach es env)).any (·.1))=false
  rw[u2d h.2]
  rfl
theorem v0y {pos:Pos}{env:Env}:∀{es:List Expr},es.all notStar=true->(backTo pos (starEach es env)).all (λx=>!x.1)=true
 | [],_=>rfl
 | e::es,h=>by
  rw[z0D,t9] at h
  rw[u0K h.1]
  show(true&&(backTo pos (starEach es env)).all (λx=>!x.1))=true
  rw[v0y h.2]
  rfl
def u0C (h:(e::es).all notStar=true):notStar e=true/\es.all notStar=true:=by
 rw[z0D,t9] at h
 exact h
section
variable {X:Cx}{e o:Expr}{es:List Expr}{te to:TE}{t:TA}{x name:Str}{p pos apos cpos:Pos}{id T:String}{r:List V->Hp->VK->Prop}{r3:V->List V->Hp->VK->Prop}
def pac (ha:PE X e te) (hr:PA X es t) (hs:notStar e=true:=by rfl):PA X (e::es) (tCons te t):=pa_cons ha hr (u0K hs)
def pcB (hc:CallR X (.builtin id) r) (hg:Gl X x) (hm:X.mg x=none) (hv:bootBuiltins x=some (.builtin id)) (ha:PA X (e::es) t) (hn:x≠"__name__":=by decide) (hdb:(x==("__debug__":Str))=false:=by decide)
 (hs:(e::es).all notStar=true:=by rfl):PE X (.Call (.Name x p) (e::es) [] pos) (tCB r t):=v3G hc hg hm hv ha hn hdb (u0K (u0C hs).1) (u2d (u0C hs).2)
def pcT (hc:CallR X (.type T) r) (hg:Gl X x) (hm:X.mg x=none) (hv:bootBuiltins x=some (.type T)) (ha:PA X (e::es) t) (hn:x≠"__name__":=by decide) (hdb:(x==("__debug__":Str))=false:=by decide)
 (hs:(e::es).all notStar=true:=by rfl):PE X (.Call (.Name x p) (e::es) [] pos) (tCB r t):=v2e hc hg hm hv ha hn hdb (u0K (u0C hs).1) (u2d (u0C hs).2)
def pbm (pa:PlainAttrs T) (slot:Slot T name id) (hty:typeOf (.builtin id)=pure (.type "method_descriptor")) (hm:MtR X id r3) (ho:PE X o to) (ha:PA X (e::es) t)
 (hs:(e::es).all notStar=true:=by rfl) (hl:decide ((e::es).length<30)=true:=by rfl)
 (hbase:attributeBase o name X.env (eval o X.env)=eval o X.env:=by rfl) (hline:(apos.endLine==cpos.line)=true:=by rfl) :
 PE X (.Call (.Attribute o name apos) (e::es) [] cpos) (tBM X.K T r3 to t):=by
 refine pe_bm pa slot hty hm ho ha hbase ?_ hline (u0K (u0C hs).1) (u2d (u0C hs).2)
 rw[v0y hs]
 have h2:(e::es).length+([]:List Keyword).length+(if ([]:List Keyword).isEmpty then 0 else 1)<30:=by
  have:=of_decide_eq_true hl
  simpa using this
 rw[decide_eq_true h2]
 rfl
end
def Callee (P:Program) (w:World) (K:W.Frag) (mg:MG) (base:Heap) (k:Nat) (x:Str) (ps:List Str) (sp:Sp):Prop :=
 ∃f fd,FnOk P w K mg base CX0 k f fd ps sp/\Binds K fd ps []/\W.keepIn K (.ref f)=true/\mg x=some (.ref f)
def Glo (mg:MG) (x:Str) (v:V):Prop:=∃u,mg x=some u/\RelV v u
section
variable {X:Cx}{P:Program}{w:World}{K:W.Frag}{mg:MG}{base:Heap}{k k':Nat}{x:Str}{ps:List Str}{sp:Sp}{e:Expr}{es:List Expr}{t:TA}{p pos:Pos}{v:V}
def pe_fn (h:Callee P w K mg base k x ps sp) (hr:Room k' X.A) (hk:k<=k') (ha:PA X (e::es) t) (hg:Gl X x:=by rfl) (eP:X.prog=P:=by rfl) (ew:X.w=w:=by rfl) (eK:X.K=K:=by rfl) (em:X.mg=mg:=by rfl) (eb:X.base=base:=by rfl)
 (hdb:(x==("__debug__":Str))=false:=by decide) (hs:(e::es).all notStar=true:=by rfl) :
 PE X (.Call (.Name x p) (e::es) [] pos) (tCall sp [] E0 t):=by
 subst eP ew eK em eb
 obtain⟨f,fd,F,hb,hkp,hm⟩:=h
 exact pe_call F (hr.mono hk) hg hm hkp hb .nil pass0 ha hdb (u0K (u0C hs).1) (u2d (u0C hs).2)
def v4w (h:Glo mg x v) (hg:Gl X x:=by rfl) (em:X.mg=mg:=by rfl) (hd:(x==("__debug__":Str))=false:=by decide):PE X (.Name x pos) (tC v):=by
 subst em
 obtain⟨u,hm,r⟩:=h
 exact pe_glob hg hm r hd
end
section
variable {X:Cx}{pos pos':Pos}{x:Str}{e:Expr}{te:TE}{tg l:Expr}{tl:TE}
def u6K {N:List Str}{i:Nat} (hi:N.findIdx? (λy=>y==x)=some i):N[i]?=some x:=by
 obtain⟨h1,h2,_⟩:=List.findIdx?_eq_some_iff_getElem.mp hi
 rw[u5 h1]
 exact congrArg some (eq_of_beq h2)
def pg_n {i:Nat} (hN:X.N.Nodup) (hi:X.N.findIdx? (λy=>y==x)=some i:=by rfl) (hx:Loc X.env.scope x:=by first|exact Or.inl rfl|exact Or.inr rfl) (hf:X.fn x=true\/X.env.scope.names.lookup x=some .local:=by first|exact .inl rfl|exact .inr rfl) :
  PG X (.Name x pos) (gName i):=pg_name hN (u6K hi) hx hf
def ps_n {i:Nat} (hN:X.N.Nodup) (he:PE X e te) (hi:X.N.findIdx? (λy=>y==x)=some i:=by rfl) (hx:Loc X.env.scope x:=by first|exact Or.inl rfl|exact Or.inr rfl) (hs:swapsWith e (some (.Name x pos')) pos.line X.env=pure false:=by rfl)
  (hf:X.fn x=true\/X.env.scope.names.lookup x=some .local:=by first|exact .inl rfl|exact .inr rfl):PS X (.Assign [.Name x pos'] e pos) (tAsg te (gName i)):=ps_set hN (u6K hi) hx he hs hf
end
mutual
inductive RdV (K:W.Frag) (H:Hp):V->PyData->Prop
 | non:RdV K H .non .none
 | bl (b:Bool):RdV K H (.bl b) (.bool b)
 | int (i:Int):RdV K H (.int i) (.int i)
 | str (z:Str):RdV K H (.str z) (.str z)
 | lst {a:Addr}{xs:List V}{ds:List PyData}:SqL K H a xs->RdVs K H xs ds->RdV K H (.ref a) (.list ds)
 | tup {a:Addr}{xs:List V}{ds:List PyData}:SqT K H a xs->RdVs K H xs ds->RdV K H (.ref a) (.tuple ds)
inductive RdVs (K:W.Frag) (H:Hp):List V->List PyData->Prop
 | nil:RdVs K H [] []
 | cons {x:V}{d:PyData}{xs:List V}{ds:List PyData}:RdV K H x d->RdVs K H xs ds->RdVs K H (x::xs) (d::ds)
end
section
variable {X:Cx}{pins:LO}{σ:St}{H:Hp}{s:Shared}
mutual
theorem RdV.reads (I:Inv X pins σ H s):∀{x:V}{d:PyData}{u:Value},RdV X.K H x d->RelV x u->∃as,Reads s.heap u d as
 | _,_,_,.non,r=>by cases r;exact⟨_,.none⟩
 | _,_,_,.bl b,r=>by cases r;exact⟨_,.bool b⟩
 | _,_,_,.int i,r=>by obtain⟨t,rfl⟩:=r;exact⟨_,.int i t⟩
 | _,_,_,.str z,r=>by obtain⟨t,rfl⟩:=r;exact⟨_,.str z t⟩
 | _,_,_,.lst hq hs,r=>by
  cases r
  obtain⟨its,rv,p,hz⟩:=I.list hq
  obtain⟨as,h⟩:=RdVs.reads I hs rv
  obtain⟨o,ho,hc,n,hd⟩:=p.isList
  exact⟨_,.list ho hc hd (by simpa using h)⟩
 | _,_,_,.tup hq hs,r=>by
  cases r
  obtain⟨its,rv,p,hz⟩:=I.tuple hq
  obtain⟨as,h⟩:=RdVs.reads I hs rv
  obtain⟨o,ho,hc,n,hd⟩:=p
  exact⟨_,.tuple ho hc hd (by simpa using h)⟩
theorem RdVs.reads (I:Inv X pins σ H s):∀{xs:List V}{ds:List PyData}{us:List Value},RdVs X.K H xs ds->Vals xs us->∃as,ReadsAll s.heap us ds as
 | _,_,_,.nil,r=>by cases r;exact⟨_,.nil⟩
 | _,_,_,.cons h hs,r=>by
  cases r with
  | cons r1 r2 =>
   obtain⟨as,h1⟩:=RdV.reads I h r1
   obtain⟨bs,h2⟩:=RdVs.reads I hs r2
   exact⟨_,.cons h1 h2⟩
end
end
def Same.seqT {K:W.Frag}{H H':Hp}{a:Addr}{xs:List V} (e:Same H H') (h:SqT K H a xs):SqT K H' a xs:=by
 rcases h with(h|⟨o,h⟩)|h
 ·exact .inl (.inl (e _ _ h))
 ·exact .inl (.inr ⟨o,e _ _ h⟩)
 ·exact .inr h
mutual
theorem RdV.same {K:W.Frag}{H H':Hp} (e:Same H H'):∀{x:V}{d:PyData},RdV K H x d->RdV K H' x d
 | _,_,.non=>.non
 | _,_,.bl b=>.bl b
 | _,_,.int i=>.int i
 | _,_,.str z=>.str z
 | _,_,.lst hq hs=>.lst (e.seq hq) (RdVs.same e hs)
 | _,_,.tup hq hs=>.tup (e.seqT hq) (RdVs.same e hs)
theorem RdVs.same {K:W.Frag}{H H':Hp} (e:Same H H'):∀{xs:List V}{ds:List PyData},RdVs K H xs ds->RdVs K H' xs ds
 | _,_,.nil=>.nil
 | _,_,.cons h hs=>.cons (RdV.same e h) (RdVs.same e hs)
end
section
variable {X:Cx}
def rEqD (K:W.Frag) (neg:Bool):R2:=λx y H Q=>∃d e,RdV K H x d/\RdV K H y e/\SeqAt.shaped d=true/\SeqAt.shaped e=true/\Q (.bl (if neg=true then !PyData.eqv d e else PyData.eqv d e)) H
def op_eqD (hu:X.A.units+64<cLine):OpR X (compareOp .Eq) (rEqD X.K false):=by
 intro pins s σ H x y v u Q I rx ry h
 obtain⟨d,e,h1,h2,s1,s2,q⟩:=h
 obtain⟨as,r1⟩:=h1.reads I rx
 obtain⟨bs,r2⟩:=h2.reads I ry
 exact eq_dataH r1 r2 s1 s2 hu ⟨.bl _,H,I,rfl,q⟩
def op_neD (hu:X.A.units+64<cLine):OpR X (compareOp .NotEq) (rEqD X.K true):=by
 intro pins s σ H x y v u Q I rx ry h
 obtain⟨d,e,h1,h2,s1,s2,q⟩:=h
 obtain⟨as,r1⟩:=h1.reads I rx
 obtain⟨bs,r2⟩:=h2.reads I ry
 exact ne_dataH r1 r2 s1 s2 hu ⟨.bl _,H,I,rfl,q⟩
end
end L2
namespace L2
open PySem PySem.Spec PyProof.Rows
section
variable {κ:Type} [DecidableEq κ]
noncomputable def valV (kvs:List (κ×V)) (k:κ):Option V:=(kvs.find? λkv=>decide (kv.1=k)).map (·.2)
noncomputable def putK (kvs:List (κ×V)) (k:κ) (v:V):List (κ×V) :=
 if (kvs.any λkv=>decide (kv.1=k))=true then kvs.map (λkv=>if kv.1=k then (kv.1,v) else kv) else kvs++[(k,v)]
def u6H {p:κ×V}{r:List (κ×V)}{k:κ} (e:p.1=k):valV (p::r) k=some p.2:=by simp[valV,z0I,e]
def u6I {p:κ×V}{r:List (κ×V)}{k:κ} (e:¬ p.1=k):valV (p::r) k=valV r k:=by simp[valV,z0I,e]
theorem u9C (k:κ):∀kvs:List (κ×V),(kvs.any λkv=>decide (kv.1=k))=(valV kvs k).isSome
 | []=>rfl
 | p::r=>by
  rw[List.any_cons]
  by_cases e:p.1=k
  ·simp only[u6H e,decide_eq_true e,Bool.true_or,Option.isSome_some]
  ·rw[u6I e,decide_eq_false e,Bool.false_or];exact u9C k r
def u5B (kvs:List (κ×V)) (k:κ) (v:V):(putK kvs k v).length<=kvs.length+1:=by
 unfold putK
 split
 ·rw[v6];omega
 ·rw[z2B,u9,List.length_nil];omega
def RelO.isSome_eq (r:RelO o u):o.isSome=u.isSome:=by
 cases o with
 | none=>cases u with
  | none=>rfl
  | some _=>exact(show False from r).elim
 | some _=>cases u with
  | none=>exact(show False from r).elim
  | some _=>rfl
def KV.val {kvs:List (κ×V)}{vs:List (κ×Value)} (r:KV kvs vs) (k:κ):RelO (valV kvs k) (valueAt vs k):=by
 unfold KV at r
 induction r with
 | nil=>exact True.intro
 | @cons p q ps qs h t ih =>
  obtain⟨h1,h2⟩:=h
  by_cases e:p.1=k
  ·have e':q.1=k:=h1.symm.trans e
   have b:valueAt (q::qs) k=some q.2:=by simp[valueAt,z0I,e']
   rw[u6H e,b];exact h2
  ·have e':¬ q.1=k:=fun z=>e (h1.trans z)
   have b:valueAt (q::qs) k=valueAt qs k:=by simp[valueAt,z0I,e']
   rw[u6I e,b];exact ih
theorem KV.any (r:KV kvs vs) (k:κ):(kvs.any λkv=>decide (kv.1=k))=vs.any λkv=>decide (kv.1=k):=by
 unfold KV at r
 induction r with
 | nil=>rfl
 | cons h t ih=>rw[List.any_cons,List.any_cons,ih,h.1]
def KV.repl (r:KV kvs vs) (k:κ) (ry:RelV y u) :
 KV (kvs.map λkv=>if kv.1=k then (kv.1,y) else kv) (vs.map λkv=>if kv.1=k then (kv.1,u) else kv):=by
 unfold KV at r |-
 induction r with
 | nil=>exact .nil
 | @cons p q ps qs h t ih =>
  rw[w5,w5]
  refine .cons ?_ ih
  obtain⟨h1,h2⟩:=h
  by_cases e:p.1=k
  ·rw[if_pos e,if_pos (h1.symm.trans e)];exact⟨h1,ry⟩
  ·rw[if_neg e,if_neg (λz=>e (h1.trans z))];exact⟨h1,h2⟩
def KV.put (r:KV kvs vs) (k:κ) (ry:RelV y u):KV (putK kvs k y) (stored vs k u):=by
 unfold putK stored
 rw[r.any k]
 by_cases e:(vs.any λkv=>decide (kv.1=k))=true
 ·rw[if_pos e,if_pos e];exact r.repl k ry
 ·rw[if_neg e,if_neg e];exact Paired.snoc r ⟨rfl,ry⟩
def KV.keys {kvs:List (κ×V)}{vs:List (κ×Value)} (r:KV kvs vs):kvs.map (·.1)=vs.map (·.1):=by
 unfold KV at r
 induction r with
 | nil=>rfl
 | cons h t ih=>rw[w5,w5,ih,h.1]
theorem KV.length (r:KV kvs vs):kvs.length=vs.length:=Paired.length r
end
def kV_is (r:RelV (kV k) u):(mixKind P w).is k u=true:=by
 cases k with
 | inl i=>obtain⟨t,e⟩:=(show ∃t,u=Value.int i t from r);subst e;exact u3z P w i t
 | inr x=>obtain⟨t,e⟩:=(show ∃t,u=Value.str x t from r);subst e;exact u3y P w x t
theorem u8h {P:Program}{w:World}:∀{ks:List Key}{us:List Value},Vals (ks.map kV) us->ItemsAre (mixKind P w) ks us
 | [],_,r=>by rw[List.map_nil] at r;cases r;exact .nil
 | k::ks,_,r=>by
  rw[w5] at r
  cases r with
  | cons h t=>exact .cons (kV_is h) (u8h t)
abbrev KT (H:Hp):List (List Key×V)->List (List Key×Addr×Value)->Prop:=Paired λp q=>p.1=q.1/\H q.2.1=some (.tup (p.1.map kV))/\RelV p.2 q.2.2
def KT.val {H:Hp}{kvs:List (List Key×V)}{xs:List (List Key×Addr×Value)} (r:KT H kvs xs) (k:List Key):RelO (valV kvs k) ((atKey xs k).map (·.2)):=by
 induction r with
 | nil=>exact True.intro
 | @cons p q ps qs h t ih =>
  obtain⟨h1,_,h2⟩:=h
  by_cases e:p.1=k
  ·have e':q.1=k:=h1.symm.trans e
   have b:atKey (q::qs) k=some q.2:=by simp[atKey,z0I,e']
   rw[u6H e,b];exact h2
  ·have e':¬ q.1=k:=fun z=>e (h1.trans z)
   have b:atKey (q::qs) k=atKey qs k:=by simp[atKey,z0I,e']
   rw[u6I e,b];exact ih
def KT.repl (r:KT H kvs xs) (k:List Key) (ry:RelV y u) :
 KT H (kvs.map λkv=>if kv.1=k then (kv.1,y) else kv) (xs.map (putAt k u)):=by
 induction r with
 | nil=>exact .nil
 | @cons p q ps qs h t ih =>
  rw[w5,w5]
  refine .cons ?_ ih
  obtain⟨h1,h2,h3⟩:=h
  unfold putAt
  by_cases e:p.1=k
  ·rw[if_pos e,if_pos (h1.symm.trans e)];exact⟨h1,h2,ry⟩
  ·rw[if_neg e,if_neg (λz=>e (h1.trans z))];exact⟨h1,h2,h3⟩
def KT.put (r:KT H kvs xs) (k:List Key) (hb:H b=some (.tup (k.map kV))) (ry:RelV y u) :
 KT H (putK kvs k y) (storedH xs k b u):=by
 have e:(kvs.any λkv=>decide (kv.1=k))=(atKey xs k).isSome:=by
  rw[u9C,(r.val k).isSome_eq,Option.isSome_map]
 unfold putK storedH
 rw[e]
 by_cases q:(atKey xs k).isSome=true
 ·rw[if_pos q,if_pos q];exact r.repl k ry
 ·rw[if_neg q,if_neg q];exact Paired.snoc r ⟨rfl,hb,ry⟩
def KT.keeps (r:KT H kvs xs) (ht:∀b ys,H b=some (.tup ys)->H' b=some (.tup ys)):KT H' kvs xs :=
 Paired.mapP r λ_ _ z=>⟨z.1,ht _ _ z.2.1,z.2.2⟩
section
variable {P:Program}{w:World}{H:Hp}{h:Heap}{a:Addr}
def rd_of (ok:HOk P w H h) (e:Rd H a u):ObjOk P w H h a u:=e.ok ok
def dk_rd (ok:HOk P w H h) (e:Rd H a (.dK kvs)):kvs.length<=sizeLine/\(a==sysModules)=false/\∃vs,KV kvs vs/\h.DictOf (mixKind P w) a vs :=
 show ObjOk P w H h a (.dK kvs) from rd_of ok e
def dk_of (ok:HOk P w H h) (e:H a=some (.dK kvs)):kvs.length<=sizeLine/\(a==sysModules)=false/\∃vs,KV kvs vs/\h.DictOf (mixKind P w) a vs:=dk_rd ok (.inl e)
def v2p (ok:HOk P w H h) (e:H a=some (.tup (ks.map kV))):(tupleKind (mixKind P w)).is h ks a:=by
 obtain⟨_,its,r,o,h1,h2,n,h3⟩:=(show ObjOk P w H h a (.tup (ks.map kV)) from ok a _ e)
 exact⟨o,its.toArray,n,h1,h2,h3,by simpa using u8h r⟩
def dt_rd (ok:HOk P w H h) (e:Rd H a (.dT kvs)):kvs.length<=sizeLine/\(a==sysModules)=false /\
 ∃xs,KT H kvs xs/\h.DictOfH (tupleKind (mixKind P w)) a xs:=by
 obtain⟨z,y,xs,r,o,es,ep,h1,h2,h3,h4,h5⟩:=(show ObjOk P w H h a (.dT kvs) from rd_of ok e)
 refine⟨z,y,xs,r,o,es,ep,h1,h2,h3,h4,λx hx=>?_,h5⟩
 have all:∀{l:List (List Key×V)}{m:List (List Key×Addr×Value)},KT H l m->∀x∈m,(tupleKind (mixKind P w)).is h x.1 x.2.1:=by
  intro l m q
  induction q with
  | nil=>intro x hx;exact nomatch hx
  | @cons p q ps qs hq t ih =>
   intro x hx
   rcases z8.mp hx with e|hx
   ·subst e
    exact v2p ok (by rw[<- hq.1];exact hq.2.1)
   ·exact ih x hx
 exact all r x hx
def dt_of (ok:HOk P w H h) (e:H a=some (.dT kvs)):kvs.length<=sizeLine/\(a==sysModules)=false /\
 ∃xs,KT H kvs xs/\h.DictOfH (tupleKind (mixKind P w)) a xs:=dt_rd ok (.inl e)
end
def DGet (H:Hp) (a:Addr) (y:V) (r:Option V):Prop :=
 (∃kvs k,Rd H a (.dK kvs)/\y=kV k/\r=valV kvs k)\/∃kvs k b,Rd H a (.dT kvs)/\y=.ref b/\H b=some (.tup (k.map kV))/\r=valV kvs k
def DPut (H:Hp) (a:Addr) (y v:V) (H':Hp):Prop :=
 (∃kvs k,H a=some (.dK kvs)/\y=kV k/\kvs.length<sizeLine/\H'=upd H a (.dK (putK kvs k v))) \/
 ∃kvs k b,H a=some (.dT kvs)/\y=.ref b/\H b=some (.tup (k.map kV))/\kvs.length<sizeLine/\H'=upd H a (.dT (putK kvs k v))
theorem DGet.k {H:Hp}{a:Addr}{kvs:List (Key×V)}{k:Key} (e:H a=some (.dK kvs)):DGet H a (kV k) (valV kvs k):=.inl ⟨kvs,k,.inl e,rfl,rfl⟩
theorem DPut.k {H:Hp}{a:Addr}{kvs:List (Key×V)}{k:Key}{v:V} (e:H a=some (.dK kvs)) (hl:kvs.length<sizeLine):DPut H a (kV k) v (upd H a (.dK (putK kvs k v))):=.inl ⟨kvs,k,e,rfl,hl,rfl⟩
section
variable {X:Cx}{pins:LO}{σ:St}{H:Hp}{s:Shared}{a:Addr}{y v:V}{u r:Value}{o:Option V}{A:Around}{E:VP}
def Inv.big (I:Inv X pins σ H s):sysModules<s.heap.objs.size:=by
 have h:mainGlobals<s.heap.objs.size:=(I.mod.glob.keeps I.bk).lt
 exact Nat.lt_trans (by decide) h
def d_in (hu:A.units+1<cLine) (I:Inv X pins σ H s) (g:DGet H a y o) (ry:RelV y u) (h:∀s',Inv X pins σ H s'->Q (.bool o.isSome) s') :
 wpAny (model X.prog X.w) A (compareOp .In u (.ref a)) Q E s:=by
 rcases g with⟨kvs,k,e,ey,l⟩|⟨kvs,k,b,e,ey,eb,l⟩
 ·subst ey
  obtain⟨z,hd,vs,rel,dd⟩:=dk_rd I.hok e
  refine wpAny_in_of (kV_is ry) hd dd.mapOf ?_
  rw[<- (rel.val k).isSome_eq,<- l]
  exact h _ (I.tok _)
 ·subst ey
  cases (show u=Value.ref b from ry)
  obtain⟨z,hd,xs,rel,dd⟩:=dt_rd I.hok e
  refine wpAny_in_heap (tupleKind_room_in1 hu) (v2p I.hok eb) hd dd ?_
  have q:=(rel.val k).isSome_eq
  rw[Option.isSome_map] at q
  rw[<- q,<- l]
  exact h _ (I.tok _)
def u9y (I:Inv X pins σ H s) (mu:Mut (H a)) (hs:Heap.SameBut a s.heap h') (he:∃q,h'.get? a=some q) (new:ObjOk X.prog X.w (upd H a ob) h' a ob) :
 Inv X pins σ (upd H a ob) { s with heap:=h',toks:=t' } :=
 I.write (x:=a) (e:=a) mu (.inl rfl) (λb q hb z=>(hs.2 b hb).trans z) he new
def dk_new (z:kvs.length<=sizeLine) (hd:(a==sysModules)=false) (rel:KV kvs vs) (dd:h'.DictOf (mixKind P w) a vs) :
 ObjOk P w H' h' a (.dK kvs):=⟨z,hd,vs,rel,dd⟩
def v2X (hu:A.units+1<cLine) (I:Inv X pins σ H s) (g:DPut H a y v H') (ry:RelV y u) (rv:RelV v r) (h:∀s',Inv X pins σ H' s'->Q () s') :
 wpAny (model X.prog X.w) A (setItem (.ref a) u r) Q E s:=by
 rcases g with⟨kvs,k,e,ey,l,eH⟩|⟨kvs,k,b,e,ey,eb,l,eH⟩
 ·subst ey eH
  obtain⟨z,hd,vs,rel,dd⟩:=dk_of I.hok e
  have hz:vs.length<=sizeLine:=by rw[<- rel.length];exact z
  have hl:(putK kvs k v).length<=sizeLine:=by have:=u5B kvs k v;omega
  refine wpAny_setItem_pairs (hsz:=hz) (kV_is ry) dd λh' dd' hs=>h _ ?_
  have he:∃q,h'.get? a=some q:=let ⟨q,_,_,hq,_⟩:=dd';⟨q,hq⟩
  exact u9y I (by rw[e];exact True.intro) hs he (dk_new hl hd (rel.put k rv) dd')
 ·subst ey eH
  cases (show u=Value.ref b from ry)
  obtain⟨z,hd,xs,rel,dd⟩:=dt_of I.hok e
  have hz:xs.length<=sizeLine:=by rw[<- Paired.length rel];exact z
  have hl:(putK kvs k v).length<=sizeLine:=by have:=u5B kvs k v;omega
  refine wpAny_setItem_heap (hsz:=hz) (tupleKind_room_in1 hu) (v2p I.hok eb) dd λh' dd' hs=>h _ ?_
  obtain⟨q,es,ep,hq,h2,h3,h4,_,h5⟩:=dd'
  refine u9y I (by rw[e];exact True.intro) hs ⟨q,hq⟩ ⟨hl,hd,_,(rel.put k eb rv).keeps λc ys ec=>?_,q,es,ep,hq,h2,h3,h4,h5⟩
  rw[u0o (ne_of ec e (λz=>nomatch z))]
  exact ec
end
def sDPut (td ty tv:TE):TS:=λD σ H=>tv σ H λv H1=>td σ H1 λx H2=>ty σ H2 λy H3=>∃a H4,x=.ref a/\DPut H3 a y v H4/\D.nx σ H4
section
variable {X:Cx}{o i e value:Expr}{pos pos' tpos:Pos}{td ty tv:TE}
def ps_dput (hu:X.A.units+1<cLine) (ho:PE X o td) (hi:PE X i ty) (hv:PE X value tv) (hs:swapsWith value (some (.Subscript o i pos')) pos.line X.env=pure false) :
 PS X (.Assign [.Subscript o i pos'] value pos) (sDPut td ty tv):=by
 intro pins s σ H D I h
 refine wpAny_Assign_Subscript (thn (hv pins s σ H _ I h) λr s1 ⟨v,H1,I1,rv,q1⟩=>thn (ho pins s1 σ H1 _ I1 q1) λu s2 ⟨x,H2,I2,rx,q2⟩=>thn (hi pins s2 σ H2 _ I2 q2) λiv s3 z971=>?_) hs
 obtain⟨y,H3,I3,ry,a,H4,ex,g,q3⟩:=z971
 subst ex
 obtain rfl:u=Value.ref a:=rx
 exact v2X hu I3 g ry rv λs4 I4=>⟨σ,H4,I4,q3⟩
end
def v0s (h:Heap) (hb:sysModules<h.objs.size):ObjOk P w H (h.push { cls:=.type "dict",data:=.dict #[] }) h.objs.size (.dK []) :=
 ⟨z1H _,beq_eq_false_iff_ne.mpr (Ne.symm (v9 hb)),[],.nil,Heap.DictOf.new h⟩
def tDNewK:TE:=λ_ H Q=>∀p,H p=none->Q (.ref p) (upd H p (.dK []))
section
variable {X:Cx}{pos:Pos}
def v3E:PE X (.Dict [] [] pos) tDNewK:=λpins s σ H Q I h =>
 wpAny_Dict_empty ⟨.ref s.heap.objs.size,_,I.laid (a:=s.heap.objs.size) (o:=.dK []) (t':=s.toks) (λ_ _ q=>z5 _ q) (y7 _) (v0s s.heap I.big),rfl,h _ (I.hok.fresh (y7 _))⟩
end
end L2
namespace Att
open PySem PySem.W PySem.Calls PyProof.Rows
end Att
namespace L2
open PySem PySem.Spec PyProof.Rows
end L2
namespace L2
open PySem PySem.Spec PyProof.Rows
structure JE (X:Cx) (e:Expr) (t:TE):Prop where
 out:PE X e t
structure JT (X:Cx) (e:Expr) (t:TT):Prop where
 out:PT X e t
structure JA (X:Cx) (es:List Expr) (t:TA):Prop where
 out:PA X es t
 ns:es.all notStar=true
structure JS (X:Cx) (s:Stmt) (t:TS):Prop where
 out:PS X s t
structure JB (X:Cx) (s:List Stmt) (t:TS):Prop where
 out:PSs X s t
structure JG (X:Cx) (e:Expr) (t:TG):Prop where
 out:PG X e t
structure JI (X:Cx) (tg iter:Expr) (t:TI):Prop where
 out:PI X tg iter t
section
variable {X:Cx}{a b c e o:Expr}{es rest:List Expr}{ta tb tc te to:TE}{t u:TS}{tA tB':TT}{pos pos' p apos cpos:Pos}{x name:Str}{tr:TA}{v:V}{i:Nat}
def e_int {i j pos}:JE X (.Constant (.int i) j pos) (tC (.int i)):=⟨v4v⟩
def e_str {x j pos}:JE X (.Constant (.str x) j pos) (tC (.str x)):=⟨u9M⟩
def ev (i:Nat) (hN:X.N[i]?=some x:=by rfl) (hv:Vis X.env.scope x:=by first|exact Or.inl rfl|exact Or.inr (Or.inl rfl)|exact Or.inr (Or.inr rfl)) (hd:(x==("__debug__":Str))=false:=by decide)
 (hcd:(x==("__classdict__":Str))=false:=by decide):JE X (.Name x pos) (tVar i):=⟨u3m hN hv hd hcd⟩
def e_glo (h:Glo mg x v) (hg:Gl X x:=by rfl) (em:X.mg=mg:=by rfl) (hd:(x==("__debug__":Str))=false:=by decide):JE X (.Name x pos) (tC v):=⟨v4w h hg em hd⟩
def e_un (ho:UnR X (unaryOp op) r) (ha:JE X a ta):JE X (.UnaryOp op a pos) (tUn r ta):=⟨pe_un ho ha.out⟩
def e_ix (hr:IxR X r) (ha:JE X a ta) (hb:JE X b tb) (hs:PlainIx b:=by intro _ _;rfl):JE X (.Subscript a b pos) (tOp r ta tb):=⟨pe_ix hr ha.out hb.out hs⟩
def v1u (h:JA X es tr):JE X (.List es pos) (tLst tr):=⟨v2d h.out⟩
def e_app (ho:JE X o to) (ha:JE X e te) (hs:notStar e=true:=by rfl) (hbase:attributeBase o "append" X.env (eval o X.env)=eval o X.env:=by rfl) (hline:(apos.endLine==cpos.line)=true:=by rfl) :
 JE X (.Call (.Attribute o "append" apos) [e] [] cpos) (tBM X.K "list" rAppend to (tCons te tNil)):=⟨pbm PySem.F.plainAttrs_list PySem.F.slot_list_append PySem.F.type_list_append u8a ho.out (pac ha.out u4z hs) (by rw[z0D,hs];rfl) rfl hbase hline⟩
def v1B:JA X [] tNil:=⟨u4z,rfl⟩
def v4M (ha:JE X e te) (hr:JA X es tr) (hs:notStar e=true:=by rfl):JA X (e::es) (tCons te tr):=⟨pac ha.out hr.out hs,by rw[z0D,hs,hr.ns];rfl⟩
def t_cmp (ho:OpR X (compareOp op) r) (ha:JE X a ta) (hb:JE X b tb) (hm:behindInMarks op b=false:=by first|exact nomark _|with_unfolding_all rfl):JT X (.Compare a [op] [b] pos) (tTest (tOp r ta tb)):=⟨v1X ho ha.out hb.out hm⟩
def g_n (hN:X.N.Nodup) (hi:X.N.findIdx? (λy=>y==x)=some i:=by rfl) (hx:Loc X.env.scope x:=by first|exact Or.inl rfl|exact Or.inr rfl) (hf:X.fn x=true\/X.env.scope.names.lookup x=some .local:=by first|exact .inl rfl|exact .inr rfl) :
 JG X (.Name x pos) (gName i):=⟨pg_n hN hi hx hf⟩
variable {tg l:Expr}{tl:TE}
def v4B (hl:JE X l tl):JI X tg l (iList X.K tl):=⟨u9m hl.out⟩
variable {st:Stmt}{sts:List Stmt}
def u8G (h1:JS X st t):JB X [st] t:=⟨v1Y h1.out⟩
def v4J (h1:JS X st t) (h2:JB X sts u):JB X (st::sts) (tSeq t u):=⟨u4S h1.out h2.out⟩
def s_ret (he:JE X e te):JS X (.Return (some e) pos) (tRet te):=⟨v4q he.out⟩
def s_if {c:Expr}{a b:List Stmt}{tc:TT} (hc:JT X c tc) (ha:JB X a t) (hb:JB X b u):JS X (.If c a b pos) (tIfS tc t u):=⟨ps_if hc.out ha.out hb.out⟩
def u9J (he:JE X e te) (hs:swapsWith e none pos.line X.env=pure false:=by rfl):JS X (.Expr e pos) (tDrop te):=⟨u6P he.out hs⟩
def s_n (hN:X.N.Nodup) (he:JE X e te) (hi:X.N.findIdx? (λy=>y==x)=some i:=by rfl) (hx:Loc X.env.scope x:=by first|exact Or.inl rfl|exact Or.inr rfl) (hs:swapsWith e (some (.Name x pos')) pos.line X.env=pure false:=by rfl)
 (hf:X.fn x=true\/X.env.scope.names.lookup x=some .local:=by first|exact .inl rfl|exact .inr rfl):JS X (.Assign [.Name x pos'] e pos) (tAsg te (gName i)):=⟨ps_n hN he.out hi hx hs hf⟩
def s_for {iter:Expr}{body:List Stmt}{wi:TI}{g:TG}{tb:TS} (hc:X.calm=true) (hi:JI X tg iter wi) (hg:JG X tg g) (hb:JB X body tb) (hp:PassesOwn (model X.prog X.w) X.A X.env X.xe:=by exact PassesOwn.never)
  (hs:∀x,foldedSetIterable iter X.env x=pure x:=by intro _;rfl):JS X (.For tg iter body [] pos) (tFor wi g tb):=⟨v4r hp hc hi.out hg.out hb.out hs⟩
end
section
variable {P:Program}{w:World}{K:W.Frag}{mg:MG}{base:Heap}
def Fun.okJ {x qual:Str}{st:Stmt}{f:Addr}{fd:FuncData}{N ps:List Str}{k:Nat}{sp:Sp} (F:Fun K x qual st f fd) (S:FnScope N ps (defScope st)) (len:∀vs H Q E,sp vs H Q E->vs.length=ps.length)
  (hbody:∀ (cdv:Value) (A:Around) (outer:List Env) (s:Shared) (H:Hp) (vs:List V) (Q:VK) (E:XK),Room k (A.deeper (envOfC qual (defScope st) s.heap.objs.size f cdv))->sp vs H Q E ->
   ∃t,JB (cxOf CX0 P w K mg base N qual (defScope st) f cdv A outer s H E).nox (defBody st) t/\t { nx:=λ_ H'=>Q .non H',rt:=Q } (start N vs) H):FnOk P w K mg base CX0 (k+1) f fd ps sp :=
 F.ok S len λcdv A outer s H vs Q E hr h=>by obtain⟨t,a,b⟩:=hbody cdv A outer s H vs Q E hr h;exact⟨t,a.out,b⟩
end
end L2
namespace KW
open PySem L2 PySem.Spec PyProof.Rows
end KW
namespace L2
open PySem PySem.Spec PyProof.Rows
noncomputable def cutC {α:Type} (xs:List α) (lo hi:Option Int):List α:=(xs.drop (HT.sIx xs.length 0 lo)).take (HT.sIx xs.length xs.length hi - HT.sIx xs.length 0 lo)
def v3z (a b:Nat):sliceRange (a:Int) (b:Int) 1=(List.range (b - a)).map (λk=>a+k):=by
 unfold sliceRange
 have h:(if (1:Int) > 0 then (if (a:Int)<b then ((b:Int) - a+1 - 1) / 1 else 0) else (if (a:Int) > b then ((a:Int) - b - 1 - 1) / (-1) else 0)).toNat=b - a:=by
  rw[if_pos (by decide)]
  by_cases h:(a:Int)<b
  ·rw[if_pos h];omega
  ·rw[if_neg h];omega
 simp only[h]
 refine List.map_congr_left λk _=>?_
 omega
def v0v (v:Int) (n d:Nat):max 0 (min (if v<0 then v+(n:Int) else v) (n:Int))=((HT.sIx n d (some v):Nat):Int):=by
 show max 0 (min (if v<0 then v+(n:Int) else v) (n:Int))=(((if v<0 then (v+(n:Int)).toNat else min v.toNat n):Nat):Int)
 by_cases hv:v<0
 ·simp only[if_pos hv];omega
 ·simp only[if_neg hv];omega
def u8P (l u:Option Int) (n:Nat):Builtin.Str.strSliceIndices l u 1 n=(List.range (HT.sIx n n u - HT.sIx n 0 l)).map (λk=>HT.sIx n 0 l+k):=by
 rw[<- v3z]
 unfold Builtin.Str.strSliceIndices
 simp only[show((1:Int) > 0)=True from by simp,if_true]
 congr 1
 ·cases l with
  | none=>rfl
  | some v=>exact v0v v n 0
 ·cases u with
  | none=>rfl
  | some v=>exact v0v v n n
set_option tactic.hygienic true in
def v1N (z:Str) (l u:Option Int):(Txt.slice z l u).cps.toList=cutC z.cps.toList l u:=by
 have hn:z.cps.toList.length=z.length:=by rw[r9];rfl
 have hl:HT.sIx z.length 0 l<=z.length:=HT.sIx_le _ 0 (z1H _) l
 have hu:HT.sIx z.length z.length u<=z.length:=HT.sIx_le _ _ (y7 _) u
 unfold Txt.slice cutC
 rw[u8P,hn]
 split
 ·rename_i h
  simp only[beq_self_eq_true,Bool.true_and,v6,List.length_range,beq_iff_eq] at h
  have e1:HT.sIx z.length 0 l=0:=by omega
  have e2:HT.sIx z.length z.length u=z.length:=by omega
  rw[e1,e2,List.drop_zero,Nat.sub_zero,List.take_of_length_le (by omega)]
 ·by_cases h:HT.sIx z.length 0 l<=HT.sIx z.length z.length u
  ·have h2:=StrLaws.picks z.cps.toList (HT.sIx z.length z.length u - HT.sIx z.length 0 l) (HT.sIx z.length 0 l) (by omega)
   rw[<- h2]
   show List.filterMap (λx=>z.cps[x]?) _=_
   have e:(λx=>z.cps[x]?)=(λx:Nat=>z.cps.toList[x]?):=by funext i;simp
   rw[e]
  ·have e:HT.sIx z.length z.length u - HT.sIx z.length 0 l=0:=by omega
   rw[e,List.take_zero];rfl
def sIx_one (n d:Nat):HT.sIx n d (some 1)=min 1 n:=HT.sIx_nat n d 1
def u6l (z:Str):(Txt.slice z (some 1) none).cps.toList=z.cps.toList.drop 1:=by
 rw[v1N]
 unfold cutC
 rw[sIx_one,HT.sIx_none]
 by_cases h:1<=z.cps.toList.length
 ·rw[Nat.min_eq_left h,List.take_of_length_le (by rw[z1B];omega)]
 ·have e:z.cps.toList=[]:=List.eq_nil_of_length_eq_zero (by omega)
  rw[e];rfl
abbrev bmV:List Value:=[.type "ValueError",.type "Exception",.type "BaseException",.type "object"]
abbrev tupO (vs:List Value):Obj:={ cls:=.type "tuple",data:=.seq vs.toArray }
abbrev excO (C t:Addr) (dx:Option Addr):Obj:={ cls:=.ref C,dict:=dx,data:=.fields #[.ref t,.none,.none,.none,.bool false,.none] }
noncomputable def onlyV:List Value->Bool
 | .ref _::r=>onlyV r
 | l=>l==bmV
noncomputable def xcB (K:W.Frag) (C f:Addr):Bool:=match K.lookup C with
 | some ⟨.type "type",_,.cls cd,sl⟩=>(match cd.mro,sl.toList with
  | .ref C'::bm,[_,_,_,_,some (.builtin n),_]=>C'==C&&n=="ValueError.__new__"&&!cd.hasDel&&W.tailIn K bmV bm&&cd.hasDict &&
    W.findIn K (.ref C) "__init__"==some (some (.ref f))&&W.typeIn K (.ref f)==some (.type "function")&&W.findIn K (.ref C) "__getattribute__"==some (some (.builtin "BaseException.__getattribute__")) &&
    W.findIn K (.ref C) "__setattr__"==some (some (.builtin "object.__setattr__"))&&W.findIn K (.ref C) "__getattr__"==some none&&W.keepIn K (.ref C)&&onlyV bm &&
    W.findIn K (.ref C) "__class__"==some (some (.builtin "object.__class__"))&&W.specialIn K (.builtin "object.__class__") "__get__"==some (some (.builtin "getset_descriptor.__get__"))&&W.takesIn K (.builtin "object.__class__")==some true&&W.mroIn K C (.type "object")==some true
  | _,_=>false)
 | _=>false
structure XCls (K:W.Frag) (C f:Addr):Prop where
 obj:∃bm N nm q bs sn sub ab col dd k0 k1 k2 k3 k5,K.lookup C=some (excClassObj nm q C N bs bm true sn sub ab col dd k0 k1 k2 k3 k5 "ValueError.__new__")/\W.tailIn K bmV bm=true
 init:W.findIn K (.ref C) "__init__"=some (some (.ref f))
 fn:W.typeIn K (.ref f)=some (.type "function")
 ga:W.findIn K (.ref C) "__getattribute__"=some (some (.builtin "BaseException.__getattribute__"))
 sa:W.findIn K (.ref C) "__setattr__"=some (some (.builtin "object.__setattr__"))
 gt:W.findIn K (.ref C) "__getattr__"=some none
 kp:W.keepIn K (.ref C)=true
 ov:∃cd,W.clsIn K C=some cd/\onlyV cd.mro=true/\cd.hasDict=true
 cl:W.findIn K (.ref C) "__class__"=some (some (.builtin "object.__class__"))
 cg:W.specialIn K (.builtin "object.__class__") "__get__"=some (some (.builtin "getset_descriptor.__get__"))
 ct:W.takesIn K (.builtin "object.__class__")=some true
 co:W.mroIn K C (.type "object")=some true
set_option tactic.hygienic true in
def xcls_of {K:W.Frag}{C f:Addr} (e:xcB K C f=true):XCls K C f:=by
 unfold xcB at e
 split at e
 ·rename_i dd cd sl ho
  split at e
  ·rename_i C' bm k0 k1 k2 k3 n k5 hm hs
   simp only[t9,beq_iff_eq,Bool.not_eq_true'] at e
   obtain⟨⟨⟨⟨⟨⟨⟨⟨⟨⟨⟨⟨⟨⟨⟨rfl,rfl⟩,hdel⟩,ht⟩,hdi⟩,e1⟩,e2⟩,e3⟩,e4⟩,e5⟩,e6⟩,e7⟩,e8⟩,e9⟩,e10⟩,e11⟩:=e
   obtain⟨nm,bs,mro,ns,qn,hd,sn,sub,ab,col,del⟩:=cd
   dsimp only at hm hdel hdi
   subst hm hdel hdi
   have hsl:sl=#[k0,k1,k2,k3,some (.builtin "ValueError.__new__"),k5]:=by
    obtain⟨l⟩:=sl
    simp only at hs
    rw[hs]
   subst hsl
   exact⟨⟨bm,ns,nm,qn,bs,sn,sub,ab,col,dd,k0,k1,k2,k3,k5,ho,ht⟩,e1,e2,e3,e4,e5,e6,⟨_,by unfold W.clsIn;rw[ho],by show onlyV bm=true;exact e7,rfl⟩,e8,e9,e10,e11⟩
  ·cases e
 ·cases e
section
variable {prog:Program}{w:World}{A:Around}{K:W.Frag}{C f:Addr}{h:Heap}{g:Array GenState}{d:Drawn}{t:Nat}{os:OsState}{R:Result->Shared->Prop}
def v4d (X:K.In h) (c:XCls K C f) (hz:rest.length<=sizeLine)
 (hq:codeAny (model prog w) (A.under (.builtin "type.__call__" ⟨.ref C::rest,[]⟩)) (.call (.ref f) ⟨.ref (h.objs.size+1)::rest,[]⟩) (W.InitBack (h.objs.size+1) R) ⟨(h.push (tupO rest)).push (excO C h.objs.size none),g,d,t,os⟩) :
 codeAny (model prog w) A (.call (.ref C) ⟨rest,[]⟩) R ⟨h,g,d,t,os⟩:=by
 obtain⟨bm,N,nm,q,bs,sn,sub,ab,col,dd,k0,k1,k2,k3,k5,hK,ht⟩:=c.obj
 have T:=W.tail_of_in X ht
 have hC:=X _ _ hK
 have FV:=PySem.F.excBase_ValueError
 have b1:=tc_lookup
 have b2:=tc_bind (.ref C)
 have b3:(⟨h,g,d,t,os⟩:Shared).TypeIs (.ref C) "type":=⟨_,hC,rfl⟩
 refine codeAny_of_tree ?_
 show wpAny _ _ (callAny (.ref C) _) _ _ _
 repeat (any_goals (first|assumption|with_reducible refine wpAny_loadPart_at hC ?_|wp_step))
 refine⟨rfl,?_⟩
 refine codeAny_call_builtin_at (Code.quiet_builtin _ (by decide +kernel)) entry_typeCall (wpAny_check_type_call_sub hC ?_)
 repeat (first|with_reducible refine wpAny_loadPart_at hC ?_|with_reducible refine wpAny_madeBy_exc hC ?_|wp_step)
 refine codeAny_call_builtin_code (Code.quiet_builtin _ FV.quiet) (wpAny_check_new_subU FV (by decide +kernel) T hC ?_)
 refine codeAny_exc_new_subU FV (by decide +kernel) FV T hC ?_ hz
 show wpAny _ (A.under (Code.builtin "type.__call__" ⟨Value.ref C::rest,[]⟩)) _ _ _ ⟨(h.push (tupO rest)).push (excO C h.objs.size none),g,d,t,os⟩
 have hk:∀b o,h.get? b=some o->((h.push (tupO rest)).push (excO C h.objs.size none)).get? b=some o:=λb o e=>z5 _ (z5 _ e)
 have X1:K.In ((h.push (tupO rest)).push (excO C h.objs.size none)):=X.keeps hk
 have hg:((h.push (tupO rest)).push (excO C h.objs.size none)).get? (h.objs.size+1)=some (excO C h.objs.size none):=by heap_get
 have ty:W.Looks (model prog w) ((h.push (tupO rest)).push (excO C h.objs.size none)) (typeOf (.ref (h.objs.size+1))) (.ref C):=(W.Looks.ld hg).andThen .now
 have hcC:(Value.ref C::bm).contains (.ref C)=true:=by simp
 have su:W.Looks (model prog w) ((h.push (tupO rest)).push (excO C h.objs.size none)) (isSubtype (.ref C) (.ref C)) true:=W.looks_mroIn X1 (by unfold W.mroIn W.clsIn;rw[hK];exact congrArg some hcC)
 have li:=W.looks_findIn (M:=model prog w) X1 c.init
 have lb:=W.bind_fn (M:=model prog w) X1 (.ref (h.objs.size+1)) c.fn
 unfold isInstance callSpecial? specialOf
 repeat (first|with_reducible refine wpAny_call ?_|lk)
 refine codeAny_mono hq λr s' z=>?_
 rcases r with e|(v|_|_|_)<;>first|exact z|exact z.elim|skip
 obtain⟨rfl,z⟩:=z
 exact wpAny_pure (wpAny_pure z)
end
theorem u6O (self:Value):∀{l:List Value},onlyV l=true->refuseLoop self "__setattr__" l=pure ()
 | .ref c::r,e=>by
  rw[refuseLoop_ref]
  exact u6O self (l:=r) (by unfold onlyV at e;exact e)
 | [],e=>by cases (beq_iff_eq.mp (show(([]:List Value)==bmV)=true from e))
 | v::r,e=>by
  cases v<;>first
   | (unfold onlyV at e;rw[beq_iff_eq.mp e];kernel_rfl)
   | (rw[refuseLoop_ref];exact u6O self (l:=r) (by unfold onlyV at e;exact e))
theorem u3e:∀{l:List Value},onlyV l=true->l.contains (.type "BaseException")=true
 | .ref c::r,e=>by
  rw[List.contains_cons,u3e (l:=r) (by unfold onlyV at e;exact e),Bool.or_true]
 | [],e=>by cases (beq_iff_eq.mp (show(([]:List Value)==bmV)=true from e))
 | v::r,e=>by
  cases v<;>first
   | (unfold onlyV at e;rw[beq_iff_eq.mp e];decide +kernel)
   | (rw[List.contains_cons,u3e (l:=r) (by unfold onlyV at e;exact e),Bool.or_true])
theorem u5u:∀{l:List Value},onlyV l=true->l.contains (.type "object")=true
 | .ref c::r,e=>by
  rw[List.contains_cons,u5u (l:=r) (by unfold onlyV at e;exact e),Bool.or_true]
 | [],e=>by cases (beq_iff_eq.mp (show(([]:List Value)==bmV)=true from e))
 | v::r,e=>by
  cases v<;>first
   | (unfold onlyV at e;rw[beq_iff_eq.mp e];decide +kernel)
   | (rw[List.contains_cons,u5u (l:=r) (by unfold onlyV at e;exact e),Bool.or_true])
def ExAt (h:Heap) (e C:Addr) (dx:Option Addr):Prop:=∃t f1 f2 f3 f4 f5 sl,h.get? e=some { cls:=.ref C,dict:=dx,data:=.fields #[.ref t,f1,f2,f3,f4,f5],slots:=sl }
section
variable {prog:Program}{w:World}{A:Around}{E:VP}{s:Shared}{K:W.Frag}{e C f:Addr}{name:Str}{v:Value}{R:Result->Shared->Prop}
def exc_osa (X:K.In s.heap) (c:XCls K C f) (I:W.InstAt s.heap e ox C od) (hn:W.findIn K (.ref C) name=some none)
 (h:∀ b,wpAny (model prog w) A.in1 (Builtin.ObjectAttr.storeInOwnDict (.ref e) (.ref C) (.str name tk) name v b)
 (λfin s'=>match fin with | .done f=>R (.ok f) s' | .again c'=>c'.quiet=true/\codeAny (model prog w) A c' R s') (λx s'=>R (.error x) s') s) :
 codeAny (model prog w) A (.call (.builtin "object.__setattr__") ⟨[.ref e,.str name tk,v],[]⟩) R s:=by
 have SF:=PySem.F.store_object
 obtain⟨cd,hc,ho,_⟩:=c.ov
 have ne:cd.mro.isEmpty=false:=by
  cases q:cd.mro with
  | nil=>rw[q] at ho;cases (beq_iff_eq.mp (show(([]:List Value)==bmV)=true from ho))
  | cons _ _=>rfl
 have sub:W.Looks (model prog w) s.heap (isInstance (.ref e) (.type "object")) true :=
  I.type.andThen (W.looks_mroIn X (by unfold W.mroIn;rw[hc,Option.bind_some,if_neg (by rw[ne];decide),u5u ho]))
 refine codeAny_call_builtin SF.slot.plain SF.entry (@W.check_slot (model prog w) _ _ s "object.__setattr__" "object" "__setattr__" (.ref e) [.str name tk,v] [] _ SF.kind SF.split sub (SF.args (.ref e) (.str name tk) v) ?_)
 have hm:W.Looks (model prog w) s.heap (mroOf (.ref C)) cd.mro:=(W.looks_clsIn X hc).andThen .now
 rw[W.osa_eq,refuse_eq]
 refine wpAny_bind (wpAny_bind (I.type.here (wpAny_bind (hm.here ?_))))
 rw[u6O _ ho]
 refine wpAny_pure (wpAny_bind (I.type.here (wpAny_bind ((W.looks_findIn X hn).here (wpAny_bind (wpAny_pure (a:=none) ?_))))))
 exact h _
set_option maxHeartbeats 4000000 in
def exc_get (X:K.In s.heap) (c:XCls K C f) (he:ExAt s.heap e C (some dx)) (hm:s.heap.Ns1 dx mA) (hn:W.findIn K (.ref C) name=some none) (hv:mA name=some v)
 (hv':W.handedIn v=true) (h:Q v { s with toks:=s.toks+1 }):wpAny (model prog w) A (getAttr (.ref e) name expr) Q E s:=by
 obtain⟨t,f1,f2,f3,f4,f5,sl,he⟩:=he
 obtain⟨od,hod,hl⟩:=u8c hm
 have I:W.InstAt s.heap e _ C (some od):=⟨he,rfl,rfl,hod⟩
 obtain⟨cd,hc,ho,hd⟩:=c.ov
 have L0:=I.type (M:=model prog w)
 have L1:=W.looks_findIn (M:=model prog w) X c.ga
 have L2:=W.looks_findIn (M:=model prog w) X c.gt
 have hf:W.findObj K C (some od) name=some (.value v):=by
  unfold W.findObj
  rw[hc,Option.bind_some,hn,Option.bind_some,Option.bind_some,Option.bind_some]
  show((W.ownOf cd (some od) name).bind _)=_
  unfold W.ownOf
  rw[if_pos hd]
  show((W.lookIn name od).bind _)=_
  rw[hl,hv]
  rfl
 have L3:=W.looks_find (M:=model prog w) X I hf
 obtain⟨hh,g,d,tt,os⟩:=s
 unfold getAttr getAttrBy
 refine wpAny_bind (wpAny_mkText (wpAny_holding (wpAny_bind (L0.at (wpAny_bind (L1.at ?_))))))
 have FA:=PySem.F.attr_ValueError
 have ne:cd.mro.isEmpty=false:=by
  cases q:cd.mro with
  | nil=>rw[q] at ho;cases (beq_iff_eq.mp (show(([]:List Value)==bmV)=true from ho))
  | cons _ _=>rfl
 have sub:W.Looks (model prog w) hh (isInstance (.ref e) (.type "BaseException")) true :=
  L0.andThen (W.looks_mroIn X (by unfold W.mroIn;rw[hc,Option.bind_some,if_neg (by rw[ne];decide),u3e ho]))
 show wpAny _ _ (getAttrByItsOwn _ _ _ _ _ _) _ _ _
 unfold getAttrByItsOwn
 refine wpAny_bind (L2.at ?_)
 refine wpAny_bind (wpAny_attempt ?_)
 have hx0:(expr&&onTheHeap (Value.builtin "BaseException.__getattribute__"))=false:=by cases expr<;>rfl
 unfold callGetattribute
 rw[if_neg (by rw[hx0];exact t8)]
 refine wpAny_holding ?_
 unfold boundAndCalled
 rw[FA.ga.bind]
 refine wpAny_bind (wpAny_pure (wpAny_call ?_))
 refine codeAny_call_builtin FA.ga.plain F.entry_bexc_ga (@W.check_slot (model prog w) _ _ ⟨hh,g,d,tt+1,os⟩ "BaseException.__getattribute__" "BaseException" "__getattribute__" (.ref e) [.str name tt] [] _ (by decide +kernel) (by decide +kernel) sub (F.args_bexc_ga (.ref e) (.str name tt)) ?_)
 show wpAny _ _ (Builtin.«object.__getattribute__» ⟨[.ref e,.str name tt],[]⟩) _ _ _
 unfold Builtin.«object.__getattribute__»
 refine wpAny_bind (wpAny_pure (a:=(Value.ref e,[Value.str name tt])) (wpAny_bind (wpAny_pure (a:=name) (wpAny_bind (L0.at (wpAny_bind (L3.at ?_)))))))
 refine wpAny_pure ?_
 show wpAny _ _ (handedOut v) _ _ _
 rw[W.handedOut_of hv']
 exact wpAny_pure h
end
noncomputable def XO (C:Addr) (dx:Option Addr) (e:Addr):HO:=.ext λh=>ExAt h e C dx
noncomputable def DXO (dx:Addr) (fs:List (Str×V)):HO:=.ext λh=>∃mA,h.Ns1 dx mA/\(∀f,RelO (fs.lookup f) (mA f))/\PySem.Within mA (fs.map (·.1))
section
variable {P:Program}{w:World}{H:Hp}{h:Heap}{e C dx:Addr}{d:Option Addr}{fs:List (Str×V)}
def xo_ok (x:ExAt h e C d):ObjOk P w H h e (XO C d e) :=
 ⟨x,by obtain⟨_,_,_,_,_,_,_,q⟩:=x;exact⟨_,q⟩,λh1 h2 z972 k=>by obtain⟨t,f1,f2,f3,f4,f5,sl,q⟩:=z972;exact⟨t,f1,f2,f3,f4,f5,sl,k _ q⟩⟩
def v4E (n:h.Ns1 dx mA) (r:∀f,RelO (fs.lookup f) (mA f)) (z:PySem.Within mA (fs.map (·.1))):ObjOk P w H h dx (DXO dx fs) :=
 ⟨⟨mA,n,r,z⟩,by obtain⟨o,_,_,q,_⟩:=n;exact⟨o,q⟩,λh1 h2 z973 k=>by obtain⟨m,a,b,c⟩:=z973;exact⟨m,a.at k,b,c⟩⟩
def v1C (x:HOk P w H h) (q:H e=some (XO C d e)):ExAt h e C d:=(show ObjOk P w H h e (XO C d e) from x e _ q).1
def dxo_at (x:HOk P w H h) (q:H dx=some (DXO dx fs)):∃mA,h.Ns1 dx mA/\(∀f,RelO (fs.lookup f) (mA f))/\PySem.Within mA (fs.map (·.1)):=(show ObjOk P w H h dx (DXO dx fs) from x dx _ q).1
end
section
variable {X:Cx}{pins:LO}{σ:St}{H:Hp}{s:Shared}{a C dx fI:Addr}{fs:List (Str×V)}{f:Str}{v:V}{A:Around}{E:VP}
def xget_ok (I:Inv X pins σ H s) (e:H a=some (XO C (some dx) a)) (ed:H dx=some (DXO dx fs)) (c:XCls X.K C fI) (n:NoAttr X.K C f) (l:fs.lookup f=some v)
 (h:∀u s',Inv X pins σ H s'->RelV v u->Q u s'):wpAny (model X.prog X.w) A (getAttr (.ref a) f b) Q E s:=by
 obtain⟨mA,nA,r,_⟩:=dxo_at I.hok ed
 obtain⟨u,hu,ru⟩:=RelO.some_of (v:=v) (o:=mA f) (by rw[<- l];exact r f)
 exact exc_get I.kIn c (v1C I.hok e) nA n hu (u8j ru) (h u _ (I.tok _) ru)
end
section
variable {X:Cx}{e o value:Expr}{es:List Expr}{ta tv te:TE}{t:TA}{f x:Str}{p pos pos':Pos}{C fI:Addr}{fd:FuncData}{ps:List Str}{sp:Sp}{k:Nat}{v:V}
def tXFld (K:W.Frag) (ta:TE) (f:Str):TE:=λσ H Q=>ta σ H λx H1=>∃a C fI dx fs v,x=.ref a/\H1 a=some (XO C (some dx) a)/\H1 dx=some (DXO dx fs)/\XCls K C fI/\NoAttr K C f/\fs.lookup f=some v/\Q v H1
def pe_xfld (he:PE X e ta) (hb:attributeBase e f X.env (eval e X.env)=eval e X.env):PE X (.Attribute e f pos) (tXFld X.K ta f):=by
 intro pins s σ H Q I h
 refine v3i hb (thn (he pins s σ H _ I h) λu s1 z974=>?_)
 obtain⟨x,H1,I1,rx,a,C,fI,dx,fs,v,ex,ea,ed,c,n,l,q⟩:=z974
 subst ex
 obtain rfl:u=Value.ref a:=rx
 exact xget_ok I1 ea ed c n l λu' s2 I2 ru=>⟨v,H1,I2,ru,q⟩
end
section
variable {X:Cx}{pins:LO}{σ:St}{H:Hp}{s:Shared}{h':Heap}
def Inv.turned2 (I:Inv X pins σ H s) (k:∀b o,b≠e->b≠it->s.heap.get? b=some o->h'.get? b=some o) (f1:FpOk X pins H e) (f2:FpOk X pins H it) (hp:s.heap.objs.size<=p)
 (new:ObjOk X.prog X.w (upd H p (.tup ys)) h' p (.tup ys)):Inv X pins σ (upd H p (.tup ys)) { s with heap:=h',toks:=t' }:=by
 have hfr:H p=none:=I.hok.fresh hp
 have nin:∀b u,H b=some u->b≠e/\b≠it:=λb u q=>⟨(λz=>by rw[z,f1.1] at q;cases q),(λz=>by rw[z,f2.1] at q;cases q)⟩
 have nch:∀b,b∉[e,it]->b≠e/\b≠it:=λb hb=>⟨λz=>hb (by simp[z]),λz=>hb (by simp[z])⟩
 refine I.call' (ch:=[e,it]) rfl ⟨λb o q n _ hx=>k b o (nch b hx).1 (nch b hx).2 q,λb o q n _ hx=>⟨o.slots,k b o (nch b hx).1 (nch b hx).2 q⟩,λb o q n _=>?_,λb o q hx=>⟨o,k b o (nch b hx).1 (nch b hx).2 q⟩,λb xs q=>?_,λb o u q=>?_,λb ps q=>⟨#[],?_⟩⟩ ?_ I.bare λb hb=>?_
 ·rw[u0o (by rintro rfl;exact absurd (y9 q) (Nat.not_lt.mpr hp))];exact n
 ·rw[u0o (u0y q hfr)];exact q
 ·rw[u0o (u0y q hfr)];exact q
 ·rw[u0o (u0y q hfr),q];simp
 ·intro b u q
  by_cases hb:b=p
  ·subst hb;rw[u0j] at q;cases q;exact new
  ·rw [u0o hb] at q
   refine(I.hok b u q).stay (λc v hc z=>?_) (λc z=>by rw[u0o (u0y z hfr)];exact z) λc xs z=>by rw[u0o (u0y z hfr)];exact z
   rcases hc with rfl|hc
   ·exact k c v (nin c u q).1 (nin c u q).2 z
   ·exact k c v (nin c _ hc).1 (nin c _ hc).2 z
 ·rcases z8.mp hb with rfl | hb
  ·exact⟨f1.2.2.2.1,f1.2.1,f1.2.2.2.2.1,f1.2.2.2.2.2⟩
  ·obtain rfl:b=it:=by simpa using hb
   exact⟨f2.2.2.2.1,f2.2.1,f2.2.2.2.2.1,f2.2.2.2.2.2⟩
end
def Ite (K:W.Frag) (a:Addr):It :=
 ⟨λi H=>∃xs x,SqL K H a xs/\xs[i]?=some x,λi H y H'=>∃p x,H p=none/\y=.ref p/\H'=upd H p (.tup [.int i,x])/\∀xs,SqL K H a xs->xs[i]?=some x,λi H=>∃xs,SqL K H a xs/\xs.length<=i⟩
def v1K {P:Program}{w:World}{K:W.Frag}{es:List Expr}{k:Nat}{pos:Pos} (a e it:Addr) (hne:e≠it) :
  Turn P w K (.Tuple es k pos) (Ite K a) [e,it] e (λi h=>(∃old,IsEnum h e it (i:Int) old)/\h.IsListIter it a i) where
 mem:=by simp
 obj:=λi h st b hb=>by
  obtain⟨⟨old,q⟩,o,e2,c,d⟩:=st
  rcases z8.mp hb with rfl|hb
  ·exact⟨_,q,λv z=>by cases z⟩
  ·obtain rfl:b=it:=by simpa using hb
   exact⟨o,e2,λv z=>by rw[d] at z;cases z⟩
 keep:=λi h h' st k=>⟨by obtain⟨old,q⟩:=st.1;exact⟨old,k e (by simp) _ q⟩,st.2.at λo q=>k it (by simp) o q⟩
 item:=by
  intro X hP hw hK hc i pins s σ H E I hf st hg
  subst hP hw hK
  obtain⟨xs,x,hq,hx⟩:=hg
  obtain⟨its,rv,p,hz⟩:=I.list hq
  obtain⟨u,hu,ru⟩:=rv.get hx
  obtain⟨⟨old,he⟩,hl⟩:=st
  have f1:=hf e (by simp)
  have f2:=hf it (by simp)
  have hel:e<s.heap.objs.size:=y9 he
  refine wpAny_pyNext_enum_item he hl p.isList (x:=u) (by simpa using hu) hne λh1 eo li ht hsz kk=>⟨_,rfl,?_⟩
  refine wpAny_letOwnedTupleGo_enum (s:={ s with heap:=h1,toks:=s.toks+1 }) eo λh2 en sb=>?_
  have hpe:s.heap.objs.size≠e:=Nat.ne_of_gt hel
  have hfr:H s.heap.objs.size=none:=I.hok.fresh (y7 _)
  have k2:∀b o,b≠e->b≠it->s.heap.get? b=some o->h2.get? b=some o:=λb o hb hi q=>(sb.2 b hb).trans (kk b o hb hi q)
  have ht2:h2.get? s.heap.objs.size=some { cls:=.type "tuple",data:=.seq #[.int i s.toks,u] }:=(sb.2 _ hpe).trans ht
  have I2:=I.turned2 (t':=s.toks+1) (p:=s.heap.objs.size) (ys:=[.int i,x]) k2 f1 f2 (y7 _) ⟨by show 2<=sizeLine;decide,[.int i s.toks,u],.cons ⟨_,rfl⟩ (.cons ru .nil),⟨_,ht2,rfl,_,rfl⟩⟩
  have en':IsEnum h2 e it (((i+1:Nat):Int)) u:=by
   have:((i+1:Nat):Int)=(i:Int)+1:=by omega
   rw[this];exact en
  refine⟨.ref s.heap.objs.size,_,I2,rfl,⟨s.heap.objs.size,x,hfr,rfl,rfl,λys hy=>by rw[I.list_inj hy hq];exact hx⟩,⟨⟨u,en'⟩,?_⟩,λb hb=>?_⟩
  ·obtain ⟨o,q,r⟩:=li
   exact⟨o,(sb.2 it (Ne.symm hne)).trans q,r⟩
  ·have hb':b<s.heap.objs.size:=by
    rcases z8.mp hb with rfl|hb
    ·exact hel
    ·obtain rfl:b=it:=by simpa using hb
     obtain⟨o,q,_⟩:=hl
     exact y9 q
   rw[u0o (v9 hb')]
   exact(hf b hb).1
 done:=by
  intro X hP hw hK hc i pins s σ H E I hf st hg
  subst hP hw hK
  obtain⟨xs,hq,hx⟩:=hg
  obtain⟨its,rv,p,hz⟩:=I.list hq
  obtain⟨⟨old,he⟩,hl⟩:=st
  obtain⟨f0,f1,f2,f3,f4,f5⟩:=hf it (by simp)
  have hlen:=rv.length
  exact wpAny_pyNext_enum_end (I.ok.hd hc) he hl p.isList (by simp;omega) λh' eb=>⟨rfl,I.turned (t':=s.toks) (λb o hb q=>eb b o hb q) f0 f1 f3 f4 f5⟩
 self:=λ_ _ _ _ _ st h=>by
  obtain⟨⟨old,he⟩,_⟩:=st
  exact wpAny_pyIter_enum he h
def iEnum (K:W.Frag) (ta:TA):TI:=λσ H R=>ta σ H λvs H1=>∃a xs,vs=[.ref a]/\SqL K H1 a xs/\R (Ite K a) H1
section
variable {X:Cx}{a:Expr}{ta:TA}{p pos tp:Pos}{es:List Expr}{k:Nat}
def pi_enum (hg:Gl X "enumerate") (hm:X.mg "enumerate"=none) (ha:PA X [a] ta) (hs:starEach [a] X.env=[(false,eval a X.env)]:=by rfl):PI X (.Tuple es k tp) (.Call (.Name "enumerate" p) [a] [] pos) (iEnum X.K ta):=by
 intro pins s σ H R I h
 refine Call_ (u6s I hg hm (show bootBuiltins "enumerate"=some (.type "enumerate") by decide +kernel) (PyProof.Rows.callWith_type1 (thn (ha pos pins s σ H _ I h) λus s1 ⟨vs,H1,I1,r1,q1⟩=>?_) hs rfl))
 obtain⟨a',xs,e,hq,q⟩:=q1
 subst e
 obtain⟨u,rfl,ru⟩:=vals1 r1
 cases ru
 obtain⟨its,rv,pl,hz⟩:=I1.list hq
 refine call_enumerate_list pl.isList λh' en li hsz kk=>?_
 refine wpAny_pyIter_enum en ?_
 have hne:s1.heap.objs.size+1≠s1.heap.objs.size:=Nat.succ_ne_self _
 refine⟨s1.heap.objs.size+1,[s1.heap.objs.size+1,s1.heap.objs.size],_,Ite X.K a',H1,rfl,I1.kept (t':=s1.toks) kk,v1K a' _ _ hne,⟨⟨_,en⟩,li⟩,λb hb=>?_,q⟩
 have hb':s1.heap.objs.size<=b:=by
  rcases z8.mp hb with rfl|hb
  ·exact Nat.le_succ _
  ·have e:b=s1.heap.objs.size:=by simpa using hb
   rw[e];exact y7 _
 exact I1.fpOk hb' (I1.hok.fresh hb')
end
def un5 {α β γ:Type}{p q:α->β->γ->Prop}{r:Prop} (h:∃a b c,p a b c/\q a b c) (k:∀a b c,p a b c->q a b c->r):r:=by obtain⟨a,b,c,x,y⟩:=h;exact k a b c x y
inductive DK where
 | i (n:Int)|s (z:Str)|t (ks:List DK)
noncomputable instance:DecidableEq DK:=λa b=>_root_.Classical.propDecidable (a=b)
inductive D where
 | non|bl (b:Bool)|int (i:Int)|str (z:Str)|ty (T:String)
 | lst (ds:List D)|tup (ds:List D)|dct (kvs:List (D×D))|ins (C:Addr) (fs:List (Str×D))|exc (C:Addr) (fs:List (Str×D))|dn (hs:List DK->Int) (kvs:List (List DK×D))
inductive Res (α:Type) where
 | ok (a:α)|err (x:D)|bad
namespace Res
noncomputable def bind {α β:Type}:Res α->(α->Res β)->Res β
 | .ok a,f=>f a
 | .err x,_=>.err x
 | .bad,_=>.bad
def all {α:Type} (r:Res α) (P:α->Prop) (E:D->Prop):Prop:=match r with
 | .ok a=>P a
 | .err x=>E x
 | .bad=>False
@[simp] theorem _root_.L2.zb {α β:Type} (a:α) (f:α->Res β):(Res.ok a).bind f=f a:=rfl
@[simp] theorem bind_err {α β:Type} (x:D) (f:α->Res β):(Res.err x).bind f=.err x:=rfl
@[simp] theorem bind_bad {α β:Type} (f:α->Res β):Res.bad.bind f=.bad:=rfl
def all_bind {α β:Type}{r:Res α}{f:α->Res β}{P:β->Prop}:(r.bind f).all P E↔r.all (λa=>(f a).all P E) E:=by
 cases r<;>exact Iff.rfl
def all_mono {α:Type}{r:Res α}{P Q:α->Prop} (h:r.all P E) (p:∀a,P a->Q a) (e:∀x,E x->F x):r.all Q F:=by
 cases r with
 | ok a=>exact p a h
 | err x=>exact e x h
 | bad=>exact h
end Res
noncomputable def kD:Key->D
 | .inl i=>.int i
 | .inr z=>.str z
mutual
noncomputable def DK.toD:DK->D
 | .i n=>.int n
 | .s z=>.str z
 | .t ks=>.tup (DK.toDs ks)
noncomputable def DK.toDs:List DK->List D
 | []=>[]
 | k::ks=>k.toD::DK.toDs ks
end
mutual
noncomputable def DK.py:DK->PyData
 | .i n=>.int n
 | .s z=>.str z
 | .t ks=>.tuple (DK.pys ks)
noncomputable def DK.pys:List DK->List PyData
 | []=>[]
 | k::ks=>k.py::DK.pys ks
end
mutual
noncomputable def DK.dep:DK->Nat
 | .i _=>0
 | .s _=>0
 | .t ks=>DK.deps ks+1
noncomputable def DK.deps:List DK->Nat
 | []=>0
 | k::ks=>max k.dep (DK.deps ks)
end
noncomputable def okK (k:List DK):Bool:=decide ((DK.t k).dep<=8)&&SeqAt.shaped (DK.t k).py
noncomputable def NDO (a:Addr) (hs:List DK->Int) (xs:List (List DK×Addr×Value)):HO:=.ext λh=>∃o es ep,h.get? a=some o/\o.ExactDict/\o.data=.dict es ep/\es.toList=xs.map (λx=>⟨hs x.1,.ref x.2.1,x.2.2⟩)/\(xs.map (·.1)).Nodup/\xs.length<=sizeLine/\(a==sysModules)=false
mutual
inductive Rp (K:W.Frag) (H:Hp):V->D->Prop
 | non:Rp K H .non .non
 | bl (b:Bool):Rp K H (.bl b) (.bl b)
 | int (i:Int):Rp K H (.int i) (.int i)
 | str {z:Str} (h:z.length<=sizeLine):Rp K H (.str z) (.str z)
 | ty (T:String):Rp K H (.ty T) (.ty T)
 | lst {a:Addr}{xs:List V}{ds:List D}:Rd H a (.lst xs)->Rps K H xs ds->Rp K H (.ref a) (.lst ds)
 | tup {a:Addr}{xs:List V}{ds:List D}:SqT K H a xs->Rps K H xs ds->Rp K H (.ref a) (.tup ds)
 | dK {a:Addr}{kvs:List (Key×V)}{ps:List (D×D)}:H a=some (.dK kvs)->Rpk K H kvs ps->Rp K H (.ref a) (.dct ps)
 | ins {a C dx:Addr}{fs:List (Str×V)}{gs:List (Str×D)}:H a=some (.ins C dx fs)->Rpf K H fs gs->Rp K H (.ref a) (.ins C gs)
 | exc {a C dx:Addr}{fs:List (Str×V)}{gs:List (Str×D)}:H a=some (XO C (some dx) a)->H dx=some (DXO dx fs)->Rpf K H fs gs->Rp K H (.ref a) (.exc C gs)
 | dn {a:Addr}{hs:List DK->Int}{xs:List (List DK×Addr×Value)}{kvs:List (List DK×D)}:H a=some (NDO a hs xs)->Rpn K H xs kvs->Rp K H (.ref a) (.dn hs kvs)
inductive Rps (K:W.Frag) (H:Hp):List V->List D->Prop
 | nil:Rps K H [] []
 | cons {x:V}{d:D}{xs:List V}{ds:List D}:Rp K H x d->Rps K H xs ds->Rps K H (x::xs) (d::ds)
inductive Rpk (K:W.Frag) (H:Hp):List (Key×V)->List (D×D)->Prop
 | nil:Rpk K H [] []
 | cons {k:Key}{x:V}{d:D}{xs:List (Key×V)}{ds:List (D×D)}:Rp K H x d->Rpk K H xs ds->Rpk K H ((k,x)::xs) ((kD k,d)::ds)
inductive Rpf (K:W.Frag) (H:Hp):List (Str×V)->List (Str×D)->Prop
 | nil:Rpf K H [] []
 | cons {k:Str}{x:V}{d:D}{xs:List (Str×V)}{ds:List (Str×D)}:Rp K H x d->Rpf K H xs ds->Rpf K H ((k,x)::xs) ((k,d)::ds)
inductive Rpn (K:W.Frag) (H:Hp):List (List DK×Addr×Value)->List (List DK×D)->Prop
 | nil:Rpn K H [] []
 | cons {k:List DK}{q:Addr}{u:Value}{x:V}{d:D}{xs:List (List DK×Addr×Value)}{ds:List (List DK×D)}:okK k=true->Rp K H (.ref q) (DK.t k).toD->RelV x u->Rp K H x d->Rpn K H xs ds->Rpn K H ((k,q,u)::xs) ((k,d)::ds)
end
section
variable {K:W.Frag}{H H':Hp}
def Rd.same (e:Same H H') (h:Rd H a u):Rd H' a u:=by
 rcases h with h|⟨o,h⟩
 ·exact .inl (e _ _ h)
 ·exact .inr ⟨o,e _ _ h⟩
mutual
theorem Rp.same (e:Same H H'):∀{x:V}{d:D},Rp K H x d->Rp K H' x d
 | _,_,.non=>.non
 | _,_,.bl b=>.bl b
 | _,_,.int i=>.int i
 | _,_,.str h=>.str h
 | _,_,.ty T=>.ty T
 | _,_,.lst hq hs=>.lst (hq.same e) (Rps.same e hs)
 | _,_,.tup hq hs=>.tup (e.seqT hq) (Rps.same e hs)
 | _,_,.dK hq hs=>.dK (e _ _ hq) (Rpk.same e hs)
 | _,_,.ins hq hs=>.ins (e _ _ hq) (Rpf.same e hs)
 | _,_,.exc hq hr hs=>.exc (e _ _ hq) (e _ _ hr) (Rpf.same e hs)
 | _,_,.dn hq hs=>.dn (e _ _ hq) (Rpn.same e hs)
theorem Rps.same (e:Same H H'):∀{x:List V}{d:List D},Rps K H x d->Rps K H' x d
 | _,_,.nil=>.nil
 | _,_,.cons h hs=>.cons (Rp.same e h) (Rps.same e hs)
theorem Rpk.same (e:Same H H'):∀{x:List (Key×V)}{d:List (D×D)},Rpk K H x d->Rpk K H' x d
 | _,_,.nil=>.nil
 | _,_,.cons h hs=>.cons (Rp.same e h) (Rpk.same e hs)
theorem Rpf.same (e:Same H H'):∀{x:List (Str×V)}{d:List (Str×D)},Rpf K H x d->Rpf K H' x d
 | _,_,.nil=>.nil
 | _,_,.cons h hs=>.cons (Rp.same e h) (Rpf.same e hs)
theorem Rpn.same (e:Same H H'):∀{x:List (List DK×Addr×Value)}{d:List (List DK×D)},Rpn K H x d->Rpn K H' x d
 | _,_,.nil=>.nil
 | _,_,.cons o h r h2 hs=>.cons o (Rp.same e h) r (Rp.same e h2) (Rpn.same e hs)
end
theorem Rps.length:∀{xs:List V}{ds:List D},Rps K H xs ds->xs.length=ds.length
 | _,_,.nil=>rfl
 | _,_,.cons _ hs=>congrArg (·+1) hs.length
theorem Rps.get:∀{xs:List V}{ds:List D}{i:Nat}{d:D},Rps K H xs ds->ds[i]?=some d->∃x,xs[i]?=some x/\Rp K H x d
 | _,_,0,_,.cons h _,e=>by cases e;exact⟨_,rfl,h⟩
 | _,_,i+1,_,.cons _ hs,e=>hs.get (i:=i) (by simpa using e)
theorem Rps.append:∀{xs ys:List V}{ds es:List D},Rps K H xs ds->Rps K H ys es->Rps K H (xs++ys) (ds++es)
 | _,_,_,_,.nil,h=>h
 | _,_,_,_,.cons h hs,h'=>.cons h (hs.append h')
theorem Rps.take:∀{xs:List V}{ds:List D} (n:Nat),Rps K H xs ds->Rps K H (xs.take n) (ds.take n)
 | _,_,0,_=>by simpa using Rps.nil
 | _,_,_+1,.nil=>by simpa using Rps.nil
 | _,_,n+1,.cons h hs=>by simpa using Rps.cons h (hs.take n)
theorem Rps.drop:∀{xs:List V}{ds:List D} (n:Nat),Rps K H xs ds->Rps K H (xs.drop n) (ds.drop n)
 | _,_,0,h=>h
 | _,_,_+1,.nil=>by simpa using Rps.nil
 | _,_,n+1,.cons _ hs=>by simpa using hs.drop n
theorem Rps.rep {xs:List V}{ds:List D} (h:Rps K H xs ds):∀n:Nat,Rps K H (List.replicate n xs).flatten (List.replicate n ds).flatten
 | 0=>.nil
 | n+1=>by simpa[List.replicate_succ] using h.append (h.rep n)
theorem Rpf.lookup:∀{fs:List (Str×V)}{gs:List (Str×D)}{f:Str}{d:D},Rpf K H fs gs->gs.lookup f=some d->∃v,fs.lookup f=some v/\Rp K H v d
 | _,_,f,d,.cons (k:=k) h hs,e=>by
  rw[z0J] at e |-
  cases q:f==k with
  | true=>rw[q] at e;cases e;exact⟨_,rfl,h⟩
  | false=>rw[q] at e;exact hs.lookup e
end
structure Stp (F H F' H':Hp):Prop where
 ff:Same F F'
 fh:Same F' H'
 hh:Same H H'
 no:∀a,F a=none->H a≠none->F' a=none
section
variable {F H F' H' F'' H'':Hp}{a:Addr}{o:HO}
theorem Stp.refl (h:Same F H):Stp F H F H:=⟨Same.refl F,h,Same.refl H,λ_ q _=>q⟩
def u2R (e:Same H H') (h:H a≠none):H' a≠none:=by
 intro q
 cases z:H a with
 | none=>exact h z
 | some o=>rw[e a o z] at q;cases q
theorem Stp.trans (x:Stp F H F' H') (y:Stp F' H' F'' H''):Stp F H F'' H'' :=
 ⟨x.ff.trans y.ff,y.fh,x.hh.trans y.hh,λa q r=>y.no a (x.no a q r) (u2R x.hh r)⟩
def v3x (h:Same F H):Same (upd F a o) (upd H a o):=λb u e=>by
 unfold upd at e |-
 by_cases q:b=a
 ·rw[if_pos q] at e |-;exact e
 ·rw[if_neg q] at e |-;exact h b u e
def u0p (h:F a=none):Same F (upd F a o):=λb u e=>by
 unfold upd
 by_cases q:b=a
 ·subst q;rw[h] at e;cases e
 ·rw[if_neg q];exact e
def Stp.new (h:Same F H) (n:H a=none):Stp F H (upd F a o) (upd H a o) :=
 ⟨u0p (h.free n),v3x h,u0p n,λb q r=>by
  unfold upd
  by_cases z:b=a
  ·subst z;exact absurd n r
  ·rw[if_neg z];exact q⟩
def Stp.only (h:Same F H) (e:Same H H'):Stp F H F H':=⟨Same.refl F,h.trans e,e,λ_ q _=>q⟩
end
inductive OD where
 | l (ds:List D)|d (kvs:List (D×D))|i (a C:Addr) (gs:List (Str×D))|n (hs:List DK->Int) (kvs:List (List DK×D))|p (a:Addr) (o:OD)
noncomputable def OD.toD:OD->D
 | .l ds=>.lst ds
 | .d kvs=>.dct kvs
 | .i _ C gs=>.ins C gs
 | .n hs kvs=>.dn hs kvs
 | .p _ o=>o.toD
inductive Ro (K:W.Frag) (F:Hp) (a:Addr):HO->OD->Prop
 | l {xs:List V}{ds:List D}:Rps K F xs ds->Ro K F a (.lst xs) (.l ds)
 | d {kvs:List (Key×V)}{ps:List (D×D)}:Rpk K F kvs ps->Ro K F a (.dK kvs) (.d ps)
 | i {C dx:Addr}{fs:List (Str×V)}{gs:List (Str×D)}:Rpf K F fs gs->Ro K F a (.ins C dx fs) (.i a C gs)
 | n {hs:List DK->Int}{xs:List (List DK×Addr×Value)}{kvs:List (List DK×D)}:Rpn K F xs kvs->Ro K F a (NDO a hs xs) (.n hs kvs)
 | p {h:HO}{o:OD}:Ro K F a h o->Ro K F a h (.p a o)
theorem Ro.same {K:W.Frag}{F F':Hp}{a:Addr} (e:Same F F') {h:HO}{o:OD} (r:Ro K F a h o):Ro K F' a h o:=by
 induction r with
 | l r=>exact .l (Rps.same e r)
 | d r=>exact .d (Rpk.same e r)
 | i r=>exact .i (Rpf.same e r)
 | n r=>exact .n (Rpn.same e r)
 | p _ ih=>exact .p ih
def Ro.rp {K:W.Frag}{F:Hp}{a:Addr}{h:HO}{o:OD} (r:Ro K F a h o) (e:F a=some h):Rp K F (.ref a) o.toD:=by
 induction r with
 | l r=>exact .lst (.inl e) r
 | d r=>exact .dK e r
 | i r=>exact .ins e r
 | n r=>exact .dn e r
 | p _ ih=>exact ih e
inductive Sl where
 | val (d:D)|own (o:OD)
abbrev Rho:=List (Option Sl)
structure Rel (K:W.Frag) (B:Hp×Hp) (ρ:Rho) (σ:St) (F H:Hp):Prop where
 st:Stp B.1 B.2 F H
 len:σ.length=ρ.length
 val:∀(i:Nat) d,ρ[i]?=some (some (.val d))->∃v,σ[i]?=some (some v)/\Rp K F v d
 own:∀(i:Nat) o,ρ[i]?=some (some (.own o))->∃a h,σ[i]?=some (some (.ref a))/\F a=none/\B.2 a=none/\H a=some h/\Ro K F a h o
 dis:∀(i j:Nat) o u a,ρ[i]?=some (some (.own o))->ρ[j]?=some (some (.own u))->σ[i]?=some (some (.ref a))->σ[j]?=some (some (.ref a))->i=j
noncomputable def frzS:Sl->Sl
 | .val d=>.val d
 | .own o=>.val o.toD
noncomputable def frz (ρ:Rho):Rho:=ρ.map (Option.map frzS)
section
variable {K:W.Frag}{B:Hp×Hp}{ρ:Rho}{σ:St}{F H F' H':Hp}
theorem Rel.fh (r:Rel K B ρ σ F H):Same F H:=r.st.fh
def Rel.step (r:Rel K B ρ σ F H) (s:Stp F H F' H'):Rel K B ρ σ F' H' where
 st:=r.st.trans s
 len:=r.len
 val i d e:=let ⟨v,h1,h2⟩:=r.val i d e;⟨v,h1,h2.same s.ff⟩
 own i o e:=let ⟨a,h,h1,h2,h3,h4,h5⟩:=r.own i o e;⟨a,h,h1,s.no a h2 (by rw[h4];simp),h3,s.hh a h h4,Ro.same s.ff h5⟩
 dis:=r.dis
def u4o {i:Nat}{x:Sl} (h:(frz ρ)[i]?=some (some x)):∃y,ρ[i]?=some (some y)/\x=frzS y:=by
 unfold frz at h
 rw[v7] at h
 cases q:ρ[i]? with
 | none=>rw[q] at h;cases h
 | some z =>
  rw[q] at h
  cases z with
  | none=>simp at h
  | some y=>simp at h;exact⟨y,rfl,h.symm⟩
open Classical in
theorem Rel.frz (r:Rel K B ρ σ F H):∃F',Same F F'/\Rel K B (frz ρ) σ F' H:=by
 let T:Addr->Prop:=λa=>∃(i:Nat) (o:OD),ρ[i]?=some (some (.own o))/\σ[i]?=some (some (.ref a))
 let F':Hp:=λa=>if T a then H a else F a
 have hT:∀a,T a->F a=none/\B.2 a=none:=λa ⟨i,o,e,q⟩=>by
  obtain⟨b,h,h1,h2,h3,_⟩:=r.own i o e
  rw[q] at h1;cases h1;exact⟨h2,h3⟩
 have e1:Same F F':=λa o e=>by
  show(if T a then H a else F a)=some o
  by_cases q:T a
  ·rw[(hT a q).1] at e;cases e
  ·rw[if_neg q];exact e
 have e2:Same F' H:=λa o e=>by
  have e':(if T a then H a else F a)=some o:=e
  by_cases q:T a
  ·rw[if_pos q] at e';exact e'
  ·rw[if_neg q] at e';exact r.fh a o e'
 refine⟨F',e1,⟨⟨r.st.ff.trans e1,e2,r.st.hh,λa q z=>?_⟩,?_,?_,?_,?_⟩⟩
 ·show (if T a then H a else F a)=none
  by_cases t:T a
  ·exact absurd (hT a t).2 z
  ·rw[if_neg t];exact r.st.no a q z
 ·rw[r.len];unfold L2.frz;simp
 ·intro i d e
  obtain⟨y,h1,h2⟩:=u4o e
  cases y with
  | val d'=>cases h2;obtain⟨v,q1,q2⟩:=r.val i d h1;exact⟨v,q1,q2.same e1⟩
  | own o =>
   cases h2
   obtain⟨a,h,q1,q2,q3,q4,q5⟩:=r.own i o h1
   have t:T a:=⟨i,o,h1,q1⟩
   exact⟨.ref a,q1,Ro.rp (Ro.same e1 q5) (show(if T a then H a else F a)=some h by rw[if_pos t];exact q4)⟩
 ·intro i o e
  obtain⟨y,h1,h2⟩:=u4o e
  cases y<;>cases h2
 ·intro i j o u a e
  obtain⟨y,h1,h2⟩:=u4o e
  cases y<;>cases h2
def u1d {α:Type}{l:List α}{x y:α} (h:(l.set i x)[j]?=some y):(j=i/\i<l.length/\y=x)\/(j≠i/\l[j]?=some y):=by
 rw[z2G] at h
 by_cases q:i=j
 ·rw [if_pos q] at h
  by_cases z:i<l.length
  ·rw[if_pos z] at h;exact .inl ⟨q.symm,z,(Option.some.inj h).symm⟩
  ·rw[if_neg z] at h;cases h
 ·rw[if_neg q] at h;exact .inr ⟨λe=>q e.symm,h⟩
def u9I {α:Type}{l:List α}{x:α} (h:i<l.length):(l.set i x)[i]?=some x:=by simp[h]
def u1j {α:Type}{l:List α}{x:α} (h:j≠i):(l.set i x)[j]?=l[j]?:=by rw[z2G,if_neg (λe=>h e.symm)]
theorem Rel.set (r:Rel K B ρ σ F H) (h:Rp K F v d):Rel K B (ρ.set i (some (.val d))) (σ.set i (some v)) F H where
 st:=r.st
 len:=by simp[r.len]
 val j d' e:=by
  rcases u1d e with⟨rfl,q,z⟩|⟨q,z⟩
  ·cases z;exact⟨v,u9I (r.len ▸ q),h⟩
  ·rw[u1j q];exact r.val j d' z
 own j o e:=by
  rcases u1d e with⟨rfl,q,z⟩|⟨q,z⟩
  ·cases z
  ·rw[u1j q];exact r.own j o z
 dis j k o u a e e':=by
  rcases u1d e with⟨rfl,q,z⟩|⟨q,z⟩
  ·cases z
  ·rcases u1d e' with ⟨rfl,q',z'⟩ | ⟨q',z'⟩
   ·cases z'
   ·rw[u1j q,u1j q'];exact r.dis j k o u a z z'
def Rel.setOwn (r:Rel K B ρ σ F H) (h1:F a=none) (h2:B.2 a=none) (h3:H a=some h) (h4:Ro K F a h o)
 (hd:∀(j:Nat) u,ρ[j]?=some (some (.own u))->σ[j]?≠some (some (.ref a))):Rel K B (ρ.set i (some (.own o))) (σ.set i (some (.ref a))) F H where
 st:=r.st
 len:=by simp[r.len]
 val j d' e:=by
  rcases u1d e with⟨rfl,q,z⟩|⟨q,z⟩
  ·cases z
  ·rw[u1j q];exact r.val j d' z
 own j u e:=by
  rcases u1d e with⟨rfl,q,z⟩|⟨q,z⟩
  ·cases z;exact⟨a,h,u9I (r.len ▸ q),h1,h2,h3,h4⟩
  ·rw[u1j q];exact r.own j u z
 dis j k u u' b e e':=by
  rcases u1d e with⟨rfl,q,z⟩|⟨q,z⟩
  ·rcases u1d e' with ⟨rfl,q',z'⟩ | ⟨q',z'⟩
   ·intro _ _;rfl
   ·rw [u1j q',u9I (r.len ▸ q)]
    intro x y;cases x;exact absurd y (hd k u' z')
  ·rcases u1d e' with ⟨rfl,q',z'⟩ | ⟨q',z'⟩
   ·rw [u1j q,u9I (r.len ▸ q')]
    intro x y;cases y;exact absurd x (hd j u z)
   ·rw[u1j q,u1j q'];exact r.dis j k u u' b z z'
def Rel.write (r:Rel K B ρ σ F H) (e:ρ[i]?=some (some (.own o))) (hs:σ[i]?=some (some (.ref a))) (h4:Ro K F a h' o') :
 Rel K B (ρ.set i (some (.own o'))) σ F (upd H a h'):=by
 obtain⟨b,h,q1,q2,q3,q4,q5⟩:=r.own i o e
 rw[hs] at q1;cases q1
 have e1:∀G:Hp,G a=none->Same G H->Same G (upd H a h'):=λG n s b u x=>by
  unfold upd
  by_cases z:b=a
  ·subst z;rw[n] at x;cases x
  ·rw[if_neg z];exact s b u x
 refine⟨⟨r.st.ff,e1 F q2 r.fh,e1 B.2 q3 r.st.hh,r.st.no⟩,by simp[r.len],?_,?_,?_⟩
 ·intro j d x
  rcases u1d x with⟨rfl,q,z⟩|⟨q,z⟩
  ·cases z
  ·exact r.val j d z
 ·intro j u x
  rcases u1d x with⟨rfl,q,z⟩|⟨q,z⟩
  ·cases z;exact⟨a,h',hs,q2,q3,u0j,h4⟩
  ·obtain ⟨c,g,p1,p2,p3,p4,p5⟩:=r.own j u z
   have ne:c≠a:=λw=>q (by subst w;exact r.dis j i u o c z e p1 hs)
   exact⟨c,g,p1,p2,p3,by rw[u0o ne];exact p4,p5⟩
 ·intro j k u u' c x y
  have f:∀(m:Nat) w,(ρ.set i (some (Sl.own o')))[m]?=some (some (.own w))->∃w',ρ[m]?=some (some (.own w')):=λm w p=>by
   rcases u1d p with⟨rfl,_,_⟩|⟨_,z⟩
   ·exact⟨o,e⟩
   ·exact⟨w,z⟩
  obtain⟨w1,z1⟩:=f j u x
  obtain⟨w2,z2⟩:=f k u' y
  exact r.dis j k w1 w2 c z1 z2
end
abbrev XQ:=V->St->Hp->Prop
def frz_frz (ρ:Rho):frz (frz ρ)=frz ρ:=by
 unfold frz
 rw[z2J]
 congr 1
 funext x
 cases x with
 | none=>rfl
 | some y=>cases y<;>rfl
def ErrK (K:W.Frag) (xq:XQ) (B:Hp×Hp) (ρ:Rho) (σ:St) (x:D):Prop:=∀v F' H',Rel K B (frz ρ) σ F' H'->Rp K F' v x->xq v σ H'
def liftE (K:W.Frag) (xq:XQ) (f:Rho->Res D):TE:=λσ H Q=>∃B F ρ,Rel K B ρ σ F H /\
 (f ρ).all (λd=>∀v F' H',Stp F H F' H'->Rp K F' v d->Q v H') (ErrK K xq B ρ σ)
def liftA (K:W.Frag) (xq:XQ) (f:Rho->Res (List D)):TA:=λσ H Q=>∃B F ρ,Rel K B ρ σ F H /\
 (f ρ).all (λds=>∀vs F' H',Stp F H F' H'->Rps K F' vs ds->Q vs H') (ErrK K xq B ρ σ)
def liftT (K:W.Frag) (xq:XQ) (f:Rho->Res Bool):TT:=λσ H Q=>∃B F ρ,Rel K B ρ σ F H /\
 (f (frz ρ)).all (λb=>∀H',Stp F H F H'->Q b H') (ErrK K xq B ρ σ)
def liftN (K:W.Frag) (xq:XQ) (f:Rho->Res OD):TE:=λσ H Q=>∃B F ρ,Rel K B ρ σ F H /\
 (f ρ).all (λo=>∀a h F' H',Stp F H F' H'->F' a=none->H a=none->H' a=some h->Ro K F' a h o->Q (.ref a) H') (ErrK K xq B ρ σ)
abbrev FD:=List D->Res D
structure DE (X:Cx) (xq:XQ) (e:Expr) (f:Rho->Res D):Prop where
 out:PE X e (liftE X.K xq f)
structure DN (X:Cx) (xq:XQ) (e:Expr) (f:Rho->Res OD):Prop where
 out:PE X e (liftN X.K xq f)
structure DT (X:Cx) (xq:XQ) (e:Expr) (f:Rho->Res Bool):Prop where
 out:PT X e (liftT X.K xq f)
structure DW (X:Cx) (xq:XQ) (e:Expr) (f:Rho->Res Bool):Prop where
 out:PW X e (liftT X.K xq f)
structure DA (X:Cx) (xq:XQ) (es:List Expr) (f:Rho->Res (List D)):Prop where
 out:PA X es (liftA X.K xq f)
 ns:es.all notStar=true
def rD (K:W.Frag) (g:D->D->Res D):R2:=λx y H Q=>∃F dx dy,Same F H/\Rp K F x dx/\Rp K F y dy/\(g dx dy).all (λd=>∀v F' H',Stp F H F' H'->Rp K F' v d->Q v H') (λ_=>False)
def rDs (K:W.Frag) (g:FD):List V->Hp->VK->Prop:=λxs H Q=>∃F ds,Same F H/\Rps K F xs ds/\(g ds).all (λd=>∀v F' H',Stp F H F' H'->Rp K F' v d->Q v H') (λ_=>False)
section
variable {K:W.Frag}{xq:XQ}{B:Hp×Hp}{ρ:Rho}{σ:St}{F H F' H':Hp}{x:D}
def seqE {α:Type}{g:D->Res α}{P:α->Prop} (R:Rel K B ρ σ F H) (h:((fa ρ).bind g).all P (ErrK K xq B ρ σ))
 (k:∀d v F' H',Stp F H F' H'->Rel K B ρ σ F' H'->Rp K F' v d->(g d).all P (ErrK K xq B ρ σ)->T v H'):liftE K xq fa σ H T :=
 ⟨B,F,ρ,R,Res.all_mono (Res.all_bind.mp h) (λd h' v F' H' s p=>k d v F' H' s (R.step s) p h') (λ_ e=>e)⟩
def seqA {α:Type}{g:List D->Res α}{P:α->Prop} (R:Rel K B ρ σ F H) (h:((fa ρ).bind g).all P (ErrK K xq B ρ σ))
 (k:∀d v F' H',Stp F H F' H'->Rel K B ρ σ F' H'->Rps K F' v d->(g d).all P (ErrK K xq B ρ σ)->T v H'):liftA K xq fa σ H T :=
 ⟨B,F,ρ,R,Res.all_mono (Res.all_bind.mp h) (λd h' v F' H' s p=>k d v F' H' s (R.step s) p h') (λ_ e=>e)⟩
end
noncomputable def noE {α:Type}:Res α->Res α
 | .err _=>.bad
 | r=>r
section
variable {K:W.Frag}{xq:XQ}{B:Hp×Hp}{ρ:Rho}{σ:St}{F H F' H':Hp}{x:D}
def doneN {r:Res D}{Q:VK}{E:D->Prop}{F0 H0:Hp} (s:Stp F0 H0 F H) (h:(noE r).all (λd=>∀v F' H',Stp F0 H0 F' H'->Rp K F' v d->Q v H') E) :
  r.all (λd=>∀v F' H',Stp F H F' H'->Rp K F' v d->Q v H') (λ_=>False):=by
 cases r with
 | ok d=>exact λv F' H' s' p=>h v F' H' (s.trans s') p
 | err x=>exact h
 | bad=>exact h
end
noncomputable def getV (ρ:Rho) (i:Nat):Res D:=match ρ[i]? with
 | some (some (.val d))=>.ok d
 | _=>.bad
set_option tactic.hygienic true in
def getV_ok (h:(getV ρ i).all P E):∃d,ρ[i]?=some (some (.val d))/\P d:=by
 unfold getV at h
 split at h
 ·rename_i d e;exact⟨d,e,h⟩
 ·exact h.elim
section
variable {X:Cx}{xq:XQ}{a b c e o:Expr}{es rest:List Expr}{fa fb fc fe:Rho->Res D}{fA fB:Rho->Res Bool}{fs:Rho->Res (List D)}{pos pos' p apos cpos:Pos}{x name:Str}
def DE.of (h:PE X e t) (k:∀B F ρ σ H Q,Rel X.K B ρ σ F H->(fe ρ).all (λd=>∀v F' H',Stp F H F' H'->Rp X.K F' v d->Q v H') (ErrK X.K xq B ρ σ)->t σ H Q):DE X xq e fe :=
 ⟨λpins s σ H Q I z9=>un5 z9 λB F ρ R q=>h pins s σ H Q I (k B F ρ σ H Q R q)⟩
def DT.of (h:PT X e t) (k:∀B F ρ σ H Q,Rel X.K B ρ σ F H->(fA (frz ρ)).all (λb=>∀H',Stp F H F H'->Q b H') (ErrK X.K xq B ρ σ)->t σ H Q):DT X xq e fA :=
 ⟨λpins s σ H Q I z9=>un5 z9 λB F ρ R q=>h pins s σ H Q I (k B F ρ σ H Q R q)⟩
def d_C (h:PE X e (tC v)) (p:∀F,Rp X.K F v d):DE X xq e (λ_=>.ok d):=DE.of h λB F ρ σ H Q R q=>q v F H (Stp.refl R.fh) (p F)
def u0c {i j pos}:DE X xq (.Constant (.int i) j pos) (λ_=>.ok (.int i)):=d_C v4v λ_=>.int i
def d_bl {i j pos}:DE X xq (.Constant (.bool i) j pos) (λ_=>.ok (.bl i)):=d_C pe_bl λ_=>.bl i
def u2j {j pos}:DE X xq (.Constant .none j pos) (λ_=>.ok .non):=d_C pe_non λ_=>.non
def u0i {j pos} (h:z.length<=sizeLine:=by decide):DE X xq (.Constant (.str z) j pos) (λ_=>.ok (.str z)):=d_C u9M λ_=>.str h
def dv (i:Nat) (hN:X.N[i]?=some x:=by rfl) (hv:Vis X.env.scope x:=by first|exact Or.inl rfl|exact Or.inr (Or.inl rfl)|exact Or.inr (Or.inr rfl)) (hd:(x==("__debug__":Str))=false:=by decide)
 (hcd:(x==("__classdict__":Str))=false:=by decide):DE X xq (.Name x pos) (λρ=>getV ρ i) :=
 DE.of (u3m hN hv hd hcd) λB F ρ σ H Q R q=>by
  obtain⟨d,e,h⟩:=getV_ok q
  obtain⟨v,h1,h2⟩:=R.val i d e
  exact⟨v,h1,h v F H (Stp.refl R.fh) h2⟩
def GloD (K:W.Frag) (mg:MG) (x:Str) (d:D):Prop:=∃v,Glo mg x v/\∀F,Rp K F v d
def u3W {mg:MG}{K:W.Frag}{d:D} (h:GloD K mg x d) (hg:Gl X x:=by rfl) (em:X.mg=mg:=by rfl) (eK:X.K=K:=by rfl) (hd:(x==("__debug__":Str))=false:=by decide):DE X xq (.Name x pos) (λ_=>.ok d):=by
 obtain⟨v,h1,h2⟩:=h
 subst eK
 exact d_C (v4w h1 hg em hd) h2
def d_ty (hm:X.mg x=none) (hv:bootBuiltins x=some (.type T)) (hg:Gl X x:=by rfl) (hn:x≠"__name__":=by decide) (hd:(x==("__debug__":Str))=false:=by decide):DE X xq (.Name x pos) (λ_=>.ok (.ty T)) :=
 d_C (v:=.ty T) (pe_bltn hg hm hv rfl hn hd) λ_=>.ty T
def d_op (ho:OpR X (binaryOp op) (rD X.K g)) (ha:DE X xq a fa) (hb:DE X xq b fb):DE X xq (.BinOp a op b pos) (λρ=>(fa ρ).bind λx=>(fb ρ).bind λy=>noE (g x y)) :=
 DE.of (pe_op ho ha.out hb.out) λB F ρ σ H Q R q=>seqE R q λd v F1 H1 s1 R1 p1 q1=>seqE R1 q1 λd2 v2 F2 H2 s2 R2 p2 q2 =>
  ⟨F2,d,d2,R2.fh,p1.same s2.ff,p2,doneN (s1.trans s2) q2⟩
def u2I (ho:OpR X (compareOp op) (rD X.K g)) (ha:DE X xq a fa) (hb:DE X xq b fb) (hm:behindInMarks op b=false:=by first|exact nomark _|with_unfolding_all rfl) :
 DE X xq (.Compare a [op] [b] pos) (λρ=>(fa ρ).bind λx=>(fb ρ).bind λy=>noE (g x y)) :=
 DE.of (pe_cmpR ho ha.out hb.out hm) λB F ρ σ H Q R q=>seqE R q λd v F1 H1 s1 R1 p1 q1=>seqE R1 q1 λd2 v2 F2 H2 s2 R2 p2 q2 =>
  ⟨F2,d,d2,R2.fh,p1.same s2.ff,p2,doneN (s1.trans s2) q2⟩
def d_ix (ho:IxR X (rD X.K g)) (ha:DE X xq a fa) (hb:DE X xq b fb) (hs:PlainIx b:=by intro _ _;rfl):DE X xq (.Subscript a b pos) (λρ=>(fa ρ).bind λx=>(fb ρ).bind λy=>noE (g x y)) :=
 DE.of (pe_ix ho ha.out hb.out hs) λB F ρ σ H Q R q=>seqE R q λd v F1 H1 s1 R1 p1 q1=>seqE R1 q1 λd2 v2 F2 H2 s2 R2 p2 q2 =>
  ⟨F2,d,d2,R2.fh,p1.same s2.ff,p2,doneN (s1.trans s2) q2⟩
noncomputable def asB:D->Res Bool
 | .bl b=>.ok b
 | _=>.bad
def u6F (h:(asB d).all P E):∃b,d=.bl b/\P b:=by
 cases d<;>first|exact h.elim|exact⟨_,rfl,h⟩
def Rp.blI {K:W.Frag}{F:Hp}{v:V}{b:Bool} (h:Rp K F v (.bl b)):v=.bl b:=by cases h;rfl
noncomputable def fChain (g g':D->D->Res D) (x y:D) (z:Res D):Res D:=(noE (g x y)).bind λw=>(asB w).bind λc=>if c=true then z.bind λz=>noE (g' y z) else .ok (.bl false)
def v2Y (ho:OpR X (compareOp op) (rD X.K g)) (ho':OpR X (compareOp op') (rD X.K g')) (ha:DE X xq a fa) (hb:DE X xq b fb) (hc:DE X xq c fc)
 (hm:lastMarks [op,op'] [b,c]=false:=by with_unfolding_all rfl):DE X xq (.Compare a [op,op'] [b,c] pos) (λρ=>(fa ρ).bind λx=>(fb ρ).bind λy=>fChain g g' x y (fc ρ)) :=
 DE.of (v3F ho ho' ha.out hb.out hc.out hm) λB F ρ σ H Q R q=>seqE R q λd v F1 H1 s1 R1 p1 q1=>seqE R1 q1 λd2 v2 F2 H2 s2 R2 p2 q2=>by
  refine⟨F2,d,d2,R2.fh,p1.same s2.ff,p2,?_⟩
  unfold fChain at q2
  have q3:=Res.all_bind.mp q2
  generalize g d d2=r at q3
  cases r with
  | err x=>exact q3
  | bad=>exact q3
  | ok w =>
   obtain⟨k,rfl,q4⟩:=u6F (Res.all_bind.mp (show((asB w).bind _).all _ _ from q3))
   intro v3 F3 H3 s3 p3
   refine⟨k,p3.blI,?_⟩
   have s03:=(s1.trans s2).trans s3
   cases k with
   | false=>exact q4 (.bl false) F3 H3 s03 (.bl false)
   | true=>exact seqE (R2.step s3) q4 λd4 v4 F4 H4 s4 R4 p4 q5=>⟨F4,d2,d4,R4.fh,(p2.same s3.ff).same s4.ff,p4,doneN (s03.trans s4) q5⟩
def u3D {op} (h:DE X xq a fa):DE X xq (.BoolOp op [a] pos) fa:=⟨pe_one h.out⟩
def u2s (ha:DE X xq a fa) (hb:DE X xq (.BoolOp .And (b::rest) pos) fb):DE X xq (.BoolOp .And (a::b::rest) pos) (λρ=>(fa ρ).bind λx=>(asB x).bind λk=>if k=true then fb ρ else .ok (.bl false)) :=
 DE.of (pe_and ha.out hb.out) λB F ρ σ H Q R q=>seqE R q λd v F1 H1 s1 R1 p1 q1=>by
  obtain⟨k,rfl,q2⟩:=u6F (Res.all_bind.mp q1)
  refine⟨k,p1.blI,?_⟩
  cases k with
  | false=>exact q2 _ F1 H1 s1 (.bl false)
  | true=>exact⟨B,F1,ρ,R1,Res.all_mono q2 (λd k v F' H' s p=>k v F' H' (s1.trans s) p) λ_ e=>e⟩
def d_or (ha:DE X xq a fa) (hb:DE X xq (.BoolOp .Or (b::rest) pos) fb):DE X xq (.BoolOp .Or (a::b::rest) pos) (λρ=>(fa ρ).bind λx=>(asB x).bind λk=>if k=true then .ok (.bl true) else fb ρ) :=
 DE.of (pe_or ha.out hb.out) λB F ρ σ H Q R q=>seqE R q λd v F1 H1 s1 R1 p1 q1=>by
  obtain⟨k,rfl,q2⟩:=u6F (Res.all_bind.mp q1)
  refine⟨k,p1.blI,?_⟩
  cases k with
  | true=>exact q2 _ F1 H1 s1 (.bl true)
  | false=>exact⟨B,F1,ρ,R1,Res.all_mono q2 (λd k v F' H' s p=>k v F' H' (s1.trans s) p) λ_ e=>e⟩
theorem ErrK.frz {K:W.Frag}{B:Hp×Hp}{ρ:Rho}{σ:St}{x:D} (h:ErrK K xq B ρ σ x):ErrK K xq B (frz ρ) σ x:=λv F' H' R p=>h v F' H' (frz_frz ρ ▸ R) p
def d_ife (hc:DT X xq c fA) (ha:DE X xq a fa) (hb:DE X xq b fb):DE X xq (.IfExp c a b pos) (λρ=>(fA (frz ρ)).bind λk=>if k=true then fa ρ else fb ρ) :=
 DE.of (v3D hc.out ha.out hb.out) λB F ρ σ H Q R q=>⟨B,F,ρ,R,Res.all_mono (Res.all_bind.mp q) (λk q1 H1 s1=>by
  cases k with
  | true=>exact⟨B,F,ρ,R.step s1,Res.all_mono q1 (λd k v F' H' s p=>k v F' H' (s1.trans s) p) λ_ e=>e⟩
  | false=>exact⟨B,F,ρ,R.step s1,Res.all_mono q1 (λd k v F' H' s p=>k v F' H' (s1.trans s) p) λ_ e=>e⟩) λ_ e=>e⟩
def tfrz {P:Bool->Prop}{K:W.Frag}{B:Hp×Hp}{ρ:Rho}{σ:St}{F H:Hp}{Q:Bool->Hp->Prop} (R:Rel K B ρ σ F H) (h:((fe (frz ρ)).bind asB).all (λb=>∀H',Stp F H F H'->Q b H') (ErrK K xq B ρ σ)) :
  liftE K xq fe σ H (λx H'=>∃k,x=.bl k/\Q k H'):=by
 obtain⟨F1,e1,R1⟩:=R.frz
 refine⟨B,F1,L2.frz ρ,R1,Res.all_mono (Res.all_bind.mp h) (λd q v F' H' s p=>?_) λ_ e=>e.frz⟩
 obtain⟨k,rfl,q⟩:=u6F q
 exact⟨k,p.blI,q H' (Stp.only R.fh s.hh)⟩
def u0I (h:DE X xq e fe) (he:∀whole,isTrue e X.env whole=(do let v <- whole;standAt e.pos;holding [v] (truthy v)):=by intro _;rfl):DT X xq e (λρ=>(fe ρ).bind asB) :=
 DT.of (pt_val h.out he) λB F ρ σ H Q R q=>tfrz (P:=λ_=>True) R q
def u0m {op:CmpOp}{g:D->D->Res D} (ho:OpR X (compareOp op) (rD X.K g)) (ha:DE X xq a fa) (hb:DE X xq b fb) (hm:behindInMarks op b=false:=by first|exact nomark _|with_unfolding_all rfl) :
  DT X xq (.Compare a [op] [b] pos) (λρ=>(fa ρ).bind λx=>(fb ρ).bind λy=>(noE (g x y)).bind asB) :=
 DT.of (v1X ho ha.out hb.out hm) λB F ρ σ H Q R q=>by
  obtain⟨F0,e0,R0⟩:=R.frz
  have q':=Res.all_mono q (λ_ k=>k) (λx (e:ErrK X.K xq B ρ σ x)=>e.frz)
  refine seqE R0 q' λd v F1 H1 s1 R1 p1 q1=>seqE R1 q1 λd2 v2 F2 H2 s2 R2 p2 q2=>⟨F2,d,d2,R2.fh,p1.same s2.ff,p2,?_⟩
  have q3:=Res.all_bind.mp q2
  generalize g d d2=r at q3
  cases r with
  | err x=>exact q3
  | bad=>exact q3
  | ok w =>
   obtain⟨k,rfl,q4⟩:=u6F (show(asB w).all _ _ from q3)
   exact λv3 F3 H3 s3 p3=>⟨k,p3.blI,q4 H3 (Stp.only R.fh ((s1.hh.trans s2.hh).trans s3.hh))⟩
def seqT {α:Type}{K:W.Frag}{B:Hp×Hp}{ρ:Rho}{σ:St}{F H:Hp}{g:Bool->Res α}{P:α->Prop}{T:Bool->Hp->Prop} (R:Rel K B ρ σ F H) (h:((fA (frz ρ)).bind g).all P (ErrK K xq B ρ σ))
  (k:∀b H',Stp F H F H'->Rel K B ρ σ F H'->(g b).all P (ErrK K xq B ρ σ)->T b H'):liftT K xq fA σ H T :=
 ⟨B,F,ρ,R,Res.all_mono (Res.all_bind.mp h) (λd h' H' s=>k d H' s (R.step s) h') (λ_ e=>e)⟩
def u0J (ha:DT X xq a fA):DT X xq (.UnaryOp .Not a pos) (λρ=>(fA ρ).bind λk=>.ok (!k)) :=
 DT.of (pt_not ha.out) λB F ρ σ H Q R q=>seqT R q λk H1 s1 R1 q1=>q1 H1 s1
def dt_w (h:DW X xq e fA):DT X xq e fA:=⟨h.out.pt⟩
def u2W (ha:DT X xq a fA):DW X xq (.BoolOp .And [a] pos) fA:=⟨pw_and1 ha.out⟩
def u2G (ha:DT X xq a fA):DW X xq (.BoolOp .Or [a] pos) fA:=⟨pw_or1 ha.out⟩
def u3R (ha:DT X xq a fA) (hb:DW X xq (.BoolOp .And (b::rest) pos) fB):DW X xq (.BoolOp .And (a::b::rest) pos) (λρ=>(fA ρ).bind λk=>if k=true then fB ρ else .ok false) :=
 ⟨λwh pins s σ H Q I z9=>un5 z9 λB F ρ R q=>pw_and ha.out hb.out wh pins s σ H Q I (seqT R q λk H1 s1 R1 q1=>by
  cases k with
  | false=>exact q1 H1 s1
  | true=>exact⟨B,F,ρ,R1,Res.all_mono q1 (λk q H2 s2=>q H2 (s1.trans s2)) λ_ e=>e⟩)⟩
def u3l (ha:DT X xq a fA) (hb:DW X xq (.BoolOp .Or (b::rest) pos) fB):DW X xq (.BoolOp .Or (a::b::rest) pos) (λρ=>(fA ρ).bind λk=>if k=true then .ok true else fB ρ) :=
 ⟨λwh pins s σ H Q I z9=>un5 z9 λB F ρ R q=>pw_or ha.out hb.out wh pins s σ H Q I (seqT R q λk H1 s1 R1 q1=>by
  cases k with
  | true=>exact q1 H1 s1
  | false=>exact⟨B,F,ρ,R1,Res.all_mono q1 (λk q H2 s2=>q H2 (s1.trans s2)) λ_ e=>e⟩)⟩
def u0b:DA X xq [] (λ_=>.ok []):=⟨λpos pins s σ H Q I z9=>un5 z9 λB F ρ R q=>u4z pos pins s σ H Q I (q [] F H (Stp.refl R.fh) .nil),rfl⟩
def u0a (ha:DE X xq e fe) (hr:DA X xq es fs) (hs:notStar e=true:=by rfl):DA X xq (e::es) (λρ=>(fe ρ).bind λd=>(fs ρ).bind λds=>.ok (d::ds)) :=
 ⟨λpos pins s σ H Q I z9=>un5 z9 λB F ρ R q=>pac ha.out hr.out hs pos pins s σ H Q I (seqE R q λd v F1 H1 s1 R1 p1 q1=>seqA R1 q1 λds vs F2 H2 s2 R2 p2 q2 =>
  q2 (v::vs) F2 H2 (s1.trans s2) (.cons (p1.same s2.ff) p2)),by rw[z0D,hs,hr.ns];rfl⟩
noncomputable def szD {α:Type} (ds:List D) (k:Res α):Res α:=if ds.length<=sizeLine then k else .bad
def v1L {α:Type}{k:Res α}{P:α->Prop} (h:(szD ds k).all P E):ds.length<=sizeLine/\k.all P E:=by
 unfold szD at h
 by_cases q:ds.length<=sizeLine
 ·rw[if_pos q] at h;exact⟨q,h⟩
 ·rw[if_neg q] at h;exact h.elim
def u0h {x1} (h:DA X xq es fs):DE X xq (.Tuple es x1 pos) (λρ=>(fs ρ).bind λds=>szD ds (.ok (.tup ds))) :=
 DE.of (pe_tup h.out) λB F ρ σ H Q R q=>seqA R q λds vs F1 H1 s1 R1 p1 q1=>by
  obtain⟨hz,q2⟩:=v1L q1
  exact⟨p1.length ▸ hz,λp n=>q2 _ _ _ (s1.trans (Stp.new R1.fh n)) (.tup (.inl (.inl u0j)) (p1.same (Stp.new R1.fh n).ff))⟩
def u0F (h:DA X xq es fs):DE X xq (.List es pos) (λρ=>(fs ρ).bind λds=>szD ds (.ok (.lst ds))) :=
 DE.of (v2d h.out) λB F ρ σ H Q R q=>seqA R q λds vs F1 H1 s1 R1 p1 q1=>by
  obtain⟨hz,q2⟩:=v1L q1
  exact⟨p1.length ▸ hz,λp n=>q2 _ _ _ (s1.trans (Stp.new R1.fh n)) (.lst (.inl u0j) (p1.same (Stp.new R1.fh n).ff))⟩
def u2q (h:DA X xq es fs):DN X xq (.List es pos) (λρ=>(fs ρ).bind λds=>szD ds (.ok (.l ds))) :=
 ⟨λpins s σ H Q I z9=>un5 z9 λB F ρ R q=>v2d h.out pins s σ H Q I (seqA R q λds vs F1 H1 s1 R1 p1 q1=>by
  obtain⟨hz,q2⟩:=v1L q1
  refine⟨p1.length ▸ hz,λp n=>q2 p _ F1 _ (s1.trans (Stp.only R1.fh (u0p n))) (R1.fh.free n) (s1.hh.free n) u0j (.l p1)⟩)⟩
def DN.de (h:DN X xq e f):DE X xq e (λρ=>(f ρ).bind λo=>.ok o.toD) :=
 ⟨λpins s σ H Q I z9=>un5 z9 λB F ρ R q=>h.out pins s σ H Q I ⟨B,F,ρ,R,Res.all_mono (Res.all_bind.mp q) (λo q1 a hh F' H' s1 n1 n2 e1 r1=>by
  have s2:Stp F H (upd F' a hh) H':=⟨s1.ff.trans (u0p n1),λb u x=>by
   unfold upd at x
   by_cases z:b=a
   ·rw[if_pos z] at x;cases x;subst z;exact e1
   ·rw[if_neg z] at x;exact s1.fh b u x,s1.hh,λb x y=>by
   unfold upd
   by_cases z:b=a
   ·subst z;exact absurd n2 y
   ·rw[if_neg z];exact s1.no b x y⟩
  exact q1 _ _ _ s2 ((Ro.same (u0p n1) r1).rp u0j)) λ_ e=>e⟩⟩
end
inductive Out where
 | nx (ρ:Rho)|rt (d:D)|bk (ρ:Rho)|ct (ρ:Rho)|er (x:D) (ρ:Rho)|bad
namespace Out
def all (o:Out) (N:Rho->Prop) (R:D->Prop) (B C:Rho->Prop) (E:Rho->D->Prop):Prop:=match o with
 | .nx ρ=>N ρ
 | .rt d=>R d
 | .bk ρ=>B ρ
 | .ct ρ=>C ρ
 | .er x ρ=>E ρ x
 | .bad=>False
noncomputable def andThen (o:Out) (f:Rho->Out):Out:=match o with
 | .nx ρ=>f ρ
 | o=>o
@[simp] theorem _root_.L2.zn (ρ:Rho) (f:Rho->Out):(Out.nx ρ).andThen f=f ρ:=rfl
@[simp] theorem then_rt (d:D) (f:Rho->Out):(Out.rt d).andThen f=.rt d:=rfl
@[simp] theorem then_bk (ρ:Rho) (f:Rho->Out):(Out.bk ρ).andThen f=.bk ρ:=rfl
@[simp] theorem then_ct (ρ:Rho) (f:Rho->Out):(Out.ct ρ).andThen f=.ct ρ:=rfl
@[simp] theorem then_er (x:D) (ρ:Rho) (f:Rho->Out):(Out.er x ρ).andThen f=.er x ρ:=rfl
@[simp] theorem then_bad (f:Rho->Out):Out.bad.andThen f=.bad:=rfl
end Out
noncomputable def Res.go {α:Type} (r:Res α) (ρ:Rho) (k:α->Out):Out:=match r with
 | .ok a=>k a
 | .err x=>.er x (frz ρ)
 | .bad=>.bad
@[simp] theorem zg {α:Type} (a:α) (ρ:Rho) (k:α->Out):(Res.ok a).go ρ k=k a:=rfl
@[simp] theorem go_err {α:Type} (x:D) (ρ:Rho) (k:α->Out):(Res.err x).go ρ k=.er x (frz ρ):=rfl
@[simp] theorem go_bad {α:Type} (ρ:Rho) (k:α->Out):Res.bad.go ρ k=.bad:=rfl
def u0O {α:Type}{r:Res α}{k:α->Out} (h:(r.go ρ k).all N R B C E):r.all (λa=>(k a).all N R B C E) (E (frz ρ)):=by
 cases r<;>exact h
def u9D {o:Out}{f:Rho->Out}{N:Rho->Prop}{R:D->Prop}{B C:Rho->Prop}{E:Rho->D->Prop} (h:(o.andThen f).all N R B C E):o.all (λρ=>(f ρ).all N R B C E) R B C E:=by
 cases o<;>exact h
structure OkS (K:W.Frag) (xq:XQ) (B:Hp×Hp) (T:Ends) (o:Out):Prop where
 out:o.all (λρ=>∀σ F H,Rel K B ρ σ F H->T.nx σ H) (λd=>∀v F H,Stp B.1 B.2 F H->Rp K F v d->T.rt v H)
  (λρ=>∀σ F H,Rel K B ρ σ F H->T.bk σ H) (λρ=>∀σ F H,Rel K B ρ σ F H->T.ct σ H) (λρ x=>∀v σ F H,Rel K B ρ σ F H->Rp K F v x->xq v σ H)
def liftS (K:W.Frag) (xq:XQ) (f:Rho->Out):TS:=λT σ H=>∃B F ρ,Rel K B ρ σ F H/\OkS K xq B T (f ρ)
structure DS (X:Cx) (xq:XQ) (st:Stmt) (f:Rho->Out):Prop where
 out:PS X st (liftS X.K xq f)
structure DB (X:Cx) (xq:XQ) (sts:List Stmt) (f:Rho->Out):Prop where
 out:PSs X sts (liftS X.K xq f)
def liftG (K:W.Frag) (ix:List Nat) (g:D->Rho->Res Rho):TG:=λv σ H Q=>∃B F ρ d,Rel K B ρ σ F H/\Rp K F v d /\
 (g d ρ).all (λρ'=>∀σ',Rel K B ρ' σ' F H->σ'.length=σ.length->(∀j,j∉ix->σ'[j]?=σ[j]?)->Q σ' H) (λ_=>False)
def liftGs (K:W.Frag) (ix:List Nat) (g:List D->Rho->Res Rho):TGs:=λvs σ H Q=>∃B F ρ ds,Rel K B ρ σ F H/\Rps K F vs ds /\
 (g ds ρ).all (λρ'=>∀σ',Rel K B ρ' σ' F H->σ'.length=σ.length->(∀j,j∉ix->σ'[j]?=σ[j]?)->Q σ' H) (λ_=>False)
structure DG (X:Cx) (tg:Expr) (ix:List Nat) (g:D->Rho->Res Rho):Prop where
 out:PG X tg (liftG X.K ix g)
structure DGs (X:Cx) (tgs:List Expr) (ix:List Nat) (g:List D->Rho->Res Rho):Prop where
 out:PGs X tgs (liftGs X.K ix g)
structure Feed (K:W.Frag) (F:Hp) (J:It) (ds:List D):Prop where
 go:∀i H,Same F H->i<ds.length->J.go i H
 yld:∀i F1 H x H' d,Same F F1->Same F1 H->ds[i]?=some d->J.yld i H x H'->∃F',Stp F1 H F' H'/\Rp K F' x d
 stop:∀i H,Same F H->ds.length<=i->J.stop i H
def liftI (K:W.Frag) (xq:XQ) (f:Rho->Res (List D)):TI:=λσ H R=>∃B F ρ,Rel K B ρ σ F H /\
 (f ρ).all (λds=>∀J F' H',Stp F H F' H'->Feed K F' J ds->R J H') (ErrK K xq B ρ σ)
structure DI (X:Cx) (xq:XQ) (tg iter:Expr) (f:Rho->Res (List D)):Prop where
 out:PI X tg iter (liftI X.K xq f)
def Feed.list {K:W.Frag}{F:Hp}{a:Addr}{xs:List V}{ds:List D} (h:SqL K F a xs) (r:Rps K F xs ds):Feed K F (Itl K a) ds where
 go i H e hi:=⟨xs,xs[i]'(r.length ▸ hi),e.seq h,by simp[r.length ▸ hi]⟩
 yld i F1 H x H' d e1 e2 hd y:=by
  obtain⟨rfl,y⟩:=y
  obtain⟨v,hv,p⟩:=r.get hd
  have:xs[i]?=some x:=y xs ((e1.trans e2).seq h)
  rw[hv] at this;cases this
  exact⟨F1,Stp.refl e2,p.same e1⟩
 stop i H e hi:=⟨xs,e.seq h,r.length ▸ hi⟩
def Feed.tup {K:W.Frag}{F:Hp}{a:Addr}{xs:List V}{ds:List D} (h:SqT K F a xs) (r:Rps K F xs ds):Feed K F (Itt K a) ds where
 go i H e hi:=⟨xs,xs[i]'(r.length ▸ hi),e.seqT h,by simp[r.length ▸ hi]⟩
 yld i F1 H x H' d e1 e2 hd y:=by
  obtain⟨rfl,y⟩:=y
  obtain⟨v,hv,p⟩:=r.get hd
  have:xs[i]?=some x:=y xs ((e1.trans e2).seqT h)
  rw[hv] at this;cases this
  exact⟨F1,Stp.refl e2,p.same e1⟩
 stop i H e hi:=⟨xs,e.seqT h,r.length ▸ hi⟩
def u5v:(1:Nat)<=sizeLine:=by decide
noncomputable def chars (z:Str):List D:=z.cps.toList.map λc=>.str ⟨#[c]⟩
theorem Feed.str {K:W.Frag}{F:Hp} (z:Str):Feed K F (Its z) (chars z) where
 go i H e hi:=by
  show i<z.cps.size
  simpa[chars] using hi
 yld i F1 H x H' d e1 e2 hd y:=by
  obtain⟨rfl,c,hc,rfl⟩:=y
  have e3:z.cps.toList[i]?=some c:=by simpa using hc
  unfold chars at hd
  rw[v7,e3] at hd
  cases hd
  exact⟨F1,Stp.refl e2,.str (by show(#[c]:Array Nat).size<=sizeLine;exact u5v)⟩
 stop i H e hi:=by
  show z.cps.size<=i
  simpa[chars] using hi
noncomputable def intL (lo:Int) (n:Nat):List D:=(List.range n).map λ(i:Nat)=>.int (lo+(i:Int))
def Feed.rng {K:W.Frag}{F:Hp} (lo:Int) (n:Nat):Feed K F (Itr lo n) (intL lo n) where
 go i H e hi:=by
  show i<n
  simpa[intL] using hi
 yld i F1 H x H' d e1 e2 hd y:=by
  obtain⟨rfl,rfl⟩:=y
  have hi:i<n:=by
   have:=(u7.mp hd).1
   simpa[intL] using this
  unfold intL at hd
  rw[v7,List.getElem?_range hi] at hd
  cases hd
  exact⟨F1,Stp.refl e2,.int _⟩
 stop i H e hi:=by
  show n<=i
  simpa[intL] using hi
section
variable {X:Cx}{xq:XQ}{st:Stmt}{sts:List Stmt}{e c tg:Expr}{fe:Rho->Res D}{fT:Rho->Res Bool}{f g:Rho->Out}{pos pos':Pos}{x:Str}
def DS.of (h:PS X st t) (k:∀B F ρ σ H T,Rel X.K B ρ σ F H->OkS X.K xq B T (f ρ)->t T σ H):DS X xq st f :=
 ⟨λpins s σ H T I z9=>un5 z9 λB F ρ R q=>h pins s σ H T I (k B F ρ σ H T R q)⟩
def u0n:DB X xq [] (λρ=>.nx ρ):=⟨λpins s σ H T I z9=>un5 z9 λB F ρ R q=>pss_nil pins s σ H T I (q.out σ F H R)⟩
def u0e (h:DS X xq st f):DB X xq [st] f:=⟨v1Y h.out⟩
def u0d (h1:DS X xq st f) (h2:DB X xq sts g):DB X xq (st::sts) (λρ=>(f ρ).andThen g) :=
 ⟨λpins s σ H T I z9=>un5 z9 λB F ρ R q=>u4S h1.out h2.out pins s σ H T I ⟨B,F,ρ,R,⟨by
  have q1:=u9D q.out
  generalize f ρ=o at q1
  cases o with
  | nx ρ1=>exact λσ1 F1 H1 R1=>⟨B,F1,ρ1,R1,⟨q1⟩⟩
  | rt d=>exact q1
  | bk r=>exact q1
  | ct r=>exact q1
  | er x r=>exact q1
  | bad=>exact q1⟩⟩⟩
def errOf {K:W.Frag}{B:Hp×Hp}{ρ:Rho}{σ:St}{x:D} (h:∀v σ F H,Rel K B (frz ρ) σ F H->Rp K F v x->xq v σ H):ErrK K xq B ρ σ x:=λv F H R p=>h v σ F H R p
def u0g (he:DE X xq e fe):DS X xq (.Return (some e) pos) (λρ=>(fe (frz ρ)).go ρ λd=>.rt d) :=
 DS.of (v4q he.out) λB F ρ σ H T R q=>by
  obtain⟨F1,e1,R1⟩:=R.frz
  exact⟨B,F1,frz ρ,R1,Res.all_mono (u0O q.out) (λd q v F' H' s p=>q v F' H' (R1.st.trans s) p) λx q=>(errOf q).frz⟩
def u7n (he:DE X xq e fe) (hs:swapsWith e none pos.line X.env=pure false:=by rfl):DS X xq (.Expr e pos) (λρ=>(fe (frz ρ)).go ρ λ_=>.nx ρ) :=
 DS.of (u6P he.out hs) λB F ρ σ H T R q=>by
  obtain⟨F1,e1,R1⟩:=R.frz
  exact⟨B,F1,frz ρ,R1,Res.all_mono (u0O q.out) (λd q v F' H' s p=>q σ F H' (R.step (Stp.only R.fh s.hh))) λx q=>(errOf q).frz⟩
def u0v (hc:DT X xq c fT) (ha:DB X xq a f) (hb:DB X xq b g):DS X xq (.If c a b pos) (λρ=>(fT (frz ρ)).go ρ λk=>if k=true then f ρ else g ρ) :=
 DS.of (ps_if hc.out ha.out hb.out) λB F ρ σ H T R q=>⟨B,F,ρ,R,Res.all_mono (u0O q.out) (λk q H' s=>by
  cases k with
  | true=>exact⟨B,F,ρ,R.step s,⟨q⟩⟩
  | false=>exact⟨B,F,ρ,R.step s,⟨q⟩⟩) λx q=>errOf q⟩
def ds_n (hN:X.N.Nodup) (he:DE X xq e fe) (hi:X.N.findIdx? (λy=>y==x)=some i:=by rfl) (hx:Loc X.env.scope x:=by first|exact Or.inl rfl|exact Or.inr rfl) (hs:swapsWith e (some (.Name x pos')) pos.line X.env=pure false:=by rfl)
 (hf:X.fn x=true\/X.env.scope.names.lookup x=some .local:=by first|exact .inl rfl|exact .inr rfl):DS X xq (.Assign [.Name x pos'] e pos) (λρ=>(fe ρ).go ρ λd=>.nx (ρ.set i (some (.val d)))) :=
 DS.of (ps_n hN he.out hi hx hs hf) λB F ρ σ H T R q=>⟨B,F,ρ,R,Res.all_mono (u0O q.out) (λd q v F' H' s p=>q _ F' H' ((R.step s).set p)) λx q=>errOf q⟩
def u1e (hN:X.N.Nodup) (he:DN X xq e fn) (hi:X.N.findIdx? (λy=>y==x)=some i:=by rfl) (hx:Loc X.env.scope x:=by first|exact Or.inl rfl|exact Or.inr rfl) (hs:swapsWith e (some (.Name x pos')) pos.line X.env=pure false:=by rfl)
 (hf:X.fn x=true\/X.env.scope.names.lookup x=some .local:=by first|exact .inl rfl|exact .inr rfl):DS X xq (.Assign [.Name x pos'] e pos) (λρ=>(fn ρ).go ρ λo=>.nx (ρ.set i (some (.own o)))) :=
 DS.of (ps_n hN he.out hi hx hs hf) λB F ρ σ H T R q=>⟨B,F,ρ,R,Res.all_mono (u0O q.out) (λo q a h F' H' s n1 n2 e1 r1=>q _ F' H' ((R.step s).setOwn n1 (R.st.hh.free n2) e1 r1 λj u w z=>by
   obtain⟨b,hh,p1,p2,p3,p4,p5⟩:=R.own j u w
   rw[p1] at z;cases z;rw[p4] at n2;cases n2)) λx q=>errOf q⟩
noncomputable def flatD:D->Bool
 | .non | .bl _ | .int _ | .str _ | .ty _=>true
 | _=>false
def Rp.flat {K:W.Frag}{F F':Hp}{v:V}{d:D} (h:Rp K F v d) (f:flatD d=true):Rp K F' v d:=by
 cases h<;>first|(cases f;done)|exact .non|exact .bl _|exact .int _|exact .ty _|(exact .str (by assumption))|exact absurd f (by simp[flatD])
def dg_n (hN:X.N.Nodup) (hi:X.N.findIdx? (λy=>y==x)=some i:=by rfl) (hx:Loc X.env.scope x:=by first|exact Or.inl rfl|exact Or.inr rfl) (hf:X.fn x=true\/X.env.scope.names.lookup x=some .local:=by first|exact .inl rfl|exact .inr rfl) :
 DG X (.Name x pos) [i] (λd ρ=>.ok (ρ.set i (some (.val d)))) :=
 ⟨λpins s σ H v u Q I rv ⟨B,F,ρ,d,R,p,q⟩=>pg_n hN hi hx hf pins s σ H v u Q I rv (q (σ.set i (some v)) (R.set p) (by simp) λj hj=>by
  rw[u1j (λz=>hj (by simp[z]))])⟩
def u1H:DGs X [] [] (λds ρ=>match ds with | []=>.ok ρ|_=>.bad) :=
 ⟨λpins s σ H vs us Q I rv ⟨B,F,ρ,ds,R,p,q⟩=>v2c pins s σ H vs us Q I rv (by
  cases p with
  | nil=>exact⟨rfl,q σ R rfl λ_ _=>rfl⟩
  | cons _ _=>exact q.elim)⟩
def u0r {ix jx:List Nat}{tgs:List Expr}{g:D->Rho->Res Rho}{gs:List D->Rho->Res Rho} (h1:DG X e ix g) (h2:DGs X tgs jx gs) (hs:(assignEach (e::tgs) X.env).map (·.2)=assign e X.env::(assignEach tgs X.env).map (·.2):=by rfl) :
  DGs X (e::tgs) (ix++jx) (λds ρ=>match ds with|d::r=>(g d ρ).bind (gs r)|_=>.bad) :=
 ⟨λpins s σ H vs us Q I rv ⟨B,F,ρ,ds,R,p,q⟩=>u6V h1.out h2.out hs pins s σ H vs us Q I rv (by
  cases p with
  | nil=>exact q.elim
  | cons p1 p2 =>
   refine⟨_,_,rfl,B,F,ρ,_,R,p1,Res.all_mono (Res.all_bind.mp q) (λρ1 q1 σ1 R1 l1 k1=>⟨B,F,ρ1,_,R1,p2,Res.all_mono q1 (λρ2 q2 σ2 R2 l2 k2=>q2 σ2 R2 (l2.trans l1) λj hj=>?_) λ_ e=>e⟩) λ_ e=>e⟩
   rw[k2 j λz=>hj (u6 _ z),k1 j λz=>hj (z1I _ z)])⟩
noncomputable def asT (n:Nat):D->Res (List D)
 | .tup ds=>if ds.length=n then .ok ds else .bad
 | _=>.bad
def u3p (hc:X.calm=true) (h:DGs X tgs ix gs) (hn:(assignEach tgs X.env).length=n:=by rfl) (hst:(assignEach tgs X.env).findIdx? (·.1)=none:=by rfl) :
 DG X (.Tuple tgs k pos) ix (λd ρ=>(asT n d).bind λds=>gs ds ρ) :=
 ⟨λpins s σ H v u Q I rv ⟨B,F,ρ,d,R,p,q⟩=>v4t hc h.out hn hst pins s σ H v u Q I rv (by
  have q1:=Res.all_bind.mp q
  cases p with
  | @tup a xs ds hq hs =>
   unfold asT at q1
   dsimp only at q1
   by_cases z:ds.length=n
   ·rw [if_pos z] at q1
    exact⟨a,xs,rfl,R.fh.seqT hq,hs.length.trans z,B,F,ρ,ds,R,hs,q1⟩
   ·rw[if_neg z] at q1;exact q1.elim
  | _=>exact q1.elim)⟩
def v4F {k:Nat}{tgs:List Expr}{ix:List Nat}{g:D->Rho->Res Rho} (he:DE X xq e fe) (hg:DG X (.Tuple tgs k pos') ix g) (hs:swapsWithSole [Expr.Tuple tgs k pos'] e pos.line X.env=pure false:=by rfl) (hw:swappedStores [Expr.Tuple tgs k pos'] e X.env=pure none:=by rfl) :
  DS X xq (.Assign [.Tuple tgs k pos'] e pos) (λρ=>(fe ρ).go ρ λd=>(noE (g d ρ)).go ρ λρ'=>.nx ρ') :=
 DS.of (v4s he.out hg.out hs hw) λB F ρ σ H T R q=>⟨B,F,ρ,R,Res.all_mono (u0O q.out) (λd q v F' H' s p=>⟨B,F',ρ,d,R.step s,p,by
  have q1:=u0O q
  generalize g d ρ=r at q1
  cases r with
  | ok ρ'=>exact λσ' R' l k=>q1 σ' F' H' R'
  | err x=>exact q1
  | bad=>exact q1⟩) λx q=>errOf q⟩
def Stp.rebase {B:Hp×Hp}{F H F' H':Hp} (st:Stp B.1 B.2 F H) (s:Stp F B.2 F' H'):Stp B.1 B.2 F' H' :=
 ⟨st.ff.trans s.ff,s.fh,s.hh,λa n z=>s.no a (st.no a n z) z⟩
def Rel.rebase {K:W.Frag}{B:Hp×Hp}{ρ:Rho}{σ:St}{F H:Hp} (R:Rel K B ρ σ F H):Rel K (F,B.2) ρ σ F H :=
 ⟨⟨Same.refl F,R.st.fh,R.st.hh,λ_ n _=>n⟩,R.len,R.val,R.own,R.dis⟩
def Rel.unbase {K:W.Frag}{B:Hp×Hp}{ρ:Rho}{σ:St}{F H F' H':Hp} (st:Stp B.1 B.2 F H) (R:Rel K (F,B.2) ρ σ F' H'):Rel K B ρ σ F' H' :=
 ⟨st.rebase R.st,R.len,R.val,R.own,R.dis⟩
theorem OkS.rebase {K:W.Frag}{B:Hp×Hp}{F H:Hp}{T:Ends}{o:Out} (st:Stp B.1 B.2 F H) (q:OkS K xq B T o):OkS K xq (F,B.2) T o:=⟨by
 have q:=q.out
 cases o with
 | nx ρ=>exact λσ F' H' R=>q σ F' H' (R.unbase st)
 | rt d=>exact λv F' H' s p=>q v F' H' (st.rebase s) p
 | bk ρ=>exact λσ F' H' R=>q σ F' H' (R.unbase st)
 | ct ρ=>exact λσ F' H' R=>q σ F' H' (R.unbase st)
 | er x ρ=>exact λv σ F' H' R p=>q v σ F' H' (R.unbase st) p
 | bad=>exact q⟩
noncomputable def forD (g:D->Rho->Res Rho) (tb:Rho->Out):List D->Rho->Out
 | [],ρ=>.nx ρ
 | d::ds,ρ=>(noE (g d ρ)).go ρ λρ1=>match tb ρ1 with
  | .nx ρ2=>forD g tb ds ρ2
  | .ct ρ2=>forD g tb ds ρ2
  | .bk ρ2=>.nx ρ2
  | o=>o
def u0Y {iter:Expr}{body:List Stmt}{fi:Rho->Res (List D)}{ix:List Nat}{g:D->Rho->Res Rho}{tb:Rho->Out} (hc:X.calm=true) (hi:DI X xq tg iter fi) (hg:DG X tg ix g) (hb:DB X xq body tb)
  (hp:PassesOwn (model X.prog X.w) X.A X.env X.xe:=by exact PassesOwn.never) (hs:∀x,foldedSetIterable iter X.env x=pure x:=by intro _;rfl) :
  DS X xq (.For tg iter body [] pos) (λρ=>(fi ρ).go ρ λds=>forD g tb ds ρ) :=
 DS.of (v4r hp hc hi.out hg.out hb.out hs) λB F ρ σ H T R q=>⟨B,F,ρ,R,Res.all_mono (u0O q.out) (λds q J F0 H0 s0 fd=>by
  have R0:=R.step s0
  obtain⟨C,hC⟩:∃C:Hp×Hp,C=(F0,B.2):=⟨_,rfl⟩
  refine⟨λi m σ' H'=>m=ds.length - i/\i<=ds.length/\∃ρ' F',Rel X.K C ρ' σ' F' H'/\OkS X.K xq C T (forD g tb (ds.drop i) ρ'),
   ⟨ds.length,rfl,z1H _,ρ,F0,hC ▸ R0.rebase,hC ▸ OkS.rebase R0.st ⟨q⟩⟩,?_⟩
  rintro i m σ' H' ⟨rfl,hi,ρ',F',R',q'⟩
  have e0:Same F0 F':=by have:=R'.st.ff;rw[hC] at this;exact this
  by_cases hlt:i<ds.length
  ·right
   refine⟨fd.go i H' (e0.trans R'.fh) hlt,λσ2 H2=>i+1<=ds.length/\∃ρ2 F2,Rel X.K C ρ2 σ2 F2 H2/\OkS X.K xq C T (forD g tb (ds.drop (i+1)) ρ2),
    λσ2 H2 p=>⟨ds.length - (i+1),by omega,rfl,p.1,p.2⟩,λx H2 y=>?_⟩
   have hd:ds[i]?=some ds[i]:=by simp[hlt]
   obtain⟨F2,s2,p2⟩:=fd.yld i F' H' x H2 _ e0 R'.fh hd y
   have eqn:ds.drop i=ds[i]::ds.drop (i+1):=by rw[z3D hlt]
   rw[eqn] at q'
   have q2:=u0O q'.out
   refine⟨C,F2,ρ',_,R'.step s2,p2,?_⟩
   generalize g ds[i] ρ'=r at q2
   cases r with
   | err x=>exact q2
   | bad=>exact q2
   | ok ρ1 =>
    intro σ3 R3 l3 k3
    refine⟨C,F2,ρ1,R3,⟨?_⟩⟩
    have q3:(match tb ρ1 with | .nx ρ2=>forD g tb (ds.drop (i+1)) ρ2 | .ct ρ2=>forD g tb (ds.drop (i+1)) ρ2 | .bk ρ2=>.nx ρ2|o=>o).all _ _ _ _ _:=q2
    generalize tb ρ1=o at q3
    cases o with
    | nx ρ2=>exact λσ4 F4 H4 R4=>⟨hlt,ρ2,F4,R4,⟨q3⟩⟩
    | ct ρ2=>exact λσ4 F4 H4 R4=>⟨hlt,ρ2,F4,R4,⟨q3⟩⟩
    | bk ρ2=>exact q3
    | rt d=>exact q3
    | er x r=>exact q3
    | bad=>exact q3
  ·left
   have e:i=ds.length:=by omega
   subst e
   rw[List.drop_length] at q'
   exact⟨fd.stop _ H' (e0.trans R'.fh) (y7 _),q'.out σ' F' H' R'⟩) λx q=>errOf q⟩
end
section
variable {X:Cx}
def Inv.lstR (I:Inv X pins σ H s) (h:Rd H l (.lst xs)) :
 xs.length<=sizeLine/\∃(its:List Value) (n:Nat),Vals xs its/\xs.length=its.length/\s.heap.get? l=some { cls:=.type "list",data:=.seq its.toArray n }:=by
 obtain⟨z,its,n,r,e⟩:=h.ok I.hok
 exact⟨z,its,n,r,r.length,e⟩
def rCatR:R2:=λx y H Q=>∃l b xs zs,x=.ref l/\y=.ref b/\Rd H l (.lst xs)/\Rd H b (.lst zs)/\xs.length+zs.length<=sizeLine/\∀p,H p=none->Q (.ref p) (upd H p (.lst (xs++zs)))
def v2h:OpR X (binaryOp .Add) rCatR:=by
 intro pins s σ H x y v u Q I rx ry h
 obtain⟨l,b,xs,zs,rfl,rfl,hH,hB,hz,q⟩:=h
 cases rx
 cases ry
 obtain⟨z,its,n,r,hl,e⟩:=I.lstR hH
 obtain⟨z2,its2,n2,r2,hl2,e2⟩:=I.lstR hB
 refine PySem.P.add_list e e2 ?_ (by rw[x8,x8,<- hl,<- hl2];exact hz)
 rw[show its.toArray++its2.toArray=(its++its2).toArray by simp]
 exact⟨.ref _,_,I.lnew (t':=s.toks) (r.append r2) (by rw[z2B];exact hz),rfl,q _ I.fresh⟩
noncomputable def gd {α:Type} (c:Prop) [Decidable c] (r:Res α):Res α:=if c then r else .bad
def u3k {α:Type}{c:Prop} [Decidable c] {r:Res α}{P:α->Prop} (h:(gd c r).all P E):c/\r.all P E:=by
 unfold gd at h
 by_cases q:c
 ·rw[if_pos q] at h;exact⟨q,h⟩
 ·rw[if_neg q] at h;exact h.elim
@[simp] theorem u0w {α:Type}{c:Prop} [Decidable c] {r:Res α} (h:c):gd c r=r:=if_pos h
noncomputable def dAdd:D->D->Res D
 | .int i,.int j=>.ok (.int (i+j))
 | .str x,.str y=>gd (x.length+y.length<=sizeLine) (.ok (.str (x++y)))
 | .lst xs,.lst ys=>gd (xs.length+ys.length<=sizeLine) (.ok (.lst (xs++ys)))
 | _,_=>.bad
def u1D (x y:Str):(x++y).length=x.length+y.length:=by
 show(x.cps++y.cps).size=_
 rw[Array.size_append];rfl
def u0E:OpR X (binaryOp .Add) (rD X.K dAdd):=by
 intro pins s σ H x y v u Q I rx ry z981
 obtain⟨F,dx,dy,fh,px,py,q⟩:=z981
 cases px with
 | int i =>
  cases py with
  | int j=>exact op_add pins s σ H _ _ v u Q I rx ry ⟨i,j,rfl,rfl,q _ F H (Stp.refl fh) (.int _)⟩
  | _=>exact q.elim
 | str hx =>
  cases py with
  | str hy =>
   obtain⟨hz,q⟩:=u3k q
   exact v1h pins s σ H _ _ v u Q I rx ry ⟨_,_,rfl,rfl,hz,q _ F H (Stp.refl fh) (.str (by rw[u1D];exact hz))⟩
  | _=>exact q.elim
 | lst hx rx' =>
  cases py with
  | lst hy ry' =>
   obtain⟨hz,q⟩:=u3k q
   exact v2h pins s σ H _ _ v u Q I rx ry ⟨_,_,_,_,rfl,rfl,hx.same fh,hy.same fh,by rw[rx'.length,ry'.length];exact hz,λp n =>
    q _ _ _ (Stp.new fh n) (.lst (.inl u0j) ((rx'.append ry').same (Stp.new fh n).ff))⟩
  | _=>exact q.elim
 | _=>exact q.elim
noncomputable def dI (C:Int->Int->Prop) [∀i j,Decidable (C i j)] (g:Int->Int->D):D->D->Res D
 | .int i,.int j=>gd (C i j) (.ok (g i j))
 | _,_=>.bad
def v3J [∀i j,Decidable (C i j)] (h:OpR X f (rI C g)) (hg:∀F i j,Rp X.K F (g i j) (g' i j)):OpR X f (rD X.K (dI C g')):=by
 intro pins s σ H x y v u Q I rx ry z982
 obtain⟨F,dx,dy,fh,px,py,q⟩:=z982
 cases px with
 | int i =>
  cases py with
  | int j =>
   obtain⟨hz,q⟩:=u3k q
   exact h pins s σ H _ _ v u Q I rx ry ⟨i,j,rfl,rfl,hz,q _ F H (Stp.refl fh) (hg F i j)⟩
  | _=>exact q.elim
 | _=>exact q.elim
noncomputable def dI0 (g:Int->Int->D):D->D->Res D
 | .int i,.int j=>.ok (g i j)
 | _,_=>.bad
def u7Z (h:OpR X f (rI0 g)) (hg:∀F i j,Rp X.K F (g i j) (g' i j)):OpR X f (rD X.K (dI0 g')):=by
 intro pins s σ H x y v u Q I rx ry z983
 obtain⟨F,dx,dy,fh,px,py,q⟩:=z983
 cases px with
 | int i =>
  cases py with
  | int j=>exact h pins s σ H _ _ v u Q I rx ry ⟨i,j,rfl,rfl,q _ F H (Stp.refl fh) (hg F i j)⟩
  | _=>exact q.elim
 | _=>exact q.elim
noncomputable instance (i j:Int):Decidable (CMul i j):=by unfold CMul;infer_instance
noncomputable instance (i j:Int):Decidable (CDivB i j):=by unfold CDivB;infer_instance
noncomputable instance (i j:Int):Decidable (CPow i j):=by unfold CPow;infer_instance
noncomputable abbrev dSub:=dI0 λi j=>.int (i - j)
noncomputable abbrev dMul:=dI CMul λi j=>.int (i*j)
noncomputable abbrev dDiv:=dI CDivB λi j=>.int (i / j)
noncomputable abbrev dMod:=dI (λ_ j=>0<j) λi j=>.int (i%j)
noncomputable abbrev dPow:=dI CPow λi j=>.int (i^j.toNat)
noncomputable abbrev dLt:=dI0 λi j=>.bl (decide (i<j))
noncomputable abbrev dLe:=dI0 λi j=>.bl (decide (i<=j))
noncomputable abbrev dGt:=dI0 λi j=>.bl (decide (j<i))
noncomputable abbrev dGe:=dI0 λi j=>.bl (decide (j<=i))
def o_sub:OpR X (binaryOp .Sub) (rD X.K dSub):=u7Z op_sub λ_ _ _=>.int _
def o_mul:OpR X (binaryOp .Mult) (rD X.K dMul):=v3J op_mul λ_ _ _=>.int _
def u6c:OpR X (binaryOp .FloorDiv) (rD X.K dDiv):=v3J v3H λ_ _ _=>.int _
def u1c:OpR X (binaryOp .Mod) (rD X.K dMod):=v3J op_mod λ_ _ _=>.int _
def o_pow:OpR X (binaryOp .Pow) (rD X.K dPow):=v3J op_pow λ_ _ _=>.int _
def o_lt:OpR X (compareOp .Lt) (rD X.K dLt):=u7Z op_lt λ_ _ _=>.bl _
def o_le:OpR X (compareOp .LtE) (rD X.K dLe):=u7Z op_le λ_ _ _=>.bl _
def o_gt:OpR X (compareOp .Gt) (rD X.K dGt):=u7Z op_gt λ_ _ _=>.bl _
def o_ge:OpR X (compareOp .GtE) (rD X.K dGe):=u7Z op_ge λ_ _ _=>.bl _
noncomputable def isN:D->Bool
 | .non=>true
 | _=>false
noncomputable def dIs:D->D->Res D
 | d,.non=>.ok (.bl (isN d))
 | _,_=>.bad
noncomputable def dIsNot:D->D->Res D
 | d,.non=>.ok (.bl (!isN d))
 | _,_=>.bad
theorem Rp.isN {K:W.Frag}{F:Hp}{v:V}{d:D} (h:Rp K F v d):decide (v=.non)=L2.isN d:=by
 cases h<;>first|rfl|exact decide_eq_false λe=>nomatch e
def o_is:OpR X (compareOp .Is) (rD X.K dIs):=by
 intro pins s σ H x y v u Q I rx ry z984
 obtain⟨F,dx,dy,fh,px,py,q⟩:=z984
 cases py with
 | non =>
  have q':∀v F' H',Stp F H F' H'->Rp X.K F' v (.bl (isN dx))->Q v H':=by cases dx<;>exact q
  exact op_isN pins s σ H _ _ v u Q I rx ry ⟨rfl,q' _ F H (Stp.refl fh) (by rw[px.isN];exact .bl _)⟩
 | _=>cases dx<;>exact q.elim
def u9o:OpR X (compareOp .IsNot) (rD X.K dIsNot):=by
 intro pins s σ H x y v u Q I rx ry z985
 obtain⟨F,dx,dy,fh,px,py,q⟩:=z985
 cases py with
 | non =>
  have q':∀v F' H',Stp F H F' H'->Rp X.K F' v (.bl (!isN dx))->Q v H':=by cases dx<;>exact q
  exact op_notN pins s σ H _ _ v u Q I rx ry ⟨rfl,q' _ F H (Stp.refl fh) (by rw[px.isN];exact .bl _)⟩
 | _=>cases dx<;>exact q.elim
mutual
noncomputable def D.py:D->Option PyData
 | .non=>some .none
 | .bl b=>some (.bool b)
 | .int i=>some (.int i)
 | .str z=>some (.str z)
 | .lst ds=>(D.pys ds).map .list
 | .tup ds=>(D.pys ds).map .tuple
 | _=>none
noncomputable def D.pys:List D->Option (List PyData)
 | []=>some []
 | d::ds=>match D.py d,D.pys ds with
  | some a,some as=>some (a::as)
  | _,_=>none
end
mutual
theorem Rp.rd {K:W.Frag}{H:Hp}:∀{v:V}{d:D}{a:PyData},Rp K H v d->d.py=some a->RdV K H v a
 | _,_,_,.non,e=>by simp only[D.py] at e;cases e;exact .non
 | _,_,_,.bl b,e=>by simp only[D.py] at e;cases e;exact .bl b
 | _,_,_,.int i,e=>by simp only[D.py] at e;cases e;exact .int i
 | _,_,_,.str _,e=>by simp only[D.py] at e;cases e;exact .str _
 | _,_,_,.ty _,e=>by simp only[D.py] at e;cases e
 | _,_,_,.lst (ds:=ds) hq hs,e=>by
  simp only[D.py] at e
  cases q:D.pys ds with
  | none=>rw[q] at e;cases e
  | some as=>rw[q] at e;cases e;exact .lst (.inl hq) (Rps.rd hs q)
 | _,_,_,.tup (ds:=ds) hq hs,e=>by
  simp only[D.py] at e
  cases q:D.pys ds with
  | none=>rw[q] at e;cases e
  | some as=>rw[q] at e;cases e;exact .tup hq (Rps.rd hs q)
 | _,_,_,.dK _ _,e=>by simp only[D.py] at e;cases e
 | _,_,_,.ins _ _,e=>by simp only[D.py] at e;cases e
 | _,_,_,.exc _ _ _,e=>by simp only[D.py] at e;cases e
 | _,_,_,.dn _ _,e=>by simp only[D.py] at e;cases e
theorem Rps.rd {K:W.Frag}{H:Hp}:∀{vs:List V}{ds:List D}{as:List PyData},Rps K H vs ds->D.pys ds=some as->RdVs K H vs as
 | _,_,_,.nil,e=>by simp only[D.pys] at e;cases e;exact .nil
 | _,_,_,.cons (d:=d) (ds:=ds) h hs,e=>by
  simp only[D.pys] at e
  cases q:d.py with
  | none=>rw[q] at e;cases e
  | some a =>
   cases q2:D.pys ds with
   | none=>rw[q,q2] at e;cases e
   | some as=>rw[q,q2] at e;cases e;exact .cons (Rp.rd h q) (Rps.rd hs q2)
end
noncomputable def cmpD (d:D):Res PyData:=match d.py with
 | some a=>gd (SeqAt.shaped a=true) (.ok a)
 | none=>.bad
set_option tactic.hygienic true in
def u4r (h:(cmpD d).all P E):∃a,d.py=some a/\SeqAt.shaped a=true/\P a:=by
 unfold cmpD at h
 split at h
 ·rename_i a q;obtain⟨hz,h⟩:=u3k h;exact⟨a,q,hz,h⟩
 ·exact h.elim
noncomputable def dEq (x y:D):Res D:=(cmpD x).bind λa=>(cmpD y).bind λb=>.ok (.bl (PyData.eqv a b))
noncomputable def dNe (x y:D):Res D:=(cmpD x).bind λa=>(cmpD y).bind λb=>.ok (.bl (!PyData.eqv a b))
def o_eq (hu:X.A.units+64<cLine):OpR X (compareOp .Eq) (rD X.K dEq):=by
 intro pins s σ H x y v u Q I rx ry z986
 obtain⟨F,dx,dy,fh,px,py,q⟩:=z986
 obtain⟨a,ea,sa,q⟩:=u4r (Res.all_bind.mp q)
 obtain⟨b,eb,sb,q⟩:=u4r (Res.all_bind.mp q)
 exact op_eqD hu pins s σ H _ _ v u Q I rx ry ⟨a,b,(px.rd ea).same fh,(py.rd eb).same fh,sa,sb,q _ F H (Stp.refl fh) (.bl _)⟩
def o_ne (hu:X.A.units+64<cLine):OpR X (compareOp .NotEq) (rD X.K dNe):=by
 intro pins s σ H x y v u Q I rx ry z987
 obtain⟨F,dx,dy,fh,px,py,q⟩:=z987
 obtain⟨a,ea,sa,q⟩:=u4r (Res.all_bind.mp q)
 obtain⟨b,eb,sb,q⟩:=u4r (Res.all_bind.mp q)
 exact op_neD hu pins s σ H _ _ v u Q I rx ry ⟨a,b,(px.rd ea).same fh,(py.rd eb).same fh,sa,sb,q _ F H (Stp.refl fh) (.bl _)⟩
noncomputable def dIx:D->D->Res D
 | .lst ds,.int i=>match atI ds i with
  | some d=>.ok d
  | none=>.bad
 | .tup ds,.int i=>match atI ds i with
  | some d=>.ok d
  | none=>.bad
 | .str z,.int i=>match atI z.cps.toList i with
  | some c=>.ok (.str ⟨#[c]⟩)
  | none=>.bad
 | _,_=>.bad
def v4K {K:W.Frag}{F:Hp}{xs:List V}{ds:List D}{i:Int}{d:D} (r:Rps K F xs ds) (h:atI ds i=some d):∃v,atI xs i=some v/\Rp K F v d:=by
 unfold atI at h |-
 rw[r.length]
 cases q:ixN ds.length i with
 | none=>rw[q] at h;cases h
 | some j=>rw[q] at h;exact r.get h
set_option tactic.hygienic true in
def x_ix:IxR X (rD X.K dIx):=by
 intro value slice pins s σ H x y v u Q I rx ry z988 hsub
 obtain⟨F,dx,dy,fh,px,py,q⟩:=z988
 cases py with
 | int i =>
  cases px with
  | lst hx rs =>
   rename_i ds
   cases e:atI ds i with
   | none=>simp only[dIx,e] at q;exact q.elim
   | some d =>
    simp only[dIx,e] at q
    obtain⟨w,h1,h2⟩:=v4K rs e
    exact u9t value slice pins s σ H _ _ v u Q I rx ry ⟨_,_,i,w,rfl,rfl,.inl (hx.same fh),h1,q _ F H (Stp.refl fh) h2⟩ hsub
  | tup hx rs =>
   rename_i ds
   cases e:atI ds i with
   | none=>simp only[dIx,e] at q;exact q.elim
   | some d =>
    simp only[dIx,e] at q
    obtain⟨w,h1,h2⟩:=v4K rs e
    exact ix_tup value slice pins s σ H _ _ v u Q I rx ry ⟨_,_,i,w,rfl,rfl,fh.seqT hx,h1,q _ F H (Stp.refl fh) h2⟩ hsub
  | str hz =>
   rename_i z
   cases e:atI z.cps.toList i with
   | none=>simp only[dIx,e] at q;exact q.elim
   | some c =>
    simp only[dIx,e] at q
    exact ix_str value slice pins s σ H _ _ v u Q I rx ry ⟨_,i,c,rfl,rfl,hz,e,q _ F H (Stp.refl fh) (.str u5v)⟩ hsub
  | _=>exact q.elim
 | _=>cases px<;>exact q.elim
end
noncomputable def items:D->Res (List D)
 | .lst ds=>.ok ds
 | .tup ds=>.ok ds
 | .str z=>.ok (chars z)
 | _=>.bad
section
variable {X:Cx}{xq:XQ}{tg l:Expr}{fl:Rho->Res D}{fa:Rho->Res (List D)}{pos p:Pos}
def u0A (hl:DE X xq l fl):DI X xq tg l (λρ=>(fl ρ).bind items):=⟨λpins s σ H R I z9=>un5 z9 λB F ρ R' q=>by
 have q0:=Res.all_bind.mp q
 cases e:fl ρ with
 | bad=>rw[e] at q0;exact q0.elim
 | err x =>
  rw[e] at q0
  exact u9m hl.out pins s σ H R I ⟨B,F,ρ,R',by rw[e];exact q0⟩
 | ok d =>
  rw[e] at q0
  have go:∀{T:VK},(∀v F' H',Stp F H F' H'->Rp X.K F' v d->T v H')->liftE X.K xq fl σ H T:=λk=>⟨B,F,ρ,R',by rw[e];exact k⟩
  cases d with
  | lst ds =>
   refine u9m hl.out pins s σ H R I (go λv F' H' st p=>?_)
   cases p with
   | lst hq hs=>exact⟨_,rfl,⟨_,.inl (hq.same st.fh)⟩,q0 _ F' H' st (Feed.list (.inl hq) hs)⟩
  | tup ds =>
   refine pi_tup hl.out pins s σ H R I (go λv F' H' st p=>?_)
   cases p with
   | tup hq hs=>exact⟨_,rfl,⟨_,st.fh.seqT hq⟩,q0 _ F' H' st (Feed.tup hq hs)⟩
  | str z =>
   refine pi_str hl.out pins s σ H R I (go λv F' H' st p=>?_)
   cases p with
   | str hz=>exact⟨z,rfl,q0 _ F' H' st (Feed.str z)⟩
  | _=>exact q0.elim⟩
noncomputable def rng1:List D->Res (List D)
 | [.int j]=>gd (-(2^62)<=j/\j<2^62) (.ok (intL 0 j.toNat))
 | _=>.bad
noncomputable def rng2:List D->Res (List D)
 | [.int i,.int j]=>gd (-(2^62)<=i/\i<2^62/\-(2^62)<=j/\j<2^62) (.ok (intL i (j - i).toNat))
 | _=>.bad
def rps1 {K:W.Frag}{F:Hp}{vs:List V}{d:D} (h:Rps K F vs [d]):∃v,vs=[v]/\Rp K F v d:=by
 cases h with
 | cons h hs=>cases hs;exact⟨_,rfl,h⟩
def rps2 {K:W.Frag}{F:Hp}{vs:List V}{d e:D} (h:Rps K F vs [d,e]):∃v w,vs=[v,w]/\Rp K F v d/\Rp K F w e:=by
 cases h with
 | cons h hs=>obtain⟨w,rfl,q⟩:=rps1 hs;exact⟨_,w,rfl,h,q⟩
set_option tactic.hygienic true in
def u1Y {a:Expr} (hm:X.mg "range"=none) (ha:DA X xq [a] fa) (hg:Gl X "range":=by rfl):DI X xq tg (.Call (.Name "range" p) [a] [] pos) (λρ=>(fa ρ).bind rng1) :=
 ⟨λpins s σ H R I z9=>un5 z9 λB F ρ R' q=>v2b hg hm ha.out (u0K (u0C ha.ns).1) pins s σ H R I (seqA R' q λds vs F1 H1 s1 R1 p1 q1=>by
  unfold rng1 at q1
  split at q1
  ·rename_i j
   obtain⟨⟨h1,h2⟩,q2⟩:=u3k q1
   obtain⟨v,rfl,pv⟩:=rps1 p1
   cases pv
   exact⟨j,rfl,h1,h2,q2 _ F1 H1 s1 (Feed.rng 0 _)⟩
  ·exact q1.elim)⟩
set_option tactic.hygienic true in
def v2V {a b:Expr} (hm:X.mg "range"=none) (ha:DA X xq [a,b] fa) (hg:Gl X "range":=by rfl):DI X xq tg (.Call (.Name "range" p) [a,b] [] pos) (λρ=>(fa ρ).bind rng2) :=
 ⟨λpins s σ H R I z9=>un5 z9 λB F ρ R' q=>v2a hg hm ha.out (by rw[u0K (u0C ha.ns).1,u0K (u0C (u0C ha.ns).2).1];rfl) (u0K (u0C (u0C ha.ns).2).1) pins s σ H R I (seqA R' q λds vs F1 H1 s1 R1 p1 q1=>by
  unfold rng2 at q1
  split at q1
  ·rename_i i j
   obtain⟨⟨h1,h2,h3,h4⟩,q2⟩:=u3k q1
   obtain⟨v,w,rfl,pv,pw⟩:=rps2 p1
   cases pv
   cases pw
   exact⟨i,j,rfl,⟨h1,h2,h3,h4⟩,q2 _ F1 H1 s1 (Feed.rng i _)⟩
  ·exact q1.elim)⟩
noncomputable def enumL (ds:List D):List D:=ds.zipIdx.map λp=>.tup [.int (p.2:Nat),p.1]
def Feed.enum {K:W.Frag}{F:Hp}{a:Addr}{xs:List V}{ds:List D} (h:SqL K F a xs) (r:Rps K F xs ds):Feed K F (Ite K a) (enumL ds) where
 go i H e hi:=by
  have hi':i<xs.length:=by rw[r.length];simpa[enumL] using hi
  exact⟨xs,xs[i],e.seq h,by simp[hi']⟩
 yld i F1 H x H' d e1 e2 hd y:=by
  obtain⟨p,v,hp,rfl,rfl,y⟩:=y
  have hv:xs[i]?=some v:=y xs ((e1.trans e2).seq h)
  have hd2:∃d0,ds[i]?=some d0/\d=.tup [.int (i:Nat),d0]:=by
   unfold enumL at hd
   rw[v7,List.getElem?_zipIdx] at hd
   cases q:ds[i]? with
   | none=>rw[q] at hd;cases hd
   | some d0=>rw[q] at hd;simp at hd;exact⟨d0,rfl,hd.symm⟩
  obtain⟨d0,q0,rfl⟩:=hd2
  obtain⟨w,hw,pw⟩:=r.get q0
  rw[hv] at hw;cases hw
  have s:=Stp.new (o:=.tup [.int (i:Nat),v]) e2 hp
  exact⟨_,s,.tup (.inl (.inl u0j)) (.cons (.int _) (.cons (pw.same (e1.trans s.ff)) .nil))⟩
 stop i H e hi:=⟨xs,e.seq h,by rw[r.length];simpa[enumL] using hi⟩
noncomputable def enum1:List D->Res (List D)
 | [.lst ds]=>.ok (enumL ds)
 | _=>.bad
def u7o {es:List Expr}{k:Nat}{tp:Pos}{a:Expr} (hm:X.mg "enumerate"=none) (ha:DA X xq [a] fa) (hg:Gl X "enumerate":=by rfl):DI X xq (.Tuple es k tp) (.Call (.Name "enumerate" p) [a] [] pos) (λρ=>(fa ρ).bind enum1) :=
 ⟨λpins s σ H R I z9=>un5 z9 λB F ρ R' q=>pi_enum hg hm ha.out (u0K (u0C ha.ns).1) pins s σ H R I (seqA R' q λds vs F1 H1 s1 R1 p1 q1=>by
  unfold enum1 at q1
  split at q1
  ·obtain ⟨v,rfl,pv⟩:=rps1 p1
   cases pv with
   | lst hq hs=>exact⟨_,_,rfl,.inl (hq.same R1.fh),q1 _ F1 H1 s1 (Feed.enum (.inl hq) hs)⟩
  ·exact q1.elim)⟩
end
noncomputable def rhoC (k:Nat) (outs:List Nat) (ρ:Rho):Rho:=List.replicate k none++outs.map λj=>(ρ[j]?).join
set_option tactic.hygienic true in
def getC {α:Type}{k:Nat}{outs:List Nat}{l:List (Option α)}{i:Nat}{x:α} (h:(List.replicate k none++outs.map λj=>(l[j]?).join)[i]?=some (some x)):k<=i/\∃j,outs[i - k]?=some j/\l[j]?=some (some x):=by
 rw[z2H] at h
 split at h
 ·rename_i q
  rw[z0E] at h
  split at h<;>simp at h
 ·rename_i q
  simp only[z2C] at h q
  refine⟨by omega,?_⟩
  rw[v7] at h
  cases e:outs[i - k]? with
  | none=>rw[e] at h;cases h
  | some j =>
   rw[e] at h
   refine⟨j,rfl,?_⟩
   simp only[Option.map_some,Option.some.injEq] at h
   cases e2:l[j]? with
   | none=>rw[e2] at h;cases h
   | some y=>rw[e2] at h;simpa using h
def atC {α:Type}{k:Nat}{outs:List Nat}{l:List (Option α)}{i j:Nat} (hi:k<=i) (h:outs[i - k]?=some j):(List.replicate k none++outs.map λj=>(l[j]?).join)[i]?=some ((l[j]?).join):=by
 rw[z1C (by simpa using hi),z2C,v7,h];rfl
def Rel.comp {K:W.Frag}{B:Hp×Hp}{ρ:Rho}{σ:St}{F H:Hp}{k:Nat}{outs:List Nat} (R:Rel K B ρ σ F H) (nd:outs.Nodup):Rel K B (rhoC k outs ρ) (stC k outs σ) F H where
 st:=R.st
 len:=by unfold stC rhoC;simp
 val i d e:=by
  obtain⟨hi,j,h1,h2⟩:=getC e
  obtain⟨v,q1,q2⟩:=R.val j d h2
  exact⟨v,by unfold stC;rw[atC hi h1,q1];rfl,q2⟩
 own i o e:=by
  obtain⟨hi,j,h1,h2⟩:=getC e
  obtain⟨a,h,q1,q2⟩:=R.own j o h2
  exact⟨a,h,by unfold stC;rw[atC hi h1,q1];rfl,q2⟩
 dis i i' o u a e e' x y:=by
  obtain⟨hi,j,h1,h2⟩:=getC e
  obtain⟨hi',j',h1',h2'⟩:=getC e'
  obtain⟨_,jx,g1,g2⟩:=getC (l:=σ) x
  obtain⟨_,jy,g1',g2'⟩:=getC (l:=σ) y
  rw[h1] at g1;cases g1
  rw[h1'] at g1';cases g1'
  have ej:=R.dis j j' o u a h2 h2' g2 g2'
  subst ej
  have:=(List.getElem?_inj (u7.mp h1).1 nd).mp (h1.trans h1'.symm)
  omega
noncomputable def compD (g:D->Rho->Res Rho) (fT:Rho->Res Bool) (fe:Rho->Res D) (ρ:Rho):List D->Res (List D)
 | []=>.ok []
 | d::ds=>(noE (g d ρ)).bind λρ1=>(noE (fT (frz ρ1))).bind λb=>if b=true then (noE (fe ρ1)).bind λy=>(compD g fT fe ρ ds).bind λys=>.ok (y::ys) else compD g fT fe ρ ds
def xqF:XQ:=λ_ _ _=>False
structure DF (X:Cx) (xq:XQ) (es:List Expr) (f:Rho->Res Bool):Prop where
 out:PIf X es (liftT X.K xq f)
def u6Z {α:Type}{r:Res α}{P:α->Prop} (h:(noE r).all P E):r.all P E':=by
 cases r with
 | ok a=>exact h
 | err x=>exact h.elim
 | bad=>exact h.elim
section
variable {X:Cx}{xq:XQ}{tg iter elt c:Expr}{fA:Rho->Res Bool}{fe:Rho->Res D}{fi:Rho->Res (List D)}{g:D->Rho->Res Rho}{ifs:List Expr}{scope:Scope}{pos:Pos}{ix:List Nat}
def u1A:DF X xq [] (λ_=>.ok true):=⟨λpins s σ H Q I z9=>un5 z9 λB F ρ R q=>pif_nil pins s σ H Q I (q H (Stp.refl R.fh))⟩
def u5M (h:DT X xq c fA):DF X xq [c] fA:=⟨pif_one h.out⟩
def u5O {K:W.Frag}{k:Nat}{outs:List Nat} (nd:outs.Nodup) (hix:∀j∈ix,j<k) {σ:St}{H:Hp}{Q:VK} (h:liftN K xq (λρ=>(fi ρ).bind λds=>gd (ds.length<=sizeLine) ((compD g fA fe (rhoC k outs ρ) ds).bind λys=>.ok (.l ys))) σ H Q) :
  tComp k outs (liftI K xq fi) (liftG K ix g) (liftT K xqF fA) (liftE K xqF fe) σ H Q:=by
 obtain⟨B,F,ρ,R,q⟩:=h
 exact
  ⟨B,F,ρ,R,Res.all_mono (Res.all_bind.mp q) (λds q1 J F0 H0 s0 fd=>by
   obtain⟨hz,q1⟩:=u3k q1
   let T:List D->Prop:=λys=>∀a h F' H',Stp F H F' H'->F' a=none->H a=none->H' a=some h->Ro K F' a h (.l ys)->Q (.ref a) H'
   have q2:(compD g fA fe (rhoC k outs ρ) ds).all T (ErrK K xq B ρ σ):=Res.all_mono (Res.all_bind.mp q1) (λ_ z=>z) λ_ z=>z
   clear q1
   refine⟨λi m ys H'=>m=ds.length - i/\i<=ds.length/\∃F' es,Stp F H F' H'/\Same F0 F'/\Rps K F' ys es/\es.length<=i/\(compD g fA fe (rhoC k outs ρ) (ds.drop i)).all (λr=>T (es++r)) (ErrK K xq B ρ σ),
    ⟨ds.length,rfl,z1H _,F0,[],s0,Same.refl _,.nil,y7 _,q2⟩,?_⟩
   rintro i m ys H' ⟨rfl,hi',F',es,st,e0,rs,hl,q3⟩
   refine⟨by rw[rs.length];omega,?_⟩
   by_cases hlt:i<ds.length
   ·right
    refine⟨fd.go i H' (e0.trans st.fh) hlt,λys' H2=>i+1<=ds.length/\∃F2 es',Stp F H F2 H2/\Same F0 F2/\Rps K F2 ys' es'/\es'.length<=i+1/\(compD g fA fe (rhoC k outs ρ) (ds.drop (i+1))).all (λr=>T (es'++r)) (ErrK K xq B ρ σ),
     λys' H2 p=>⟨ds.length - (i+1),by omega,rfl,p.1,p.2⟩,λx H2 y=>?_⟩
    have hd:ds[i]?=some ds[i]:=by simp[hlt]
    obtain⟨F2,s2,p2⟩:=fd.yld i F' H' x H2 _ e0 st.fh hd y
    rw[z3D hlt] at q3
    have R2:Rel K B (rhoC k outs ρ) (stC k outs σ) F2 H2:=((R.step st).step s2).comp nd
    have q4:=Res.all_bind.mp (show((noE (g ds[i] (rhoC k outs ρ))).bind _).all _ _ from q3)
    refine⟨B,F2,_,_,R2,p2,u6Z (Res.all_mono q4 (λρ1 q5 σ3 R3 l3 k3=>⟨?_,?_⟩) λ_ z=>z)⟩
    ·apply List.ext_getElem?
     intro j
     rw[List.getElem?_drop,k3 (k+j) λz=>by have:=hix _ z;omega]
     unfold stC
     rw[z1C (by simp),z2C,Nat.add_sub_cancel_left]
    ·refine ⟨B,F2,ρ1,R3,u6Z (Res.all_mono (Res.all_bind.mp q5) (fun b q6 H3 s3=>?_) fun _ z=>z)⟩
     have R4:=R3.step s3
     cases b with
     | false=>exact⟨hlt,F2,es,(st.trans s2).trans s3,e0.trans s2.ff,rs.same s2.ff,by omega,q6⟩
     | true =>
      refine⟨B,F2,ρ1,R4,u6Z (Res.all_mono (Res.all_bind.mp (show((noE (fe ρ1)).bind _).all _ _ from q6)) (λd q7 v F4 H4 s4 p4=>?_) λ_ z=>z)⟩
      refine⟨hlt,F4,es++[d],((st.trans s2).trans s3).trans s4,(e0.trans s2.ff).trans s4.ff,((rs.same s2.ff).same s4.ff).append (.cons p4 .nil),by simp;omega,?_⟩
      exact Res.all_mono (Res.all_bind.mp q7) (λr z=>by
       have z':T (es++d::r):=z
       simpa using z') λ_ z=>z
   ·left
    have e:i=ds.length:=by omega
    subst e
    rw[List.drop_length] at q3
    have q4:T es:=by simpa using(show T (es++[]) from q3)
    exact⟨fd.stop _ H' (e0.trans st.fh) (y7 _),λp n=>q4 p _ F' _ (st.trans (Stp.only st.fh (u0p n))) (st.fh.free n) (st.hh.free n) u0j (.l rs)⟩) λ_ e=>e⟩
def u0T (own:List Str) (outs:List Nat) (hc:X.calm=true) (ok:CompOk X.env.scope X.N own outs scope) (hi:DI X xq tg iter fi) (hg:∀{cl C s H fp},DG (cxC X own outs scope cl C s H fp) tg ix g) (hf:∀{cl C s H fp},DF (cxC X own outs scope cl C s H fp) xqF ifs fA) (he:∀{cl C s H fp},DE (cxC X own outs scope cl C s H fp) xqF elt fe)
 (nd:outs.Nodup:=by decide) (hix:∀j∈ix,j<own.length:=by decide) (hs:∀x,foldedSetIterable iter X.env x=pure x:=by intro _;rfl) :
 DN X xq (.ListComp elt [⟨tg,iter,ifs,0⟩] scope pos) (λρ=>(fi ρ).bind λds=>gd (ds.length<=sizeLine) ((compD g fA fe (rhoC own.length outs ρ) ds).bind λys=>.ok (.l ys))) :=
 ⟨λpins s σ H Q I h=>pe_comp own outs hc ok hi.out (g:=liftG X.K ix g) (ti:=liftT X.K xqF fA) (te:=liftE X.K xqF fe) (λ{cl C s H fp}=>hg.out) (λ{cl C s H fp}=>hf.out) (λ{cl C s H fp}=>he.out) hs pins s σ H Q I (u5O nd hix h)⟩
def ds_comp (own:List Str) (outs:List Nat) (hc:X.calm=true) (ok:CompOk X.env.scope X.N own outs scope) (hN:X.N.Nodup) (hi:DI X xq tg iter fi) (hg:∀{cl C s H fp},DG (cxC X own outs scope cl C s H fp) tg ix g) (hf:∀{cl C s H fp},DF (cxC X own outs scope cl C s H fp) xqF ifs fA) (he:∀{cl C s H fp},DE (cxC X own outs scope cl C s H fp) xqF elt fe)
 (nd:outs.Nodup:=by decide) (hix:∀j∈ix,j<own.length:=by decide) (hy:X.N.findIdx? (λy=>y==x)=some i:=by rfl) (hx:X.env.scope.names.lookup x=some .local:=by rfl)
 (hsw:swapsWith (.ListComp elt [⟨tg,iter,ifs,0⟩] scope pos) (some (.Name x py)) spos.line X.env=pure true:=by rfl) (hs:∀x,foldedSetIterable iter X.env x=pure x:=by intro _;rfl) :
 DS X xq (.Assign [.Name x py] (.ListComp elt [⟨tg,iter,ifs,0⟩] scope pos) spos) (λρ=>((fi ρ).bind λds=>gd (ds.length<=sizeLine) ((compD g fA fe (rhoC own.length outs ρ) ds).bind λys=>.ok (OD.l ys))).go ρ λo=>.nx (ρ.set i (some (.own o)))) :=
 DS.of (u6r own outs hc ok hN (u6K hy) hx hi.out (g:=liftG X.K ix g) (ti:=liftT X.K xqF fA) (te:=liftE X.K xqF fe) (λ{cl C s H fp}=>hg.out) (λ{cl C s H fp}=>hf.out) (λ{cl C s H fp}=>he.out) hsw hs) λB F ρ σ H T R q =>
  u5O nd hix ⟨B,F,ρ,R,Res.all_mono (u0O q.out) (λo q a h F' H' s n1 n2 e1 r1=>q _ F' H' ((R.step s).setOwn n1 (R.st.hh.free n2) e1 r1 λj u w z=>by
   obtain⟨b,hh,p1,p2,p3,p4,p5⟩:=R.own j u w
   rw[p1] at z;cases z;rw[p4] at n2;cases n2)) λx q=>errOf q⟩
end
section
variable {X:Cx}{xq:XQ}{a b e o:Expr}{es:List Expr}{fe:Rho->Res D}{fs:Rho->Res (List D)}{x:Str}{p pos pos' apos cpos:Pos}
def d_B {id:String}{g:FD} (hc:CallR X (.builtin id) (rDs X.K g)) (hm:X.mg x=none) (hv:bootBuiltins x=some (.builtin id)) (ha:DA X xq (e::es) fs) (hg:Gl X x:=by rfl) (hn:x≠"__name__":=by decide) (hdb:(x==("__debug__":Str))=false:=by decide) :
  DE X xq (.Call (.Name x p) (e::es) [] pos) (λρ=>(fs ρ).bind λds=>noE (g ds)) :=
 DE.of (pcB hc hg hm hv ha.out hn hdb ha.ns) λB F ρ σ H Q R q=>seqA R q λds vs F1 H1 s1 R1 p1 q1=>⟨F1,ds,R1.fh,p1,doneN s1 q1⟩
def d_T (hc:CallR X (.type T) (rDs X.K g)) (hm:X.mg x=none) (hv:bootBuiltins x=some (.type T)) (ha:DA X xq (e::es) fs) (hg:Gl X x:=by rfl) (hn:x≠"__name__":=by decide) (hdb:(x==("__debug__":Str))=false:=by decide) :
 DE X xq (.Call (.Name x p) (e::es) [] pos) (λρ=>(fs ρ).bind λds=>noE (g ds)) :=
 DE.of (pcT hc hg hm hv ha.out hn hdb ha.ns) λB F ρ σ H Q R q=>seqA R q λds vs F1 H1 s1 R1 p1 q1=>⟨F1,ds,R1.fh,p1,doneN s1 q1⟩
noncomputable def gLen:List D->Res D
 | [.str z]=>.ok (.int z.length)
 | [.lst ds]=>.ok (.int ds.length)
 | [.tup ds]=>.ok (.int ds.length)
 | _=>.bad
def u0L:CallR X (.builtin "len") (rDs X.K gLen):=by
 intro pins s σ H xs us Q I r z989
 obtain⟨F,ds,fh,ps,q⟩:=z989
 unfold gLen at q
 split at q
 ·obtain ⟨v,rfl,pv⟩:=rps1 ps
  cases pv with
  | str hz=>exact u7t pins s σ H _ us Q I r ⟨_,_,rfl,⟨hz,rfl⟩,q _ F H (Stp.refl fh) (.int _)⟩
 ·obtain ⟨v,rfl,pv⟩:=rps1 ps
  cases pv with
  | lst hq hs=>exact u7t pins s σ H _ us Q I r ⟨_,_,rfl,.inl ⟨_,.inl (hq.same fh),rfl⟩,q _ F H (Stp.refl fh) (by rw[hs.length];exact .int _)⟩
 ·obtain ⟨v,rfl,pv⟩:=rps1 ps
  cases pv with
  | tup hq hs=>exact u7t pins s σ H _ us Q I r ⟨_,_,rfl,.inr ⟨_,fh.seqT hq,rfl⟩,q _ F H (Stp.refl fh) (by rw[hs.length];exact .int _)⟩
 ·exact q.elim
noncomputable def tyN:D->Option String
 | .non=>some "NoneType"
 | .bl _=>some "bool"
 | .int _=>some "int"
 | .str _=>some "str"
 | .lst _=>some "list"
 | .tup _=>some "tuple"
 | .dct _=>some "dict"
 | _=>none
noncomputable def isT (t T:String):Option Bool:=if T∈["bool","int","str","list","tuple","dict"] then some (t==T||(t=="bool"&&T=="int")) else none
set_option tactic.hygienic true in
def v2y (K:W.Frag) {d:D}{t T:String}{b:Bool} (ht:tyN d=some t) (h:isT t T=some b):W.kitOne K (.type t) (.type T)=some b:=by
 unfold isT at h
 split at h
 ·rename_i hT
  simp only[z8,z1G,or_false] at hT
  cases h
  cases d<;>simp only[tyN,Option.some.injEq,reduceCtorEq] at ht<;>subst ht<;>rcases hT with rfl|rfl|rfl|rfl|rfl|rfl<;>rfl
 ·cases h
def v3U (I:Inv X pins σ H s) (rx:RelV v u) (fh:Same F H) (pv:Rp X.K F v d) (ht:tyN d=some t)
 (e:W.kitOne X.K (.type t) c=some bb) (h:∀tk,Q (.bool bb) { s with toks:=tk }):wpAny (model X.prog X.w) A (call (.builtin "isinstance") [u,c]) Q E s:=by
 cases pv with
 | non=>cases ht;exact u1X I rx .non e h
 | bl y=>cases ht;exact u1X I rx (.bl y) e h
 | int i=>cases ht;exact u1X I rx (.int i) e h
 | str hz=>cases ht;exact u1X I rx (.str _) e h
 | ty T=>cases ht
 | lst hq hs =>
  cases ht
  rcases hq with hq|⟨ob,hq⟩
  ·exact u1X I rx (.lst (fh _ _ hq)) e h
  ·exact u1X I rx (.frz (fh _ _ hq)) e h
 | tup hq hs =>
  cases ht
  obtain⟨its,r,p,hz⟩:=I.tuple (fh.seqT hq)
  obtain⟨ob,h1,h2,_⟩:=p
  cases (show u=Value.ref _ from rx)
  exact W.kia_one W.kitx_tuple I.kIn ⟨ob,h1,h2⟩ e (λz=>nomatch z) h
 | dK hq hs=>cases ht;exact u1X I rx (.dK (fh _ _ hq)) e h
 | ins hq hs=>cases ht
 | exc hq hr hs=>cases ht
 | dn hq hs=>cases ht
noncomputable def gIs:List D->Res D
 | [d,.ty T]=>match tyN d with
  | some t=>match isT t T with
   | some b=>.ok (.bl b)
   | none=>.bad
  | none=>.bad
 | _=>.bad
set_option tactic.hygienic true in
def v4j:CallR X (.builtin "isinstance") (rDs X.K gIs):=by
 intro pins s σ H xs us Q I r z990
 obtain⟨F,ds,fh,ps,q⟩:=z990
 unfold gIs at q
 split at q
 ·rename_i d T
  obtain⟨v,w,rfl,pv,pw⟩:=rps2 ps
  cases pw
  cases ht:tyN d with
  | none=>rw[ht] at q;exact q.elim
  | some t =>
   rw[ht] at q
   cases hb:isT t T with
   | none=>simp only[hb] at q;exact q.elim
   | some bb =>
    simp only[hb] at q
    cases r with
    | cons r1 r2 =>
     cases r2 with
     | cons r2 r3 =>
      cases r3
      cases r2
      exact v3U I r1 fh pv ht (v2y X.K ht hb) λtk=>⟨.bl bb,H,I.tok _,rfl,q _ F H (Stp.refl fh) (.bl bb)⟩
 ·exact q.elim
noncomputable def blsOf:List D->Option (List Bool)
 | []=>some []
 | .bl b::r=>(blsOf r).map (b::·)
 | _=>none
theorem v0x {K:W.Frag}{F:Hp}:∀{xs:List V}{ds:List D}{bs:List Bool},Rps K F xs ds->blsOf ds=some bs->xs=bs.map V.bl
 | _,_,_,.nil,e=>by cases e;rfl
 | _,_,_,.cons (d:=d) (ds:=ds) h hs,e=>by
  cases d<;>simp only[blsOf,reduceCtorEq] at e
  cases h
  cases q:blsOf ds with
  | none=>rw[q] at e;cases e
  | some bs=>rw[q] at e;cases e;rw[v0x hs q];rfl
noncomputable def gAll:List D->Res D
 | [.lst ds]=>match blsOf ds with
  | some bs=>.ok (.bl (bs.all id))
  | none=>.bad
 | _=>.bad
set_option tactic.hygienic true in
def v1y (hc:X.calm=true):CallR X (.builtin "all") (rDs X.K gAll):=by
 intro pins s σ H xs us Q I r z991
 obtain⟨F,ds,fh,ps,q⟩:=z991
 unfold gAll at q
 split at q
 ·rename_i ds
  obtain⟨v,rfl,pv⟩:=rps1 ps
  cases pv with
  | lst hq hs =>
   cases hb:blsOf ds with
   | none=>rw[hb] at q;exact q.elim
   | some bs =>
    rw[hb] at q
    exact v4i hc pins s σ H _ us Q I r ⟨_,bs,rfl,.inl (v0x hs hb ▸ hq.same fh),q _ F H (Stp.refl fh) (.bl _)⟩
 ·exact q.elim
noncomputable def gTuple:List D->Res D
 | [.lst ds]=>.ok (.tup ds)
 | [.tup ds]=>.ok (.tup ds)
 | _=>.bad
def u1C:CallR X (.type "tuple") (rDs X.K gTuple):=by
 intro pins s σ H xs us Q I r z992
 obtain⟨F,ds,fh,ps,q⟩:=z992
 unfold gTuple at q
 split at q
 ·obtain ⟨v,rfl,pv⟩:=rps1 ps
  cases pv with
  | lst hq hs=>exact u3Z pins s σ H _ us Q I r ⟨_,_,rfl,.inl ⟨.inl (hq.same fh),λl n=>q _ _ _ (Stp.new fh n) (.tup (.inl (.inl u0j)) (hs.same (Stp.new fh n).ff))⟩⟩
 ·obtain ⟨v,rfl,pv⟩:=rps1 ps
  cases pv with
  | tup hq hs=>exact u3Z pins s σ H _ us Q I r ⟨_,_,rfl,.inr ⟨fh.seqT hq,q _ F H (Stp.refl fh) (.tup hq hs)⟩⟩
 ·exact q.elim
noncomputable def seqOf:List D->Res OD
 | [.lst ds]=>.ok (.l ds)
 | [.tup ds]=>.ok (.l ds)
 | _=>.bad
def v2T (hm:X.mg "list"=none) (ha:DA X xq [e] fs) (hg:Gl X "list":=by rfl):DN X xq (.Call (.Name "list" p) [e] [] pos) (λρ=>(fs ρ).bind seqOf) :=
 ⟨λpins s σ H Q I z9=>un5 z9 λB F ρ R q=>pcT (u8y) hg hm rfl ha.out (by decide) (by decide) ha.ns pins s σ H Q I (seqA R q λds vs F1 H1 s1 R1 p1 q1=>by
  unfold seqOf at q1
  split at q1
  ·obtain ⟨v,rfl,pv⟩:=rps1 p1
   cases pv with
   | lst hq hs=>exact⟨_,_,rfl,.inl (.inl (hq.same R1.fh)),λl n=>q1 l _ F1 _ (s1.trans (Stp.only R1.fh (u0p n))) (R1.fh.free n) (s1.hh.free n) u0j (.l hs)⟩
  ·obtain ⟨v,rfl,pv⟩:=rps1 p1
   cases pv with
   | tup hq hs=>exact⟨_,_,rfl,.inr (R1.fh.seqT hq),λl n=>q1 l _ F1 _ (s1.trans (Stp.only R1.fh (u0p n))) (R1.fh.free n) (s1.hh.free n) u0j (.l hs)⟩
  ·exact q1.elim)⟩
noncomputable def gMin:List D->Res D
 | [.int i,.int j]=>.ok (.int (if j<i then j else i))
 | _=>.bad
noncomputable def gMax:List D->Res D
 | [.int i,.int j]=>.ok (.int (if j > i then j else i))
 | _=>.bad
def c_min (hc:X.calm=true):CallR X (.builtin "min") (rDs X.K gMin):=by
 intro pins s σ H xs us Q I r z993
 obtain⟨F,ds,fh,ps,q⟩:=z993
 unfold gMin at q
 split at q
 ·obtain ⟨v,w,rfl,pv,pw⟩:=rps2 ps
  cases pv
  cases pw
  exact v3f hc pins s σ H _ us Q I r ⟨_,_,rfl,q _ F H (Stp.refl fh) (.int _)⟩
 ·exact q.elim
def c_max (hc:X.calm=true):CallR X (.builtin "max") (rDs X.K gMax):=by
 intro pins s σ H xs us Q I r z994
 obtain⟨F,ds,fh,ps,q⟩:=z994
 unfold gMax at q
 split at q
 ·obtain ⟨v,w,rfl,pv,pw⟩:=rps2 ps
  cases pv
  cases pw
  exact v3g hc pins s σ H _ us Q I r ⟨_,_,rfl,q _ F H (Stp.refl fh) (.int _)⟩
 ·exact q.elim
noncomputable def getL (ρ:Rho) (i:Nat):Res (List D):=match ρ[i]? with
 | some (some (.own (.l ds)))=>.ok ds
 | _=>.bad
set_option tactic.hygienic true in
def u9w (h:(getL ρ i).all P E):∃ds,ρ[i]?=some (some (.own (.l ds)))/\P ds:=by
 unfold getL at h
 split at h
 ·rename_i d e;exact⟨d,e,h⟩
 ·exact h.elim
def u1f (i:Nat) (he:DE X xq e fe) (hN:X.N[i]?=some x:=by rfl) (hv:Vis X.env.scope x:=by first|exact Or.inl rfl|exact Or.inr (Or.inl rfl)|exact Or.inr (Or.inr rfl)) (hd:(x==("__debug__":Str))=false:=by decide) (hcd:(x==("__classdict__":Str))=false:=by decide)
 (hs:notStar e=true:=by rfl) (hbase:attributeBase (.Name x p) "append" X.env (eval (.Name x p) X.env)=eval (.Name x p) X.env:=by rfl) (hline:(apos.endLine==cpos.line)=true:=by rfl)
 (hsw:swapsWith (.Call (.Attribute (.Name x p) "append" apos) [e] [] cpos) none pos.line X.env=pure false:=by rfl) :
 DS X xq (.Expr (.Call (.Attribute (.Name x p) "append" apos) [e] [] cpos) pos) (λρ=>(getL ρ i).go ρ λds=>(fe ρ).go ρ λd=>if ds.length<sizeLine then .nx (ρ.set i (some (.own (.l (ds++[d]))))) else .bad) :=
 DS.of (u6P (pbm PySem.F.plainAttrs_list PySem.F.slot_list_append PySem.F.type_list_append u8a (u3m hN hv hd hcd) (pac he.out u4z hs) (by rw[z0D,hs];rfl) rfl hbase hline) hsw) λB F ρ σ H T R q=>by
  obtain⟨ds,e1,q1⟩:=u9w (u0O q.out)
  obtain⟨l,h,h1,h2,h3,h4,h5⟩:=R.own i _ e1
  cases h5 with
  | l hs =>
   refine⟨.ref l,h1,.inl ⟨rfl,_,.inl (.inl h4)⟩,B,F,ρ,R,Res.all_mono (u0O q1) (λd q2 v F' H' st pv=>?_) λ_ z=>errOf z⟩
   by_cases hz:ds.length<sizeLine
   ·rw [if_pos hz] at q2
    have R':=R.step st
    refine⟨l,_,v,rfl,rfl,st.hh _ _ h4,by rw[hs.length];exact hz,q2 σ F' _ (R'.write (e:=e1) h1 (.l ((hs.same st.ff).append (.cons pv .nil))))⟩
   ·rw[if_neg hz] at q2;exact q2.elim
def spF (K:W.Frag) (f:FD):Sp:=λvs H Q _=>∃F ds,Same F H/\Rps K F vs ds/\(noE (f ds)).all (λd=>∀v F' H',Stp F H F' H'->Rp K F' v d->Q v H') (λ_=>False)
def d_fn {P:Program}{w:World}{K:W.Frag}{mg:MG}{base:Heap}{k k':Nat}{ps:List Str}{f:FD} (h:Callee P w K mg base k x ps (spF K f)) (hr:Room k' X.A) (ha:DA X xq (e::es) fs) (hk:k<=k':=by decide) (hg:Gl X x:=by rfl)
  (eP:X.prog=P:=by rfl) (ew:X.w=w:=by rfl) (eK:X.K=K:=by rfl) (em:X.mg=mg:=by rfl) (eb:X.base=base:=by rfl) (hdb:(x==("__debug__":Str))=false:=by decide):DE X xq (.Call (.Name x p) (e::es) [] pos) (λρ=>(fs ρ).bind λds=>noE (f ds)) :=
 DE.of (pe_fn h hr hk ha.out hg eP ew eK em eb hdb ha.ns) λB F ρ σ H Q R q=>seqA R q λds vs F1 H1 s1 R1 p1 q1=>by
  subst eK
  refine⟨F1,ds,R1.fh,by rw[List.append_nil];exact p1,?_⟩
  cases e:f ds with
  | ok d=>rw[e] at q1;exact λv F' H' st pv=>q1 v F' H' (s1.trans st) pv
  | err x=>rw[e] at q1;exact q1.elim
  | bad=>rw[e] at q1;exact q1.elim
noncomputable def outR:Out->Res D
 | .nx _=>.ok .non
 | .rt d=>.ok d
 | .er x _=>.err x
 | _=>.bad
noncomputable def startD (n:Nat) (ds:List D):Rho:=ds.map (λd=>some (.val d))++List.replicate (n - ds.length) none
set_option tactic.hygienic true in
def Rps.begin {K:W.Frag}{F H:Hp}{N:List Str}{vs:List V}{ds:List D} (fh:Same F H) (r:Rps K F vs ds):Rel K (F,H) (startD N.length ds) (start N vs) F H where
 st:=Stp.refl fh
 len:=by unfold startD L2.start;simp[r.length]
 val i d e:=by
  unfold startD at e
  unfold L2.start
  rw[z2H] at e
  split at e
  ·rename_i hi
   rw[v7] at e
   cases q:ds[i]? with
   | none=>rw[q] at e;cases e
   | some d' =>
    rw[q] at e
    cases e
    obtain⟨v,hv,p⟩:=r.get q
    exact⟨v,by rw[z2I (by have:=(u7.mp hv).1;simpa using this),v7,hv];rfl,p⟩
  ·rw [z0E] at e
   split at e<;>simp at e
 own i o e:=by
  unfold startD at e
  rw[z2H] at e
  split at e
  ·rw [v7] at e
   cases q:ds[i]? with
   | none=>rw[q] at e;cases e
   | some d'=>rw[q] at e;cases e
  ·rw [z0E] at e
   split at e<;>simp at e
 dis i j o u a e:=by
  exfalso
  unfold startD at e
  rw[z2H] at e
  split at e
  ·rw [v7] at e
   cases q:ds[i]? with
   | none=>rw[q] at e;cases e
   | some d'=>rw[q] at e;cases e
  ·rw [z0E] at e
   split at e<;>simp at e
end
section
variable {P:Program}{w:World}{K:W.Frag}{mg:MG}{base:Heap}
def Fun.okD {x qual:Str}{st:Stmt}{f:Addr}{fd:FuncData}{N ps:List Str}{k:Nat}{g:FD} (F:Fun K x qual st f fd) (S:FnScope N ps (defScope st)) (len:∀ds d,g ds=.ok d->ds.length=ps.length)
  (hbody:∀ (cdv:Value) (A:Around) (outer:List Env) (s:Shared) (H:Hp) (E:XK),Room k (A.deeper (envOfC qual (defScope st) s.heap.objs.size f cdv)) ->
   ∃t,DB (cxOf CX0 P w K mg base N qual (defScope st) f cdv A outer s H E).nox xqF (defBody st) t/\∀ds d,g ds=.ok d->outR (t (startD N.length ds))=.ok d):FnOk P w K mg base CX0 (k+1) f fd ps (spF K g) :=
 F.ok S (λvs H Q E ⟨G,ds,fh,r,q⟩=>by
  rw[r.length]
  cases e:g ds with
  | ok d=>exact len ds d e
  | err x=>rw[e] at q;exact q.elim
  | bad=>rw[e] at q;exact q.elim) λcdv A outer s H vs Q E hr ⟨G,ds,fh,r,q⟩=>by
  obtain⟨t,h1,h2⟩:=hbody cdv A outer s H E hr
  refine⟨_,h1.out,(G,H),G,_,r.begin fh,⟨?_⟩⟩
  cases e:g ds with
  | err x=>rw[e] at q;exact q.elim
  | bad=>rw[e] at q;exact q.elim
  | ok d =>
   rw[e] at q
   have z:=h2 ds d e
   generalize t (startD N.length ds)=o at z
   cases o with
   | nx ρ=>cases z;exact λσ F' H' R=>q .non F' H' R.st .non
   | rt d'=>cases z;exact λv F' H' st pv=>q v F' H' st pv
   | bk ρ=>cases z
   | ct ρ=>cases z
   | er x ρ=>cases z
   | bad=>cases z
end
section
variable {M:Model}{A:Around}{E:VP}{s:Shared}
def v2O (c1:A.frames=some (env::outer)) (c2:s.heap.FunFrames base (env::outer)) (c3:env.frame=some L)
 (c4:s.heap.get? e=some oe) (c5:oe.data=.fields vs) (c6:1<vs.size) (c7:e∉frs (env::outer))
 (k:∀ h' oT ts,(∀ b o,b∉frs (env::outer)->b≠e->s.heap.get? b=some o->h'.get? b=some o)->(∀ b o,b≠e->s.heap.get? b=some o->∃ sl,h'.get? b=some { o with slots:=sl }) ->
 h'.get? e=some (oe.mapFields (·.setIfInBounds 1 (.ref s.heap.objs.size)))->h'.get? s.heap.objs.size=some oT->oT.data=.fields ts->ts[3]?=some (rawInt L)->Q () { s with heap:=h' }) :
 wpAny M A (do setField (.ref e) 1 (<- EntryCells.newEntry head (<- frameOf env) .none (rawInt L) .none (<- entryPlaceOf L nx))) Q E s:=by
 refine wpAny_bind (wpAny_frameOf_fun c1 c2 c3 λg hg=>?_)
 refine wpAny_bind (wpAny_entryPlaceOf λpl hp=>?_)
 unfold EntryCells.newEntry newFields
 refine wpAny_bind (wpAny_newObj_type ?_ (hp.sizeOk5 _ _ _ _ _))
 obtain⟨g1,g2,g3⟩:=hg
 have ge:g.get? e=some oe:=(g2 e c7).trans c4
 have lt:e<g.objs.size:=y9 ge
 generalize hnt:({ cls:=.type "traceback",dict:=none,data:=.fields ([head,.ref L,.none,rawInt L,.none]++(if pl.isEmpty then List.replicate 6 Value.none else pl)).toArray }:Obj)=nt
 have ge2:(g.push nt).get? e=some oe:=z5 nt ge
 refine wpAny_setField ge2 c5 c6 ?_
 have nf:nt.isFreed=false:=by subst hnt;rfl
 have at_T:(g.push nt).get? g.objs.size=some nt:=z7 g nf
 have ne:e≠g.objs.size:=v9 lt
 rw[g1]
 refine k _ nt ([head,.ref L,.none,rawInt L,.none]++(if pl.isEmpty then List.replicate 6 Value.none else pl)).toArray (λb o b1 b2 b3=>?_) (λb o b2 b4=>?_) ?_ ?_ (by subst hnt;rfl) (by first|(simp;done)|(rcases hp with rfl|⟨_,_,_,_,_,_,_,rfl⟩<;>simp))
 ·rw[q9 _ _ (Ne.symm b2)];exact z5 nt ((g2 b b1).trans b3)
 ·obtain ⟨sl,q⟩:=g3 b o b4
  exact⟨sl,by rw[q9 _ _ (Ne.symm b2)];exact z5 nt q⟩
 ·exact z1E _ ge2 (Obj.isFreed_of_fields (Obj.data_mapFields c5 _))
 ·rw[<- g1,q9 _ _ ne];exact at_T
end
def Tb (n:Nat) (h:Heap) (H:Hp) (e:Addr) (fl:Value):Prop:=n<=e/\∃oe vs,h.get? e=some oe/\oe.data=.fields vs/\1<vs.size /\
 ((vs[1]?=some .none/\fl=.none)\/∃T oT ts,vs[1]?=some (.ref T)/\T≠e/\n<=T/\H T=none/\h.get? T=some oT/\oT.data=.fields ts/\ts[3]?=some fl)
def Tr (n:Nat) (h:Heap) (H:Hp) (e:Addr) (fl:Value):Prop:=n<=e/\∃oe vs,h.get? e=some oe/\oe.data=.fields vs/\1<vs.size /\
 ∃T oT ts,vs[1]?=some (.ref T)/\T≠e/\n<=T/\H T=none/\h.get? T=some oT/\oT.data=.fields ts/\ts[3]?=some fl
def Tr.tb (x:Tr n h H e fl):Tb n h H e fl:=by obtain⟨a,oe,vs,b,c,d,f⟩:=x;exact⟨a,oe,vs,b,c,d,.inr f⟩
def Tb.mono (x:Tb n h H e fl) (q:m<=n):Tb m h H e fl:=by
 obtain⟨a,oe,vs,b,c,d,f⟩:=x
 refine⟨v5 q a,oe,vs,b,c,d,?_⟩
 rcases f with f|⟨T,oT,ts,f1,f2,f3,f4⟩
 ·exact .inl f
 ·exact .inr ⟨T,oT,ts,f1,f2,v5 q f3,f4⟩
structure Old (X:Cx) (pins:LO) (n:Nat):Prop where
 s0:X.s₀.heap.objs.size<=n
 loc:X.env.locals<n
 cel:∀x c,X.env.cells.lookup x=some c->c<n
 pin:∀p∈X.pn++pins,p.1<n
def Inv.old (I:Inv X pins σ H s):Old X pins s.heap.objs.size :=
 ⟨I.sz,I.lt,λx c e=>by obtain⟨_,q⟩:=I.cell x c e;exact q.lt,λp hp=>y9 (I.pin p hp).1⟩
section
variable {X:Cx}{pins:LO}{σ:St}{H:Hp}{s:Shared}{n:Nat}{e C:Addr}{d:Option Addr}{h':Heap}
def Inv.flown {ch:List Addr}{t':Nat} (I:Inv X pins σ H s) (hst:X.stack=X.env::X.outer/\X.env.frame=some X.env.locals) (o:Old X pins n) (hch:∀b∈ch,n<=b) (hx:H e=some (XO C d e)) (hxe:ExAt h' e C d)
  (k1:∀b u,b∉frs X.stack->b≠e->b∉ch->s.heap.get? b=some u->h'.get? b=some u) (k2:∀b u,b≠e->b∉ch->s.heap.get? b=some u->∃sl,h'.get? b=some { u with slots:=sl })
  (k3:∀b∈ch,H b=none) (k4:∃u,h'.get? e=some u):Inv X pins σ H { s with heap:=h',toks:=t' }:=by
 have hfr:frs X.stack=X.env.locals::X.fs:=by
  rw[hst.1];unfold frs;rw[List.filterMap_cons,hst.2];rfl
 have ne:∀b,H b=none->b≠e:=λb hb z=>by subst z;rw[hx] at hb;cases hb
 refine I.step (ch:=ch) (h':=h') (H':=H) (g':=s.gens) (d':=s.drawn) (t':=t') (λb hb=>⟨.inr (v5 o.s0 (hch b hb)),λz=>?_,λx c q z=>?_,λp hp z=>?_⟩)
  (λb u b1 b2 b3 b4 b5=>k1 b u (by rw[hfr];simp[b1,b2]) (ne b b5) b3 b4) (λb u b1 b2 b3 b4 b5=>k2 b u (ne b b5) b3 b4) (λ_ _ _ _ z=>z) (λb u b3 b4=>?_) (λ_ _ z=>z) (λ_ _ _ z=>z) (λb ps z=>⟨#[],by simpa using z⟩) (λm hm=>?_) ?_ I.bare
 ·have w1:=o.loc;have w2:=hch b hb;subst z;exact absurd (w9 w1 w2) (z0G _)
 ·have w1:=o.cel x c q;have w2:=hch b hb;subst z;exact absurd (w9 w1 w2) (z0G _)
 ·have w1:=o.pin p hp;have w2:=hch b hb;rw[z] at w1;exact absurd (w9 w1 w2) (z0G _)
 ·by_cases z:b=e
  ·subst z;exact k4
  ·obtain⟨sl,q⟩:=k2 b u z b3 b4;exact⟨_,q⟩
 ·obtain ⟨u,es,ep,hu,hd,rr⟩:=hm
  have l1:X.env.locals≠e:=ne _ I.free
  have l2:X.env.locals∉ch:=λz=>absurd (w9 o.loc (hch _ z)) (z0G _)
  obtain⟨sl,q⟩:=k2 _ u l1 l2 hu
  exact⟨_,es,ep,q,hd,rr⟩
 ·intro a u q
  by_cases z:a=e
  ·subst z
   rw[hx] at q;cases q
   exact xo_ok hxe
  ·refine ObjOk.stay (I.hok a u q) (fun b v hb hv=>k1 b v (fun y=>?_) (fun y=>?_) (fun y=>?_) hv) (fun _ y=>y) (fun _ _ y=>y)
   ·rcases hb with rfl | hb
    ·rw[I.stkFree _ y] at q;cases q
    ·rw[I.stkFree _ y] at hb;cases hb
   ·rcases hb with rfl | hb
    ·exact z y
    ·subst y;rw[hx] at hb;unfold XO at hb;cases hb
   ·rcases hb with rfl | hb
    ·rw[k3 _ y] at q;cases q
    ·rw[k3 _ y] at hb;cases hb
end
def v4e (x:ExAt h e C d) (q:h.get? e=some oe) (q':h'.get? e=some (oe.mapFields (·.setIfInBounds 1 v))):ExAt h' e C d:=by
 obtain⟨t,f1,f2,f3,f4,f5,sl,z⟩:=x
 rw[q] at z
 cases z
 exact⟨t,v,f2,f3,f4,f5,sl,q'⟩
def v2N (x:ExAt h e C d) (q:h.get? e=some oe) (q':h'.get? e=some oe):ExAt h' e C d:=by
 obtain⟨t,f1,f2,f3,f4,f5,sl,z⟩:=x
 rw[q] at z
 cases z
 exact⟨t,f1,f2,f3,f4,f5,sl,q'⟩
def u6z {o:Obj}{vs:Array Value}{i:Nat}{v:Value} (h:o.data=.fields vs) (hi:i<vs.size):∃ws:Array Value,(o.mapFields (·.setIfInBounds i v)).data=.fields ws/\ws.size=vs.size/\ws[i]?=some v/\∀j,j≠i->ws[j]?=vs[j]?:=by
 refine⟨vs.setIfInBounds i v,Obj.data_mapFields h _,by simp,by simp[hi],λj hj=>?_⟩
 rw[Array.getElem?_setIfInBounds_ne (Ne.symm hj)]
section
variable {X:Cx}{pins:LO}{σ:St}{H:Hp}{s:Shared}{n:Nat}{e C:Addr}{d:Option Addr}{E:VP}{M:Model}
def rawne (L:Addr):((Value.none==rawInt L)=true)=False:=by simp[rawInt]
def u6y {fl w:Value}{T:Addr}{Q:Unit->Shared->Prop}{oe oT:Obj}{vs ts:Array Value} (I:Inv X pins σ H s) (hst:X.stack=X.env::X.outer/\X.env.frame=some X.env.locals) (o:Old X pins n) (hx:H e=some (XO C d e))
  (a0:n<=e) (a1:s.heap.get? e=some oe) (a2:oe.data=.fields vs) (a3:1<vs.size) (a4:vs[1]?=some (.ref T)) (a5:T≠e) (a6:n<=T) (a7:H T=none) (a8:s.heap.get? T=some oT) (a9:oT.data=.fields ts) (a10:ts[3]?=some fl)
  (k:∀s',Inv X pins σ H s'->Tr n s'.heap H e w->s'.heap.get? e=some oe->Q () s'):wpAny M X.A (setField (.ref T) 3 w) Q E s:=by
 have hz:3<ts.size:=(Array.getElem?_eq_some_iff.mp a10).1
 refine wpAny_setField a8 a9 hz ?_
 obtain⟨ws,w1,w2,w3,w4⟩:=u6z (v:=w) a9 hz
 have kT:=z1E (Obj.mapFields (·.setIfInBounds 3 w)) a8 (Obj.isFreed_of_fields w1)
 have ko:∀b u,b≠T->s.heap.get? b=some u->(s.heap.update T (Obj.mapFields (·.setIfInBounds 3 w))).get? b=some u:=λb u hb q=>by
  rw[q9 _ _ (Ne.symm hb)];exact q
 have ke:=ko e oe (Ne.symm a5) a1
 refine k _ (I.flown (ch:=[T]) (t':=s.toks) hst o (λb hb=>by rw[y6.mp hb];exact a6) hx (v2N (v1C I.hok hx) a1 ke) (λb u _ _ hb q=>ko b u (λz=>hb (by simp[z])) q)
  (λb u _ hb q=>⟨u.slots,ko b u (λz=>hb (by simp[z])) q⟩) (λb hb=>by rw[y6.mp hb];exact a7) ⟨_,ke⟩) ⟨a0,oe,vs,ke,a2,a3,T,_,ws,a4,a5,a6,a7,kT,w1,w3⟩ ke
def u9P {head:Value}{nx:Bool}{Q:Unit->Shared->Prop}{oe:Obj}{vs:Array Value} (I:Inv X pins σ H s) (hst:X.stack=X.env::X.outer/\X.env.frame=some X.env.locals) (o:Old X pins n) (hx:H e=some (XO C d e))
  (a0:n<=e) (a1:s.heap.get? e=some oe) (a2:oe.data=.fields vs) (a3:1<vs.size) (k:∀s',Inv X pins σ H s'->Tr n s'.heap H e (rawInt X.env.locals)->Q () s') :
  wpAny M X.A (do setField (.ref e) 1 (<- EntryCells.newEntry head (<- frameOf X.env) .none (rawInt X.env.locals) .none (<- entryPlaceOf X.env.locals nx))) Q E s:=by
 have fr:X.A.frames=some (X.env::X.outer):=by rw[I.ok.frames,hst.1]
 have ff:s.heap.FunFrames X.base (X.env::X.outer):=hst.1 ▸ I.stack
 have nm:e∉frs (X.env::X.outer):=λz=>by
  have:=I.stkFree e (by rw[hst.1];exact z)
  rw[hx] at this;cases this
 refine v2O fr ff hst.2 a1 a2 a3 nm λh' oT ts k1 k2 k3 k4 k5 k6=>?_
 have lt:e<s.heap.objs.size:=y9 a1
 have fz:=I.hok.fresh (y7 s.heap.objs.size)
 obtain⟨ws,w1,w2,w3,w4⟩:=u6z (v:=.ref s.heap.objs.size) a2 a3
 refine k _ (I.flown (ch:=[]) (t':=s.toks) hst o (λb hb=>by cases hb) hx (v4e (v1C I.hok hx) a1 k3) (λb u hb he _ q=>k1 b u (by rw[<- hst.1];exact hb) he q) (λb u he _ q=>k2 b u he q) (λb hb=>by cases hb) ⟨_,k3⟩)
  ⟨a0,_,ws,k3,w1,by omega,s.heap.objs.size,oT,ts,w3,Nat.ne_of_gt lt,v5 a0 (Nat.le_of_lt lt),fz,k4,k5,k6⟩
def u9q (I:Inv X pins σ H s) (hst:X.stack=X.env::X.outer/\X.env.frame=some X.env.locals) (o:Old X pins n) (hx:H e=some (XO C d e)) (tb:Tb n s.heap H e fl) (hfl:fl=.none\/fl=rawInt X.env.locals)
 (k:∀s',Inv X pins σ H s'->Tr n s'.heap H e (rawInt X.env.locals)->Q () s'):wpAny M X.A (noteFrame (.ref e) X.env) Q E s:=by
 obtain⟨a0,oe,vs,a1,a2,a3,tb⟩:=tb
 unfold noteFrame
 simp only[hst.2]
 rcases tb with⟨t1,t2⟩|⟨T,oT,ts,a4,a5,a6,a7,a8,a9,a10⟩
 ·refine wpAny_bind (wpAny_field a1 a2 t1 ?_)
  rw[if_neg (by decide)]
  exact u9P I hst o hx a0 a1 a2 a3 k
 ·refine wpAny_bind (wpAny_field a1 a2 a4 ?_)
  rw[if_pos (show(Value.ref T != Value.none)=true by simp)]
  refine wpAny_bind (wpAny_field a8 a9 a10 ?_)
  rcases hfl with rfl|rfl
  ·rw [if_neg (by rw [rawne];exact id)]
   refine wpAny_bind (u6y I hst o hx a0 a1 a2 a3 a4 a5 a6 a7 a8 a9 a10 λs' I' _ ke=>?_)
   exact u9P I' hst o hx a0 ke a2 a3 k
  ·rw [if_pos (by simp)]
   exact wpAny_pure (k s I ⟨a0,oe,vs,a1,a2,a3,T,oT,ts,a4,a5,a6,a7,a8,a9,a10⟩)
def u2p (I:Inv X pins σ H s) (hst:X.stack=X.env::X.outer/\X.env.frame=some X.env.locals) (o:Old X pins n) (hx:H e=some (XO C d e)) (tr:Tr n s.heap H e fl)
 (k:∀s',Inv X pins σ H s'->Tr n s'.heap H e (f.elim .none λf=>rawInt f)->Q () s'):wpAny M X.A (setFlight (.ref e) f) Q E s:=by
 obtain⟨a0,oe,vs,a1,a2,a3,T,oT,ts,a4,a5,a6,a7,a8,a9,a10⟩:=tr
 unfold setFlight
 refine wpAny_bind (wpAny_field a1 a2 a4 ?_)
 rw[if_pos (show(Value.ref T != Value.none)=true by simp)]
 exact u6y I hst o hx a0 a1 a2 a3 a4 a5 a6 a7 a8 a9 a10 λs' I' t _=>k s' I' t
def u9S (I:Inv X pins σ H s) (hst:X.stack=X.env::X.outer/\X.env.frame=some X.env.locals) (o:Old X pins n) (hx:H e=some (XO C d e)) (tb:Tb n s.heap H e fl) (hfl:fl=.none\/fl=rawInt X.env.locals)
 (k:∀s',Inv X pins σ H s'->Tr n s'.heap H e .none->Q () s'):wpAny M X.A (leaving X.env (.ref e)) Q E s:=by
 unfold leaving
 exact wpAny_bind (u9q I hst o hx tb hfl λs' I' tr=>u2p (f:=none) I' hst o hx tr k)
end
noncomputable def CXe (P:Program) (w:World):CXT:=λouter H s E u s'=>∃(e C:Addr) (d:Option Addr) (H':Hp),u=.ref e/\s'.os=s.os/\AllBare s'.gens/\Un (frs outer) [] H H' s.heap s'.heap/\HOk P w H' s'.heap/\H' e=some (XO C d e) /\
 Tb s.heap.objs.size s'.heap H' e .none/\E (.ref e) none H'
def Fly (X:Cx) (xq:XQ) (u:Value) (s':Shared):Prop:=∃(n:Nat) (e C:Addr) (d:Option Addr) (σ:St) (H:Hp) (fl:Value),Old X [] n/\u=.ref e/\Inv X [] σ H s'/\H e=some (XO C d e)/\Tb n s'.heap H e fl/\(fl=.none\/fl=rawInt X.env.locals)/\xq (.ref e) σ H
structure XqOk (X:Cx) (xq:XQ):Prop where
 st:X.stack=X.env::X.outer/\X.env.frame=some X.env.locals
 xe:∀u s',Fly X xq u s'->X.xe u s'
 ps:PassesOwn (model X.prog X.w) X.A X.env X.xe
section
variable {X:Cx}{xq:XQ}{M:Model}
def v1t (hst:X.stack=X.env::X.outer/\X.env.frame=some X.env.locals):PassesOwn M X.A X.env (Fly X xq):=by
 rintro u s' ⟨n,e,C,d,σ,H,fl,o,rfl,I,hx,tb,hfl,q⟩
 refine u9q I hst o hx tb hfl λs2 I2 tr=>?_
 have tr':=tr
 obtain⟨a0,oe,vs,a1,a2,a3,T,oT,ts,a4,a5,a6,a7,a8,a9,a10⟩:=tr'
 unfold cameBackBy
 refine wpAny_bind (wpAny_field a1 a2 a4 ?_)
 rw[if_neg (show ¬ ((Value.ref T==Value.none)=true) by simp),hst.2]
 exact u2p (f:=some X.env.locals) I2 hst o hx tr λs3 I3 tr3=>⟨n,e,C,d,σ,H,_,o,rfl,I3,hx,tr3.tb,.inr rfl,q⟩
def Old.unwish (o:Old (X.wish E) pins n):Old X pins n:=⟨o.s0,o.loc,o.cel,o.pin⟩
theorem Fly.unwish (h:Fly (X.wish E) xq u s'):Fly X xq u s':=by
 obtain⟨n,e,C,d,σ,H,fl,o,rfl,I,hx,tb,hfl,q⟩:=h
 exact⟨n,e,C,d,σ,H,fl,o.unwish,rfl,I.unwish,hx,tb,hfl,q⟩
def u5a (hst:X.stack=X.env::X.outer/\X.env.frame=some X.env.locals):XqOk (X.wish (Fly X xq)) xq:=⟨hst,λ_ _ h=>h.unwish,v1t (X:=X) hst⟩
def Inv.bare0 (I:Inv X pins σ H s):Inv X [] σ H s:=I.pins_of λp hp=>absurd hp (by simp)
def Old.bare0 (o:Old X pins n):Old X [] n:=⟨o.s0,o.loc,o.cel,λp hp=>o.pin p (by simp at hp;exact z1I _ hp)⟩
def v0k (I:Inv X pins σ H s) (h:CXe X.prog X.w X.stack H s (λu _ H'=>∃a,u=.ref a/\xq (.ref a) σ H') u s'):Fly X xq u s':=by
 obtain⟨e,C,d,H',rfl,os,bare,un,hok,hx,tb,a,ha,q⟩:=h
 cases ha
 have I':Inv X pins σ H' s':=I.call' (ch:=[]) os un hok bare λb z=>absurd z (by simp)
 exact⟨_,e,C,d,σ,H',.none,I.old.bare0,rfl,I'.bare0,hx,tb,.inl rfl,q⟩
end
def spX (K:W.Frag) (f:FD):Sp:=λvs H Q E=>∃F ds,Same F H/\Rps K F vs ds/\(f ds).all (λd=>∀v F' H',Stp F H F' H'->Rp K F' v d->Q v H') (λx=>∀a F' H',Stp F H F' H'->Rp K F' (.ref a) x->E (.ref a) none H')
def CalleeX (P:Program) (w:World) (K:W.Frag) (mg:MG) (base:Heap) (k:Nat) (x:Str) (ps:List Str) (f:FD):Prop :=
 ∃a fd,FnOk P w K mg base (CXe P w) k a fd ps (spX K f)/\Binds K fd ps []/\W.keepIn K (.ref a)=true/\mg x=some (.ref a)
section
variable {X:Cx}{xq:XQ}{e:Expr}{es:List Expr}{fs:Rho->Res (List D)}{x:Str}{p pos:Pos}
def run_fnX (hq:XqOk X xq) (F:FnOk X.prog X.w X.K X.mg X.base (CXe X.prog X.w) k f fd ps sp) (hr:Room k X.A)
 (hb:Binds X.K fd ps ds) (hd:Vals dvs ds) (I:Inv X pins σ H s) (r:Vals vs us) (h:sp (vs++dvs) H Q (λu _ H'=>∃a,u=.ref a/\xq (.ref a) σ H')):wpAny (model X.prog X.w) X.A (call (.ref f) us) (EP X pins σ Q) X.xe s:=by
 have r2:Vals (vs++dvs) (us++ds):=r.append hd
 have hl:(us++ds).length=ps.length:=by rw[<- r2.length];exact F.len _ _ _ _ h
 refine wpAny_call (codeAny_mono (F.run X.A X.stack s H ⟨us,[]⟩ (us++ds) (vs++dvs) Q _ hr I.env0 (hb s us I.kIn hl) r2 h) λr s' hc=>?_)
 cases r with
 | error e=>exact hq.xe _ _ (v0k I hc)
 | ok fl =>
  cases fl with
  | ret u=>exact I.after hc
  | next=>exact False.elim hc
  | brk=>exact False.elim hc
  | cont=>exact False.elim hc
def errR {K:W.Frag}{B:Hp×Hp}{ρ:Rho}{σ:St}{F H F' H':Hp}{d:D}{v:V} (R:Rel K B ρ σ F H) (s:Stp F H F' H') (p:Rp K F' v d) (q:ErrK K xq B ρ σ d):xq v σ H':=by
 obtain⟨F1,e1,R1⟩:=(R.step s).frz
 exact q v F1 H' R1 (p.same e1)
def spX_of {K:W.Frag}{B:Hp×Hp}{ρ:Rho}{σ:St}{F H F0 H0:Hp}{f:FD}{ds:List D}{vs:List V}{Q:VK} (R:Rel K B ρ σ F H) (pv:Rps K F vs ds) (s0:Stp F0 H0 F H) (q:(f ds).all (λd=>∀v F' H',Stp F0 H0 F' H'->Rp K F' v d->Q v H') (ErrK K xq B ρ σ)) :
  spX K f vs H Q (λu _ H'=>∃a,u=.ref a/\xq (.ref a) σ H') :=
 ⟨F,ds,R.fh,pv,Res.all_mono q (λd k v F' H' st p=>k v F' H' (s0.trans st) p) λx k a F' H' st p=>⟨a,rfl,errR R st p k⟩⟩
def u7p {P:Program}{w:World}{K:W.Frag}{mg:MG}{base:Heap}{k k':Nat}{ps:List Str}{f:FD} (hq:XqOk X xq) (h:CalleeX P w K mg base k x ps f) (hr:Room k' X.A) (ha:DA X xq (e::es) fs) (hk:k<=k':=by decide) (hg:Gl X x:=by rfl)
  (eP:X.prog=P:=by rfl) (ew:X.w=w:=by rfl) (eK:X.K=K:=by rfl) (em:X.mg=mg:=by rfl) (eb:X.base=base:=by rfl) (hdb:(x==("__debug__":Str))=false:=by decide):DE X xq (.Call (.Name x p) (e::es) [] pos) (λρ=>(fs ρ).bind f) :=
 ⟨λpins s σ H Q I z9=>un5 z9 λB F ρ R q=>by
  subst eP ew eK em eb
  obtain⟨a,fd,G,hb,hkp,hm⟩:=h
  refine wpAny_Call_Name_kw (u3C I hg hm ?_ hdb)
  refine W.callWith_K (h₀:=X.base) I.ok.mod.kin hkp (thn (ha.out pos pins s σ H _ I (seqA R q λds vs F1 H1 s1 R1 p1 q1=>show spX X.K f (vs++[]) H1 Q (λu _ H'=>∃a,u=.ref a/\xq (.ref a) σ H') from by rw[List.append_nil];exact spX_of R1 p1 s1 q1)) λus s1 ⟨vs,H1,I1,r,q⟩=>⟨I1.kIn,?_⟩) (u0K (u0C ha.ns).1) (u2d (u0C ha.ns).2)
  exact run_fnX hq G (hr.mono hk) hb .nil I1 r q⟩
end
section
variable {P:Program}{w:World}{K:W.Frag}{mg:MG}{base:Heap}
abbrev xq0 (E:XK):XQ:=λv _ H'=>∀a,v=.ref a->E (.ref a) none H'
noncomputable abbrev cxR (P:Program) (w:World) (K:W.Frag) (mg:MG) (base:Heap) (N:List Str) (qual:Str) (scope:Scope) (f:Addr) (cdv:Value) (A:Around) (outer:List Env) (s:Shared) (H:Hp) (E:XK):Cx :=
 (cxOf (CXe P w) P w K mg base N qual scope f cdv A outer s H E).wish (Fly (cxOf (CXe P w) P w K mg base N qual scope f cdv A outer s H E) (xq0 E))
def PSs.wishTo (h:PSs (X.wish E) sts t) (k:∀u s',E u s'->X.xe u s'):PSs X sts t:=λpins s σ H T I hw =>
 wpAny_mono (h pins s σ H T (I.wish _) hw) (λ_ _ q=>q.unwish) k
def Fun.okX {x qual:Str}{st:Stmt}{f:Addr}{fd:FuncData}{N ps:List Str}{k:Nat}{g:FD} (F:Fun K x qual st f fd) (S:FnScope N ps (defScope st)) (len:∀ds,g ds≠.bad->ds.length=ps.length)
  (hbody:∀ (cdv:Value) (A:Around) (outer:List Env) (s:Shared) (H:Hp) (E:XK),Room k (A.deeper (envOfC qual (defScope st) s.heap.objs.size f cdv))->XqOk (cxR P w K mg base N qual (defScope st) f cdv A outer s H E) (xq0 E) ->
   ∃t,DB (cxR P w K mg base N qual (defScope st) f cdv A outer s H E) (xq0 E) (defBody st) t/\∀ds,g ds≠.bad->outR (t (startD N.length ds))=g ds):FnOk P w K mg base (CXe P w) (k+1) f fd ps (spX K g):=by
 obtain⟨oc,od,kV,doc,pm,an,cdv,ct,osl,rfl,lk,hcd⟩:=F.ex
 have nb:∀vs H Q E,spX K g vs H Q E->∃G ds,Same G H/\Rps K G vs ds/\g ds≠.bad/\(g ds).all (λd=>∀v F' H',Stp G H F' H'->Rp K F' v d->Q v H') (λx=>∀a F' H',Stp G H F' H'->Rp K F' (.ref a) x->E (.ref a) none H'):=λvs H Q E ⟨G,ds,fh,r,q⟩ =>
  ⟨G,ds,fh,r,λz=>by rw[z] at q;exact q,q⟩
 refine fn_of lk hcd S (λvs H Q E h=>?_) λA outer s H vs Q E hr hsp=>?_
 ·obtain ⟨G,ds,fh,r,z,q⟩:=nb vs H Q E h
  rw[r.length];exact len ds z
 ·obtain ⟨G,ds,fh,r,z,q⟩:=nb vs H Q E hsp
  have hst:(cxOf (CXe P w) P w K mg base N qual (defScope st) f cdv A outer s H E).stack=(cxOf (CXe P w) P w K mg base N qual (defScope st) f cdv A outer s H E).env::(cxOf (CXe P w) P w K mg base N qual (defScope st) f cdv A outer s H E).outer/\(cxOf (CXe P w) P w K mg base N qual (defScope st) f cdv A outer s H E).env.frame=some (cxOf (CXe P w) P w K mg base N qual (defScope st) f cdv A outer s H E).env.locals:=⟨rfl,rfl⟩
  obtain⟨t,h1,h2⟩:=hbody cdv A outer s H E hr (u5a hst)
  refine⟨_,PSs.wishTo h1.out ?_,(G,H),G,_,r.begin fh,⟨?_⟩⟩
  ·rintro u s' ⟨n,e,C,d,σ,H',fl,o,rfl,I,hx,tb,hfl,q⟩
   refine u9S I hst o hx tb hfl λs2 I2 tr=>?_
   exact⟨e,C,d,H',rfl,I2.os,I2.bare,I2.base,I2.hok,hx,tr.tb.mono o.s0,q e rfl⟩
  ·have y:=h2 ds z
   rw[<- y] at q
   generalize t (startD N.length ds)=o at q
   cases o with
   | nx ρ=>exact λσ F' H' R=>q .non F' H' R.st .non
   | rt d'=>exact λv F' H' st pv=>q v F' H' st pv
   | bk ρ=>exact q.elim
   | ct ρ=>exact q.elim
   | er x ρ=>exact λv σ F' H' R pv a ea=>by subst ea;exact q a F' H' R.st pv
   | bad=>exact q.elim
end
def ExFr (h:Heap) (e C:Addr) (dx:Option Addr):Prop:=∃t sl,h.get? e=some { cls:=.ref C,dict:=dx,data:=.fields #[.ref t,.none,.none,.none,.bool false,.none],slots:=sl }
def ExFr.at (x:ExFr h e C dx):ExAt h e C dx:=by obtain⟨t,sl,q⟩:=x;exact⟨t,_,_,_,_,_,sl,q⟩
noncomputable def XF (C:Addr) (dx:Option Addr) (e:Addr) (n:Nat):HO:=.ext λh=>ExFr h e C dx/\n<=e
section
variable {P:Program}{w:World}{H:Hp}{h:Heap}{e C dx:Addr}{d:Option Addr}{n:Nat}
def xf_ok (x:ExFr h e C d) (hn:n<=e):ObjOk P w H h e (XF C d e n) :=
 ⟨⟨x,hn⟩,by obtain⟨_,_,q⟩:=x;exact⟨_,q⟩,λh1 h2 z999 k=>by obtain⟨⟨t,sl,q⟩,z⟩:=z999;exact⟨⟨t,sl,k _ q⟩,z⟩⟩
def xf_at (x:HOk P w H h) (q:H e=some (XF C d e n)):ExFr h e C d/\n<=e:=(show ObjOk P w H h e (XF C d e n) from x e _ q).1
def HOk.xo (x:HOk P w H h) (q:H e=some (XF C d e n)):HOk P w (upd H e (XO C d e)) h:=λb u z=>by
 by_cases y:b=e
 ·subst y
  rw[u0j] at z;cases z
  exact xo_ok (xf_at x q).1.at
 ·rw [u0o y] at z
  exact ObjOk.stay (x b u z) (λ_ _ _ v=>v) (λc v=>by
   rw[u0o (λt=>by subst t;rw[q] at v;unfold XF at v;cases v)];exact v) (λc xs v=>by
   rw[u0o (λt=>by subst t;rw[q] at v;unfold XF at v;cases v)];exact v)
end
section
variable {X:Cx}{pins:LO}{σ:St}{H:Hp}{s:Shared}{a C dx fI:Addr}{fs:List (Str×V)}{f:Str}{v:V}{A:Around}{E:VP}{n:Nat}{d:Option Addr}
theorem Inv.xo (I:Inv X pins σ H s) (q:H a=some (XF C d a n)):Inv X pins σ (upd H a (XO C d a)) s:=by
 have hok:=I.hok.xo q
 have nn:∀b,H b=none->upd H a (XO C d a) b=none:=λb z=>by
  rw[u0o (λt=>by subst t;rw[q] at z;cases z)];exact z
 have st:∀b u,H b=some u->(∀φ,u≠.ext φ)->upd H a (XO C d a) b=some u:=λb u z y=>by
  rw[u0o (λt=>by subst t;rw[q] at z;cases z;exact y _ rfl)];exact z
 exact I.un (h':=s.heap) (t':=s.toks) ⟨λ_ _ x _ _ _=>x,λ_ o x _ _ _=>⟨o.slots,x⟩,λb _ _ z _=>nn b z,λ_ o x _=>⟨o,x⟩,λb xs z=>st b _ z (λ_ y=>nomatch y),λb o u z=>st b _ z (λ_ y=>nomatch y),λb ps z=>⟨#[],by rw[Array.append_empty];exact st b _ z (λ_ y=>nomatch y)⟩⟩ hok
def v2M {prog:Program}{w:World}{K:W.Frag}{e:Addr}{name:Str}{v:Value}{Q:Unit->Shared->Prop} (X:K.In s.heap) (c:XCls K C fI) (he:ExFr s.heap e C none) (hn:W.findIn K (.ref C) name=some none)
  (h:∀h1 h',ExFr h1 e C (some s.heap.objs.size)->(∀b o,b≠e->(s.heap.push W.emptyDict).get? b=some o->h1.get? b=some o)->h'.Ns1 s.heap.objs.size (λy=>if y=name then some v else none)->Heap.SameBut s.heap.objs.size h1 h'->Q () { s with heap:=h',toks:=s.toks+2 }) :
  wpAny (model prog w) A (setAttr (.ref e) name v) Q E s:=by
 obtain⟨t,sl,he⟩:=he
 have I:W.InstAt s.heap e _ C none:=⟨he,rfl,rfl,True.intro⟩
 refine W.set_plain X I c.sa (exc_osa (s:={ s with toks:=s.toks+1 }) X c I hn λb=>?_)
 obtain⟨cd,hc,_,hd⟩:=c.ov
 have hlt:e<s.heap.objs.size:=y9 he
 refine wpAny_bind (wpAny_pure (wpAny_bind (wpAny_bind (wpAny_loadPart he (wpAny_bind (W.Looks.here (s:={ s with toks:=s.toks+1 }) (W.looks_clsIn X hc) ?_))))))
 rw[hd]
 refine wpAny_bind (wpAny_alloc (wpAny_bind (wpAny_update (s:={ s with heap:=s.heap.push W.emptyDict,toks:=s.toks+1 }) (z5 _ he) ?_)))
 have hne:e≠s.heap.objs.size:=v9 hlt
 have hd0:((s.heap.push W.emptyDict).update e λo=>{ o with dict:=some s.heap.objs.size }).get? s.heap.objs.size=some W.emptyDict:=by
  rw[q9 _ _ hne]
  exact z7 _ rfl
 have he1:((s.heap.push W.emptyDict).update e λo=>{ o with dict:=some s.heap.objs.size }).get? e=some { cls:=.ref C,dict:=some s.heap.objs.size,data:=.fields #[.ref t,.none,.none,.none,.bool false,.none],slots:=sl } :=
  z1E _ (z5 _ he) rfl
 have hk1:∀b o,b≠e->(s.heap.push W.emptyDict).get? b=some o->((s.heap.push W.emptyDict).update e λo=>{ o with dict:=some s.heap.objs.size }).get? b=some o:=λb o hb q=>by
  rw[q9 _ _ (Ne.symm hb)]
  exact q
 have hns:((s.heap.push W.emptyDict).update e λo=>{ o with dict:=some s.heap.objs.size }).Ns1 s.heap.objs.size (λ_=>none) :=
  Heap.Ns1.of_empty ⟨_,#[],_,hd0,rfl,λx hx=>absurd hx (by simp),λ_=>rfl⟩
 generalize (s.heap.push W.emptyDict).update e (λo=>{ o with dict:=some s.heap.objs.size })=h1 at hd0 he1 hk1 hns |-
 refine wpAny_pure (a:=some s.heap.objs.size) (wpAny_bind (wpAny_pure (wpAny_bind ?_)))
 refine wpAny_nsSet1 (s:={ s with heap:=h1,toks:=s.toks+1 }) hns λh' hn2 hs2=>?_
 obtain⟨oD,esD,epD,hoD,hdD,hcD⟩:=hn2.count (PySem.Within.cons name v (ns:=[]) (λy u=>absurd rfl u))
 refine wpAny_bind (wpAny_lookBehind hoD (by rw[hdD];exact pastItsLine_dict (v5 hcD (by rw[List.length_singleton,sizeLine_eq];decide))) ?_)
 exact wpAny_pure (h h1 _ ⟨t,sl,he1⟩ hk1 hn2 hs2)
def v1D (I:Inv X pins σ H s) (e:H a=some (XF C none a n)) (c:XCls X.K C fI) (na:NoAttr X.K C f) (ry:RelV y u)
 (h:∀dx s',H dx=none->dx≠a->Inv X pins σ (upd (upd H dx (DXO dx [(f,y)])) a (XF C (some dx) a n)) s'->Q () s'):wpAny (model X.prog X.w) A (setAttr (.ref a) f u) Q E s:=by
 obtain⟨hx,hn⟩:=xf_at I.hok e
 have hfr:H s.heap.objs.size=none:=I.hok.fresh (y7 _)
 have hne:s.heap.objs.size≠a:=(u0y e hfr).symm
 refine v2M I.kIn c hx na λh1 h' x1 k1 n2 sb=>h s.heap.objs.size _ hfr hne ?_
 have e0:(s.heap.push W.emptyDict).get? s.heap.objs.size=some W.emptyDict:=z7 s.heap rfl
 have n0:(s.heap.push W.emptyDict).Ns1 s.heap.objs.size (λ_=>none):=Heap.Ns1.of_empty ⟨_,#[],_,e0,rfl,λx hx=>absurd hx (by simp),λ_=>rfl⟩
 have I1:=I.laid (a:=s.heap.objs.size) (o:=DXO s.heap.objs.size []) (h':=s.heap.push W.emptyDict) (t':=s.toks) (λb u q=>z5 _ q) (y7 _) (v4E n0 (λ_=>True.intro) (λy hy=>absurd rfl hy))
 have ea:upd H s.heap.objs.size (DXO s.heap.objs.size []) a=some (XF C none a n):=by rw[u0o hne.symm];exact e
 have I2:=I1.write (x:=a) (e:=a) (o:=XF C (some s.heap.objs.size) a n) (h':=h1) (t':=s.toks) (by rw[ea];exact True.intro) (.inl rfl) (λb q hb z=>k1 b q hb z) (by obtain⟨_,_,q⟩:=x1;exact⟨_,q⟩) (xf_ok x1 hn)
 have ed:upd (upd H s.heap.objs.size (DXO s.heap.objs.size [])) a (XF C (some s.heap.objs.size) a n) s.heap.objs.size=some (DXO s.heap.objs.size []):=by rw[u0o hne,u0j]
 have I3:=I2.write (x:=s.heap.objs.size) (e:=s.heap.objs.size) (o:=DXO s.heap.objs.size [(f,y)]) (h':=h') (t':=s.toks+2) (by rw[ed];exact True.intro) (.inl rfl) (λb q hb z=>(sb.2 b hb).trans z) (by obtain⟨o,_,_,q,_⟩:=n2;exact⟨o,q⟩) (v4E n2 (λg=>by
  show RelO (List.lookup g [(f,y)]) (if g=f then some u else none)
  by_cases q:g=f
  ·subst q;rw[if_pos rfl];simp only[List.lookup,beq_self_eq_true];exact ry
  ·rw[if_neg q];simp only[List.lookup,beq_eq_false_iff_ne.mpr q];exact True.intro) (λg hg=>by
  by_cases q:g=f
  ·rw[q];exact z6
  ·exact absurd (if_neg q) hg))
 have eq:upd (upd (upd H s.heap.objs.size (DXO s.heap.objs.size [])) a (XF C (some s.heap.objs.size) a n)) s.heap.objs.size (DXO s.heap.objs.size [(f,y)])=upd (upd H s.heap.objs.size (DXO s.heap.objs.size [(f,y)])) a (XF C (some s.heap.objs.size) a n):=by
  funext b
  unfold upd
  by_cases q1:b=s.heap.objs.size
  ·rw[if_pos q1,if_neg (by rw[q1];exact hne),if_pos q1]
  ·rw [if_neg q1]
   by_cases q2:b=a
   ·rw[if_pos q2,if_pos q2]
   ·rw[if_neg q2,if_neg q2,if_neg q1,if_neg q1]
 rw[eq] at I3
 exact I3
def Inv.xfmade (I:Inv X pins σ H s) (us:List Value):Inv X pins σ (upd H (s.heap.objs.size+1) (XF C none (s.heap.objs.size+1) s.heap.objs.size)) { s with heap:=(s.heap.push (tupO us)).push (excO C s.heap.objs.size none) }:=by
 have I1:=I.kept (t':=s.toks) (h':=s.heap.push (tupO us)) (λb u q=>z5 _ q)
 refine I1.laid (a:=s.heap.objs.size+1) (o:=XF C none (s.heap.objs.size+1) s.heap.objs.size) (t':=s.toks) (λb u q=>z5 _ q) (Nat.le_of_eq (Heap.size_push _ _)) ?_
 have:=z7 (s.heap.push (tupO us)) (o:=excO C s.heap.objs.size none) rfl
 rw[Heap.size_push] at this
 exact xf_ok ⟨_,_,this⟩ (Nat.le_succ _)
end
section
variable {M:Model}{A:Around}{E:VP}{env:Env}{K:W.Frag}{C f:Addr}
def XCls.base (c:XCls K C f):∃bm N nm q bs sn sub ab col dd k0 k1 k2 k3 k5,K.lookup C=some (excClassObj nm q C N bs bm true sn sub ab col dd k0 k1 k2 k3 k5 "ValueError.__new__")/\(Value.ref C::bm).contains (.type "BaseException")=true:=by
 obtain⟨bm,N,nm,q,bs,sn,sub,ab,col,dd,k0,k1,k2,k3,k5,hK,ht⟩:=c.obj
 obtain⟨cd,hc,ho,_⟩:=c.ov
 refine⟨bm,N,nm,q,bs,sn,sub,ab,col,dd,k0,k1,k2,k3,k5,hK,?_⟩
 unfold W.clsIn at hc
 rw[hK] at hc
 cases hc
 exact u3e ho
def v0U (hh:A.handled=none)
 (h:wpAny M A x (fun v s₁=>∃ (e t C f:Addr) (dx:Option Addr) (sl:Array (Option Value)) (K:W.Frag),v=.ref e/\K.In s₁.heap/\XCls K C f /\
 s₁.heap.get? e=some { cls:=.ref C,dict:=dx,data:=.fields #[.ref t,.none,.none,.none,.bool false,.none],slots:=sl }/\E (.ref e) s₁) E s):wpAny M A (raiseStmt env (some x) none) Q E s:=by
 unfold raiseStmt
 refine wpAny_bind (wpAny_mono h (λv s₁ h₁=>?_) λ_ _ x=>x)
 obtain⟨e,t,C,f,dx,sl,K,rfl,KI,c,he,hE⟩:=h₁
 obtain⟨bm,N,nm,q,bs,sn,sub,ab,col,dd,k0,k1,k2,k3,k5,hK,hb⟩:=c.base
 have hC:=KI _ _ hK
 obtain⟨hp,g,d,tk,os⟩:=s₁
 repeat (first|(with_reducible refine wpAny_loadPart_at he ?_)|(with_reducible refine wpAny_loadPart_at hC ?_)|((with_reducible refine wpAny_isSubtype_exc hC ?_);rw[hb])|wp_step)
 exact wpAny_raiseNew_none hh hE
end
def spXI (C:Addr) (fls:List Str):Sp:=λvs H Q _=>∃a args n,vs=.ref a::args/\args.length=fls.length/\H a=some (XF C none a n)/\∀dx,H dx=none->dx≠a->Q .non (upd (upd H dx (DXO dx (fls.zip args))) a (XF C (some dx) a n))
section
variable {X:Cx}{e o value:Expr}{es:List Expr}{ta tv:TE}{f x:Str}{p pos pos' cpos:Pos}{C fI:Addr}{fd:FuncData}{ps fls:List Str}{k:Nat}
def sXF (K:W.Frag) (ta tv:TE) (f:Str):TS:=λT σ H=>tv σ H λy H1=>ta σ H1 λx H2=>∃a C fI n,x=.ref a/\XCls K C fI/\NoAttr K C f/\H2 a=some (XF C none a n)/\∀dx,H2 dx=none->dx≠a->T.nx σ (upd (upd H2 dx (DXO dx [(f,y)])) a (XF C (some dx) a n))
def ps_xf (ha:PE X o ta) (hv:PE X value tv) (hs:swapsWith value (some (.Attribute o f pos')) pos.line X.env=pure false:=by rfl):PS X (.Assign [.Attribute o f pos'] value pos) (sXF X.K ta tv f):=by
 intro pins s σ H T I h
 refine plainObj_wpAny_Assign_Attribute (thn (hv pins s σ H _ I h) λu s1 ⟨y,H1,I1,ry,q⟩=>thn (ha pins s1 σ H1 _ I1 q) λov s2 z9101=>?_) hs
 obtain⟨x,H2,I2,rx,a,C,fI,n,ex,c,na,ea,q2⟩:=z9101
 subst ex
 obtain rfl:ov=Value.ref a:=rx
 exact v1D I2 ea c na ry λdx s3 h1 h2 I3=>⟨σ,_,I3,q2 dx h1 h2⟩
def run_xf (c:XCls X.K C fI) (F:FnOk X.prog X.w X.K X.mg X.base CX0 k fI fd ps (spXI C fls)) (hr:Room (k+1) X.A) (hb:Binds X.K fd ps [])
 (I:Inv X pins σ H s) (r:Vals vs us) (hz:vs.length<=1000) (hn:vs.length=fls.length)
 (h:∀a dx s',H a=none->H dx=none->dx≠a->Inv X pins σ (upd (upd H dx (DXO dx (fls.zip vs))) a (XF C (some dx) a s.heap.objs.size)) s'->Q (.ref a) s'):wpAny (model X.prog X.w) X.A (call (.ref C) us) Q X.xe s:=by
 have h1:H (s.heap.objs.size+1)=none:=I.hok.fresh (Nat.le_succ _)
 have I2:=Inv.xfmade (C:=C) I us
 have r2:Vals (V.ref (s.heap.objs.size+1)::vs) (Value.ref (s.heap.objs.size+1)::us):=.cons rfl r
 have hq:spXI C fls (.ref (s.heap.objs.size+1)::vs) (upd H (s.heap.objs.size+1) (XF C none (s.heap.objs.size+1) s.heap.objs.size)) (λv H2=>v=.non/\∃dx,H dx=none/\dx≠s.heap.objs.size+1/\H2=upd (upd H dx (DXO dx (fls.zip vs))) (s.heap.objs.size+1) (XF C (some dx) (s.heap.objs.size+1) s.heap.objs.size)) E0:=by
  refine⟨_,_,_,rfl,hn,u0j,λdx d1 d2=>⟨rfl,dx,?_,d2,?_⟩⟩
  ·rw[u0o d2] at d1;exact d1
  ·funext b
   unfold upd
   by_cases q1:b=s.heap.objs.size+1
   ·rw[if_pos q1,if_pos q1]
   ·rw[if_neg q1,if_neg q1,if_neg q1]
 have hl:(Value.ref (s.heap.objs.size+1)::us++[]).length=ps.length:=by
  have e:=r2.length
  rw[F.len _ _ _ _ hq] at e
  rw[List.append_nil]
  exact e.symm
 refine wpAny_call ?_
 obtain⟨hh,g,d,tt,os⟩:=s
 refine v4d (f:=fI) I.kIn c (by rw[<- r.length,sizeLine_eq];omega) ?_
 refine codeAny_mono (F.run _ X.stack _ _ ⟨Value.ref (hh.objs.size+1)::us,[]⟩ (Value.ref (hh.objs.size+1)::us) _ _ E0 (hr.make C us []) (I2.env0.make C us []) (by have:=hb _ (Value.ref (hh.objs.size+1)::us) I2.kIn hl;rwa [List.append_nil] at this) r2 hq) λr s' hq'=>?_
 cases r with
 | error e=>exact False.elim hq'
 | ok fl =>
  cases fl with
  | ret u =>
   obtain⟨v,H',I3,rv,ev,dx,q1,q2,q3⟩:=I2.after hq'
   subst ev q3
   exact⟨rv,h _ dx s' h1 q1 q2 I3⟩
  | next=>exact False.elim hq'
  | brk=>exact False.elim hq'
  | cont=>exact False.elim hq'
def XCalleeF (P:Program) (w:World) (K:W.Frag) (mg:MG) (base:Heap) (k:Nat) (x:Str) (C:Addr) (ps fls:List Str):Prop :=
 ∃f fd,XCls K C f/\FnOk P w K mg base CX0 k f fd ps (spXI C fls)/\Binds K fd ps []/\mg x=some (.ref C)
theorem Rps.zip {K:W.Frag}{F:Hp}:∀{vs:List V}{ds:List D} (fls:List Str),Rps K F vs ds->Rpf K F (fls.zip vs) (fls.zip ds)
 | _,_,[],_=>by simpa using Rpf.nil
 | _,_,_::_,.nil=>by simpa using Rpf.nil
 | _,_,f::fls,.cons h hs=>.cons h (hs.zip fls)
def u1b {xq:XQ}{fs:Rho->Res (List D)}{P:Program}{w:World}{K:W.Frag}{mg:MG}{base:Heap}{k':Nat} (hq:XqOk X xq) (hc:X.calm=true) (h:XCalleeF P w K mg base k x C ps fls) (hr:Room k' X.A) (ha:DA X xq (e::es) fs) (hk:k+1<=k':=by decide) (hg:Gl X x:=by rfl)
  (eP:X.prog=P:=by rfl) (ew:X.w=w:=by rfl) (eK:X.K=K:=by rfl) (em:X.mg=mg:=by rfl) (eb:X.base=base:=by rfl) (hdb:(x==("__debug__":Str))=false:=by decide) :
  DS X xq (.Raise (some (.Call (.Name x p) (e::es) [] cpos)) none pos) (λρ=>(fs ρ).go ρ λds=>if ds.length=fls.length/\ds.length<=1000 then .er (.exc C (fls.zip ds)) (frz ρ) else .bad):=by
 subst eP ew eK em eb
 obtain⟨f,fd,c,F,hb,hm⟩:=h
 refine⟨λpins s σ H T I z9102=>?_⟩
 obtain⟨B,G,ρ,R,q⟩:=z9102
 rw[arm_exec_Raise]
 refine wpAny_bind (wpAny_standAt ?_)
 refine v0U (I.ok.hd hc) ?_
 refine wpAny_bind (m:=eval (.Call (.Name x p) (e::es) [] cpos) X.env) (wpAny_Call_Name_kw (u3C I hg hm ?_ hdb))
 refine W.callWith_K (h₀:=X.base) I.ok.mod.kin c.kp (thn (ha.out cpos pins s σ H (λvs H1=>∃G1 ds,Rel X.K B ρ σ G1 H1/\Rps X.K G1 vs ds/\ds.length=fls.length/\ds.length<=1000/\∀v σ F H,Rel X.K B (frz ρ) σ F H->Rp X.K F v (.exc C (fls.zip ds))->xq v σ H) I ?_) λus s1 ⟨vs,H1,I1,r,G1,ds,R1,p1,l1,l2,q1⟩=>⟨I1.kIn,?_⟩) (u0K (u0C ha.ns).1) (u2d (u0C ha.ns).2)
 ·refine ⟨B,G,ρ,R,Res.all_mono (u0O q.out) (fun ds z vs G1 H1 st p1=>?_) fun _ z=>errOf z⟩
  by_cases hz:ds.length=fls.length/\ds.length<=1000
  ·rw [if_pos hz] at z
   exact⟨G1,ds,R.step st,p1,hz.1,hz.2,z⟩
  ·rw[if_neg hz] at z;exact z.elim
 ·refine run_xf c F (hr.mono hk) hb I1 r (by rw [p1.length];exact l2) (p1.length.trans l1) fun a dx s2 n1 n2 n3 I2=>wpAny_bind (wpAny_standAt (wpAny_pure ?_))
  have xa:=xf_at I2.hok u0j
  obtain⟨⟨t,sl,z⟩,hn⟩:=xa
  refine⟨a,t,C,f,some dx,sl,X.K,rfl,I2.kIn,c,z,hq.xe _ _ ?_⟩
  have I3:=I2.xo u0j
  rw[upd_upd] at I3
  refine⟨_,a,C,some dx,σ,_,.none,I1.old.bare0,rfl,I3.bare0,u0j,⟨hn,_,_,z,rfl,by show 1<6;decide,.inl ⟨rfl,rfl⟩⟩,.inl rfl,?_⟩
  have s1:=Stp.new (o:=DXO dx (fls.zip vs)) R1.fh n2
  have n1':upd H1 dx (DXO dx (fls.zip vs)) a=none:=by rw[u0o (Ne.symm n3)];exact n1
  have s2:=s1.trans (Stp.new (o:=XO C (some dx) a) s1.fh n1')
  obtain⟨G3,e3,R3⟩:=(R1.step s2).frz
  refine q1 _ σ G3 _ R3 (Rp.same e3 (.exc u0j (by rw[u0o n3];exact u0j) ((p1.zip fls).same s2.ff)))
end
def XBase (K:W.Frag) (C:Addr):Prop:=∃bm N nm q bs sn sub ab col dd k0 k1 k2 k3 k5,K.lookup C=some (excClassObj nm q C N bs bm true sn sub ab col dd k0 k1 k2 k3 k5 "ValueError.__new__")/\(Value.ref C::bm).contains (.type "BaseException")=true
noncomputable def xbB (K:W.Frag) (C:Addr):Bool:=match K.lookup C with
 | some ⟨.type "type",_,.cls cd,sl⟩=>(match cd.mro,sl.toList with
  | .ref C'::bm,[_,_,_,_,some (.builtin n),_]=>C'==C&&n=="ValueError.__new__"&&!cd.hasDel&&cd.hasDict&&(Value.ref C::bm).contains (.type "BaseException")
  | _,_=>false)
 | _=>false
set_option tactic.hygienic true in
def u4P {K:W.Frag}{C:Addr} (e:xbB K C=true):XBase K C:=by
 unfold xbB at e
 split at e
 ·rename_i dd cd sl ho
  split at e
  ·rename_i C' bm k0 k1 k2 k3 n k5 hm hs
   simp only[t9,beq_iff_eq,Bool.not_eq_true'] at e
   obtain⟨⟨⟨⟨rfl,rfl⟩,hdel⟩,hdi⟩,hb⟩:=e
   obtain⟨nm,bs,mro,ns,qn,hd,sn,sub,ab,col,del⟩:=cd
   dsimp only at hm hdel hdi
   subst hm hdel hdi
   have hsl:sl=#[k0,k1,k2,k3,some (.builtin "ValueError.__new__"),k5]:=by
    obtain⟨l⟩:=sl
    simp only at hs
    rw[hs]
   subst hsl
   exact⟨bm,ns,nm,qn,bs,sn,sub,ab,col,dd,k0,k1,k2,k3,k5,ho,hb⟩
  ·cases e
 ·cases e
noncomputable def subK (K:W.Frag) (C C':Addr):Bool:=match W.clsIn K C with
 | some cd=>cd.mro.contains (.ref C')
 | none=>false
section
variable {M:Model}{A:Around}{E:VP}{s:Shared}{K:W.Frag}{C C' e:Addr}
def u8p (KI:K.In s.heap) (c:XBase K C) (c':XBase K C') (he:s.heap.get? e=some oe) (hcls:oe.cls=.ref C) (hq:Q (subK K C C') s):wpAny M A (excMatches (.ref e) (.ref C')) Q E s:=by
 obtain⟨bm,N,nm,q,bs,sn,sub,ab,col,dd,k0,k1,k2,k3,k5,hK,hb⟩:=c
 obtain⟨bm',N',nm',q',bs',sn',sub',ab',col',dd',j0,j1,j2,j3,j5,hK',hb'⟩:=c'
 have hC:=KI _ _ hK
 have hC':=KI _ _ hK'
 have hs:subK K C C'=(Value.ref C::bm).contains (.ref C'):=by
  unfold subK W.clsIn
  rw[hK]
 rw[hs] at hq
 have f:=tc_notTuple
 obtain⟨hp,g,d,tk,os⟩:=s
 unfold excMatches
 repeat (first|((with_reducible refine wpAny_loadPart_at he ?_);rw[hcls])|(with_reducible refine wpAny_loadPart_at hC' ?_)|((with_reducible refine wpAny_isSubtype_exc hC' ?_);rw[hb'])|((with_reducible refine wpAny_isSubtype_exc hC ?_);generalize hz:(Value.ref C::bm).contains (.ref C')=z at hq |-;cases z)|wp_step)
 all_goals (wp_walk;exact hq)
end
section
variable {X:Cx}{pins:LO}{σ:St}{H:Hp}{s:Shared}{M:Model}{A:Around}{E:VP}
def Inv.gone (I:Inv X pins σ H s) (hN:X.N.Nodup) (hi:X.N[i]?=some n) (hl:∀(j:Nat) (x:Str) (v:V),X.N[j]?=some x->σ[j]?=some (some v)->Vis X.env.scope x->∃u,RelV v u/\Look X.env s.heap m x u)
 (hn':h'.Ns X.env.locals (λx=>if x=n then w else m x)) (hs:Heap.SameBut X.env.locals s.heap h'):Inv X pins (σ.set i none) H { s with heap:=h',toks:=t' }:=by
 have ne:∀b,b≠X.env.locals->h'.get? b=s.heap.get? b:=hs.2
 have old:∀b o,X.s₀.heap.get? b=some o->b≠X.env.locals:=λb o e=>v9 (w9 (y9 e) I.ok.above)
 refine⟨I.ok,I.os,I.bare,⟨λb o e z hb hx=>(ne b (old b o e)).trans (I.base.keep b o e z hb hx),λb o e z hb hx=>?_,I.base.free,λb o e hx=>?_,I.base.tups,I.base.frzs,I.base.tbls⟩,⟨_,hn',λj x v e1 e2 e3=>?_⟩,λx c e=>?_,I.free,I.freeC,λp hp=>?_,λa o e=>?_,by simp[I.len]⟩
 ·obtain ⟨sl,q⟩:=I.base.slot b o e z hb hx
  exact⟨sl,(ne b (old b o e)).trans q⟩
 ·obtain ⟨o',q⟩:=I.base.there b o e hx
  exact⟨o',(ne b (old b o e)).trans q⟩
 ·by_cases hj:j=i
  ·subst hj
   rw[z2A (by rw[I.len];exact(u7.mp hi).1)] at e2
   cases e2
  ·rw [z0C (Ne.symm hj)] at e2
   obtain⟨u,r,q⟩:=hl j x v e1 e2 e3
   refine⟨u,r,?_⟩
   rcases q with⟨k,q⟩|⟨k,c,q,z⟩
   ·have nx:x≠n:=fun y=>hj (u6Y hN e1 (y ▸ hi))
    exact .inl ⟨k,by show(if x=n then w else m x)=some u;rw[if_neg nx];exact q⟩
   ·exact .inr ⟨k,c,q,z.sameBut hs (I.cne x c q)⟩
 ·obtain ⟨v,z⟩:=I.cell x c e
  exact⟨v,z.sameBut hs (I.cne x c e)⟩
 ·obtain ⟨q,z,nl,nf,d⟩:=I.pin p hp
  exact⟨(ne p.1 nl).trans q,z,nl,nf,d⟩
 ·refine (I.hok a o e).stay (fun c u hc q=>(ne c ?_).trans q) (fun _ q=>q) fun _ _ q=>q
  rintro rfl
  rcases hc with rfl|hc
  ·rw[I.free] at e;cases e
  ·rw[I.free] at hc;cases hc
def u7f (I:Inv X pins σ H s) (hN:X.N.Nodup) (hi:X.N[i]?=some n) (hl:X.env.scope.names.lookup n=some .local) (hk:X.env.kindOf n=some .local)
 (h:∀s',Inv X pins (σ.set i none) H s'->Q () s'):wpAny M A (do bindName X.env n .none;unbindBehindTheSuite X.env n pos) Q E s:=by
 have hp:(X.env.scope.kind==.class||(X.env.scope.kind==.module&&X.env.locals != X.env.globals))=false:=by rw[I.ok.kind];rfl
 refine wpAny_bind (wpAny_bindName (u4Q (v:=.non) I hN hi (.inl hl) rfl (λs1 I1=>?_) (.inr hl)))
 obtain⟨m,hn,hlo⟩:=id I1.loc
 have hiσ:i<σ.length:=by rw[I.len];exact(u7.mp hi).1
 obtain⟨u,ru,lk⟩:=hlo i n .non hi (by rw[z2A hiσ]) (.inl hl)
 have hm:m n=some .none:=by
  cases ru
  rcases lk with⟨_,q⟩|⟨k,_⟩
  ·exact q
  ·rw[hk] at k;rcases k with k|k<;>cases k
 unfold unbindBehindTheSuite
 refine wpAny_onRaise ?_
 unfold unbindName
 refine wpAny_bind (wpAny_point (wpAny_bind ?_))
 unfold deleteName
 simp only[hk,hp]
 rw[if_neg (by decide)]
 refine wpAny_bind (wpAny_nsDel_keeps hn λh2 w hn2 hs2=>?_)
 rw[hm]
 simp only[if_true,Option.isSome_some,Bool.not_true,t7,if_false]
 refine wpAny_pure (wpAny_point ?_)
 have I2:=I1.gone (t':=s1.toks) hN hi hlo hn2 hs2
 rw[List.set_set] at I2
 exact h _ I2
end
abbrev cxH (X:Cx) (e:Addr):Cx:={ X with A:=X.A.mark (some (.ref e)),calm:=false,xe:=λ_ _=>False }
section
variable {X:Cx}{xq:XQ}{pins:LO}{σ:St}{H:Hp}{s:Shared}{e:Addr}
def Inv.toH (I:Inv X pins σ H s) (e:Addr):Inv (cxH X e) pins σ H s :=
 ⟨⟨I.ok.mod,I.ok.kind,I.ok.glob,I.ok.blt,I.ok.above,I.ok.inj,I.ok.has,I.ok.cab,(λz=>nomatch z),I.ok.frames,I.ok.stk,I.ok.exf,I.ok.bs,I.ok.bsz,I.ok.noex,I.ok.exfs,I.ok.funs,I.ok.frf⟩,I.os,I.bare,I.base,I.loc,I.cell,I.free,I.freeC,I.pin,I.hok,I.len⟩
def Inv.ofH (J:X.Ok) (I:Inv (cxH X e) pins σ H s):Inv X pins σ H s:=⟨J,I.os,I.bare,I.base,I.loc,I.cell,I.free,I.freeC,I.pin,I.hok,I.len⟩
def Rel.unset {K:W.Frag}{B:Hp×Hp}{ρ:Rho}{F:Hp}{i:Nat} (r:Rel K B ρ σ F H):Rel K B (ρ.set i none) (σ.set i none) F H where
 st:=r.st
 len:=by simp[r.len]
 val j d e:=by
  rcases u1d e with⟨rfl,q,z⟩|⟨q,z⟩
  ·cases z
  ·rw[u1j q];exact r.val j d z
 own j o e:=by
  rcases u1d e with⟨rfl,q,z⟩|⟨q,z⟩
  ·cases z
  ·rw[u1j q];exact r.own j o z
 dis j k o u a x y:=by
  rcases u1d x with⟨rfl,q,z⟩|⟨q,z⟩
  ·cases z
  ·rcases u1d y with ⟨rfl,q',z'⟩ | ⟨q',z'⟩
   ·cases z'
   ·rw[u1j q,u1j q'];exact r.dis j k o u a z z'
def PH (X:Cx) (xq:XQ) (hs:List ExceptHandler) (hd:D->Rho->Out):Prop:=∀(pins:LO) (s:Shared) (σ:St) (H:Hp) (B:Hp×Hp) (F:Hp) (ρ:Rho) (x:D) (e:Addr) (n:Nat) (T:Ends),Inv X pins σ H s->Old X pins n->Tr n s.heap H e .none ->
 Rel X.K B ρ σ F H->Rp X.K F (.ref e) x->OkS X.K xq B T (hd x ρ)->wpAny (model X.prog X.w) X.A (handleBy (.ref e) X.env hs) (SP X pins T) X.xe s
structure DH (X:Cx) (xq:XQ) (hs:List ExceptHandler) (hd:D->Rho->Out):Prop where
 out:PH X xq hs hd
noncomputable def isE:D->Bool
 | .exc _ _=>true
 | _=>false
set_option tactic.hygienic true in
def dh_nil (hq:XqOk X xq):DH X xq [] (λx ρ=>if isE x=true then .er x (frz ρ) else .bad):=⟨λpins s σ H B F ρ x e n T I o tr R p q=>by
 cases p with
 | exc h1 h2 h3 =>
  rename_i C dx fs gs
  have q':∀v σ F H,Rel X.K B (frz ρ) σ F H->Rp X.K F v (.exc C gs)->xq v σ H:=q.out
  have hx:=R.fh _ _ h1
  refine wpAny_handleBy_nil ?_
  unfold PySem.passOn
  have tr':=tr
  obtain⟨a0,oe,vs,a1,a2,a3,t,oT,ts,a4,a5,a6,a7,a8,a9,a10⟩:=tr'
  refine wpAny_bind (wpAny_field a1 a2 a4 ?_)
  rw[if_neg (show ¬ ((Value.ref t==Value.none)=true) by simp),hq.st.2]
  refine wpAny_bind (u2p (f:=some X.env.locals) I hq.st o hx tr λs3 I3 tr3=>wpAny_throw (hq.xe _ _ ?_))
  obtain⟨F1,e1,R1⟩:=R.frz
  exact⟨n,e,C,some dx,σ,H,_,o.bare0,rfl,I3.bare0,hx,tr3.tb,.inr rfl,q' _ σ F1 H R1 (Rp.same e1 (.exc h1 h2 h3))⟩
 | _=>exact q.out.elim⟩
noncomputable def unset (i:Nat):Out->Out
 | .nx ρ=>.nx (ρ.set i none)
 | .rt d=>.rt d
 | .bk ρ=>.bk (ρ.set i none)
 | .ct ρ=>.ct (ρ.set i none)
 | _=>.bad
noncomputable def hdAs (K:W.Frag) (C':Addr) (i:Nat) (fb:Rho->Out) (rest:D->Rho->Out) (x:D) (ρ:Rho):Out:=match x with
 | .exc C gs=>if xbB K C=true then (if subK K C C'=true then unset i (fb (ρ.set i (some (.val (.exc C gs))))) else rest (.exc C gs) ρ) else .bad
 | _=>.bad
set_option tactic.hygienic true in
def dh_as (hst:X.stack=X.env::X.outer/\X.env.frame=some X.env.locals) (hN:X.N.Nodup) (hm:X.mg cn=some (.ref C')) (hb:XBase X.K C')
 (hsu:∀e,DB (cxH X e) xqF (b0::bs) fb) (hrs:DH X xq rest hr) (hi:X.N[i]?=some nm:=by rfl) (hl:X.env.scope.names.lookup nm=some .local:=by rfl) (hk:X.env.kindOf nm=some .local:=by rfl) (hg:Gl X cn:=by rfl) (hdb:(cn==("__debug__":Str))=false:=by decide) :
 DH X xq (.ExceptHandler (some (.Name cn p)) (some nm) (b0::bs) pos::rest) (hdAs X.K C' i fb hr):=⟨λpins s σ H B F ρ x e n T I o tr R pe q=>by
 cases pe with
 | exc h1 h2 h3 =>
  rename_i C dx fs gs
  have hx:=R.fh _ _ h1
  have q:=q.out
  unfold hdAs at q
  dsimp only at q
  by_cases hc:xbB X.K C=true
  ·rw [if_pos hc] at q
   obtain⟨oe,he,hcls⟩:∃oe,s.heap.get? e=some oe/\oe.cls=.ref C:=by
    obtain⟨t,f1,f2,f3,f4,f5,sl,z⟩:=v1C I.hok hx
    exact⟨_,z,rfl⟩
   have IH:=I.toH e
   refine wpAny_handleBy_cons (codeAny_handlers_test (u3C IH hg hm (u8p I.kIn (u4P hc) hb he hcls ?_) hdb)) (by intro z;cases z)
   cases hsb:subK X.K C C' with
   | false =>
    rw[hsb] at q
    exact hrs.out pins s σ H B F ρ _ e n T I o tr R (.exc h1 h2 h3) ⟨q⟩
   | true =>
    rw[hsb] at q
    refine codeAny_handlers_suite_as (u2p (X:=cxH X e) (f:=none) IH hst ⟨o.s0,o.loc,o.cel,o.pin⟩ hx tr λs2 I2 tr2=>?_)
    refine u4Q (X:=cxH X e) (v:=.ref e) I2 hN hi (.inl hl) rfl (λs3 I3=>?_) (.inr hl)
    have R3:Rel X.K B (ρ.set i (some (.val (.exc C gs)))) (σ.set i (some (.ref e))) F H:=R.set (.exc h1 h2 h3)
    refine wpAny_mono ((hsu e).out pins s3 _ H { nx:=λσ' H'=>T.nx (σ'.set i none) H',rt:=T.rt,bk:=λσ' H'=>T.bk (σ'.set i none) H',ct:=λσ' H'=>T.ct (σ'.set i none) H' } I3 ⟨B,F,_,R3,⟨?_⟩⟩) (λf s4 z=>?_) λ_ _ z=>False.elim z
    ·generalize fb (ρ.set i (some (Sl.val (D.exc C gs))))=out at q
     cases out with
     | nx r=>exact λσ' F' H' R'=>q _ F' H' R'.unset
     | rt d=>exact q
     | bk r=>exact λσ' F' H' R'=>q _ F' H' R'.unset
     | ct r=>exact λσ' F' H' R'=>q _ F' H' R'.unset
     | er y r=>exact q.elim
     | bad=>exact q.elim
    ·cases f with
     | next=>obtain⟨σ',H',I4,z⟩:=z;exact u7f (Inv.ofH I.ok I4) hN hi hl hk λs5 I5=>⟨_,H',I5,z⟩
     | brk=>obtain⟨σ',H',I4,z⟩:=z;exact u7f (Inv.ofH I.ok I4) hN hi hl hk λs5 I5=>⟨_,H',I5,z⟩
     | cont=>obtain⟨σ',H',I4,z⟩:=z;exact u7f (Inv.ofH I.ok I4) hN hi hl hk λs5 I5=>⟨_,H',I5,z⟩
     | ret u=>obtain⟨v,σ',H',I4,r,z⟩:=z;exact u7f (Inv.ofH I.ok I4) hN hi hl hk λs5 I5=>⟨v,_,H',I5,r,z⟩
  ·rw[if_neg hc] at q;exact q.elim
 | _=>exact q.out.elim⟩
noncomputable def hdNo (K:W.Frag) (C':Addr) (fb:Rho->Out) (rest:D->Rho->Out) (x:D) (ρ:Rho):Out:=match x with
 | .exc C gs=>if xbB K C=true then (if subK K C C'=true then (match fb ρ with | .er _ _=>.bad|o=>o) else rest (.exc C gs) ρ) else .bad
 | _=>.bad
set_option tactic.hygienic true in
def dh_no (hst:X.stack=X.env::X.outer/\X.env.frame=some X.env.locals) (hm:X.mg cn=some (.ref C')) (hb:XBase X.K C')
 (hsu:∀e,DB (cxH X e) xqF (b0::bs) fb) (hrs:DH X xq rest hr) (hg:Gl X cn:=by rfl) (hdb:(cn==("__debug__":Str))=false:=by decide) :
 DH X xq (.ExceptHandler (some (.Name cn p)) none (b0::bs) pos::rest) (hdNo X.K C' fb hr):=⟨λpins s σ H B F ρ x e n T I o tr R pe q=>by
 cases pe with
 | exc h1 h2 h3 =>
  rename_i C dx fs gs
  have hx:=R.fh _ _ h1
  have q:=q.out
  unfold hdNo at q
  dsimp only at q
  by_cases hc:xbB X.K C=true
  ·rw [if_pos hc] at q
   obtain⟨oe,he,hcls⟩:∃oe,s.heap.get? e=some oe/\oe.cls=.ref C:=by
    obtain⟨t,f1,f2,f3,f4,f5,sl,z⟩:=v1C I.hok hx
    exact⟨_,z,rfl⟩
   have IH:=I.toH e
   refine wpAny_handleBy_cons (codeAny_handlers_test (u3C IH hg hm (u8p I.kIn (u4P hc) hb he hcls ?_) hdb)) (by intro z;cases z)
   cases hsb:subK X.K C C' with
   | false =>
    rw[hsb] at q
    exact hrs.out pins s σ H B F ρ _ e n T I o tr R (.exc h1 h2 h3) ⟨q⟩
   | true =>
    rw[hsb] at q
    refine codeAny_handlers_suite (u2p (X:=cxH X e) (f:=none) IH hst ⟨o.s0,o.loc,o.cel,o.pin⟩ hx tr λs2 I2 tr2=>?_)
    refine wpAny_mono ((hsu e).out pins s2 _ H T I2 ⟨B,F,_,R,⟨?_⟩⟩) (λf s4 z=>?_) λ_ _ z=>False.elim z
    ·have q:(match fb ρ with | .er _ _=>Out.bad | o=>o).all _ _ _ _ _:=q
     generalize fb ρ=out at q
     cases out with
     | nx r=>exact q
     | rt d=>exact q
     | bk r=>exact q
     | ct r=>exact q
     | er y r=>exact q.elim
     | bad=>exact q.elim
    ·cases f with
     | next=>obtain⟨σ',H',I4,z⟩:=z;exact⟨σ',H',Inv.ofH I.ok I4,z⟩
     | brk=>obtain⟨σ',H',I4,z⟩:=z;exact⟨σ',H',Inv.ofH I.ok I4,z⟩
     | cont=>obtain⟨σ',H',I4,z⟩:=z;exact⟨σ',H',Inv.ofH I.ok I4,z⟩
     | ret u=>obtain⟨v,σ',H',I4,r,z⟩:=z;exact⟨v,σ',H',Inv.ofH I.ok I4,r,z⟩
  ·rw[if_neg hc] at q;exact q.elim
 | _=>exact q.out.elim⟩
abbrev cxP (X:Cx) (pn:LO):Cx:={ X with pn:=X.pn++pn }
abbrev cxT (X:Cx) (pn:LO) (xq:XQ):Cx:=(cxP X pn).wish (Fly (cxP X pn) xq)
def Inv.toP (I:Inv X pins σ H s):Inv (cxP X pins) [] σ H s :=
 ⟨⟨I.ok.mod,I.ok.kind,I.ok.glob,I.ok.blt,I.ok.above,I.ok.inj,I.ok.has,I.ok.cab,I.ok.hd,I.ok.frames,I.ok.stk,I.ok.exf,I.ok.bs,I.ok.bsz,I.ok.noex,I.ok.exfs,I.ok.funs,I.ok.frf⟩,I.os,I.bare,I.base,I.loc,I.cell,I.free,I.freeC,λp hp=>I.pin p (by simpa using hp),I.hok,I.len⟩
def Inv.ofP (I:Inv (cxP X pins) [] σ H s):Inv X pins σ H s :=
 ⟨⟨I.ok.mod,I.ok.kind,I.ok.glob,I.ok.blt,I.ok.above,I.ok.inj,I.ok.has,I.ok.cab,I.ok.hd,I.ok.frames,I.ok.stk,I.ok.exf,I.ok.bs,I.ok.bsz,I.ok.noex,I.ok.exfs,I.ok.funs,I.ok.frf⟩,I.os,I.bare,I.base,I.loc,I.cell,I.free,I.freeC,λp hp=>I.pin p (by simpa using hp),I.hok,I.len⟩
def Old.ofP (o:Old (cxP X pins) [] n):Old X pins n:=⟨o.s0,o.loc,o.cel,λp hp=>o.pin p (by simpa using hp)⟩
noncomputable def catchD (hd:D->Rho->Out):Out->Out
 | .er x ρ=>hd x ρ
 | o=>o
noncomputable def dXf (K:W.Frag) (f:Str):D->Res D
 | .exc _ gs=>match gs.lookup f with
  | some d=>.ok d
  | none=>.bad
 | _=>.bad
def XRead (K:W.Frag) (f:Str) (Cs:List Addr):Prop:=∀C∈Cs,(∃fI,XCls K C fI)/\NoAttr K C f
set_option tactic.hygienic true in
def u6D {o:Expr}{f:Str}{fo:Rho->Res D}{pos:Pos}{Cs:List Addr}{K:W.Frag} (hr:XRead K f Cs) (ho:DE X xq o fo) (eK:X.K=K:=by rfl) (hb:attributeBase o f X.env (eval o X.env)=eval o X.env:=by rfl) :
  DE X xq (.Attribute o f pos) (λρ=>(fo ρ).bind λx=>match x with | .exc C gs=>if C∈Cs then (match gs.lookup f with|some d=>.ok d|none=>.bad) else .bad|_=>.bad):=by
 subst eK
 refine DE.of (pe_xfld ho.out hb) λB F ρ σ H Q R q=>seqE R q λd v F1 H1 s1 R1 p1 q1=>?_
 cases p1 with
 | exc h1 h2 h3 =>
  rename_i C dx fs gs
  have q1:(if C∈Cs then (match gs.lookup f with|some d=>Res.ok d|none=>.bad) else .bad).all _ _:=q1
  by_cases hc:C∈Cs
  ·rw [if_pos hc] at q1
   cases hl:gs.lookup f with
   | none=>rw[hl] at q1;exact q1.elim
   | some d =>
    rw[hl] at q1
    obtain⟨v,hv,pv⟩:=h3.lookup hl
    obtain⟨⟨fI,c⟩,na⟩:=hr C hc
    exact⟨_,C,fI,dx,fs,v,rfl,R1.fh _ _ h1,R1.fh _ _ h2,c,na,hv,q1 v F1 H1 s1 pv⟩
  ·rw[if_neg hc] at q1;exact q1.elim
 | _=>exact q1.elim
end
mutual
noncomputable def DK.hash (w:World):DK->Int
 | .i n=>keyH w (.inl n)
 | .s z=>keyH w (.inr z)
 | .t ks=>reduceHash (Builtin.Tuple.tupleHashOf (DK.hashes w ks))
noncomputable def DK.hashes (w:World):List DK->List Int
 | []=>[]
 | k::ks=>k.hash w::DK.hashes w ks
end
mutual
noncomputable def DK.drw:DK->Nat
 | .i _=>1
 | .s _=>1
 | .t ks=>DK.drws ks+1
noncomputable def DK.drws:List DK->Nat
 | []=>0
 | k::ks=>k.drw+DK.drws ks
end
mutual
inductive KAt (h:Heap):DK->Value->Prop
 | i (n:Int) (t:Tok):KAt h (.i n) (.int n t)
 | s (z:Str) (t:Tok):KAt h (.s z) (.str z t)
 | t {a:Addr}{o:Obj}{its:Array Value}{n:Nat}{ks:List DK}:h.get? a=some o->o.cls=.type "tuple"->o.data=.seq its n->KAts h ks its.toList->KAt h (.t ks) (.ref a)
inductive KAts (h:Heap):List DK->List Value->Prop
 | nil:KAts h [] []
 | cons {k:DK}{v:Value}{ks:List DK}{vs:List Value}:KAt h k v->KAts h ks vs->KAts h (k::ks) (v::vs)
end
mutual
theorem KAt.inj {h:Heap}:∀{x y:DK}{v:Value},KAt h x v->KAt h y v->x=y
 | _,_,_,.i _ _,.i _ _=>rfl
 | _,_,_,.s _ _,.s _ _=>rfl
 | _,_,_,.t p1 _ p2 p3,.t q1 _ q2 q3=>by
  rw[p1] at q1;cases q1
  rw[p2] at q2;cases q2
  rw[KAts.inj p3 q3]
theorem KAts.inj {h:Heap}:∀{x y:List DK}{v:List Value},KAts h x v->KAts h y v->x=y
 | _,_,_,.nil,.nil=>rfl
 | _,_,_,.cons p ps,.cons q qs=>by rw[KAt.inj p q,KAts.inj ps qs]
end
mutual
theorem KAt.moved {h h':Heap} (k:∀b o its n,h.get? b=some o->o.data=.seq its n->h'.get? b=some o):∀{x:DK}{v:Value},KAt h x v->KAt h' x v
 | _,_,.i n t=>.i n t
 | _,_,.s n t=>.s n t
 | _,_,.t p1 pc p2 p3=>.t (k _ _ _ _ p1 p2) pc p2 (KAts.moved k p3)
theorem KAts.moved {h h':Heap} (k:∀b o its n,h.get? b=some o->o.data=.seq its n->h'.get? b=some o):∀{x:List DK}{v:List Value},KAts h x v->KAts h' x v
 | _,_,.nil=>.nil
 | _,_,.cons p ps=>.cons (KAt.moved k p) (KAts.moved k ps)
end
mutual
theorem KAt.reads {h:Heap}:∀{x:DK}{v:Value},KAt h x v->∃as,Reads h v x.py as
 | _,_,.i n t=>⟨_,.int n t⟩
 | _,_,.s z t=>⟨_,.str z t⟩
 | _,_,.t p1 pc p2 p3=>let ⟨_,q⟩:=KAts.reads p3;⟨_,by rw[DK.py];exact .tuple p1 pc p2 q⟩
theorem KAts.reads {h:Heap}:∀{x:List DK}{v:List Value},KAts h x v->∃as,ReadsAll h v (DK.pys x) as
 | _,_,.nil=>⟨_,.nil⟩
 | _,_,.cons p ps=>let ⟨_,q⟩:=KAt.reads p;by obtain⟨_,qs⟩:=KAts.reads ps;exact⟨_,.cons q qs⟩
end
mutual
theorem DK.eqv_iff:∀x y:DK,PyData.eqv x.py y.py=true↔x=y
 | .i n,.i m=>by simp[DK.py,PyData.eqv]
 | .s n,.s m=>by simp[DK.py,PyData.eqv]
 | .t n,.t m=>by simp only[DK.py,PyData.eqv,DK.t.injEq];exact DK.eqvs_iff n m
 | .i _,.s _=>by simp[DK.py,PyData.eqv]
 | .i _,.t _=>by simp[DK.py,PyData.eqv]
 | .s _,.i _=>by simp[DK.py,PyData.eqv]
 | .s _,.t _=>by simp[DK.py,PyData.eqv]
 | .t _,.i _=>by simp[DK.py,PyData.eqv]
 | .t _,.s _=>by simp[DK.py,PyData.eqv]
theorem DK.eqvs_iff:∀x y:List DK,PyData.eqvAll (DK.pys x) (DK.pys y)=true↔x=y
 | [],[]=>by simp[DK.pys,PyData.eqvAll]
 | a::x,b::y=>by simp only[DK.pys,PyData.eqvAll,t9,List.cons.injEq];rw[DK.eqv_iff a b,DK.eqvs_iff x y]
 | [],_::_=>by simp[DK.pys,PyData.eqvAll]
 | _::_,[]=>by simp[DK.pys,PyData.eqvAll]
end
def DK.eqv_dec (x y:DK):PyData.eqv x.py y.py=decide (x=y):=by
 rw[z1D,DK.eqv_iff];simp
section
variable {prog:Program}{w:World}
set_option maxHeartbeats 1000000 in
def v3T (d:Nat):∀{k:DK}{v:Value}{A:Around}{E:VP}{s:Shared}{Q:Int->Shared->Prop},k.dep<=d->A.units+d<cLine->KAt s.heap k v->Q (k.hash w) { s with toks:=s.toks+k.drw }->wpAny (model prog w) A (PySem.pyHash v) Q E s:=by
 induction d with
 | zero =>
  intro k v A E s Q hd hu p q
  cases p with
  | i n t=>exact(mixKind prog w).pyHash (k:=.inl n) (u3z prog w n t) q
  | s z t=>exact(mixKind prog w).pyHash (k:=.inr z) (u3y prog w z t) q
  | t p1 pc p2 p3=>simp[DK.dep] at hd
 | succ d ih =>
  intro k v A E s Q hd hu p q
  cases p with
  | i n t=>exact(mixKind prog w).pyHash (k:=.inl n) (u3z prog w n t) q
  | s z t=>exact(mixKind prog w).pyHash (k:=.inr z) (u3y prog w z t) q
  | @t a o its n ks p1 pc p2 p3 =>
   have ty:s.TypeIs (.ref a) "tuple":=⟨o,p1,pc⟩
   have hds:DK.deps ks<=d:=by simpa[DK.dep] using hd
   unfold PySem.pyHash
   first|unfold pyHashByItsType|skip
   first|refine wpAny_bind (wpAny_cRoomFor_or (.inr (by omega)) ?_)|skip
   refine wpAny_bind (wpAny_specialOf ty F.slot_tuple_hash.lookup ?_)
   show wpAny _ _ (if (some (Value.builtin "tuple.__hash__")==some Value.none)=true then _ else _) _ _ _
   rw[if_neg (by rw[beq_builtin_none];simp)]
   refine wpAny_bind (wpAny_specialOf ty F.slot_tuple_hash.lookup ?_)
   show wpAny _ _ (callSpecialIfBoundUnlessNone? (.ref a) "__hash__" _ >>= _) _ _ _
   refine wpAny_bind (wpAny_callSpecialIfBoundUnlessNone?_slot ty F.slot_tuple_hash (wpAny_call_entry F.slot_tuple_hash ty F.entry_tuple_hash ?_ (F.args_tuple_hash_1 _)))
   show wpAny _ _ (Builtin.Tuple.tupleItemsOf (.ref a) >>= _) _ _ _
   refine wpAny_bind (wpAny_tupleItemsOf p1 p2 ?_)
   refine wpAny_bind ?_
   rw[<- Array.forIn_toList]
   refine wpAny_forIn_list _ (λrest (b:Array Int) s'=>∃l r,DK.hashes w ks=l++DK.hashes w r/\KAts s.heap r rest/\DK.deps r<=d/\b.toList=l/\∃c,c+DK.drws r=DK.drws ks/\s'={ s with toks:=s.toks+c }) _ ?_ ?_ _ _ ⟨[],ks,rfl,p3,hds,rfl,0,Nat.zero_add _,rfl⟩
   ·rintro x rest b s' ⟨l,r,e1,e2,e3,e4,c,e5,rfl⟩
    cases e2 with
    | @cons k _ r' _ f1 f2 =>
     simp only[DK.deps] at e3
     refine wpAny_bind (ih (k:=k) (by omega) (by show A.units+1+d<cLine;omega) f1 ?_)
     first
      | exact wpAny_pure ⟨l++[k.hash w],r',by rw[e1];simp[DK.hashes],f2,by omega,by simp[e4],c+k.drw,by rw[<- e5];simp[DK.drws,Nat.add_assoc],by simp[Nat.add_assoc]⟩
      | exact wpAny_bind (wpAny_pure (wpAny_pure ⟨l++[k.hash w],r',by rw[e1];simp[DK.hashes],f2,by omega,by simp[e4],c+k.drw,by rw[<- e5];simp[DK.drws,Nat.add_assoc],by simp[Nat.add_assoc]⟩))
   ·rintro b s' ⟨l,r,e1,e2,e3,e4,c,e5,rfl⟩
    cases e2
    have e6:DK.hashes w ks=b.toList:=by rw[e1,e4];simp[DK.hashes]
    have e7:c=DK.drws ks:=by rw[<- e5];simp[DK.drws]
    subst e7
    simp only[DK.hash,DK.drw] at q
    rw[e6] at q
    show wpAny _ _ (retInt (Builtin.Tuple.tupleHashOf b.toList)) _ _ _
    refine wpAny_ret_mkInt ?_
    show wpAny _ _ (if (decide (-(2:Int)^63<=Builtin.Tuple.tupleHashOf b.toList)&&decide (Builtin.Tuple.tupleHashOf b.toList<2^63))=true then _ else _) _ _ _
    unfold reduceHash at q
    by_cases hr:(decide (-(2:Int)^63<=Builtin.Tuple.tupleHashOf b.toList)&&decide (Builtin.Tuple.tupleHashOf b.toList<2^63))=true
    ·rw [if_pos hr] at q |-
     exact wpAny_pure (by simpa[Nat.add_assoc] using q)
    ·rw [if_neg hr] at q |-
     exact wpAny_bind (wpAny_rule (wpAny_pure (by simpa[Nat.add_assoc] using q)))
def v2u (d:Nat):∀{k:DK}{v:Value}{A:Around}{E:VP}{s:Shared}{Q:Bool->Shared->Prop},k.dep<=d->KAt s.heap k v->Q true s->wpAny (model prog w) A (eqIsQuiet d v) Q E s:=by
 induction d with
 | zero =>
  intro k v A E s Q hd p q
  cases p with
  | i n t=>rw[eqIsQuiet_byValue _ rfl];exact wpAny_pure q
  | s z t=>rw[eqIsQuiet_byValue _ rfl];exact wpAny_pure q
  | t p1 pc p2 p3=>simp[DK.dep] at hd
 | succ d ih =>
  intro k v A E s Q hd p q
  cases p with
  | i n t=>rw[eqIsQuiet_byValue _ rfl];exact wpAny_pure q
  | s z t=>rw[eqIsQuiet_byValue _ rfl];exact wpAny_pure q
  | @t a o its n ks p1 pc p2 p3 =>
   have ty:s.TypeIs (.ref a) "tuple":=⟨o,p1,pc⟩
   have hds:DK.deps ks<=d:=by simpa[DK.dep] using hd
   unfold eqIsQuiet
   refine wpAny_bind (wpAny_specialOf ty F.slot_tuple_eq.lookup ?_)
   show wpAny _ _ (isInstance (.ref a) (.type "tuple") >>= _) _ _ _
   refine wpAny_bind (wpAny_isInstance ty isSubtype_tuple_tuple ?_)
   simp only[Bool.not_true,t7,if_false]
   refine wpAny_bind (wpAny_seqItems p1 p2 ?_)
   refine wpAny_bind ?_
   show wpAny _ _ (forIn its _ _) _ _ _
   rw[<- Array.forIn_toList]
   refine wpAny_forIn_list _ (λrest r s'=>r.1=none/\s'=s/\∃l,KAts s.heap l rest/\DK.deps l<=d) _ ?_ ?_ _ _ ⟨rfl,rfl,ks,p3,hds⟩
   ·rintro v rest r s' ⟨hr,rfl,l,e1,e2⟩
    cases e1 with
    | cons f1 f2 =>
     simp only[DK.deps] at e2
     refine wpAny_bind (ih (by omega) f1 ?_)
     simp only[Bool.not_true,t7,if_false]
     exact wpAny_pure ⟨rfl,rfl,_,f2,by omega⟩
   ·rintro ⟨r1,r2⟩ s' ⟨hr,rfl,_⟩
    simp only at hr
    subst hr
    exact wpAny_pure q
noncomputable def nestKind (prog:Program) (w:World):HeapKind prog w (List DK) where
 is h ks a:=KAt h (.t ks) (.ref a)/\(DK.t ks).dep<=8/\SeqAt.shaped (DK.t ks).py=true
 hash ks:=(DK.t ks).hash w
 draws ks:=(DK.t ks).drw
 room A:=A.units+80<cLine
 inj p q:=by have:=p.1.inj q.1;cases this;rfl
 keeps p hd he sb:=⟨p.1.moved (λb o its n q1 q2=>(sb.2 b (λz=>by
  subst z
  rw[q1] at hd
  cases hd
  rw[q2] at he
  cases he)).trans q1),p.2⟩
 pyHash hu p q:=v3T 8 p.2.1 (by omega) p.1 q
 eqBool:=λ{A E s x y a b Q} hu p r q=>by
  obtain⟨as,ra⟩:=p.1.reads
  obtain⟨bs,rb⟩:=r.1.reads
  refine SeqAt.eqBoolOverData _ _ _ _ _ _ _ _ _ _ _ _ ra rb (SeqAt.canLay_of_shaped p.2.2) (SeqAt.canLay_of_shaped r.2.2) ?_ ?_
  ·have:=SeqAt.depth_of_shaped p.2.2
   have h2:min (DK.t x).py.depth (DK.t y).py.depth<=(DK.t x).py.depth:=Nat.min_le_left _ _
   omega
  ·rw[DK.eqv_dec];simpa using q
 quiet p q:=v2u 8 p.2.1 p.1 q
end
noncomputable def cmpDs:List D->Res (List PyData)
 | []=>.ok []
 | d::ds=>(cmpD d).bind λa=>(cmpDs ds).bind λas=>.ok (a::as)
noncomputable def inS (i j:Str):Bool:=!(Builtin.Str.occurrences j i 0 j.length 1).isEmpty
noncomputable def inD (x:D) (ds:List D) (neg:Bool):Res D:=(cmpD x).bind λa=>(cmpDs ds).bind λas=>.ok (.bl (if neg=true then !(as.any λb=>PyData.eqv b a) else as.any λb=>PyData.eqv b a))
noncomputable def dInG (neg:Bool):D->D->Res D
 | x,.lst ds=>inD x ds neg
 | x,.tup ds=>inD x ds neg
 | .str i,.str j=>.ok (.bl (if neg=true then !inS i j else inS i j))
 | _,_=>.bad
def u2D (neg:Bool) (x:D) (ds:List D):dInG neg x (.lst ds)=inD x ds neg:=by cases x<;>rfl
def v2Z (neg:Bool) (x:D) (ds:List D):dInG neg x (.tup ds)=inD x ds neg:=by cases x<;>rfl
noncomputable abbrev dIn:=dInG false
noncomputable abbrev dNotIn:=dInG true
section
variable {X:Cx}{pins:LO}{σ:St}{H:Hp}{s:Shared}
noncomputable def eqR (h:Heap) (a:PyData) (u:Value):Bool:=@decide (∃d as,Reads h u d as/\PyData.eqv d a=true) (_root_.Classical.propDecidable _)
def v4D (r:Reads h u d as):eqR h a u=PyData.eqv d a:=by
 unfold eqR
 rw[z1D,@decide_eq_true_iff _ (_root_.Classical.propDecidable _)]
 constructor
 ·rintro ⟨d',as',r',q⟩
  rw[(r.unique d' as' r').1];exact q
 ·exact λq=>⟨d,as,r,q⟩
def v1v (h:cmpDs (d::ds)=.ok bs):∃b r,d.py=some b/\SeqAt.shaped b=true/\cmpDs ds=.ok r/\bs=b::r:=by
 unfold cmpDs at h
 cases e:cmpD d with
 | err x=>rw[e] at h;cases h
 | bad=>rw[e] at h;cases h
 | ok b =>
  rw[e] at h
  obtain⟨b',q1,q2,q3⟩:=u4r (P:=λz=>z=b) (E:=λ_=>False) (by rw[e];exact rfl)
  subst q3
  cases e2:cmpDs ds with
  | err x=>rw[e2] at h;cases h
  | bad=>rw[e2] at h;cases h
  | ok r=>rw[e2] at h;cases h;exact⟨_,r,q1,q2,rfl,rfl⟩
theorem u8J {F:Hp}{a:PyData}{v:Value}{vs:List Addr}{A:Around} (I:Inv X pins σ H s) (fh:Same F H) (rv:Reads s.heap v a vs) (sa:SeqAt.shaped a=true) (hu:A.units+64<cLine):∀{xs:List V}{ds:List D}{its:List Value}{bs:List PyData},Rps X.K F xs ds->Vals xs its->cmpDs ds=.ok bs ->
  (∀u∈its,SeqAt.EqAt A s u v (eqR s.heap a u))/\its.any (eqR s.heap a)=bs.any λb=>PyData.eqv b a
 | _,_,_,_,.nil,.nil,e=>by cases e;exact⟨(λu hu=>by cases hu),rfl⟩
 | _,_,_,_,.cons h hs,.cons r rs,e=>by
  obtain⟨b,r',q1,q2,q3,rfl⟩:=v1v e
  obtain⟨i1,i2⟩:=u8J I fh rv sa hu hs rs q3
  obtain⟨as,ru⟩:=((h.rd q1).same fh).reads I r
  refine⟨λu hu'=>?_,by rw[List.any_cons,List.any_cons,i2,v4D ru]⟩
  rcases z8.mp hu' with rfl|hu'
  ·rw [v4D ru]
   refine SeqAt.eqAt_reads _ _ _ _ _ _ _ _ ru rv (SeqAt.canLay_of_shaped q2) (SeqAt.canLay_of_shaped sa) ?_
   have:=SeqAt.depth_of_shaped q2
   have h2:min b.depth a.depth<=b.depth:=Nat.min_le_left _ _
   omega
  ·exact i1 u hu'
def v0d (h:(inD x ds neg).all P E):∃a bs,x.py=some a/\SeqAt.shaped a=true/\cmpDs ds=.ok bs/\P (.bl (if neg=true then !(bs.any λb=>PyData.eqv b a) else bs.any λb=>PyData.eqv b a))\/∃y,cmpDs ds=.err y:=by
 unfold inD at h
 obtain⟨a,q1,q2,q⟩:=u4r (Res.all_bind.mp h)
 cases e:cmpDs ds with
 | ok bs=>rw[e] at q;exact⟨a,bs,.inl ⟨q1,q2,rfl,q⟩⟩
 | err y=>exact⟨a,[],.inr ⟨y,rfl⟩⟩
 | bad=>rw[e] at q;exact q.elim
theorem u1Z:∀(ds:List D) (y:D),cmpDs ds≠.err y
 | [],_,h=>by cases h
 | d::ds,y,h=>by
  unfold cmpDs at h
  cases e:cmpD d with
  | err x =>
   unfold cmpD at e
   split at e
   ·unfold gd at e;split at e<;>cases e
   ·cases e
  | bad=>rw[e] at h;cases h
  | ok b =>
   rw[e] at h
   cases e2:cmpDs ds with
   | err x=>exact u1Z ds x e2
   | bad=>rw[e2] at h;cases h
   | ok r=>rw[e2] at h;cases h
def o_in (hu:X.A.units+100<cLine):OpR X (compareOp .In) (rD X.K dIn):=by
 intro pins s σ H x y v u Q I rx ry z9104
 obtain⟨F,dx,dy,fh,px,py,q⟩:=z9104
 have hu':X.A.in1.units+64<cLine:=by show X.A.units+1+64<cLine;omega
 cases py with
 | lst hq hs =>
  unfold dIn at q
  rw[u2D] at q
  obtain⟨a,bs,⟨q1,q2,q3,q4⟩|⟨y,q3⟩⟩:=v0d q
  ·obtain ⟨its,r,pl,hz⟩:=I.list (.inl (hq.same fh))
   obtain⟨as,rv⟩:=((px.rd q1).same fh).reads I rx
   obtain⟨h1,h2⟩:=u8J I fh rv q2 hu' hs r q3
   cases ry
   refine SeqAt.in_listAt (eqR s.heap a) pl.isList (λw hw=>h1 w (by simpa using hw)) ⟨.bl _,H,I,rfl,?_⟩
   rw[show its.toArray.any (eqR s.heap a)=its.any (eqR s.heap a) by simp,h2]
   exact q4 _ F H (Stp.refl fh) (.bl _)
  ·exact absurd q3 (u1Z _ _)
 | tup hq hs =>
  unfold dIn at q
  rw[v2Z] at q
  obtain⟨a,bs,⟨q1,q2,q3,q4⟩|⟨y,q3⟩⟩:=v0d q
  ·obtain ⟨its,r,pl,hz⟩:=I.tuple (fh.seqT hq)
   obtain⟨as,rv⟩:=((px.rd q1).same fh).reads I rx
   obtain⟨h1,h2⟩:=u8J I fh rv q2 hu' hs r q3
   cases ry
   refine SeqAt.in_tupleAt (eqR s.heap a) pl (λw hw=>h1 w (by simpa using hw)) ⟨.bl _,H,I,rfl,?_⟩
   rw[show its.toArray.any (eqR s.heap a)=its.any (eqR s.heap a) by simp,h2]
   exact q4 _ F H (Stp.refl fh) (.bl _)
  ·exact absurd q3 (u1Z _ _)
 | str hz =>
  cases px with
  | str hz'=>exact v2g pins s σ H _ _ v u Q I rx ry ⟨_,_,rfl,rfl,q _ F H (Stp.refl fh) (.bl _)⟩
  | _=>exact q.elim
 | _=>cases dx<;>exact q.elim
def u2z (hu:X.A.units+100<cLine):OpR X (compareOp .NotIn) (rD X.K dNotIn):=by
 intro pins s σ H x y v u Q I rx ry z9105
 obtain⟨F,dx,dy,fh,px,py,q⟩:=z9105
 have hu':X.A.in1.units+64<cLine:=by show X.A.units+1+64<cLine;omega
 cases py with
 | lst hq hs =>
  unfold dNotIn at q
  rw[u2D] at q
  obtain⟨a,bs,⟨q1,q2,q3,q4⟩|⟨y,q3⟩⟩:=v0d q
  ·obtain ⟨its,r,pl,hz⟩:=I.list (.inl (hq.same fh))
   obtain⟨as,rv⟩:=((px.rd q1).same fh).reads I rx
   obtain⟨h1,h2⟩:=u8J I fh rv q2 hu' hs r q3
   cases ry
   refine SeqAt.notIn_listAt (eqR s.heap a) pl.isList (λw hw=>h1 w (by simpa using hw)) ⟨.bl _,H,I,rfl,?_⟩
   rw[show its.toArray.any (eqR s.heap a)=its.any (eqR s.heap a) by simp,h2]
   exact q4 _ F H (Stp.refl fh) (.bl _)
  ·exact absurd q3 (u1Z _ _)
 | tup hq hs =>
  unfold dNotIn at q
  rw[v2Z] at q
  obtain⟨a,bs,⟨q1,q2,q3,q4⟩|⟨y,q3⟩⟩:=v0d q
  ·obtain ⟨its,r,pl,hz⟩:=I.tuple (fh.seqT hq)
   obtain⟨as,rv⟩:=((px.rd q1).same fh).reads I rx
   obtain⟨h1,h2⟩:=u8J I fh rv q2 hu' hs r q3
   cases ry
   refine SeqAt.notIn_tupleAt (eqR s.heap a) pl (λw hw=>h1 w (by simpa using hw)) ⟨.bl _,H,I,rfl,?_⟩
   rw[show its.toArray.any (eqR s.heap a)=its.any (eqR s.heap a) by simp,h2]
   exact q4 _ F H (Stp.refl fh) (.bl _)
  ·exact absurd q3 (u1Z _ _)
 | str hz =>
  cases px with
  | str hz'=>exact u7X pins s σ H _ _ v u Q I rx ry ⟨_,_,rfl,rfl,q _ F H (Stp.refl fh) (.bl _)⟩
  | _=>exact q.elim
 | _=>cases dx<;>exact q.elim
end
noncomputable def liftO (K:W.Frag) (xq:XQ) (f:Rho->Res (Option Int)):TO:=λσ H Q=>∃B F ρ,Rel K B ρ σ F H /\
 (f ρ).all (λo=>∀F' H',Stp F H F' H'->Q o H') (ErrK K xq B ρ σ)
structure DO (X:Cx) (xq:XQ) (e:Option Expr) (f:Rho->Res (Option Int)):Prop where
 out:PO X e (liftO X.K xq f)
noncomputable def asI:D->Res (Option Int)
 | .int i=>.ok (some i)
 | _=>.bad
noncomputable def dSl (d:D) (lo hi:Option Int):Res D:=match d with
 | .lst ds=>.ok (.lst (cutC ds lo hi))
 | .tup ds=>if HT.sIx ds.length 0 lo=0/\HT.sIx ds.length ds.length hi=ds.length then .bad else .ok (.tup (cutC ds lo hi))
 | .str z=>.ok (.str (Txt.slice z lo hi))
 | _=>.bad
section
variable {X:Cx}{xq:XQ}{e:Expr}{lo hi:Option Expr}{fe:Rho->Res D}{fl fh:Rho->Res (Option Int)}{p2 pos:Pos}
def u0x:DO X xq none (λ_=>.ok none):=⟨λpins s σ H Q I z9=>un5 z9 λB F ρ R q=>po_none pins s σ H Q I (q F H (Stp.refl R.fh))⟩
def u0t (h:DE X xq e fe):DO X xq (some e) (λρ=>(fe ρ).bind asI):=⟨λpins s σ H Q I z9=>un5 z9 λB F ρ R q=>po_some h.out pins s σ H Q I (seqE R q λd v F1 H1 s1 R1 p1 q1=>by
 cases p1 with
 | int i=>exact⟨i,rfl,q1 F1 H1 s1⟩
 | _=>exact q1.elim)⟩
def rSlD (K:W.Frag):V->Option Int->Option Int->Hp->VK->Prop:=λx lo hi H Q=>∃F d,Same F H/\Rp K F x d/\(dSl d lo hi).all (λd'=>∀v F' H',Stp F H F' H'->Rp K F' v d'->Q v H') (λ_=>False)
def Rps.cut {K:W.Frag}{F:Hp}{xs:List V}{ds:List D} (r:Rps K F xs ds) (lo hi:Option Int):Rps K F (cutV xs lo hi) (cutC ds lo hi):=by
 unfold cutV cutC
 rw[r.length]
 exact(r.drop _).take _
set_option tactic.hygienic true in
def sl_D:SlR X (rSlD X.K):=by
 intro pins s σ H x v vl vu lo hi sl Q I rx hs pl pu z9106
 obtain⟨F,d,fh,px,q⟩:=z9106
 cases px with
 | lst hq rs=>exact sl_list pins s σ H _ v vl vu lo hi sl Q I rx hs pl pu ⟨_,_,rfl,.inl (hq.same fh),λp n=>q _ _ _ (Stp.new fh n) (.lst (.inl u0j) ((rs.cut lo hi).same (Stp.new fh n).ff))⟩
 | tup hq rs =>
  unfold dSl at q
  dsimp only at q
  split at q
  ·exact q.elim
  ·rename_i nw
   exact sl_tup pins s σ H _ v vl vu lo hi sl Q I rx hs pl pu ⟨_,_,rfl,fh.seqT hq,by rw[rs.length];exact nw,λp n=>q _ _ _ (Stp.new fh n) (.tup (.inl (.inl u0j)) ((rs.cut lo hi).same (Stp.new fh n).ff))⟩
 | str hz=>exact sl_str pins s σ H _ v vl vu lo hi sl Q I rx hs pl pu ⟨_,rfl,hz,q _ F H (Stp.refl fh) (.str (v5 (Txt.slice_le _ _ _) hz))⟩
 | _=>exact q.elim
def d_sl (he:DE X xq e fe) (hl:DO X xq lo fl) (hu:DO X xq hi fh):DE X xq (.Subscript e (.Slice lo hi none p2) pos) (λρ=>(fe ρ).bind λd=>(fl ρ).bind λl=>(fh ρ).bind λu=>dSl d l u) :=
 DE.of (v3C sl_D he.out hl.out hu.out) λB F ρ σ H Q R q=>seqE R q λd v F1 H1 s1 R1 p1 q1 =>
  ⟨B,F1,ρ,R1,Res.all_mono (Res.all_bind.mp q1) (λl q2 F2 H2 s2=>⟨B,F2,ρ,R1.step s2,Res.all_mono (Res.all_bind.mp q2) (λu q3 F3 H3 s3=>by
   refine⟨F3,d,((R1.step s2).step s3).fh,(p1.same s2.ff).same s3.ff,?_⟩
   cases hd:dSl d l u with
   | ok d'=>rw[hd] at q3;exact λv' F' H' st pv=>q3 v' F' H' (((s1.trans s2).trans s3).trans st) pv
   | err x=>unfold dSl at hd;split at hd<;>first|cases hd|(split at hd<;>cases hd)
   | bad=>rw[hd] at q3;exact q3) λ_ z=>z⟩) λ_ z=>z⟩
def u4Y (own:List Str) (outs:List Nat) (hc:X.calm=true) (ok:CompOk X.env.scope X.N own outs scope) (hN:X.N.Nodup) (hi:DI X xq tg iter fi) (hg:∀{cl C s H fp},DG (cxC X own outs scope cl C s H fp) tg ix g) (hf:∀{cl C s H fp},DF (cxC X own outs scope cl C s H fp) xqF ifs fA) (he:∀{cl C s H fp},DE (cxC X own outs scope cl C s H fp) xqF elt fe)
 (nd:outs.Nodup:=by decide) (hix:∀j∈ix,j<own.length:=by decide) (hy:X.N.findIdx? (λy=>y==x)=some i:=by rfl) (hx:X.env.scope.names.lookup x=some .local:=by rfl)
 (hsw:swapsWith (.ListComp elt [⟨tg,iter,ifs,0⟩] scope pos) (some (.Name x py)) spos.line X.env=pure true:=by rfl) (hs:∀x,foldedSetIterable iter X.env x=pure x:=by intro _;rfl) :
 DS X xq (.Assign [.Name x py] (.ListComp elt [⟨tg,iter,ifs,0⟩] scope pos) spos) (λρ=>((fi ρ).bind λds=>gd (ds.length<=sizeLine) ((compD g fA fe (rhoC own.length outs ρ) ds).bind λys=>.ok (OD.l ys))).go ρ λo=>.nx (ρ.set i (some (.val o.toD)))) :=
 DS.of (u6r own outs hc ok hN (u6K hy) hx hi.out (g:=liftG X.K ix g) (ti:=liftT X.K xqF fA) (te:=liftE X.K xqF fe) (λ{cl C s H fp}=>hg.out) (λ{cl C s H fp}=>hf.out) (λ{cl C s H fp}=>he.out) hsw hs) λB F ρ σ H T R q =>
  u5O nd hix ⟨B,F,ρ,R,Res.all_mono (u0O q.out) (λo q a hh F' H' s1 n1 n2 e1 r1=>by
   have s2:Stp F H (upd F' a hh) H':=⟨s1.ff.trans (u0p n1),λb u x=>by
    unfold upd at x
    by_cases z:b=a
    ·rw[if_pos z] at x;cases x;subst z;exact e1
    ·rw[if_neg z] at x;exact s1.fh b u x,s1.hh,λb x y=>by
    unfold upd
    by_cases z:b=a
    ·subst z;exact absurd n2 y
    ·rw[if_neg z];exact s1.no b x y⟩
   exact q _ _ _ ((R.step s2).set ((Ro.same (u0p n1) r1).rp u0j))) λx q=>errOf q⟩
def rExtR:V->List V->Hp->VK->Prop:=λx vs H Q=>∃l b xs zs,x=.ref l/\vs=[.ref b]/\H l=some (.lst xs)/\Rd H b (.lst zs)/\xs.length+zs.length<=sizeLine/\Q .non (upd H l (.lst (xs++zs)))
def mt_extR:MtM X "list.extend" rExtR:=by
 intro pins s σ H x vs v us Q I rx rv h
 obtain⟨l,b,xs,zs,rfl,rfl,hH,hB,hz,q⟩:=h
 cases rx
 obtain⟨u,rfl,ru⟩:=rv.one
 cases ru
 obtain⟨z,its,n,r,hl,e⟩:=I.lstM hH
 obtain⟨z2,its2,n2,r2,hl2,e2⟩:=I.lstR hB
 have hsz:its.toArray.size+its2.toArray.size<=sizeLine:=by rw[x8,x8];omega
 have hlong:¬ (!its.toArray.isEmpty&&Builtin.List.listTooLong (its.toArray.size+its2.toArray.size))=true:=by
  rw[notLongL hsz,Bool.and_false]
  exact t8
 refine call_meets F.slot_list_extend ⟨_,e,rfl⟩ F.entry_list_extend (F.args_list_extend_2 _ _)
  (AutoSeq1.list_extend_list_list_0 l its.toArray n b its2.toArray n2 hlong (by rw[x8];omega) (by omega)) ⟨e,e2,?_⟩
 refine⟨.non,_,I.lset (its':=its++its2) hH e (by simp) (r.append r2) ?_,rfl,q⟩
 rw[z2B]
 omega
def v2S (i:Nat) (he:DE X xq e fe) (hN:X.N[i]?=some x:=by rfl) (hv:Vis X.env.scope x:=by first|exact Or.inl rfl|exact Or.inr (Or.inl rfl)|exact Or.inr (Or.inr rfl)) (hd:(x==("__debug__":Str))=false:=by decide) (hcd:(x==("__classdict__":Str))=false:=by decide)
 (hs:notStar e=true:=by rfl) (hbase:attributeBase (.Name x p) "extend" X.env (eval (.Name x p) X.env)=eval (.Name x p) X.env:=by rfl) (hline:(apos.endLine==cpos.line)=true:=by rfl)
 (hsw:swapsWith (.Call (.Attribute (.Name x p) "extend" apos) [e] [] cpos) none pos.line X.env=pure false:=by rfl) :
 DS X xq (.Expr (.Call (.Attribute (.Name x p) "extend" apos) [e] [] cpos) pos) (λρ=>(getL ρ i).go ρ λds=>(fe ρ).go ρ λd=>match d with | .lst es=>if ds.length+es.length<=sizeLine then .nx (ρ.set i (some (.own (.l (ds++es))))) else .bad|_=>.bad) :=
 DS.of (u6P (pbm PySem.F.plainAttrs_list PySem.F.slot_list_extend PySem.F.type_list_extend mt_extR (u3m hN hv hd hcd) (pac he.out u4z hs) (by rw[z0D,hs];rfl) rfl hbase hline) hsw) λB F ρ σ H T R q=>by
  obtain⟨ds,e1,q1⟩:=u9w (u0O q.out)
  obtain⟨l,h,h1,h2,h3,h4,h5⟩:=R.own i _ e1
  cases h5 with
  | l hs =>
   refine⟨.ref l,h1,.inl ⟨rfl,_,.inl (.inl h4)⟩,B,F,ρ,R,Res.all_mono (u0O q1) (λd q2 v F' H' st pv=>?_) λ_ z=>errOf z⟩
   cases pv with
   | @lst b zs es hq rs =>
    have q2:(if ds.length+es.length<=sizeLine then Out.nx (ρ.set i (some (.own (.l (ds++es))))) else .bad).all _ _ _ _ _:=q2
    by_cases hz:ds.length+es.length<=sizeLine
    ·rw [if_pos hz] at q2
     have R':=R.step st
     exact⟨l,b,_,zs,rfl,rfl,st.hh _ _ h4,hq.same st.fh,by rw[hs.length,rs.length];exact hz,q2 σ F' _ (R'.write (e:=e1) h1 (.l ((hs.same st.ff).append rs)))⟩
    ·rw[if_neg hz] at q2;exact q2.elim
   | _=>exact q2.elim
end
@[simp] theorem u3n {α:Type} (a:α):noE (Res.ok a)=.ok a:=rfl
@[simp] theorem noE_bad {α:Type}:noE (Res.bad:Res α)=.bad:=rfl
@[simp] theorem asB_bl (b:Bool):asB (.bl b)=.ok b:=rfl
@[simp] theorem dI0_ii (g:Int->Int->D) (i j:Int):dI0 g (.int i) (.int j)=.ok (g i j):=rfl
@[simp] theorem u0k (C:Int->Int->Prop) [∀i j,Decidable (C i j)] (g:Int->Int->D) (i j:Int):dI C g (.int i) (.int j)=gd (C i j) (.ok (g i j)):=rfl
@[simp] theorem outR_nx (ρ:Rho):outR (.nx ρ)=.ok .non:=rfl
@[simp] theorem outR_rt (d:D):outR (.rt d)=.ok d:=rfl
@[simp] theorem outR_er (x:D) (ρ:Rho):outR (.er x ρ)=.err x:=rfl
@[simp] theorem frz_nil:frz []=[]:=rfl
@[simp] theorem frz_val (d:D) (ρ:Rho):frz (some (.val d)::ρ)=some (.val d)::frz ρ:=rfl
@[simp] theorem frz_own (o:OD) (ρ:Rho):frz (some (.own o)::ρ)=some (.val o.toD)::frz ρ:=rfl
@[simp] theorem frz_none (ρ:Rho):frz (none::ρ)=none::frz ρ:=rfl
@[simp] theorem frz_rep (n:Nat):frz (List.replicate n none)=List.replicate n none:=by unfold frz;simp
@[simp] theorem getV_zero (d:D) (ρ:Rho):getV (some (.val d)::ρ) 0=.ok d:=rfl
@[simp] theorem getV_succ (x:Option Sl) (ρ:Rho) (i:Nat):getV (x::ρ) (i+1)=getV ρ i:=rfl
@[simp] theorem getL_zero (ds:List D) (ρ:Rho):getL (some (.own (.l ds))::ρ) 0=.ok ds:=rfl
@[simp] theorem getL_succ (x:Option Sl) (ρ:Rho) (i:Nat):getL (x::ρ) (i+1)=getL ρ i:=rfl
@[simp] theorem toD_l (ds:List D):(OD.l ds).toD=.lst ds:=rfl
@[simp] theorem szD_pos {α:Type}{k:Res α} (h:ds.length<=sizeLine):szD ds k=k:=if_pos h
@[simp] theorem unset_nx (i:Nat) (ρ:Rho):unset i (.nx ρ)=.nx (ρ.set i none):=rfl
@[simp] theorem catch_nx (hd:D->Rho->Out) (ρ:Rho):catchD hd (.nx ρ)=.nx ρ:=rfl
@[simp] theorem catch_rt (hd:D->Rho->Out) (d:D):catchD hd (.rt d)=.rt d:=rfl
@[simp] theorem catch_er (hd:D->Rho->Out) (x:D) (ρ:Rho):catchD hd (.er x ρ)=hd x ρ:=rfl
@[simp] theorem chain_eq (g g':D->D->Res D) (x y:D) (z:Res D):fChain g g' x y z=(noE (g x y)).bind λw=>(asB w).bind λc=>if c=true then z.bind λz=>noE (g' y z) else .ok (.bl false):=rfl
theorem u1y {g:D->Rho->Res Rho}{fT:Rho->Res Bool}{fe:Rho->Res D}{ρ:Rho} (h:D->D):∀{ds:List D},(∀d∈ds,∃ρ1,g d ρ=.ok ρ1/\fT (frz ρ1)=.ok true/\fe ρ1=.ok (h d))->compD g fT fe ρ ds=.ok (ds.map h)
 | [],_=>rfl
 | d::ds,k=>by
  obtain⟨ρ1,k1,k2,k3⟩:=k d z6
  simp[compD,k1,k2,k3,u1y h λx hx=>k x (z0 _ hx)]
theorem u1F {g:D->Rho->Res Rho}{fT:Rho->Res Bool}{fe:Rho->Res D}{ρ:Rho} (p:D->Bool) (h:D->D):∀{ds:List D},(∀d∈ds,∃ρ1,g d ρ=.ok ρ1/\fT (frz ρ1)=.ok (p d)/\(p d=true->fe ρ1=.ok (h d)))->compD g fT fe ρ ds=.ok ((ds.filter p).map h)
 | [],_=>rfl
 | d::ds,k=>by
  obtain⟨ρ1,k1,k2,k3⟩:=k d z6
  have ih:=u1F p h (ds:=ds) λx hx=>k x (z0 _ hx)
  cases e:p d with
  | true=>simp[compD,k1,k2,e,k3 e,ih]
  | false=>simp[compD,k1,k2,e,ih]
noncomputable def hashW (w:World) (k:List DK):Int:=(DK.t k).hash w
mutual
noncomputable def dkOf:D->Option DK
 | .int n=>some (.i n)
 | .str z=>some (.s z)
 | .tup ds=>(dksOf ds).map .t
 | _=>none
noncomputable def dksOf:List D->Option (List DK)
 | []=>some []
 | d::ds=>match dkOf d,dksOf ds with
  | some k,some ks=>some (k::ks)
  | _,_=>none
end
mutual
theorem v4g:∀(d:D) (k:DK),dkOf d=some k->k.toD=d
 | .int n,k,e=>by simp only[dkOf] at e;cases e;rfl
 | .str n,k,e=>by simp only[dkOf] at e;cases e;rfl
 | .tup ds,k,e=>by
  simp only[dkOf] at e
  cases q:dksOf ds with
  | none=>rw[q] at e;cases e
  | some ks=>rw[q] at e;cases e;simp only[DK.toD];rw[u5L ds ks q]
 | .non,_,e | .bl _,_,e | .ty _,_,e | .lst _,_,e | .dct _,_,e | .ins _ _,_,e | .exc _ _,_,e | .dn _ _,_,e=>by simp only[dkOf] at e;cases e
theorem u5L:∀(ds:List D) (ks:List DK),dksOf ds=some ks->DK.toDs ks=ds
 | [],_,e=>by simp only[dksOf] at e;cases e;rfl
 | d::ds,_,e=>by
  simp only[dksOf] at e
  cases q:dkOf d with
  | none=>rw[q] at e;cases e
  | some k =>
   cases q2:dksOf ds with
   | none=>rw[q,q2] at e;cases e
   | some ks=>rw[q,q2] at e;cases e;simp only[DK.toDs];rw[v4g d k q,u5L ds ks q2]
end
noncomputable def keyOf:D->Res (List DK)
 | .tup ds=>match dksOf ds with
  | some ks=>gd (okK ks=true) (.ok ks)
  | none=>.bad
 | _=>.bad
def u9V (h:(keyOf d).all P E):∃ks,(DK.t ks).toD=d/\okK ks=true/\P ks:=by
 cases d with
 | tup ds =>
  simp only[keyOf] at h
  cases q:dksOf ds with
  | none=>rw[q] at h;exact h.elim
  | some ks =>
   rw[q] at h
   obtain⟨h1,h2⟩:=u3k h
   exact⟨ks,by simp only[DK.toD];rw[u5L ds ks q],h1,h2⟩
 | _=>exact h.elim
section
variable {X:Cx}{pins:LO}{σ:St}{H:Hp}{s:Shared}{F:Hp}
mutual
theorem v4z (I:Inv X pins σ H s) (fh:Same F H):∀(k:DK) {v:V}{u:Value},Rp X.K F v k.toD->RelV v u->KAt s.heap k u
 | .i n,_,_,p,r=>by simp only[DK.toD] at p;cases p;obtain⟨t,rfl⟩:=r;exact .i n t
 | .s n,_,_,p,r=>by simp only[DK.toD] at p;cases p;obtain⟨t,rfl⟩:=r;exact .s n t
 | .t ks,_,_,p,r=>by
  simp only[DK.toD] at p
  cases p with
  | tup hq hs =>
   cases r
   obtain⟨its,rv,pl,_⟩:=I.tuple (fh.seqT hq)
   obtain⟨o,ho,hc,n,hd⟩:=pl
   exact .t ho hc hd (by simpa using v2t I fh ks hs rv)
theorem v2t (I:Inv X pins σ H s) (fh:Same F H):∀(ks:List DK) {vs:List V}{us:List Value},Rps X.K F vs (DK.toDs ks)->Vals vs us->KAts s.heap ks us
 | [],_,_,p,r=>by simp only[DK.toDs] at p;cases p;cases r;exact .nil
 | k::ks,_,_,p,r=>by
  simp only[DK.toDs] at p
  cases p with
  | cons p1 p2 =>
   cases r with
   | cons r1 r2=>exact .cons (v4z I fh k p1 r1) (v2t I fh ks p2 r2)
end
def nk_is (I:Inv X pins σ H s) (fh:Same F H) (o:okK k=true) (p:Rp X.K F (.ref q) (DK.t k).toD):(nestKind X.prog X.w).is s.heap k q:=by
 unfold okK at o
 rw[t9] at o
 exact⟨v4z I fh _ p rfl,of_decide_eq_true o.1,o.2⟩
theorem Rpn.each (I:Inv X pins σ H s) (fh:Same F H):∀{xs:List (List DK×Addr×Value)}{kvs:List (List DK×D)},Rpn X.K F xs kvs->∀x∈xs,(nestKind X.prog X.w).is s.heap x.1 x.2.1
 | _,_,.nil,x,hx=>by cases hx
 | _,_,.cons o h r h2 hs,x,hx=>by
  rcases z8.mp hx with rfl|hx
  ·exact nk_is I fh o h
  ·exact hs.each I fh x hx
def nd_of (I:Inv X pins σ H s) (fh:Same F H) (e:H a=some (NDO a (hashW X.w) xs)) (r:Rpn X.K F xs kvs):s.heap.DictOfH (nestKind X.prog X.w) a xs/\xs.length<=sizeLine/\(a==sysModules)=false:=by
 obtain⟨o,es,ep,h1,h2,h3,h4,h5,h6,h7⟩:=(show ObjOk X.prog X.w H s.heap a (NDO a (hashW X.w) xs) from I.hok a _ e).1
 exact⟨⟨o,es,ep,h1,h2,h3,h4,r.each I fh,h5⟩,h6,h7⟩
theorem Rpn.at {k:List DK}:∀{xs:List (List DK×Addr×Value)}{kvs:List (List DK×D)},Rpn X.K F xs kvs->((atKey xs k).isSome=true↔k∈kvs.map (·.1))
 | _,_,.nil=>by simp[atKey]
 | _,_,.cons (k:=k') o h r h2 hs=>by
  have ih:=hs.at (k:=k)
  by_cases e:k'=k
  ·subst e;simp[atKey]
  ·have e':¬ k=k':=fun z=>e z.symm
   simp only[atKey,z0I,e,decide_false,w5,z8,e',false_or] at ih |-
   exact ih
def Rpn.atB (r:Rpn X.K F xs kvs):(atKey xs k).isSome=decide (k∈kvs.map (·.1)):=by
 rw[z1D,decide_eq_true_iff];exact r.at
noncomputable def inN (w:World) (neg:Bool) (x:D) (hs:List DK->Int) (kvs:List (List DK×D)):Res D:=(keyOf x).bind λk=>@ite _ (hs=hashW w) (_root_.Classical.propDecidable _) (.ok (.bl (if neg=true then !decide (k∈kvs.map (·.1)) else decide (k∈kvs.map (·.1))))) .bad
noncomputable def dInN (w:World) (neg:Bool):D->D->Res D
 | x,.dn hs kvs=>inN w neg x hs kvs
 | x,y=>dInG neg x y
def v3a (w:World) (neg:Bool) (x:D) (hs:List DK->Int) (kvs:List (List DK×D)):dInN w neg x (.dn hs kvs)=inN w neg x hs kvs:=by unfold dInN;rfl
set_option tactic.hygienic true in
def v3K (hu:X.A.units+200<cLine):OpR X (compareOp .In) (rD X.K (dInN X.w false)):=by
 intro pins s σ H x y v u Q I rx ry z9107
 obtain⟨F,dx,dy,fh,px,py,q⟩:=z9107
 cases py with
 | dn hq hr =>
  rw[v3a] at q
  unfold inN at q
  obtain⟨k,e,ok,q2⟩:=u9V (Res.all_bind.mp q)
  clear q
  split at q2
  ·rename_i hh
   subst hh
   subst e
   have px':=px
   simp only[DK.toD] at px'
   cases px' with
   | tup _ _ =>
    cases rx
    cases ry
    obtain⟨dd,hz,hd⟩:=nd_of I fh (fh _ _ hq) hr
    refine wpAny_in_heap (knd:=nestKind X.prog X.w) (by show X.A.units+1+80<cLine;omega) (nk_is I fh ok px) hd dd ?_
    rw[hr.atB]
    exact⟨.bl _,H,I.tok _,rfl,q2 _ F H (Stp.refl fh) (.bl _)⟩
  ·exact q2.elim
 | lst hq hs=>exact o_in (by omega) pins s σ H x _ v u Q I rx ry ⟨F,dx,_,fh,px,.lst hq hs,q⟩
 | tup hq hs=>exact o_in (by omega) pins s σ H x _ v u Q I rx ry ⟨F,dx,_,fh,px,.tup hq hs,q⟩
 | str hz=>exact o_in (by omega) pins s σ H x _ v u Q I rx ry ⟨F,dx,_,fh,px,.str hz,q⟩
 | _=>cases dx<;>exact q.elim
noncomputable def putN (kvs:List (List DK×D)) (k:List DK) (d:D):List (List DK×D):=if k∈kvs.map (·.1) then kvs.map (λp=>if p.1=k then (p.1,d) else p) else kvs++[(k,d)]
theorem Rpn.length:∀{xs:List (List DK×Addr×Value)}{kvs:List (List DK×D)},Rpn X.K F xs kvs->xs.length=kvs.length
 | _,_,.nil=>rfl
 | _,_,.cons _ _ _ _ hs=>congrArg (·+1) hs.length
theorem Rpn.mapped {k:List DK}{d:D}{v:V}{u:Value} (ru:RelV v u) (pd:Rp X.K F v d):∀{xs:List (List DK×Addr×Value)}{kvs:List (List DK×D)},Rpn X.K F xs kvs->Rpn X.K F (xs.map (putAt k u)) (kvs.map (λp=>if p.1=k then (p.1,d) else p))
 | _,_,.nil=>.nil
 | _,_,.cons (k:=k') o h r h2 hs=>by
  by_cases e:k'=k
  ·subst e
   simp only[w5,putAt,if_true]
   exact .cons o h ru pd (hs.mapped ru pd)
  ·simp only [w5,putAt,if_neg e]
   exact .cons o h r h2 (hs.mapped ru pd)
theorem Rpn.snoc {k:List DK}{q:Addr}{d:D}{v:V}{u:Value} (o:okK k=true) (pk:Rp X.K F (.ref q) (DK.t k).toD) (ru:RelV v u) (pd:Rp X.K F v d):∀{xs:List (List DK×Addr×Value)}{kvs:List (List DK×D)},Rpn X.K F xs kvs->Rpn X.K F (xs++[(k,q,u)]) (kvs++[(k,d)])
 | _,_,.nil=>.cons o pk ru pd .nil
 | _,_,.cons o' h r h2 hs=>.cons o' h r h2 (hs.snoc o pk ru pd)
def Rpn.put (o:okK k=true) (pk:Rp X.K F (.ref q) (DK.t k).toD) (ru:RelV v u) (pd:Rp X.K F v d) (r:Rpn X.K F xs kvs):Rpn X.K F (storedH xs k q u) (putN kvs k d):=by
 unfold storedH putN
 by_cases e:k∈kvs.map (·.1)
 ·rw[if_pos e,if_pos (r.at.mpr e)];exact r.mapped ru pd
 ·rw[if_neg e,if_neg (λz=>e (r.at.mp z))];exact r.snoc o pk ru pd
def dn_new :DN X xq (.Dict [] [] pos) (λ_=>.ok (.n (hashW X.w) [])):=⟨λpins s σ H Q I z9=>un5 z9 λB F ρ R q=>by
 refine wpAny_Dict_empty ⟨.ref s.heap.objs.size,_,I.laid (a:=s.heap.objs.size) (o:=NDO s.heap.objs.size (hashW X.w) []) (t':=s.toks) (λ_ _ z=>z5 _ z) (y7 _) ?_,rfl,?_⟩
 ·refine ⟨⟨_,#[],_,z7 _ rfl,⟨rfl,rfl,rfl⟩,rfl,rfl,List.nodup_nil,z1H _,?_⟩,⟨_,z7 _ rfl⟩,fun h1 h2 z9108 k=>by obtain ⟨o,es,ep,e1,e2⟩:=z9108;exact ⟨o,es,ep,k _ e1,e2⟩⟩
  exact(v0s (P:=X.prog) (w:=X.w) (H:=H) s.heap I.big).2.1
 ·have n:=I.hok.fresh (y7 s.heap.objs.size)
  exact q _ _ F _ (Stp.only R.fh (u0p n)) (R.fh.free n) n u0j (.n .nil)⟩
def v2W :DN X xq (.Dict [] [] pos) (λ_=>.ok (.d [])):=⟨λpins s σ H Q I z9=>un5 z9 λB F ρ R q=>v3E pins s σ H Q I λd n=>q d _ F _ (Stp.only R.fh (u0p n)) (R.fh.free n) n u0j (.d .nil)⟩
end
noncomputable def getN (ρ:Rho) (i:Nat):Res ((List DK->Int)×List (List DK×D)):=match ρ[i]? with
 | some (some (.own (.n hs kvs)))=>.ok (hs,kvs)
 | _=>.bad
set_option tactic.hygienic true in
def getN_ok (h:(getN ρ i).all P E):∃hs kvs,ρ[i]?=some (some (.own (.n hs kvs)))/\P (hs,kvs):=by
 unfold getN at h
 split at h
 ·rename_i hs kvs e;exact⟨hs,kvs,e,h⟩
 ·exact h.elim
def v0H {xs:List (List DK×Addr×Value)}{k:List DK}{a:Addr}{u:Value}:(storedH xs k a u).length<=xs.length+1:=by
 unfold storedH
 split
 ·simp
 ·simp
section
variable {X:Cx}{xq:XQ}{i value:Expr}{fi fv:Rho->Res D}{x:Str}{p pos pos':Pos}
noncomputable def fPutN (w:World) (j:Nat) (fi fv:Rho->Res D) (ρ:Rho):Out:=(fv ρ).go ρ λd=>(getN ρ j).go ρ λo=>(fi ρ).go ρ λkd=>(keyOf kd).go ρ λk =>
 @ite _ (o.1=hashW w/\o.2.length<sizeLine) (_root_.Classical.propDecidable _) (.nx (ρ.set j (some (.own (.n o.1 (putN o.2 k d)))))) .bad
set_option tactic.hygienic true in
def ds_putN (j:Nat) (hu:X.A.units+200<cLine) (hi:DE X xq i fi) (hv:DE X xq value fv) (hN:X.N[j]?=some x:=by rfl) (hvs:Vis X.env.scope x:=by first|exact Or.inl rfl|exact Or.inr (Or.inl rfl)|exact Or.inr (Or.inr rfl)) (hd:(x==("__debug__":Str))=false:=by decide) (hcd:(x==("__classdict__":Str))=false:=by decide)
  (hs:swapsWith value (some (.Subscript (.Name x p) i pos')) pos.line X.env=pure false:=by rfl):DS X xq (.Assign [.Subscript (.Name x p) i pos'] value pos) (fPutN X.w j fi fv):=⟨λpins s σ H T I z9=>un5 z9 λB F ρ R q=>by
 have q:=q.out
 unfold fPutN at q
 refine wpAny_Assign_Subscript (thn (hv.out pins s σ H (λv H1=>∃d F1 a,σ[j]?=some (some (.ref a))/\Stp F H F1 H1/\Rp X.K F1 v d/\∃hs kvs,ρ[j]?=some (some (.own (.n hs kvs)))/\((fi ρ).go ρ λkd=>(keyOf kd).go ρ λk=>@ite _ (hs=hashW X.w/\kvs.length<sizeLine) (_root_.Classical.propDecidable _) (.nx (ρ.set j (some (.own (.n hs (putN kvs k d)))))) .bad).all
  (λρ=>∀σ F H,Rel X.K B ρ σ F H->T.nx σ H) (λd=>∀v F H,Stp B.1 B.2 F H->Rp X.K F v d->T.rt v H) (λρ=>∀σ F H,Rel X.K B ρ σ F H->T.bk σ H) (λρ=>∀σ F H,Rel X.K B ρ σ F H->T.ct σ H) (λρ x=>∀v σ F H,Rel X.K B ρ σ F H->Rp X.K F v x->xq v σ H)) I ?_) λr s1 ⟨v,H1,I1,rv,d,F1,a,ha,st1,pv,hh,kvs,eo,q1⟩ =>
  thn (u3m hN hvs hd hcd pins s1 σ H1 (λx H2=>x=.ref a/\H2=H1) I1 ⟨.ref a,ha,rfl,rfl⟩) λu s2 ⟨y,H2,I2,ry,ey,eH⟩=>?_) hs
 ·refine ⟨B,F,ρ,R,Res.all_mono (u0O q) (fun d q1 v F1 H1 st pv=>?_) fun _ z=>errOf z⟩
  obtain⟨hh,kvs,eo,q2⟩:=getN_ok (u0O q1)
  obtain⟨a,h,h1,_⟩:=R.own j _ eo
  exact⟨d,F1,a,h1,st,pv,hh,kvs,eo,q2⟩
 ·subst ey eH
  cases ry
  have R1:=R.step st1
  refine thn (hi.out pins s2 σ H2 (λy H3=>∃F3 k,Stp F1 H2 F3 H3/\Rp X.K F3 y (DK.t k).toD/\okK k=true/\hh=hashW X.w/\kvs.length<sizeLine/\∀σ F H,Rel X.K B (ρ.set j (some (.own (.n hh (putN kvs k d))))) σ F H->T.nx σ H) I2 ?_) λiv s3 ⟨y,H3,I3,ry,F3,k,st3,pk,ok,eh,hl,q3⟩=>?_
  ·refine ⟨B,F1,ρ,R1,Res.all_mono (u0O q1) (fun kd q2 y F3 H3 st3 py=>?_) fun _ z=>errOf z⟩
   obtain⟨k,ek,ok,q3⟩:=u9V (u0O q2)
   subst ek
   split at q3
   ·rename_i c;exact⟨F3,k,st3,py,ok,c.1,c.2,q3⟩
   ·exact q3.elim
  ·subst eh
   have R3:=R1.step st3
   obtain⟨a',h,h1,h2,h3,h4,h5⟩:=R3.own j _ eo
   rw[ha] at h1;cases h1
   cases h5 with
   | n hr =>
    have pk':=pk
    simp only[DK.toD] at pk'
    cases pk' with
    | @tup b _ _ _ _ =>
     cases ry
     obtain⟨dd,hz,hsy⟩:=nd_of I3 R3.fh h4 hr
     refine wpAny_setItem_heap (knd:=nestKind X.prog X.w) (hsz:=hz) (by show X.A.units+1+80<cLine;omega) (nk_is I3 R3.fh ok pk) dd λh' dd' sb=>?_
     obtain⟨o,es,ep,e1,e2,e3,e4,_,e5⟩:=dd'
     have pv3:=pv.same st3.ff
     refine⟨σ,_,u9y (ob:=NDO a (hashW X.w) (storedH _ k b r)) I3 (by rw[h4];exact True.intro) sb ⟨o,e1⟩ ⟨⟨o,es,ep,e1,e2,e3,e4,e5,?_,hsy⟩,⟨o,e1⟩,λg1 g2 z9112 kk=>by obtain⟨o,es,ep,f1,f2⟩:=z9112;exact⟨o,es,ep,kk _ f1,f2⟩⟩,q3 σ F3 _ (R3.write (e:=eo) ha (.n (hr.put ok pk rv pv3)))⟩
     exact v5 v0H (by rw[hr.length];omega)⟩
end
noncomputable def keyK:D->Res Key
 | .int i=>.ok (.inl i)
 | .str z=>.ok (.inr z)
 | _=>.bad
def v2q {K:W.Frag}{F:Hp}{v:V}{d:D}{P:Key->Prop}{E:D->Prop} (p:Rp K F v d) (h:(keyK d).all P E):∃k,v=kV k/\P k:=by
 cases p with
 | int i=>exact⟨.inl i,rfl,h⟩
 | str _=>exact⟨.inr _,rfl,h⟩
 | _=>exact h.elim
noncomputable def eqK:D->Key->Bool
 | .int i,.inl j=>decide (i=j)
 | .str a,.inr b=>decide (a=b)
 | _,_=>false
def u6A (k' k:Key):eqK (kD k') k=decide (k'=k):=by
 cases k'<;>cases k<;>simp[eqK,kD]
noncomputable def putD (ps:List (D×D)) (k:Key) (d:D):List (D×D):=if ps.any (λp=>eqK p.1 k)=true then ps.map (λp=>if eqK p.1 k=true then (p.1,d) else p) else ps++[(kD k,d)]
noncomputable def valD (ps:List (D×D)) (k:Key):Option D:=(ps.find? λp=>eqK p.1 k).map (·.2)
section
variable {K:W.Frag}{F:Hp}
theorem Rpk.length:∀{kvs:List (Key×V)}{ps:List (D×D)},Rpk K F kvs ps->kvs.length=ps.length
 | _,_,.nil=>rfl
 | _,_,.cons _ hs=>congrArg (·+1) hs.length
theorem Rpk.any {k:Key}:∀{kvs:List (Key×V)}{ps:List (D×D)},Rpk K F kvs ps->(kvs.any λkv=>decide (kv.1=k))=ps.any (λp=>eqK p.1 k)
 | _,_,.nil=>rfl
 | _,_,.cons h hs=>by simp only[List.any_cons,u6A,hs.any]
theorem Rpk.mapped {k:Key}{d:D}{v:V} (pd:Rp K F v d):∀{kvs:List (Key×V)}{ps:List (D×D)},Rpk K F kvs ps->Rpk K F (kvs.map (λkv=>if kv.1=k then (kv.1,v) else kv)) (ps.map (λp=>if eqK p.1 k=true then (p.1,d) else p))
 | _,_,.nil=>.nil
 | _,_,.cons (k:=k') h hs=>by
  by_cases e:k'=k
  ·simp only[w5,u6A,e,decide_true,if_true];exact .cons pd (hs.mapped pd)
  ·simp only[w5,u6A,e,decide_false,if_false];exact .cons h (hs.mapped pd)
theorem Rpk.snoc {k:Key}{d:D}{v:V} (pd:Rp K F v d):∀{kvs:List (Key×V)}{ps:List (D×D)},Rpk K F kvs ps->Rpk K F (kvs++[(k,v)]) (ps++[(kD k,d)])
 | _,_,.nil=>.cons pd .nil
 | _,_,.cons h hs=>.cons h (hs.snoc pd)
def Rpk.put (pd:Rp K F v d) (r:Rpk K F kvs ps):Rpk K F (putK kvs k v) (putD ps k d):=by
 unfold putK putD
 rw[r.any (k:=k)]
 split
 ·exact r.mapped pd
 ·exact r.snoc pd
theorem Rpk.val {k:Key}:∀{kvs:List (Key×V)}{ps:List (D×D)},Rpk K F kvs ps->(match valD ps k with|some d=>∃v,valV kvs k=some v/\Rp K F v d|none=>valV kvs k=none)
 | _,_,.nil=>rfl
 | _,_,.cons (k:=k') h hs=>by
  have ih:=hs.val (k:=k)
  by_cases e:k'=k
  ·subst e;simp only[valD,valV,z0I,u6A,decide_true,Option.map_some];exact⟨_,rfl,h⟩
  ·simp only[valD,valV,z0I,u6A,e,decide_false] at ih |-;exact ih
end
noncomputable def getD' (ρ:Rho) (i:Nat):Res (List (D×D)):=match ρ[i]? with
 | some (some (.own (.d kvs)))=>.ok kvs
 | _=>.bad
set_option tactic.hygienic true in
def getD'_ok (h:(getD' ρ i).all P E):∃kvs,ρ[i]?=some (some (.own (.d kvs)))/\P kvs:=by
 unfold getD' at h
 split at h
 ·rename_i kvs e;exact⟨kvs,e,h⟩
 ·exact h.elim
section
variable {X:Cx}{xq:XQ}{i value:Expr}{fi fv:Rho->Res D}{x:Str}{p pos pos':Pos}
noncomputable def fPutD (j:Nat) (fi fv:Rho->Res D) (ρ:Rho):Out:=(fv ρ).go ρ λd=>(getD' ρ j).go ρ λps=>(fi ρ).go ρ λkd=>(keyK kd).go ρ λk=>if ps.length<sizeLine then .nx (ρ.set j (some (.own (.d (putD ps k d))))) else .bad
def v2Q (j:Nat) (hu:X.A.units+200<cLine) (hi:DE X xq i fi) (hv:DE X xq value fv) (hN:X.N[j]?=some x:=by rfl) (hvs:Vis X.env.scope x:=by first|exact Or.inl rfl|exact Or.inr (Or.inl rfl)|exact Or.inr (Or.inr rfl)) (hd:(x==("__debug__":Str))=false:=by decide) (hcd:(x==("__classdict__":Str))=false:=by decide)
  (hs:swapsWith value (some (.Subscript (.Name x p) i pos')) pos.line X.env=pure false:=by rfl):DS X xq (.Assign [.Subscript (.Name x p) i pos'] value pos) (fPutD j fi fv) :=
 DS.of (ps_dput (by omega) (u3m hN hvs hd hcd) hi.out hv.out hs) λB F ρ σ H T R q=>by
  have q:=q.out
  unfold fPutD at q
  refine⟨B,F,ρ,R,Res.all_mono (u0O q) (λd q1 v F1 H1 st pv=>?_) λ_ z=>errOf z⟩
  obtain⟨ps,eo,q2⟩:=getD'_ok (u0O q1)
  have R1:=R.step st
  obtain⟨a,h,h1,h2,h3,h4,h5⟩:=R1.own j _ eo
  refine⟨.ref a,h1,B,F1,ρ,R1,Res.all_mono (u0O q2) (λkd q3 y F3 H3 st3 py=>?_) λ_ z=>errOf z⟩
  have R3:=R1.step st3
  obtain⟨k,ek,q4⟩:=v2q py (u0O q3)
  subst ek
  obtain⟨a',h',g1,g2,g3,g4,g5⟩:=R3.own j _ eo
  rw[h1] at g1;cases g1
  cases g5 with
  | d hr =>
   by_cases hz:ps.length<sizeLine
   ·rw [if_pos hz] at q4
    exact⟨a,_,rfl,DPut.k g4 (by rw[hr.length];exact hz),q4 σ F3 _ (R3.write (e:=eo) h1 (.d (hr.put (pv.same st3.ff))))⟩
   ·rw[if_neg hz] at q4;exact q4.elim
noncomputable def dInA (w:World) (neg:Bool):D->D->Res D
 | x,.dct ps=>(keyK x).bind λk=>.ok (.bl (if neg=true then !(valD ps k).isSome else (valD ps k).isSome))
 | x,y=>dInN w neg x y
def v0t (w:World) (neg:Bool) (x:D) (ps:List (D×D)):dInA w neg x (.dct ps)=(keyK x).bind λk=>.ok (.bl (if neg=true then !(valD ps k).isSome else (valD ps k).isSome)):=by unfold dInA;rfl
def o_inA (hu:X.A.units+200<cLine):OpR X (compareOp .In) (rD X.K (dInA X.w false)):=by
 intro pins s σ H x y v u Q I rx ry z9113
 obtain⟨F,dx,dy,fh,px,py,q⟩:=z9113
 cases py with
 | @dK a kvs ps hq hr =>
  rw[v0t] at q
  obtain⟨k,ek,q2⟩:=v2q px (Res.all_bind.mp q)
  subst ek
  cases ry
  refine d_in (by omega) I (DGet.k (fh _ _ hq)) rx λs' I'=>⟨.bl _,H,I',rfl,?_⟩
  have:=hr.val (k:=k)
  cases e:valD ps k with
  | none=>rw[e] at this q2;rw[this];exact q2 _ F H (Stp.refl fh) (.bl _)
  | some d=>rw[e] at this q2;obtain⟨z,hz,_⟩:=this;rw[hz];exact q2 _ F H (Stp.refl fh) (.bl _)
 | lst hq hs=>exact v3K hu pins s σ H x _ v u Q I rx ry ⟨F,dx,_,fh,px,.lst hq hs,q⟩
 | tup hq hs=>exact v3K hu pins s σ H x _ v u Q I rx ry ⟨F,dx,_,fh,px,.tup hq hs,q⟩
 | str hz=>exact v3K hu pins s σ H x _ v u Q I rx ry ⟨F,dx,_,fh,px,.str hz,q⟩
 | dn hq hs=>exact v3K hu pins s σ H x _ v u Q I rx ry ⟨F,dx,_,fh,px,.dn hq hs,q⟩
 | _=>cases dx<;>exact q.elim
end
noncomputable def fldD (C0:Addr) (f:Str):D->Res D
 | .ins C gs=>if C=C0 then (match gs.lookup f with|some d=>.ok d|none=>.bad) else .bad
 | _=>.bad
noncomputable def getI (ρ:Rho) (j:Nat):Res (Addr×Addr×List (Str×D)):=match ρ[j]? with
 | some (some (.own (.i a C gs)))=>.ok (a,C,gs)
 | _=>.bad
set_option tactic.hygienic true in
def v2H (h:(getI ρ i).all P E):∃a C gs,ρ[i]?=some (some (.own (.i a C gs)))/\P (a,C,gs):=by
 unfold getI at h
 split at h
 ·rename_i a C gs e;exact⟨a,C,gs,e,h⟩
 ·exact h.elim
section
variable {X:Cx}{xq:XQ}{o e value:Expr}{es:List Expr}{fo fv:Rho->Res D}{fs:Rho->Res (List D)}{f x m:Str}{p pos pos' apos:Pos}{C0:Addr}
def d_fld {K:W.Frag} (c:Cls K C0) (n:NoAttr K C0 f) (ho:DE X xq o fo) (eK:X.K=K:=by rfl) (hb:attributeBase o f X.env (eval o X.env)=eval o X.env:=by rfl):DE X xq (.Attribute o f pos) (λρ=>(fo ρ).bind (fldD C0 f)):=by
 subst eK
 refine DE.of (v4x ho.out hb) λB F ρ σ H Q R q=>seqE R q λd v F1 H1 s1 R1 p1 q1=>?_
 cases p1 with
 | @ins a C dx gs0 gs h1 h2 =>
  unfold fldD at q1
  dsimp only at q1
  by_cases hc:C=C0
  ·rw [if_pos hc] at q1
   subst hc
   cases hl:gs.lookup f with
   | none=>rw[hl] at q1;exact q1.elim
   | some d =>
    rw[hl] at q1
    obtain⟨v,hv,pv⟩:=h2.lookup hl
    exact⟨a,C,dx,gs0,v,rfl,R1.fh _ _ h1,c,n,hv,q1 v F1 H1 s1 pv⟩
  ·rw[if_neg hc] at q1;exact q1.elim
 | _=>exact q1.elim
def d_fldO {K:W.Frag} (j:Nat) (c:Cls K C0) (n:NoAttr K C0 f) (eK:X.K=K:=by rfl) (hN:X.N[j]?=some x:=by rfl) (hvs:Vis X.env.scope x:=by first|exact Or.inl rfl|exact Or.inr (Or.inl rfl)|exact Or.inr (Or.inr rfl)) (hd:(x==("__debug__":Str))=false:=by decide) (hcd:(x==("__classdict__":Str))=false:=by decide)
  (hb:attributeBase (.Name x p) f X.env (eval (.Name x p) X.env)=eval (.Name x p) X.env:=by rfl):DE X xq (.Attribute (.Name x p) f pos) (λρ=>(getI ρ j).bind λt=>if t.2.1=C0 then (match t.2.2.lookup f with|some d=>.ok d|none=>.bad) else .bad):=by
 subst eK
 refine DE.of (v4x (u3m hN hvs hd hcd) hb) λB F ρ σ H Q R q=>?_
 obtain⟨a,C,gs,e1,q1⟩:=v2H (Res.all_bind.mp q)
 obtain⟨a',h,h1,h2,h3,h4,h5⟩:=R.own j _ e1
 cases h5 with
 | @i _ dx fs0 _ hr =>
  dsimp only at q1
  by_cases hc:C=C0
  ·rw [if_pos hc] at q1
   subst hc
   cases hl:gs.lookup f with
   | none=>rw[hl] at q1;exact q1.elim
   | some d =>
    rw[hl] at q1
    obtain⟨v,hv,pv⟩:=hr.lookup hl
    exact⟨.ref a,h1,a,C,dx,fs0,v,rfl,h4,c,n,hv,q1 v F H (Stp.refl R.fh) pv⟩
  ·rw[if_neg hc] at q1;exact q1.elim
theorem Rpf.length {K:W.Frag}{F:Hp}:∀{fs:List (Str×V)}{gs:List (Str×D)},Rpf K F fs gs->fs.length=gs.length
 | _,_,.nil=>rfl
 | _,_,.cons _ hs=>congrArg (·+1) hs.length
noncomputable def putG (f:Str) (d:D):List (Str×D)->List (Str×D)
 | []=>[(f,d)]
 | (g,x)::r=>if g=f then (g,d)::r else (g,x)::putG f d r
theorem Rpf.put {K:W.Frag}{F:Hp}{f:Str}{v:V}{d:D} (pd:Rp K F v d):∀{fs:List (Str×V)}{gs:List (Str×D)},Rpf K F fs gs->Rpf K F (putF f v fs) (putG f d gs)
 | _,_,.nil=>.cons pd .nil
 | _,_,.cons (k:=k) h hs=>by
  unfold putF putG
  by_cases e:k=f
  ·rw[if_pos e,if_pos e];exact .cons pd hs
  ·rw[if_neg e,if_neg e];exact .cons h (hs.put pd)
def v2R {K:W.Frag} (j:Nat) (c:Cls K C0) (n:NoAttr K C0 f) (hv:DE X xq value fv) (eK:X.K=K:=by rfl) (hN:X.N[j]?=some x:=by rfl) (hvs:Vis X.env.scope x:=by first|exact Or.inl rfl|exact Or.inr (Or.inl rfl)|exact Or.inr (Or.inr rfl)) (hd:(x==("__debug__":Str))=false:=by decide) (hcd:(x==("__classdict__":Str))=false:=by decide)
  (hs:swapsWith value (some (.Attribute (.Name x p) f pos')) pos.line X.env=pure false:=by rfl) :
  DS X xq (.Assign [.Attribute (.Name x p) f pos'] value pos) (λρ=>(fv ρ).go ρ λd=>(getI ρ j).go ρ λt=>if t.2.1=C0/\t.2.2.length<1000 then .nx (ρ.set j (some (.own (.i t.1 t.2.1 (putG f d t.2.2))))) else .bad):=by
 subst eK
 refine DS.of (ps_fld (u3m hN hvs hd hcd) hv.out hs) λB F ρ σ H T R q=>⟨B,F,ρ,R,Res.all_mono (u0O q.out) (λd q1 v F1 H1 st pv=>?_) λ_ z=>errOf z⟩
 obtain⟨a,C,gs,e1,q2⟩:=v2H (u0O q1)
 have R1:=R.step st
 obtain⟨a',h,h1,h2,h3,h4,h5⟩:=R1.own j _ e1
 cases h5 with
 | @i _ dx fs0 _ hr =>
  dsimp only at q2
  by_cases hc:C=C0/\gs.length<1000
  ·rw [if_pos hc] at q2
   obtain⟨rfl,hl⟩:=hc
   exact⟨.ref a,h1,a,C,dx,fs0,rfl,h4,c,n,by rw[hr.length];exact hl,q2 σ F1 _ (R1.write (e:=e1) h1 (.i (hr.put pv)))⟩
  ·rw[if_neg hc] at q2;exact q2.elim
end
noncomputable def wo (H:Hp) (a:Addr):Hp:=λb=>if b=a then none else H b
def wo_at (H:Hp) (a:Addr):wo H a a=none:=if_pos rfl
def wo_ne (h:b≠a):wo H a b=H b:=if_neg h
def v1F (H:Hp) (a:Addr):Same (wo H a) H:=λb o e=>by
 by_cases z:b=a
 ·subst z;rw[wo_at] at e;cases e
 ·rw[wo_ne z] at e;exact e
def spInit (K:W.Frag) (C:Addr) (g:List D->Res (List (Str×D))):Sp:=λvs H Q E=>∃F a dx rest ds,vs=.ref a::rest/\Same F H/\F a=none/\H a=some (.ins C dx [])/\Rps K F rest ds /\
 (g ds).all (λgs=>∀dx' fs F' H',Stp F (wo H a) F' H'->F' a=none->H' a=some (.ins C dx' fs)->Rpf K F' fs gs->Q .non H') (λx=>∀e F' H',Stp F (wo H a) F' H'->Rp K F' (.ref e) x->E (.ref e) none H')
noncomputable def startI (n:Nat) (a C:Addr) (ds:List D):Rho:=some (.own (.i a C []))::startD (n - 1) ds
noncomputable def outI (a C:Addr):Out->Res (List (Str×D))
 | .nx ρ=>match ρ[(0:Nat)]? with
  | some (some (.own (.i a' C' gs)))=>if a'=a/\C'=C then .ok gs else .bad
  | _=>.bad
 | .er x _=>.err x
 | _=>.bad
def u4d {n:Nat}{ds:List D}{i:Nat}{o:OD}:(startD n ds)[i]?≠some (some (.own o)):=λe=>by
 unfold startD at e
 rw[z2H] at e
 split at e
 ·rw [v7] at e
  cases q:ds[i]? with
  | none=>rw[q] at e;cases e
  | some d'=>rw[q] at e;cases e
 ·rw [z0E] at e
  split at e<;>simp at e
def v3h {K:W.Frag}{F H:Hp}{N:List Str}{a C dx:Addr}{rest:List V}{ds:List D} (fh:Same F H) (fa:F a=none) (ha:H a=some (.ins C dx [])) (r:Rps K F rest ds) :
  Rel K (F,wo H a) (startI N.length a C ds) (start N (.ref a::rest)) F H:=by
 have e:start N (.ref a::rest)=some (.ref a)::start N.tail rest:=by
  unfold start
  rw[w5,List.cons_append,u9,List.length_tail,Nat.sub_sub,Nat.add_comm 1]
 have R0:Rel K (F,H) (startD (N.length - 1) ds) (start N.tail rest) F H:=by
  have:=r.begin (N:=N.tail) fh
  rwa [List.length_tail] at this
 rw[e]
 unfold startI
 refine⟨⟨Same.refl F,fh,v1F H a,λ_ n _=>n⟩,by simp[R0.len],λi d q=>?_,λi o q=>?_,λi j o u b q1 q2 x y=>?_⟩
 ·cases i with
  | zero=>cases q
  | succ i=>exact R0.val i d q
 ·cases i with
  | zero=>cases q;exact⟨a,_,rfl,fa,wo_at H a,ha,.i .nil⟩
  | succ i=>exact absurd q u4d
 ·cases i with
  | zero =>
   cases j with
   | zero=>rfl
   | succ j=>exact absurd q2 u4d
  | succ i=>exact absurd q1 u4d
def KCallee (P:Program) (w:World) (K:W.Frag) (mg:MG) (base:Heap) (k:Nat) (x:Str) (C:Addr) (ps:List Str) (dds:List D) (g:List D->Res (List (Str×D))):Prop :=
 ∃f fd dvs ds0,Mk K C f/\FnOk P w K mg base (CXe P w) k f fd ps (spInit K C g)/\Binds K fd ps ds0/\Vals dvs ds0/\(∀F,Rps K F dvs dds)/\mg x=some (.ref C)
section
variable {X:Cx}{xq:XQ}{e:Expr}{es:List Expr}{fs:Rho->Res (List D)}{x:Str}{p pos:Pos}{C f:Addr}
def v1S (hq:XqOk X xq) (M:Mk X.K C f) (F:FnOk X.prog X.w X.K X.mg X.base (CXe X.prog X.w) k f fd ps sp) (hr:Room (k+1) X.A) (hb:Binds X.K fd ps ds) (hd:Vals dvs ds)
 (I:Inv X pins σ H s) (r:Vals vs us)
 (h:∀x dx,H x=none->H dx=none->dx≠x->sp (.ref x::(vs++dvs)) (upd (upd H dx (.own x)) x (.ins C dx [])) (λv H2=>v=.non/\Q (.ref x) H2) (λu _ H'=>∃a,u=.ref a/\xq (.ref a) σ H')) :
 wpAny (model X.prog X.w) X.A (call (.ref C) us) (EP X pins σ Q) X.xe s:=by
 have hc:=h (s.heap.objs.size+1) s.heap.objs.size (I.hok.fresh (Nat.le_succ _)) (I.hok.fresh (y7 _)) (v9 (Nat.lt_succ_self _))
 have I2:=Inv.made (C:=C) I
 have r2:Vals (V.ref (s.heap.objs.size+1)::(vs++dvs)) (Value.ref (s.heap.objs.size+1)::(us++ds)):=.cons rfl (r.append hd)
 have hl:(Value.ref (s.heap.objs.size+1)::us++ds).length=ps.length:=by
  have e:=r2.length
  rw[F.len _ _ _ _ hc] at e
  exact e.symm
 refine wpAny_call (v3O (f:=f) I.kIn M.makes M.init (beq_iff_eq.mp M.fn) (codeAny_mono (F.run _ X.stack _ _ ⟨Value.ref (s.heap.objs.size+1)::us,[]⟩ (Value.ref (s.heap.objs.size+1)::(us++ds)) _ _ _ (hr.make C us [])
  (I2.env0.make C us []) (hb _ (Value.ref (s.heap.objs.size+1)::us) I2.kIn hl) r2 hc) λr s' hq'=>?_))
 cases r with
 | error e=>exact hq.xe _ _ (v0k I2 hq')
 | ok fl =>
  cases fl with
  | ret u =>
   obtain⟨v,H',I3,rv,ev,q3⟩:=I2.after hq'
   subst ev
   exact⟨rv,⟨V.ref (s.heap.objs.size+1),H',I3,rfl,q3⟩⟩
  | next=>exact False.elim hq'
  | brk=>exact False.elim hq'
  | cont=>exact False.elim hq'
def d_make {P:Program}{w:World}{K:W.Frag}{mg:MG}{base:Heap}{k k':Nat}{ps:List Str}{dds:List D}{g:List D->Res (List (Str×D))} (hq:XqOk X xq) (h:KCallee P w K mg base k x C ps dds g) (hr:Room k' X.A) (ha:DA X xq (e::es) fs) (hk:k+1<=k':=by decide) (hg:Gl X x:=by rfl)
  (eP:X.prog=P:=by rfl) (ew:X.w=w:=by rfl) (eK:X.K=K:=by rfl) (em:X.mg=mg:=by rfl) (eb:X.base=base:=by rfl) (hdb:(x==("__debug__":Str))=false:=by decide) :
  DE X xq (.Call (.Name x p) (e::es) [] pos) (λρ=>(fs ρ).bind λds=>(g (ds++dds)).bind λgs=>.ok (.ins C gs)):=⟨λpins s σ H Q I z9=>un5 z9 λB F ρ R q=>by
 subst eP ew eK em eb
 obtain⟨fi,fd,dvs,ds0,M,G,hb,hd,hdd,hm⟩:=h
 refine wpAny_Call_Name_kw (u3C I hg hm ?_ hdb)
 refine W.callWith_K (h₀:=X.base) I.ok.mod.kin M.kp (thn (ha.out pos pins s σ H (λvs H1=>∀x dx,H1 x=none->H1 dx=none->dx≠x->spInit X.K C g (.ref x::(vs++dvs)) (upd (upd H1 dx (.own x)) x (.ins C dx [])) (λv H2=>v=.non/\Q (.ref x) H2) (λu _ H'=>∃a,u=.ref a/\xq (.ref a) σ H')) I (seqA R q λds vs F1 H1 s1 R1 p1 q1=>?_)) λus s1 ⟨vs,H1,I1,r,q⟩=>⟨I1.kIn,?_⟩) (u0K (u0C ha.ns).1) (u2d (u0C ha.ns).2)
 ·intro y dx n1 n2 n3
  have sH:Same H1 (wo (upd (upd H1 dx (.own y)) y (.ins C dx [])) y):=λb o e=>by
   have b1:b≠y:=λz=>by subst z;rw[n1] at e;cases e
   have b2:b≠dx:=λz=>by subst z;rw[n2] at e;cases e
   rw[wo_ne b1,u0o b1,u0o b2];exact e
  refine⟨F1,y,dx,_,ds++dds,rfl,R1.fh.trans (sH.trans (v1F _ _)),R1.fh.free n1,u0j,p1.append (hdd F1),Res.all_mono (Res.all_bind.mp q1) (λgs q2 dx' fs0 F' H' st fa ha' pf=>⟨rfl,?_⟩) λz q2 b F' H' st pz=>⟨b,rfl,?_⟩⟩
  ·have st2:Stp F1 H1 (upd F' y (.ins C dx' fs0)) H':=⟨st.ff.trans (u0p fa),λb u z=>by
    unfold upd at z
    by_cases zz:b=y
    ·rw[if_pos zz] at z;cases z;subst zz;exact ha'
    ·rw[if_neg zz] at z;exact st.fh b u z,sH.trans st.hh,λb z1 z2=>by
    unfold upd
    by_cases zz:b=y
    ·subst zz;exact absurd n1 z2
    ·rw[if_neg zz];exact st.no b z1 (u2R sH z2)⟩
   exact q2 _ _ _ (s1.trans st2) (.ins u0j (pf.same (u0p fa)))
  ·have st2:Stp F1 H1 F' H':=⟨st.ff,st.fh,sH.trans st.hh,fun b z1 z2=>st.no b z1 (u2R sH z2)⟩
   exact errR R1 st2 pz q2
 ·exact v1S hq M G (hr.mono hk) hb hd I1 r q⟩
end
section
variable {X:Cx}{pins:LO}{σ:St}{H:Hp}{s:Shared}{F:Hp}
def kitx_D (I:Inv X pins σ H s) (rx:RelV v u) (fh:Same F H) (pv:Rp X.K F v d) (ht:tyN d=some t):∃Hh:Heap->Prop,W.KitX X.K u (.type t) Hh/\Hh s.heap/\u≠.builtin "__main__.__loader__#opaque":=by
 cases pv with
 | non=>cases ht;cases (show u=Value.none from rx);exact⟨_,W.kitx_none,True.intro,λz=>nomatch z⟩
 | bl y=>cases ht;cases (show u=Value.bool y from rx);exact⟨_,W.kitx_bool,True.intro,λz=>nomatch z⟩
 | int i=>cases ht;obtain⟨t,q⟩:=(show ∃t,u=Value.int i t from rx);cases q;exact⟨_,W.kitx_int,True.intro,λz=>nomatch z⟩
 | @str z hz=>cases ht;obtain⟨t,q⟩:=(show ∃t,u=Value.str z t from rx);cases q;exact⟨_,W.kitx_str,True.intro,λz=>nomatch z⟩
 | ty T=>cases ht
 | @lst a xs ds hq hs =>
  cases ht
  cases (show u=Value.ref a from rx)
  obtain⟨z,its,n,r,hl,e⟩:=I.lstR (hq.same fh)
  exact⟨_,W.kitx_list,⟨_,e,rfl⟩,λz=>nomatch z⟩
 | @tup a xs ds hq hs =>
  cases ht
  cases (show u=Value.ref a from rx)
  obtain⟨its,r,p,hz⟩:=I.tuple (fh.seqT hq)
  obtain⟨ob,h1,h2,_⟩:=p
  exact⟨_,W.kitx_tuple,⟨ob,h1,h2⟩,λz=>nomatch z⟩
 | @dK a kvs ps hq hs =>
  cases ht
  cases (show u=Value.ref a from rx)
  obtain⟨_,_,vs,_,p⟩:=(show ObjOk X.prog X.w H s.heap a (.dK kvs) from I.hok a _ (fh _ _ hq))
  obtain⟨ob,es,ep,h1,h2,_⟩:=p
  exact⟨_,W.kitx_dict,⟨ob,h1,h2.1⟩,λz=>nomatch z⟩
 | ins hq hs=>cases ht
 | exc hq hr hs=>cases ht
 | dn hq hs=>cases ht
noncomputable def isTs (t:String):List String->Option Bool
 | []=>some false
 | T::r=>match isT t T with
  | some true=>some true
  | some false=>isTs t r
  | none=>none
theorem u9Z (K:W.Frag) {d:D}{t:String} (ht:tyN d=some t):∀{Ts:List String}{b:Bool},isTs t Ts=some b->W.kitAny K (.type t) (Ts.map Value.type)=some b
 | [],_,e=>by cases e;rfl
 | T::r,b,e=>by
  simp only[isTs] at e
  cases q:isT t T with
  | none=>rw[q] at e;cases e
  | some c =>
   rw[q] at e
   simp only[w5,W.kitAny,v2y K ht q]
   cases c with
   | true=>exact e
   | false=>exact u9Z K ht e
noncomputable def tysOf:List D->Option (List String)
 | []=>some []
 | .ty T::r=>(tysOf r).map (T::·)
 | _=>none
theorem u6h {K:W.Frag}:∀{ts:List D}{Ts:List String}{xs:List V}{us:List Value},tysOf ts=some Ts->Rps K F xs ts->Vals xs us->us=Ts.map Value.type
 | [],_,_,_,e,p,r=>by cases e;cases p;cases r;rfl
 | d::ts,Ts,_,_,e,p,r=>by
  cases d<;>simp only[tysOf,reduceCtorEq] at e
  cases q:tysOf ts with
  | none=>rw[q] at e;cases e
  | some Ts' =>
   rw[q] at e
   cases e
   cases p with
   | cons p1 p2 =>
    cases p1
    cases r with
    | cons r1 r2=>cases r1;rw[u6h q p2 r2];rfl
noncomputable def isAny (d:D) (ts:List D):Res D:=match tyN d with
 | some t=>match tysOf ts with
  | some Ts=>match isTs t Ts with
   | some b=>.ok (.bl b)
   | none=>.bad
  | none=>.bad
 | none=>.bad
noncomputable def gIsA:List D->Res D
 | [d,.tup ts]=>isAny d ts
 | ds=>gIs ds
set_option tactic.hygienic true in
def u2a:CallR X (.builtin "isinstance") (rDs X.K gIsA):=by
 intro pins s σ H xs us Q I r z9115
 obtain⟨F,ds,fh,ps,q⟩:=z9115
 unfold gIsA at q
 split at q
 ·rename_i d ts
  obtain⟨v,w,rfl,pv,pw⟩:=rps2 ps
  unfold isAny at q
  cases ht:tyN d with
  | none=>rw[ht] at q;exact q.elim
  | some t =>
   rw[ht] at q
   cases hT:tysOf ts with
   | none=>simp only[hT] at q;exact q.elim
   | some Ts =>
    simp only[hT] at q
    cases hb:isTs t Ts with
    | none=>simp only[hb] at q;exact q.elim
    | some bb =>
     simp only[hb] at q
     cases pw with
     | @tup a zs _ hq hs =>
      obtain⟨u,u',rfl,ru,ru'⟩:=vals2 r
      cases ru'
      obtain⟨its,rv,p,hz⟩:=I.tuple (fh.seqT hq)
      obtain⟨⟨cls,dd,data,sl⟩,ho,hc,n,hd⟩:=p
      dsimp only at hc hd
      subst hc hd
      obtain⟨Hh,Z,hh,ne⟩:=kitx_D I ru fh pv ht
      have ei:=u6h hT hs rv
      exact W.kia_tup Z I.kIn hh ho (by rw[ei];exact u9Z X.K ht hb) ne λtk=>⟨.bl bb,H,I.tok _,rfl,q _ F H (Stp.refl fh) (.bl bb)⟩
 ·exact v4j pins s σ H xs us Q I r ⟨F,ds,fh,ps,q⟩
noncomputable def gInt:List D->Res D
 | [.int i]=>.ok (.int i)
 | [.bl b]=>.ok (.int (if b then 1 else 0))
 | _=>.bad
def c_int:CallR X (.type "int") (rDs X.K gInt):=by
 intro pins s σ H xs us Q I r z9116
 obtain⟨F,ds,fh,ps,q⟩:=z9116
 unfold gInt at q
 split at q
 ·obtain ⟨v,rfl,pv⟩:=rps1 ps
  cases pv
  exact u8z pins s σ H _ us Q I r (.inl ⟨_,rfl,q _ F H (Stp.refl fh) (.int _)⟩)
 ·obtain ⟨v,rfl,pv⟩:=rps1 ps
  cases pv
  exact u8z pins s σ H _ us Q I r (.inr ⟨_,rfl,q _ F H (Stp.refl fh) (.int _)⟩)
 ·exact q.elim
end
section
variable {X:Cx}{xq:XQ}{a b c:Expr}{fa fb fc:Rho->Res D}{pos:Pos}
def v1w {K:W.Frag}{g g':D->D->Res D}{σ:St}{H:Hp}{Q:VK} (h:liftE K xq (λρ=>(fa ρ).bind λx=>(fb ρ).bind λy=>fChain g g' x y (fc ρ)) σ H Q):tChain (rD K g) (rD K g') (liftE K xq fa) (liftE K xq fb) (liftE K xq fc) σ H Q:=by
 obtain⟨B,F,ρ,R,q⟩:=h
 exact seqE R q λd v F1 H1 s1 R1 p1 q1=>seqE R1 q1 λd2 v2 F2 H2 s2 R2 p2 q2=>by
  refine⟨F2,d,d2,R2.fh,p1.same s2.ff,p2,?_⟩
  unfold fChain at q2
  have q3:=Res.all_bind.mp q2
  generalize g d d2=r at q3
  cases r with
  | err x=>exact q3
  | bad=>exact q3
  | ok w =>
   obtain⟨k,rfl,q4⟩:=u6F (Res.all_bind.mp (show((asB w).bind _).all _ _ from q3))
   intro v3 F3 H3 s3 p3
   refine⟨k,p3.blI,?_⟩
   have s03:=(s1.trans s2).trans s3
   cases k with
   | false=>exact q4 (.bl false) F3 H3 s03 (.bl false)
   | true=>exact seqE (R2.step s3) q4 λd4 v4 F4 H4 s4 R4 p4 q5=>⟨F4,d2,d4,R4.fh,(p2.same s3.ff).same s4.ff,p4,doneN (s03.trans s4) q5⟩
def u3S (ho:OpR X (compareOp op) (rD X.K g)) (ho':OpR X (compareOp op') (rD X.K g')) (ha:DE X xq a fa) (hb:DE X xq b fb) (hc:DE X xq c fc) (hm:lastMarks [op,op'] [b,c]=false:=by with_unfolding_all rfl) :
 DT X xq (.Compare a [op,op'] [b,c] pos) (λρ=>((fa ρ).bind λx=>(fb ρ).bind λy=>fChain g g' x y (fc ρ)).bind asB) :=
 DT.of (v3A ho ho' ha.out hb.out hc.out hm) λB F ρ σ H Q R q=>v1w (tfrz (P:=λ_=>True) R q)
end
def u6W (t:SetTable) (n:Nat):(t.orStandIn n).led=t.led:=by
 unfold SetTable.orStandIn
 split<;>rfl
def v1n (t:SetTable) (es:Array (Int×Value)) (h:Int) (x:Value):(layNew t es h x).2.1.led=t.led:=by
 unfold layNew
 split
 ·exact u6W _ _
 ·rfl
def u4x {t t':SetTable}{hs:Array Int}{n:Nat}{o:Array Nat} (e:t.relaid hs n=some (t',o)):t'.led=t.led/\t'.plain=t.plain:=by
 unfold SetTable.relaid SetTable.laid at e
 cases q:SetTable.layClean (SetTable.sizeAbove n - 1) hs with
 | none=>rw[q] at e;cases e
 | some ow=>rw[q] at e;cases e;exact⟨rfl,rfl⟩
set_option tactic.hygienic true in
def u7J (t:SetTable) (es:Array (Int×Value)) (n:Nat):(relayAll t es n).2.1.led=t.led:=by
 unfold relayAll
 split
 ·rename_i t' order e
  dsimp only
  split
  ·exact(u4x e).1
  ·rfl
 ·rfl
set_option tactic.hygienic true in
def u5W (t:SetTable) (es:Array (Int×Value)) (n:Nat) (q:t.plain=false):(relayAll t es n).2.1.plain=false:=by
 unfold relayAll
 split
 ·rename_i t' order e
  dsimp only
  split
  ·exact(u4x e).2.trans q
  ·rfl
 ·rfl
noncomputable def addT (ss:List Str) (x:Str):List Str:=if x∈ss then ss else ss++[x]
def SetT (P:Program) (w:World) (h:Heap) (a:Addr) (ss:List Str):Prop :=
 ∃o es ep t,h.get? a=some o/\o.ExactSet/\o.data=.set es ep t/\ElemsOf (PySem.strKind P w) es.toList/\(es.toList.map λe=>strOf e.2).Perm ss/\ss.Nodup/\es.size<scanBound/\t.fits es.size=true /\
  t.led=(!w.params.followText "set-order")/\(0<es.size->t.plain=false)
section
variable {P:Program}{w:World}{A:Around}{E:VP}{s:Shared}
def v0o (h:ElemsOf (PySem.strKind P w) es) (he:e∈es):∃x t,e.2=.str x t:=by
 obtain⟨⟨k,hk,_⟩,_⟩:=h e he
 obtain⟨t,q⟩:=Value.isStrOf_shape hk
 exact⟨k,t,q⟩
def v2P (h:ElemsOf (PySem.strKind P w) es) (he:e∈es) (x:Str):(PySem.strKind P w).is x e.2=decide (strOf e.2=x):=by
 obtain⟨y,t,q⟩:=v0o h he
 rw[q]
 show Value.isStrOf x (.str y t)=_
 show(y==x)=decide (y=x)
 by_cases q:y=x
 ·subst q;simp
 ·rw[decide_eq_false q];exact beq_eq_false_iff_ne.mpr q
def v2L (h:ElemsOf (PySem.strKind P w) es) (p:(es.map λe=>strOf e.2).Perm ss) (q:es.findIdx? (λe=>(PySem.strKind P w).is x e.2)=none):x∉ss:=λm=>by
 obtain⟨e,he,ee⟩:=w6.mp (p.mem_iff.mpr m)
 have:=List.findIdx?_eq_none_iff.mp q e he
 rw[v2P h he,decide_eq_false_iff_not] at this
 exact this ee
def v2K (h:ElemsOf (PySem.strKind P w) es) (p:(es.map λe=>strOf e.2).Perm ss) (q:es.findIdx? (λe=>(PySem.strKind P w).is x e.2)=some j):x∈ss:=by
 obtain⟨hj,hp,_⟩:=List.findIdx?_eq_some_iff_getElem.mp q
 have he:es[j]∈es:=z0F hj
 rw[v2P h he,decide_eq_true_eq] at hp
 exact p.mem_iff.mp (w6.mpr ⟨_,he,hp⟩)
def storeT (ho:s.heap.get? a=some o) (hex:o.ExactSet) (hd:o.data=.set es ep t) (el:ElemsOf (PySem.strKind P w) es'.toList)
 (p:(es'.toList.map λe=>strOf e.2).Perm ss) (nd:ss.Nodup) (hb:es'.size<scanBound) (hf:t'.fits es'.size=true) (hl:t'.led=(!w.params.followText "set-order")) (hp:t'.plain=false) :
 (s.heap.update a (Obj.putSet es' t')).get? a=some { o with data:=.set es' (ep+1) t' }/\SetT P w (s.heap.update a (Obj.putSet es' t')) a ss:=by
 obtain⟨g,_⟩:=SetOf_store (knd:=PySem.strKind P w) (S':=λk=>es'.toList.any λe=>(PySem.strKind P w).is k e.2) ho hex hd el (λk=>List.any_eq_true) hb hf
 exact⟨g,_,es',ep+1,t',g,hex,rfl,el,p,nd,hb,hf,hl,λ_=>hp⟩
def u8M {g:Bool->Sem Unit} (hg:∀(b:Bool) (s₁:Shared) (Q':Unit->Shared->Prop),Q' () s₁->wpAny (model P w) A (g b) Q' E s₁) {a:Addr}{o:Obj}{es es1:Array (Int×Value)}{ep:Nat}{t t2:SetTable}{ss:List Str}
  (ho:s.heap.get? a=some o) (hex:o.ExactSet) (hd:o.data=.set es ep t) (el:ElemsOf (PySem.strKind P w) es1.toList) (p:(es1.toList.map λe=>strOf e.2).Perm ss) (nd:ss.Nodup) (hb:es1.size<scanBound)
  (hf:t2.fits es1.size=true) (hl:t2.led=(!w.params.followText "set-order")) (hp:t2.plain=false) {wd:Bool}{R:Option Bool->Shared->Prop} (h:∀h',Heap.SameBut a s.heap h'->SetT P w h' a ss->R (some true) { s with heap:=h' }) :
  wpAny (model P w) A (do
    storeSet a es1 t2
    if (!wd&&t2.tooFull)=true then do
        g (relayAll t2 es1 (SetTable.grown es1.size)).2.2
        storeSet a (relayAll t2 es1 (SetTable.grown es1.size)).1 (relayAll t2 es1 (SetTable.grown es1.size)).2.1
        pure (some true)
     else pure (some true)) R E s:=by
 refine wpAny_bind (wpAny_storeSet_of ho hd ?_ (fits_of_scanBound hb))
 obtain⟨o1,S1⟩:=storeT ho hex hd el p nd hb hf hl hp
 have sb:=Heap.SameBut.update s.heap a (Obj.putSet es1 t2)
 split
 ·have q1:=relayAll_perm t2 es1 (SetTable.grown es1.size)
  have q2:=relayAll_fits t2 es1 (SetTable.grown es1.size)
  have q3:=u7J t2 es1 (SetTable.grown es1.size)
  have q4:=u5W t2 es1 (SetTable.grown es1.size) hp
  generalize relayAll t2 es1 (SetTable.grown es1.size)=Z at q1 q2 q3 q4 |-
  obtain⟨es2,t3,gv⟩:=Z
  dsimp only at q1 q2 q3 q4 |-
  have z:es2.size=es1.size:=by have:=q1.length_eq;simpa using this
  refine wpAny_bind (hg _ _ _ ?_)
  refine wpAny_bind (wpAny_storeSet_of o1 rfl ?_ (fits_of_scanBound (z ▸ hb)))
  obtain⟨_,S2⟩:=storeT (s:={ s with heap:=s.heap.update a (Obj.putSet es1 t2) }) o1 hex rfl (el.perm q1) ((q1.map _).trans p) nd (z ▸ hb) q2 (q3.trans hl) q4
  exact wpAny_pure (h _ (sb.trans (Heap.SameBut.update _ a _)) S2)
 ·exact wpAny_pure (h _ sb S1)
set_option tactic.hygienic true in
def setAddT {a:Addr}{ss:List Str}{x:Str}{tk:Tok}{Q:Bool->Shared->Prop} (hS:SetT P w s.heap a ss) (hr:ss.length+1<scanBound)
  (h:∀r h',Heap.SameBut a s.heap h'->SetT P w h' a (addT ss x)->Q r { s with heap:=h' }):wpAny (model P w) A (setAddHashed a (.str x tk) ((PySem.strKind P w).hash x)) Q E s:=by
 obtain⟨o,es,ep,t,ho,hex,hd,el,p,nd,hb,hf,hl,hp⟩:=id hS
 have hn:es.size=ss.length:=by have:=p.length_eq;simpa using this
 have hk:(PySem.strKind P w).is x (.str x tk)=true:=strKind_is P w x tk
 unfold setAddHashed setAddHashedIn
 refine wpAny_holding (wpAny_bind (wpAny_setState_of ho hd hf ?_))
 dsimp only
 rw[byScan_of (knd:=PySem.strKind P w) (x:=.str x tk) rfl hb el]
 simp only[↓reduceIte]
 unfold setAddByScan
 refine wpAny_bind ?_
 refine wpAny_bind (wpAny_rule ?_)
 refine wpAny_bind (wpAny_setScan_of hk ho hd hf el ?_)
 cases hr':List.findIdx? (λe=>(PySem.strKind P w).is x e.2) es.toList with
 | some j =>
  dsimp only
  refine wpAny_pure (wpAny_pure ?_)
  have m:=v2K el p hr'
  have:=h false s.heap (Heap.SameBut.refl a s.heap) (by unfold addT;rw[if_pos m];exact hS)
  exact this
 | none =>
  dsimp only
  have m:=v2L el p hr'
  have q1:=layNew_perm t es ((PySem.strKind P w).hash x) (.str x tk)
  have q2:=layNew_fits t es ((PySem.strKind P w).hash x) (.str x tk)
  have q3:=v1n t es ((PySem.strKind P w).hash x) (.str x tk)
  generalize layNew t es ((PySem.strKind P w).hash x) (.str x tk)=Z at q1 q2 q3 |-
  obtain⟨es1,t1,wd,gv⟩:=Z
  dsimp only at q1 q2 q3 |-
  rw[Array.toList_push] at q1
  have el1:ElemsOf (PySem.strKind P w) es1.toList:=(el.push hk rfl).perm q1
  have p1:(es1.toList.map λe=>strOf e.2).Perm (addT ss x):=by
   unfold addT
   rw[if_neg m]
   refine(q1.map _).trans ?_
   rw[z0H]
   exact p.append (List.Perm.refl _)
  have nd1:(addT ss x).Nodup:=by
   unfold addT
   rw[if_neg m,List.nodup_append]
   exact⟨nd,by simp,λy hy z hz e=>by rw[y6] at hz;subst hz;subst e;exact m hy⟩
  have hb1:es1.size<scanBound:=by
   have:=q1.length_eq
   simp at this
   omega
  have hg:∀(b:Bool) (s₁:Shared) (Q':Unit->Shared->Prop),Q' () s₁->wpAny (model P w) A (match b with|true=>rule "set.scan.the-table-gave-way" | false=>pure ()) Q' E s₁:=λb s₁ Q' hq=>by
   cases b<;>first|exact wpAny_pure hq|exact wpAny_rule hq
  refine wpAny_bind (hg _ _ _ ?_)
  split
  ·refine wpAny_bind ?_
   rw[hashByValue_scannable 8 (x:=.str x tk) rfl]
   refine wpAny_pure ?_
   refine u8M hg ho hex hd el1 p1 nd1 hb1 ?_ ?_ ?_ λh' sb S'=>wpAny_pure (h true h' sb S')
   ·exact SetTable.fits_plain_off q2
   ·exact q3.trans hl
   ·rfl
  ·rename_i hpl
   refine wpAny_bind (wpAny_pure ?_)
   simp only[↓reduceIte]
   exact u8M hg ho hex hd el1 p1 nd1 hb1 q2 (q3.trans hl) (by simpa using hpl) λh' sb S'=>wpAny_pure (h true h' sb S')
end
noncomputable def setOfT (ss:List Str):List Str:=ss.foldl addT []
def v0B (ss:List Str) (x:Str):(addT ss x).length<=ss.length+1:=by unfold addT;split<;>simp
theorem u5J:∀(xs ss:List Str),(xs.foldl addT ss).length<=ss.length+xs.length
 | [],ss=>by simp
 | x::xs,ss=>by
  have:=u5J xs (addT ss x)
  have:=v0B ss x
  simp only[z1J,u9]
  omega
theorem u8o:∀(xs ss:List Str) (y:Str),y∈xs.foldl addT ss↔y∈ss\/y∈xs
 | [],ss,y=>by simp
 | x::xs,ss,y=>by
  rw[z1J,u8o xs,z8]
  unfold addT
  by_cases q:x∈ss
  ·rw [if_pos q]
   constructor
   ·rintro (h | h)
    ·exact .inl h
    ·exact .inr (.inr h)
   ·rintro (h | rfl | h)
    ·exact .inl h
    ·exact .inl q
    ·exact .inr h
  ·rw[if_neg q,x9,y6,or_assoc]
def u6n :y∈setOfT ss↔y∈ss:=by unfold setOfT;rw[u8o];simp
set_option tactic.hygienic true in
def v1A (h:ss.Nodup):(addT ss x).Nodup:=by
 unfold addT
 split
 ·exact h
 ·rename_i m
  rw[List.nodup_append]
  exact⟨h,by simp,λy hy z hz e=>by rw[y6] at hz;subst hz;subst e;exact m hy⟩
theorem u6j:∀{vs:List Value}{ss:List Str},StrsAre vs ss->∀(i:Nat) (v:Value),vs[i]?=some v->∃x t,ss[i]?=some x/\v=.str x t
 | _,_,.cons x t h,0,v,e=>by cases e;exact⟨x,t,rfl,rfl⟩
 | _,_,.cons x t h,i+1,v,e=>u6j h i v (by simpa using e)
section
variable {P:Program}{w:World}{A:Around}{E:VP}{s:Shared}
def SetT.keep (x:SetT P w h a ss) (k:∀o,h.get? a=some o->h'.get? a=some o):SetT P w h' a ss:=by
 obtain⟨o,es,ep,t,ho,r⟩:=x
 exact⟨o,es,ep,t,k _ ho,r⟩
theorem SetT.fresh (e:h.get? a=some { cls:=.type "set",dict:=none,data:=.set #[] 0 (.fresh 0 0 (!w.params.followText "set-order")) }):SetT P w h a [] :=
 ⟨_,#[],0,_,e,⟨rfl,rfl,rfl⟩,rfl,λe he=>by simp at he,List.Perm.refl _,List.nodup_nil,by decide,by rfl,rfl,λq=>absurd q (by decide)⟩
def v3v {I:Addr}{fp wr:List Addr}{G:Array GenState->Array GenState->Prop}{n:Nat}{Pp:Nat->Value->Prop}{St:Nat->Shared->Prop}{R:Result->Shared->Prop}{ss:List Str}
  (W:WalksS P w A.in1 I fp wr G n Pp St) (S:Addr) (hSf:S∉fp) (hn:ss.length=n) (hv:∀i v,Pp i v->∃x t,ss[i]?=some x/\v=.str x t) (hb:n+1<scanBound) :
  ∀(k i:Nat) (s:Shared),n - i=k->i<=n->St i s->SetT P w s.heap S (setOfT (ss.take i))->(∀s',Moved (S::wr) G s s'->SetT P w s'.heap S (setOfT ss)->R (.ok (.ret .none)) s') ->
   codeAny (model P w) A (.builtin "set.update.loop" ⟨[.ref S,.ref I],[]⟩) R s:=by
 have hSw:S∉wr:=λh=>hSf (W.sub _ h)
 have up:∀b∈wr,b∈S::wr:=λb hb=>z0 _ hb
 intro k
 induction k with
 | zero =>
  intro i s hk hi st hS hR
  have e:i=n:=by omega
  subst e
  refine codeAny_builtin F.entry_set_update_loop ?_
  rw[Around.under_plainId F.plain_set_update_loop _]
  refine wpAny_bind (m:=pyNext (.ref I)) (W.done s _ _ st λs' hm=>?_)
  refine wpAny_pure (hR s' (hm.mono up) ?_)
  have q:=hS.keep (h':=s'.heap) λo=>hm.heap S o hSw
  rwa [List.take_of_length_le (by omega)] at q
 | succ k ih =>
  intro i s hk hi st hS hR
  have lt:i<n:=by omega
  refine codeAny_builtin F.entry_set_update_loop ?_
  rw[Around.under_plainId F.plain_set_update_loop _]
  refine wpAny_bind (m:=pyNext (.ref I)) (W.item i s _ _ lt st λv s' pv st' hm=>?_)
  obtain⟨x,t,hx,rfl⟩:=hv i v pv
  have S1:=hS.keep (h':=s'.heap) λo=>hm.heap S o hSw
  show wpAny _ A.in1 (holding [Value.str x t] (setAdd S (.str x t)) >>= _) _ _ s'
  refine wpAny_bind (wpAny_holding ?_)
  unfold setAdd
  refine wpAny_holding (wpAny_bind ((PySem.strKind P w).pyHash (k:=x) (strKind_is P w x t) ?_))
  have room:(setOfT (ss.take i)).length+1<scanBound:=by
   have:=u5J (ss.take i) []
   have:(ss.take i).length<=i:=by simp;omega
   unfold setOfT
   simp only[List.length_nil,Nat.zero_add] at *
   omega
  refine setAddT (s:={ s' with toks:=s'.toks+1 }) S1 room λr h' sb S2=>?_
  have e2:addT (setOfT (ss.take i)) x=setOfT (ss.take (i+1)):=by
   unfold setOfT
   rw[List.take_add_one,hx]
   simp
  rw[e2] at S2
  refine wpAny_pure ⟨plainId_quiet F.plain_set_update_loop _,ih (i+1) _ (by omega) lt (W.frame _ s' _ _ st' (Nat.le_succ _) λb hb o e=>?_) S2 λs'' hm2 S3=>?_⟩
  ·rw[sb.2 b (λh:b=S=>hSf (h ▸ hb))];exact e
  ·exact hR s'' (Moved.trans W.gtrans ((hm.mono up).then_heap (Nat.le_succ _) λb o hb e=>by rw[sb.2 b (λh:b=S=>hb (h ▸ z6))];exact e) hm2) S3
def set_new 
 (h:Q₁ (.ref s.heap.objs.size) { s with heap:=s.heap.push { cls:=.type "set",dict:=none,data:=.set #[] 0 (.fresh 0 0 (!w.params.followText "set-order")) } }) :
 codeAny (model P w) A (.call (.builtin "set.__new__") ⟨[.type "set",a],[]⟩) (wants Q₁ E) s:=by
 refine codeAny_of_tree (wpAny_bind (m:=checkBuiltinCall "set.__new__" ⟨[.type "set",a],[]⟩) (wpAny_of_eq (F.newCall_set_1 a) (wpAny_pure ⟨plainId_quiet F.plain_set_new _,codeAny_builtin F.entry_set_new ?_⟩)))
 rw[Around.under_plainId F.plain_set_new _]
 unfold Builtin.«set.__new__» Builtin.Frozenset.newClass
 have hsub:=sub_set_self
 obtain⟨hp,g,d,tk,os⟩:=s
 dsimp only
 wp_walk
 refine wpAny_askSetting (wpAny_pure ?_)
 simp only[newObj]
 exact wpAny_bind (wpAny_alloc (wpAny_pure (wpAny_pure h)))
abbrev eSet (w:World):Obj:={ cls:=.type "set",dict:=none,data:=.set #[] 0 (.fresh 0 0 (!w.params.followText "set-order")) }
def SetMade (P:Program) (w:World) (s:Shared) (ss:List Str) (s₂:Shared):Prop:=∃h' tk,s₂={ s with heap:=h',toks:=tk }/\SetT P w h' s.heap.objs.size (setOfT ss)/\∀b o,b<s.heap.objs.size->s.heap.get? b=some o->h'.get? b=some o
set_option maxHeartbeats 3200000 in
def v3t {l:Addr}{items:Array Value}{ss:List Str} (hh:A.handled=none) (hl:s.heap.IsList l items) (hi:StrsAre items.toList ss) (hb:items.size+1<scanBound) :
  wpAny (model P w) A.in1 (Builtin.«set.__init__» ⟨[.ref s.heap.objs.size,.ref l],[]⟩)
   (λfin s'=>match fin with | .done f=>wants (λr s₂=>r=.none/\SetMade P w s ss s₂) E (.ok f) s' | .again c'=>c'.quiet=true/\codeAny (model P w) A c' (wants (λr s₂=>r=.none/\SetMade P w s ss s₂) E) s')
   (λe s'=>wants (λr s₂=>r=.none/\SetMade P w s ss s₂) E (.error e) s') { s with heap:=s.heap.push (eSet w) }:=by
 have hS:(s.heap.push (eSet w)).get? s.heap.objs.size=some (eSet w):=z7 _ rfl
 have hT:Shared.TypeIs { s with heap:=s.heap.push (eSet w) } (.ref s.heap.objs.size) "set":=⟨_,hS,rfl⟩
 obtain⟨⟨oc,od,odt,osl⟩,hol,hcl,nl,hdl⟩:=hl
 simp only at hcl hdl
 subst hcl
 subst hdl
 have hol':(s.heap.push (eSet w)).get? l=some { cls:=.type "list",dict:=od,data:=.seq items nl,slots:=osl }:=z5 _ hol
 have k1:=F.sub_list_set
 have k2:=F.sub_list_frozenset
 have k3:(Value.type "list"==Value.type "dict")=false:=by decide
 have hl1:(s.heap.push (eSet w)).IsList l items:=⟨_,hol',rfl,nl,rfl⟩
 unfold Builtin.«set.__init__» noKeywords Builtin.Frozenset.updateFrom
 generalize hPI:pyIter=PI
 wp_walk
 subst hPI
 refine wpAny_pyIter_list hl1 (wpAny_bind (wpAny_runValue ?_))
 have lS:l<s.heap.objs.size:=y9 hol
 have h3:A.in1.in1.handled=none:=by simp[hh]
 have z:(s.heap.push (eSet w)).objs.size=s.heap.objs.size+1:=Heap.size_push ..
 have nI:l≠(s.heap.push (eSet w)).objs.size:=by rw[z];exact v9 (Nat.lt_succ_of_lt lS)
 have nS:s.heap.objs.size∉[(s.heap.push (eSet w)).objs.size,l]:=by
  rw[z]
  simp only[z8,z1G,or_false,not_or]
  exact⟨v9 (Nat.lt_succ_self _),Nat.ne_of_gt lS⟩
 have hlen:ss.length=items.size:=by
  have e:=hi.strs
  have:(items.toList.map strOf).length=ss.length:=by rw[e]
  simpa using this.symm
 refine v3v (ss:=ss) ((Walks.list h3 _ l nI items).toS) s.heap.objs.size nS hlen (λi v hv=>u6j hi i v (by rw[z1F];exact hv)) hb (items.size - 0) 0 _ (by omega) (z1H _)
  ⟨⟨_,z7 _ rfl,rfl,rfl⟩,hl1.push _⟩ (SetT.fresh (z5 _ hS)) ?_
 intro s' hm hS'
 obtain⟨h',g',d',tk',os'⟩:=s'
 have eg:g'=s.gens:=hm.gens
 have ed:d'=s.drawn:=hm.drawn
 have eo:os'=s.os:=hm.os
 subst eg
 subst ed
 subst eo
 refine wpAny_pure ?_
 show wpAny _ _ (ret Value.none) _ _ _
 refine wpAny_pure ⟨rfl,h',tk',rfl,hS',λb o hb e=>hm.heap b o ?_ (z5 _ (z5 _ e))⟩
 simp only[z8,z1G,or_false,not_or,z]
 exact⟨v9 hb,v9 (Nat.lt_succ_of_lt hb)⟩
set_option maxHeartbeats 3200000 in
def v3w {l:Addr}{items:Array Value}{ss:List Str}{Q:VP} (hh:A.handled=none) (hl:s.heap.IsList l items) (hi:StrsAre items.toList ss) (hb:items.size+1<scanBound)
  (h:∀s₂,SetMade P w s ss s₂->Q (.ref s.heap.objs.size) s₂):wpAny (model P w) A (call (.type "set") [.ref l]) Q E s:=by
 obtain⟨c,tl,hmro⟩:=F.called_set.mro
 have hmade:=F.called_set.made
 have hsub:=F.called_set.sub
 refine wpAny_call (codeAny_of_tree (show wpAny _ _ (callAny (.type "set") _) _ _ _ from wpAny_pure ⟨Code.quiet_builtin _ (by decide +kernel),codeAny_builtin F.entry_type_call ?_⟩))
 rw[Around.under_plain (weight_type_call_type "set" [.ref l] []) rfl]
 have h1:=F.called_set.notType
 have h2:=F.called_set.canCreate
 have hct:=F.typeCall_set_1 (.ref l)
 repeat (any_goals (first|assumption|wp_step))
 refine codeAny_mono (set_new (a:=.ref l) (E:=E) (Q₁:=λobj s₁=>obj=.ref s.heap.objs.size/\s₁={ s with heap:=s.heap.push (eSet w) }) ⟨rfl,rfl⟩) λr s₁ hr=>?_
 cases r with
 | error e=>exact hr
 | ok fl =>
  cases fl with
  | ret obj =>
   obtain⟨rfl,rfl⟩:=hr
   have hT:Shared.TypeIs { s with heap:=s.heap.push (eSet w) } (.ref s.heap.objs.size) "set":=⟨_,z7 _ rfl,rfl⟩
   have hli:=F.called_set.init.lookup
   have hbi:=F.called_set.init.bind (.ref s.heap.objs.size)
   repeat (any_goals (first|assumption|wp_step))
   refine codeAny_mono (codeAny_call_builtin (R:=wants (λr s₂=>r=.none/\SetMade P w s ss s₂) E) F.called_set.init.plain F.entry_set_init (check_set_init_1 hT (v3t (by simp[hh]) hl hi hb))) λr₂ s₂ hr₂=>?_
   cases r₂ with
   | error e=>exact hr₂
   | ok fl₂ =>
    cases fl₂ with
    | ret r =>
     obtain⟨rfl,m⟩:=hr₂
     repeat (any_goals (first|assumption|wp_step))
     exact h _ m
    | _=>exact hr₂.elim
  | _=>exact hr.elim
end
def u8q:entryFor table "set.__iter__"=some Builtin.«frozenset.__iter__»:=entryFor_alias (id':="frozenset.__iter__") (by kernel_rfl) rfl (by decide +kernel) (by kernel_rfl)
def u0z:Slot "set_iterator" "__next__" "set_iterator.__next__":=.of (owner:="set_iterator") (n:="__next__") (by rw[typeLookup_type,builtinLookup_eq_fast];kernel_rfl) (by decide +kernel) (by decide +kernel)
 (by decide +kernel) (by first|exact .inl (by decide +kernel)|exact .inr (by decide +kernel)) (by rw[isSubtype_type];kernel_rfl)
def u4t:Slot "set_iterator" "__iter__" "set_iterator.__iter__":=.of (owner:="set_iterator") (n:="__iter__") (by rw[typeLookup_type,builtinLookup_eq_fast];kernel_rfl) (by decide +kernel) (by decide +kernel)
 (by decide +kernel) (by first|exact .inl (by decide +kernel)|exact .inr (by decide +kernel)) (by rw[isSubtype_type];kernel_rfl)
def u1O:entryFor table "set_iterator.__next__"=some Builtin.«set_iterator.__next__»:=entryFor_of_tree (by kernel_rfl)
def u7m:entryFor table "set_iterator.__iter__"=some Builtin.«dict_keyiterator.__iter__»:=entryFor_alias (id':="dict_keyiterator.__iter__") (by kernel_rfl) rfl (by decide +kernel) (by kernel_rfl)
def u9N:Manifest.owners.lookup (String.ofList ['r','o','t','a','r','e','t','i','_','t','e','s'].reverse)=some Manifest.sig_set_iterator:=by kernel_rfl
def u2e (a:Value):argsOk "set_iterator.__next__" ⟨[a],[]⟩:=by
 unfold argsOk
 rw[signature?_of (id:="set_iterator.__next__") (n:=['_','_','t','x','e','n','_','_']) (o:=['r','o','t','a','r','e','t','i','_','t','e','s']) (by kernel_rfl) u9N]
 kernel_rfl
def u8H (a:Value):argsOk "set_iterator.__iter__" ⟨[a],[]⟩:=by
 unfold argsOk
 rw[signature?_of (id:="set_iterator.__iter__") (n:=['_','_','r','e','t','i','_','_']) (o:=['r','o','t','a','r','e','t','i','_','t','e','s']) (by kernel_rfl) u9N]
 kernel_rfl
def SIt (h:Heap) (I:Addr) (first:Value) (i:Nat) (a:Addr) (n ep:Nat):Prop:=∃o,h.get? I=some o/\o.cls=.type "set_iterator"/\o.data=.fields #[first,.int i 0,.ref a,.int n 0,.int ep 0]
def SAt (h:Heap) (a:Addr) (es:Array (Int×Value)) (ep:Nat) (t:SetTable):Prop:=∃o,h.get? a=some o/\o.data=.set es ep t/\t.fits es.size=true
def SIt.at (x:SIt h I first i a n ep) (k:∀o,h.get? I=some o->h'.get? I=some o):SIt h' I first i a n ep:=by obtain⟨o,ho,r⟩:=x;exact⟨o,k _ ho,r⟩
def SAt.at (x:SAt h a es ep t) (k:∀o,h.get? a=some o->h'.get? a=some o):SAt h' a es ep t:=by obtain⟨o,ho,r⟩:=x;exact⟨o,k _ ho,r⟩
section
variable {P:Program}{w:World}{A:Around}{E:VP}{s:Shared}{I a:Addr}{first:Value}{i ep:Nat}{es:Array (Int×Value)}{t:SetTable}
def SIt.ty (x:SIt s.heap I first i a n ep):s.TypeIs (.ref I) "set_iterator":=by obtain⟨o,ho,hc,_⟩:=x;exact⟨o,ho,hc⟩
def u8Q (x:SIt s.heap I first i a n ep) (h:Q (.ref I) s):wpAny (model P w) A (pyIter (.ref I)) Q E s:=by
 refine wpAny_pyIter_slot x.ty u4t (wpAny_call_entry u4t x.ty u7m ?_ (u8H _))
 exact(show wpAny _ _ (ret (.ref I)) _ _ s from wpAny_pure ⟨_,rfl,"set_iterator",_,x.ty,u0z.lookup,h⟩)
def u6m (ho:s.heap.get? I=some o) (hc:o.cls=.type "set_iterator") (hd:o.data=.fields vs) (hk:k<vs.size)
 (h:∀h' o',h'.get? I=some o'->o'.cls=.type "set_iterator"->o'.data=.fields (vs.setIfInBounds k v)->Heap.SameBut I s.heap h'->Q () { s with heap:=h' }):wpAny (model P w) A (setField (.ref I) k v) Q E s :=
 wpAny_setField ho hd hk (h _ _ (z1E _ ho (Obj.isFreed_of_fields (Obj.data_mapFields hd _))) ((Obj.cls_mapFields ..).trans hc) (Obj.data_mapFields hd _) (Heap.SameBut.update ..))
def Kept (I:Addr) (h h':Heap):Prop:=∀b o,b≠I->h.get? b=some o->h'.get? b=some o
def v1O {slot nx:Nat}{x:Value}{Q:Option Value->Shared->Prop} (X:SIt s.heap I (.int slot 0) i a es.size ep) (S:SAt s.heap a es ep t)
  (hn:∀(B:Around) (R:Option (Value×Nat)->Shared->Prop) (E':VP),R (some (x,nx)) s->wpAny (model P w) B (setNext a slot i ep) R E' s)
  (hQ:∀h',SIt h' I (.int nx 0) (i+1) a es.size ep->Kept I s.heap h'->Q (some x) { s with heap:=h' }):wpAny (model P w) A (pyNext (.ref I)) Q E s:=by
 obtain⟨o,ho,hc,hd⟩:=id X
 obtain⟨os,hos,hds,hf⟩:=id S
 unfold pyNext
 refine wpAny_bind (wpAny_attempt (wpAny_callSpecial?_slot (name:=Str.ofString "__next__") X.ty u0z (wpAny_call_entry u0z X.ty u1O ?_ (u2e _))))
 unfold Builtin.«set_iterator.__next__»
 refine wpAny_bind (wpAny_pure ?_)
 refine wpAny_bind (wpAny_fieldsOf ho hd ?_)
 refine wpAny_bind (m:=setEntries a) (wpAny_setEntries_of hos hds hf ?_)
 rw[if_neg (by simp)]
 refine wpAny_bind (m:=setNext a slot i ep) (hn _ _ _ ?_)
 refine wpAny_bind (u6m ho hc hd (by simp) λh1 o1 g1 c1 d1 b1=>?_)
 refine wpAny_bind (u6m (s:={ s with heap:=h1 }) g1 c1 d1 (by simp) λh2 o2 g2 c2 d2 b2=>?_)
 exact wpAny_pure ⟨x,rfl,wpAny_pure (hQ h2 ⟨o2,g2,c2,by rw[d2];simp[rawInt]⟩ λb ob nb e=>(b2.extBut b ob nb (b1.extBut b ob nb e)))⟩
def v1P {slot:Nat}{Q:Option Value->Shared->Prop} (hh:A.handled=none) (X:SIt s.heap I (.int slot 0) i a es.size ep) (S:SAt s.heap a es ep t)
  (hn:∀(B:Around) (R:Option (Value×Nat)->Shared->Prop) (E':VP),R none s->wpAny (model P w) B (setNext a slot i ep) R E' s)
  (hQ:∀h',Kept I s.heap h'->Q none { s with heap:=h' }):wpAny (model P w) A (pyNext (.ref I)) Q E s:=by
 obtain⟨o,ho,hc,hd⟩:=id X
 obtain⟨os,hos,hds,hf⟩:=id S
 unfold pyNext
 refine wpAny_bind (wpAny_attempt (wpAny_callSpecial?_slot (name:=Str.ofString "__next__") X.ty u0z (wpAny_call_entry u0z X.ty u1O ?_ (u2e _))))
 unfold Builtin.«set_iterator.__next__»
 refine wpAny_bind (wpAny_pure ?_)
 refine wpAny_bind (wpAny_fieldsOf ho hd ?_)
 refine wpAny_bind (m:=setEntries a) (wpAny_setEntries_of hos hds hf ?_)
 rw[if_neg (by simp)]
 refine wpAny_bind (m:=setNext a slot i ep) (hn _ _ _ ?_)
 refine wpAny_bind (u6m ho hc hd (by simp) λh1 o1 g1 c1 d1 b1=>?_)
 refine wpAny_bind (m:=newExc (.type "StopIteration") []) ?_
 simp only[newExc,newTuple]
 refine wpAny_bind (wpAny_newObj_type (Q:=_) ?_ (by size_fits));refine wpAny_bind (m:=firstArgMember _ _) (wpAny_of_eq (a:=Value.none) (by first|rfl|(simp only[firstArgMember];rfl)) (wpAny_newObj_type ?_ (by size_fits)))
 simp only[raiseNew]
 refine wpAny_bind (wpAny_handled ?_)
 rw[show A.in1.handled=none from hh]
 refine wpAny_bind (wpAny_pure (wpAny_throw ?_));refine wpAny_bind (wpAny_isInstance (T:="StopIteration") (b:=true) ⟨_,z7 _ rfl,rfl⟩ isSubtype_stop ?_)
 exact wpAny_pure (hQ _ λb ob nb e=>z5 _ (z5 _ (b1.extBut b ob nb e)))
def v3o {tp:Addr}{pl:Array Value}{place m:Nat}{tk:Tok}{e:Int×Value}{ot:Obj}{Q:Option Value->Shared->Prop} (X:SIt s.heap I (.ref tp) i a es.size ep) (S:SAt s.heap a es ep t) (hot:s.heap.get? tp=some ot) (hpt:ot.data=.seq pl m)
  (hp:pl[i]?=some (.int place tk)) (he:es[place]?=some e) (hQ:∀h',SIt h' I (.ref tp) (i+1) a es.size ep->Kept I s.heap h'->Q (some e.2) { s with heap:=h' }):wpAny (model P w) A (pyNext (.ref I)) Q E s:=by
 obtain⟨o,ho,hc,hd⟩:=id X
 obtain⟨os,hos,hds,hf⟩:=id S
 unfold pyNext
 refine wpAny_bind (wpAny_attempt (wpAny_callSpecial?_slot (name:=Str.ofString "__next__") X.ty u0z (wpAny_call_entry u0z X.ty u1O ?_ (u2e _))))
 unfold Builtin.«set_iterator.__next__»
 refine wpAny_bind (wpAny_pure ?_)
 refine wpAny_bind (wpAny_fieldsOf ho hd ?_)
 refine wpAny_bind (m:=setEntries a) (wpAny_setEntries_of hos hds hf ?_)
 rw[if_neg (by simp)]
 refine wpAny_bind (m:=seqItems? (.ref tp)) (wpAny_seqItems hot hpt ?_)
 simp only[Int.toNat_natCast,hp]
 refine wpAny_bind ?_
 unfold setNextDrawn
 refine wpAny_bind (wpAny_setState_of hos hds hf ?_)
 simp only[bne_self_eq_false,t7,if_false,he]
 refine wpAny_pure (wpAny_bind (u6m ho hc hd (by simp) λh1 o1 g1 c1 d1 b1=>?_))
 exact wpAny_pure ⟨e.2,rfl,wpAny_pure (hQ h1 ⟨o1,g1,c1,by rw[d1];simp[rawInt]⟩ λb ob nb e=>b1.extBut b ob nb e)⟩
def v3p (hh:A.handled=none) (X:SIt s.heap I (.ref tp) i a es.size ep) (S:SAt s.heap a es ep t) (hot:s.heap.get? tp=some ot) (hpt:ot.data=.seq pl m)
 (hp:pl[i]?=none) (hQ:∀h',Kept I s.heap h'->Q none { s with heap:=h' }):wpAny (model P w) A (pyNext (.ref I)) Q E s:=by
 obtain⟨o,ho,hc,hd⟩:=id X
 obtain⟨os,hos,hds,hf⟩:=id S
 unfold pyNext
 refine wpAny_bind (wpAny_attempt (wpAny_callSpecial?_slot (name:=Str.ofString "__next__") X.ty u0z (wpAny_call_entry u0z X.ty u1O ?_ (u2e _))))
 unfold Builtin.«set_iterator.__next__»
 refine wpAny_bind (wpAny_pure ?_)
 refine wpAny_bind (wpAny_fieldsOf ho hd ?_)
 refine wpAny_bind (m:=setEntries a) (wpAny_setEntries_of hos hds hf ?_)
 rw[if_neg (by simp)]
 refine wpAny_bind (m:=seqItems? (.ref tp)) (wpAny_seqItems hot hpt ?_)
 simp only[Int.toNat_natCast,hp]
 refine wpAny_bind (u6m ho hc hd (by simp) λh1 o1 g1 c1 d1 b1=>?_)
 refine wpAny_bind (u6m (s:={ s with heap:=h1 }) g1 c1 d1 (by simp) λh2 o2 g2 c2 d2 b2=>?_)
 refine wpAny_bind (m:=newExc (.type "StopIteration") []) ?_
 simp only[newExc,newTuple]
 refine wpAny_bind (wpAny_newObj_type (Q:=_) ?_ (by size_fits));refine wpAny_bind (m:=firstArgMember _ _) (wpAny_of_eq (a:=Value.none) (by first|rfl|(simp only[firstArgMember];rfl)) (wpAny_newObj_type ?_ (by size_fits)))
 simp only[raiseNew]
 refine wpAny_bind (wpAny_handled ?_)
 rw[show A.in1.handled=none from hh]
 refine wpAny_bind (wpAny_pure (wpAny_throw ?_));refine wpAny_bind (wpAny_isInstance (T:="StopIteration") (b:=true) ⟨_,z7 _ rfl,rfl⟩ isSubtype_stop ?_)
 exact wpAny_pure (hQ _ λb ob nb e=>z5 _ (z5 _ (b2.extBut b ob nb (b1.extBut b ob nb e))))
end
theorem u6J {α:Type}:∀(l:List α) (i:Nat) (h:i<l.length),(l[i]::l.eraseIdx i).Perm l
 | x::l,0,_=>List.Perm.refl _
 | x::l,i+1,h=>(List.Perm.swap x _ _).trans ((u6J l i (by simpa using h)).cons x)
theorem u7W {α:Type} (f:Nat->Nat):∀(n k:Nat) (l:List α) (out:Array α),l.length=n->(pickOrder.go f n k l out).toList.Perm (out.toList++l)
 | 0,k,l,out,h=>by
  have:l=[]:=List.eq_nil_of_length_eq_zero h
  subst this
  simp[pickOrder.go]
 | n+1,k,l,out,h=>by
  have lt:f k%l.length<l.length:=Nat.mod_lt _ (by omega)
  unfold pickOrder.go
  rw[u5 lt]
  refine(u7W f n (k+1) _ _ (by rw[List.length_eraseIdx,if_pos lt];omega)).trans ?_
  rw[Array.toList_push,List.append_assoc]
  exact List.Perm.append_left _ (u6J l _ lt)
def u6b {α:Type} (f:Nat->Nat) (xs:Array α):(pickOrder f xs).toList.Perm xs.toList:=by
 have:=u7W f xs.size 0 xs.toList #[] (by simp)
 simpa[pickOrder] using this
section
variable {P:Program}{w:World}{A:Around}{E:VP}{s:Shared}
def v1E (hn:n≠0) (h:∀i d,i<n->Q i { s with drawn:=d }):wpAny (model P w) A (choose src n) Q E s :=
 λ_ _ _=>⟨hn,h _ _ (Nat.mod_lt _ (Nat.pos_of_ne_zero hn))⟩
theorem u4B {α:Type}:∀(n:Nat) (xs:List α) (s:Shared) (Q:List α->Shared->Prop),xs.length=n->(∀ys d,ys.Perm xs->Q ys { s with drawn:=d })->wpAny (model P w) A (drawOrder n xs) Q E s
 | 0,xs,s,Q,e,h=>by
  have:xs=[]:=List.eq_nil_of_length_eq_zero e
  subst this
  exact wpAny_pure (h [] s.drawn (List.Perm.refl _))
 | n+1,[],s,Q,e,h=>by cases e
 | n+1,x::xs,s,Q,e,h=>by
  show wpAny _ _ (choose .order (x::xs).length >>= _) _ _ s
  refine wpAny_bind (v1E (by simp) λi d hi=>?_)
  rw[u5 hi]
  refine wpAny_bind (u4B n _ _ _ (by rw[List.length_eraseIdx,if_pos hi];omega) λys d' p=>?_)
  exact wpAny_pure (h _ d' ((p.cons _).trans (u6J _ _ hi)))
variable {a I:Addr}{ep:Nat}{es:Array (Int×Value)}{t:SetTable}
def v1G (hh:A.handled=none) (ne:a≠I) (ht:w.params.followText "set-order"=true):Walks P w A I [I,a] [I] (pickOrder (w.params.setOrder a ep) es).toList.length
 (λi v=>(((pickOrder (w.params.setOrder a ep) es).toList.map (·.2)))[i]?=some v) (λi h=>SIt h I (.int 0 0) i a es.size ep/\SAt h a es ep t) where
 sub:=λb hb=>by simp at hb;simp[hb]
 frame:=λi h h' st k=>⟨st.1.at λo=>k I (by simp) o,st.2.at λo=>k a (by simp) o⟩
 item:=λi s Q E hi st hQ=>by
  obtain⟨os,hos,hds,hf⟩:=id st.2
  refine v1O (slot:=0) (nx:=0) (x:=(pickOrder (w.params.setOrder a ep) es).toList[i].2) st.1 st.2 (λB R E' r=>?_) λh' X' k=>?_
  ·unfold setNext
   refine wpAny_bind (wpAny_setState_of hos hds hf ?_)
   unfold setsByText
   refine wpAny_bind (wpAny_bind (wpAny_askSetting (wpAny_pure ?_)))
   dsimp only
   simp only[show((model P w).w.params.followText "set-order")=true from ht,if_true,bne_self_eq_false,t7,if_false]
   refine wpAny_bind ?_
   unfold setWalk setsByText
   refine wpAny_bind (wpAny_setState_of hos hds hf ?_)
   refine wpAny_bind (wpAny_bind (wpAny_askSetting (wpAny_pure ?_)))
   simp only[show((model P w).w.params.followText "set-order")=true from ht,if_true]
   refine wpAny_bind (wpAny_askSetting (wpAny_pure (wpAny_pure ?_)))
   have q:(pickOrder ((model P w).w.params.setOrder a ep) es)[i]?=some ((pickOrder (w.params.setOrder a ep) es).toList[i]):=by
    rw[<- z1F]
    exact u5 hi
   rw[q]
   exact r
  ·exact hQ _ h' s.toks (by rw[v7,u5 hi];rfl) ⟨X',st.2.at λo e=>k a o ne e⟩ λb o hb e=>k b o (λq=>hb (by simp[q])) e
 done:=λs Q E st hQ=>by
  obtain⟨os,hos,hds,hf⟩:=id st.2
  refine v1P (slot:=0) hh st.1 st.2 (λB R E' r=>?_) λh' k=>hQ h' s.toks λb o hb e=>k b o (λq=>hb (by simp[q])) e
  unfold setNext
  refine wpAny_bind (wpAny_setState_of hos hds hf ?_)
  unfold setsByText
  refine wpAny_bind (wpAny_bind (wpAny_askSetting (wpAny_pure ?_)))
  dsimp only
  simp only[show((model P w).w.params.followText "set-order")=true from ht,if_true,bne_self_eq_false,t7,if_false]
  refine wpAny_bind ?_
  unfold setWalk setsByText
  refine wpAny_bind (wpAny_setState_of hos hds hf ?_)
  refine wpAny_bind (wpAny_bind (wpAny_askSetting (wpAny_pure ?_)))
  simp only[show((model P w).w.params.followText "set-order")=true from ht,if_true]
  refine wpAny_bind (wpAny_askSetting (wpAny_pure (wpAny_pure ?_)))
  have q:(pickOrder ((model P w).w.params.setOrder a ep) es)[(pickOrder (w.params.setOrder a ep) es).toList.length]?=none:=by
   rw[Array.getElem?_eq_none (by rw[r9];exact y7 _)]
  rw[q]
  exact r
 self:=λ_ _ _ _ st h=>u8Q st.1 h
def u6X {α:Type}{xs:Array α} (h:xs.size=1):∃x,xs=#[x]:=by
 obtain⟨l⟩:=xs
 match l,h with
 | [x],_=>exact⟨x,rfl⟩
def u8F (p j:Nat):SetTable.below #[p] j=if p<j then 1 else 0:=by
 unfold SetTable.below
 simp[SetTable.below.go]
def u9Q (hds:SAt s.heap a es ep t) (h1:es.size<=1) (ht:w.params.followText "set-order"=false) (hl:t.led=true) 
 (r:R (match es[SetTable.below t.place slot]?,t.place[SetTable.below t.place slot]? with|some (_,x),some j=>some (x,j+1)|_,_=>none) s):wpAny (model P w) A (setNext a slot i ep) R E s:=by
 obtain⟨os,hos,hd,hf⟩:=hds
 unfold setNext
 refine wpAny_bind (wpAny_setState_of hos hd hf ?_)
 unfold setsByText
 refine wpAny_bind (wpAny_bind (wpAny_askSetting (wpAny_pure ?_)))
 dsimp only
 simp only[show((model P w).w.params.followText "set-order")=false from ht,t7,if_false]
 have z:(!t.plain&&decide (es.size > 1))=false:=by rw[decide_eq_false (by omega),Bool.and_false]
 show wpAny _ _ (if (!t.plain&&decide (es.size > 1))=true then _ else _) _ _ s
 rw[z]
 simp only[t7,if_false]
 have z2:(!t.led&&!es.isEmpty)=false:=by rw[hl];rfl
 show wpAny _ _ ((if (!t.led&&!es.isEmpty)=true then _ else _) >>= _) _ _ s
 rw[z2]
 exact wpAny_bind (wpAny_pure (wpAny_pure r))
def v3m (hh:A.handled=none) (ne:a≠I) (ht:w.params.followText "set-order"=false) (h1:es.size<=1) (hl:t.led=true) (hf:t.fits es.size=true):Walks P w A I [I,a] [I] es.toList.length (λi v=>(es.toList.map (·.2))[i]?=some v)
 (λi h=>SIt h I (.int ((if i=0 then 0 else t.place.getD 0 0+1:Nat):Nat) 0) i a es.size ep/\SAt h a es ep t) where
 sub:=λb hb=>by simp at hb;simp[hb]
 frame:=λi h h' st k=>⟨st.1.at λo=>k I (by simp) o,st.2.at λo=>k a (by simp) o⟩
 item:=λi s Q E hi st hQ=>by
  have hz:es.size=1:=by have:es.toList.length=es.size:=r9;omega
  have i0:i=0:=by have:es.toList.length=es.size:=r9;omega
  subst i0
  obtain⟨p,hp⟩:∃p,t.place=#[p]:=by
   have:t.place.size=1:=by have:=(s9.mp hf).1;rw[hz] at this;simpa using this
   exact u6X this
  obtain⟨e,he⟩:∃e,es=#[e]:=u6X hz
  subst he
  refine v1O (slot:=0) (nx:=p+1) (x:=e.2) st.1 st.2 (λB R E' r=>u9Q st.2 h1 ht hl ?_) λh' X' k=>?_
  ·rw[hp,u8F];simpa using r
  ·refine hQ _ h' s.toks (by simp) ⟨?_,st.2.at fun o e=>k a o ne e⟩ fun b o hb e=>k b o (fun q=>hb (by simp [q])) e
   rw[hp]
   simpa using X'
 done:=λs Q E st hQ=>by
  refine v1P hh st.1 st.2 (λB R E' r=>u9Q st.2 h1 ht hl ?_) λh' k=>hQ h' s.toks λb o hb e=>k b o (λq=>hb (by simp[q])) e
  by_cases hz:es.size=0
  ·have:es=#[]:=Array.eq_empty_of_size_eq_zero hz
   subst this
   simpa using r
  ·have hz:es.size=1:=by omega
   obtain⟨p,hp⟩:∃p,t.place=#[p]:=by
    have:t.place.size=1:=by have:=(s9.mp hf).1;rw[hz] at this;simpa using this
    exact u6X this
   obtain⟨e,he⟩:∃e,es=#[e]:=u6X hz
   subst he
   rw[hp]
   simpa[u8F] using r
 self:=λ_ _ _ _ st h=>u8Q st.1 h
def v0C {tp:Addr}{ys:List Nat} (hh:A.handled=none) (ne:a≠I) (nt:tp≠I) (hy:∀j∈ys,j<es.size):Walks P w A I [I,a,tp] [I] ys.length (λi v=>(ys.map λj=>(es.getD j default).2)[i]?=some v)
  (λi h=>SIt h I (.ref tp) i a es.size ep/\SAt h a es ep t/\∃o m,h.get? tp=some o/\o.data=.seq (ys.map λ(j:Nat)=>rawInt j).toArray m) where
 sub:=λb hb=>by simp at hb;simp[hb]
 frame:=λi h h' st k=>⟨st.1.at λo=>k I (by simp) o,st.2.1.at λo=>k a (by simp) o,by obtain⟨o,m,x,y⟩:=st.2.2;exact⟨o,m,k tp (by simp) o x,y⟩⟩
 item:=λi s Q E hi st hQ=>by
  obtain⟨o,m,ho,hd⟩:=st.2.2
  have lt:=hy ys[i] (z0F hi)
  refine v3o (place:=ys[i]) (tk:=0) (e:=es[ys[i]]) st.1 st.2.1 ho hd (by simp[hi,rawInt]) (z3E lt) λh' X' k=>?_
  refine hQ _ h' s.toks ?_ ⟨X',st.2.1.at λo e=>k a o ne e,o,m,k tp o nt ho,hd⟩ λb o hb e=>k b o (λq=>hb (by simp[q])) e
  rw[v7,u5 hi]
  simp[Array.getD,lt]
 done:=λs Q E st hQ=>by
  obtain⟨o,m,ho,hd⟩:=st.2.2
  exact v3p hh st.1 st.2.1 ho hd (by simp) λh' k=>hQ h' s.toks λb o hb e=>k b o (λq=>hb (by simp[q])) e
 self:=λ_ _ _ _ st h=>u8Q st.1 h
end
def Fwd (s s':Shared):Prop:=(∀b o,s.heap.get? b=some o->s'.heap.get? b=some o)/\s'.os=s.os/\s'.gens=s.gens
section
variable {P:Program}{w:World}{A:Around}{E:VP}{s:Shared}
def u8O {es l:List (Int×Value)}{ss:List Str} (el:ElemsOf (PySem.strKind P w) es) (p:(es.map λe=>strOf e.2).Perm ss) (q:l.Perm es):∃ss',StrsAre (l.map (·.2)) ss'/\ss'.Perm ss :=
 ⟨_,strsAre_map _ λv hv=>by
  obtain⟨e,he,rfl⟩:=w6.mp hv
  exact v0o el (q.mem_iff.mp he),by
  rw[z2J]
  exact(q.map _).trans p⟩
def v0T {es:Array (Int×Value)}{ys:List Nat} (p:ys.Perm (List.range es.size)):(ys.map λj=>es.getD j default).Perm es.toList:=by
 refine(p.map _).trans (List.Perm.of_eq ?_)
 apply List.ext_getElem
 ·simp
 ·intro i h1 h2
  simp at h1
  simp[Array.getD,h1]
def v3s {a:Addr}{ss:List Str}{Q:VP} (S:SetT P w s.heap a ss) (hh:A.handled=none)
  (h:∀s₁ I fp vs St,Fwd s s₁->(∀b∈fp,b=a\/s.heap.objs.size<=b)->s.heap.objs.size<=I->Walks P w A I fp [I] vs.length (λi v=>vs[i]?=some v) St->St 0 s₁.heap->(∃ss',StrsAre vs ss'/\ss'.Perm ss)->Q (.ref I) s₁) :
  wpAny (model P w) A (pyIter (.ref a)) Q E s:=by
 obtain⟨o,es,ep,t,ho,hex,hd,el,p,nd,hb,hf,hl,hp⟩:=id S
 have hT:s.TypeIs (.ref a) "set":=⟨o,ho,hex.1⟩
 have la:a<s.heap.objs.size:=y9 ho
 refine wpAny_pyIter_slot hT F.slot_set_iter (wpAny_call_entry F.slot_set_iter hT u8q ?_ (F.args_set_iter_1 _))
 unfold Builtin.«frozenset.__iter__»
 refine wpAny_bind (m:=Builtin.Frozenset.slot0 "__iter__" _) (wpAny_pure ?_)
 refine wpAny_bind ?_
 unfold Builtin.Frozenset.sizeOf
 refine wpAny_bind (wpAny_setEntries_of ho hd hf (wpAny_pure ?_))
 refine wpAny_bind ?_
 unfold setDrawn setsByText
 refine wpAny_bind (wpAny_setState_of ho hd hf (wpAny_bind (wpAny_bind (wpAny_askSetting (wpAny_pure (wpAny_pure ?_))))))
 dsimp only
 by_cases ht:w.params.followText "set-order"=true
 ·simp only [show ((model P w).w.params.followText "set-order")=true from ht,Bool.not_true,Bool.false_and,t7,if_false]
  refine wpAny_bind (wpAny_pure (wpAny_bind ?_))
  unfold setEpoch
  refine wpAny_bind (wpAny_setState_of ho hd hf (wpAny_pure (wpAny_bind (wpAny_newObj_type (wpAny_pure ⟨_,rfl,"set_iterator",_,⟨_,z7 _ rfl,rfl⟩,u0z.lookup,?_⟩)))))
  refine h _ s.heap.objs.size _ _ _ ⟨λb o e=>z5 _ e,rfl,rfl⟩ ?_ (y7 _) ((v6 (f:=λe:Int×Value=>e.2) (as:=(pickOrder (w.params.setOrder a ep) es).toList)).symm ▸ v1G (t:=t) hh (v9 la) ht)
   ⟨⟨_,z7 _ rfl,rfl,rfl⟩,⟨o,z5 _ ho,hd,hf⟩⟩ (u8O el p (u6b _ _))
  intro b hb
  simp at hb
  rcases hb with rfl|rfl
  ·exact .inr (y7 _)
  ·exact .inl rfl
 ·have ht:w.params.followText "set-order"=false:=by simpa using ht
  have hl:t.led=true:=by rw[hl,ht];rfl
  by_cases h1:es.size<=1
  ·have z:(!false&&(!t.plain&&decide (es.size > 1)))=false:=by rw [decide_eq_false (by omega),Bool.and_false];rfl
   simp only[show((model P w).w.params.followText "set-order")=false from ht]
   show wpAny _ _ (if (!false&&(!t.plain&&decide (es.size > 1)))=true then _ else _) _ _ _
   rw[z]
   simp only[t7,if_false]
   refine wpAny_bind (wpAny_pure (wpAny_bind ?_))
   unfold setEpoch
   refine wpAny_bind (wpAny_setState_of ho hd hf (wpAny_pure (wpAny_bind (wpAny_newObj_type (wpAny_pure ⟨_,rfl,"set_iterator",_,⟨_,z7 _ rfl,rfl⟩,u0z.lookup,?_⟩)))))
   refine h _ s.heap.objs.size _ _ _ ⟨λb o e=>z5 _ e,rfl,rfl⟩ ?_ (y7 _) ((v6 (f:=λe:Int×Value=>e.2) (as:=es.toList)).symm ▸ v3m (t:=t) (ep:=ep) hh (v9 la) ht h1 hl hf)
    ⟨⟨_,z7 _ rfl,rfl,rfl⟩,⟨o,z5 _ ho,hd,hf⟩⟩ (u8O el p (List.Perm.refl _))
   intro b hb
   simp at hb
   rcases hb with rfl|rfl
   ·exact .inr (y7 _)
   ·exact .inl rfl
  ·have z:(!false&&(!t.plain&&decide (es.size > 1)))=true:=by rw [hp (by omega),decide_eq_true (by omega)];rfl
   simp only[show((model P w).w.params.followText "set-order")=false from ht]
   show wpAny _ _ (if (!false&&(!t.plain&&decide (es.size > 1)))=true then _ else _) _ _ _
   rw[z]
   simp only[if_true]
   refine wpAny_bind (u4B _ _ _ _ (by simp) λys d py=>?_)
   have hy:ys.length=es.size:=by rw[py.length_eq];simp
   have hs:es.size<=sizeLine:=fits_of_scanBound hb
   unfold newTuple
   refine wpAny_bind (wpAny_newObj_type (wpAny_bind ?_) (show(ys.map λ(j:Nat)=>rawInt j).toArray.size<=sizeLine by simpa[hy] using hs))
   unfold setEpoch
   refine wpAny_bind (wpAny_setState_of (o:=o) (z5 _ ho) hd hf (wpAny_pure (wpAny_bind (wpAny_newObj_type (wpAny_pure ⟨_,rfl,"set_iterator",_,⟨_,z7 _ rfl,rfl⟩,u0z.lookup,?_⟩)))))
   have zz:(s.heap.push { cls:=.type "tuple",data:=.seq (ys.map λ(j:Nat)=>rawInt j).toArray }).objs.size=s.heap.objs.size+1:=Heap.size_push ..
   have em:(ys.map λj=>(es.getD j default).2)=(ys.map λj=>es.getD j default).map (·.2):=by rw[z2J];rfl
   refine h _ _ _ (ys.map λj=>(es.getD j default).2) _ ⟨λb o e=>z5 _ (z5 _ e),rfl,rfl⟩ ?_ (by rw[zz];exact Nat.le_succ _)
    ((v6 (f:=λj=>(es.getD j default).2) (as:=ys)).symm ▸ v0C (t:=t) (ep:=ep) (tp:=s.heap.objs.size) hh (by rw[zz];exact v9 (Nat.lt_succ_of_lt la)) (by rw[zz];exact v9 (Nat.lt_succ_self _)) λj hj=>by simpa using py.mem_iff.mp hj)
    ⟨⟨_,z7 _ rfl,rfl,rfl⟩,⟨o,z5 _ (z5 _ ho),hd,hf⟩,_,_,z5 _ (z7 _ rfl),rfl⟩ (em ▸ u8O el p (v0T py))
   intro b hb
   simp[zz] at hb
   rcases hb with rfl|rfl|rfl
   ·exact .inr (Nat.le_succ _)
   ·exact .inl rfl
   ·exact .inr (y7 _)
end
end L2
namespace L2
open PySem PySem.Spec PyProof.Rows PySem.W PySem.Calls
section
variable {P:Program}{w:World}{A:Around}{E:VP}{s:Shared}
def v3u (hT:s.TypeIs (.ref r) "set") (h:Q false s):wpAny (model P w) A (Builtin.List.listLengthHint (.ref r)) Q E s:=by
 unfold Builtin.List.listLengthHint
 refine wpAny_bind (wpAny_specialOf hT PySem.F.slot_set_len.lookup ?_)
 generalize hid:("set.__len__":String)=id0
 wp_delta
 rw[show splitId id0=some ("set","__len__") from by subst hid;decide +kernel]
 subst hid
 refine wpAny_bind (wpAny_isInstance (T:="set") (b:=true) hT (by rw[isSubtype_type];kernel_rfl) ?_)
 refine wpAny_ite_split (λq=>absurd q (by decide)) (λ_=>wpAny_ite_split (λ_=>?_) (λq=>absurd (by decide +kernel) q))
 exact wpAny_bind (wpAny_typeOf hT (wpAny_pure h))
def v0J (T:SetT P w s.heap a ss) (hh:A.handled=none) (ne:S≠a) (hS:s.heap.get? S=some { cls:=.type "list",data:=.seq #[] c₀ }) (hz:ss.length<=sizeLine)
 (hR:∀s' acc c',(∀b o,b≠S->s.heap.get? b=some o->s'.heap.get? b=some o)->s'.os=s.os->s'.gens=s.gens->s'.heap.get? S=some { cls:=.type "list",dict:=none,data:=.seq acc c',slots:=#[] }->(∃ss',StrsAre acc.toList ss'/\ss'.Perm ss)->R (.ok (.ret res)) s') :
 wpAny (model P w) A.in1 (Builtin.List.listExtendWith (.ref S) (.ref a) res)
 (λfin s'=>match fin with | .done f=>R (.ok f) s' | .again c'=>c'.quiet=true/\codeAny (model P w) A c' R s') (λe s'=>R (.error e) s') s:=by
 obtain⟨o,es,ep,t,ho,hex,_⟩:=id T
 have hT:s.TypeIs (.ref a) "set":=⟨o,ho,hex.1⟩
 unfold Builtin.List.listExtendWith
 refine wpAny_bind (wpAny_typeOf (T:="set") hT ?_)
 have k1:Builtin.List.listSameRef (.ref S) (.ref a)=false:=by simp[Builtin.List.listSameRef,ne]
 simp only[k1,show(Value.type "set"==Value.type "list")=false by decide,show(Value.type "set"==Value.type "tuple")=false by decide,Bool.or_false,t7,if_false]
 refine wpAny_bind (v3s T hh λs₁ I fp vs St fw hfp hI W st sv=>?_)
 have hS₁:=fw.1 _ _ hS
 have lS:S<s.heap.objs.size:=y9 hS
 have nf:S∉fp:=λm=>by
  rcases hfp S m with e|e
  ·exact ne e
  ·exact z0G _ (w9 lS e)
 obtain⟨ss',hv,hp⟩:=sv
 have hn:vs.length<=sizeLine:=by
  have e1:(vs.map strOf).length=ss'.length:=by rw[hv.strs]
  have e2:=hp.length_eq
  simp at e1
  omega
 have key:∀(h:Heap) (c₁:Nat),St 0 h->(∀b o,b≠S->s.heap.get? b=some o->h.get? b=some o)->h.get? S=some { cls:=.type "list",data:=.seq #[] c₁ } ->
   codeAny (model P w) A (.builtin "list.extend.loop" ⟨[.ref S,.ref I,res],[]⟩) R { s₁ with heap:=h }:=λh c₁ st hk hS=>by
  refine codeAny_extend_loopS W.toS hn S nf res vs.length 0 _ #[] c₁ rfl (z1H _) st hS (ItemsOf.nil _) λs' acc c' hm hS' hacc=>?_
  refine hR s' acc c' (λb o hb e=>hm.heap b o (λm=>?_) (hk b o hb e)) (hm.os.trans fw.2.1) (hm.gens.trans fw.2.2) hS' ⟨ss',?_,hp⟩
  ·rcases z8.mp m with e' | m
   ·exact hb e'
   ·rw [y6] at m
    subst m
    exact z0G _ (w9 (y9 e) hI)
  ·have:acc.toList=vs:=List.ext_getElem? λj=>by
    by_cases lt:j<acc.toList.length
    ·rw [u5 lt]
     have:=hacc.2 j acc.toList[j] (by rw[<- z1F];exact u5 lt)
     exact this.symm
    ·rw[List.getElem?_eq_none (by omega),List.getElem?_eq_none (by have:=hacc.1;simp at lt;omega)]
   rw[this]
   exact hv
 refine wpAny_bind (wpAny_holding (v3u ⟨o,fw.1 _ _ ho,hex.1⟩ ?_))
 refine wpAny_ite_split (λ_=>?_) (λ_=>wpAny_pure ⟨plainId_quiet PySem.F.plain_extend_loop _,key _ c₀ st (λb o _ e=>fw.1 b o e) hS₁⟩)
 refine wpAny_bind (wpAny_rule (wpAny_bind (m:=updateSeq S (·.push .none) >>= λ_=>updateSeq S (·.pop)) ?_))
 refine wpAny_bind (wpAny_updateSeq hS₁ rfl ?_)
 have hS₂:=z1E (Obj.mapSeq (·.push Value.none)) hS₁ rfl
 refine wpAny_updateSeq (hz:=by seq_fits) hS₂ rfl ?_
 have hS₃:=z1E (Obj.mapSeq (·.pop)) hS₂ rfl
 have oth:∀b o,b≠S->s₁.heap.get? b=some o->((s₁.heap.update S (Obj.mapSeq (·.push Value.none))).update S (Obj.mapSeq (·.pop))).get? b=some o:=λb o hb e=>(q9 _ _ (Ne.symm hb)).trans ((q9 _ _ (Ne.symm hb)).trans e)
 exact wpAny_pure ⟨plainId_quiet PySem.F.plain_extend_loop _,key _ _ (W.frame 0 _ _ st λb hb o e=>oth b o (λq=>nf (q ▸ hb)) e) (λb o hb e=>oth b o hb (fw.1 b o e)) hS₃⟩
def u8S (T:SetT P w s.heap a ss) (hh:A.handled=none) (hz:ss.length<=sizeLine) (h:∀s' vs ss',Fwd s s'->StrsAre vs ss'->ss'.Perm ss->R vs s'):wpAny (model P w) A (collect (.ref a)) R E s:=by
 obtain⟨o,es,ep,t,ho,_⟩:=id T
 have la:a<s.heap.objs.size:=y9 ho
 unfold collect
 refine wpAny_bind (wpAny_runValue (codeAny_builtin entry_proto_collect' ?_))
 rw[Around.under_plainId PySem.F.plain_proto_collect _]
 refine wpAny_bind (m:=newList []) (wpAny_newObj_type (wpAny_pure ⟨plainId_quiet PySem.F.plain_list_iadd _,codeAny_builtin entry_list_iadd' ?_⟩))
 rw[Around.under_plainId PySem.F.plain_list_iadd _]
 have hS₁:(s.heap.push { cls:=.type "list",data:=.seq ([]:List Value).toArray }).get? s.heap.objs.size=some { cls:=.type "list",data:=.seq #[] }:=z7 _ rfl
 have key:=v0J (A:=A) (s:={ s with heap:=s.heap.push { cls:=.type "list",data:=.seq ([]:List Value).toArray } }) (res:=.ref s.heap.objs.size)
  (R:=λ(q:Result) (s':Shared)=>∃acc c' ss',q=.ok (.ret (.ref s.heap.objs.size))/\Fwd s s'/\s'.heap.get? s.heap.objs.size=some { cls:=.type "list",dict:=none,data:=.seq acc c',slots:=#[] }/\StrsAre acc.toList ss'/\ss'.Perm ss)
  (T.keep λo e=>z5 _ e) hh (Nat.ne_of_gt la) hS₁ hz
  (λs' acc c' hk h1 h2 hS' hv=>⟨acc,c',hv.choose,rfl,⟨λb o e=>hk b o (v9 (y9 e)) (z5 _ e),h1,h2⟩,hS',hv.choose_spec.1,hv.choose_spec.2⟩)
 refine wpAny_mono key (λfin s' x=>?_) λe s' x=>?_
 ·cases fin with
  | done f =>
   obtain⟨acc,c',ss',e,fw,hS',hv,hp⟩:=x
   cases e
   exact wpAny_bind (m:=load s.heap.objs.size) (wpAny_load hS' (wpAny_pure (h s' _ ss' fw hv hp)))
  | again c₁ =>
   refine⟨x.1,codeAny_mono x.2 λq s₂ y=>?_⟩
   obtain⟨acc,c',ss',rfl,fw,hS',hv,hp⟩:=y
   exact wpAny_bind (m:=load s.heap.objs.size) (wpAny_load hS' (wpAny_pure (h s₂ _ ss' fw hv hp)))
 ·obtain ⟨_,_,_,e',_⟩:=x
  cases e'
end
end L2
namespace L2
open PySem PySem.Spec PyProof.Rows PySem.W PySem.Calls
def leS (a b:Str):Prop:=ltCps b.cps.toList a.cps.toList=false
def u3B :leS a b↔a.cps.toList<=b.cps.toList:=by
 unfold leS
 rw[ltCps_eq,decide_eq_false_iff_not]
 exact List.not_lt
def u8e (h:leS a b) (k:leS b c):leS a c:=u3B.mpr (List.le_trans (u3B.mp h) (u3B.mp k))
def v3Q (h:leS a b) (k:leS b a):a=b:=by
 have e:=List.le_antisymm (u3B.mp h) (u3B.mp k)
 obtain⟨⟨l⟩⟩:=a
 obtain⟨⟨m⟩⟩:=b
 simp only at e
 rw[e]
def v2o (a b:Str):leS a b\/leS b a:=by
 rw[u3B,u3B]
 exact List.le_total _ _
theorem u6q:∀(l:List Str) (p:Str),risingS p l=true->(∀x∈l,leS p x)/\l.Pairwise leS
 | [],_,_=>⟨λx h=>(z1G h).elim,.nil⟩
 | y::l,p,h=>by
  unfold risingS at h
  rw[t9,Bool.not_eq_true'] at h
  obtain⟨h1,h2⟩:=u6q l y h.2
  exact⟨λx hx=>by
   rcases z8.mp hx with rfl|hx
   ·exact h.1
   ·exact u8e h.1 (h1 x hx),.cons h1 h2⟩
def v1M (h:sortedS l=true):l.Pairwise leS:=by
 cases l with
 | nil=>exact .nil
 | cons x l=>obtain⟨h1,h2⟩:=u6q l x h;exact .cons h1 h2
theorem u5e:∀{l m:List Str},l.Perm m->l.Pairwise leS->m.Pairwise leS->l=m
 | [],m,p,_,_=>(List.Perm.nil_eq p)
 | x::l,m,p,hl,hm=>by
  cases m with
  | nil=>exact absurd p.length_eq (by simp)
  | cons y m =>
   have e:x=y:=by
    have hx:x∈y::m:=p.mem_iff.mp z6
    have hy:y∈x::l:=p.mem_iff.mpr z6
    rcases z8.mp hx with e|hx
    ·exact e
    ·rcases z8.mp hy with e | hy
     ·exact e.symm
     ·exact v3Q ((List.pairwise_cons.mp hl).1 y hy) ((List.pairwise_cons.mp hm).1 x hx)
   subst e
   rw[u5e p.cons_inv (List.pairwise_cons.mp hl).2 (List.pairwise_cons.mp hm).2]
noncomputable def insT (x:Str):List Str->List Str
 | []=>[x]
 | y::l=>if ltCps y.cps.toList x.cps.toList=true then y::insT x l else x::y::l
noncomputable def sortT:List Str->List Str
 | []=>[]
 | x::l=>insT x (sortT l)
theorem u5G (x:Str):∀l:List Str,(insT x l).Perm (x::l)
 | []=>List.Perm.refl _
 | y::l=>by
  unfold insT
  split
  ·exact((u5G x l).cons y).trans (List.Perm.swap x y l)
  ·exact List.Perm.refl _
theorem u2X:∀l:List Str,(sortT l).Perm l
 | []=>List.Perm.refl _
 | x::l=>(u5G x _).trans ((u2X l).cons x)
set_option tactic.hygienic true in
theorem v2C (x:Str):∀{l:List Str},l.Pairwise leS->(insT x l).Pairwise leS
 | [],_=>List.pairwise_singleton ..
 | y::l,h=>by
  unfold insT
  obtain⟨h1,h2⟩:=List.pairwise_cons.mp h
  split
  ·rename_i q
   refine .cons (λz hz=>?_) (v2C x h2)
   rcases z8.mp ((u5G x l).mem_iff.mp hz) with rfl|hz
   ·rcases v2o y z with t | t
    ·exact t
    ·unfold leS at t;rw[q] at t;cases t
   ·exact h1 z hz
  ·rename_i q
   have q':leS x y:=by unfold leS;simpa using q
   exact .cons (λz hz=>by
    rcases z8.mp hz with rfl|hz
    ·exact q'
    ·exact u8e q' (h1 z hz)) h
theorem u9G:∀l:List Str,(sortT l).Pairwise leS
 | []=>.nil
 | x::l=>v2C x (u9G l)
def v3n (p:l.Perm ss) (h:sortedS l=true):l=sortT ss:=u5e (p.trans (u2X ss).symm) (v1M h) (u9G ss)
def u5f :x∈sortT ss↔x∈ss:=(u2X ss).mem_iff
def u1R (ss:List Str):(sortT ss).length=ss.length:=(u2X ss).length_eq
section
variable {P:Program}{w:World}{A:Around}{E:VP}{s:Shared}
def u7A (h64:ss.length<64)
 (hc:∀(B:Around) (E':VP) (R:List Value->Shared->Prop),B.handled=A.handled->(∀s' vs ss',Fwd s s'->StrsAre vs ss'->ss'.Perm ss->R vs s')->wpAny (model P w) B (collect (.ref a)) R E' s)
 (h:∀s' s'' D out n,Fwd s s'->Fwd s' s''->s'.heap.objs.size<=D->s''.heap.get? D=some (seqObj "list" out n)->StrsAre out.toList (sortT ss)->Q (.ref D) s''):wpAny (model P w) A (call (.builtin "sorted") [.ref a]) Q E s:=by
 refine Calls.call_function_entry kind_sorted plain_sorted entry_sorted (args_sorted1 _) ?_
 unfold Builtin.«sorted»
 refine wpAny_bind (m:=checkCount "sorted" 1 1 _) (wpAny_pure (wpAny_bind (hc _ _ _ rfl λs' vs ss' fw hv hp=>?_)))
 have hn:vs.length=ss.length:=by
  have:(vs.map strOf).length=ss'.length:=by rw[hv.strs]
  rw[<- hp.length_eq,<- this,v6]
 refine wpAny_bind (wpAny_newList ?_ (by rw[hn,sizeLine_eq];omega))
 have ho:(s'.heap.push (seqObj "list" vs.toArray 0)).get? s'.heap.objs.size=some (seqObj "list" vs.toArray 0):=z7 _ rfl
 have z:(s'.heap.push (seqObj "list" vs.toArray 0)).objs.size=s'.heap.objs.size+1:=Heap.size_push ..
 refine wpAny_bind (wpAny_holding (wpAny_call_entry slot_list_sort ⟨_,ho,rfl⟩ entry_list_sort (list_sort_treeK strKind_oneLt ho hv.keysOf (λv₁ v₂ rest e=>keyKind_strs (by rw[<- e];exact hv)) (by omega) λst' a1 a2=>⟨_,rfl,?_⟩) (args_list_sort _)))
 refine wpAny_pure ⟨_,rfl,?_⟩
 obtain⟨ss2,h1,h2,h3⟩:=sorted_out_str hv a1 a2
 obtain⟨n,hD⟩:=sortedHeap_at (out:=(arrOf st').map (·.2)) ho
 refine h s' _ s'.heap.objs.size _ n fw ⟨λb o e=>?_,rfl,rfl⟩ (y7 _) hD ?_
 ·have lt:=y9 e
  have k:=sortedHeap_old (h:=s'.heap.push (seqObj "list" vs.toArray 0)) (a:=s'.heap.objs.size) (b:=b) (vs:=vs) (out:=(arrOf st').map (·.2)) (v9 lt) (by rw[z];exact Nat.lt_succ_of_lt lt)
  rw[z5 _ e] at k
  exact k
 ·rw [<- v3n (h2.trans hp) h3]
  exact h1
end
end L2
namespace L2
open PySem PySem.Spec PyProof.Rows PySem.W PySem.Calls
noncomputable def STO (P:Program) (w:World) (a:Addr) (ss:List Str):HO:=.ext λh=>SetT P w h a ss
theorem u7y:∀{vs:List Value}{ss:List Str},StrsAre vs ss->Vals (ss.map V.str) vs
 | _,_,.nil=>.nil
 | _,_,.cons x t h=>.cons ⟨t,rfl⟩ (u7y h)
theorem u7v:∀{vs:List Value}{ss:List Str},Vals (ss.map V.str) vs->StrsAre vs ss
 | _,[],.nil=>.nil
 | _,_::_,.cons ⟨t,e⟩ h=>by subst e;exact .cons _ t (u7v h)
section
variable {X:Cx}{pins:LO}{σ:St}{H:Hp}{s:Shared}
def Inv.alike (I:Inv X pins σ H s) (e1:s'.heap=s.heap) (e2:s'.os=s.os) (e3:s'.gens=s.gens):Inv X pins σ H s' :=
 ⟨I.ok,e2.trans I.os,e3 ▸ I.bare,e1 ▸ I.base,e1 ▸ I.loc,e1 ▸ I.cell,I.free,I.freeC,e1 ▸ I.pin,e1 ▸ I.hok,I.len⟩
def Inv.fwd (I:Inv X pins σ H s) (f:Fwd s s'):Inv X pins σ H s':=(I.kept (h':=s'.heap) (t':=s'.toks) f.1).alike rfl f.2.1 f.2.2
def Inv.laidF (I:Inv X pins σ H s) (f:Fwd s s') (hp:s.heap.objs.size<=a) (new:ObjOk X.prog X.w (upd H a o) s'.heap a o):Inv X pins σ (upd H a o) s' :=
 (I.laid (h':=s'.heap) (t':=s'.toks) f.1 hp new).alike rfl f.2.1 f.2.2
def v3e (hc:X.calm=true):CallR X (.type "set") (λxs H Q=>∃l ss,xs=[.ref l]/\SqL X.K H l (ss.map V.str)/\ss.length+1<scanBound/\∀p,H p=none->Q (.ref p) (upd H p (STO X.prog X.w p (setOfT ss)))):=by
 intro pins s σ H xs us Q I r z9118
 obtain⟨l,ss,e,hq,hb,q⟩:=z9118
 subst e
 obtain⟨u,rfl,ru⟩:=vals1 r
 cases ru
 obtain⟨its,rv,hl,hz⟩:=I.list hq
 have hv:=u7v rv
 have hn:its.length=ss.length:=by have:=rv.length;simpa using this.symm
 refine v3w (ss:=ss) (items:=its.toArray) (I.ok.hd hc) hl.isList (by simpa using hv) (by simpa[hn] using hb) λs₂ ⟨h',tk,e,S,k⟩=>?_
 subst e
 have kk:∀b u,s.heap.get? b=some u->h'.get? b=some u:=λb u e=>k b u (y9 e) e
 obtain⟨o,es,ep,t,ho,rest⟩:=id S
 exact⟨.ref s.heap.objs.size,_,I.laid (a:=s.heap.objs.size) (o:=STO X.prog X.w s.heap.objs.size (setOfT ss)) kk (y7 _) ⟨S,⟨o,ho⟩,λh1 h2 x y=>x.keep y⟩,rfl,q _ (I.hok.fresh (y7 _))⟩
def u8b {s' s'':Shared}{D:Addr}{out:Array Value}{n:Nat}{ss:List Str}{Q:VK} (I:Inv X pins σ H s) (f1:Fwd s s') (f2:Fwd s' s'') (hD:s'.heap.objs.size<=D) (g:s''.heap.get? D=some (seqObj "list" out n)) (hv:StrsAre out.toList ss) (hz:ss.length<=sizeLine)
  (q:∀p,H p=none->Q (.ref p) (upd H p (.lst (ss.map V.str)))):EP X pins σ Q (.ref D) s'' :=
 ⟨.ref D,_,(I.fwd f1).laidF (o:=.lst (ss.map V.str)) f2 hD ⟨by simpa using hz,out.toList,n,u7y hv,by simpa using g⟩,rfl,q D ((I.fwd f1).hok.fresh hD)⟩
def u8x (hc:X.calm=true):CallR X (.builtin "sorted") (λxs H Q=>∃a ss,xs=[.ref a]/\H a=some (STO X.prog X.w a ss)/\ss.length<64/\∀p,H p=none->Q (.ref p) (upd H p (.lst ((sortT ss).map V.str)))):=by
 intro pins s σ H xs us Q I r z9119
 obtain⟨a,ss,e,ha,h64,q⟩:=z9119
 subst e
 obtain⟨u,rfl,ru⟩:=vals1 r
 cases ru
 have S:SetT X.prog X.w s.heap a ss:=(show ObjOk X.prog X.w H s.heap a (STO X.prog X.w a ss) from I.hok a _ ha).1
 have hz:ss.length<=sizeLine:=by rw[sizeLine_eq];omega
 refine u7A h64 (λB E' R hB k=>u8S S (hB.trans (I.ok.hd hc)) hz k) λs' s'' D out n f1 f2 hD g hv=>u8b I f1 f2 hD g hv (by rw[u1R];exact hz) q
def v1x (hc:X.calm=true):CallR X (.builtin "sorted") (λxs H Q=>∃a kvs ss,xs=[.ref a]/\H a=some (.dK kvs)/\kvs.map (·.1)=ss.map Sum.inr/\ss.length<64/\∀p,H p=none->Q (.ref p) (upd H p (.lst ((sortT ss).map V.str)))):=by
 intro pins s σ H xs us Q I r z9120
 obtain⟨a,kvs,ss,e,ha,hk,h64,q⟩:=z9120
 subst e
 obtain⟨u,rfl,ru⟩:=vals1 r
 cases ru
 obtain⟨_,hS,vs,rk,m⟩:kvs.length<=sizeLine/\(a==sysModules)=false/\∃vs,KV kvs vs/\s.heap.DictOf (mixKind X.prog X.w) a vs:=I.hok a _ ha
 obtain⟨ep,m⟩:=m.dictAt
 have hz:ss.length<=sizeLine:=by rw[sizeLine_eq];omega
 have ek:vs.map (·.1)=ss.map Sum.inr:=rk.keys.symm.trans hk
 have hn:vs.length=ss.length:=by have:=congrArg List.length ek;simpa using this
 refine u7A h64 (λB E' R hB k=>kdu_collect (kdl_dict (kvs:=vs) hS) (hB.trans (I.ok.hd hc)) m (hn ▸ hz) λh' tk acc hkeep hacc=>k _ _ ss ⟨hkeep,rfl,rfl⟩ ?_ (List.Perm.refl _)) λs' s'' D out n f1 f2 hD g hv=>u8b I f1 f2 hD g hv (by rw[u1R];exact hz) q
 have hl:acc.toList.length=ss.length:=by rw[r9,hacc.1,hn]
 have key:∀(j:Nat) (v:Value),acc.toList[j]?=some v->∃x t,ss[j]?=some x/\v=.str x t:=λj v e=>by
  obtain⟨k,y,e1,e2⟩:=hacc.2 j v (by rw[<- z1F];exact e)
  have e3:(vs.map (·.1))[j]?=some k:=by rw[v7,e1];rfl
  rw[ek,v7] at e3
  cases e4:ss[j]? with
  | none=>rw[e4] at e3;cases e3
  | some x =>
   rw[e4] at e3
   cases e3
   rcases u0P ((v1j X.prog X.w _ _).symm.trans e2) with⟨_,_,e5,_⟩|⟨z,t,e5,e6⟩
   ·cases e5
   ·cases e5;exact⟨_,t,rfl,e6⟩
 have go:∀(vs:List Value) (ss:List Str),vs.length=ss.length->(∀(j:Nat) (v:Value),vs[j]?=some v->∃x t,ss[j]?=some x/\v=.str x t)->StrsAre vs ss:=by
  intro vs
  induction vs with
  | nil=>intro ss e _;cases ss with|nil=>exact .nil|cons _ _=>cases e
  | cons v vs ih =>
   intro ss e h
   cases ss with
   | nil=>cases e
   | cons x ss =>
    obtain⟨z,t,e1,e2⟩:=h 0 v rfl
    cases e1
    subst e2
    exact .cons _ t (ih ss (by simpa using e) λj v q=>h (j+1) v (by simpa using q))
 exact go _ _ hl key
end
noncomputable def strsOf:List D->Option (List Str)
 | []=>some []
 | .str z::ds=>(strsOf ds).map (z::·)
 | _=>none
theorem u2J {K:W.Frag}{F:Hp}:∀{xs:List V}{ds:List D}{ss:List Str},Rps K F xs ds->strsOf ds=some ss->xs=ss.map V.str/\∀z∈ss,z.length<=sizeLine
 | _,_,_,.nil,e=>by cases e;exact⟨rfl,λ_ h=>(z1G h).elim⟩
 | _,d::ds,ss,.cons h hs,e=>by
  cases h with
  | str hz =>
   unfold strsOf at e
   cases q:strsOf ds with
   | none=>rw[q] at e;cases e
   | some ts =>
    rw[q] at e
    cases e
    obtain⟨e1,e2⟩:=u2J hs q
    rw[e1]
    exact⟨rfl,λz hz'=>by
     rcases z8.mp hz' with rfl|h
     ·exact hz
     ·exact e2 z h⟩
  | _=>cases e
theorem u3L {K:W.Frag}{F:Hp}:∀{ss:List Str},(∀z∈ss,z.length<=sizeLine)->Rps K F (ss.map V.str) (ss.map D.str)
 | [],_=>.nil
 | z::ss,h=>.cons (.str (h z z6)) (u3L λy hy=>h y (z0 _ hy))
noncomputable def gSS:D->Res D
 | .lst ds=>match strsOf ds with
  | some ss=>gd (ss.length<64) (.ok (.lst ((sortT (setOfT ss)).map D.str)))
  | none=>.bad
 | _=>.bad
noncomputable def keyStrs:List (D×D)->Option (List Str)
 | []=>some []
 | (.str z,_)::ps=>(keyStrs ps).map (z::·)
 | _=>none
noncomputable def gSD:List D->Res D
 | [.dct ps]=>match keyStrs ps with
  | some ss=>gd (ss.length<64/\∀z∈ss,z.length<=sizeLine) (.ok (.lst ((sortT ss).map D.str)))
  | none=>.bad
 | _=>.bad
theorem u6u {K:W.Frag}{F:Hp}:∀{kvs:List (Key×V)}{ps:List (D×D)}{ss:List Str},Rpk K F kvs ps->keyStrs ps=some ss->kvs.map (·.1)=ss.map Sum.inr
 | _,_,_,.nil,e=>by cases e;rfl
 | _,_,ss,.cons (k:=k) (ds:=ds) h hs,e=>by
  cases k with
  | inl i=>cases e
  | inr z =>
   unfold keyStrs kD at e
   cases q:keyStrs ds with
   | none=>simp only[q] at e;cases e
   | some ts =>
    simp only[q] at e
    cases e
    rw[w5,u6u hs q]
    rfl
section
variable {X:Cx}{xq:XQ}{e:Expr}{fs:Rho->Res (List D)}{p p2 pos pos2:Pos}
noncomputable def one1 {α:Type} (g:D->Res α):List D->Res α
 | [d]=>g d
 | _=>.bad
set_option tactic.hygienic true in
def v4I (hc:X.calm=true) (hm:X.mg "sorted"=none) (hm2:X.mg "set"=none) (ha:DA X xq [e] fs) (hg:Gl X "sorted":=by rfl) (hg2:Gl X "set":=by rfl) :
 DE X xq (.Call (.Name "sorted" p) [.Call (.Name "set" p2) [e] [] pos2] [] pos) (λρ=>(fs ρ).bind λds=>noE (one1 gSS ds)) :=
 DE.of (pcB (u8x hc) hg hm (by decide +kernel) (pac (pcT (v3e hc) hg2 hm2 (by decide +kernel) ha.out (by decide) (by decide) ha.ns) u4z) (by decide) (by decide) rfl) λB F ρ σ H Q R q=>seqA R q λds vs F1 H1 s1 R1 p1 q1=>by
  unfold one1 at q1
  split at q1
  ·rename_i d
   obtain⟨v,rfl,pv⟩:=rps1 p1
   unfold gSS at q1
   split at q1
   ·rename_i dl
    split at q1
    ·rename_i ss hs
     have q2:(gd (ss.length<64) (Res.ok (D.lst ((sortT (setOfT ss)).map D.str)))).all _ (λ_=>True):=u6Z q1
     obtain⟨h64,q3⟩:=u3k q2
     cases pv with
     | lst hq hr =>
      obtain⟨e1,e2⟩:=u2J hr hs
      subst e1
      have hl:(setOfT ss).length<=ss.length:=by have:=u5J ss [];simpa[setOfT] using this
      have em:∀z∈sortT (setOfT ss),z.length<=sizeLine:=λz hz=>e2 z (u6n.mp (u5f.mp hz))
      refine⟨_,ss,rfl,.inl (hq.same R1.fh),by unfold scanBound;omega,λa na=>?_⟩
      refine⟨a,setOfT ss,rfl,u0j,by omega,λb nb=>?_⟩
      have f1:=Stp.new (o:=STO X.prog X.w a (setOfT ss)) R1.fh na
      have f2:=Stp.new (o:=.lst ((sortT (setOfT ss)).map V.str)) f1.fh nb
      exact q3 _ _ _ ((s1.trans f1).trans f2) (.lst (.inl u0j) (u3L em))
    ·exact q1.elim
   ·exact q1.elim
  ·exact q1.elim
set_option tactic.hygienic true in
def c_sortD (hc:X.calm=true):CallR X (.builtin "sorted") (rDs X.K gSD):=by
 intro pins s σ H xs us Q I r z9121
 obtain⟨F,ds,fh,ps,q⟩:=z9121
 unfold gSD at q
 split at q
 ·rename_i kd
  obtain⟨v,rfl,pv⟩:=rps1 ps
  cases hk:keyStrs kd with
  | none=>simp only[hk] at q;exact q.elim
  | some ss =>
   simp only[hk] at q
   obtain⟨⟨h64,hz⟩,q⟩:=u3k q
   cases pv with
   | dK ha hr=>exact v1x hc pins s σ H _ us Q I r ⟨_,_,ss,rfl,fh _ _ ha,u6u hr hk,h64,λb nb=>q _ _ _ (Stp.new fh nb) (.lst (.inl u0j) (u3L λz h=>hz z (u5f.mp h)))⟩
 ·exact q.elim
end
mutual
noncomputable def selfD:D->Bool
 | .non | .bl _ | .int _ | .str _=>true
 | .lst ds | .tup ds=>selfDs ds
 | .dct ps=>ps.isEmpty
 | _=>false
noncomputable def selfDs:List D->Bool
 | []=>true
 | d::ds=>selfD d&&selfDs ds
end
mutual
noncomputable def depD:D->Nat
 | .lst ds | .tup ds=>depDs ds+1
 | .dct _=>1
 | _=>0
noncomputable def depDs:List D->Nat
 | []=>0
 | d::ds=>max (depD d) (depDs ds)
end
section
variable {X:Cx}{pins:LO}{σ:St}{H F:Hp}{s:Shared}
def v0n {A:Around}{us vs:List Value}{l b:Addr} (n:us.length=vs.length) (he:∀j (h1:j<us.length) (h2:j<vs.length),SeqAt.EqAt A s us[j] vs[j] true) :
  ∀j (h1:j<us.toArray.size) (h2:j<vs.toArray.size),SeqAt.EqAt A s us.toArray[j] vs.toArray[j] ((λ_=>true) j):=λj h1 h2=>by
 have:=he j (by simpa using h1) (by simpa using h2)
 simpa using this
def v0A (n:Nat):(List.range n).all (λ_=>true)=true:=by simp
def v1V (h:SeqAt.RcAt A s (.ref a) (.ref b) true):SeqAt.EqAt A s (.ref a) (.ref b) true:=by
 by_cases q:a=b
 ·subst q;exact SeqAt.EqAt.same _
 ·exact SeqAt.EqAt.of_refs q h
def u6B {P P':Program}{w w':World}{h:Heap}{a:Addr} (m:h.DictOf (mixKind P w) a []):h.DictOf (mixKind P' w') a []:=by
 obtain⟨o,es,ep,ho,hex,hd,hk,hp,hn⟩:=m
 have e:es=#[]:=by
  obtain⟨l⟩:=es
  cases l with
  | nil=>rfl
  | cons x l=>cases hp
 subst e
 exact⟨o,#[],ep,ho,hex,hd,λe he=>by simp at he,.nil,hn⟩
mutual
theorem Rp.eqS (I:Inv X pins σ H s) (fh:Same F H):∀{x:V}{d:D},Rp X.K F x d->∀{A:Around}{y:V}{u v:Value},Rp X.K F y d->RelV x u->RelV y v->selfD d=true->A.units+depD d<cLine->SeqAt.RcAt A s u v true/\SeqAt.EqAt A s u v true
 | _,_,.non,A,y,u,v,py,ru,rv,_,_=>by
  cases py;cases ru;cases rv
  exact⟨SeqAt.RcAt.none_none,SeqAt.EqAt.same _⟩
 | _,_,.bl b,A,y,u,v,py,ru,rv,_,_=>by
  cases py;cases ru;cases rv
  have:=SeqAt.RcAt.bool_bool (A:=A) (s:=s) b b
  rw[beq_self_eq_true] at this
  exact⟨this,SeqAt.EqAt.same _⟩
 | _,_,.int i,A,y,u,v,py,ru,rv,_,_=>by
  cases py
  obtain⟨t,rfl⟩:=ru
  obtain⟨t',rfl⟩:=rv
  have h1:=SeqAt.RcAt.int_int (A:=A) (s:=s) i t i t'
  have h2:=SeqAt.EqAt.int_int (A:=A) (s:=s) i t i t'
  rw[beq_self_eq_true] at h1 h2
  exact⟨h1,h2⟩
 | _,_,.str (z:=z) _,A,y,u,v,py,ru,rv,_,_=>by
  cases py
  obtain⟨t,rfl⟩:=ru
  obtain⟨t',rfl⟩:=rv
  have h1:=SeqAt.RcAt.str_str (A:=A) (s:=s) z t z t'
  have h2:=SeqAt.EqAt.str_str (A:=A) (s:=s) z t z t'
  rw[beq_self_eq_true] at h1 h2
  exact⟨h1,h2⟩
 | _,_,.ty _,A,y,u,v,py,ru,rv,h,_=>by simp[selfD] at h
 | _,_,.lst (ds:=ds) hq hs,A,y,u,v,py,ru,rv,h,hu=>by
  cases py with
  | lst hq' hs' =>
   cases ru
   cases rv
   obtain⟨its,r1,l1,_⟩:=I.list (.inl (hq.same fh))
   obtain⟨its',r2,l2,_⟩:=I.list (.inl (hq'.same fh))
   have n:its.length=its'.length:=by rw[<- r1.length,<- r2.length,hs.length,hs'.length]
   have hu1:A.units+(depDs ds+1)<cLine:=hu
   have q:=SeqAt.RcAt.lists l1.isList l2.isList (by simpa using n) (by omega) (v0n (l:=0) (b:=0) n (Rps.eqS I fh hs (A:=A.in1) hs' r1 r2 (by simpa[selfD] using h) (by show A.units+1+depDs ds<cLine;omega)))
   rw[v0A] at q
   exact⟨q,v1V q⟩
 | _,_,.tup (ds:=ds) hq hs,A,y,u,v,py,ru,rv,h,hu=>by
  cases py with
  | tup hq' hs' =>
   cases ru
   cases rv
   obtain⟨its,r1,l1,_⟩:=I.tuple (fh.seqT hq)
   obtain⟨its',r2,l2,_⟩:=I.tuple (fh.seqT hq')
   obtain⟨o1,g1,c1,m1,d1⟩:=l1
   obtain⟨o2,g2,c2,m2,d2⟩:=l2
   have n:its.length=its'.length:=by rw[<- r1.length,<- r2.length,hs.length,hs'.length]
   have hu1:A.units+(depDs ds+1)<cLine:=hu
   have q:=SeqAt.RcAt.tuples (A:=A) (s:=s) (l:=_) (b:=_) ⟨o1,g1,c1,m1,d1⟩ ⟨o2,g2,c2,m2,d2⟩ (by omega) (v0n (l:=0) (b:=0) n (Rps.eqS I fh hs (A:=A.in1) hs' r1 r2 (by simpa[selfD] using h) (by show A.units+1+depDs ds<cLine;omega)))
   rw[v0A,show(its.toArray.size==its'.toArray.size)=true by simp[n]] at q
   exact⟨q,v1V q⟩
 | _,_,  .dK (a:=a) (ps:=ps) ha hr,A,y,u,v,py,ru,rv,h,hu=>by
  cases py with
  | @dK b _ _ hb hr' =>
   cases ru
   cases rv
   have e:ps=[]:=by simpa[selfD] using h
   subst e
   cases hr
   cases hr'
   have hu1:A.units+1<cLine:=hu
   obtain⟨_,k1,vs,r1,m1⟩:_/\_/\∃vs,KV ([]:List (Key×V)) vs/\_:=I.hok _ _ (fh _ _ ha)
   obtain⟨_,k2,vs',r2,m2⟩:_/\_/\∃vs,KV ([]:List (Key×V)) vs/\_:=I.hok _ _ (fh _ _ hb)
   cases r1
   cases r2
   have q:SeqAt.RcAt A s (.ref a) (.ref b) true:=λprog w E Q hQ=>W.keq_eq (knd:=mixKind prog w) k1 k2 (u6B m1) (u6B m2) (by omega) (λ_=>.nil) hQ
   exact⟨q,v1V q⟩
 | _,_,.ins _ _,A,y,u,v,py,ru,rv,h,_=>by simp[selfD] at h
 | _,_,.exc _ _ _,A,y,u,v,py,ru,rv,h,_=>by simp[selfD] at h
 | _,_,.dn _ _,A,y,u,v,py,ru,rv,h,_=>by simp[selfD] at h
theorem Rps.eqS (I:Inv X pins σ H s) (fh:Same F H):∀{xs:List V}{ds:List D},Rps X.K F xs ds->∀{A:Around}{ys:List V}{us vs:List Value},Rps X.K F ys ds->Vals xs us->Vals ys vs->selfDs ds=true->A.units+depDs ds<cLine ->
  ∀j (h1:j<us.length) (h2:j<vs.length),SeqAt.EqAt A s us[j] vs[j] true
 | _,_,.nil,A,ys,us,vs,py,ru,rv,_,_,j,h1,h2=>by cases ru;cases h1
 | _,_,.cons (d:=d) (ds:=ds) p ps,A,ys,us,vs,py,ru,rv,h,hu,j,h1,h2=>by
  cases py with
  | cons p' ps' =>
   cases ru with
   | cons ru rus =>
    cases rv with
    | cons rv rvs =>
     have h':selfD d=true/\selfDs ds=true:=by simpa[selfDs] using h
     have hu':A.units+max (depD d) (depDs ds)<cLine:=hu
     cases j with
     | zero=>exact(Rp.eqS I fh p p' ru rv h'.1 (by omega)).2
     | succ j=>exact Rps.eqS I fh ps ps' rus rvs h'.2 (by omega) j (by simpa using h1) (by simpa using h2)
end
noncomputable def lenNe:D->D->Bool
 | .lst (_::_),.lst []=>true
 | .lst [],.lst (_::_)=>true
 | _,_=>false
def u8d (h:lenNe x y=true):∃ds es,x=.lst ds/\y=.lst es/\ds.length≠es.length:=by
 unfold lenNe at h
 split at h
 ·exact⟨_,_,rfl,rfl,by simp⟩
 ·exact⟨_,_,rfl,rfl,by simp⟩
 ·cases h
open Classical in
noncomputable def dEqX (x y:D):Res D:=if lenNe x y=true then .ok (.bl false) else if x=y/\selfD x=true/\depD x<=60 then .ok (.bl true) else dEq x y
noncomputable def dNeX (x y:D):Res D:=if lenNe x y=true then .ok (.bl true) else dNe x y
set_option tactic.hygienic true in
def u9p (hu:X.A.units+64<cLine):OpR X (compareOp .Eq) (rD X.K dEqX):=by
 intro pins s σ H x y v u Q I rx ry z9122
 obtain⟨F,dx,dy,fh,px,py,q⟩:=z9122
 unfold dEqX at q
 split at q
 ·rename_i hl
  obtain⟨ds,es,rfl,rfl,ne⟩:=u8d hl
  cases px with
  | lst hq hs =>
   cases py with
   | lst hq' hs' =>
    cases rx
    cases ry
    obtain⟨its,r1,l1,_⟩:=I.list (.inl (hq.same fh))
    obtain⟨its',r2,l2,_⟩:=I.list (.inl (hq'.same fh))
    have n:its.length≠its'.length:=by rw[<- r1.length,<- r2.length,hs.length,hs'.length];exact ne
    exact SeqAt.RcAt.lists_lengths l1.isList l2.isList (by simpa using n) (by omega) _ _ _ _ ⟨.bl false,H,I,rfl,q _ F H (Stp.refl fh) (.bl _)⟩
 ·split at q
  ·rename_i h
   obtain⟨rfl,h1,h2⟩:=h
   exact(Rp.eqS I fh px (A:=X.A) py rx ry h1 (by omega)).1 _ _ _ _ ⟨.bl true,H,I,rfl,q _ F H (Stp.refl fh) (.bl _)⟩
  ·exact o_eq hu pins s σ H x y v u Q I rx ry ⟨F,dx,dy,fh,px,py,q⟩
set_option tactic.hygienic true in
def o_neX (hu:X.A.units+64<cLine):OpR X (compareOp .NotEq) (rD X.K dNeX):=by
 intro pins s σ H x y v u Q I rx ry z9123
 obtain⟨F,dx,dy,fh,px,py,q⟩:=z9123
 unfold dNeX at q
 split at q
 ·rename_i hl
  obtain⟨ds,es,rfl,rfl,ne⟩:=u8d hl
  cases px with
  | lst hq hs =>
   cases py with
   | lst hq' hs' =>
    cases rx
    cases ry
    obtain⟨its,r1,l1,_⟩:=I.list (.inl (hq.same fh))
    obtain⟨its',r2,l2,_⟩:=I.list (.inl (hq'.same fh))
    have n:its.length≠its'.length:=by rw[<- r1.length,<- r2.length,hs.length,hs'.length];exact ne
    exact SeqAt.RcNeAt.lists_lengths l1.isList l2.isList (by simpa using n) (by omega) _ _ _ _ ⟨.bl true,H,I,rfl,q _ F H (Stp.refl fh) (.bl _)⟩
 ·exact o_ne hu pins s σ H x y v u Q I rx ry ⟨F,dx,dy,fh,px,py,q⟩
end
def u4O:fillsNumberSlot (.type "tuple") "mul"=pure false:=PySem.fillsNumberSlot_seq (id:="tuple.__mul__") (r:=some (.builtin "tuple.__rmul__")) F.slot_tuple_mul.lookup (by decide +kernel) F.slot_tuple_rmul.lookup (by decide +kernel)
def u7I:seqRepeat? (.type "tuple")=pure (some (.builtin "tuple.__mul__")):=by
 unfold seqRepeat?
 rw[PySem.seqSlot_of (T:="tuple") (name:="__mul__") (id:="tuple.__mul__") F.slot_tuple_mul.lookup (by decide +kernel),PySem.seqSlot_of (T:="tuple") (name:="__rmul__") (id:="tuple.__rmul__") F.slot_tuple_rmul.lookup (by decide +kernel)]
 rfl
section
variable {P:Program}{w:World}{A:Around}{E:VP}{s:Shared}{X:Cx}
def v0S {k:Int}{t:Tok}{l:Addr}{o:Obj}{items:Array Value}{n:Nat}{Q:VP} (ho:s.heap.get? l=some o) (hc:o.cls=.type "tuple") (hd:o.data=.seq items n) (h:Q .notImplemented s) :
  wpAny (model P w) A (call (.builtin "int.__rmul__") [.int k t,.ref l]) Q E s:=by
 refine wpAny_call_entry F.slot_int_rmul (typeIs_int s k t) F.entry_int_rmul ?_ (F.args_int_rmul_2 _ _)
 obtain⟨hp,g,d,tk,os⟩:=s
 obtain⟨oc,od,odt,osl⟩:=o
 simp only at hc hd
 subst hc
 subst hd
 wp_walk
 exact⟨_,rfl,h⟩
def v2k {k:Int}{t:Tok}{l:Addr}{o:Obj}{items:Array Value}{n:Nat}{Q:VP} (ho:s.heap.get? l=some o) (hc:o.cls=.type "tuple") (hd:o.data=.seq items n) (hk:2<=k) (hk2:k<=1000) (hi:items.isEmpty=false) (hz:items.size*k.toNat<=sizeLine)
  (h:Q (.ref s.heap.objs.size) { s with heap:=s.heap.push { cls:=.type "tuple",data:=.seq ((List.replicate k.toNat items).foldl (λx1 x2=>x1++x2) #[]) } }):wpAny (model P w) A (call (.builtin "tuple.__mul__") [.ref l,.int k t]) Q E s:=by
 refine wpAny_call_entry F.slot_tuple_mul ⟨o,ho,hc⟩ F.entry_tuple_mul ?_ (F.args_tuple_mul_2 _ _)
 obtain⟨hp,g,d,tk,os⟩:=s
 obtain⟨oc,od,odt,osl⟩:=o
 simp only at hc hd
 subst hc
 subst hd
 unfold Builtin.«tuple.__mul__»
 wp_walk
 have z1:(k.toNat:Int)=k:=Int.toNat_of_nonneg (by omega)
 have z2:((items.size:Nat):Int)*k<=sizeLine:=by
  rw[<- z1]
  exact_mod_cast hz
 have z3:(sizeLine:Int)=16777216:=by rw[sizeLine_eq];rfl
 rw[if_neg (by rw[decide_eq_false (by omega),decide_eq_false (by omega)];decide)]
 dsimp only
 refine wpAny_bind ?_
 unfold Builtin.Tuple.tupleItemsOf
 refine wpAny_bind (wpAny_seqItems ho rfl (wpAny_pure ?_))
 rw[if_neg (by rw[hi,show(k==1)=false from beq_eq_false_iff_ne.mpr (by omega)];decide),if_neg (by rw[hi,decide_eq_false (by omega)];decide),if_neg (by rw[z3] at z2;omega),if_neg (by unfold Builtin.Tuple.tupleTooMany;rw[decide_eq_true_eq];omega)]
 have sz:((List.replicate k.toNat items).foldl (λx1 x2=>x1++x2) #[]).size<=sizeLine:=by
  have g:∀(n:Nat) (a:Array Value),((List.replicate n items).foldl (λx1 x2=>x1++x2) a).size=a.size+n*items.size:=by
   intro n
   induction n with
   | zero=>simp
   | succ n ih =>
    intro a
    rw[List.replicate_succ,z1J,ih,Array.size_append,Nat.succ_mul]
    omega
  rw[g,Nat.mul_comm]
  simpa using hz
 unfold Builtin.Tuple.tupleExact
 exact wpAny_bind (wpAny_newObj_type (wpAny_pure ⟨_,rfl,h⟩) sz)
def rRepT (K:W.Frag):R2:=λx y H Q=>∃l k xs,x=.ref l/\y=.int k/\SqT K H l xs/\2<=k/\k<=1000/\xs≠[]/\xs.length*k.toNat<=sizeLine/\∀p,H p=none->Q (.ref p) (upd H p (.tup (List.replicate k.toNat xs).flatten))
def op_repT:OpR X (binaryOp .Mult) (rRepT X.K):=by
 intro pins s σ H x y v u Q I rx ry h
 obtain⟨l,k,xs,rfl,rfl,hq,h1,h2,hn,hz,q⟩:=h
 cases rx
 obtain⟨t,rfl⟩:=ry
 obtain⟨its,r,hT,_⟩:=I.tuple hq
 obtain⟨o,ho,hc,n,hd⟩:=hT
 have hl:=r.length
 have hlen:its.toArray.size*k.toNat<=sizeLine:=by rw[x8,<- hl];exact hz
 have hne:its.toArray.isEmpty=false:=by
  cases its with
  | nil=>cases xs with|nil=>exact absurd rfl hn|cons _ _=>cases hl
  | cons a b=>rfl
 have hnew:List.foldl (λx1 x2=>x1++x2) #[] (List.replicate k.toNat its.toArray)=(List.replicate k.toNat its).flatten.toArray:=by
  have:=u5I its k.toNat []
  rwa [List.nil_append] at this
 refine wpAny_binaryOp_repeat_ref (T:="tuple") (U:="int") (by decide) ⟨o,ho,hc⟩ (λs'=>typeIs_int s' k t) u4O F.fills_int_mul F.slot_int_rmul u7I F.slot_int_index.lookup
  (v0S ho hc hd ⟨rfl,⟨o,ho,hc⟩,v2k ho hc hd h1 h2 hne hlen ?_⟩)
 rw[hnew]
 exact⟨.ref _,_,I.laid (a:=s.heap.objs.size) (o:=.tup (List.replicate k.toNat xs).flatten) (t':=s.toks) (λ_ _ e=>z5 _ e) (y7 _) ⟨by rw[v2n,Nat.mul_comm];exact hz,_,r.rep k.toNat,_,z7 _ rfl,rfl,_,rfl⟩,rfl,q _ (I.hok.fresh (y7 _))⟩
def rRepR:R2:=λx y H Q=>∃l k xs,x=.ref l/\y=.int k/\Rd H l (.lst xs)/\-(2^63)<=k/\k<2^63/\xs.length*k.toNat<=sizeLine /\
 ∀p,H p=none->Q (.ref p) (upd H p (.lst (List.replicate k.toNat xs).flatten))
def op_repR:OpR X (binaryOp .Mult) rRepR:=by
 intro pins s σ H x y v u Q I rx ry h
 obtain⟨l,k,xs,rfl,rfl,hH,h1,h2,hz,q⟩:=h
 cases rx
 obtain⟨t,rfl⟩:=ry
 obtain⟨z,its,n,r,hl,e⟩:=I.lstR hH
 have hlen:its.toArray.size*k.toNat<=sizeLine:=by rw[x8,<- hl];exact hz
 have hcap:¬ its.toArray.size*k.toNat > (2^63 - 1) / 8:=by
  have:(sizeLine:Nat)<=(2^63 - 1) / 8:=by decide
  omega
 have hfit:¬ (!Builtin.List.listFitsIndex k)=true:=by
  rw[fitsIndex_both h1 h2]
  exact t8
 have hlong:¬ Builtin.List.listTooLong (its.toArray.size*k.toNat)=true:=by
  rw[notLongL hlen]
  exact t8
 have hnew:List.foldl (λx1 x2=>x1++x2) #[] (List.replicate (if its.toArray.isEmpty=true then 0 else k.toNat) its.toArray)=(List.replicate k.toNat its).flatten.toArray:=by
  have f0:∀m:Nat,List.foldl (λx1 x2=>x1++x2) #[] (List.replicate m its.toArray)=(List.replicate m its).flatten.toArray:=λm=>by
   have:=u5I its m []
   rw[List.nil_append] at this
   exact this
  rw[f0]
  cases its with
  | nil=>simp
  | cons a r'=>rw[if_neg (by simp)]
 refine wpAny_binaryOp_repeat_ref (T:="list") (U:="int") (by decide) ⟨_,e,rfl⟩ (λs'=>typeIs_int s' k t) noFill_list_mul F.fills_int_mul F.slot_int_rmul repeat_list F.slot_int_index.lookup
  (call_meets F.slot_int_rmul (typeIs_int s k t) F.entry_int_rmul (F.args_int_rmul_2 _ _) (int___rmul___int_list k t l its.toArray n)
   ⟨e,rfl,⟨_,e,rfl⟩,call_meets F.slot_list_mul ⟨_,e,rfl⟩ F.entry_list_mul (F.args_list_mul_2 _ _) (AutoListH.list___mul___list_int_3 l its.toArray n k t hfit hcap hlong) ⟨e,?_⟩⟩)
 rw[hnew]
 exact⟨.ref _,_,I.lnew (t':=s.toks) (r.rep k.toNat) (by rw[v2n,Nat.mul_comm];exact hz),rfl,q _ I.fresh⟩
noncomputable def dMulX:D->D->Res D
 | .int i,.int j=>dMul (.int i) (.int j)
 | .lst ds,.int k=>gd (-(2^63)<=k/\k<2^63/\ds.length*k.toNat<=sizeLine) (.ok (.lst (List.replicate k.toNat ds).flatten))
 | .tup ds,.int k=>gd (2<=k/\k<=1000/\ds.isEmpty=false/\ds.length*k.toNat<=sizeLine) (.ok (.tup (List.replicate k.toNat ds).flatten))
 | _,_=>.bad
def u0Z:OpR X (binaryOp .Mult) (rD X.K dMulX):=by
 intro pins s σ H x y v u Q I rx ry z9124
 obtain⟨F,dx,dy,fh,px,py,q⟩:=z9124
 unfold dMulX at q
 split at q
 ·exact o_mul pins s σ H x y v u Q I rx ry ⟨F,_,_,fh,px,py,q⟩
 ·obtain ⟨⟨h1,h2,h3⟩,q⟩:=u3k q
  cases py
  cases px with
  | lst hq hs=>exact op_repR pins s σ H _ _ v u Q I rx ry ⟨_,_,_,rfl,rfl,hq.same fh,h1,h2,by rw[hs.length];exact h3,λp n=>q _ _ _ (Stp.new fh n) (.lst (.inl u0j) ((hs.rep _).same (Stp.new fh n).ff))⟩
 ·obtain ⟨⟨h1,h2,h3,h4⟩,q⟩:=u3k q
  cases py
  cases px with
  | tup hq hs=>exact op_repT pins s σ H _ _ v u Q I rx ry ⟨_,_,_,rfl,rfl,fh.seqT hq,h1,h2,(λe=>by subst e;cases hs;cases h3),by rw[hs.length];exact h4,λp n=>q _ _ _ (Stp.new fh n) (.tup (.inl (.inl u0j)) ((hs.rep _).same (Stp.new fh n).ff))⟩
 ·exact q.elim
end
section
variable {P:Program}{w:World}{A:Around}{E:VP}
theorem v0p {it l:Addr}{items:Array Value} (ne:l≠it):∀(n i:Nat) (s:Shared) (Q:List Value->Shared->Prop),s.heap.IsListIter it l i->s.heap.IsList l items->i+n<=items.size ->
  (∀h',h'.IsListIter it l (i+n)->Heap.SameBut it s.heap h'->Q ((items.toList.drop i).take n) { s with heap:=h' })->wpAny (model P w) A (draw (.ref it) n) Q E s
 | 0,i,s,Q,hit,_,_,hQ=>wpAny_pure (by simpa using hQ s.heap hit (Heap.SameBut.refl ..))
 | n+1,i,s,Q,hit,ht,hle,hQ=>by
  have lt:i<items.size:=by omega
  refine wpAny_bind (m:=pyNext (.ref it)) (wpAny_pyNext_list_item hit ht (x:=items[i]) (by simp[lt]) λh₁ hit₁ hs₁=>wpAny_bind (wpAny_holding (v0p ne n (i+1) _ _ hit₁ (ht.extBut hs₁.extBut ne) (by omega) λh₂ hit₂ hs₂=>wpAny_pure ?_)))
  have q:=hQ h₂ (by rw[show i+(n+1)=i+1+n by omega];exact hit₂) (hs₁.trans hs₂)
  rw[show items.toList.drop i=items[i]::items.toList.drop (i+1) by simp[z3D,lt],List.take_succ_cons] at q
  exact q
def v0D {s:Shared}{l:Addr}{items:Array Value}{targets:List (Bool×(Value->Sem Unit))}{Q:Unit->Shared->Prop} (hh:A.handled=none) (ht:s.heap.IsList l items) (hn:targets.length=items.size) (hst:targets.findIdx? (·.1)=none)
  (h:∀h',Heap.ExtBut s.heap.objs.size s.heap h'->wpAny (model P w) A (assignInOrder (targets.map (·.2)) items.toList) Q E { s with heap:=h' }):wpAny (model P w) A (unpack (.ref l) targets) Q E s:=by
 have ne:l≠s.heap.objs.size:=by obtain⟨o,ho,_⟩:=id ht;exact v9 (y9 ho)
 unfold unpack
 rw[hn,hst]
 refine wpAny_bind (wpAny_holding ?_)
 unfold unpackItems
 refine wpAny_bind ?_
 unfold notIterableAtAll
 refine wpAny_bind (wpAny_specialOf ht.typeIs slot_list_iter.lookup (wpAny_pure ?_))
 simp only[t7,if_false]
 refine wpAny_bind (wpAny_holding (wpAny_pyIter_list ht (wpAny_bind (wpAny_holding (v0p ne items.size 0 _ _ ⟨_,z7 _ rfl,rfl,rfl⟩ (ht.push _) (by omega) λh₁ hit₁ hs₁=>?_)))))
 rw[List.drop_zero,List.take_of_length_le (by simp),if_neg (by simp)]
 refine wpAny_bind (wpAny_holding (wpAny_pyNext_list_end hh hit₁ ((ht.push _).extBut hs₁.extBut ne) (by simp) λh₂ he₂=>?_))
 simp only[Option.isSome_none,t7,if_false]
 exact wpAny_pure (h h₂ λb o hb e=>he₂ b o hb (hs₁.extBut b o hb (z5 _ e)))
end
section
variable {X:Cx}{xq:XQ}{e:Expr}{es:List Expr}{fe:Rho->Res D}{pos:Pos}
def gLst (K:W.Frag) (n:Nat) (t:TGs):TG:=λv σ H Q=>∃a xs,v=.ref a/\SqL K H a xs/\xs.length=n/\t xs σ H Q
def pg_lst {k:Nat}{t:TGs}{n:Nat} (hc:X.calm=true) (h:PGs X es t) (hn:(assignEach es X.env).length=n:=by rfl) (hst:(assignEach es X.env).findIdx? (·.1)=none:=by rfl):PG X (.Tuple es k pos) (gLst X.K n t):=by
 intro pins s σ H v u Q I r z9125
 obtain⟨a,xs,e1,hq,hl,hw⟩:=z9125
 subst e1
 cases r
 obtain⟨its,rv,ht,hz⟩:=I.list hq
 rw[assign_Tuple]
 refine wpAny_bind (wpAny_standAt (v0D (I.ok.hd hc) ht.isList (by simp[hn,<- hl,rv.length]) hst λh' hx=>?_))
 have I1:Inv X pins σ H { s with heap:=h' }:=I.kept (t':=s.toks) λb o e=>hx b o (v9 (y9 e)) e
 exact h pins _ σ H xs _ Q I1 (by simpa using rv) hw
noncomputable def asL (n:Nat):D->Res (List D)
 | .lst ds=>if ds.length=n then .ok ds else .bad
 | _=>.bad
def v4H (hc:X.calm=true) (h:DGs X tgs ix gs) (hn:(assignEach tgs X.env).length=n:=by rfl) (hst:(assignEach tgs X.env).findIdx? (·.1)=none:=by rfl) :
 DG X (.Tuple tgs k pos) ix (λd ρ=>(asL n d).bind λds=>gs ds ρ) :=
 ⟨λpins s σ H v u Q I rv ⟨B,F,ρ,d,R,p,q⟩=>pg_lst hc h.out hn hst pins s σ H v u Q I rv (by
  have q1:=Res.all_bind.mp q
  cases p with
  | @lst a xs ds hq hs =>
   unfold asL at q1
   dsimp only at q1
   by_cases z:ds.length=n
   ·rw [if_pos z] at q1
    exact⟨a,xs,rfl,.inl (hq.same R.fh),hs.length.trans z,B,F,ρ,ds,R,hs,q1⟩
   ·rw[if_neg z] at q1;exact q1.elim
  | _=>exact q1.elim)⟩
def u8I (a b c:Str):a++b++c=a++(b++c):=by
 show(⟨a.cps++b.cps++c.cps⟩:Str)=⟨a.cps++(b.cps++c.cps)⟩
 rw[Array.append_assoc]
end
mutual
noncomputable def hardD:D->Bool
 | .non | .bl _ | .int _ | .str _ | .ty _=>true
 | .tup ds=>hardDs ds
 | .ins _ gs=>hardFs gs
 | _=>false
noncomputable def hardDs:List D->Bool
 | []=>true
 | d::ds=>hardD d&&hardDs ds
noncomputable def hardFs:List (Str×D)->Bool
 | []=>true
 | (_,d)::ds=>hardD d&&hardFs ds
end
section
variable {K:W.Frag}{F:Hp}{T:Addr->Prop}
def NT (F:Hp) (a:Addr):Prop:=(∃xs,Rd F a (.lst xs))\/∃kvs,F a=some (.dK kvs)
open Classical in
noncomputable def woT (F:Hp) (T:Addr->Prop):Hp:=λa=>if T a then none else F a
def u6g (h:¬ T a):woT F T a=F a:=if_neg h
mutual
theorem Rp.hard (hT:∀a,T a->NT F a):∀{v:V}{d:D},Rp K F v d->hardD d=true->Rp K (woT F T) v d
 | _,_,.non,_=>.non
 | _,_,.bl b,_=>.bl b
 | _,_,.int i,_=>.int i
 | _,_,.str h,_=>.str h
 | _,_,.ty T,_=>.ty T
 | _,_,.lst _ _,h=>by simp[hardD] at h
 | _,_,.tup (a:=a) hq hs,h=>by
  refine .tup ?_ (Rps.hard hT hs (by simpa[hardD] using h))
  rcases hq with(q|⟨o,q⟩)|q
  ·refine .inl (.inl ((u6g fun t=>?_).trans q))
   obtain⟨xs,z|⟨o,z⟩⟩|⟨xs,z⟩:=hT a t<;>(rw[q] at z;cases z)
  ·refine .inl (.inr ⟨o,(u6g fun t=>?_).trans q⟩)
   obtain⟨xs,z|⟨o,z⟩⟩|⟨xs,z⟩:=hT a t<;>(rw[q] at z;cases z)
  ·exact .inr q
 | _,_,.dK _ _,h=>by simp[hardD] at h
 | _,_,.ins (a:=a) q hs,h=>by
  refine .ins ((u6g λt=>?_).trans q) (Rpf.hard hT hs (by simpa[hardD] using h))
  obtain⟨xs,z|⟨o,z⟩⟩|⟨xs,z⟩:=hT a t<;>(rw[q] at z;cases z)
 | _,_,.exc _ _ _,h=>by simp[hardD] at h
 | _,_,.dn _ _,h=>by simp[hardD] at h
theorem Rps.hard (hT:∀a,T a->NT F a):∀{v:List V}{d:List D},Rps K F v d->hardDs d=true->Rps K (woT F T) v d
 | _,_,.nil,_=>.nil
 | _,_,.cons h hs,z=>by
  have z:=s9.mp z
  exact .cons (Rp.hard hT h z.1) (Rps.hard hT hs z.2)
theorem Rpf.hard (hT:∀a,T a->NT F a):∀{v:List (Str×V)}{d:List (Str×D)},Rpf K F v d->hardFs d=true->Rpf K (woT F T) v d
 | _,_,.nil,_=>.nil
 | _,_,.cons h hs,z=>by
  have z:=s9.mp z
  exact .cons (Rp.hard hT h z.1) (Rpf.hard hT hs z.2)
end
end
noncomputable def ownL (ρ:Rho):Bool:=ρ.all fun
 | some (.own (.l _))=>true
 | some (.own (.d _))=>true
 | some (.own _)=>false
 | _=>true
def isOwn (ρ:Rho) (σ:St) (a:Addr):Prop:=∃(i:Nat) (o:OD),ρ[i]?=some (some (.own o))/\σ[i]?=some (some (.ref a))
open Classical in
def Rel.frz2 {K:W.Frag}{B:Hp×Hp}{ρ:Rho}{σ:St}{F H:Hp} (r:Rel K B ρ σ F H):∃F',Same F F'/\Rel K B (L2.frz ρ) σ F' H/\∀a,F a=none->F' a≠none->isOwn ρ σ a:=by
 let F':Hp:=λa=>if isOwn ρ σ a then H a else F a
 have hT:∀a,isOwn ρ σ a->F a=none/\B.2 a=none:=λa ⟨i,o,e,q⟩=>by
  obtain⟨b,h,h1,h2,h3,_⟩:=r.own i o e
  rw[q] at h1;cases h1;exact⟨h2,h3⟩
 have e1:Same F F':=λa o e=>by
  show(if isOwn ρ σ a then H a else F a)=some o
  by_cases q:isOwn ρ σ a
  ·rw[(hT a q).1] at e;cases e
  ·rw[if_neg q];exact e
 have e2:Same F' H:=λa o e=>by
  have e':(if isOwn ρ σ a then H a else F a)=some o:=e
  by_cases q:isOwn ρ σ a
  ·rw[if_pos q] at e';exact e'
  ·rw[if_neg q] at e';exact r.fh a o e'
 refine⟨F',e1,⟨⟨r.st.ff.trans e1,e2,r.st.hh,λa q z=>?_⟩,?_,?_,?_,?_⟩,λa n q=>?_⟩
 ·show (if isOwn ρ σ a then H a else F a)=none
  by_cases t:isOwn ρ σ a
  ·exact absurd (hT a t).2 z
  ·rw[if_neg t];exact r.st.no a q z
 ·rw[r.len];unfold L2.frz;simp
 ·intro i d e
  obtain⟨y,h1,h2⟩:=u4o e
  cases y with
  | val d'=>cases h2;obtain⟨v,q1,q2⟩:=r.val i d h1;exact⟨v,q1,q2.same e1⟩
  | own o =>
   cases h2
   obtain⟨a,h,q1,q2,q3,q4,q5⟩:=r.own i o h1
   have t:isOwn ρ σ a:=⟨i,o,h1,q1⟩
   exact⟨.ref a,q1,Ro.rp (Ro.same e1 q5) (show(if isOwn ρ σ a then H a else F a)=some h by rw[if_pos t];exact q4)⟩
 ·intro i o e
  obtain⟨y,h1,h2⟩:=u4o e
  cases y<;>cases h2
 ·intro i j o u a e
  obtain⟨y,h1,h2⟩:=u4o e
  cases y<;>cases h2
 ·by_cases t:isOwn ρ σ a
  ·exact t
  ·exact absurd (show(if isOwn ρ σ a then H a else F a)=none by rw[if_neg t];exact n) q
section
variable {X:Cx}{xq:XQ}{e:Expr}{fe:Rho->Res D}
noncomputable def hardC (ρ:Rho) (d:D):Res D:=if ownL ρ=true/\hardD d=true then .ok d else .bad
theorem DE.hard (h:DE X xq e fe):DE X xq e (λρ=>(fe (frz ρ)).bind (hardC ρ)) :=
 DE.of h.out λB F ρ σ H Q R q=>by
  obtain⟨F1,e1,R1,ow⟩:=R.frz2
  refine⟨B,F1,frz ρ,R1,Res.all_mono (Res.all_bind.mp q) (λd q v F' H' s p=>?_) λ_ e=>e.frz⟩
  unfold hardC at q
  by_cases z:ownL ρ=true/\hardD d=true
  ·rw [if_pos z] at q
   have hT:∀a,isOwn ρ σ a->F a=none/\NT F' a:=λa ⟨i,o,e,qa⟩=>by
    obtain⟨b,hh,h1,h2,h3,h4,h5⟩:=R.own i o e
    rw[qa] at h1
    cases h1
    refine⟨h2,?_⟩
    have ho:=z2F.mp z.1 _ (List.mem_of_getElem? e)
    cases o with
    | l ds =>
     obtain⟨v,k1,k2⟩:=R1.val i (.lst ds) (by unfold frz;rw[v7,e];rfl)
     rw[qa] at k1
     cases k1
     cases k2 with
     | lst hq hs=>exact .inl ⟨_,hq.same s.ff⟩
    | d ps =>
     obtain⟨v,k1,k2⟩:=R1.val i (.dct ps) (by unfold frz;rw[v7,e];rfl)
     rw[qa] at k1
     cases k1
     cases k2 with
     | dK hq hs=>exact .inr ⟨_,s.ff _ _ hq⟩
    | _=>cases ho
   refine q v (woT F' (isOwn ρ σ)) H' ⟨λa o ea=>?_,λa o ea=>?_,s.hh,λa n m=>?_⟩ (p.hard (λa t=>(hT a t).2) z.2)
   ·by_cases t:isOwn ρ σ a
    ·rw[(hT a t).1] at ea;cases ea
    ·rw[u6g t];exact s.ff a o (e1 a o ea)
   ·by_cases t:isOwn ρ σ a
    ·unfold woT at ea;rw[if_pos t] at ea;cases ea
    ·rw[u6g t] at ea;exact s.fh a o ea
   ·by_cases t:isOwn ρ σ a
    ·unfold woT;rw[if_pos t]
    ·rw [u6g t]
     exact s.no a (Classical.byContradiction λk=>t (ow a n k)) m
  ·rw[if_neg z] at q;exact q.elim
end
noncomputable def runT (n m:Nat) (t:Rho->Out) (ds:List D):Res D:=if ds.length=m then noE (outR (t (startD n ds))) else .bad
noncomputable def runX (n m:Nat) (t:Rho->Out) (ds:List D):Res D:=if ds.length=m then outR (t (startD n ds)) else .bad
section
variable {P:Program}{w:World}{K:W.Frag}{mg:MG}{base:Heap}
def Fun.okT {x qual:Str}{st:Stmt}{f:Addr}{fd:FuncData}{N ps:List Str}{k:Nat}{t:Rho->Out} (F:Fun K x qual st f fd) (S:FnScope N ps (defScope st))
  (hbody:∀(cdv:Value) (A:Around) (outer:List Env) (s:Shared) (H:Hp) (E:XK),Room k (A.deeper (envOfC qual (defScope st) s.heap.objs.size f cdv))->DB (cxOf CX0 P w K mg base N qual (defScope st) f cdv A outer s H E).nox xqF (defBody st) t) :
  FnOk P w K mg base CX0 (k+1) f fd ps (spF K (runT N.length ps.length t)):=by
 refine F.okD S (λds d h=>?_) λcdv A outer s H E hr=>⟨t,hbody cdv A outer s H E hr,λds d h=>?_⟩
 ·unfold runT at h
  split at h
  ·assumption
  ·cases h
 ·unfold runT at h
  split at h
  ·cases q:outR (t (startD N.length ds)) with
   | ok d'=>rw[q] at h;exact h
   | err x=>rw[q] at h;cases h
   | bad=>rw[q] at h;cases h
  ·cases h
set_option tactic.hygienic true in
def Fun.okTX {x qual:Str}{st:Stmt}{f:Addr}{fd:FuncData}{N ps:List Str}{k:Nat}{t:Rho->Out} (F:Fun K x qual st f fd) (S:FnScope N ps (defScope st))
  (hbody:∀ (cdv:Value) (A:Around) (outer:List Env) (s:Shared) (H:Hp) (E:XK),Room k (A.deeper (envOfC qual (defScope st) s.heap.objs.size f cdv))->XqOk (cxR P w K mg base N qual (defScope st) f cdv A outer s H E) (xq0 E) ->
   DB (cxR P w K mg base N qual (defScope st) f cdv A outer s H E) (xq0 E) (defBody st) t):FnOk P w K mg base (CXe P w) (k+1) f fd ps (spX K (runX N.length ps.length t)):=by
 refine F.okX S (λds h=>?_) λcdv A outer s H E hr hq=>⟨t,hbody cdv A outer s H E hr hq,λds h=>?_⟩
 ·unfold runX at h
  split at h
  ·assumption
  ·exact absurd rfl h
 ·unfold runX at h |-
  split at h
  ·rename_i q;rw[if_pos q]
  ·exact absurd rfl h
end
section
variable {X:Cx}{w:World}{K:W.Frag}
def o_inW (hu:X.A.units+200<cLine) (ew:X.w=w:=by rfl):OpR X (compareOp .In) (rD X.K (dInA w false)):=by subst ew;exact o_inA hu
def dn_newW (ew:X.w=w:=by rfl):DN X xq (.Dict [] [] pos) (λ_=>.ok (.n (hashW w) [])):=by subst ew;exact dn_new
def u6C (hst:X.stack=X.env::X.outer/\X.env.frame=some X.env.locals) (hN:X.N.Nodup) (hm:X.mg cn=some (.ref C')) (hb:XBase K C')
 (hsu:∀e,DB (cxH X e) xqF (b0::bs) fb) (hrs:DH X xq rest hr) (eK:X.K=K:=by rfl) (hi:X.N[i]?=some nm:=by rfl) (hl:X.env.scope.names.lookup nm=some .local:=by rfl) (hk:X.env.kindOf nm=some .local:=by rfl) (hg:Gl X cn:=by rfl) (hdb:(cn==("__debug__":Str))=false:=by decide) :
 DH X xq (.ExceptHandler (some (.Name cn p)) (some nm) (b0::bs) pos::rest) (hdAs K C' i fb hr):=by subst eK;exact dh_as hst hN hm hb hsu hrs hi hl hk hg hdb
def dh_noK (hst:X.stack=X.env::X.outer/\X.env.frame=some X.env.locals) (hm:X.mg cn=some (.ref C')) (hb:XBase K C')
 (hsu:∀e,DB (cxH X e) xqF (b0::bs) fb) (hrs:DH X xq rest hr) (eK:X.K=K:=by rfl) (hg:Gl X cn:=by rfl) (hdb:(cn==("__debug__":Str))=false:=by decide) :
 DH X xq (.ExceptHandler (some (.Name cn p)) none (b0::bs) pos::rest) (hdNo K C' fb hr):=by subst eK;exact dh_no hst hm hb hsu hrs hg hdb
end
section
variable {X:Cx}{xq:XQ}{i value:Expr}{fi fv:Rho->Res D}{x:Str}{p pos pos':Pos}{w:World}
def ds_putW (j:Nat) (hu:X.A.units+200<cLine) (hi:DE X xq i fi) (hv:DE X xq value fv) (ew:X.w=w:=by rfl) (hN:X.N[j]?=some x:=by rfl) (hvs:Vis X.env.scope x:=by first|exact Or.inl rfl|exact Or.inr (Or.inl rfl)|exact Or.inr (Or.inr rfl)) (hd:(x==("__debug__":Str))=false:=by decide) (hcd:(x==("__classdict__":Str))=false:=by decide)
 (hs:swapsWith value (some (.Subscript (.Name x p) i pos')) pos.line X.env=pure false:=by rfl):DS X xq (.Assign [.Subscript (.Name x p) i pos'] value pos) (fPutN w j fi fv):=by subst ew;exact ds_putN j hu hi hv hN hvs hd hcd hs
end
structure FunD (K:W.Frag) (x qual:Str) (st:Stmt) (f:Addr) (fd:FuncData):Prop where
 ex:∃(oc:Value) (od:Option Addr) (dV kV doc pm:Value) (an:Option Addr) (cdv ct:Value) (osl:Array (Option Value)),
  fd=W.fnOf x qual (defArgs st) (defBody st) (defScope st) dV kV doc pm an cdv ct/\K.lookup f=some ⟨oc,od,.func fd,osl⟩/\W.codeIn K cdv qual=true
section
variable {P:Program}{w:World}{K:W.Frag}{mg:MG}{base:Heap}
set_option tactic.hygienic true in
def FunD.okI {x qual:Str}{st:Stmt}{f C:Addr}{fd:FuncData}{N ps:List Str}{k:Nat}{g:List D->Res (List (Str×D))} (F:FunD K x qual st f fd) (S:FnScope N ps (defScope st)) (len:∀ds,g ds≠.bad->ds.length+1=ps.length)
  (hbody:∀ (cdv:Value) (A:Around) (outer:List Env) (s:Shared) (H:Hp) (E:XK),Room k (A.deeper (envOfC qual (defScope st) s.heap.objs.size f cdv))->XqOk (cxR P w K mg base N qual (defScope st) f cdv A outer s H E) (xq0 E) ->
   ∃t,DB (cxR P w K mg base N qual (defScope st) f cdv A outer s H E) (xq0 E) (defBody st) t/\∀a ds,g ds≠.bad->outI a C (t (startI N.length a C ds))=g ds):FnOk P w K mg base (CXe P w) (k+1) f fd ps (spInit K C g):=by
 obtain⟨oc,od,dV,kV,doc,pm,an,cdv,ct,osl,rfl,lk,hcd⟩:=F.ex
 refine fn_of lk hcd S (λvs H Q E h=>?_) λA outer s H vs Q E hr hsp=>?_
 ·obtain ⟨G,a,dx,rest,ds,rfl,fh,fa,ha,r,q⟩:=h
  rw[u9,r.length]
  exact len ds λz=>by rw[z] at q;exact q
 ·obtain ⟨G,a,dx,rest,ds,rfl,fh,fa,ha,r,q⟩:=hsp
  have z:g ds≠.bad:=λz=>by rw[z] at q;exact q
  have hst:(cxOf (CXe P w) P w K mg base N qual (defScope st) f cdv A outer s H E).stack=(cxOf (CXe P w) P w K mg base N qual (defScope st) f cdv A outer s H E).env::(cxOf (CXe P w) P w K mg base N qual (defScope st) f cdv A outer s H E).outer/\(cxOf (CXe P w) P w K mg base N qual (defScope st) f cdv A outer s H E).env.frame=some (cxOf (CXe P w) P w K mg base N qual (defScope st) f cdv A outer s H E).env.locals:=⟨rfl,rfl⟩
  obtain⟨t,h1,h2⟩:=hbody cdv A outer s H E hr (u5a hst)
  refine⟨_,PSs.wishTo h1.out ?_,(G,wo H a),G,_,v3h fh fa ha r,⟨?_⟩⟩
  ·rintro u s' ⟨n,e,C,d,σ,H',fl,o,rfl,I,hx,tb,hfl,q⟩
   refine u9S I hst o hx tb hfl λs2 I2 tr=>?_
   exact⟨e,C,d,H',rfl,I2.os,I2.bare,I2.base,I2.hok,hx,tr.tb.mono o.s0,q e rfl⟩
  ·have y:=h2 a ds z
   rw[<- y] at q
   generalize t (startI N.length a C ds)=o at q
   cases o with
   | nx ρ =>
    intro σ F' H' R
    unfold outI at q
    dsimp only at q
    split at q
    ·rename_i a' C' gs e
     split at q
     ·rename_i c
      obtain⟨rfl,rfl⟩:=c
      obtain⟨b,h,p1,p2,p3,p4,p5⟩:=R.own 0 _ e
      cases p5 with
      | i hr=>exact q _ _ F' H' R.st p2 p4 hr
     ·exact q.elim
    ·exact q.elim
   | rt d'=>exact q.elim
   | bk ρ=>exact q.elim
   | ct ρ=>exact q.elim
   | er x ρ=>exact λv σ F' H' R pv b eb=>by subst eb;exact q b F' H' R.st pv
   | bad=>exact q.elim
end
noncomputable def mulS (z:Str) (k:Nat):Str:=if k=0 then Str.empty else if (k==1||z.length==0)=true then z else ⟨(List.replicate k z.cps).foldl (·++·) #[]⟩
noncomputable def dMulT (x y:D):Res D:=match x,y with
 | .str z,.int k=>gd (0<=k/\k<=1000/\z.length<=1000/\(mulS z k.toNat).length<=1000) (.ok (.str (mulS z k.toNat)))
 | x,y=>dMulX x y
section
variable {X:Cx}
set_option tactic.hygienic true in
def o_mulT:OpR X (binaryOp .Mult) (rD X.K dMulT):=by
 intro pins s σ H x y v u Q I rx ry z9129
 obtain⟨F,dx,dy,fh,px,py,q⟩:=z9129
 unfold dMulT at q
 split at q
 ·rename_i z k
  obtain⟨⟨h1,h2,h3,h4⟩,q⟩:=u3k q
  cases py
  cases px
  obtain⟨t,rfl⟩:=rx
  obtain⟨t',rfl⟩:=ry
  have hs:(mulS z k.toNat).length<=sizeLine:=v5 h4 (by decide)
  have fin:∀t0 s',Inv X pins σ H s'->EP X pins σ Q (.str (mulS z k.toNat) t0) s':=λt0 s' I'=>⟨.str _,H,I',⟨_,rfl⟩,q _ F H (Stp.refl fh) (.str hs)⟩
  by_cases c:k<1
  ·have e:mulS z k.toNat=Str.empty:=if_pos (by omega)
   refine P.mul_str_none c (by omega) ?_
   have:=fin s.toks _ (I.tok (s.toks+1))
   rw[e] at this
   exact this
  ·refine P.mul_str ?_ (fun _ _=>?_) (fun _ _=>?_) ?_
   ·rw[decide_eq_false (by omega),decide_eq_false (by omega)];rfl
   ·have hm:(z.length:Int)*k<=1000*1000:=Int.mul_le_mul (by omega) (by omega) (by omega) (by omega)
    have:(z.length:Int)<=(2^63 - 1) / k:=Int.le_ediv_of_mul_le (by omega) (by omega)
    omega
   ·have hm:z.length*k.toNat<=1000*1000:=Nat.mul_le_mul h3 (by omega)
    exact decide_eq_false (by rw[sizeLine_eq];omega)
   ·rw [if_neg c]
    by_cases c2:(k==1||z.length==0)=true
    ·rw [if_pos c2]
     have e:mulS z k.toNat=z:=by
      unfold mulS
      rw[if_neg (by omega),if_pos]
      simp only[Bool.or_eq_true,beq_iff_eq] at c2 |-
      rcases c2 with c2|c2
      ·exact .inl (by omega)
      ·exact .inr c2
     have:=fin t s I
     rw[e] at this
     exact this
    ·rw [if_neg c2]
     have e:mulS z k.toNat=⟨(List.replicate k.toNat z.cps).foldl (·++·) #[]⟩:=by
      unfold mulS
      rw[if_neg (by omega),if_neg]
      simp only[Bool.or_eq_true,beq_iff_eq] at c2 |-
      intro c3
      exact c2 (by
       rcases c3 with c3|c3
       ·exact .inl (by omega)
       ·exact .inr c3)
     have:=fin s.toks _ (I.tok (s.toks+1))
     rw[e] at this hs
     exact⟨hs,this⟩
 ·exact u0Z pins s σ H x y v u Q I rx ry ⟨F,_,_,fh,px,py,q⟩
end
end L2
namespace L2
open PySem PySem.Spec PyProof.Rows
noncomputable def catD:D->D->Res OD
 | .lst xs,.lst ys=>gd (xs.length+ys.length<=sizeLine) (.ok (.l (xs++ys)))
 | _,_=>.bad
section
variable {X:Cx}{xq:XQ}{a b e:Expr}{fa fb fe:Rho->Res D}{pos:Pos}
def v0q (ha:DE X xq a fa) (hb:DE X xq b fb):DN X xq (.BinOp a .Add b pos) (λρ=>(fa ρ).bind λx=>(fb ρ).bind λy=>catD x y) :=
 ⟨λpins s σ H Q I z9=>un5 z9 λB F ρ R q=>pe_op v2h ha.out hb.out pins s σ H Q I (seqE R q λd v F1 H1 s1 R1 p1 q1=>seqE R1 q1 λd2 v2 F2 H2 s2 R2 p2 q2=>by
  have p1':=p1.same s2.ff
  cases p1' with
  | lst hx rx' =>
   cases p2 with
   | lst hy ry' =>
    obtain⟨hz,q3⟩:=u3k q2
    exact⟨_,_,_,_,rfl,rfl,hx.same R2.fh,hy.same R2.fh,by rw[rx'.length,ry'.length];exact hz,λp n=>q3 p _ F2 _ ((s1.trans s2).trans (Stp.only R2.fh (u0p n))) (R2.fh.free n) ((s1.trans s2).hh.free n) u0j (.l (rx'.append ry'))⟩
   | _=>exact q2.elim
  | _=>exact q2.elim)⟩
end
noncomputable def splitL {α:Type} [DecidableEq α] (c:α):List α->List (List α)
 | []=>[[]]
 | a::l=>if a=c then []::splitL c l else match splitL c l with
  | []=>[[a]]
  | w::r=>(a::w)::r
def u3H {α:Type} [DecidableEq α] (c:α) (l:List α):splitL c l≠[]:=by
 cases l with
 | nil=>simp[splitL]
 | cons a l =>
  rw[splitL]
  split
  ·simp
  ·split<;>simp
theorem u5d {α:Type} [DecidableEq α] (c:α):∀(w:List α),c∉w->splitL c w=[w]
 | [],_=>rfl
 | a::w,h=>by
  have h1:¬ a=c:=λe=>h (by simp[e])
  rw[splitL,u5d c w (λm=>h (by simp[m])),if_neg h1]
theorem u6k {α:Type} [DecidableEq α] (c:α) (r:List α):∀(w:List α),c∉w->splitL c (w++c::r)=w::splitL c r
 | [],_=>by simp[splitL]
 | a::w,h=>by
  have h1:¬ a=c:=λe=>h (by simp[e])
  rw[List.cons_append,splitL,u6k c r w (λm=>h (by simp[m])),if_neg h1]
noncomputable def glue {α:Type} (c:α):List (List α)->List α
 | []=>[]
 | [w]=>w
 | w::v::r=>w++c::glue c (v::r)
theorem u5c {α:Type} [DecidableEq α] (c:α):∀(ws:List (List α)),ws≠[]->(∀w∈ws,c∉w)->splitL c (glue c ws)=ws
 | [w],_,h=>u5d c w (h w (by simp))
 | w::v::r,_,h=>by
  rw[glue,u6k c _ w (h w (by simp)),u5c c (v::r) (by simp) λx m=>h x (z0 _ m)]
noncomputable def cutsL (c:Nat):Nat->List Nat->List Nat
 | _,[]=>[]
 | o,a::l=>if a=c then o::cutsL c (o+1) l else cutsL c (o+1) l
theorem u8u (c:Nat):∀(l:List Nat) (o:Nat) (a:Nat),cutsL c o (l++[a])=cutsL c o l++if a=c then [o+l.length] else []
 | [],o,a=>by simp[cutsL]
 | b::l,o,a=>by
  rw[List.cons_append,cutsL,cutsL,u8u c l (o+1) a]
  have:o+1+l.length=o+(b::l).length:=by simp;omega
  rw[this];split<;>simp
theorem u7q (c:Nat):∀(l:List Nat) (o:Nat),∀x∈cutsL c o l,o<=x
 | [],o,x,m=>by simp[cutsL] at m
 | b::l,o,x,m=>by
  rw[cutsL] at m
  split at m
  ·rcases z8.1 m with rfl | m
   ·exact y7 _
   ·exact Nat.le_of_succ_le (u7q c l (o+1) x m)
  ·exact Nat.le_of_succ_le (u7q c l (o+1) x m)
theorem u8t (c:Nat):∀(l:List Nat) (o:Nat),(cutsL c o l).length<=l.length
 | [],o=>by simp[cutsL]
 | b::l,o=>by
  have:=u8t c l (o+1)
  rw[cutsL];split<;>simp<;>omega
def occ_one (s:Str) (c:Nat):Builtin.Str.occurrences s ⟨#[c]⟩ 0 s.length (s.length+1)=cutsL c 0 s.cps.toList:=by
 unfold Builtin.Str.occurrences
 simp only[Std.Legacy.Range.forIn_eq_forIn_range']
 have key:∀k,k<=s.length->∃fr,fr<=k/\(List.range' 0 k).foldl (λ(b:Array Nat×Nat) i=>if (decide (b.1.size<s.length+1)&&decide (b.2<=i)&&decide (i+(Str.mk #[c]).length<=s.length)&&Builtin.Str.subAt s ⟨#[c]⟩ i)=true then (b.1.push i,i+(Str.mk #[c]).length) else b) (#[],0)=((cutsL c 0 (s.cps.toList.take k)).toArray,fr):=by
  intro k
  induction k with
  | zero=>intro _;exact⟨0,y7 _,by simp[cutsL]⟩
  | succ k ih =>
   intro hk
   obtain⟨fr,h1,h2⟩:=ih (by omega)
   have hk':k<s.cps.size:=hk
   have e1:s.cps.toList.take (k+1)=s.cps.toList.take k++[s.cps[k]]:=by
    rw[List.take_succ];simp[hk']
   have hl:(s.cps.toList.take k).length=k:=by simp;omega
   have hlen:=u8t c (s.cps.toList.take k) 0
   rw[hl] at hlen
   rw[List.range'_concat,List.foldl_append,h2,e1,u8u,hl]
   have hsub:Builtin.Str.subAt s ⟨#[c]⟩ k=decide (s.cps[k]=c):=by
    unfold Builtin.Str.subAt
    have:s.cps.extract k (k+(Str.mk #[c]).length)=#[s.cps[k]]:=by
     apply Array.ext
     ·simp[Str.length];omega
     ·intro i h1 h2;simp at h2;subst h2;simp
    rw[this]
    by_cases e:s.cps[k]=c<;>simp[e]
   have hlen':(cutsL c 0 (List.take k s.cps.toList)).length<s.length+1:=by omega
   have hone:(Str.mk #[c]).length=1:=rfl
   simp only[Nat.zero_add,Nat.one_mul,z1J,List.foldl_nil,hsub,hone,x8,hlen',h1,decide_true,Bool.true_and,hk]
   by_cases e:s.cps[k]=c
   ·exact⟨k+1,by omega,by simp[e]⟩
   ·exact⟨fr,by omega,by simp[e]⟩
 obtain⟨fr,h1,h2⟩:=key s.length (y7 _)
 have e0:(Std.Legacy.Range.mk 0 (s.length+1) 1 (by decide)).size=s.length+1:=by simp[Std.Legacy.Range.size]
 have e1:∀(b:Array Nat×Nat),(if (decide (b.1.size<s.length+1)&&decide (b.2<=s.length)&&decide (s.length+(Str.mk #[c]).length<=s.length)&&Builtin.Str.subAt s ⟨#[c]⟩ s.length)=true then (b.1.push s.length,s.length+(Str.mk #[c]).length) else b)=b:=by
  intro b
  have:¬ s.length+(Str.mk #[c]).length<=s.length:=by show ¬ s.length+1<=s.length;omega
  simp[this]
 have e3:cutsL c 0 (s.cps.toList.take s.length)=cutsL c 0 s.cps.toList:=by
  have:s.cps.toList.take s.length=s.cps.toList:=List.take_of_length_le (by simp[Str.length])
  rw[this]
 have e2:=List.forIn_pure_yield_eq_foldl (m:=Id) (l:=List.range' 0 (s.length+1)) (λi (b:Array Nat×Nat)=>if (decide (b.1.size<s.length+1)&&decide (b.2<=i)&&decide (i+(Str.mk #[c]).length<=s.length)&&Builtin.Str.subAt s ⟨#[c]⟩ i)=true then (b.1.push i,i+(Str.mk #[c]).length) else b) (#[],0)
 have e4:(List.range' 0 (s.length+1)).foldl (λ(b:Array Nat×Nat) i=>if (decide (b.1.size<s.length+1)&&decide (b.2<=i)&&decide (i+(Str.mk #[c]).length<=s.length)&&Builtin.Str.subAt s ⟨#[c]⟩ i)=true then (b.1.push i,i+(Str.mk #[c]).length) else b) (#[],0)=((cutsL c 0 s.cps.toList).toArray,fr):=by
  rw[List.range'_concat,List.foldl_append,h2,e3,Nat.zero_add,Nat.one_mul]
  exact e1 _
 rw[e4] at e2
 have e5:∀(X:Id (Array Nat×Nat)),X=pure ((cutsL c 0 s.cps.toList).toArray,fr)->(do let q <- X;pure q.1.toList:Id (List Nat)).run=cutsL c 0 s.cps.toList:=by
  intro X h;subst h;simp
 refine e5 _ (Eq.trans ?_ e2)
 congr 1
 ·rw[e0]
 ·funext i b
  split<;>rfl
def v2f (c:Nat) (s:Str):Builtin.Str.partsBetween s (cutsL c 0 s.cps.toList) 1=(splitL c s.cps.toList).map λw=>⟨w.toArray⟩:=by
 unfold Builtin.Str.partsBetween
 have key:∀(l pre:List Nat),s.cps.toList=pre++l->List.map (λx:Nat×Nat=>Builtin.Str.strSub s x.1 x.2) ((pre.length::(cutsL c pre.length l).map (·+1)).zip (cutsL c pre.length l++[s.length]))=(splitL c l).map λw=>⟨w.toArray⟩:=by
  intro l
  induction l with
  | nil =>
   intro pre h
   have hs:s.length=pre.length:=by show s.cps.size=_;rw[<- r9,h];simp
   simp[cutsL,splitL,Builtin.Str.strSub,hs];exact Nat.min_le_left _ _
  | cons a l ih =>
   intro pre h
   have ih':=ih (pre++[a]) (by simp[h])
   rw[z2B,List.length_singleton] at ih'
   have hsub:∀j,pre.length+1<=j->(Builtin.Str.strSub s pre.length j).cps.toList=a::(Builtin.Str.strSub s (pre.length+1) j).cps.toList:=by
    intro j hj
    simp only[Builtin.Str.strSub,Array.toList_extract,List.extract_eq_take_drop,h]
    rw[List.drop_append,List.drop_append]
    have q:j - pre.length=(j - (pre.length+1))+1:=by omega
    have q2:List.drop (pre.length+1) pre=[]:=List.drop_of_length_le (by omega)
    simp[q,q2]
   rw[cutsL,splitL]
   split
   ·show Builtin.Str.strSub s pre.length pre.length::_=_::_
    rw[<- ih']
    congr 1
    simp[Builtin.Str.strSub];exact Nat.min_le_left _ _
   ·have hc:∀ x∈cutsL c (pre.length+1) l,pre.length+1<=x:=u7q c l _
    have hs:pre.length+1<=s.length:=by show _<=s.cps.size;rw[<- r9,h];simp
    have hj:∀j rest,cutsL c (pre.length+1) l++[s.length]=j::rest->pre.length+1<=j:=by
     intro j rest e
     have:j∈cutsL c (pre.length+1) l++[s.length]:=by rw[e];simp
     rcases x9.1 this with m|m
     ·exact hc _ m
     ·simp at m;omega
    cases e:cutsL c (pre.length+1) l++[s.length] with
    | nil=>simp at e
    | cons j rest =>
     rw[e,List.zip_cons_cons,w5] at ih'
     rw[List.zip_cons_cons,w5]
     cases e2:splitL c l with
     | nil=>exact absurd e2 (u3H c l)
     | cons w r =>
      rw[e2,w5] at ih'
      injection ih' with i1 i2
      rw[w5,i2]
      congr 1
      have z:=hsub j (hj j rest e)
      dsimp only at i1
      rw[i1] at z
      show Builtin.Str.strSub s pre.length j=_
      cases hq:Builtin.Str.strSub s pre.length j with
      | mk q =>
       rw[hq] at z
       congr 1
       apply Array.toList_inj.1
       simpa using z
 exact key _ [] rfl
noncomputable def splitS (c:Nat) (z:Str):List Str:=(splitL c z.cps.toList).map λw=>⟨w.toArray⟩
set_option tactic.hygienic true in
theorem u2l {α:Type} [DecidableEq α] (c:α):∀(l:List α),∀w∈splitL c l,w.length<=l.length
 | [],w,m=>by simp[splitL] at m;simp[m]
 | a::l,w,m=>by
  have ih:=u2l c l
  rw[splitL] at m
  split at m
  ·rcases z8.1 m with rfl | m
   ·simp
   ·have:=ih w m;simp;omega
  ·split at m
   ·simp at m;subst m;simp
   ·next w' r e =>
    rcases z8.1 m with rfl|m
    ·have:=ih w' (by rw[e];simp);simp;omega
    ·have:=ih w (by rw[e];simp[m]);simp;omega
set_option tactic.hygienic true in
theorem u1P {α:Type} [DecidableEq α] (c:α):∀(l:List α),∀w∈splitL c l,∀z∈w,z∈l
 | [],w,m,z,h=>by simp[splitL] at m;subst m;simp at h
 | a::l,w,m,z,h=>by
  have ih:=u1P c l
  rw[splitL] at m
  split at m
  ·rcases z8.1 m with rfl | m
   ·simp at h
   ·exact z0 _ (ih w m z h)
  ·split at m
   ·simp at m;subst m;simp at h;simp[h]
   ·next w' r e =>
    rcases z8.1 m with rfl|m
    ·rcases z8.1 h with rfl | h
     ·simp
     ·exact z0 _ (ih w' (by rw[e];simp) z h)
    ·exact z0 _ (ih w (by rw[e];simp[m]) z h)
set_option tactic.hygienic true in
theorem u1i {α:Type} [DecidableEq α] (c:α):∀(l:List α),(splitL c l).length<=l.length+1
 | []=>by simp[splitL]
 | a::l=>by
  have ih:=u1i c l
  rw[splitL]
  split
  ·simp;omega
  ·split
   ·simp
   ·next w' r e=>rw[e] at ih;simp at ih |-;omega
theorem valsFrom:∀(ss:List Str) (t:Nat),Vals (ss.map V.str) (strsFrom t ss)
 | [],_=>.nil
 | s::ss,t=>.cons ⟨_,rfl⟩ (valsFrom ss (t+1))
def kind_le (c:Nat) (hc:c<256) (z:Str):decide (Builtin.Str.strKind z<Builtin.Str.strKind ⟨#[c]⟩)=false:=by
 have h1:Builtin.Str.strKind ⟨#[c]⟩=1:=by simp[Builtin.Str.strKind,hc]
 have h2:1<=Builtin.Str.strKind z:=by
  unfold Builtin.Str.strKind
  split
  ·decide
  ·split<;>decide
 rw[h1];simp;omega
noncomputable def partsOf (c:Nat) (z:Str):List Str:=Builtin.Str.partsBetween z (Builtin.Str.occurrences z ⟨#[c]⟩ 0 z.length (z.length+1)) 1
def rSplit (c:Nat):V->List V->Hp->VK->Prop:=λx vs H Q=>∃z:Str,x=.str z/\vs=[.str ⟨#[c]⟩]/\z.length+1<=sizeLine/\∀p,H p=none->Q (.ref p) (upd H p (.lst ((splitS c z).map V.str)))
variable {X:Cx}{xq:XQ}
def v3M (hc:c<256):MtM X "str.split" (rSplit c):=by
 intro pins s σ H x vs v us Q I rx rv h
 obtain⟨z,rfl,rfl,hz,q⟩:=h
 obtain⟨t,rfl⟩:=rx
 obtain⟨u,rfl,ru⟩:=rv.one
 obtain⟨t2,rfl⟩:=ru
 have e0:partsOf c z=splitS c z:=by unfold partsOf splitS;rw[occ_one];exact v2f c z
 have own:splitS c z=[z]->listOfItself z t X.A (wants (EP X pins σ Q) X.xe) s:=by
  intro e
  rw[e] at q
  exact⟨.ref _,_,I.lnew (ys:=[.str z]) (its:=[.str z t]) (t':=s.toks) (.cons ⟨t,rfl⟩ .nil) (by show 1<=sizeLine;omega),rfl,q _ I.fresh⟩
 by_cases h0:z.length<1
 ·refine call_meets F.slot_str_split (typeIs_str s z t) F.entry_str_split (F.args_str_split_2 _ _) (meets_str_split_cannot_occur z ⟨#[c]⟩ t t2 (by rw [decide_eq_true (show z.length<(Str.mk #[c]).length from h0)];rfl)) (own ?_)
  have:z.cps=#[]:=Array.size_eq_zero_iff.1 (by have:z.cps.size<1:=h0;omega)
  cases z with
  | mk cps=>cases this;rfl
 ·have h1:(decide (z.length<(Str.mk #[c]).length)||decide (Builtin.Str.strKind z<Builtin.Str.strKind ⟨#[c]⟩))=false:=by
   rw[kind_le c hc z,decide_eq_false (show ¬ z.length<(Str.mk #[c]).length from h0)];rfl
  cases h2:(Builtin.Str.occurrences z ⟨#[c]⟩ 0 z.length (z.length+1)).isEmpty with
  | true =>
   refine call_meets F.slot_str_split (typeIs_str s z t) F.entry_str_split (F.args_str_split_2 _ _) (meets_str_split_not_found z ⟨#[c]⟩ t t2 h1 rfl h2) (own ?_)
   rw[<- e0]
   unfold partsOf
   rw[List.isEmpty_iff.1 h2]
   simp[Builtin.Str.partsBetween,Builtin.Str.strSub,Str.length]
  | false =>
   have hl:(splitS c z).length<=sizeLine:=by
    have:=u1i c z.cps.toList
    have h3:z.cps.toList.length=z.length:=rfl
    unfold splitS;rw[v6];omega
   refine call_meets F.slot_str_split (typeIs_str s z t) F.entry_str_split (F.args_str_split_2 _ _) (meets_str_split_sep z ⟨#[c]⟩ t t2 h1 rfl h2 (by omega) (by have:=hl;rw[<- e0] at this;exact this)) ?_
   show EP X pins σ Q (.ref s.heap.objs.size) { s with heap:=s.heap.push { cls:=.type "list",data:=.seq (strsFrom s.toks (partsOf c z)).toArray },toks:=s.toks+(partsOf c z).length }
   rw[e0]
   exact⟨.ref _,_,I.lnew (ys:=(splitS c z).map V.str) (its:=strsFrom s.toks (splitS c z)) (t':=s.toks+(splitS c z).length) (valsFrom _ _) (by rw[v6];exact hl),rfl,q _ I.fresh⟩
noncomputable def splitD (c:Nat):D->Res OD
 | .str z=>gd (z.length+1<=sizeLine) (.ok (.l ((splitS c z).map D.str)))
 | _=>.bad
def u3T {j} (he:DE X xq e fe) (hc:c<256:=by decide) (hy:y=⟨#[c]⟩:=by rfl)
 (hbase:attributeBase e "split" X.env (eval e X.env)=eval e X.env:=by rfl) (hline:(apos.endLine==cpos.line)=true:=by rfl) :
 DN X xq (.Call (.Attribute e "split" apos) [.Constant (.str y) j p] [] cpos) (λρ=>(fe ρ).bind (splitD c)):=by
 subst hy
 exact⟨λpins s σ H Q I z9=>un5 z9 λB F ρ R q=>pbm PySem.F.plainAttrs_str PySem.F.slot_str_split PySem.F.type_str_split (v3M hc) he.out (pac u9M u4z rfl) rfl rfl hbase hline pins s σ H Q I (seqE R q λd v F1 H1 s1 R1 p1 q1=>by
  cases p1 with
  | @str z hz =>
   obtain⟨h1,q2⟩:=u3k q1
   exact⟨rfl,z,rfl,rfl,h1,λp n=>q2 p _ F1 _ (s1.trans (Stp.only R1.fh (u0p n))) (R1.fh.free n) (s1.hh.free n) u0j (.l (u3L λw m=>by
    obtain⟨l,m1,rfl⟩:=w6.1 m
    have:=u2l c _ l m1
    have h3:z.cps.toList.length=z.length:=rfl
    show l.toArray.size<=_
    rw[x8];omega))⟩
  | _=>exact q1.elim)⟩
def u2T (z:Str) (ys:List Str):(Txt.join z ys).length<=(ys.map (·.length)).sum+ys.length*z.length:=by
 have key:∀(l:List Str) (acc:Array Nat),(l.foldl (λacc (p:Str)=>acc++z.cps++p.cps) acc).size=acc.size+(l.map (·.length)).sum+l.length*z.length:=by
  intro l
  induction l with
  | nil=>intro acc;simp
  | cons p l ih =>
   intro acc
   rw[z1J,ih,w5,List.sum_cons,u9,Nat.add_mul]
   show(acc++z.cps++p.cps).size+_+_=_+(p.cps.size+_)+(_+1*z.cps.size)
   rw[Array.size_append,Array.size_append]
   omega
 show(List.foldl _ _ _:Array Nat).size<=_
 cases ys with
 | nil=>simp[Str.empty]
 | cons y ys =>
  rw[key]
  show y.cps.size+_+ys.length*z.length<=_
  rw[w5,List.sum_cons,u9,Nat.add_mul]
  show _<=y.cps.size+_+_
  simp only[List.drop_succ_cons,List.drop_zero]
  omega
variable {X:Cx}{xq:XQ}
def rJoinA (K:W.Frag):V->List V->Hp->VK->Prop:=λx vs H Q=>∃(z:Str) (p:Addr) (ys:List Str),x=.str z/\vs=[.ref p]/\(Rd H p (.lst (ys.map V.str))\/SqT K H p (ys.map V.str))/\(ys.map (·.length)).sum+ys.length*z.length<=16777216/\Q (.str (Txt.join z ys)) H
def v3N:MtM X "str.join" (rJoinA X.K):=by
 intro pins s σ H x vs v us Q I rx rv h
 obtain⟨z,p,ys,rfl,rfl,hq,hz,q⟩:=h
 obtain⟨t,rfl⟩:=rx
 obtain⟨u,rfl,ru⟩:=rv.one
 cases ru
 rcases hq with hq|hq
 ·obtain ⟨hn,its,n,r,hl,e⟩:=I.lstR hq
  exact join_list (items:=its.toArray) ⟨_,e,rfl,_,rfl⟩ (by simpa using u4b r) hz λt' k=>⟨.str _,H,I.tok k,⟨t',rfl⟩,q⟩
 ·obtain ⟨its,r,ht,_⟩:=I.tuple hq
  exact join_tuple ht (by simpa using u4b r) hz λt' k=>⟨.str _,H,I.tok k,⟨t',rfl⟩,q⟩
noncomputable def joinL (z:Str) (ds:List D):Res D:=match strsOf ds with
 | some ys=>gd ((ys.map (·.length)).sum+ys.length*z.length<=16777216) (.ok (.str (Txt.join z ys)))
 | none=>.bad
noncomputable def joinD (z:Str):D->Res D
 | .lst ds=>joinL z ds
 | .tup ds=>joinL z ds
 | _=>.bad
def u3V {j} (he:DE X xq e fe) (hs:notStar e=true:=by rfl)
 (hbase:attributeBase (.Constant (.str z) j p) "join" X.env (eval (.Constant (.str z) j p) X.env)=eval (.Constant (.str z) j p) X.env:=by rfl) (hline:(apos.endLine==cpos.line)=true:=by rfl) :
 DE X xq (.Call (.Attribute (.Constant (.str z) j p) "join" apos) [e] [] cpos) (λρ=>(fe ρ).bind (joinD z)) :=
 ⟨λpins s σ H Q I z9=>un5 z9 λB F ρ R q=>pbm PySem.F.plainAttrs_str PySem.F.slot_str_join PySem.F.type_str_join v3N u9M (pac he.out u4z hs) (by rw[z0D,hs];rfl) rfl hbase hline pins s σ H Q I ⟨rfl,seqE R q λd v F1 H1 s1 R1 p1 q1=>by
  have fin:∀{ds:List D}{vs:List V},Rps X.K F1 vs ds->(joinL z ds).all (λd=>∀(v:V) (F' H':Hp),Stp F H F' H'->Rp X.K F' v d->Q v H') (ErrK X.K xq B ρ σ)->∃ys:List Str,vs=ys.map V.str/\(ys.map (·.length)).sum+ys.length*z.length<=16777216/\Q (.str (Txt.join z ys)) H1:=by
   intro ds vs r q2
   unfold joinL at q2
   cases e:strsOf ds with
   | none=>rw[e] at q2;exact q2.elim
   | some ys =>
    rw[e] at q2
    obtain⟨h1,q3⟩:=u3k q2
    exact⟨ys,(u2J r e).1,h1,q3 _ F1 H1 s1 (.str (v5 (u2T z ys) h1))⟩
  cases p1 with
  | lst hq r =>
   obtain⟨ys,rfl,h1,q2⟩:=fin r q1
   exact⟨z,_,ys,rfl,rfl,.inl (hq.same R1.fh),h1,q2⟩
  | tup hq r =>
   obtain⟨ys,rfl,h1,q2⟩:=fin r q1
   exact⟨z,_,ys,rfl,rfl,.inr (R1.fh.seqT hq),h1,q2⟩
  | _=>exact q1.elim⟩⟩
theorem v1T {K:W.Frag}{F:Hp}{v:V}{d:D}:∀{xs:List V}{ds:List D} (j:Nat),Rps K F xs ds->Rp K F v d->Rps K F (xs.set j v) (ds.set j d)
 | _,_,_,.nil,_=>.nil
 | _,_,0,.cons _ hs,h=>.cons h hs
 | _,_,j+1,.cons h0 hs,h=>.cons h0 (v1T j hs h)
section
variable {X:Cx}{xq:XQ}{i value:Expr}{fi fv:Rho->Res D}{pos:Pos}
noncomputable def setI (ρ:Rho) (j:Nat) (ds:List D) (d:D):D->Out
 | .int k=>match ixN ds.length k with
  | some n=>.nx (ρ.set j (some (.own (.l (ds.set n d)))))
  | none=>.bad
 | _=>.bad
end
noncomputable def catchE (hd:D->Rho->Out) (fe:Rho->Out):Out->Out
 | .er x ρ=>hd x ρ
 | .nx ρ=>fe ρ
 | o=>o
section
variable {X:Cx}{xq:XQ}
def ds_tryE (hst:X.stack=X.env::X.outer/\X.env.frame=some X.env.locals)
 (hb:∀pn xq',XqOk (cxT X pn xq') xq'->DB (cxT X pn xq') xq' body fb) (hh:DH X xq (h0::hs) hd) (he:DB X xq els fe) :
 DS X xq (.Try body (h0::hs) els [] pos) (λρ=>catchE hd fe (fb ρ)):=⟨λpins s σ H T I z9=>un5 z9 λB F ρ R q=>by
 rw[arm_exec_Try]
 refine wpAny_bind (wpAny_standAt (wpAny_tryStmt_except ?_))
 let xq':XQ:=λv σ' H'=>∃ρ' F' x,Rel X.K B ρ' σ' F' H'/\Rp X.K F' v x/\OkS X.K xq B T (hd x ρ')
 have hq':XqOk (cxT X pins xq') xq':=u5a (X:=cxP X pins) hst
 refine wpAny_mono ((hb pins xq' hq').out [] s σ H { T with nx:=λσ' H'=>∃ρ' F',Rel X.K B ρ' σ' F' H'/\OkS X.K xq B T (fe ρ') } (I.toP.wish _) ⟨B,F,ρ,R,⟨?_⟩⟩) (λf s1 z=>?_) λu s1 z=>?_
 ·have q:=q.out
  dsimp only at q
  generalize fb ρ=out at q
  cases out with
  | nx r=>exact λσ' F' H' R'=>⟨r,F',R',⟨q⟩⟩
  | rt d=>exact q
  | bk r=>exact q
  | ct r=>exact q
  | er x r=>exact λv σ' F' H' R' p'=>⟨r,F',x,R',p',⟨q⟩⟩
  | bad=>exact q.elim
 ·cases f with
  | next=>obtain⟨σ',H',I4,ρ',F',R',z⟩:=z;exact he.out pins s1 σ' H' T I4.unwish.ofP ⟨B,F',ρ',R',z⟩
  | brk=>obtain⟨σ',H',I4,z⟩:=z;exact⟨σ',H',I4.unwish.ofP,z⟩
  | cont=>obtain⟨σ',H',I4,z⟩:=z;exact⟨σ',H',I4.unwish.ofP,z⟩
  | ret u=>obtain⟨v,σ',H',I4,r,z⟩:=z;exact⟨v,σ',H',I4.unwish.ofP,r,z⟩
 ·obtain ⟨n,e,C,d,σ',H',fl,o,rfl,I1,hx,tb,hfl,ρ',F',x,R',p',q'⟩:=z
  refine u9q (X:=cxP X pins) I1 hst o hx tb hfl λs2 I2 tr2=>?_
  refine u2p (X:=cxP X pins) (f:=none) I2 hst o hx tr2 λs3 I3 tr3=>?_
  exact hh.out pins s3 σ' H' B F' ρ' x e n T I3.ofP o.ofP tr3 R' p' q'⟩
def Out.all_nx {o:Out}{N N':Rho->Prop}{R:D->Prop}{B C:Rho->Prop}{E:Rho->D->Prop} (h:o.all N R B C E) (k:∀ρ,N ρ->N' ρ):o.all N' R B C E:=by
 cases o with
 | nx r=>exact k _ h
 | _=>exact h
noncomputable def setO (f:Rho->Res D) (j:Nat) (ρ:Rho) (d:D):Out:=(getL ρ j).go ρ λds=>(f ρ).go ρ λk=>if flatD d=true then setI ρ j ds d k else .bad
def v1Q (R:Rel X.K B ρ σ F H) (pv:flatD d=true->Rp X.K F v d)
 (q:(setO f j ρ d).all (λρ'=>∀σ F H,Rel X.K B ρ' σ F H->Q σ H) R0 B0 C0 (λρ x=>∀v σ F H,Rel X.K B ρ σ F H->Rp X.K F v x->xq v σ H)) :
 gSub (tVar j) (liftE X.K xq f) rSetL v σ H Q:=by
 obtain⟨ds,eo,q2⟩:=u9w (u0O q)
 obtain⟨a,h,g1,g2,g3,g4,g5⟩:=R.own j _ eo
 refine⟨.ref a,g1,B,F,ρ,R,Res.all_mono (u0O q2) (λk q3 y F3 H3 st3 py=>?_) λ_ z=>errOf z⟩
 have R3:=R.step st3
 obtain⟨a',h',k1,k2,k3,k4,k5⟩:=R3.own j _ eo
 rw[g1] at k1;cases k1
 by_cases hf:flatD d=true
 ·have q4:(if flatD d=true then setI ρ j ds d k else Out.bad).all _ _ _ _ _:=q3
  rw[if_pos hf] at q4
  cases k5 with
  | l hr =>
   cases py with
   | int n =>
    unfold setI at q4
    dsimp only at q4
    cases e:ixN ds.length n with
    | none=>rw[e] at q4;exact q4.elim
    | some m =>
     rw[e] at q4
     exact⟨a,_,n,m,rfl,rfl,k4,by rw[hr.length];exact e,q4 σ F3 _ (R3.write (e:=eo) g1 (.l (v1T m hr ((pv hf).same st3.ff))))⟩
   | _=>exact q4.elim
 ·have q4:(if flatD d=true then setI ρ j ds d k else Out.bad).all _ _ _ _ _:=q3
  rw[if_neg hf] at q4;exact q4.elim
noncomputable def set2 (f g:Rho->Res D) (j:Nat) (ρ:Rho):D->Out
 | .tup [a,b]=>if flatD b=true then (setO f j ρ a).andThen λρ'=>setO g j ρ' b else .bad
 | _=>.bad
def ds_set2 {x:Str}{p1 p2 q1 q2 pos' pos:Pos}{n:Nat}{i1 i2 value:Expr}{f g fv:Rho->Res D} (hc:X.calm=true) (j:Nat) (h1:DE X xq i1 f) (h2:DE X xq i2 g) (hv:DE X xq value fv) (hN:X.N[j]?=some x:=by rfl) (hvs:Vis X.env.scope x:=by first|exact Or.inl rfl|exact Or.inr (Or.inl rfl)|exact Or.inr (Or.inr rfl)) (hd:(x==("__debug__":Str))=false:=by decide) (hcd:(x==("__classdict__":Str))=false:=by decide)
  (hs:swapsWithSole [.Tuple [.Subscript (.Name x p1) i1 q1,.Subscript (.Name x p2) i2 q2] n pos'] value pos.line X.env=pure false:=by rfl) (hw:swappedStores [.Tuple [.Subscript (.Name x p1) i1 q1,.Subscript (.Name x p2) i2 q2] n pos'] value X.env=pure none:=by rfl)
  (ha1:∀ v,assign (.Subscript (.Name x p1) i1 q1) X.env v=(do
   let ov <- holding [v] (eval (.Name x p1) X.env)
   let iv <- holding [v,ov] (eval i1 X.env)
   standAt q1
   holding [v,ov,iv] (setItem ov iv v)
   release [v,ov,iv] []):=by intro _;rfl)
  (ha2:∀ v,assign (.Subscript (.Name x p2) i2 q2) X.env v=(do
   let ov <- holding [v] (eval (.Name x p2) X.env)
   let iv <- holding [v,ov] (eval i2 X.env)
   standAt q2
   holding [v,ov,iv] (setItem ov iv v)
   release [v,ov,iv] []):=by intro _;rfl) :
  DS X xq (.Assign [.Tuple [.Subscript (.Name x p1) i1 q1,.Subscript (.Name x p2) i2 q2] n pos'] value pos) (λρ=>(fv ρ).go ρ λd=>set2 f g j ρ d) :=
 DS.of (v4s hv.out (v4t (n:=2) hc (u6V (v4u (u3m hN hvs hd hcd) h1.out u9H ha1) (u6V (v4u (u3m hN hvs hd hcd) h2.out u9H ha2) v2c))) hs hw) λB F ρ σ H T R q=>by
  refine⟨B,F,ρ,R,Res.all_mono (u0O q.out) (λd q1 v F1 H1 st pv=>?_) λ_ z=>errOf z⟩
  have R1:=R.step st
  cases pv with
  | @tup a xs ds hq hr =>
   cases hr with
   | nil=>exact q1.elim
   | @cons x1 d1 xs ds r1 hr =>
    cases hr with
    | nil=>exact q1.elim
    | @cons x2 d2 xs ds r2 hr =>
     cases hr with
     | cons _ _=>exact q1.elim
     | nil =>
      have q1:(if flatD d2=true then (setO f j ρ d1).andThen λρ'=>setO g j ρ' d2 else Out.bad).all _ _ _ _ _:=q1
      by_cases hf:flatD d2=true
      ·rw [if_pos hf] at q1
       have z:=u9D q1
       refine⟨a,_,rfl,R1.fh.seqT hq,rfl,_,_,rfl,v1Q (R0:=λd=>∀v F H,Stp B.1 B.2 F H->Rp X.K F v d->T.rt v H) (B0:=λρ=>∀σ F H,Rel X.K B ρ σ F H->T.bk σ H) (C0:=λρ=>∀σ F H,Rel X.K B ρ σ F H->T.ct σ H) R1 (λ_=>r1) ?_⟩
       generalize setO f j ρ d1=o at z |-
       cases o with
       | nx ρ1=>exact λσ2 F2 H2 R2=>⟨_,_,rfl,v1Q R2 (λ_=>r2.flat hf) (Out.all_nx z λ_ q σ F H r=>⟨rfl,q σ F H r⟩)⟩
       | rt d=>exact z
       | bk r=>exact z
       | ct r=>exact z
       | er x r=>exact z
       | bad=>exact z
      ·rw[if_neg hf] at q1;exact q1.elim
  | _=>exact q1.elim
end
end L2
namespace K08
open PySem L2 KW PySem.Spec PyProof.Rows
def bc {a:Prop} (h:¬a->False):a:=Classical.byContradiction h
def top (i:Nat):Stmt:=PySem.Challenge.pw_rulestable_k08_whole_any_text.main.body.getD i (.Pass ⟨0,0,0,0⟩)
def meth (i j:Nat):Stmt:=match top i with
 | .ClassDef (body:=b) ..=>b.getD j (.Pass ⟨0,0,0,0⟩)
 | _=>.Pass ⟨0,0,0,0⟩
def hu64 {A:Around}{k:Nat} (hr:Room k A):A.units+64<cLine:=by have:=hr.un;omega
def hu100 {A:Around}{k:Nat} (hr:Room k A):A.units+100<cLine:=by have:=hr.un;omega
def hu200 {A:Around}{k:Nat} (hr:Room k A):A.units+200<cLine:=by have:=hr.un;omega
structure Adr where
 NoRule:Addr
 NoRanks:Addr
 TooMany:Addr
 NoText:Addr
 NoHead:Addr
 Doubled:Addr
 TableError:Addr
 Grammar:Addr
structure Txt (K:W.Frag) (mg:MG) (A:Adr):Prop where
 z_isinstance:mg "isinstance"=none
 z_str:mg "str"=none
 z_int:mg "int"=none
 z_bool:mg "bool"=none
 z_list:mg "list"=none
 z_tuple:mg "tuple"=none
 z_dict:mg "dict"=none
 z_len:mg "len"=none
 z_all:mg "all"=none
 z_range:mg "range"=none
 z_enumerate:mg "enumerate"=none
 z_sorted:mg "sorted"=none
 z_set:mg "set"=none
 z_reversed:mg "reversed"=none
 z_max:mg "max"=none
 z_min:mg "min"=none
 g_SIDES:GloD K mg "SIDES" (.tup [(.str "left"),(.str "right"),(.str "none")])
 g_MOST_IN_BODY:GloD K mg "MOST_IN_BODY" (.int 4)
 g_MOST_IN_RANK:GloD K mg "MOST_IN_RANK" (.int 10)
 g_MOST_RULES:GloD K mg "MOST_RULES" (.int 20)
 g_MOST_HEADS:GloD K mg "MOST_HEADS" (.int 8)
 g_MOST_SIGNS:GloD K mg "MOST_SIGNS" (.int 10)
 g_MOST_RANKS:GloD K mg "MOST_RANKS" (.int 6)
 g_LONGEST:GloD K mg "LONGEST" (.int 6)
 g_IN_SIGNS:GloD K mg "IN_SIGNS" (.str "abcdefghijklmnopqrstuvwxyz0123456789+-*/()[]=<>,;.!?^&")
 g_GREAT:GloD K mg "GREAT" (.str "ABCDEFGHIJKLMNOPQRSTUVWXYZ")
 g_SMALL_AND_FIGURES:GloD K mg "SMALL_AND_FIGURES" (.str "abcdefghijklmnopqrstuvwxyz0123456789")
 g_OR:GloD K mg "OR" (.str "|")
 g_IS:GloD K mg "IS" (.str ":")
 g_EMPTY:GloD K mg "EMPTY" (.str "~")
 m_NoRule:mg "NoRule"=some (.ref A.NoRule)
 b_NoRule:XBase K A.NoRule
 m_NoRanks:mg "NoRanks"=some (.ref A.NoRanks)
 b_NoRanks:XBase K A.NoRanks
 m_TooMany:mg "TooMany"=some (.ref A.TooMany)
 b_TooMany:XBase K A.TooMany
 m_NoText:mg "NoText"=some (.ref A.NoText)
 b_NoText:XBase K A.NoText
 m_NoHead:mg "NoHead"=some (.ref A.NoHead)
 b_NoHead:XBase K A.NoHead
 m_Doubled:mg "Doubled"=some (.ref A.Doubled)
 b_Doubled:XBase K A.Doubled
 m_TableError:mg "TableError"=some (.ref A.TableError)
 b_TableError:XBase K A.TableError
 cls:Cls K A.Grammar
 na_rules:NoAttr K A.Grammar "rules"
 na_ranks:NoAttr K A.Grammar "ranks"
 na_start:NoAttr K A.Grammar "start"
 x_found:XRead K "found" [A.NoRule,A.NoRanks,A.TooMany]
 x_head:XRead K "head" [A.NoHead]
 x_number:XRead K "number" [A.Doubled]
 x_line:XRead K "line" [A.NoText]
abbrev u1W:Stmt:=top 14
def u4D:FnScope ["thing"] ["thing"] (defScope u1W):=⟨rfl,rfl,rfl,by decide +kernel,rfl,by decide +kernel,by decide +kernel⟩
abbrev u3d:Stmt:=top 15
def u8X:FnScope ["text","allowed"] ["text","allowed"] (defScope u3d):=⟨rfl,rfl,rfl,by decide +kernel,rfl,by decide +kernel,by decide +kernel⟩
abbrev u5i:Stmt:=top 16
def v0K:FnScope ["thing"] ["thing"] (defScope u5i):=⟨rfl,rfl,rfl,by decide +kernel,rfl,by decide +kernel,by decide +kernel⟩
abbrev u5n:Stmt:=top 17
def v0P:FnScope ["thing"] ["thing"] (defScope u5n):=⟨rfl,rfl,rfl,by decide +kernel,rfl,by decide +kernel,by decide +kernel⟩
abbrev u3u:Stmt:=top 18
def u7G:FnScope ["thing"] ["thing"] (defScope u3u):=⟨rfl,rfl,rfl,by decide +kernel,rfl,by decide +kernel,by decide +kernel⟩
abbrev u5m:Stmt:=top 27
def v0O:FnScope ["thing"] ["thing"] (defScope u5m):=⟨rfl,rfl,rfl,by decide +kernel,rfl,by decide +kernel,by decide +kernel⟩
abbrev u3K:Stmt:=top 28
def v0Q:FnScope ["thing"] ["thing"] (defScope u3K):=⟨rfl,rfl,rfl,by decide +kernel,rfl,by decide +kernel,by decide +kernel⟩
abbrev u5k:Stmt:=top 29
def v0M:FnScope ["thing"] ["thing"] (defScope u5k):=⟨rfl,rfl,rfl,by decide +kernel,rfl,by decide +kernel,by decide +kernel⟩
abbrev u5j:Stmt:=top 30
def v0L:FnScope ["thing"] ["thing"] (defScope u5j):=⟨rfl,rfl,rfl,by decide +kernel,rfl,by decide +kernel,by decide +kernel⟩
abbrev u1t:Stmt:=top 31
def u4E:FnScope ["thing"] ["thing"] (defScope u1t):=⟨rfl,rfl,rfl,by decide +kernel,rfl,by decide +kernel,by decide +kernel⟩
abbrev u5l:Stmt:=top 32
def v0N:FnScope ["thing"] ["thing"] (defScope u5l):=⟨rfl,rfl,rfl,by decide +kernel,rfl,by decide +kernel,by decide +kernel⟩
abbrev u3c:Stmt:=top 33
def u8W:FnScope ["rules"] ["rules"] (defScope u3c):=⟨rfl,rfl,rfl,by decide +kernel,rfl,by decide +kernel,by decide +kernel⟩
abbrev u4f:Stmt:=top 34
def u2u:FnScope ["rules","found","rule","symbol"] ["rules"] (defScope u4f):=⟨rfl,rfl,rfl,by decide +kernel,rfl,by decide +kernel,by decide +kernel⟩
abbrev u2N:Stmt:=top 35
def u1I:FnScope ["rules","ahead","number","rule"] ["rules"] (defScope u2N):=⟨rfl,rfl,rfl,by decide +kernel,rfl,by decide +kernel,by decide +kernel⟩
abbrev u1q:Stmt:=top 36
def u0U:FnScope ["rules","known","rule","symbol"] ["rules"] (defScope u1q):=⟨rfl,rfl,rfl,by decide +kernel,rfl,by decide +kernel,by decide +kernel⟩
abbrev u1r:Stmt:=top 37
def u1k:FnScope ["rules","heads","signs"] ["rules"] (defScope u1r):=⟨rfl,rfl,rfl,by decide +kernel,rfl,by decide +kernel,by decide +kernel⟩
abbrev u2O:Stmt:=top 38
def u1J:FnScope ["ranks","ahead","rank","sign"] ["ranks"] (defScope u2O):=⟨rfl,rfl,rfl,by decide +kernel,rfl,by decide +kernel,by decide +kernel⟩
abbrev u1v:Stmt:=top 45
def u4G:FnScope ["words"] ["words"] (defScope u1v):=⟨rfl,rfl,rfl,by decide +kernel,rfl,by decide +kernel,by decide +kernel⟩
abbrev u1h:Stmt:=top 46
def u4e:FnScope ["words"] ["words"] (defScope u1h):=⟨rfl,rfl,rfl,by decide +kernel,rfl,by decide +kernel,by decide +kernel⟩
abbrev u1u:Stmt:=top 47
def u4F:FnScope ["words"] ["words"] (defScope u1u):=⟨rfl,rfl,rfl,by decide +kernel,rfl,by decide +kernel,by decide +kernel⟩
abbrev u5o:Stmt:=top 48
def v0R:FnScope ["words"] ["words"] (defScope u5o):=⟨rfl,rfl,rfl,by decide +kernel,rfl,by decide +kernel,by decide +kernel⟩
abbrev u1E:Stmt:=top 49
def u0Q:FnScope ["text","rules","ranks","line","row","words"] ["text"] (defScope u1E):=⟨rfl,rfl,rfl,by decide +kernel,rfl,by decide +kernel,by decide +kernel⟩
abbrev u4k:Stmt:=top 51
def u8V:FnScope ["_law_script","_law_k"] ["_law_script","_law_k"] (defScope u4k):=⟨rfl,rfl,rfl,by decide +kernel,rfl,by decide +kernel,by decide +kernel⟩
abbrev u4i:Stmt:=top 52
def u3q:FnScope ["_law_cell_here","_law_k","_law_number"] ["_law_cell_here","_law_k"] (defScope u4i):=⟨rfl,rfl,rfl,by decide +kernel,rfl,by decide +kernel,by decide +kernel⟩
abbrev u5g:Stmt:=top 53
def u1Q:FnScope ["_law_script","_law_at","_law_base","_law_count","_law_cell_here","_law_left","_law_found","_law_k"] ["_law_script","_law_at","_law_base","_law_count"] (defScope u5g):=⟨rfl,rfl,rfl,by decide +kernel,rfl,by decide +kernel,by decide +kernel⟩
abbrev u2y:Stmt:=top 54
def u2K:FnScope ["_law_cell_here","_law_many","_law_letters","_law_tail"] ["_law_cell_here","_law_many"] (defScope u2y):=⟨rfl,rfl,rfl,by decide +kernel,rfl,by decide +kernel,by decide +kernel⟩
abbrev u2w:Stmt:=top 55
def u4u:FnScope ["_law_cell_here","_law_many","_law_some"] ["_law_cell_here","_law_many"] (defScope u2w):=⟨rfl,rfl,rfl,by decide +kernel,rfl,by decide +kernel,by decide +kernel⟩
abbrev u3r:Stmt:=top 56
def u4v:FnScope ["_law_number","_law_some"] ["_law_number"] (defScope u3r):=⟨rfl,rfl,rfl,by decide +kernel,rfl,by decide +kernel,by decide +kernel⟩
abbrev u2P:Stmt:=top 57
def u6M:FnScope ["_law_number","_law_heads_here","_law_signs_here"] ["_law_number","_law_heads_here","_law_signs_here"] (defScope u2P):=⟨rfl,rfl,rfl,by decide +kernel,rfl,by decide +kernel,by decide +kernel⟩
abbrev u1a:Stmt:=top 58
def u0u:FnScope ["_law_script","_law_at","_law_heads_here","_law_signs_here","_law_more","_law_rules_here","_law_k","_law_draws","_law_head","_law_some","_law_body"] ["_law_script","_law_at","_law_heads_here","_law_signs_here","_law_more"] (defScope u1a):=⟨rfl,rfl,rfl,by decide +kernel,rfl,by decide +kernel,by decide +kernel⟩
abbrev u2x:Stmt:=top 59
def u0N:FnScope ["_law_script","_law_at","_law_draws","_law_names","_law_signs_here","_law_rules_here","_law_head","_law_body","_law_symbols","_law_heads_here"] ["_law_script","_law_at"] (defScope u2x):=⟨rfl,rfl,rfl,by decide +kernel,rfl,by decide +kernel,by decide +kernel⟩
abbrev u1T:Stmt:=top 60
def u1m:FnScope ["_law_script","_law_rules_here","_law_draws","_law_some","_law_head","_law_body","_law_rule"] ["_law_script","_law_rules_here"] (defScope u1T):=⟨rfl,rfl,rfl,by decide +kernel,rfl,by decide +kernel,by decide +kernel⟩
abbrev u3s:Stmt:=top 61
def u1n:FnScope ["_law_script","_law_at","_law_draws","_law_pool","_law_ranks_here","_law_k","_law_side"] ["_law_script","_law_at"] (defScope u3s):=⟨rfl,rfl,rfl,by decide +kernel,rfl,by decide +kernel,by decide +kernel⟩
abbrev u1K:Stmt:=top 62
def u5S:FnScope ["_law_thing"] ["_law_thing"] (defScope u1K):=⟨rfl,rfl,rfl,by decide +kernel,rfl,by decide +kernel,by decide +kernel⟩
abbrev u1N:Stmt:=top 63
def u5V:FnScope ["_law_thing"] ["_law_thing"] (defScope u1N):=⟨rfl,rfl,rfl,by decide +kernel,rfl,by decide +kernel,by decide +kernel⟩
abbrev u1L:Stmt:=top 64
def u5T:FnScope ["_law_thing"] ["_law_thing"] (defScope u1L):=⟨rfl,rfl,rfl,by decide +kernel,rfl,by decide +kernel,by decide +kernel⟩
abbrev u1U:Stmt:=top 65
def u1G:FnScope ["_law_rules_here","_law_number","_law_rule"] ["_law_rules_here"] (defScope u1U):=⟨rfl,rfl,rfl,by decide +kernel,rfl,by decide +kernel,by decide +kernel⟩
abbrev u1s:Stmt:=top 66
def u0M:FnScope ["_law_rules_here","_law_heads_here","_law_signs_here","_law_head","_law_body","_law_symbol_here"] ["_law_rules_here"] (defScope u1s):=⟨rfl,rfl,rfl,by decide +kernel,rfl,by decide +kernel,by decide +kernel⟩
abbrev u1M:Stmt:=top 67
def u5U:FnScope ["_law_thing"] ["_law_thing"] (defScope u1M):=⟨rfl,rfl,rfl,by decide +kernel,rfl,by decide +kernel,by decide +kernel⟩
abbrev u1V:Stmt:=top 68
def u1g:FnScope ["_law_ranks_here","_law_known","_law_rank_here","_law_sign"] ["_law_ranks_here"] (defScope u1V):=⟨rfl,rfl,rfl,by decide +kernel,rfl,by decide +kernel,by decide +kernel⟩
abbrev u5h:Stmt:=top 69
def u2Y:FnScope ["_law_rules_here","_law_ranks_here","_law_due_here"] ["_law_rules_here","_law_ranks_here"] (defScope u5h):=⟨rfl,rfl,rfl,by decide +kernel,rfl,by decide +kernel,by decide +kernel⟩
abbrev u3t:Stmt:=top 70
def u4w:FnScope ["_law_thing","_law_kinds_here"] ["_law_thing"] (defScope u3t):=⟨rfl,rfl,rfl,by decide +kernel,rfl,by decide +kernel,by decide +kernel⟩
abbrev u4j:Stmt:=top 71
def u8T:FnScope ["_law_told_here","_law_due_here"] ["_law_told_here","_law_due_here"] (defScope u4j):=⟨rfl,rfl,rfl,by decide +kernel,rfl,by decide +kernel,by decide +kernel⟩
abbrev u4g:Stmt:=top 72
def u2v:FnScope ["_law_number","_law_some"] ["_law_number"] (defScope u4g):=⟨rfl,rfl,rfl,by decide +kernel,rfl,by decide +kernel,by decide +kernel⟩
abbrev u2m:Stmt:=top 73
def u1B:FnScope ["_law_script","_law_at","_law_draws","_law_rows","_law_k","_law_words"] ["_law_script","_law_at"] (defScope u2m):=⟨rfl,rfl,rfl,by decide +kernel,rfl,by decide +kernel,by decide +kernel⟩
abbrev u3b:Stmt:=top 74
def u1S:FnScope ["_law_script","_law_at","_law_rules_here","_law_rows","_law_head","_law_body"] ["_law_script","_law_at"] (defScope u3b):=⟨rfl,rfl,rfl,by decide +kernel,rfl,by decide +kernel,by decide +kernel⟩
abbrev u2Q:Stmt:=top 75
def u0l:FnScope ["_law_rows","_law_draws","_law_way","_law_at","_law_other","_law_place","_law_number","_law_words","_law_found"] ["_law_rows","_law_draws"] (defScope u2Q):=⟨rfl,rfl,rfl,by decide +kernel,rfl,by decide +kernel,by decide +kernel⟩
abbrev u3a:Stmt:=top 76
def u8U:FnScope ["_law_words"] ["_law_words"] (defScope u3a):=⟨rfl,rfl,rfl,by decide +kernel,rfl,by decide +kernel,by decide +kernel⟩
abbrev u2b:Stmt:=top 77
def u0W:FnScope ["_law_words","_law_bodies_here","_law_word_here","_law_found","_law_body","_law_odd"] ["_law_words"] (defScope u2b):=⟨rfl,rfl,rfl,by decide +kernel,rfl,by decide +kernel,by decide +kernel⟩
abbrev u2Z:Stmt:=top 78
def u0V:FnScope ["_law_text","_law_rules_here","_law_ranks_here","_law_line","_law_row_here","_law_words","_law_rank_here","_law_bodies_here"] ["_law_text"] (defScope u2Z):=⟨rfl,rfl,rfl,by decide +kernel,rfl,by decide +kernel,by decide +kernel⟩
abbrev u4h:Stmt:=top 79
def u0s:FnScope ["_law_text","_law_told_here","_law_grammar","e"] ["_law_text"] (defScope u4h):=⟨rfl,rfl,rfl,by decide +kernel,rfl,by decide +kernel,by decide +kernel⟩
abbrev u2h:Stmt:=top 80
def u0R:FnScope ["_law_text","_law_line","_law_rules_here","_law_ranks_here","_law_due_here"] ["_law_text"] (defScope u2h):=⟨rfl,rfl,rfl,by decide +kernel,rfl,by decide +kernel,by decide +kernel⟩
abbrev u6N:Stmt:=top 81
def u3J:FnScope ["_law_script","_law_thing","_law_rows","_law_text","_law_at","_law_draws","_law_some"] ["_law_script"] (defScope u6N):=⟨rfl,rfl,rfl,by decide +kernel,rfl,by decide +kernel,by decide +kernel⟩
noncomputable def isStrD:D->Bool
 | .str _=>true
 | _=>false
noncomputable def isTupD:D->Bool
 | .tup _=>true
 | _=>false
noncomputable def isLstD:D->Bool
 | .lst _=>true
 | _=>false
def v4l {d:D} (h:selfD d=true):gIsA [d,.ty "str"]=.ok (.bl (isStrD d)):=by cases d<;>first|rfl|simp[selfD] at h
def u9B {d:D} (h:selfD d=true):gIsA [d,.ty "tuple"]=.ok (.bl (isTupD d)):=by cases d<;>first|rfl|simp[selfD] at h
def a_lst {d:D} (h:selfD d=true):gIsA [d,.ty "list"]=.ok (.bl (isLstD d)):=by cases d<;>first|rfl|simp[selfD] at h
def a_lt {d:D} (h:selfD d=true):gIsA [d,.tup [.ty "list",.ty "tuple"]]=.ok (.bl (isLstD d||isTupD d)):=by cases d<;>first|rfl|simp[selfD] at h
noncomputable def signT:Str:="abcdefghijklmnopqrstuvwxyz0123456789+-*/()[]=<>,;.!?^&"
noncomputable def greatT:Str:="ABCDEFGHIJKLMNOPQRSTUVWXYZ"
noncomputable def smallT:Str:="abcdefghijklmnopqrstuvwxyz0123456789"
@[simp] theorem fold_sign:Str.ofString "abcdefghijklmnopqrstuvwxyz0123456789+-*/()[]=<>,;.!?^&"=signT:=rfl
@[simp] theorem fold_great:Str.ofString "ABCDEFGHIJKLMNOPQRSTUVWXYZ"=greatT:=rfl
@[simp] theorem fold_small:Str.ofString "abcdefghijklmnopqrstuvwxyz0123456789"=smallT:=rfl
noncomputable def fstC (z:Str):Str:=⟨#[z.cps.getD 0 0]⟩
noncomputable def tailC (z:Str):Str:=Txt.slice z (some 1) none
noncomputable def onlyS (z a:Str):Bool:=z.cps.toList.all λc=>inS ⟨#[c]⟩ a
noncomputable def shortS (z:Str):Bool:=decide (1<=z.length)&&decide (z.length<=6)
noncomputable def sgnS (z:Str):Bool:=shortS z&&onlyS z signT
noncomputable def hdS (z:Str):Bool:=shortS z&&(inS (fstC z) greatT&&onlyS (tailC z) smallT)
noncomputable def sgnD:D->Bool
 | .str z=>sgnS z
 | _=>false
noncomputable def hdD:D->Bool
 | .str z=>hdS z
 | _=>false
noncomputable def shortD:D->Bool
 | .str z=>shortS z
 | _=>false
noncomputable def symD (d:D):Bool:=sgnD d||hdD d
noncomputable def pairD:D->Bool
 | .tup [_,_]=>true
 | _=>false
noncomputable def bodyD:D->Bool
 | .tup ds=>decide (ds.length<=4)&&ds.all symD
 | _=>false
noncomputable def ruleD:D->Bool
 | .tup [h,b]=>hdD h&&bodyD b
 | _=>false
noncomputable def goodS (z:Str):Bool:=PyData.strOk z&&decide (z.length<=1000)
mutual
noncomputable def goodD:D->Bool
 | .non | .bl _ | .int _=>true
 | .str z=>goodS z
 | .lst ds | .tup ds=>goodDs ds
 | .dct ps=>ps.isEmpty
 | _=>false
noncomputable def goodDs:List D->Bool
 | []=>true
 | d::ds=>goodD d&&goodDs ds
end
mutual
theorem u0D:∀{d:D},goodD d=true->selfD d=true
 | .non,_ | .bl _,_ | .int _,_ | .str _,_=>rfl
 | .lst ds,h=>u4n (ds:=ds) h
 | .tup ds,h=>u4n (ds:=ds) h
 | .dct ps,h=>h
 | .ty _,h=>by simp[goodD] at h
 | .ins _ _,h=>by simp[goodD] at h
 | .exc _ _,h=>by simp[goodD] at h
 | .dn _ _,h=>by simp[goodD] at h
theorem u4n:∀{ds:List D},goodDs ds=true->selfDs ds=true
 | [],_=>rfl
 | d::ds,h=>by
  have h:=s9.mp h
  exact s9.mpr ⟨u0D h.1,u4n h.2⟩
end
theorem u7e:∀{ds:List D},goodDs ds=true->∀d∈ds,goodD d=true
 | [],_,d,h=>(z1G h).elim
 | x::ds,hs,d,h=>by
  have hs:=s9.mp hs
  rcases z8.mp h with rfl|h
  ·exact hs.1
  ·exact u7e hs.2 d h
def u2B {ds:List D} (h:goodD (.lst ds)=true):∀d∈ds,goodD d=true:=u7e (by simpa[goodD] using h)
def u0H {ds:List D} (h:goodD (.tup ds)=true):∀d∈ds,goodD d=true:=u7e (by simpa[goodD] using h)
def P1 (p:D->Bool) (G:FD):Prop:=∀d,goodD d=true->G [d]=.ok (.bl (p d))
theorem u8A {α:Type} (p:α->Bool):∀l:List α,blsOf (l.map λd=>D.bl (p d))=some (l.map p)
 | []=>rfl
 | x::l=>by simp[blsOf,u8A p l]
def u5P (z:Str):(chars z).length=z.length:=by unfold chars;rw[v6,r9];rfl
def u0S {n:Nat} (h:n<=1000):n<=sizeLine:=v5 h (by decide)
def u3I {z:Str} (h:shortS z=true):z.length<=6:=by
 unfold shortS at h
 simp at h
 exact h.2
@[simp] theorem u4U {α:Type} (p:α->Bool) (l:List α):gAll [.lst (l.map λd=>D.bl (p d))]=.ok (.bl (l.all p)):=by
 show(match blsOf (l.map λd=>D.bl (p d)) with|some bs=>Res.ok (D.bl (bs.all id))|none=>.bad)=_
 rw[u8A]
 simp[List.all_map,Function.comp_def]
noncomputable def chIn (a:Str):D->Bool
 | .str c=>inS c a
 | _=>false
def u5R (z a:Str):((chars z).all λd=>chIn a d)=onlyS z a:=by
 unfold chars onlyS
 rw[List.all_map]
 rfl
def v3b (z:Str):z.cps.toList.length=z.length:=by rw[r9];rfl
def ix0 {z:Str} (c:shortS z=true):dIx (.str z) (.int 0)=.ok (.str (fstC z)):=by
 have h:0<z.length:=by unfold shortS at c;simp at c;omega
 have e:atI z.cps.toList 0=some (z.cps.getD 0 0):=by
  have:=u7u (xs:=z.cps.toList) (j:=0) (v:=z.cps.getD 0 0) (by
   have h':0<z.cps.size:=h
   rw[z1F]
   simp[Array.getD,h'])
  exact this
 show(match atI z.cps.toList 0 with|some c=>Res.ok (D.str ⟨#[c]⟩)|none=>.bad)=_
 rw[e]
 rfl
def sl1 (z:Str):dSl (.str z) (some 1) none=.ok (.str (tailC z)):=rfl
def u7B (z:Str):(tailC z).length<=z.length:=by
 unfold tailC
 rw[<- v3b,<- v3b,u6l,z1B]
 omega
noncomputable def sideD:D->Bool
 | .str z=>z=="left"||(z=="right"||z=="none")
 | _=>false
noncomputable def rsgD:D->Bool
 | .tup ds=>decide (1<=ds.length)&&(decide (ds.length<=10)&&ds.all sgnD)
 | _=>false
noncomputable def rankD:D->Bool
 | .tup [s,b]=>sideD s&&rsgD b
 | _=>false
def u2c {z:Str} (h:goodD (.str z)=true):PyData.strOk z=true/\z.length<=1000:=by simpa[goodD,goodS] using h
def u1l {z:Str} (h:PyData.strOk z=true):cmpD (.str z)=.ok (.str z):=by
 have:SeqAt.shaped (.str z)=true:=by simp[SeqAt.shaped,PyData.canLay0,h,PyData.depth]
 simp[cmpD,D.py,this]
def u2V (a b:Str):PyData.eqv (.str a) (.str b)=(a==b):=rfl
def u9F (a b:Str):(a==b)=(b==a):=by
 rw[z1D]
 simp only[beq_iff_eq]
 exact eq_comm
def v3W {z:Str} (h:PyData.strOk z=true):dIn (.str z) (.tup [.str "left",.str "right",.str "none"])=.ok (.bl (sideD (.str z))):=by
 have e1:cmpD (.str "left")=.ok (.str "left"):=u1l (by decide +kernel)
 have e2:cmpD (.str "right")=.ok (.str "right"):=u1l (by decide +kernel)
 have e3:cmpD (.str "none")=.ok (.str "none"):=u1l (by decide +kernel)
 show inD (.str z) _ false=_
 simp[inD,cmpDs,u1l h,e1,e2,e3,sideD,u2V,u9F z]
@[simp] theorem len_str (z:Str):gLen [.str z]=.ok (.int z.length):=rfl
@[simp] theorem len_tup (ds:List D):gLen [.tup ds]=.ok (.int ds.length):=rfl
@[simp] theorem u1x (ds:List D):gLen [.lst ds]=.ok (.int ds.length):=rfl
def ei8 (i j:Int):dEq (.int i) (.int j)=.ok (.bl (i==j)):=rfl
def ix_tn {ds:List D}{i:Nat}{d:D} (h:ds[i]?=some d):dIx (.tup ds) (.int i)=.ok d:=by
 show(match atI ds i with|some d=>Res.ok d|none=>.bad)=_
 rw[u7u h]
def u6e {ds:List D}{i:Nat}{d:D} (h:ds[i]?=some d):dIx (.lst ds) (.int i)=.ok d:=by
 show(match atI ds i with|some d=>Res.ok d|none=>.bad)=_
 rw[u7u h]
def ix_0 (x:D) (l:List D):dIx (.tup (x::l)) (.int 0)=.ok x:=ix_tn (i:=0) rfl
def ix_1 (x y:D) (l:List D):dIx (.tup (x::y::l)) (.int 1)=.ok y:=ix_tn (i:=1) rfl
def u6d (x:D) (l:List D):dIx (.lst (x::l)) (.int 0)=.ok x:=u6e (i:=0) rfl
def u7l (ds:List D):dEqX (.lst ds) (.lst [])=.ok (.bl ds.isEmpty):=by
 cases ds with
 | nil =>
  unfold dEqX
  rw[if_neg (by simp[lenNe]),if_pos ⟨rfl,by simp[selfD,selfDs],by simp[depD,depDs]⟩]
  rfl
 | cons x l =>
  unfold dEqX
  rw[if_pos (by simp[lenNe])]
  rfl
def u2S (i j:Int):dNeX (.int i) (.int j)=.ok (.bl (!(i==j))):=rfl
def u3j {α:Type} (p:α->Bool) (l:List α):(l.filter λx=>!p x).isEmpty=l.all p:=by
 induction l with
 | nil=>rfl
 | cons x l ih=>by_cases c:p x=true<;>simp[List.filter_cons,c,ih]
section
variable {P:Program}{w:World}{K:W.Frag}{mg:MG}{base:Heap}{f:Addr}{fd:FuncData}{A:Adr}
set_option tactic.hygienic true in
def u4K (F:Fun K "is_short_text" "is_short_text" u1W f fd) (T:Txt K mg A):∃G,FnOk P w K mg base CX0 1 f fd ["thing"] (spF K G)/\P1 shortD G:=by
 refine⟨_,F.okT (k:=0) u4D (λcdv Ar outer s H E hr=>u0e (u0g (u2s (d_B u2a T.z_isinstance (by decide +kernel) (u0a (dv 0) (u0a (d_ty T.z_str (T:="str") (by decide +kernel)) u0b))) (u3D (v2Y o_le o_le u0c (d_B u0L T.z_len (by decide +kernel) (u0a (dv 0) u0b)) (u3W T.g_LONGEST)))))),?_⟩
 intro d h
 simp[runT,startD,v4l (u0D h)]
 cases d<;>simp[isStrD,shortD,gLen]
 rename_i z
 unfold shortS
 by_cases c:1<=z.length
 ·have c':(1:Int)<=z.length:=by omega
  simp[c,c']
  omega
 ·have c':¬ (1:Int)<=z.length:=by omega
  simp[c,c']
def u9l (F:Fun K "has_only" "has_only" u3d f fd) (T:Txt K mg A):∃G,FnOk P w K mg base CX0 1 f fd ["text","allowed"] (spF K G)/\∀z a,z.length<=1000->G [.str z,.str a]=.ok (.bl (onlyS z a)):=by
 refine⟨_,F.okT (k:=0) u8X (λcdv Ar outer s H E hr=>u0e (u0g (d_B (v1y rfl) T.z_all (by decide +kernel) (u0a (DN.de (u0T ["mark"] [1] rfl (u0q (sc:=defScope u3d) (N:=["text","allowed"]) (by decide +kernel)) (u0A (dv 0)) (dg_n (show(["mark","allowed"]:List Str).Nodup by decide +kernel)) u1A (u2I (o_in (hu100 hr)) (dv 0) (dv 1)))) u0b)))),?_⟩
 intro z a hz
 simp[runT,startD]
 rw[show items (.str z)=.ok (chars z) from rfl,zb,u0w (by rw[u5P];exact u0S hz),u1y (λd=>D.bl (chIn a d)) (λd hd=>?_)]
 ·simp only[zb,toD_l,u4U,u3n,zg,outR_rt,u5R]
 ·obtain ⟨c,_,rfl⟩:=w6.mp hd
  refine⟨_,rfl,rfl,?_⟩
  simp[rhoC]
  rfl
set_option tactic.hygienic true in
def v0X {a0j:FD} (a0r:Callee P w K mg base 1 "is_short_text" ["thing"] (spF K a0j)) {a1e:FD} (a2e:Callee P w K mg base 1 "has_only" ["text","allowed"] (spF K a1e)) (a4g:P1 shortD a0j) (a4t:∀z a,z.length<=1000->a1e [.str z,.str a]=.ok (.bl (onlyS z a))) (F:Fun K "is_sign" "is_sign" u5i f fd) (T:Txt K mg A):∃G,FnOk P w K mg base CX0 2 f fd ["thing"] (spF K G)/\P1 sgnD G:=by
 refine⟨_,F.okT (k:=1) v0K (λcdv Ar outer s H E hr=>u0e (u0g (u2s (d_fn a0r hr (u0a (dv 0) u0b)) (u3D (d_fn a2e hr (u0a (dv 0) (u0a (u3W T.g_IN_SIGNS) u0b))))))),?_⟩
 intro d h
 simp[runT,startD,a4g d h]
 cases d<;>simp[shortD,sgnD,sgnS]
 rename_i z
 by_cases c:shortS z=true
 ·simp[c,a4t z _ (by have:=u3I c;omega)]
 ·simp[c]
set_option tactic.hygienic true in
def v1c {a0j:FD} (a0r:Callee P w K mg base 1 "is_short_text" ["thing"] (spF K a0j)) {a1e:FD} (a2e:Callee P w K mg base 1 "has_only" ["text","allowed"] (spF K a1e)) (a4g:P1 shortD a0j) (a4t:∀z a,z.length<=1000->a1e [.str z,.str a]=.ok (.bl (onlyS z a))) (F:Fun K "is_head" "is_head" u5n f fd) (T:Txt K mg A):∃G,FnOk P w K mg base CX0 2 f fd ["thing"] (spF K G)/\P1 hdD G:=by
 refine⟨_,F.okT (k:=1) v0P (λcdv Ar outer s H E hr=>u0e (u0g (u2s (d_fn a0r hr (u0a (dv 0) u0b)) (u2s (u2I (o_in (hu100 hr)) (d_ix x_ix (dv 0) u0c) (u3W T.g_GREAT)) (u3D (d_fn a2e hr (u0a (d_sl (dv 0) (u0t u0c) u0x) (u0a (u3W T.g_SMALL_AND_FIGURES) u0b)))))))),?_⟩
 intro d h
 simp[runT,startD,a4g d h]
 cases d<;>simp[shortD,hdD,hdS]
 rename_i z
 by_cases c:shortS z=true
 ·have e2:(tailC z).length<=1000:=by
   have:=u7B z
   have:=u3I c
   omega
  simp[c,ix0 c,asI,sl1,dIn,dInG,a4t _ smallT e2]
  by_cases k:inS (fstC z) greatT=true<;>simp[k]
 ·simp[c]
def u7U {a0i:FD} (a0q:Callee P w K mg base 2 "is_sign" ["thing"] (spF K a0i)) {a0k:FD} (a0s:Callee P w K mg base 2 "is_head" ["thing"] (spF K a0k)) (a0g:P1 sgnD a0i) (a0h:P1 hdD a0k) (F:Fun K "is_symbol" "is_symbol" u3u f fd) (T:Txt K mg A):∃G,FnOk P w K mg base CX0 3 f fd ["thing"] (spF K G)/\P1 symD G:=by
 refine⟨_,F.okT (k:=2) u7G (λcdv Ar outer s H E hr=>u0e (u0g (d_or (d_fn a0q hr (u0a (dv 0) u0b)) (u3D (d_fn a0s hr (u0a (dv 0) u0b)))))),?_⟩
 intro d h
 simp[runT,startD,a0g d h,a0h d h,symD]
 by_cases c:sgnD d=true<;>simp[c]
set_option tactic.hygienic true in
def v1b (F:Fun K "is_pair" "is_pair" u5m f fd) (T:Txt K mg A):∃G,FnOk P w K mg base CX0 1 f fd ["thing"] (spF K G)/\P1 pairD G:=by
 refine⟨_,F.okT (k:=0) v0O (λcdv Ar outer s H E hr=>u0e (u0g (u2s (d_B u2a T.z_isinstance (by decide +kernel) (u0a (dv 0) (u0a (d_ty T.z_tuple (T:="tuple") (by decide +kernel)) u0b))) (u3D (u2I (o_eq (hu64 hr)) (d_B u0L T.z_len (by decide +kernel) (u0a (dv 0) u0b)) u0c))))),?_⟩
 intro d h
 simp[runT,startD,u9B (u0D h)]
 cases d<;>simp[isTupD,pairD,gLen]
 rename_i ds
 rw[ei8]
 match ds with
 | []=>rfl
 | [_]=>rfl
 | [_,_]=>rfl
 | _::_::_::l=>simp[pairD];omega
set_option tactic.hygienic true in
def v1d {a0v:FD} (a1t:Callee P w K mg base 3 "is_symbol" ["thing"] (spF K a0v)) (a1s:P1 symD a0v) (F:Fun K "is_body" "is_body" u3K f fd) (T:Txt K mg A):∃G,FnOk P w K mg base CX0 4 f fd ["thing"] (spF K G)/\P1 bodyD G:=by
 refine⟨_,F.okT (k:=3) v0Q (λcdv Ar outer s H E hr=>u0e (u0g (u2s (d_B u2a T.z_isinstance (by decide +kernel) (u0a (dv 0) (u0a (d_ty T.z_tuple (T:="tuple") (by decide +kernel)) u0b))) (u2s (u2I o_le (d_B u0L T.z_len (by decide +kernel) (u0a (dv 0) u0b)) (u3W T.g_MOST_IN_BODY)) (u3D (d_B (v1y rfl) T.z_all (by decide +kernel) (u0a (DN.de (u0T ["part"] [] rfl (u0q (sc:=defScope u3K) (N:=["thing"]) (by decide +kernel)) (u0A (dv 0)) (dg_n (show(["part"]:List Str).Nodup by decide +kernel)) u1A (d_fn a1t hr (u0a (dv 0) u0b)))) u0b))))))),?_⟩
 intro d h
 simp[runT,startD,u9B (u0D h)]
 cases d<;>simp[isTupD,bodyD,gLen]
 rename_i ds
 by_cases c:ds.length<=4
 ·have c':(ds.length:Int)<=4:=by omega
  simp[c,c']
  rw[show items (.tup ds)=.ok ds from rfl,zb,u0w (u0S (by omega)),u1y (λd=>D.bl (symD d)) (λd hd=>?_)]
  ·simp
  ·exact⟨_,rfl,rfl,by simp[rhoC,a1s d (u0H h d hd)]⟩
 ·have c':¬ (ds.length:Int)<=4:=by omega
  simp[c,c']
set_option tactic.hygienic true in
def v0Z {a1o:FD} (a2x:Callee P w K mg base 1 "is_pair" ["thing"] (spF K a1o)) {a0k:FD} (a0s:Callee P w K mg base 2 "is_head" ["thing"] (spF K a0k)) {a4f:FD} (a4z:Callee P w K mg base 4 "is_body" ["thing"] (spF K a4f)) (a2t:P1 pairD a1o) (a0h:P1 hdD a0k) (a4v:P1 bodyD a4f) (F:Fun K "is_rule" "is_rule" u5k f fd) (T:Txt K mg A):∃G,FnOk P w K mg base CX0 5 f fd ["thing"] (spF K G)/\P1 ruleD G:=by
 refine⟨_,F.okT (k:=4) v0M (λcdv Ar outer s H E hr=>u0e (u0g (u2s (d_fn a2x hr (u0a (dv 0) u0b)) (u2s (d_fn a0s hr (u0a (d_ix x_ix (dv 0) u0c) u0b)) (u3D (d_fn a4z hr (u0a (d_ix x_ix (dv 0) u0c) u0b))))))),?_⟩
 intro d h
 simp[runT,startD,a2t d h]
 cases d<;>simp[pairD,ruleD]
 rename_i ds
 match ds,h with
 | [],_=>simp[pairD,ruleD]
 | [_],_=>simp[pairD,ruleD]
 | _::_::_::_,_=>simp[pairD,ruleD]
 | [x,y],h =>
  have h1:=a0h x (u0H h x (by simp))
  have h2:=a4v y (u0H h y (by simp))
  simp[pairD,ruleD,ix_0,ix_1,h1,h2]
  by_cases c:hdD x=true<;>simp[c]
set_option tactic.hygienic true in
def v0Y (F:Fun K "is_side" "is_side" u5j f fd) (T:Txt K mg A):∃G,FnOk P w K mg base CX0 1 f fd ["thing"] (spF K G)/\P1 sideD G:=by
 refine⟨_,F.okT (k:=0) v0L (λcdv Ar outer s H E hr=>u0e (u0g (u2s (d_B u2a T.z_isinstance (by decide +kernel) (u0a (dv 0) (u0a (d_ty T.z_str (T:="str") (by decide +kernel)) u0b))) (u3D (u2I (o_in (hu100 hr)) (dv 0) (u3W T.g_SIDES)))))),?_⟩
 intro d h
 simp[runT,startD,v4l (u0D h)]
 cases d<;>simp[isStrD]
 case str z=>rw[v3W (u2c h).1];simp
 all_goals rfl
set_option tactic.hygienic true in
def u4L {a0i:FD} (a0q:Callee P w K mg base 2 "is_sign" ["thing"] (spF K a0i)) (a0g:P1 sgnD a0i) (F:Fun K "is_rank_signs" "is_rank_signs" u1t f fd) (T:Txt K mg A):∃G,FnOk P w K mg base CX0 3 f fd ["thing"] (spF K G)/\P1 rsgD G:=by
 refine⟨_,F.okT (k:=2) u4E (λcdv Ar outer s H E hr=>u0e (u0g (u2s (d_B u2a T.z_isinstance (by decide +kernel) (u0a (dv 0) (u0a (d_ty T.z_tuple (T:="tuple") (by decide +kernel)) u0b))) (u2s (v2Y o_le o_le u0c (d_B u0L T.z_len (by decide +kernel) (u0a (dv 0) u0b)) (u3W T.g_MOST_IN_RANK)) (u3D (d_B (v1y rfl) T.z_all (by decide +kernel) (u0a (DN.de (u0T ["part"] [] rfl (u0q (sc:=defScope u1t) (N:=["thing"]) (by decide +kernel)) (u0A (dv 0)) (dg_n (show(["part"]:List Str).Nodup by decide +kernel)) u1A (d_fn a0q hr (u0a (dv 0) u0b)))) u0b))))))),?_⟩
 intro d h
 simp[runT,startD,u9B (u0D h)]
 cases d<;>simp[isTupD,rsgD,gLen]
 rename_i ds
 by_cases c0:1<=ds.length
 ·have c0':(1:Int)<=ds.length:=by omega
  by_cases c:ds.length<=10
  ·have c':(ds.length:Int)<=10:=by omega
   simp[c,c',c0,c0']
   rw[show items (.tup ds)=.ok ds from rfl,zb,u0w (u0S (by omega)),u1y (λd=>D.bl (sgnD d)) (λd hd=>?_)]
   ·simp
   ·exact⟨_,rfl,rfl,by simp[rhoC,a0g d (u0H h d hd)]⟩
  ·have c':¬ (ds.length:Int)<=10:=by omega
   simp[c,c',c0,c0']
 ·have c0':¬ (1:Int)<=ds.length:=by omega
  simp[c0,c0']
set_option tactic.hygienic true in
def v1a {a1o:FD} (a2x:Callee P w K mg base 1 "is_pair" ["thing"] (spF K a1o)) {a1m:FD} (a2v:Callee P w K mg base 1 "is_side" ["thing"] (spF K a1m)) {a1n:FD} (a2w:Callee P w K mg base 3 "is_rank_signs" ["thing"] (spF K a1n)) (a2t:P1 pairD a1o) (a2r:P1 sideD a1m) (a2s:P1 rsgD a1n) (F:Fun K "is_rank" "is_rank" u5l f fd) (T:Txt K mg A):∃G,FnOk P w K mg base CX0 4 f fd ["thing"] (spF K G)/\P1 rankD G:=by
 refine⟨_,F.okT (k:=3) v0N (λcdv Ar outer s H E hr=>u0e (u0g (u2s (d_fn a2x hr (u0a (dv 0) u0b)) (u2s (d_fn a2v hr (u0a (d_ix x_ix (dv 0) u0c) u0b)) (u3D (d_fn a2w hr (u0a (d_ix x_ix (dv 0) u0c) u0b))))))),?_⟩
 intro d h
 simp[runT,startD,a2t d h]
 cases d<;>simp[pairD,rankD]
 rename_i ds
 match ds,h with
 | [],_=>simp[pairD,rankD]
 | [_],_=>simp[pairD,rankD]
 | _::_::_::_,_=>simp[pairD,rankD]
 | [x,y],h =>
  have h1:=a2r x (u0H h x (by simp))
  have h2:=a2s y (u0H h y (by simp))
  simp[pairD,rankD,ix_0,ix_1,h1,h2]
  by_cases c:sideD x=true<;>simp[c]
set_option tactic.hygienic true in
def u5X (F:Fun K "_law_is_sign" "_law_is_sign" u1K f fd) (T:Txt K mg A):∃G,FnOk P w K mg base CX0 1 f fd ["_law_thing"] (spF K G)/\P1 sgnD G:=by
 refine⟨_,F.okT (k:=0) u5S (λcdv Ar outer s H E hr=>u0d (u0v (dt_w (u3l (u0J (u0I (d_B u2a T.z_isinstance (by decide +kernel) (u0a (dv 0) (u0a (d_ty T.z_str (T:="str") (by decide +kernel)) u0b))))) (u2G (u0J (u3S o_le o_le u0c (d_B u0L T.z_len (by decide +kernel) (u0a (dv 0) u0b)) u0c))))) (u0e (u0g d_bl)) u0n)
  (u0e (u0g (u2I (u9p (hu64 hr)) (DN.de (u0T ["_law_sign"] [] rfl (u0q (sc:=defScope u1K) (N:=["_law_thing"]) (by decide +kernel)) (u0A (dv 0)) (dg_n (show(["_law_sign"]:List Str).Nodup by decide +kernel)) (u5M (u0m (u2z (hu100 hr)) (dv 0) u0i)) (dv 0))) (u0F u0b))))),?_⟩
 intro d h
 simp[runT,startD,v4l (u0D h)]
 cases d<;>simp[isStrD,sgnD,gLen]
 rename_i z
 unfold sgnS shortS
 by_cases c0:1<=z.length
 ·have c0':(1:Int)<=z.length:=by omega
  by_cases c:z.length<=6
  ·have c':(z.length:Int)<=6:=by omega
   simp[c,c',c0,c0']
   rw[show items (.str z)=.ok (chars z) from rfl,zb,u0w (by rw[u5P];exact u0S (by omega)),u1F (λd=>!chIn signT d) (λd=>d) (λd hd=>?_)]
   ·simp[u7l,u3j,u5R]
   ·obtain ⟨x,_,rfl⟩:=w6.mp hd
    exact⟨_,rfl,by simp[rhoC,dNotIn,dInG,chIn],λ_=>by simp[rhoC]⟩
  ·have c':¬ (z.length:Int)<=6:=by omega
   simp[c,c',c0,c0']
 ·have c0':¬ (1:Int)<=z.length:=by omega
  simp[c0,c0']
set_option tactic.hygienic true in
def u6a (F:Fun K "_law_is_head" "_law_is_head" u1N f fd) (T:Txt K mg A):∃G,FnOk P w K mg base CX0 1 f fd ["_law_thing"] (spF K G)/\P1 hdD G:=by
 refine⟨_,F.okT (k:=0) u5V (λcdv Ar outer s H E hr=>u0d (u0v (dt_w (u3l (u0J (u0I (d_B u2a T.z_isinstance (by decide +kernel) (u0a (dv 0) (u0a (d_ty T.z_str (T:="str") (by decide +kernel)) u0b))))) (u3l (u0J (u3S o_le o_le u0c (d_B u0L T.z_len (by decide +kernel) (u0a (dv 0) u0b)) u0c)) (u2G (u0m (u2z (hu100 hr)) (d_ix x_ix (dv 0) u0c) u0i))))) (u0e (u0g d_bl)) u0n)
  (u0e (u0g (u2I (u9p (hu64 hr)) (DN.de (u0T ["_law_sign"] [] rfl (u0q (sc:=defScope u1N) (N:=["_law_thing"]) (by decide +kernel)) (u0A (d_sl (dv 0) (u0t u0c) u0x)) (dg_n (show(["_law_sign"]:List Str).Nodup by decide +kernel)) (u5M (u0m (u2z (hu100 hr)) (dv 0) u0i)) (dv 0))) (u0F u0b))))),?_⟩
 intro d h
 simp[runT,startD,v4l (u0D h)]
 cases d<;>simp[isStrD,hdD,gLen]
 rename_i z
 unfold hdS
 by_cases cs:shortS z=true
 ·have hz:=u3I cs
  have h1:(1:Int)<=z.length:=by unfold shortS at cs;simp at cs;omega
  have h2:(z.length:Int)<=6:=by omega
  have hl:=u7B z
  simp[cs,h1,h2,ix0 cs,dNotIn,dInG]
  by_cases k:inS (fstC z) greatT=true
  ·simp [k,asI,sl1]
   rw[show items (.str (tailC z))=.ok (chars (tailC z)) from rfl,zb,u0w (by rw[u5P];exact u0S (by omega)),u1F (λd=>!chIn smallT d) (λd=>d) (λd hd=>?_)]
   ·simp[u7l,u3j,u5R]
   ·obtain ⟨x,_,rfl⟩:=w6.mp hd
    exact⟨_,rfl,by simp[rhoC,dNotIn,dInG,chIn],λ_=>by simp[rhoC]⟩
  ·simp[k]
 ·simp [cs]
  unfold shortS at cs
  by_cases c0:1<=z.length
  ·have c0':(1:Int)<=z.length:=by omega
   have c':¬ (z.length:Int)<=6:=by
    simp[c0] at cs
    omega
   simp[c0',c']
  ·have c0':¬ (1:Int)<=z.length:=by omega
   simp[c0']
set_option tactic.hygienic true in
def u5Y {a0c:FD} (a0e:Callee P w K mg base 1 "_law_is_head" ["_law_thing"] (spF K a0c)) {a0a:FD} (a0d:Callee P w K mg base 1 "_law_is_sign" ["_law_thing"] (spF K a0a)) (a0o:P1 hdD a0c) (a0l:P1 sgnD a0a) (F:Fun K "_law_is_rule" "_law_is_rule" u1L f fd) (T:Txt K mg A):∃G,FnOk P w K mg base CX0 2 f fd ["_law_thing"] (spF K G)/\P1 ruleD G:=by
 refine⟨_,F.okT (k:=1) u5T (λcdv Ar outer s H E hr=>u0d (u0v (dt_w (u3l (u0J (u0I (d_B u2a T.z_isinstance (by decide +kernel) (u0a (dv 0) (u0a (d_ty T.z_tuple (T:="tuple") (by decide +kernel)) u0b))))) (u3l (u0m (o_neX (hu64 hr)) (d_B u0L T.z_len (by decide +kernel) (u0a (dv 0) u0b)) u0c) (u2G (u0J (u0I (d_fn a0e hr (u0a (d_ix x_ix (dv 0) u0c) u0b)))))))) (u0e (u0g d_bl)) u0n)
  (u0d (u0v (dt_w (u3l (u0J (u0I (d_B u2a T.z_isinstance (by decide +kernel) (u0a (d_ix x_ix (dv 0) u0c) (u0a (d_ty T.z_tuple (T:="tuple") (by decide +kernel)) u0b))))) (u2G (u0m o_gt (d_B u0L T.z_len (by decide +kernel) (u0a (d_ix x_ix (dv 0) u0c) u0b)) u0c)))) (u0e (u0g d_bl)) u0n)
  (u0e (u0g (u2I (u9p (hu64 hr)) (DN.de (u0T ["_law_symbol_here"] [] rfl (u0q (sc:=defScope u1L) (N:=["_law_thing"]) (by decide +kernel)) (u0A (d_ix x_ix (dv 0) u0c)) (dg_n (show(["_law_symbol_here"]:List Str).Nodup by decide +kernel)) (u5M (dt_w (u3R (u0J (u0I (d_fn a0d hr (u0a (dv 0) u0b)))) (u2W (u0J (u0I (d_fn a0e hr (u0a (dv 0) u0b)))))))) (dv 0))) (u0F u0b)))))),?_⟩
 intro d h
 simp[runT,startD,u9B (u0D h)]
 cases d<;>simp[isTupD,ruleD]
 rename_i ds
 match ds,h with
 | [],_=>simp[ruleD,u2S]
 | [_],_=>simp[ruleD,u2S]
 | _::_::_::l,_ =>
  have:((l.length:Int)+1+1+1==2)=false:=by
   rw[beq_eq_false_iff_ne];omega
  simp[ruleD,u2S,this]
 | [x,y],h =>
  have gx:=u0H h x (by simp)
  have gy:=u0H h y (by simp)
  simp[ruleD,u2S,ix_0,ix_1,a0o x gx]
  by_cases cx:hdD x=true
  ·simp [cx,ix_1,u9B (u0D gy)]
   cases y with
   | tup bs =>
    by_cases c:bs.length<=4
    ·have c':¬ (4:Int)<bs.length:=by omega
     simp[isTupD,bodyD,ix_1,c,c']
     rw[show items (.tup bs)=.ok bs from rfl,zb,u0w (u0S (by omega)),u1F (λd=>!symD d) (λd=>d) (λd hd=>?_)]
     ·simp[u7l,u3j]
     ·have gd':=u0H gy d hd
      refine⟨_,rfl,?_,λ_=>by simp[rhoC]⟩
      simp[rhoC,a0l d gd',a0o d gd',symD]
      by_cases cs:sgnD d=true<;>simp[cs]
    ·have c':(4:Int)<bs.length:=by omega
     simp[isTupD,bodyD,ix_1,c,c']
   | _=>simp[isTupD,bodyD,ix_1]
  ·simp[cx]
end
inductive Due where
 | fine|rule (d:D)|dbl (n:Nat)|many (n:Nat)|head (z:Str)|ranks (d:D)
noncomputable def Due.toD:Due->D
 | .fine=>.non
 | .rule d=>.tup [.str "rule",d]
 | .dbl n=>.tup [.str "doubled",.int n]
 | .many n=>.tup [.str "many",.int n]
 | .head z=>.tup [.str "head",.str z]
 | .ranks d=>.tup [.str "ranks",d]
noncomputable def Due.toR (A:Adr):Due->Res D
 | .fine=>.ok .non
 | .rule d=>.err (.exc A.NoRule [("found",d)])
 | .dbl n=>.err (.exc A.Doubled [("number",.int n)])
 | .many n=>.err (.exc A.TooMany [("found",.int n)])
 | .head z=>.err (.exc A.NoHead [("head",.str z)])
 | .ranks d=>.err (.exc A.NoRanks [("found",d)])
abbrev RR:=Str×List Str
noncomputable def rT (p:RR):D:=.tup [.str p.1,.tup (p.2.map D.str)]
theorem u3G:∀{ds:List D}{ss:List Str},strsOf ds=some ss->ds=ss.map D.str
 | [],_,e=>by cases e;rfl
 | d::ds,ss,e=>by
  cases d with
  | str z =>
   unfold strsOf at e
   cases q:strsOf ds with
   | none=>rw[q] at e;cases e
   | some ts=>rw[q] at e;cases e;rw[u3G q];rfl
  | _=>cases e
theorem u2k:∀ss:List Str,strsOf (ss.map D.str)=some ss
 | []=>rfl
 | z::ss=>by simp[strsOf,u2k ss]
theorem u7x:∀{ds:List D},ds.all symD=true->∃ss,strsOf ds=some ss
 | [],_=>⟨[],rfl⟩
 | d::ds,h=>by
  rw[z0D,t9] at h
  obtain⟨ss,e⟩:=u7x h.2
  cases d with
  | str z=>exact⟨z::ss,by simp[strsOf,e]⟩
  | _=>simp[symD,sgnD,hdD] at h
noncomputable def asRule (d:D):Option RR:=match d with
 | .tup [.str h,.tup bs]=>if ruleD d=true then (strsOf bs).map λss=>(h,ss) else none
 | _=>none
def u3F {d:D} (h:ruleD d=false):asRule d=none:=by
 unfold asRule
 split
 ·rw[if_neg (by rw[h];exact t8)]
 ·rfl
def u3E {d:D} (h:ruleD d=true):∃p,asRule d=some p/\d=rT p:=by
 cases d with
 | tup ds =>
  match ds,h with
  | [],h=>simp[ruleD] at h
  | [_],h=>simp[ruleD] at h
  | _::_::_::_,h=>simp[ruleD] at h
  | [x,y],h =>
   have h0:=h
   simp[ruleD] at h
   obtain⟨h1,h2⟩:=h
   cases x with
   | str z =>
    cases y with
    | tup bs =>
     simp[bodyD] at h2
     obtain⟨ss,e⟩:=u7x (z2F.mpr h2.2)
     refine⟨(z,ss),?_,?_⟩
     ·show (if ruleD _=true then (strsOf bs).map fun ss=>(z,ss) else none)=_
      rw[if_pos h0,e]
      rfl
     ·rw[u3G e];rfl
    | _=>simp[bodyD] at h2
   | _=>simp[hdD] at h1
 | _=>simp[ruleD] at h
structure OkR (p:RR):Prop where
 h:hdS p.1=true
 l:p.2.length<=4
 s:∀b∈p.2,(sgnS b||hdS b)=true
 gh:goodS p.1=true
 gs:∀b∈p.2,goodS b=true
def v2i {p:RR} (h:ruleD (rT p)=true) (g:goodD (rT p)=true):OkR p:=by
 obtain⟨z,ss⟩:=p
 have h':hdS z=true/\(ss.length<=4/\∀b∈ss,(sgnS b||hdS b)=true):=by
  simp[rT,ruleD,hdD,bodyD,symD,sgnD] at h
  exact⟨h.1,h.2.1,λb hb=>by simpa using h.2.2 b hb⟩
 have g1:=u0H g (.str z) (by simp[rT])
 have g2:=u0H g (.tup (ss.map D.str)) (by simp[rT])
 exact⟨h'.1,h'.2.1,h'.2.2,by simpa[goodD] using g1,λb hb=>by
  have:=u0H g2 (.str b) (w6.mpr ⟨b,hb,rfl⟩)
  simpa[goodD] using this⟩
noncomputable def pyR (p:RR):PyData:=.tuple [.str p.1,.tuple (p.2.map PyData.str)]
theorem u4R:∀ss:List Str,D.pys (ss.map D.str)=some (ss.map PyData.str)
 | []=>rfl
 | z::ss=>by simp[D.pys,D.py,u4R ss]
theorem u3N:∀{ss:List Str},(∀b∈ss,goodS b=true)->PyData.canLayAll0 (ss.map PyData.str)=true
 | [],_=>rfl
 | z::ss,h=>by
  have h1:=h z z6
  have h2:=u3N λb hb=>h b (z0 _ hb)
  simp[goodS] at h1
  simp[PyData.canLayAll0,PyData.canLay0,h1.1,h2]
theorem u3U:∀ss:List Str,PyData.depthAll (ss.map PyData.str)<=1
 | []=>by simp[PyData.depthAll]
 | z::ss=>by
  have:=u3U ss
  simp[PyData.depthAll,PyData.depth]
  omega
def v0u {p:RR} (o:OkR p):cmpD (rT p)=.ok (pyR p):=by
 have h1:=o.gh
 simp[goodS] at h1
 have e:(rT p).py=some (pyR p):=by
  simp[rT,D.py,D.pys,u4R,pyR]
 have s:SeqAt.shaped (pyR p)=true:=by
  have d:=u3U p.2
  simp[SeqAt.shaped,pyR,PyData.canLay0,PyData.canLayAll0,h1.1,u3N o.gs,PyData.depth,PyData.depthAll]
  omega
 unfold cmpD
 rw[e]
 simp[s]
theorem u2C:∀as bs:List Str,PyData.eqvAll (as.map PyData.str) (bs.map PyData.str)=decide (as=bs)
 | [],[]=>rfl
 | [],_::_=>rfl
 | _::_,[]=>rfl
 | a::as,b::bs=>by
  show(PyData.eqv (.str a) (.str b)&&PyData.eqvAll (as.map PyData.str) (bs.map PyData.str))=_
  rw[u2C as bs,u2V]
  by_cases c:a=b<;>simp[c]
def v0l (p q:RR):PyData.eqv (pyR p) (pyR q)=decide (p=q):=by
 obtain⟨a,as⟩:=p
 obtain⟨b,bs⟩:=q
 show(PyData.eqv (.str a) (.str b)&&(PyData.eqvAll (as.map PyData.str) (bs.map PyData.str)&&true))=_
 rw[u2C,u2V]
 by_cases c:a=b<;>simp[c]
theorem u6E:∀{rs:List RR},(∀p∈rs,OkR p)->cmpDs (rs.map rT)=.ok (rs.map pyR)
 | [],_=>rfl
 | p::rs,h=>by
  simp[cmpDs,v0u (h p z6),u6E λq hq=>h q (z0 _ hq)]
def u7c {p:RR}{rs:List RR} (o:OkR p) (os:∀q∈rs,OkR q) (neg:Bool):inD (rT p) (rs.map rT) neg=.ok (.bl (if neg=true then !decide (p∈rs) else decide (p∈rs))):=by
 have e:((rs.map pyR).any λb=>PyData.eqv b (pyR p))=decide (p∈rs):=by
  rw[List.any_map,z1D,List.any_eq_true,decide_eq_true_eq]
  constructor
  ·rintro ⟨q,hq,e⟩
   simp only[Function.comp,v0l,decide_eq_true_eq] at e
   rw[<- e];exact hq
  ·intro h
   exact⟨p,h,by simp only[Function.comp,v0l,decide_eq_true_eq]⟩
 simp only[inD,v0u o,u6E os,zb,e]
noncomputable def goRules (rs:List RR):List D->Due
 | []=>.fine
 | d::ds=>match asRule d with
  | none=>.rule d
  | some p=>if p∈rs then .dbl rs.length else goRules (rs++[p]) ds
noncomputable def dueRules:D->Due
 | .lst ds=>if 1<=ds.length/\ds.length<=20 then goRules [] ds else .many ds.length
 | d=>.rule d
@[simp] theorem u1p {α:Type}{ds:List D}{k:Res α} (h:ds.length<=1000):szD ds k=k:=szD_pos (u0S h)
def u5K (k:Nat) (d:D) (ds:List D):(((d::ds).zipIdx k).map λp=>D.tup [.int (p.2:Nat),p.1])=.tup [.int (k:Nat),d]::((ds.zipIdx (k+1)).map λp=>D.tup [.int (p.2:Nat),p.1]):=rfl
def v4h {α:Type} (xs ys:List α):cutC (xs++ys) none (some (xs.length:Int))=xs:=by
 unfold cutC
 rw[HT.sIx_none,HT.sIx_nat,Nat.min_eq_left (by simp)]
 simp
noncomputable def isOkR {α:Type}:Res α->Bool
 | .ok _=>true
 | _=>false
noncomputable def rkOk:D->Bool
 | .tup [x,_]=>isOkR (cmpD x)
 | _=>true
def u5w {x:D} (h:isOkR (cmpD x)=true):dNotIn x (.lst [.str "left",.str "right",.str "none"])=.ok (.bl (!sideD x)):=by
 have e1:cmpD (.str "left")=.ok (.str "left"):=u1l (by decide +kernel)
 have e2:cmpD (.str "right")=.ok (.str "right"):=u1l (by decide +kernel)
 have e3:cmpD (.str "none")=.ok (.str "none"):=u1l (by decide +kernel)
 rw[show dNotIn x (.lst [.str "left",.str "right",.str "none"])=inD x [.str "left",.str "right",.str "none"] true from u2D true x _]
 cases q:cmpD x with
 | err y=>rw[q] at h;cases h
 | bad=>rw[q] at h;cases h
 | ok a =>
  have hp:x.py=some a:=by
   unfold cmpD at q
   cases e:x.py with
   | none=>rw[e] at q;cases q
   | some b =>
    rw[e] at q
    simp only[gd] at q
    split at q
    ·cases q;rfl
    ·cases q
  simp only[inD,q,cmpDs,e1,e2,e3,zb,if_true,List.any_cons,List.any_nil,Bool.or_false]
  cases x with
  | str z =>
   simp only[D.py,Option.some.injEq] at hp
   subst hp
   simp[sideD,u2V,u9F z]
  | non=>simp only[D.py,Option.some.injEq] at hp;subst hp;rfl
  | bl b=>simp only[D.py,Option.some.injEq] at hp;subst hp;rfl
  | int i=>simp only[D.py,Option.some.injEq] at hp;subst hp;rfl
  | lst ds =>
   simp only[D.py] at hp
   cases e:D.pys ds with
   | none=>rw[e] at hp;cases hp
   | some as=>rw[e] at hp;cases hp;rfl
  | tup ds =>
   simp only[D.py] at hp
   cases e:D.pys ds with
   | none=>rw[e] at hp;cases hp
   | some as=>rw[e] at hp;cases hp;rfl
  | _=>simp[D.py] at hp
noncomputable def isStop:Out->Bool
 | .rt _=>true
 | .er _ _=>true
 | _=>false
def StepOk {α β γ:Type} (S:α->List γ->Rho->Prop) (go:α->List γ->β) (Q:β->Out->Prop) (a:α) (d:γ) (ds:List γ) (o:Out):Prop :=
 (∃a' ρ2,(o=.nx ρ2\/o=.ct ρ2)/\S a' ds ρ2/\go a (d::ds)=go a' ds)\/(isStop o=true/\Q (go a (d::ds)) o)
def u0X {α β γ:Type}{S:α->List γ->Rho->Prop}{go:α->List γ->β}{Q:β->Out->Prop}{a:α}{d:γ}{ds:List γ}{ρ:Rho} (a':α) (h:S a' ds ρ) (e:go a (d::ds)=go a' ds):StepOk S go Q a d ds (.nx ρ):=.inl ⟨a',ρ,.inl rfl,h,e⟩
def u2f {α β γ:Type}{S:α->List γ->Rho->Prop}{go:α->List γ->β}{Q:β->Out->Prop}{a:α}{d:γ}{v:D}{ds:List γ} (h:Q (go a (d::ds)) (.rt v)):StepOk S go Q a d ds (.rt v):=.inr ⟨rfl,h⟩
def u2g {α β γ:Type}{S:α->List γ->Rho->Prop}{go:α->List γ->β}{Q:β->Out->Prop}{a:α}{d:γ}{v:D}{ds:List γ}{ρ:Rho} (h:Q (go a (d::ds)) (.er v ρ)):StepOk S go Q a d ds (.er v ρ):=.inr ⟨rfl,h⟩
theorem u0B {α β γ:Type}{g:D->Rho->Res Rho}{tb:Rho->Out} (c:γ->D) (S:α->List γ->Rho->Prop) (go:α->List γ->β) (Q:β->Out->Prop) (nil:∀a ρ,S a [] ρ->Q (go a []) (.nx ρ))
  (cons:∀a d ds ρ,S a (d::ds) ρ->∃ρ1,g (c d) ρ=.ok ρ1/\StepOk S go Q a d ds (tb ρ1)) :
  ∀ds a ρ,S a ds ρ->Q (go a ds) (forD g tb (ds.map c) ρ)
 | [],a,ρ,h=>nil a ρ h
 | d::ds,a,ρ,h=>by
  obtain⟨ρ1,e,k⟩:=cons a d ds ρ h
  simp only[w5,forD,e,u3n,zg]
  rcases k with⟨a',ρ2,k1,k2,k3⟩|⟨k1,k2⟩
  ·rw [k3]
   rcases k1 with k1|k1<;>rw[k1]<;>exact u0B c S go Q nil cons ds a' ρ2 k2
  ·generalize tb ρ1=o at k1 k2 |-
   cases o<;>first|exact k2|cases k1
theorem u4p {α β:Type}{g:D->Rho->Res Rho}{tb:Rho->Out} (S:Nat->α->List D->Rho->Prop) (go:α->List D->β) (Q:β->Out->Prop) (nil:∀k a ρ,S k a [] ρ->Q (go a []) (.nx ρ))
  (cons:∀k a d ds ρ,S k a (d::ds) ρ->∃ρ1,g (.tup [.int (k:Nat),d]) ρ=.ok ρ1/\StepOk (S (k+1)) go Q a d ds (tb ρ1)) :
  ∀ds k a ρ,S k a ds ρ->Q (go a ds) (forD g tb ((ds.zipIdx k).map λp=>.tup [.int (p.2:Nat),p.1]) ρ)
 | [],k,a,ρ,h=>nil k a ρ h
 | d::ds,k,a,ρ,h=>by
  obtain⟨ρ1,e,z⟩:=cons k a d ds ρ h
  rw[u5K]
  simp only[forD,e,u3n,zg]
  rcases z with⟨a',ρ2,k1,k2,k3⟩|⟨k1,k2⟩
  ·rw [k3]
   rcases k1 with k1|k1<;>rw[k1]<;>exact u4p S go Q nil cons ds (k+1) a' ρ2 k2
  ·generalize tb ρ1=o at k1 k2 |-
   cases o<;>first|exact k2|cases k1
noncomputable def keyR (p:RR):List DK:=[.s p.1,.t (p.2.map DK.s)]
theorem v0r:∀ss:List Str,dksOf (ss.map D.str)=some (ss.map DK.s)
 | []=>rfl
 | z::ss=>by simp[dksOf,dkOf,v0r ss]
theorem v4G:∀ss:List Str,DK.pys (ss.map DK.s)=ss.map PyData.str
 | []=>rfl
 | z::ss=>by simp[DK.pys,DK.py,v4G ss]
theorem v2U:∀ss:List Str,DK.deps (ss.map DK.s)=0
 | []=>rfl
 | z::ss=>by simp[DK.deps,DK.dep,v2U ss]
def v3I {p:RR} (o:OkR p):okK (keyR p)=true:=by
 have e:(DK.t (keyR p)).py=pyR p:=by simp[keyR,DK.py,DK.pys,v4G,pyR]
 have d:=u3U p.2
 have h1:=o.gh
 simp[goodS] at h1
 unfold okK
 rw[e]
 have s:SeqAt.shaped (pyR p)=true:=by
  simp[SeqAt.shaped,pyR,PyData.canLay0,PyData.canLayAll0,h1.1,u3N o.gs,PyData.depth,PyData.depthAll]
  omega
 simp[s,keyR,DK.dep,DK.deps,v2U]
def u9T {p:RR} (o:OkR p):keyOf (rT p)=.ok (keyR p):=by
 have e:dksOf [D.str p.1,.tup (p.2.map D.str)]=some (keyR p):=by simp[dksOf,dkOf,v0r,keyR]
 show(match dksOf [D.str p.1,.tup (p.2.map D.str)] with|some ks=>gd (okK ks=true) (.ok ks)|none=>.bad)=_
 rw[e]
 simp[v3I o]
def u9U {p q:RR} (h:keyR p=keyR q):p=q:=by
 obtain⟨a,as⟩:=p
 obtain⟨b,bs⟩:=q
 simp only[keyR,List.cons.injEq,DK.s.injEq,DK.t.injEq,and_true] at h
 obtain⟨rfl,h⟩:=h
 have:∀as bs:List Str,as.map DK.s=bs.map DK.s->as=bs:=by
  intro as
  induction as with
  | nil=>intro bs h;cases bs with|nil=>rfl|cons _ _=>cases h
  | cons x as ih =>
   intro bs h
   cases bs with
   | nil=>cases h
   | cons y bs =>
    simp only[w5,List.cons.injEq,DK.s.injEq] at h
    rw[h.1,ih bs h.2]
 rw[this as bs h]
def in_keys {w:World}{p:RR}{rs:List RR}{kvs:List (List DK×D)} (o:OkR p) (e:kvs.map (·.1)=rs.map keyR):dInA w false (rT p) (.dn (hashW w) kvs)=.ok (.bl (decide (p∈rs))):=by
 have q:dInA w false (rT p) (.dn (hashW w) kvs)=inN w false (rT p) (hashW w) kvs:=by
  unfold dInA
  exact v3a w false _ _ _
 rw[q]
 unfold inN
 rw[u9T o,zb,if_pos rfl,e]
 have:(keyR p∈rs.map keyR)↔p∈rs:=by
  rw[w6]
  exact⟨λz9130=>by obtain⟨q,hq,e⟩:=z9130;exact u9U e ▸ hq,λh=>⟨p,h,rfl⟩⟩
 simp[this]
def put_key {w:World}{p:RR}{kvs:List (List DK×D)}{fi:Rho->Res D}{fv:Rho->Res D}{ρ:Rho} (o:OkR p) (hl:kvs.length<=100) (hv:fv ρ=.ok (.bl true)) (hi:fi ρ=.ok (rT p)) (hg:getN ρ 1=.ok (hashW w,kvs)) :
  fPutN w 1 fi fv ρ=.nx (ρ.set 1 (some (.own (.n (hashW w) (putN kvs (keyR p) (.bl true)))))):=by
 unfold fPutN
 rw[hv,zg,hg,zg,hi,zg,u9T o,zg,if_pos ⟨rfl,z0A hl (by decide)⟩]
def v3S {p:RR}{rs:List RR}{kvs:List (List DK×D)}{d:D} (e:kvs.map (·.1)=rs.map keyR) (n:¬ p∈rs):(putN kvs (keyR p) d).map (·.1)=(rs++[p]).map keyR:=by
 unfold putN
 have:¬ keyR p∈kvs.map (·.1):=by
  rw[e,w6]
  exact λ⟨q,hq,z⟩=>n (u9U z ▸ hq)
 rw[if_neg this,z0H,z0H,e]
 rfl
def S1 (ds:List D) (k:Nat) (rs:List RR) (rest:List D) (ρ:Rho):Prop:=k=rs.length/\ds=rs.map rT++rest/\(∀p∈rs,OkR p)/\∃x y,ρ=[some (.val (.lst ds)),x,y]
def Q1 (u:Due) (o:Out):Prop:=noE (outR (o.andThen λρ=>Out.rt .non))=.ok u.toD
def S2 (w:World) (ds:List D) (k:Nat) (rs:List RR) (rest:List D) (ρ:Rho):Prop:=k=rs.length/\ds=rs.map rT++rest/\(∀p∈rs,OkR p)/\∃kvs x y,ρ=[some (.val (.lst ds)),some (.own (.n (hashW w) kvs)),x,y]/\kvs.map (·.1)=rs.map keyR
def Q2 (A:Adr) (u:Due) (o:Out):Prop:=outR o=u.toR A
def u9O {rs:List RR}{p:RR} (hr:∀p∈rs,OkR p) (o:OkR p):∀q∈rs++[p],OkR q:=λq hq=>by
 rcases x9.mp hq with h|h
 ·exact hr q h
 ·rw[y6.mp h];exact o
@[simp] theorem items_lst (ds:List D):items (.lst ds)=.ok ds:=rfl
@[simp] theorem items_tup (ds:List D):items (.tup ds)=.ok ds:=rfl
theorem u8w:∀{hs:List Str},(∀b∈hs,goodS b=true)->cmpDs (hs.map D.str)=.ok (hs.map PyData.str)
 | [],_=>rfl
 | z::hs,h=>by
  have h1:=h z z6
  simp[goodS] at h1
  simp[cmpDs,u1l h1.1,u8w λb hb=>h b (z0 _ hb)]
def u9v {z:Str}{hs:List Str} (g:goodS z=true) (gs:∀b∈hs,goodS b=true) (neg:Bool):inD (.str z) (hs.map D.str) neg=.ok (.bl (if neg=true then !decide (z∈hs) else decide (z∈hs))):=by
 simp[goodS] at g
 have e:((hs.map PyData.str).any λb=>PyData.eqv b (.str z))=decide (z∈hs):=by
  rw[List.any_map,z1D,List.any_eq_true,decide_eq_true_eq]
  constructor
  ·rintro ⟨q,hq,e⟩
   simp only[Function.comp,u2V,beq_iff_eq] at e
   rw[<- e];exact hq
  ·intro h
   exact⟨z,h,by simp only[Function.comp,u2V,beq_iff_eq]⟩
 simp only[inD,u1l g.1,u8w gs,zb,e]
def u3f {z:Str}{hs:List Str} (g:goodS z=true) (gs:∀b∈hs,goodS b=true):dNotIn (.str z) (.lst (hs.map D.str))=.ok (.bl (!decide (z∈hs))):=by
 rw[show dNotIn (.str z) (.lst (hs.map D.str))=inD (.str z) (hs.map D.str) true from u2D true _ _,u9v g gs]
 rfl
noncomputable def hsOf (rs:List RR):List Str:=rs.map (·.1)
noncomputable def headsL (rs:List RR):List Str:=sortT (setOfT (hsOf rs))
noncomputable def addSg (ss:List Str) (b:Str):List Str:=if sgnS b=true then addT ss b else ss
noncomputable def sgL (ss:List Str) (rs:List RR):List Str:=rs.foldl (λss p=>p.2.foldl addSg ss) ss
noncomputable def fstUnk (hs:List Str) (bs:List Str):Option Str:=bs.find? λb=>hdS b&&!decide (b∈hs)
noncomputable def goKn (hs:List Str):Unit->List RR->Due
 | _,[]=>.fine
 | _,p::rs=>match fstUnk hs p.2 with
  | some b=>.head b
  | none=>goKn hs () rs
noncomputable def dueFew (rs:List RR):Due:=if (setOfT (hsOf rs)).length > 8 then .many (setOfT (hsOf rs)).length else if (sgL [] rs).length > 10 then .many (sgL [] rs).length else .fine
noncomputable def Due.or:Due->Due->Due
 | .fine,u=>u
 | u,_=>u
noncomputable def dueHeads (rs:List RR):Due:=(goKn (headsL rs) () rs).or (dueFew rs)
def u4m {rs:List RR} (h:∀p∈rs,OkR p):∀b∈headsL rs,goodS b=true:=λb hb=>by
 obtain⟨p,hp,rfl⟩:=w6.mp (u6n.mp (u5f.mp hb))
 exact(h p hp).gh
noncomputable def hd1:D->D
 | .tup (.str h::_)=>.str h
 | _=>.non
def v2E (rs:List RR):((rs.map rT).map hd1)=(hsOf rs).map D.str:=by
 unfold hsOf
 rw[z2J,z2J]
 rfl
@[simp] theorem v0f {ss:List Str} (h:ss.length<64):gSS (.lst (ss.map D.str))=.ok (.lst ((sortT (setOfT ss)).map D.str)):=by
 show(match strsOf (ss.map D.str) with|some ss=>gd (ss.length<64) (Res.ok (D.lst ((sortT (setOfT ss)).map D.str)))|none=>.bad)=_
 rw[u2k]
 simp[h]
def eqK_str (z b:Str):eqK (.str z) (.inr b)=decide (z=b):=by
 have:=u6A (.inr z) (.inr b)
 rw[show kD (.inr z)=D.str z from rfl] at this
 rw[this]
 by_cases c:z=b<;>simp[c]
theorem u9A {b:Str}:∀{ps:List (D×D)}{ss:List Str},ps.map (·.1)=ss.map D.str->ps.any (λp=>eqK p.1 (.inr b))=decide (b∈ss)
 | [],[],_=>rfl
 | [],_::_,e=>by cases e
 | _::_,[],e=>by cases e
 | (k,d)::ps,z::ss,e=>by
  simp only[w5,List.cons.injEq] at e
  rw[List.any_cons,u9A e.2,e.1,eqK_str]
  by_cases c:z=b
  ·subst c;simp
  ·have c':¬ b=z:=fun h=>c h.symm
   simp[c,c']
def u5E {ps:List (D×D)}{ss:List Str}{b:Str}{d:D} (e:ps.map (·.1)=ss.map D.str):(putD ps (.inr b) d).map (·.1)=(addT ss b).map D.str:=by
 unfold putD addT
 rw[u9A e]
 by_cases c:b∈ss
 ·rw [if_pos (by simpa using c),if_pos c,<- e,z2J]
  refine List.map_congr_left λp _=>?_
  simp only[Function.comp]
  split<;>rfl
 ·rw [if_neg (by simpa using c),if_neg c,z0H,z0H,e]
  rfl
theorem u6v:∀{ps:List (D×D)}{ss:List Str},ps.map (·.1)=ss.map D.str->keyStrs ps=some ss
 | [],[],_=>rfl
 | [],_::_,e=>by cases e
 | _::_,[],e=>by cases e
 | (k,d)::ps,z::ss,e=>by
  simp only[w5,List.cons.injEq] at e
  obtain⟨rfl,e⟩:=e
  simp[keyStrs,u6v e]
def val_key {b:Str}{ps:List (D×D)}{ss:List Str} (e:ps.map (·.1)=ss.map D.str):(valD ps (.inr b)).isSome=decide (b∈ss):=by
 rw[<- u9A e]
 unfold valD
 rw[Option.isSome_map]
 clear e
 induction ps with
 | nil=>rfl
 | cons p ps ih =>
  rw[z0I,List.any_cons]
  cases q:eqK p.1 (.inr b)
  ·simpa using ih
  ·rfl
def v4k {P:Str->Prop}{ss:List Str}{b:Str} (h:∀z∈ss,P z) (hb:P b):∀z∈addT ss b,P z:=λz hz=>by
 unfold addT at hz
 split at hz
 ·exact h z hz
 ·rcases x9.mp hz with q | q
  ·exact h z q
  ·rw[y6.mp q];exact hb
def u8N {P:Str->Prop}{ss:List Str}{b:Str} (h:∀z∈ss,P z) (hb:sgnS b=true->P b):∀z∈addSg ss b,P z:=by
 unfold addSg
 by_cases c:sgnS b=true
 ·rw[if_pos c];exact v4k h (hb c)
 ·rw[if_neg c];exact h
theorem v0i {P:Str->Prop}:∀{bs ss:List Str},(∀z∈ss,P z)->(∀b∈bs,sgnS b=true->P b)->∀z∈bs.foldl addSg ss,P z
 | [],_,h,_=>h
 | b::bs,ss,h,hb=>v0i (bs:=bs) (u8N h (hb b z6)) λx hx=>hb x (z0 _ hx)
theorem u8R {P:Str->Prop}:∀{rs:List RR}{ss:List Str},(∀z∈ss,P z)->(∀p∈rs,∀b∈p.2,sgnS b=true->P b)->∀z∈sgL ss rs,P z
 | [],_,h,_=>h
 | p::rs,ss,h,hb=>u8R (rs:=rs) (v0i h (hb p z6)) λq hq=>hb q (z0 _ hq)
theorem v4n:∀{rs:List RR}{ss:List Str},ss.Nodup->(sgL ss rs).Nodup
 | [],_,h=>h
 | p::rs,ss,h=>v4n (rs:=rs) (by
  show(p.2.foldl addSg ss).Nodup
  have:∀(bs ss:List Str),ss.Nodup->(bs.foldl addSg ss).Nodup:=by
   intro bs
   induction bs with
   | nil=>intro ss h;exact h
   | cons b bs ih =>
    intro ss h
    refine ih _ ?_
    unfold addSg
    split
    ·exact v1A h
    ·exact h
  exact this _ _ h)
def sub_len {ss pool:List Str} (nd:ss.Nodup) (h:∀z∈ss,z∈pool):ss.length<=pool.length:=by
 induction ss generalizing pool with
 | nil=>simp
 | cons z ss ih =>
  obtain⟨h1,h2⟩:=z3B.mp nd
  have hz:=h z z6
  have:=ih (pool:=pool.erase z) h2 λy hy=>(List.mem_erase_of_ne (λe:y=z=>h1 (e ▸ hy))).mpr (h y (z0 _ hy))
  rw[List.length_erase_of_mem hz] at this
  have:0<pool.length:=List.length_pos_of_mem hz
  simp only[u9]
  omega
structure Few (rs:List RR):Prop where
 ok:∀p∈rs,OkR p
 n:rs.length<=20
 s:(sgL [] rs).length<64
def Ssg (ds:D) (ss:List Str) (rs:List RR) (ρ:Rho):Prop:=(∀p∈rs,OkR p)/\ss.length+4*rs.length<=200/\∃kvs x y,ρ=[some (.val ds),some (.own (.d kvs)),x,y]/\kvs.map (·.1)=ss.map D.str
def Qsg (ds:D) (ss:List Str) (o:Out):Prop:=∃kvs x y,o=.nx [some (.val ds),some (.own (.d kvs)),x,y]/\kvs.map (·.1)=ss.map D.str
def Ssi (ds:D) (r:Option Sl) (ss:List Str) (bs:List Str) (ρ:Rho):Prop:=(∀b∈bs,goodS b=true)/\ss.length+bs.length<=200/\∃kvs y,ρ=[some (.val ds),some (.own (.d kvs)),r,y]/\kvs.map (·.1)=ss.map D.str
def Skn (ds hs:D) (_:Unit) (rs:List RR) (ρ:Rho):Prop:=(∀p∈rs,OkR p)/\∃x y,ρ=[some (.val ds),some (.val hs),x,y]
def Ski (ds hs:D) (r:Option Sl) (_:Unit) (bs:List Str) (ρ:Rho):Prop:=(∀b∈bs,goodS b=true)/\∃y,ρ=[some (.val ds),some (.val hs),r,y]
def Qki (A:Adr) (ds hs:D) (u:Option Str) (o:Out):Prop:=match u with
 | none=>∃x y,o=.nx [some (.val ds),some (.val hs),x,y]
 | some b=>∃ρ,o=.er (.exc A.NoHead [("head",.str b)]) ρ
def u4V (hs:List Str) (b:Str) (bs:List Str):fstUnk hs (b::bs)=if (hdS b&&!decide (b∈hs))=true then some b else fstUnk hs bs:=by
 unfold fstUnk
 rw[z0I]
 cases (hdS b&&!decide (b∈hs))<;>rfl
def u4a (ss:List Str) (b:Str):(addSg ss b).length<=ss.length+1:=by
 unfold addSg
 split
 ·exact v0B ss b
 ·omega
theorem u6x:∀(bs ss:List Str),(bs.foldl addSg ss).length<=ss.length+bs.length
 | [],ss=>by simp
 | b::bs,ss=>by
  have:=u6x bs (addSg ss b)
  have:=u4a ss b
  simp only[z1J,u9]
  omega
def v1W {b:Str}{kvs:List (D×D)}{ss:List Str}{fi fv:Rho->Res D}{ρ:Rho} (hl:kvs.length<=1000) (hv:fv ρ=.ok (.bl true)) (hi:fi ρ=.ok (.str b)) (hg:getD' ρ 1=.ok kvs) :
  fPutD 1 fi fv ρ=.nx (ρ.set 1 (some (.own (.d (putD kvs (.inr b) (.bl true)))))):=by
 unfold fPutD
 rw[hv,zg,hg,zg,hi,zg,show keyK (.str b)=.ok (.inr b) from rfl,zg,if_pos (z0A hl (by decide))]
section
variable {P:Program}{w:World}{K:W.Frag}{mg:MG}{base:Heap}{f:Addr}{fd:FuncData}{A:Adr}
def u5Z {a0a:FD} (a0d:Callee P w K mg base 1 "_law_is_sign" ["_law_thing"] (spF K a0a)) (a0l:P1 sgnD a0a) (F:Fun K "_law_is_rank" "_law_is_rank" u1M f fd) (T:Txt K mg A):∃G,FnOk P w K mg base CX0 2 f fd ["_law_thing"] (spF K G)/\∀d,goodD d=true->rkOk d=true->G [d]=.ok (.bl (rankD d)):=by
 refine⟨_,F.okT (k:=1) u5U (λcdv Ar outer s H E hr=>u0d (u0v (dt_w (u3l (u0J (u0I (d_B u2a T.z_isinstance (by decide +kernel) (u0a (dv 0) (u0a (d_ty T.z_tuple (T:="tuple") (by decide +kernel)) u0b))))) (u3l (u0m (o_neX (hu64 hr)) (d_B u0L T.z_len (by decide +kernel) (u0a (dv 0) u0b)) u0c) (u2G (u0m (u2z (hu100 hr)) (d_ix x_ix (dv 0) u0c) (u0F (u0a u0i (u0a u0i (u0a u0i u0b))))))))) (u0e (u0g d_bl)) u0n)
  (u0d (u0v (dt_w (u3l (u0J (u0I (d_B u2a T.z_isinstance (by decide +kernel) (u0a (d_ix x_ix (dv 0) u0c) (u0a (d_ty T.z_tuple (T:="tuple") (by decide +kernel)) u0b))))) (u2G (u0J (u3S o_le o_le u0c (d_B u0L T.z_len (by decide +kernel) (u0a (d_ix x_ix (dv 0) u0c) u0b)) u0c))))) (u0e (u0g d_bl)) u0n)
  (u0e (u0g (u2I (u9p (hu64 hr)) (DN.de (u0T ["_law_sign"] [] rfl (u0q (sc:=defScope u1M) (N:=["_law_thing"]) (by decide +kernel)) (u0A (d_ix x_ix (dv 0) u0c)) (dg_n (show(["_law_sign"]:List Str).Nodup by decide +kernel)) (u5M (u0J (u0I (d_fn a0d hr (u0a (dv 0) u0b))))) (dv 0))) (u0F u0b)))))),?_⟩
 intro d h hk
 simp[runT,startD,u9B (u0D h)]
 cases d with
 | tup ds =>
  match ds,h,hk with
  | [],_,_=>simp[isTupD,rankD,u2S]
  | [_],_,_=>simp[isTupD,rankD,u2S]
  | _::_::_::l,_,_ =>
   have:((l.length:Int)+1+1+1==2)=false:=by
    rw[beq_eq_false_iff_ne];omega
   simp[isTupD,rankD,u2S,this]
  | [x,y],h,hk =>
   have gx:=u0H h x (by simp)
   have gy:=u0H h y (by simp)
   simp[isTupD,rankD,u2S,ix_0,ix_1,u5w (show isOkR (cmpD x)=true from hk)]
   by_cases cx:sideD x=true
   ·simp [cx,ix_1,u9B (u0D gy)]
    cases y with
    | tup bs =>
     by_cases c0:1<=bs.length
     ·have c0':(1:Int)<=bs.length:=by omega
      by_cases c:bs.length<=10
      ·have c':(bs.length:Int)<=10:=by omega
       simp[isTupD,rsgD,ix_1,c,c',c0,c0']
       rw[u0w (u0S (by omega)),u1F (λd=>!sgnD d) (λd=>d) (λd hd=>?_)]
       ·simp[u7l,u3j]
       ·exact⟨_,rfl,by simp[rhoC,a0l d (u0H gy d hd)],λ_=>by simp[rhoC]⟩
      ·have c':¬ (bs.length:Int)<=10:=by omega
       simp[isTupD,rsgD,ix_1,c,c',c0,c0']
     ·have c0':¬ (1:Int)<=bs.length:=by omega
      simp[isTupD,rsgD,ix_1,c0,c0']
    | _=>simp[isTupD,rsgD,ix_1]
   ·simp[cx]
 | _=>simp[isTupD,rankD]
def u4H {a2b:FD} (a3h:Callee P w K mg base 2 "_law_is_rule" ["_law_thing"] (spF K a2b)) (a3f:P1 ruleD a2b) (F:Fun K "_law_rules_due" "_law_rules_due" u1U f fd) (T:Txt K mg A):∃G,FnOk P w K mg base CX0 3 f fd ["_law_rules_here"] (spF K G)/\∀d,goodD d=true->G [d]=.ok (dueRules d).toD:=by
 refine⟨_,F.okT (k:=2) u1G (λcdv Ar outer s H E hr=>u0d (u0v (u0J (u0I (d_B u2a T.z_isinstance (by decide +kernel) (u0a (dv 0) (u0a (d_ty T.z_list (T:="list") (by decide +kernel)) u0b))))) (u0e (u0g (u0h (u0a u0i (u0a (dv 0) u0b))))) u0n)
  (u0d (u0v (u0J (u3S o_le o_le u0c (d_B u0L T.z_len (by decide +kernel) (u0a (dv 0) u0b)) u0c)) (u0e (u0g (u0h (u0a u0i (u0a (d_B u0L T.z_len (by decide +kernel) (u0a (dv 0) u0b)) u0b))))) u0n)
  (u0d (u0Y rfl (u7o T.z_enumerate (u0a (dv 0) u0b)) (u3p (n:=2) rfl (u0r (dg_n u1G.nd) (u0r (dg_n u1G.nd) u1H)))
  (u0d (u0v (u0J (u0I (d_fn a3h hr (u0a (dv 2) u0b)))) (u0e (u0g (u0h (u0a u0i (u0a (dv 2) u0b))))) u0n)
   (u0e (u0v (u0m (o_in (hu100 hr)) (dv 2) (d_sl (dv 0) u0x (u0t (dv 1)))) (u0e (u0g (u0h (u0a u0i (u0a (dv 1) u0b))))) u0n))))
  (u0e (u0g u2j))))),?_⟩
 intro d h
 simp[runT,startD,a_lst (u0D h)]
 cases d with
 | lst ds =>
  have g:=u2B h
  by_cases c0:1<=ds.length
  ·have c0':(1:Int)<=ds.length:=by omega
   by_cases c:ds.length<=20
   ·have c':(ds.length:Int)<=20:=by omega
    simp[isLstD,dueRules,c,c',c0,c0']
    rw[show enum1 [.lst ds]=.ok (enumL ds) from rfl,zg]
    refine u4p (S1 ds) goRules Q1 ?_ ?_ ds 0 [] _ ⟨rfl,rfl,λp hp=>(nomatch hp),none,none,rfl⟩
    ·rintro k rs ρ ⟨_,_,_,x,y,rfl⟩
     simp[Q1,goRules,Due.toD]
    ·rintro k rs d rest ρ ⟨rfl,e,hr,x,y,rfl⟩
     have gd':=g d (by rw[e];simp)
     refine⟨_,rfl,?_⟩
     simp[a3f d gd']
     by_cases cr:ruleD d=true
     ·obtain ⟨p,ep,rfl⟩:=u3E cr
      have o:=v2i cr gd'
      have ec:dSl (.lst ds) none (some (rs.length:Int))=.ok (.lst (rs.map rT)):=by
       show Res.ok (D.lst (cutC ds none (some (rs.length:Int))))=_
       rw[e]
       have:=v4h (rs.map rT) (rT p::rest)
       rw[v6] at this
       rw[this]
      simp[cr,asI,ec,show dIn (rT p) (.lst (rs.map rT))=inD (rT p) (rs.map rT) false from u2D false _ _,u7c o hr]
      by_cases cp:p∈rs
      ·simp [cp]
       exact u2f (by simp[Q1,goRules,ep,cp,Due.toD])
      ·simp [cp]
       exact u0X (rs++[p]) ⟨by simp,by rw[e];simp,u9O hr o,_,_,rfl⟩ (by simp[goRules,ep,cp])
     ·simp [cr]
      exact u2f (by simp[Q1,goRules,u3F (by simpa using cr),Due.toD])
   ·have c':¬ (ds.length:Int)<=20:=by omega
    simp[isLstD,dueRules,c,c',c0,c0',Due.toD]
  ·have c0':¬ (1:Int)<=ds.length:=by omega
   simp[isLstD,dueRules,c0,c0',Due.toD]
 | _=>simp[isLstD,dueRules,Due.toD]
def u6Q {a4d:FD} (a4x:Callee P w K mg base 5 "is_rule" ["thing"] (spF K a4d)) (x_NoRule:XCalleeF P w K mg base 1 "NoRule" A.NoRule ["self","found"] ["found"]) (x_TooMany:XCalleeF P w K mg base 1 "TooMany" A.TooMany ["self","found"] ["found"]) (x_Doubled:XCalleeF P w K mg base 1 "Doubled" A.Doubled ["self","number"] ["number"]) (a4u:P1 ruleD a4d) (F:Fun K "need_rules" "need_rules" u2N f fd) (T:Txt K mg A):∃G,FnOk P w K mg base (CXe P w) 6 f fd ["rules"] (spX K G)/\∀d,goodD d=true->G [d]=(dueRules d).toR A:=by
 refine⟨_,F.okTX (k:=5) u1I (λcdv Ar outer s H E hr hq=>u0d (u0v (u0J (u0I (d_B u2a T.z_isinstance (by decide +kernel) (u0a (dv 0) (u0a (d_ty T.z_list (T:="list") (by decide +kernel)) u0b))))) (u0e (u1b hq rfl x_NoRule hr (u0a (dv 0) u0b))) u0n)
  (u0d (u0v (u0J (u3S o_le o_le u0c (d_B u0L T.z_len (by decide +kernel) (u0a (dv 0) u0b)) (u3W T.g_MOST_RULES))) (u0e (u1b hq rfl x_TooMany hr (u0a (d_B u0L T.z_len (by decide +kernel) (u0a (dv 0) u0b)) u0b))) u0n)
  (u0d (u1e u1I.nd dn_newW)
  (u0e (u0Y rfl (u7o T.z_enumerate (u0a (dv 0) u0b)) (u3p (n:=2) rfl (u0r (dg_n u1I.nd) (u0r (dg_n u1I.nd) u1H)))
  (u0d (u0v (u0J (u0I (d_fn a4x hr (u0a (dv 3) u0b)))) (u0e (u1b hq rfl x_NoRule hr (u0a (dv 3) u0b))) u0n)
   (u0d (u0v (u0m (o_inW (hu200 hr)) (dv 3) (dv 1)) (u0e (u1b hq rfl x_Doubled hr (u0a (dv 2) u0b))) u0n)
   (u0e (ds_putW 1 (hu200 hr) (dv 3) d_bl)))) hq.ps))))),?_⟩
 intro d h
 simp[runX,startD,a_lst (u0D h)]
 cases d with
 | lst ds =>
  have g:=u2B h
  by_cases c0:1<=ds.length
  ·have c0':(1:Int)<=ds.length:=by omega
   by_cases c:ds.length<=20
   ·have c':(ds.length:Int)<=20:=by omega
    simp[isLstD,dueRules,c,c',c0,c0']
    rw[show enum1 [.lst ds]=.ok (enumL ds) from rfl,zg]
    refine u4p (S2 w ds) goRules (Q2 A) ?_ ?_ ds 0 [] _ ⟨rfl,rfl,λp hp=>(nomatch hp),[],none,none,rfl,rfl⟩
    ·intro k rs ρ hY
     refine bc λhZ=>?_
     obtain⟨_,_,_,kvs,x,y,rfl,_⟩:=hY
     refine hZ ?_
     simp[Q2,goRules,Due.toR]
    ·intro k rs d rest ρ hY
     refine bc λhZ=>?_
     obtain⟨rfl,e,hr,kvs,x,y,rfl,ek⟩:=hY
     refine hZ ?_
     have gd':=g d (by rw[e];simp)
     refine⟨_,rfl,?_⟩
     simp[a4u d gd']
     by_cases cr:ruleD d=true
     ·obtain ⟨p,ep,rfl⟩:=u3E cr
      have o:=v2i cr gd'
      have hl:kvs.length=rs.length:=by have:=congrArg List.length ek;simpa using this
      have hl2:rs.length<=20:=by have:=congrArg List.length e;simp at this;omega
      simp[cr,OD.toD,in_keys (w:=w) o ek]
      by_cases cp:p∈rs
      ·simp [cp]
       exact u2g (by simp[Q2,goRules,ep,cp,Due.toR])
      ·simp only [cp,if_false,zn]
       rw[put_key (w:=w) (kvs:=kvs) o (by omega) rfl rfl rfl]
       exact u0X (rs++[p]) ⟨by simp,by rw[e];simp,u9O hr o,_,_,_,rfl,v3S ek cp⟩ (by simp[goRules,ep,cp])
     ·simp [cr]
      exact u2g (by simp[Q2,goRules,u3F (by simpa using cr),Due.toR])
   ·have c':¬ (ds.length:Int)<=20:=by omega
    simp[isLstD,dueRules,c,c',c0,c0',Due.toR]
  ·have c0':¬ (1:Int)<=ds.length:=by omega
   simp[isLstD,dueRules,c0,c0',Due.toR]
 | _=>simp[isLstD,dueRules,Due.toR]
def u9k (F:Fun K "heads_in" "heads_in" u3c f fd) (T:Txt K mg A):∃G,FnOk P w K mg base CX0 1 f fd ["rules"] (spF K G)/\∀rs:List RR,rs.length<64->G [.lst (rs.map rT)]=.ok (.lst ((headsL rs).map D.str)):=by
 refine⟨_,F.okT (k:=0) u8W (λcdv Ar outer s H E hr=>u0e (u0g (v4I rfl T.z_sorted T.z_set (u0a (DN.de (u0T ["rule"] [] rfl (u0q (sc:=defScope u3c) (N:=["rules"]) (by decide +kernel)) (u0A (dv 0)) (dg_n (show(["rule"]:List Str).Nodup by decide +kernel)) u1A (d_ix x_ix (dv 0) u0c))) u0b)))),?_⟩
 intro rs hl
 simp[runT,startD]
 rw[u0w (u0S (by omega)),u1y hd1 (λd hd=>?_)]
 ·simp only [v2E,zb,toD_l,one1]
  rw[v0f (by simpa[hsOf] using hl)]
  simp[headsL]
 ·obtain ⟨p,_,rfl⟩:=w6.mp hd
  exact⟨_,rfl,rfl,by simp[rhoC,rT,ix_0,hd1]⟩
def u9a {a0i:FD} (a0q:Callee P w K mg base 2 "is_sign" ["thing"] (spF K a0i)) (a0g:P1 sgnD a0i) (F:Fun K "signs_in" "signs_in" u4f f fd) (T:Txt K mg A):∃G,FnOk P w K mg base CX0 3 f fd ["rules"] (spF K G)/\∀rs:List RR,Few rs->G [.lst (rs.map rT)]=.ok (.lst ((sortT (sgL [] rs)).map D.str)):=by
 refine⟨_,F.okT (k:=2) u2u (λcdv Ar outer s H E hr=>u0d (u1e u2u.nd v2W)
  (u0d (u0Y rfl (u0A (dv 0)) (dg_n u2u.nd)
  (u0e (u0Y rfl (u0A (d_ix x_ix (dv 2) u0c)) (dg_n u2u.nd)
   (u0e (u0v (u0I (d_fn a0q hr (u0a (dv 3) u0b))) (u0e (v2Q 1 (hu200 hr) (dv 3) d_bl)) u0n)))))
  (u0e (u0g (d_B (c_sortD rfl) T.z_sorted (by decide +kernel) (u0a (dv 1) u0b)))))),?_⟩
 intro rs fw
 simp[runT,startD]
 have key:∀o,Qsg (.lst (rs.map rT)) (sgL [] rs) o->noE (outR (o.andThen λρ=>(((getV (frz ρ) 1).bind λd=>Res.ok [d]).bind λds=>noE (gSD ds)).go ρ λd=>Out.rt d))=.ok (.lst ((sortT (sgL [] rs)).map D.str)):=by
  rintro o ⟨kvs,x,y,rfl,ek⟩
  have e:gSD [.dct kvs]=.ok (.lst ((sortT (sgL [] rs)).map D.str)):=by
   show(match keyStrs kvs with|some ss=>gd (ss.length<64/\∀z∈ss,z.length<=sizeLine) (Res.ok (D.lst ((sortT ss).map D.str)))|none=>.bad)=_
   rw[u6v ek]
   simp only
   refine u0w ⟨fw.s,λz hz=>?_⟩
   have:=u8R (P:=λz=>goodS z=true) (ss:=[]) (rs:=rs) (λz h=>(nomatch h)) (λp hp b hb _=>(fw.ok p hp).gs b hb) z hz
   simp[goodS] at this
   exact u0S this.2
  simp[OD.toD,e]
 apply key
 refine u0B rT (Ssg (.lst (rs.map rT))) sgL (Qsg _) ?_ ?_ rs [] _ ⟨fw.ok,by have:=fw.n;simp;omega,[],none,none,rfl,rfl⟩
 ·intro ss ρ hY
  refine bc λhZ=>?_
  obtain⟨_,_,kvs,x,y,rfl,ek⟩:=hY
  refine hZ ?_
  exact⟨kvs,x,y,rfl,ek⟩
 ·intro ss p ps ρ hY
  refine bc λhZ=>?_
  obtain⟨ok,hl,kvs,x,y,rfl,ek⟩:=hY
  refine hZ ?_
  have op:=ok p z6
  refine⟨_,rfl,?_⟩
  simp[rT,ix_1]
  generalize hI:forD _ _ _ _=o
  have q:Qsg (.lst (rs.map rT)) (p.2.foldl addSg ss) o:=by
   rw[<- hI]
   refine u0B D.str (Ssi (.lst (rs.map rT)) (some (.val (rT p)))) (λss bs=>bs.foldl addSg ss) (Qsg _) ?_ ?_ p.2 ss _ ⟨op.gs,by have:=op.l;simp at hl;omega,kvs,y,rfl,ek⟩
   ·rintro ss ρ ⟨_,_,kvs,y,rfl,ek⟩
    exact⟨kvs,_,y,rfl,ek⟩
   ·rintro ss b bs ρ ⟨gs,hl,kvs,y,rfl,ek⟩
    have hk:kvs.length=ss.length:=by have:=congrArg List.length ek;simpa using this
    refine⟨_,rfl,?_⟩
    simp[a0g (.str b) (by simpa[goodD] using gs b z6),sgnD]
    by_cases c:sgnS b=true
    ·simp only [c,if_true]
     rw[v1W (ss:=ss) (kvs:=kvs) (b:=b) (by simp at hl;omega) rfl rfl rfl]
     exact u0X (addSg ss b) ⟨λz hz=>gs z (z0 _ hz),by have:=u4a ss b;simp at hl;omega,_,_,rfl,by unfold addSg;rw[if_pos c];exact u5E ek⟩ rfl
    ·simp only [c]
     exact u0X (addSg ss b) ⟨λz hz=>gs z (z0 _ hz),by have:=u4a ss b;simp at hl;omega,_,_,rfl,by unfold addSg;rw[if_neg c];exact ek⟩ rfl
  obtain⟨kvs',x',y',rfl,ek'⟩:=q
  exact u0X (p.2.foldl addSg ss) ⟨λz hz=>ok z (z0 _ hz),by have:=u6x p.2 ss;have:=op.l;simp at hl;omega,_,_,_,rfl,ek'⟩ rfl
def u3w {a1d:FD} (a2d:Callee P w K mg base 1 "heads_in" ["rules"] (spF K a1d)) {a0k:FD} (a0s:Callee P w K mg base 2 "is_head" ["thing"] (spF K a0k)) (x_NoHead:XCalleeF P w K mg base 1 "NoHead" A.NoHead ["self","head"] ["head"]) (a0h:P1 hdD a0k) (a2u:∀rs:List RR,rs.length<64->a1d [.lst (rs.map rT)]=.ok (.lst ((headsL rs).map D.str))) (F:Fun K "need_known_heads" "need_known_heads" u1q f fd) (T:Txt K mg A):∃G,FnOk P w K mg base (CXe P w) 3 f fd ["rules"] (spX K G)/\∀rs:List RR,(∀p∈rs,OkR p)->rs.length<64->G [.lst (rs.map rT)]=(goKn (headsL rs) () rs).toR A:=by
 refine⟨_,F.okTX (k:=2) u0U (λcdv Ar outer s H E hr hq=>u0d (ds_n u0U.nd (d_fn a2d hr (u0a (dv 0) u0b)))
  (u0e (u0Y rfl (u0A (dv 0)) (dg_n u0U.nd)
  (u0e (u0Y rfl (u0A (d_ix x_ix (dv 2) u0c)) (dg_n u0U.nd)
   (u0e (u0v (dt_w (u3R (u0I (d_fn a0s hr (u0a (dv 3) u0b))) (u2W (u0m (u2z (hu100 hr)) (dv 3) (dv 1))))) (u0e (u1b hq rfl x_NoHead hr (u0a (dv 3) u0b))) u0n)) hq.ps)) hq.ps))),?_⟩
 intro rs ok hl
 simp[runX,startD,a2u rs hl]
 refine u0B rT (Skn (.lst (rs.map rT)) (.lst ((headsL rs).map D.str))) (goKn (headsL rs)) (Q2 A) ?_ ?_ rs () _ ⟨ok,none,none,rfl⟩
 ·rintro _ ρ ⟨_,x,y,rfl⟩
  simp[Q2,goKn,Due.toR]
 ·rintro _ p ps ρ ⟨okp,x,y,rfl⟩
  have op:=okp p z6
  refine⟨_,rfl,?_⟩
  simp[rT,ix_1]
  generalize hI:forD _ _ _ _=o
  have q:Qki A (.lst (rs.map rT)) (.lst ((headsL rs).map D.str)) (fstUnk (headsL rs) p.2) o:=by
   rw[<- hI]
   refine u0B D.str (Ski (.lst (rs.map rT)) (.lst ((headsL rs).map D.str)) (some (.val (rT p)))) (λ_ bs=>fstUnk (headsL rs) bs) (Qki A _ _) ?_ ?_ p.2 () _ ⟨op.gs,y,rfl⟩
   ·rintro _ ρ ⟨_,y,rfl⟩
    exact⟨_,y,rfl⟩
   ·rintro _ b bs ρ ⟨gs,y,rfl⟩
    have gb:=gs b z6
    refine⟨_,rfl,?_⟩
    simp[a0h (.str b) (by simpa[goodD] using gb),hdD]
    by_cases c:hdS b=true
    ·simp [c,u3f gb (u4m ok)]
     by_cases k:b∈headsL rs
     ·simp [k]
      exact u0X () ⟨λz hz=>gs z (z0 _ hz),_,rfl⟩ (by simp[u4V,k])
     ·simp [k]
      exact u2g (by simp only[u4V,c,k];exact⟨_,rfl⟩)
    ·simp [c]
     exact u0X () ⟨λz hz=>gs z (z0 _ hz),_,rfl⟩ (by simp[u4V,c])
  cases u:fstUnk (headsL rs) p.2 with
  | none =>
   rw[u] at q
   obtain⟨x',y',rfl⟩:=q
   exact u0X () ⟨λz hz=>okp z (z0 _ hz),_,_,rfl⟩ (by simp[goKn,u])
  | some b =>
   rw[u] at q
   obtain⟨ρ',rfl⟩:=q
   exact u2g (by simp[Q2,goKn,u,Due.toR])
def u3x {a1d:FD} (a2d:Callee P w K mg base 1 "heads_in" ["rules"] (spF K a1d)) {a3k:FD} (a4r:Callee P w K mg base 3 "signs_in" ["rules"] (spF K a3k)) (x_TooMany:XCalleeF P w K mg base 1 "TooMany" A.TooMany ["self","found"] ["found"]) (a2u:∀rs:List RR,rs.length<64->a1d [.lst (rs.map rT)]=.ok (.lst ((headsL rs).map D.str))) (a2q:∀rs:List RR,Few rs->a3k [.lst (rs.map rT)]=.ok (.lst ((sortT (sgL [] rs)).map D.str))) (F:Fun K "need_few_symbols" "need_few_symbols" u1r f fd) (T:Txt K mg A):∃G,FnOk P w K mg base (CXe P w) 4 f fd ["rules"] (spX K G)/\∀rs:List RR,Few rs->G [.lst (rs.map rT)]=(dueFew rs).toR A:=by
 refine⟨_,F.okTX (k:=3) u1k (λcdv Ar outer s H E hr hq=>u0d (ds_n u1k.nd (d_fn a2d hr (u0a (dv 0) u0b)))
  (u0d (u0v (u0m o_gt (d_B u0L T.z_len (by decide +kernel) (u0a (dv 1) u0b)) (u3W T.g_MOST_HEADS)) (u0e (u1b hq rfl x_TooMany hr (u0a (d_B u0L T.z_len (by decide +kernel) (u0a (dv 1) u0b)) u0b))) u0n)
  (u0d (ds_n u1k.nd (d_fn a4r hr (u0a (dv 0) u0b)))
  (u0e (u0v (u0m o_gt (d_B u0L T.z_len (by decide +kernel) (u0a (dv 2) u0b)) (u3W T.g_MOST_SIGNS)) (u0e (u1b hq rfl x_TooMany hr (u0a (d_B u0L T.z_len (by decide +kernel) (u0a (dv 2) u0b)) u0b))) u0n))))),?_⟩
 intro rs fw
 have n:=fw.n
 simp[runX,startD,a2u rs (by omega),headsL,u1R]
 unfold dueFew
 by_cases c:(setOfT (hsOf rs)).length > 8
 ·have c':(8:Int)<(setOfT (hsOf rs)).length:=by omega
  simp[c,c',u1R,Due.toR]
 ·have c':¬ (8:Int)<(setOfT (hsOf rs)).length:=by omega
  simp[c,c',a2q rs fw,u1R]
  by_cases k:(sgL [] rs).length > 10
  ·have k':(10:Int)<(sgL [] rs).length:=by omega
   simp[k,k',u1R,Due.toR]
  ·have k':¬ (10:Int)<(sgL [] rs).length:=by omega
   simp[k,k',Due.toR]
end
noncomputable def inn (hs:List Str) (ss:List Str):List Str->Option Str×List Str
 | []=>(none,ss)
 | b::bs=>if (hdS b&&!decide (b∈hs))=true then (some b,ss) else inn hs (addSg ss b) bs
noncomputable def goHd (hs:List Str) (ss:List Str):List RR->Option Str×List Str
 | []=>(none,ss)
 | p::rs=>match inn hs ss p.2 with
  | (some b,s)=>(some b,s)
  | (none,s)=>goHd hs s rs
theorem v0c (hs:List Str):∀(bs ss:List Str),(inn hs ss bs).1=fstUnk hs bs/\(fstUnk hs bs=none->(inn hs ss bs).2=bs.foldl addSg ss)
 | [],ss=>⟨rfl,λ_=>rfl⟩
 | b::bs,ss=>by
  rw[u4V]
  unfold inn
  by_cases c:(hdS b&&!decide (b∈hs))=true
  ·rw[if_pos c,if_pos c];exact⟨rfl,λh=>by cases h⟩
  ·rw[if_neg c,if_neg c];exact v0c hs bs (addSg ss b)
theorem u8l (hs:List Str):∀(rs:List RR) (ss:List Str),goKn hs () rs=(match (goHd hs ss rs).1 with|some b=>.head b|none=>.fine)/\((goHd hs ss rs).1=none->(goHd hs ss rs).2=sgL ss rs)
 | [],ss=>⟨rfl,λ_=>rfl⟩
 | p::rs,ss=>by
  obtain⟨h1,h2⟩:=v0c hs p.2 ss
  unfold goHd goKn
  cases e:inn hs ss p.2 with
  | mk u s =>
   rw[e] at h1 h2
   cases u with
   | some b=>rw[<- h1];exact⟨rfl,λh=>by cases h⟩
   | none =>
    rw[<- h1]
    simp only at h2 |-
    rw[h2 h1.symm]
    exact u8l hs rs _
def Shd (ds hs:D) (ss:List Str) (rs:List RR) (ρ:Rho):Prop:=(∀p∈rs,OkR p)/\(∀z∈ss,goodS z=true)/\ss.length+4*rs.length<=200/\∃x y z,ρ=[some (.val ds),some (.val hs),some (.own (.l (ss.map D.str))),x,y,z]
def Shi (ds hs:D) (x y:Option Sl) (n:Nat) (ss:List Str) (bs:List Str) (ρ:Rho):Prop:=(∀b∈bs,goodS b=true)/\(∀z∈ss,goodS z=true)/\(ss.length+bs.length<=n/\n<=500)/\∃z,ρ=[some (.val ds),some (.val hs),some (.own (.l (ss.map D.str))),x,y,z]
def Qhd (ds hs:D) (u:Option Str×List Str) (o:Out):Prop:=match u with
 | (none,ss)=>∃x y z,o=.nx [some (.val ds),some (.val hs),some (.own (.l (ss.map D.str))),x,y,z]
 | (some b,_)=>o=.rt (.tup [.str "head",.str b])
def Qhi (ds hs:D) (n:Nat) (u:Option Str×List Str) (o:Out):Prop:=match u with
 | (none,ss)=>(∀z∈ss,goodS z=true)/\ss.length<=n/\∃x y z,o=.nx [some (.val ds),some (.val hs),some (.own (.l (ss.map D.str))),x,y,z]
 | (some b,_)=>o=.rt (.tup [.str "head",.str b])
noncomputable def asRank (d:D):Option (List Str):=match d with
 | .tup [.str _,.tup bs]=>if rankD d=true then strsOf bs else none
 | _=>none
theorem u7F:∀{ds:List D},ds.all sgnD=true->∃ss,strsOf ds=some ss
 | [],_=>⟨[],rfl⟩
 | d::ds,h=>by
  rw[z0D,t9] at h
  obtain⟨ss,e⟩:=u7F h.2
  cases d with
  | str z=>exact⟨z::ss,by simp[strsOf,e]⟩
  | _=>simp[sgnD] at h
def u2F {d:D} (h:rankD d=false):asRank d=none:=by
 unfold asRank
 split
 ·rw[if_neg (by rw[h];exact t8)]
 ·rfl
def u2E {d:D} (h:rankD d=true):∃s ss,asRank d=some ss/\d=.tup [.str s,.tup (ss.map D.str)]/\ss.length<=10:=by
 cases d with
 | tup ds =>
  match ds,h with
  | [],h=>simp[rankD] at h
  | [_],h=>simp[rankD] at h
  | _::_::_::_,h=>simp[rankD] at h
  | [x,y],h =>
   have h0:=h
   simp[rankD] at h
   obtain⟨h1,h2⟩:=h
   cases x with
   | str z =>
    cases y with
    | tup bs =>
     simp[rsgD] at h2
     obtain⟨ss,e⟩:=u7F (z2F.mpr h2.2.2)
     refine⟨z,ss,?_,?_,?_⟩
     ·show (if rankD _=true then strsOf bs else none)=_
      rw[if_pos h0,e]
     ·rw[u3G e]
     ·have:=h2.2.1
      rw[u3G e,v6] at this
      exact this
    | _=>simp[rsgD] at h2
   | _=>simp[sideD] at h1
 | _=>simp[rankD] at h
noncomputable def addAll (ks:List Str):List Str->Option (List Str)
 | []=>some ks
 | b::bs=>if b∈ks then none else addAll (ks++[b]) bs
noncomputable def goRk (ks:List Str):List D->Due
 | []=>.fine
 | d::ds=>match asRank d with
  | none=>.ranks d
  | some ss=>match addAll ks ss with
   | none=>.ranks d
   | some ks=>goRk ks ds
noncomputable def dueRanks:D->Due
 | .lst ds | .tup ds=>if ds.length > 6 then .many ds.length else goRk [] ds
 | d=>.ranks d
def Srk (ds:D) (ks:List Str) (rest:List D) (ρ:Rho):Prop:=(∀d∈rest,goodD d=true)/\ks.length+10*rest.length<=100/\∃kvs x y,ρ=[some (.val ds),some (.own (.d kvs)),x,y]/\kvs.map (·.1)=ks.map D.str
def Sri (ds:D) (r:Option Sl) (n:Nat) (ks:List Str) (bs:List Str) (ρ:Rho):Prop:=(ks.length+bs.length<=n/\n<=500)/\∃kvs y,ρ=[some (.val ds),some (.own (.d kvs)),r,y]/\kvs.map (·.1)=ks.map D.str
def Qri (A:Adr) (ds d:D) (n:Nat) (u:Option (List Str)) (o:Out):Prop:=match u with
 | some ks=>ks.length<=n/\∃kvs x y,o=.nx [some (.val ds),some (.own (.d kvs)),x,y]/\kvs.map (·.1)=ks.map D.str
 | none=>∃ρ,o=.er (.exc A.NoRanks [("found",d)]) ρ
def Slk (ds:D) (ks:List Str) (rest:List D) (ρ:Rho):Prop:=(∀d∈rest,goodD d=true/\rkOk d=true)/\(∀z∈ks,goodS z=true)/\ks.length+10*rest.length<=100/\∃x y,ρ=[some (.val ds),some (.own (.l (ks.map D.str))),x,y]
def Sli (ds:D) (r:Option Sl) (n:Nat) (ks:List Str) (bs:List Str) (ρ:Rho):Prop:=(∀b∈bs,goodS b=true)/\(∀z∈ks,goodS z=true)/\(ks.length+bs.length<=n/\n<=500)/\∃y,ρ=[some (.val ds),some (.own (.l (ks.map D.str))),r,y]
def Qli (ds d:D) (n:Nat) (u:Option (List Str)) (o:Out):Prop:=match u with
 | some ks=>(∀z∈ks,goodS z=true)/\ks.length<=n/\∃x y,o=.nx [some (.val ds),some (.own (.l (ks.map D.str))),x,y]
 | none=>o=.rt (.tup [.str "ranks",d])
def v4A {w:World}{b:Str}{kvs:List (D×D)}{ks:List Str} (e:kvs.map (·.1)=ks.map D.str):dInA w false (.str b) (.dct kvs)=.ok (.bl (decide (b∈ks))):=by
 rw[v0t,show keyK (.str b)=.ok (.inr b) from rfl,zb,val_key e]
 rfl
def v3l {ks:List Str}{b:Str} (h:¬ b∈ks):addT ks b=ks++[b]:=by unfold addT;rw[if_neg h]
def u7K {s:Str}{ss:List Str} (h:goodD (.tup [.str s,.tup (ss.map D.str)])=true):∀b∈ss,goodS b=true:=λb hb=>by
 have h1:=u0H h (.tup (ss.map D.str)) (by simp)
 have:=u0H h1 (.str b) (w6.mpr ⟨b,hb,rfl⟩)
 simpa[goodD] using this
section
variable {P:Program}{w:World}{K:W.Frag}{mg:MG}{base:Heap}{f:Addr}{fd:FuncData}{A:Adr}
def u4J {a0c:FD} (a0e:Callee P w K mg base 1 "_law_is_head" ["_law_thing"] (spF K a0c)) {a0a:FD} (a0d:Callee P w K mg base 1 "_law_is_sign" ["_law_thing"] (spF K a0a)) (a0o:P1 hdD a0c) (a0l:P1 sgnD a0a) (F:Fun K "_law_heads_due" "_law_heads_due" u1s f fd) (T:Txt K mg A):∃G,FnOk P w K mg base CX0 2 f fd ["_law_rules_here"] (spF K G)/\∀rs:List RR,Few rs->G [.lst (rs.map rT)]=.ok (dueHeads rs).toD:=by
 refine⟨_,F.okT (k:=1) u0M (λcdv Ar outer s H E hr=>u0d (ds_n u0M.nd (v4I rfl T.z_sorted T.z_set (u0a (DN.de (u0T ["_law_rule"] [] rfl (u0q (sc:=defScope u1s) (N:=["_law_rules_here","_law_heads_here","_law_signs_here","_law_head","_law_body","_law_symbol_here"]) (by decide +kernel)) (u0A (dv 0)) (dg_n (show(["_law_rule"]:List Str).Nodup by decide +kernel)) u1A (d_ix x_ix (dv 0) u0c))) u0b)))
  (u0d (u1e u0M.nd (u2q u0b))
  (u0d (u0Y rfl (u0A (dv 0)) (u3p (n:=2) rfl (u0r (dg_n u0M.nd) (u0r (dg_n u0M.nd) u1H)))
  (u0e (u0Y rfl (u0A (dv 4)) (dg_n u0M.nd)
   (u0d (u0v (dt_w (u3R (u0I (d_fn a0e hr (u0a (dv 5) u0b))) (u2W (u0m (u2z (hu100 hr)) (dv 5) (dv 1))))) (u0e (u0g (u0h (u0a u0i (u0a (dv 5) u0b))))) u0n)
    (u0e (u0v (dt_w (u3R (u0I (d_fn a0d hr (u0a (dv 5) u0b))) (u2W (u0m (u2z (hu100 hr)) (dv 5) (dv 2))))) (u0e (u1f 2 (dv 5))) u0n))))))
  (u0d (u0v (u0m o_gt (d_B u0L T.z_len (by decide +kernel) (u0a (dv 1) u0b)) u0c) (u0e (u0g (u0h (u0a u0i (u0a (d_B u0L T.z_len (by decide +kernel) (u0a (dv 1) u0b)) u0b))))) u0n)
  (u0d (u0v (u0m o_gt (d_B u0L T.z_len (by decide +kernel) (u0a (dv 2) u0b)) u0c) (u0e (u0g (u0h (u0a u0i (u0a (d_B u0L T.z_len (by decide +kernel) (u0a (dv 2) u0b)) u0b))))) u0n)
  (u0e (u0g u2j))))))),?_⟩
 intro rs fw
 have n:=fw.n
 simp[runT,startD]
 rw[u0w (u0S (by omega)),u1y hd1 (λd hd=>?_)]
 ·simp only [v2E,zb,toD_l,one1]
  rw[v0f (by simp[hsOf];omega)]
  simp
  rw[show sortT (setOfT (hsOf rs))=headsL rs from rfl]
  generalize hO:forD _ _ _ _=o
  have q:Qhd (.lst (rs.map rT)) (.lst ((headsL rs).map D.str)) (goHd (headsL rs) [] rs) o:=by
   rw[<- hO]
   refine u0B rT (Shd (.lst (rs.map rT)) (.lst ((headsL rs).map D.str))) (goHd (headsL rs)) (Qhd _ _) ?_ ?_ rs [] _ ⟨fw.ok,λz h=>(nomatch h),by simp;omega,none,none,none,rfl⟩
   ·intro ss ρ hY
    refine bc λhZ=>?_
    obtain⟨_,_,_,x,y,z,rfl⟩:=hY
    refine hZ ?_
    exact⟨x,y,z,rfl⟩
   ·intro ss p ps ρ hY
    refine bc λhZ=>?_
    obtain⟨okp,gss,hl,x,y,z,rfl⟩:=hY
    refine hZ ?_
    have op:=okp p z6
    have hp:=op.l
    refine⟨_,rfl,?_⟩
    simp at hl
    simp
    generalize hI:forD _ _ _ _=o
    have q:Qhi (.lst (rs.map rT)) (.lst ((headsL rs).map D.str)) (ss.length+4) (inn (headsL rs) ss p.2) o:=by
     rw[<- hI]
     refine u0B D.str (Shi (.lst (rs.map rT)) (.lst ((headsL rs).map D.str)) (some (.val (.str p.1))) (some (.val (.tup (p.2.map D.str)))) (ss.length+4)) (inn (headsL rs)) (Qhi _ _ _) ?_ ?_ p.2 ss _ ⟨op.gs,gss,⟨by omega,by omega⟩,z,rfl⟩
     ·rintro s ρ ⟨_,gs,⟨h1,_⟩,z,rfl⟩
      exact⟨gs,by simpa using h1,_,_,z,rfl⟩
     ·rintro s b bs ρ ⟨gb,gs,⟨h1,h2⟩,z,rfl⟩
      have g:=gb b z6
      simp at h1
      refine⟨_,rfl,?_⟩
      have es:a0a [.str b]=.ok (.bl (sgnS b)):=a0l (.str b) (by simpa[goodD] using g)
      simp[a0o (.str b) (by simpa[goodD] using g),hdD]
      have fin:∀s',s'=addSg s b->inn (headsL rs) s (b::bs)=inn (headsL rs) s' bs->StepOk (Shi (.lst (rs.map rT)) (.lst ((headsL rs).map D.str)) (some (.val (.str p.1))) (some (.val (.tup (p.2.map D.str)))) (ss.length+4)) (inn (headsL rs)) (Qhi (.lst (rs.map rT)) (.lst ((headsL rs).map D.str)) (ss.length+4)) s b bs (.nx [some (.val (.lst (rs.map rT))),some (.val (.lst ((headsL rs).map D.str))),some (.own (.l (s'.map D.str))),some (.val (.str p.1)),some (.val (.tup (p.2.map D.str))),some (.val (.str b))]):=by
       rintro s' rfl e
       exact u0X (addSg s b) ⟨λy hy=>gb y (z0 _ hy),u8N gs λ_=>g,⟨by have:=u4a s b;omega,h2⟩,_,rfl⟩ e
      by_cases cu:(hdS b&&!decide (b∈headsL rs))=true
      ·simp only [t9,Bool.not_eq_true',decide_eq_false_iff_not] at cu
       simp[cu.1,u3f g (u4m fw.ok),cu.2]
       exact u2f (by unfold inn;rw[if_pos (by simp[cu])];rfl)
      ·have e:inn (headsL rs) s (b::bs)=inn (headsL rs) (addSg s b) bs:=by
        show(if _ then _ else _)=_
        rw[if_neg cu]
       have cu':hdS b=true->b∈headsL rs:=λh=>by
        simp[h] at cu
        exact cu
       have e1:(if hdS b=true then (noE (dNotIn (D.str b) (D.lst ((headsL rs).map D.str)))).bind asB else Res.ok false)=.ok false:=by
        by_cases c:hdS b=true
        ·simp[c,u3f g (u4m fw.ok),cu' c]
        ·simp[c]
       simp only[e1,zg,t7,if_false,zn]
       by_cases c:sgnS b=true
       ·simp [es,c,OD.toD,u3f g gs]
        by_cases k:b∈s
        ·simp [k]
         exact fin s (by simp[addSg,c,addT,k]) (by rw[e];simp[addSg,c,addT,k])
        ·simp [k,z0A (show s.length<=1000 by omega) (show 1000<sizeLine by decide)]
         have:=fin (s++[b]) (by simp[addSg,c,addT,k]) (by rw[e];simp[addSg,c,addT,k])
         simpa using this
       ·simp [es,c]
        exact fin s (by simp[addSg,c]) (by rw[e];simp[addSg,c])
    cases u:inn (headsL rs) ss p.2 with
    | mk v s =>
     rw[u] at q
     cases v with
     | none =>
      obtain⟨g',h',x',y',z',rfl⟩:=q
      exact u0X s ⟨λz hz=>okp z (z0 _ hz),g',by omega,_,_,_,rfl⟩ (by simp[goHd,u])
     | some b =>
      subst q
      exact u2f (by simp[goHd,u,Qhd])
  obtain⟨g1,g2⟩:=u8l (headsL rs) rs []
  unfold dueHeads
  cases u:goHd (headsL rs) [] rs with
  | mk v s =>
   rw[u] at q g1 g2
   cases v with
   | some b =>
    subst q
    simp[g1,Due.or,Due.toD]
   | none =>
    obtain⟨x',y',z',rfl⟩:=q
    have g2:s=sgL [] rs:=g2 rfl
    subst g2
    rw[show goKn (headsL rs) () rs=Due.fine from g1,show Due.or .fine (dueFew rs)=dueFew rs from rfl]
    have hH:(headsL rs).length=(setOfT (hsOf rs)).length:=u1R _
    simp[hH]
    unfold dueFew
    by_cases c:(setOfT (hsOf rs)).length > 8
    ·have c':(8:Int)<(setOfT (hsOf rs)).length:=by omega
     simp[c,c',hH,Due.toD]
    ·have c':¬ (8:Int)<(setOfT (hsOf rs)).length:=by omega
     simp[c,c',hH,OD.toD]
     by_cases k:(sgL [] rs).length > 10
     ·have k':(10:Int)<(sgL [] rs).length:=by omega
      simp[k,k',OD.toD,Due.toD]
     ·have k':¬ (10:Int)<(sgL [] rs).length:=by omega
      simp[k,k',Due.toD]
 ·obtain ⟨p,_,rfl⟩:=w6.mp hd
  exact⟨_,rfl,rfl,by simp[rhoC,rT,ix_0,hd1]⟩
def u6R {a4e:FD} (a4y:Callee P w K mg base 4 "is_rank" ["thing"] (spF K a4e)) (x_NoRanks:XCalleeF P w K mg base 1 "NoRanks" A.NoRanks ["self","found"] ["found"]) (x_TooMany:XCalleeF P w K mg base 1 "TooMany" A.TooMany ["self","found"] ["found"]) (a3u:P1 rankD a4e) (F:Fun K "need_ranks" "need_ranks" u2O f fd) (T:Txt K mg A):∃G,FnOk P w K mg base (CXe P w) 5 f fd ["ranks"] (spX K G)/\∀d,goodD d=true->G [d]=(dueRanks d).toR A:=by
 refine⟨_,F.okTX (k:=4) u1J (λcdv Ar outer s H E hr hq=>u0d (u0v (u0J (u0I (d_B u2a T.z_isinstance (by decide +kernel) (u0a (dv 0) (u0a (u0h (u0a (d_ty T.z_list (T:="list") (by decide +kernel)) (u0a (d_ty T.z_tuple (T:="tuple") (by decide +kernel)) u0b))) u0b))))) (u0e (u1b hq rfl x_NoRanks hr (u0a (dv 0) u0b))) u0n)
  (u0d (u0v (u0m o_gt (d_B u0L T.z_len (by decide +kernel) (u0a (dv 0) u0b)) (u3W T.g_MOST_RANKS)) (u0e (u1b hq rfl x_TooMany hr (u0a (d_B u0L T.z_len (by decide +kernel) (u0a (dv 0) u0b)) u0b))) u0n)
  (u0d (u1e u1J.nd v2W)
  (u0e (u0Y rfl (u0A (dv 0)) (dg_n u1J.nd)
  (u0d (u0v (u0J (u0I (d_fn a4y hr (u0a (dv 2) u0b)))) (u0e (u1b hq rfl x_NoRanks hr (u0a (dv 2) u0b))) u0n)
   (u0e (u0Y rfl (u0A (d_ix x_ix (dv 2) u0c)) (dg_n u1J.nd)
   (u0d (u0v (u0m (o_inW (hu200 hr)) (dv 3) (dv 1)) (u0e (u1b hq rfl x_NoRanks hr (u0a (dv 2) u0b))) u0n)
    (u0e (v2Q 1 (hu200 hr) (dv 3) d_bl))) hq.ps))) hq.ps))))),?_⟩
 intro d h
 simp[runX,startD,a_lt (u0D h)]
 cases d with
 | lst ds =>
  have g:=u2B h
  by_cases c:ds.length > 6
  ·have c':(6:Int)<ds.length:=by omega
   simp[isLstD,isTupD,dueRanks,c,c',Due.toR]
  ·have c':¬ (6:Int)<ds.length:=by omega
   simp[isLstD,isTupD,dueRanks,c,c']
   rw[show ds=ds.map id from(List.map_id ds).symm]
   rw[show goRk [] (ds.map id)=goRk [] ds from by rw[List.map_id]]
   refine u0B id (Srk (.lst (ds.map id))) goRk (Q2 A) ?_ ?_ ds [] _ ⟨g,by simp;omega,[],none,none,rfl,rfl⟩
   ·intro ks ρ hY
    refine bc λhZ=>?_
    obtain⟨_,_,kvs,x,y,rfl,_⟩:=hY
    refine hZ ?_
    simp[Q2,goRk,Due.toR]
   ·intro ks d rest ρ hY
    refine bc λhZ=>?_
    obtain⟨gr,hl,kvs,x,y,rfl,ek⟩:=hY
    refine hZ ?_
    have gd':=gr d z6
    simp at hl
    refine⟨_,rfl,?_⟩
    simp[a3u d gd']
    by_cases cr:rankD d=true
    ·obtain ⟨s,ss,er,ed,hs⟩:=u2E cr
     subst ed
     simp[cr,ix_1]
     generalize hI:forD _ _ _ _=o
     have q:Qri A (.lst ds) (.tup [.str s,.tup (ss.map D.str)]) (ks.length+10) (addAll ks ss) o:=by
      rw[<- hI]
      refine u0B D.str (Sri (.lst ds) (some (.val (.tup [.str s,.tup (ss.map D.str)]))) (ks.length+10)) addAll (Qri A _ _ _) ?_ ?_ ss ks _ ⟨⟨by omega,by omega⟩,kvs,y,rfl,ek⟩
      ·rintro k ρ ⟨⟨h1,_⟩,kvs,y,rfl,ek⟩
       exact⟨by simpa using h1,kvs,_,y,rfl,ek⟩
      ·rintro k b bs ρ ⟨⟨h1,h2⟩,kvs,y,rfl,ek⟩
       have hk:kvs.length=k.length:=by have:=congrArg List.length ek;simpa using this
       simp at h1
       refine⟨_,rfl,?_⟩
       simp[OD.toD,v4A (w:=w) ek]
       by_cases cb:b∈k
       ·simp [cb]
        exact u2g (by simp only[addAll,cb,if_true];exact⟨_,rfl⟩)
       ·simp only [cb,if_false,zn]
        rw[v1W (ss:=k) (kvs:=kvs) (b:=b) (by omega) rfl rfl rfl]
        exact u0X (k++[b]) ⟨⟨by simp;omega,h2⟩,_,_,rfl,by rw[<- v3l cb];exact u5E ek⟩ (by simp[addAll,cb])
     cases u:addAll ks ss with
     | none =>
      rw[u] at q
      obtain⟨ρ',rfl⟩:=q
      exact u2g (by simp[Q2,goRk,er,u,Due.toR])
     | some k =>
      rw[u] at q
      obtain⟨hn,kvs',x',y',rfl,ek'⟩:=q
      refine u0X k ⟨λz hz=>gr z (z0 _ hz),by omega,kvs',x',y',by simp,ek'⟩ (by simp[goRk,er,u])
    ·simp [cr]
     exact u2g (by simp[Q2,goRk,u2F (by simpa using cr),Due.toR])
 | tup ds =>
  have g:=u0H h
  by_cases c:ds.length > 6
  ·have c':(6:Int)<ds.length:=by omega
   simp[isLstD,isTupD,dueRanks,c,c',Due.toR]
  ·have c':¬ (6:Int)<ds.length:=by omega
   simp[isLstD,isTupD,dueRanks,c,c']
   rw[show ds=ds.map id from(List.map_id ds).symm]
   rw[show goRk [] (ds.map id)=goRk [] ds from by rw[List.map_id]]
   refine u0B id (Srk (.tup (ds.map id))) goRk (Q2 A) ?_ ?_ ds [] _ ⟨g,by simp;omega,[],none,none,rfl,rfl⟩
   ·intro ks ρ hY
    refine bc λhZ=>?_
    obtain⟨_,_,kvs,x,y,rfl,_⟩:=hY
    refine hZ ?_
    simp[Q2,goRk,Due.toR]
   ·intro ks d rest ρ hY
    refine bc λhZ=>?_
    obtain⟨gr,hl,kvs,x,y,rfl,ek⟩:=hY
    refine hZ ?_
    have gd':=gr d z6
    simp at hl
    refine⟨_,rfl,?_⟩
    simp[a3u d gd']
    by_cases cr:rankD d=true
    ·obtain ⟨s,ss,er,ed,hs⟩:=u2E cr
     subst ed
     simp[cr,ix_1]
     generalize hI:forD _ _ _ _=o
     have q:Qri A (.tup ds) (.tup [.str s,.tup (ss.map D.str)]) (ks.length+10) (addAll ks ss) o:=by
      rw[<- hI]
      refine u0B D.str (Sri (.tup ds) (some (.val (.tup [.str s,.tup (ss.map D.str)]))) (ks.length+10)) addAll (Qri A _ _ _) ?_ ?_ ss ks _ ⟨⟨by omega,by omega⟩,kvs,y,rfl,ek⟩
      ·rintro k ρ ⟨⟨h1,_⟩,kvs,y,rfl,ek⟩
       exact⟨by simpa using h1,kvs,_,y,rfl,ek⟩
      ·rintro k b bs ρ ⟨⟨h1,h2⟩,kvs,y,rfl,ek⟩
       have hk:kvs.length=k.length:=by have:=congrArg List.length ek;simpa using this
       simp at h1
       refine⟨_,rfl,?_⟩
       simp[OD.toD,v4A (w:=w) ek]
       by_cases cb:b∈k
       ·simp [cb]
        exact u2g (by simp only[addAll,cb,if_true];exact⟨_,rfl⟩)
       ·simp only [cb,if_false,zn]
        rw[v1W (ss:=k) (kvs:=kvs) (b:=b) (by omega) rfl rfl rfl]
        exact u0X (k++[b]) ⟨⟨by simp;omega,h2⟩,_,_,rfl,by rw[<- v3l cb];exact u5E ek⟩ (by simp[addAll,cb])
     cases u:addAll ks ss with
     | none =>
      rw[u] at q
      obtain⟨ρ',rfl⟩:=q
      exact u2g (by simp[Q2,goRk,er,u,Due.toR])
     | some k =>
      rw[u] at q
      obtain⟨hn,kvs',x',y',rfl,ek'⟩:=q
      refine u0X k ⟨λz hz=>gr z (z0 _ hz),by omega,kvs',x',y',by simp,ek'⟩ (by simp[goRk,er,u])
    ·simp [cr]
     exact u2g (by simp[Q2,goRk,u2F (by simpa using cr),Due.toR])
 | _=>simp[isLstD,isTupD,dueRanks,Due.toR]
end
noncomputable def rsOf:D->List RR
 | .lst ds=>ds.filterMap asRule
 | _=>[]
def u5Q {d:D}{p:RR} (h:asRule d=some p):d=rT p/\ruleD d=true:=by
 cases q:ruleD d with
 | false=>rw[u3F q] at h;cases h
 | true =>
  obtain⟨p',e,e2⟩:=u3E q
  rw[e] at h
  cases h
  exact⟨e2,rfl⟩
theorem u4A:∀{ds:List D}{rs:List RR},goRules rs ds=.fine->ds=(ds.filterMap asRule).map rT/\∀d∈ds,ruleD d=true
 | [],_,_=>⟨rfl,λd h=>(nomatch h)⟩
 | d::ds,rs,h=>by
  unfold goRules at h
  cases e:asRule d with
  | none=>rw[e] at h;cases h
  | some p =>
   rw[e] at h
   simp only at h
   split at h
   ·cases h
   ·obtain ⟨h1,h2⟩:=u4A h
    obtain⟨e1,e2⟩:=u5Q e
    refine⟨?_,λx hx=>?_⟩
    ·rw [List.filterMap_cons,e]
     simp only[w5]
     rw[<- h1,<- e1]
    ·rcases z8.mp hx with rfl | hx
     ·exact e2
     ·exact h2 x hx
set_option tactic.hygienic true in
def u4X {d:D} (h:dueRules d=.fine) (g:goodD d=true):d=.lst ((rsOf d).map rT)/\1<=(rsOf d).length/\(rsOf d).length<=20/\∀p∈rsOf d,OkR p:=by
 cases d with
 | lst ds =>
  simp only[dueRules] at h
  split at h
  ·rename_i c
   obtain⟨h1,h2⟩:=u4A h
   have hl:(ds.filterMap asRule).length=ds.length:=by
    have:=congrArg List.length h1
    rw[v6] at this
    exact this.symm
   refine⟨congrArg D.lst h1,by rw[show rsOf (.lst ds)=ds.filterMap asRule from rfl,hl];exact c.1,by rw[show rsOf (.lst ds)=ds.filterMap asRule from rfl,hl];exact c.2,λp hp=>?_⟩
   obtain⟨d,hd,e⟩:=z3C.mp hp
   obtain⟨e1,e2⟩:=u5Q e
   subst e1
   exact v2i e2 (u2B g _ hd)
  ·cases h
 | _=>cases h
structure Hand (d:D):Prop where
 g:goodD d=true
 dp:depD d<=50
 few:dueRules d=.fine->Few (rsOf d)
structure HandK (d:D):Prop where
 g:goodD d=true
 dp:depD d<=50
 rk:∀ds,(d=.lst ds\/d=.tup ds)->∀x∈ds,rkOk x=true
noncomputable def dueAll (r k:D):Due:=(dueRules r).or ((dueHeads (rsOf r)).or (dueRanks k))
noncomputable def kindsD (d:D):D:=.lst [.bl (match d with | .bl _=>true|_=>false),.bl (match d with | .bl _=>true | .int _=>true|_=>false),.bl (isStrD d),.bl (isLstD d),.bl (isTupD d),.bl (match d with | .dct _=>true|_=>false)]
def u6t (d:D):selfD (kindsD d)=true/\depD (kindsD d)<=60:=by
 unfold kindsD
 simp[selfD,selfDs,depD,depDs]
def u7k {d:D} (h:selfD d=true) (hd:depD d<=60):dEqX d d=.ok (.bl true):=by
 unfold dEqX
 have n:lenNe d d=false:=by
  cases d with
  | lst ds=>cases ds<;>rfl
  | _=>rfl
 rw[if_neg (by rw[n];exact t8),if_pos ⟨rfl,h,hd⟩]
noncomputable def Due.arg:Due->D
 | .fine=>.non
 | .rule d=>d
 | .dbl n=>.int n
 | .many n=>.int n
 | .head z=>.str z
 | .ranks d=>d
noncomputable def Due.word:Due->Str
 | .fine=>""
 | .rule _=>"rule"
 | .dbl _=>"doubled"
 | .many _=>"many"
 | .head _=>"head"
 | .ranks _=>"ranks"
def toD_arg {u:Due} (h:u≠.fine):u.toD=.tup [.str u.word,u.arg]:=by cases u<;>first|rfl|exact absurd rfl h
theorem u5H:∀{ds:List D}{rs:List RR},(goRules rs ds).arg=.non\/(∃d∈ds,(goRules rs ds).arg=d)\/∃n:Nat,(goRules rs ds).arg=.int n
 | [],_=>.inl rfl
 | d::ds,rs=>by
  unfold goRules
  cases e:asRule d with
  | none=>exact .inr (.inl ⟨d,z6,rfl⟩)
  | some p =>
   simp only
   split
   ·exact .inr (.inr ⟨_,rfl⟩)
   ·rcases u5H (ds:=ds) (rs:=rs++[p]) with h | ⟨x,hx,h⟩ | h
    ·exact .inl h
    ·exact .inr (.inl ⟨x,z0 _ hx,h⟩)
    ·exact .inr (.inr h)
theorem v0e:∀{ds:List D}{ks:List Str},(goRk ks ds).arg=.non\/∃d∈ds,(goRk ks ds).arg=d
 | [],_=>.inl rfl
 | d::ds,ks=>by
  unfold goRk
  cases e:asRank d with
  | none=>exact .inr ⟨d,z6,rfl⟩
  | some ss =>
   simp only
   cases e2:addAll ks ss with
   | none=>exact .inr ⟨d,z6,rfl⟩
   | some k =>
    rcases v0e (ds:=ds) (ks:=k) with h|⟨x,hx,h⟩
    ·exact .inl h
    ·exact .inr ⟨x,z0 _ hx,h⟩
theorem u9x:∀{ds:List D}{d:D},d∈ds->depD d<=depDs ds
 | x::ds,d,h=>by
  simp only[depDs]
  rcases z8.mp h with rfl|h
  ·omega
  ·have:=u9x h;omega
def okArg (u:Due):Prop:=goodD u.arg=true/\depD u.arg<=50
def v3j {d:D} (h:Hand d):okArg (dueRules d):=by
 cases d with
 | lst ds =>
  simp only[dueRules]
  split
  ·rcases u5H (ds:=ds) (rs:=[]) with e | ⟨x,hx,e⟩ | ⟨n,e⟩
   ·unfold okArg;rw[e];exact⟨rfl,by simp[depD]⟩
   ·unfold okArg;rw [e]
    have:=u9x hx
    have hd:depDs ds+1<=50:=h.dp
    exact⟨u2B h.g x hx,by omega⟩
   ·unfold okArg;rw[e];exact⟨rfl,by simp[depD]⟩
  ·exact⟨rfl,by simp[Due.arg,depD]⟩
 | _=>exact⟨h.g,h.dp⟩
def v3k {d:D} (h:HandK d):okArg (dueRanks d):=by
 have main:∀ds:List D,(∀x∈ds,goodD x=true)->depDs ds<=49->okArg (if ds.length > 6 then .many ds.length else goRk [] ds):=λds hg hd=>by
  split
  ·exact⟨rfl,by simp[Due.arg,depD]⟩
  ·rcases v0e (ds:=ds) (ks:=[]) with e | ⟨x,hx,e⟩
   ·unfold okArg;rw[e];exact⟨rfl,by simp[depD]⟩
   ·unfold okArg;rw [e]
    have:=u9x hx
    exact⟨hg x hx,by omega⟩
 cases d with
 | lst ds=>exact main ds (u2B h.g) (by have hd:depDs ds+1<=50:=h.dp;omega)
 | tup ds=>exact main ds (u0H h.g) (by have hd:depDs ds+1<=50:=h.dp;omega)
 | _=>exact⟨h.g,h.dp⟩
theorem u8k {hs:List Str}:∀{rs:List RR},(∀p∈rs,OkR p)->okArg (goKn hs () rs)
 | [],_=>⟨rfl,by simp[goKn,Due.arg,depD]⟩
 | p::rs,h=>by
  unfold goKn
  cases e:fstUnk hs p.2 with
  | none=>exact u8k λq hq=>h q (z0 _ hq)
  | some b =>
   have:=(h p z6).gs b (List.mem_of_find?_eq_some e)
   exact⟨by simpa[Due.arg,goodD] using this,by simp[Due.arg,depD]⟩
def arg_few (rs:List RR):okArg (dueFew rs):=by
 unfold dueFew
 split
 ·exact⟨rfl,by simp[Due.arg,depD]⟩
 ·split
  ·exact⟨rfl,by simp[Due.arg,depD]⟩
  ·exact⟨rfl,by simp[Due.arg,depD]⟩
def v4L {u v:Due} (h:okArg u) (k:okArg v):okArg (u.or v):=by cases u<;>first|exact h|exact k
def arg_all {r k:D} (hr:Hand r) (hk:HandK k):okArg (dueAll r k):=by
 unfold dueAll
 cases e:dueRules r with
 | fine =>
  obtain⟨_,_,_,ok⟩:=u4X e hr.g
  show okArg (((goKn (headsL (rsOf r)) () (rsOf r)).or (dueFew (rsOf r))).or (dueRanks k))
  exact v4L (v4L (u8k ok) (arg_few _)) (v3k hk)
 | _=>have:=v3j hr;rw[e] at this;exact this
section
variable {P:Program}{w:World}{K:W.Frag}{mg:MG}{base:Heap}{f:Addr}{fd:FuncData}{A:Adr}
def u4I {a2c:FD} (a3i:Callee P w K mg base 2 "_law_is_rank" ["_law_thing"] (spF K a2c)) (a3j:∀d,goodD d=true->rkOk d=true->a2c [d]=.ok (.bl (rankD d))) (F:Fun K "_law_ranks_due" "_law_ranks_due" u1V f fd) (T:Txt K mg A):∃G,FnOk P w K mg base CX0 3 f fd ["_law_ranks_here"] (spF K G)/\∀d,HandK d->G [d]=.ok (dueRanks d).toD:=by
 refine⟨_,F.okT (k:=2) u1g (λcdv Ar outer s H E hr=>u0d (u0v (u0J (u0I (d_B u2a T.z_isinstance (by decide +kernel) (u0a (dv 0) (u0a (u0h (u0a (d_ty T.z_list (T:="list") (by decide +kernel)) (u0a (d_ty T.z_tuple (T:="tuple") (by decide +kernel)) u0b))) u0b))))) (u0e (u0g (u0h (u0a u0i (u0a (dv 0) u0b))))) u0n)
  (u0d (u0v (u0m o_gt (d_B u0L T.z_len (by decide +kernel) (u0a (dv 0) u0b)) u0c) (u0e (u0g (u0h (u0a u0i (u0a (d_B u0L T.z_len (by decide +kernel) (u0a (dv 0) u0b)) u0b))))) u0n)
  (u0d (u1e u1g.nd (u2q u0b))
  (u0d (u0Y rfl (u0A (dv 0)) (dg_n u1g.nd)
  (u0d (u0v (u0J (u0I (d_fn a3i hr (u0a (dv 2) u0b)))) (u0e (u0g (u0h (u0a u0i (u0a (dv 2) u0b))))) u0n)
   (u0e (u0Y rfl (u0A (d_ix x_ix (dv 2) u0c)) (dg_n u1g.nd)
   (u0d (u0v (u0m (o_in (hu100 hr)) (dv 3) (dv 1)) (u0e (u0g (u0h (u0a u0i (u0a (dv 2) u0b))))) u0n)
    (u0e (u1f 1 (dv 3))))))))
  (u0e (u0g u2j)))))),?_⟩
 intro d h
 simp[runT,startD,a_lt (u0D h.g)]
 cases d with
 | lst ds =>
  have g:=u2B h.g
  have rk:=h.rk ds (.inl rfl)
  by_cases c:ds.length > 6
  ·have c':(6:Int)<ds.length:=by omega
   simp[isLstD,isTupD,dueRanks,c,c',Due.toD]
  ·have c':¬ (6:Int)<ds.length:=by omega
   simp[isLstD,isTupD,dueRanks,c,c']
   rw[show ds=ds.map id from(List.map_id ds).symm]
   rw[show goRk [] (ds.map id)=goRk [] ds from by rw[List.map_id]]
   refine u0B id (Slk (.lst (ds.map id))) goRk Q1 ?_ ?_ ds [] _ ⟨λd hd=>⟨g d hd,rk d hd⟩,λz h=>(nomatch h),by simp;omega,none,none,rfl⟩
   ·rintro ks ρ ⟨_,_,_,x,y,rfl⟩
    simp[Q1,goRk,Due.toD]
   ·rintro ks d rest ρ ⟨gr,gk,hl,x,y,rfl⟩
    have gd':=(gr d z6).1
    simp at hl
    refine⟨_,rfl,?_⟩
    simp[a3j d gd' (gr d z6).2]
    by_cases cr:rankD d=true
    ·obtain ⟨s,ss,er,ed,hs⟩:=u2E cr
     subst ed
     simp[cr,ix_1]
     generalize hI:forD _ _ _ _=o
     have q:Qli (.lst ds) (.tup [.str s,.tup (ss.map D.str)]) (ks.length+10) (addAll ks ss) o:=by
      rw[<- hI]
      refine u0B D.str (Sli (.lst ds) (some (.val (.tup [.str s,.tup (ss.map D.str)]))) (ks.length+10)) addAll (Qli _ _ _) ?_ ?_ ss ks _ ⟨u7K gd',gk,⟨by omega,by omega⟩,y,rfl⟩
      ·rintro k ρ ⟨_,gk,⟨h1,_⟩,y,rfl⟩
       exact⟨gk,by simpa using h1,_,y,rfl⟩
      ·rintro k b bs ρ ⟨gb,gk,⟨h1,h2⟩,y,rfl⟩
       have g1:=gb b z6
       simp at h1
       refine⟨_,rfl,?_⟩
       have ei:dIn (.str b) (.lst (k.map D.str))=.ok (.bl (decide (b∈k))):=by
        rw[show dIn (.str b) (.lst (k.map D.str))=inD (.str b) (k.map D.str) false from u2D false _ _,u9v g1 gk]
        rfl
       simp[OD.toD,ei]
       by_cases cb:b∈k
       ·simp [cb]
        exact u2f (by simp only[addAll,cb,if_true];rfl)
       ·simp [cb,z0A (show k.length<=1000 by omega) (show 1000<sizeLine by decide)]
        refine u0X (k++[b]) ⟨λz hz=>gb z (z0 _ hz),?_,⟨by simp;omega,h2⟩,some (.val (.str b)),by simp⟩ (by simp[addAll,cb])
        intro z hz
        rcases x9.mp hz with h|h
        ·exact gk z h
        ·rw[y6.mp h];exact g1
     cases u:addAll ks ss with
     | none =>
      rw[u] at q
      subst q
      exact u2f (by simp[Q1,goRk,er,u,Due.toD])
     | some k =>
      rw[u] at q
      obtain⟨gk',hn,x',y',rfl⟩:=q
      refine u0X k ⟨λz hz=>gr z (z0 _ hz),gk',by omega,x',y',by simp⟩ (by simp[goRk,er,u])
    ·simp [cr]
     exact u2f (by simp[Q1,goRk,u2F (by simpa using cr),Due.toD])
 | tup ds =>
  have g:=u0H h.g
  have rk:=h.rk ds (.inr rfl)
  by_cases c:ds.length > 6
  ·have c':(6:Int)<ds.length:=by omega
   simp[isLstD,isTupD,dueRanks,c,c',Due.toD]
  ·have c':¬ (6:Int)<ds.length:=by omega
   simp[isLstD,isTupD,dueRanks,c,c']
   rw[show ds=ds.map id from(List.map_id ds).symm]
   rw[show goRk [] (ds.map id)=goRk [] ds from by rw[List.map_id]]
   refine u0B id (Slk (.tup (ds.map id))) goRk Q1 ?_ ?_ ds [] _ ⟨λd hd=>⟨g d hd,rk d hd⟩,λz h=>(nomatch h),by simp;omega,none,none,rfl⟩
   ·rintro ks ρ ⟨_,_,_,x,y,rfl⟩
    simp[Q1,goRk,Due.toD]
   ·rintro ks d rest ρ ⟨gr,gk,hl,x,y,rfl⟩
    have gd':=(gr d z6).1
    simp at hl
    refine⟨_,rfl,?_⟩
    simp[a3j d gd' (gr d z6).2]
    by_cases cr:rankD d=true
    ·obtain ⟨s,ss,er,ed,hs⟩:=u2E cr
     subst ed
     simp[cr,ix_1]
     generalize hI:forD _ _ _ _=o
     have q:Qli (.tup ds) (.tup [.str s,.tup (ss.map D.str)]) (ks.length+10) (addAll ks ss) o:=by
      rw[<- hI]
      refine u0B D.str (Sli (.tup ds) (some (.val (.tup [.str s,.tup (ss.map D.str)]))) (ks.length+10)) addAll (Qli _ _ _) ?_ ?_ ss ks _ ⟨u7K gd',gk,⟨by omega,by omega⟩,y,rfl⟩
      ·rintro k ρ ⟨_,gk,⟨h1,_⟩,y,rfl⟩
       exact⟨gk,by simpa using h1,_,y,rfl⟩
      ·rintro k b bs ρ ⟨gb,gk,⟨h1,h2⟩,y,rfl⟩
       have g1:=gb b z6
       simp at h1
       refine⟨_,rfl,?_⟩
       have ei:dIn (.str b) (.lst (k.map D.str))=.ok (.bl (decide (b∈k))):=by
        rw[show dIn (.str b) (.lst (k.map D.str))=inD (.str b) (k.map D.str) false from u2D false _ _,u9v g1 gk]
        rfl
       simp[OD.toD,ei]
       by_cases cb:b∈k
       ·simp [cb]
        exact u2f (by simp only[addAll,cb,if_true];rfl)
       ·simp [cb,z0A (show k.length<=1000 by omega) (show 1000<sizeLine by decide)]
        refine u0X (k++[b]) ⟨λz hz=>gb z (z0 _ hz),?_,⟨by simp;omega,h2⟩,some (.val (.str b)),by simp⟩ (by simp[addAll,cb])
        intro z hz
        rcases x9.mp hz with h|h
        ·exact gk z h
        ·rw[y6.mp h];exact g1
     cases u:addAll ks ss with
     | none =>
      rw[u] at q
      subst q
      exact u2f (by simp[Q1,goRk,er,u,Due.toD])
     | some k =>
      rw[u] at q
      obtain⟨gk',hn,x',y',rfl⟩:=q
      refine u0X k ⟨λz hz=>gr z (z0 _ hz),gk',by omega,x',y',by simp⟩ (by simp[goRk,er,u])
    ·simp [cr]
     exact u2f (by simp[Q1,goRk,u2F (by simpa using cr),Due.toD])
 | _=>simp[isLstD,isTupD,dueRanks,Due.toD]
def v0W {a1k:FD} (a2n:Callee P w K mg base 3 "_law_rules_due" ["_law_rules_here"] (spF K a1k)) {a0u:FD} (a2p:Callee P w K mg base 2 "_law_heads_due" ["_law_rules_here"] (spF K a0u)) {a1l:FD} (a2o:Callee P w K mg base 3 "_law_ranks_due" ["_law_ranks_here"] (spF K a1l)) (p_rd:∀d,goodD d=true->a1k [d]=.ok (dueRules d).toD) (p_hd:∀rs:List RR,Few rs->a0u [.lst (rs.map rT)]=.ok (dueHeads rs).toD) (p_kd:∀d,HandK d->a1l [d]=.ok (dueRanks d).toD) (F:Fun K "_law_due" "_law_due" u5h f fd) (T:Txt K mg A):∃G,FnOk P w K mg base CX0 4 f fd ["_law_rules_here","_law_ranks_here"] (spF K G)/\∀r k,Hand r->HandK k->G [r,k]=.ok (dueAll r k).toD:=by
 refine⟨_,F.okT (k:=3) u2Y (λcdv Ar outer s H E hr=>u0d (ds_n u2Y.nd (d_fn a2n hr (u0a (dv 0) u0b)))
  (u0d (u0v (u0m o_is (dv 2) u2j) (u0e (ds_n u2Y.nd (d_fn a2p hr (u0a (dv 0) u0b)))) u0n)
  (u0d (u0v (u0m o_is (dv 2) u2j) (u0e (ds_n u2Y.nd (d_fn a2o hr (u0a (dv 1) u0b)))) u0n)
  (u0e (u0g (dv 2)))))),?_⟩
 intro r k hr hk
 simp[runT,startD,p_rd r hr.g]
 unfold dueAll
 cases e:dueRules r with
 | fine =>
  obtain⟨e1,_,_,_⟩:=u4X e hr.g
  have fw:=hr.few e
  have e2:a0u [r]=.ok (dueHeads (rsOf r)).toD:=by
   have:=p_hd (rsOf r) fw
   rw[<- e1] at this
   exact this
  have e3:=p_kd k hk
  cases u:dueHeads (rsOf r) with
  | fine =>
   rw[u] at e2
   simp[Due.toD,Due.or,dIs,isN,e2,e3]
  | _ =>
   rw[u] at e2
   simp[Due.toD,Due.or,dIs,isN,e2]
 | _=>simp[Due.toD,Due.or,dIs,isN]
def u7S (F:Fun K "_law_kinds" "_law_kinds" u3t f fd) (T:Txt K mg A):∃G,FnOk P w K mg base CX0 1 f fd ["_law_thing"] (spF K G)/\∀d,goodD d=true->G [d]=.ok (kindsD d):=by
 refine⟨_,F.okT (k:=0) u4w (λcdv Ar outer s H E hr=>u0d (ds_n u4w.nd (u0F (u0a (d_B u2a T.z_isinstance (by decide +kernel) (u0a (dv 0) (u0a (d_ty T.z_bool (T:="bool") (by decide +kernel)) u0b))) (u0a (d_B u2a T.z_isinstance (by decide +kernel) (u0a (dv 0) (u0a (d_ty T.z_int (T:="int") (by decide +kernel)) u0b))) (u0a (d_B u2a T.z_isinstance (by decide +kernel) (u0a (dv 0) (u0a (d_ty T.z_str (T:="str") (by decide +kernel)) u0b))) (u0a (d_B u2a T.z_isinstance (by decide +kernel) (u0a (dv 0) (u0a (d_ty T.z_list (T:="list") (by decide +kernel)) u0b))) u0b))))))
  (u0e (u0g (d_op u0E (dv 1) (u0F (u0a (d_B u2a T.z_isinstance (by decide +kernel) (u0a (dv 0) (u0a (d_ty T.z_tuple (T:="tuple") (by decide +kernel)) u0b))) (u0a (d_B u2a T.z_isinstance (by decide +kernel) (u0a (dv 0) (u0a (d_ty T.z_dict (T:="dict") (by decide +kernel)) u0b))) u0b))))))),?_⟩
 intro d h
 simp[runT,startD]
 cases d<;>first|rfl|simp[goodD] at h
def u9f {a3d:FD} (a2g:Callee P w K mg base 1 "_law_kinds" ["_law_thing"] (spF K a3d)) (a5f:∀d,goodD d=true->a3d [d]=.ok (kindsD d)) (F:Fun K "_law_same" "_law_same" u4j f fd) (T:Txt K mg A):∃G,FnOk P w K mg base CX0 2 f fd ["_law_told_here","_law_due_here"] (spF K G)/\∀(w:Str) (d:D),goodD d=true->depD d<=50->G [.tup [.str w,d],.tup [.str w,d]]=.ok (.bl true):=by
 refine⟨_,F.okT (k:=1) u8T (λcdv Ar outer s H E hr=>u0d (u0v (dt_w (u3l (u0m o_is (dv 0) u2j) (u2G (u0m o_is (dv 1) u2j)))) (u0e (u0g (u2s (u2I o_is (dv 0) u2j) (u3D (u2I o_is (dv 1) u2j))))) u0n)
  (u0e (u0g (u2s (u2I (u9p (hu64 hr)) (d_ix x_ix (dv 0) u0c) (d_ix x_ix (dv 1) u0c)) (u2s (u2I (u9p (hu64 hr)) (d_ix x_ix (dv 0) u0c) (d_ix x_ix (dv 1) u0c)) (u3D (u2I (u9p (hu64 hr)) (d_fn a2g hr (u0a (d_ix x_ix (dv 0) u0c) u0b)) (d_fn a2g hr (u0a (d_ix x_ix (dv 1) u0c) u0b))))))))),?_⟩
 intro w d h hd
 have s1:dEqX (.str w) (.str w)=.ok (.bl true):=u7k rfl (by simp[depD])
 have s2:dEqX d d=.ok (.bl true):=u7k (u0D h) (by omega)
 have s3:dEqX (kindsD d) (kindsD d)=.ok (.bl true):=u7k (u6t _).1 (u6t _).2
 simp[runT,startD,dIs,isN,ix_0,ix_1,s1,s2,s3,a5f _ h]
end
abbrev u1w:Stmt:=meth 39 0
def u6o:FnScope ["self","rules","ranks","told"] ["self","rules","ranks"] (defScope u1w):=⟨rfl,rfl,rfl,by decide +kernel,rfl,by decide +kernel,by decide +kernel⟩
def ne_rr:Str.ofString "rules"≠Str.ofString "ranks":=by decide +kernel
def ne_rs:Str.ofString "rules"≠Str.ofString "start":=by decide +kernel
def ne_ks:Str.ofString "ranks"≠Str.ofString "start":=by decide +kernel
noncomputable def toldD:D->D
 | .non=>.tup []
 | d=>d
noncomputable def itemsD:D->List D
 | .lst ds=>ds
 | .tup ds=>ds
 | _=>[]
noncomputable def hd0 (r:D):Str:=match rsOf r with
 | p::_=>p.1
 | []=>""
noncomputable def gFlds (r k:D):List (Str×D):=[("rules",.tup (itemsD r)),("ranks",.tup (itemsD (toldD k))),("start",.str (hd0 r))]
open Classical in
noncomputable def gInit (A:Adr):List D->Res (List (Str×D))
 | [r,k]=>if Hand r/\HandK (toldD k) then ((dueAll r (toldD k)).toR A).bind λ_=>.ok (gFlds r k) else .bad
 | _=>.bad
def u8Z {d:D} (h:dueRanks d=.fine):gTuple [d]=.ok (.tup (itemsD d)):=by
 cases d with
 | lst ds=>rfl
 | tup ds=>rfl
 | _=>cases h
section
variable {P:Program}{w:World}{K:W.Frag}{mg:MG}{base:Heap}{f:Addr}{fd:FuncData}{A:Adr}
def v1f {a2h:FD} (a3v:CalleeX P w K mg base 6 "need_rules" ["rules"] a2h) {a0y:FD} (a1y:CalleeX P w K mg base 3 "need_known_heads" ["rules"] a0y) {a0z:FD} (a1z:CalleeX P w K mg base 4 "need_few_symbols" ["rules"] a0z) {a2i:FD} (a3w:CalleeX P w K mg base 5 "need_ranks" ["ranks"] a2i) (p_nr:∀d,goodD d=true->a2h [d]=(dueRules d).toR A) (p_nk:∀rs:List RR,(∀p∈rs,OkR p)->rs.length<64->a0y [.lst (rs.map rT)]=(goKn (headsL rs) () rs).toR A) (p_nf:∀rs:List RR,Few rs->a0z [.lst (rs.map rT)]=(dueFew rs).toR A) (p_nn:∀d,goodD d=true->a2i [d]=(dueRanks d).toR A) (F:FunD K "__init__" "Grammar.__init__" u1w f fd) (T:Txt K mg A):FnOk P w K mg base (CXe P w) 7 f fd ["self","rules","ranks"] (spInit K A.Grammar (gInit A)):=by
 refine F.okI (k:=6) u6o (λds h=>?_) (λcdv Ar outer s H E hr hq=>⟨_,u0d (u7n (u7p hq a3v hr (u0a (dv 1) u0b)))
  (u0d (u7n (u7p hq a1y hr (u0a (dv 1) u0b)))
  (u0d (u7n (u7p hq a1z hr (u0a (dv 1) u0b)))
  (u0d (ds_n u6o.nd (d_ife (u0m o_is (dv 2) u2j) (u0h u0b) (dv 2)))
  (u0d (u7n (u7p hq a3w hr (u0a (dv 3) u0b)))
  (u0d (v2R 0 T.cls T.na_rules (d_T u1C T.z_tuple (by decide +kernel) (u0a (dv 1) u0b)))
  (u0d (v2R 0 T.cls T.na_ranks (d_T u1C T.z_tuple (by decide +kernel) (u0a (dv 3) u0b)))
  (u0e (v2R 0 T.cls T.na_start (d_ix x_ix (d_ix x_ix (d_fldO 0 T.cls (T.na_rules)) u0c) u0c))))))))),λa ds h=>?_⟩)
 ·match ds,h with
  | [r,k],_=>rfl
  | [],h=>exact absurd rfl h
  | [_],h=>exact absurd rfl h
  | _::_::_::_,h=>exact absurd rfl h
 match ds,h with
 | [],h=>exact absurd rfl h
 | [_],h=>exact absurd rfl h
 | _::_::_::_,h=>exact absurd rfl h
 | [r,k],h =>
  have hh:Hand r/\HandK (toldD k):=by
   refine Classical.byContradiction λc=>h ?_
   exact if_neg c
  refine Eq.trans ?_ (if_pos hh).symm
  obtain⟨hr,hk⟩:=hh
  have e4:=p_nn _ hk.g
  have ek:(match isN k with|true=>(D.tup [])|false=>k)=toldD k:=by cases k<;>rfl
  simp[startI,startD,p_nr r hr.g]
  unfold dueAll
  cases e:dueRules r with
  | fine =>
   obtain⟨e1,l1,l2,ok⟩:=u4X e hr.g
   have fw:=hr.few e
   have e2:=p_nk (rsOf r) ok (by omega)
   have e3:=p_nf (rsOf r) fw
   rw[<- e1] at e2 e3
   have er:gTuple [r]=.ok (.tup (itemsD r)):=by rw[e1];rfl
   skip
   cases u:goKn (headsL (rsOf r)) () (rsOf r) with
   | fine =>
    rw[u] at e2
    cases v:dueFew (rsOf r) with
    | fine =>
     rw[v] at e3
     have go:∀ρ:Rho,ρ[3]?=some (some (.val (toldD k)))->True:=λ_ _=>trivial
     cases x:dueRanks (toldD k) with
     | fine =>
      rw[x] at e4
      have ei:=u8Z x
      have e5:(if isN k=true then Res.ok (D.tup []) else Res.ok k)=Res.ok (toldD k):=by cases k<;>rfl
      obtain⟨p,ps,ep⟩:∃p ps,rsOf r=p::ps:=by
       cases q:rsOf r with
       | nil=>rw[q] at l1;simp at l1
       | cons p ps=>exact⟨p,ps,rfl⟩
      have i1:itemsD r=rT p::ps.map rT:=by
       rw[e1,ep];rfl
      have i2:dIx (.tup (itemsD r)) (.int 0)=.ok (rT p):=by rw[i1];exact ix_0 _ _
      have i3:dIx (rT p) (.int 0)=.ok (.str p.1):=ix_0 _ _
      have i4:hd0 r=p.1:=by unfold hd0;rw[ep]
      simp[Due.toR,Due.or,dIs,e2,e3,dueHeads,u,v,outI,e5,e4,er,ei,getI,putG,i2,i3,gFlds,i4,ne_rr,ne_rs,ne_ks,List.lookup]
     | _ =>
      rw[x] at e4
      cases k<;>simp[Due.toR,Due.or,dIs,isN,e2,e3,dueHeads,u,v,outI,e4,toldD]<;>(try (simp only[toldD] at e4;rw[e4];simp[Due.toR]))<;>done
    | _=>rw[v] at e3;simp[Due.toR,Due.or,dIs,e2,e3,dueHeads,u,v,outI]
   | _=>rw[u] at e2;simp[Due.toR,Due.or,dIs,e2,dueHeads,u,outI]
  | _=>simp[Due.toR,Due.or,outI,Res.bind,Res.go]
end
abbrev dN (n:Nat):D:=.int (n:Int)
theorem u3h {g:D->Rho->Res Rho}{tb:Rho->Out} (S:List D->Rho->Prop) (Q:Out->Prop) (nil:∀ρ,S [] ρ->Q (.nx ρ))
  (cons:∀d ds ρ,S (d::ds) ρ->∃ρ1,g d ρ=.ok ρ1/\((∃ρ2,tb ρ1=.nx ρ2/\S ds ρ2)\/∃v,tb ρ1=.rt v/\Q (.rt v))):∀ds ρ,S ds ρ->Q (forD g tb ds ρ)
 | [],ρ,h=>nil ρ h
 | d::ds,ρ,h=>by
  obtain⟨ρ1,e,k⟩:=cons d ds ρ h
  simp only[forD,e,u3n,zg]
  rcases k with⟨ρ2,k1,k2⟩|⟨v,k1,k2⟩
  ·rw[k1];exact u3h S Q nil cons ds ρ2 k2
  ·rw[k1];exact k2
def v2A (k m:Nat):intL (k:Int) (m+1)=dN k::intL ((k+1:Nat):Int) m:=by
 simp[intL,List.range_succ_eq_map,Function.comp_def,dN]
 intro a _
 omega
theorem u8n {g:D->Rho->Res Rho}{tb:Rho->Out} (n:Nat) (S:Nat->Rho->Prop) (Q:Out->Prop) (nil:∀ρ,S n ρ->Q (.nx ρ))
  (cons:∀k ρ,k<n->S k ρ->∃ρ1,g (dN k) ρ=.ok ρ1/\((∃ρ2,tb ρ1=.nx ρ2/\S (k+1) ρ2)\/∃v,tb ρ1=.rt v/\Q (.rt v))):∀m k ρ,k+m=n->S k ρ->Q (forD g tb (intL (k:Int) m) ρ)
 | 0,k,ρ,e,h=>by subst e;exact nil ρ h
 | m+1,k,ρ,e,h=>by
  rw[v2A]
  obtain⟨ρ1,e1,z⟩:=cons k ρ (by omega) h
  simp only[forD,e1,u3n,zg]
  rcases z with⟨ρ2,k1,k2⟩|⟨v,k1,k2⟩
  ·rw[k1];exact u8n n S Q nil cons m (k+1) ρ2 (by omega) k2
  ·rw[k1];exact k2
def u4W {g:D->Rho->Res Rho}{tb:Rho->Out}{n:Nat} (S:Nat->Rho->Prop) (Q:Out->Prop) {ρ:Rho} (h0:S 0 ρ) (nil:∀ρ,S n ρ->Q (.nx ρ))
  (cons:∀k ρ,k<n->S k ρ->∃ρ1,g (dN k) ρ=.ok ρ1/\((∃ρ2,tb ρ1=.nx ρ2/\S (k+1) ρ2)\/∃v,tb ρ1=.rt v/\Q (.rt v))):Q (forD g tb (intL 0 n) ρ) :=
 u8n n S Q nil cons n 0 ρ (by omega) h0
theorem u3X {P:D->Prop}{g:D->Rho->Res Rho}{fT:Rho->Res Bool}{fe:Rho->Res D}{ρ:Rho}:∀{ds:List D},(∀d∈ds,∃ρ1 y,g d ρ=.ok ρ1/\fT (frz ρ1)=.ok true/\fe ρ1=.ok y/\P y)->∃ys,compD g fT fe ρ ds=.ok ys/\ys.length=ds.length/\∀y∈ys,P y
 | [],_=>⟨[],rfl,rfl,λy h=>(nomatch h)⟩
 | d::ds,h=>by
  obtain⟨ρ1,y,e1,e2,e3,hp⟩:=h d z6
  obtain⟨ys,e,hl,hy⟩:=u3X (ds:=ds) λx hx=>h x (z0 _ hx)
  refine⟨y::ys,?_,by simp[hl],λz hz=>?_⟩
  ·simp[compD,e1,e2,e3,e]
  ·rcases z8.mp hz with rfl | hz
   ·exact hp
   ·exact hy z hz
def u7b {n:Nat}{d:D} (h:d∈intL 0 n):∃k,k<n/\d=dN k:=by
 simp[intL] at h
 obtain⟨k,hk,e⟩:=h
 exact⟨k,hk,e.symm⟩
def v0b (n:Nat):(intL 0 n).length=n:=by simp[intL]
theorem pull {α:Type}{c:α->D}{p:α->Prop}:∀{ys:List D},(∀y∈ys,∃z,y=c z/\p z)->∃zs:List α,ys=zs.map c/\∀z∈zs,p z
 | [],_=>⟨[],rfl,λz h=>(nomatch h)⟩
 | y::ys,h=>by
  obtain⟨z,e,hz⟩:=h y z6
  obtain⟨zs,e2,hzs⟩:=pull (ys:=ys) λx hx=>h x (z0 _ hx)
  refine⟨z::zs,by rw[e,e2];rfl,λx hx=>?_⟩
  rcases z8.mp hx with rfl|hx
  ·exact hz
  ·exact hzs x hx
def ix_m {α:Type}{c:α->D}{rs:List α}{i:Nat} (h:i<rs.length):dIx (.lst (rs.map c)) (.int (i:Int))=.ok (c rs[i]):=u6e (by rw[v7,u5 h];rfl)
def u3P {α:Type}{c:α->D}{rs:List α}{i:Nat} (h:i<rs.length):∃x,x∈rs/\dIx (.lst (rs.map c)) (.int (i:Int))=.ok (c x):=⟨rs[i],z0F h,ix_m h⟩
def v1o (x y:D) (l:List D):dIx (.lst (x::y::l)) (.int 1)=.ok y:=u6e (i:=1) rfl
def ixl_2 (x y z:D) (l:List D):dIx (.lst (x::y::z::l)) (.int 2)=.ok z:=u6e (i:=2) rfl
def modI (a:Int) {b:Nat} (h:0<b):∃m:Nat,a%(b:Int)=(m:Int)/\m<b:=by
 have h1:=Int.emod_nonneg a (show(b:Int)≠0 by omega)
 have h2:=Int.emod_lt_of_pos a (show(0:Int)<(b:Int) by omega)
 exact⟨(a%b).toNat,by omega,by omega⟩
def modZ (a:Int) {b:Int} (h:0<b):∃m:Nat,a%b=(m:Int)/\(m:Int)<b:=by
 have h1:=Int.emod_nonneg a (show b≠0 by omega)
 have h2:=Int.emod_lt_of_pos a h
 exact⟨(a%b).toNat,by omega,by omega⟩
@[simp] theorem u0f (i j:Int):dMulX (.int i) (.int j)=gd (CMul i j) (.ok (.int (i*j))):=Eq.trans rfl rfl
@[simp] theorem add_ii (i j:Int):dAdd (.int i) (.int j)=.ok (.int (i+j)):=Eq.trans rfl rfl
def u0G {i j:Int} (h:0<j):dMod (.int i) (.int j)=.ok (.int (i%j)):=if_pos h
def u3o {i j:Int} (h:0<j) (h2:j<2^64):dDiv (.int i) (.int j)=.ok (.int (i / j)):=if_pos ⟨h,h2⟩
def u8Y {n:Nat} (h:n<=1000):rng1 [.int (n:Int)]=.ok (intL 0 n):=by
 show gd _ _=_
 rw[u0w (by omega),Int.toNat_natCast]
def rng_lit {n:Nat} (j:Int) (e:j=n) (h:n<=1000):rng1 [.int j]=.ok (intL 0 n):=by rw[e,u8Y h]
def bN {α β:Type} (a:α) (f:α->Res β):(Res.ok a).bind f=f a:=Eq.trans rfl rfl
def gN {α:Type} (a:α) (ρ:Rho) (k:α->Out):(Res.ok a).go ρ k=k a:=Eq.trans rfl rfl
def nN (ρ:Rho) (f:Rho->Out):(Out.nx ρ).andThen f=f ρ:=Eq.trans rfl rfl
def u7r {α:Type}{xs:List α}{lo hi:Option Int}{x:α} (h:x∈cutC xs lo hi):x∈xs:=z0B (z3A h)
def cut_n {α:Type} (xs:List α) (n:Nat):cutC xs none (some (n:Int))=xs.take n:=by
 unfold cutC
 rw[HT.sIx_none,HT.sIx_nat]
 simp[List.take_eq_take_min]
def cut_d {α:Type} (xs:List α) (n:Nat):cutC xs (some (n:Int)) none=xs.drop n:=by
 unfold cutC
 rw[HT.sIx_none,HT.sIx_nat]
 by_cases h:n<=xs.length
 ·rw[Nat.min_eq_left h,List.take_of_length_le (by simp)]
 ·rw [Nat.min_eq_right (by omega),List.drop_length,List.drop_of_length_le (by omega)]
  simp
def u7s {α:Type} (c:α->D) (xs:List α) (lo hi:Option Int):cutC (xs.map c) lo hi=(cutC xs lo hi).map c:=by
 unfold cutC
 rw[v6,List.map_take,List.map_drop]
def th {Q:Out->Prop}{a:Out}{f:Rho->Out}{ρ:Rho} (h:a=.nx ρ) (k:Q (f ρ)):Q (a.andThen f):=by rw[h];exact k
def goq {α:Type}{Q:Out->Prop}{r:Res α}{ρ:Rho}{k:α->Out}{v:α} (h:r=.ok v) (q:Q (k v)):Q (r.go ρ k):=by rw[h];exact q
def thq {Q T:Out->Prop}{a:Out}{f:Rho->Out} (q:T a) (k:∀o,T o->Q (o.andThen f)):Q (a.andThen f):=k _ q
def RetsX (r:Res D) (o:Out):Prop:=outR o=r
def runX1 {n m:Nat}{t:Rho->Out}{ds:List D}{r:Res D} (hl:ds.length=m) (h:RetsX r (t (startD n ds))):runX n m t ds=r:=by unfold runX;rw[if_pos hl];exact h
abbrev scr (ns:List Int):D:=.lst (ns.map D.int)
abbrev Row (G:FD):Prop:=∀(ns:List Int) (i b n:Nat),0<b->b<1000000->n<=80->∃rs:List Nat,G [scr ns,dN i,dN b,dN n]=.ok (.lst (rs.map dN))/\rs.length=n/\∀x∈rs,x<b
inductive Srow (ns:List Int) (i b n:Nat) (c:Int) (k:Nat) (ρ:Rho):Prop
 | mk (l:Int) (rs:List Nat) (y:Option Sl) (q0:ρ=[some (.val (scr ns)),some (.val (dN i)),some (.val (dN b)),some (.val (dN n)),some (.val (.int c)),some (.val (.int l)),some (.own (.l (rs.map dN))),y]) (q1:rs.length=k) (q2:∀x∈rs,x<b)
inductive Qrow (b n:Nat) (o:Out):Prop
 | mk (ρ:Rho) (rs:List Nat) (q0:o=.nx ρ) (q1:getV (frz ρ) 6=.ok (.lst (rs.map dN))) (q2:rs.length=n) (q3:∀x∈rs,x<b)
section
variable {P:Program}{w:World}{K:W.Frag}{mg:MG}{base:Heap}{f:Addr}{fd:FuncData}{A:Adr}
def u9j (F:Fun K "_law_cell" "_law_cell" u4k f fd) (T:Txt K mg A):∃G,FnOk P w K mg base CX0 1 f fd ["_law_script","_law_k"] (spF K G)/\∀(ns:List Int) (k:Nat),∃c:Int,G [scr ns,dN k]=.ok (.int c):=by
 refine⟨_,F.okT (k:=0) u8V (λcdv Ar outer s H E hr=>u0d (u0v (u0m o_lt (dv 1) (d_B u0L T.z_len (by decide +kernel) (u0a (dv 0) u0b))) (u0e (u0g (d_ix x_ix (dv 0) (dv 1)))) u0n)
  (u0e (u0g u0c))),?_⟩
 intro ns k
 by_cases h:k<ns.length
 ·have h':(k:Int)<ns.length:=by omega
  exact⟨ns[k],by simp[runT,startD,h,h',ix_m h]⟩
 ·have h':¬ (k:Int)<ns.length:=by omega
  exact⟨0,by simp[runT,startD,h,h']⟩
def u9e (F:Fun K "_law_stir" "_law_stir" u4i f fd) (T:Txt K mg A):∃G,FnOk P w K mg base CX0 1 f fd ["_law_cell_here","_law_k"] (spF K G)/\∀(c:Int) (k:Nat),k<=100->∃n:Int,G [.int c,dN k]=.ok (.int n):=by
 refine⟨_,F.okT (k:=0) u3q (λcdv Ar outer s H E hr=>u0d (ds_n u3q.nd (d_op u1c (d_op u0E (d_op u0E (d_op u0Z (d_op u1c (dv 0) u0c) u0c) (d_op u0Z u0c (dv 1))) u0c) u0c))
  (u0d (ds_n u3q.nd (d_op u1c (d_op u0Z (dv 2) (dv 2)) u0c))
  (u0e (u0g (d_op u1c (d_op u0E (d_op u0E (d_op u0Z (dv 2) (dv 2)) (d_op u0Z u0c (dv 2))) u0c) u0c))))),?_⟩
 intro c k hk
 refine bc λhZ=>?_
 obtain⟨m,e,hm⟩:=modZ c (b:=2147483647) (by omega)
 obtain⟨m2,e2,hm2⟩:=modZ ((m:Int)*48271+69621*(k:Int)+7) (b:=2147483647) (by omega)
 obtain⟨m3,e3,hm3⟩:=modZ ((m2:Int)*m2) (b:=2147483629) (by omega)
 refine hZ ?_
 have c1:CMul (m:Int) 48271:=.inr ⟨by omega,by omega⟩
 have c2:CMul 69621 (k:Int):=.inl ⟨by omega,by omega⟩
 have c3:CMul (m2:Int) m2:=.inr ⟨by omega,by omega⟩
 have c4:CMul (m3:Int) m3:=.inr ⟨by omega,by omega⟩
 have c5:CMul 16807 (m3:Int):=.inl ⟨by omega,by omega⟩
 refine⟨((m3:Int)*m3+16807*m3+11)%2147483587,?_⟩
 have r1:dMod (.int c) (.int 2147483647)=.ok (.int m):=by rw[u0G (by omega),e]
 have r2:dMod (.int ((m:Int)*48271+69621*(k:Int)+7)) (.int 2147483647)=.ok (.int m2):=by rw[u0G (by omega),e2]
 have r3:dMod (.int ((m2:Int)*m2)) (.int 2147483629)=.ok (.int m3):=by rw[u0G (by omega),e3]
 have r4:dMod (.int ((m3:Int)*m3+16807*m3+11)) (.int 2147483587)=.ok (.int (((m3:Int)*m3+16807*m3+11)%2147483587)):=u0G (by omega)
 have s1:dMulX (.int m) (.int 48271)=.ok (.int (m*48271)):=by rw[u0f,u0w c1]
 have s2:dMulX (.int 69621) (.int k)=.ok (.int (69621*k)):=by rw[u0f,u0w c2]
 have s3:dMulX (.int m2) (.int m2)=.ok (.int (m2*m2)):=by rw[u0f,u0w c3]
 have s4:dMulX (.int m3) (.int m3)=.ok (.int (m3*m3)):=by rw[u0f,u0w c4]
 have s5:dMulX (.int 16807) (.int m3)=.ok (.int (16807*m3)):=by rw[u0f,u0w c5]
 simp[runT,startD,r1,r2,r3,r4,s1,s2,s3,s4,s5,-u0k,-u0f,-zb,-zg,-zn,bN,gN,nN]
def v0V {a3p:FD} (a4n:Callee P w K mg base 1 "_law_cell" ["_law_script","_law_k"] (spF K a3p)) {a3m:FD} (a4j:Callee P w K mg base 1 "_law_stir" ["_law_cell_here","_law_k"] (spF K a3m)) (a5l:∀(ns:List Int) (k:Nat),∃c:Int,a3p [scr ns,dN k]=.ok (.int c)) (a5j:∀(c:Int) (k:Nat),k<=100->∃n:Int,a3m [.int c,dN k]=.ok (.int n)) (F:Fun K "_law_row" "_law_row" u5g f fd) (T:Txt K mg A):∃G,FnOk P w K mg base CX0 2 f fd ["_law_script","_law_at","_law_base","_law_count"] (spF K G)/\Row G:=by
 refine⟨_,F.okT (k:=1) u1Q (λcdv Ar outer s H E hr=>u0d (ds_n u1Q.nd (d_fn a4n hr (u0a (dv 0) (u0a (dv 1) u0b))))
  (u0d (ds_n u1Q.nd (d_op o_sub (dv 4) (d_op o_pow u0c u0c)))
  (u0d (u1e u1Q.nd (u2q u0b))
  (u0d (u0Y rfl (u1Y T.z_range (u0a (dv 3) u0b)) (dg_n u1Q.nd)
  (u0e (u0v (u0m o_ge (dv 4) (d_op o_pow u0c u0c)) (u0d (u1f 6 (d_op u1c (dv 5) (dv 2)))
    (u0e (ds_n u1Q.nd (d_op u6c (dv 5) (dv 2))))) (u0e (u1f 6 (d_op u1c (d_op u6c (d_fn a4j hr (u0a (dv 4) (u0a (dv 7) u0b))) u0c) (dv 2)))))))
  (u0e (u0g (dv 6))))))),?_⟩
 intro ns i b n hb hb2 hn
 obtain⟨c,ec⟩:=a5l ns i
 have cp:CPow 10 18:=by decide
 have hn':(-(2^62:Int))<=(n:Int)/\(n:Int)<2^62:=by omega
 have r0:dPow (.int 10) (.int 18)=.ok (.int 1000000000000000000):=by
  show gd _ _=_
  rw[u0w cp]
  rfl
 simp[runT,startD,ec,r0,u8Y (show n<=1000 by omega),-u0k,-u0f,-zb,-zg,-zn,bN,gN,nN]
 generalize hI:forD _ _ _ _=o
 have q:Qrow b n o:=by
  rw[<- hI]
  refine u4W (Srow ns i b n c) (Qrow b n) ⟨_,[],none,rfl,rfl,λx h=>(nomatch h)⟩ ?_ ?_
  ·rintro ρ ⟨l,rs,y,rfl,h1,h2⟩
   exact⟨_,rs,rfl,rfl,h1,h2⟩
  ·rintro k ρ hk ⟨l,rs,y,rfl,h1,h2⟩
   refine⟨_,rfl,.inl ?_⟩
   have hb':(0:Int)<b:=by omega
   have hs:rs.length<sizeLine:=w9 (show rs.length<1000 by omega) (by decide)
   have cd:CDivB l b:=by unfold CDivB;omega
   by_cases hc':(1000000000000000000:Int)<=c
   ·obtain ⟨m,e,hm⟩:=modI l (b:=b) hb
    skip
    have r1:dMod (.int l) (.int b)=.ok (.int m):=by rw[u0G hb',e]
    have r2:dDiv (.int l) (.int b)=.ok (.int (l / b)):=by rw[u3o hb' (by omega)]
    refine⟨_,by simp[hc',r0,r1,r2,hs,-u0k,-u0f,-zb,-zg,-zn,bN,gN,nN];rfl,l / b,rs++[m],some (.val (dN k)),by simp,by simp[h1],λx hx=>?_⟩
    rcases x9.mp hx with h|h
    ·exact h2 x h
    ·rw[y6.mp h];exact hm
   ·obtain ⟨t,et⟩:=a5j c k (by omega)
    obtain⟨m,e,hm⟩:=modI (t / 8) (b:=b) hb
    have cd8:CDivB t 8:=by unfold CDivB;omega
    skip
    have r1:dMod (.int (t / 8)) (.int b)=.ok (.int m):=by rw[u0G hb',e]
    have r2:dDiv (.int t) (.int 8)=.ok (.int (t / 8)):=by rw[u3o (by omega) (by omega)]
    refine⟨_,by simp[hc',r0,r1,r2,hs,et,-u0k,-u0f,-zb,-zg,-zn,bN,gN,nN];rfl,l,rs++[m],some (.val (dN k)),by simp,by simp[h1],λx hx=>?_⟩
    rcases x9.mp hx with h|h
    ·exact h2 x h
    ·rw[y6.mp h];exact hm
 obtain⟨ρ,rs,rfl,g,h1,h2⟩:=q
 exact⟨rs,by simp[g],h1,h2⟩
end
noncomputable def SIG:List Str:=["a","b","+","*","(",")","c","id","=","<=","if","0","[]","else",",","abc123","z","!"]
noncomputable def POOL:List Str:=SIG++(["zz"]:List Str)
noncomputable def TAIL:List Str:=["","a","x1","list0","9","abcd0"]
noncomputable def letC (i:Nat):Str:=⟨#[greatT.cps.getD i 0]⟩
noncomputable def tailJ (j:Nat):Str:=TAIL.getD j ""
noncomputable def okH (z:Str):Bool:=hdS z&&(goodS z&&!sgnS z)
noncomputable def okG (z:Str):Bool:=sgnS z&&(goodS z&&POOL.contains z)
def sig_ok:∀z∈SIG,okG z=true:=by decide +kernel
def v3Y:∀i,i<26->∀j,j<6->okH (letC i++tailJ j)=true:=by decide +kernel
def u2n {i j:Int} (h:-(2^64)<i/\i<2^64):dMulX (.int i) (.int j)=.ok (.int (i*j)):=by rw[u0f,u0w (show CMul i j from .inl h)]
def v2v {i:Nat} (h:i<26):dIx (.str greatT) (.int (i:Int))=.ok (.str (letC i)):=by
 have e:atI greatT.cps.toList (i:Int)=some (greatT.cps.getD i 0):=u7u (by
  have h':i<greatT.cps.size:=h
  rw[z1F,z3E h',Array.getD_eq_getD_getElem?,z3E h']
  rfl)
 show(match atI greatT.cps.toList (i:Int) with|some c=>Res.ok (D.str ⟨#[c]⟩)|none=>.bad)=_
 rw[e]
 rfl
def v3P (i:Nat):(letC i).length=1:=rfl
def gdL {α:Type}{ds:List D}{r:Res α} (h:ds.length<=1000):gd (ds.length<=sizeLine) r=r:=u0w (u0S h)
def gdI {α:Type}{n:Nat}{r:Res α} (h:n<=1000):gd ((intL 0 n).length<=sizeLine) r=r:=gdL (by rw[v0b];exact h)
def add_ss {x y:Str} (h:x.length+y.length<=1000):dAdd (.str x) (.str y)=.ok (.str (x++y)):=u0w (v5 h (by decide))
def u8K {x y:List D} (h:x.length+y.length<=1000):dAdd (.lst x) (.lst y)=.ok (.lst (x++y)):=u0w (v5 h (by decide))
abbrev dS (zs:List Str):D:=.lst (zs.map D.str)
def HH (z:Str):Prop:=∃i,i<26/\∃j,j<6/\z=letC i++tailJ j
def HH.ok {z:Str} (h:HH z):okH z=true:=by
 obtain⟨i,hi,j,hj,rfl⟩:=h
 exact v3Y i hi j hj
def u7i:∀i,i<26->∀j,j<6->fstC (letC i++tailJ j)=letC i:=by decide +kernel
def v2m:∀i,i<26->∀j,j<26->letC i=letC j->i=j:=by decide +kernel
noncomputable def sgI (i:Nat):Str:=SIG.getD i ""
def sgI_inj:∀i,i<18->∀j,j<18->sgI i=sgI j->i=j:=by decide +kernel
structure HDS (hs:List Str):Prop where
 hh:∀z∈hs,HH z
 nd:hs.Nodup
 fl:∀a∈hs,∀b∈hs,fstC a=fstC b->a=b
abbrev Heads (G:FD):Prop:=∀c n:Nat,n<=3->∃hs:List Str,G [dN c,dN n]=.ok (dS hs)/\hs.length=n/\HDS hs
abbrev Signs (G:FD):Prop:=∀c n:Nat,n<=18->∃hs:List Str,G [dN c,dN n]=.ok (dS hs)/\hs.length=n/\(∀z∈hs,okG z=true)/\hs.Nodup
def u4y {n:Nat}{f:Nat->Str} (h:∀i,i<n->∀j,j<n->f i=f j->i=j):((List.range n).map f).Nodup:=by
 unfold List.Nodup
 rw[List.pairwise_map]
 exact(List.nodup_range (n:=n)).imp_of_mem λ{a b} ha hb hab e=>hab (h a (List.mem_range.mp ha) b (List.mem_range.mp hb) e)
noncomputable def onI (f:Nat->Str):D->D
 | .int k=>.str (f k.toNat)
 | _=>.non
def v0a (f:Nat->Str) (n:Nat):(intL 0 n).map (onI f)=((List.range n).map f).map D.str:=by
 simp[intL,onI,Function.comp_def]
def dN_onI (f:Nat->Str) (xs:List Nat):(xs.map dN).map (onI f)=(xs.map f).map D.str:=by
 simp[onI,Function.comp_def]
abbrev SH:=Nat×List Nat
noncomputable def shD (p:SH):D:=.tup [dN p.1,.tup (p.2.map dN)]
noncomputable def SHAPES:List (List SH):=[[(0,[0,13,1]),(0,[1]),(1,[1,14,2]),(1,[2]),(2,[11,0,12]),(2,[10])],[(0,[0,11,10]),(0,[10])],[(0,[10,0,11]),(0,[])],[(0,[0,1]),(0,[]),(1,[10,11]),(1,[12,0,13])],
 [(0,[10,1,13]),(0,[11,2,13]),(0,[10,2,14]),(0,[11,1,14]),(1,[12]),(2,[12])],[(0,[1,2]),(1,[10]),(1,[]),(2,[11]),(2,[])],[(0,[10,0]),(0,[10]),(0,[11])],[(0,[1,10,1]),(1,[11,1]),(1,[12])],[(0,[10,1]),(1,[0,11]),(1,[])],[(0,[1,10]),(0,[2,11]),(1,[12]),(2,[12])]]
def u7E:∀sh∈SHAPES,1<=sh.length/\sh.length<=6/\sh.Nodup/\∀p∈sh,(p.1<3/\p.2.length<=3/\∀x∈p.2,x<3\/(10<=x/\x<15))/\∀x∈p.2,x<3->∃q∈sh,q.1=x:=by decide +kernel
abbrev Shape (G:FD):Prop:=∀c:Nat,∃sh∈SHAPES,G [dN c]=.ok (.lst (sh.map shD))
noncomputable def sy (hs ss:List Str) (x:Nat):Str:=if 10<=x then ss.getD (x - 10) "" else hs.getD x ""
abbrev Symb (G:FD):Prop:=∀(x:Nat) (hs ss:List Str),hs.length=3->ss.length=5->(x<3\/(10<=x/\x<15))->G [dN x,dS hs,dS ss]=.ok (.str (sy hs ss x))
def u2U {α:Type}{l:List α}{i:Nat}{d:α} (h:i<l.length):l.getD i d=l[i]:=by rw[List.getD_eq_getElem?_getD,u5 h];rfl
section
variable {P:Program}{w:World}{K:W.Frag}{mg:MG}{base:Heap}{f:Addr}{fd:FuncData}{A:Adr}
def u7T (F:Fun K "_law_heads" "_law_heads" u2y f fd) (T:Txt K mg A):∃G,FnOk P w K mg base CX0 1 f fd ["_law_cell_here","_law_many"] (spF K G)/\Heads G:=by
 refine⟨_,F.okT (k:=0) u2K (λcdv Ar outer s H E hr=>u0d (ds_n u2K.nd u0i)
  (u0d (ds_n u2K.nd (d_ix x_ix (u0F (u0a u0i (u0a u0i (u0a u0i (u0a u0i (u0a u0i (u0a u0i u0b))))))) (d_op u1c (d_op u6c (dv 0) u0c) u0c)))
  (u0e (u0g (DN.de (u0T ["_law_k"] [0,2,3] rfl (u0q (sc:=defScope u2y) (N:=["_law_cell_here","_law_many","_law_letters","_law_tail"]) (by decide +kernel)) (u1Y T.z_range (u0a (dv 1) u0b)) (dg_n (show(["_law_k","_law_cell_here","_law_letters","_law_tail"]:List Str).Nodup by decide +kernel)) u1A (d_op u0E (d_ix x_ix (dv 2) (d_op u1c (d_op u0E (dv 1) (d_op u0Z u0c (dv 0))) u0c)) (dv 3)))))))),?_⟩
 intro c n hn
 obtain⟨j,e,hj⟩:=modZ ((c:Int) / 26) (b:=6) (by omega)
 have r1:dDiv (.int (c:Int)) (.int 26)=.ok (.int ((c:Int) / 26)):=u3o (by omega) (by omega)
 have r2:dMod (.int ((c:Int) / 26)) (.int 6)=.ok (dN j):=by rw[u0G (by omega),e]
 have r3:dIx (.lst [.str "",.str "a",.str "x1",.str "list0",.str "9",.str "abcd0"]) (dN j)=.ok (.str (tailJ j)):=by
  have:=ix_m (c:=D.str) (rs:=TAIL) (i:=j) (by show j<6;omega)
  rw[show tailJ j=TAIL[j]'(by show j<6;omega) from by unfold tailJ;rw[List.getD_eq_getElem?_getD,u5];rfl]
  exact this
 have r4:(tailJ j).length<=6:=by
  have:∀j,j<6->(tailJ j).length<=6:=by decide +kernel
  exact this j (by omega)
 simp[runT,startD,r1,r2,r3,u8Y (show n<=1000 by omega),-u0k,-u0f,-zb,-zg,-zn,bN,gN,nN]
 rw[u1y (onI λk=>letC ((c+7*k)%26)++tailJ j) λd hd=>?_]
 ·rw [v0a]
  have hc:∀k,(c+7*k)%26<26:=λk=>Nat.mod_lt _ (by omega)
  refine⟨_,by simp[gdI (show n<=1000 by omega)];rfl,by simp,λz hz=>?_,u4y λa ha b hb e=>?_,λz hz z' hz' e=>?_⟩
  ·obtain ⟨k,_,rfl⟩:=w6.mp hz
   exact⟨_,hc k,j,by omega,rfl⟩
  ·have e2:=congrArg fstC e
   rw[u7i _ (hc a) j (by omega),u7i _ (hc b) j (by omega)] at e2
   have:=v2m _ (hc a) _ (hc b) e2
   omega
  ·obtain ⟨a,ha,rfl⟩:=w6.mp hz
   obtain⟨b,hb,rfl⟩:=w6.mp hz'
   rw[u7i _ (hc a) j (by omega),u7i _ (hc b) j (by omega)] at e
   rw[v2m _ (hc a) _ (hc b) e]
 ·obtain ⟨k,hk,rfl⟩:=u7b hd
  have hi:(c+7*k)%26<26:=Nat.mod_lt _ (by omega)
  have s1:dMulX (.int 7) (.int (k:Int))=.ok (.int (7*(k:Int))):=u2n (by omega)
  have s2:dMod (.int ((c:Int)+7*(k:Int))) (.int 26)=.ok (dN ((c+7*k)%26)):=by rw[u0G (by omega)];simp[dN]
  have s3:=v2v hi
  have s4:dAdd (.str (letC ((c+7*k)%26))) (.str (tailJ j))=.ok (.str (letC ((c+7*k)%26)++tailJ j)):=add_ss (by rw[v3P];omega)
  exact⟨_,rfl,by simp,by simp[rhoC,s1,s2,s3,s4,onI,-u0k,-u0f,-zb,-zg,-zn,bN,gN,nN]⟩
def u7O (F:Fun K "_law_signs" "_law_signs" u2w f fd) (T:Txt K mg A):∃G,FnOk P w K mg base CX0 1 f fd ["_law_cell_here","_law_many"] (spF K G)/\Signs G:=by
 refine⟨_,F.okT (k:=0) u4u (λcdv Ar outer s H E hr=>u0d (ds_n u4u.nd (u0F (u0a u0i (u0a u0i (u0a u0i (u0a u0i (u0a u0i (u0a u0i (u0a u0i (u0a u0i (u0a u0i (u0a u0i (u0a u0i (u0a u0i (u0a u0i (u0a u0i (u0a u0i (u0a u0i (u0a u0i (u0a u0i u0b))))))))))))))))))))
  (u0e (u0g (DN.de (u0T ["_law_k"] [0,2] rfl (u0q (sc:=defScope u2w) (N:=["_law_cell_here","_law_many","_law_some"]) (by decide +kernel)) (u1Y T.z_range (u0a (dv 1) u0b)) (dg_n (show(["_law_k","_law_cell_here","_law_some"]:List Str).Nodup by decide +kernel)) u1A (d_ix x_ix (dv 2) (d_op u1c (d_op u0E (dv 1) (dv 0)) u0c))))))),?_⟩
 intro c n hn
 simp[runT,startD,u8Y (show n<=1000 by omega),-u0k,-u0f,-zb,-zg,-zn,bN,gN,nN]
 rw[u1y (onI λk=>sgI ((c+k)%18)) λd hd=>?_]
 ·rw [v0a]
  have hc:∀k,(c+k)%18<18:=λk=>Nat.mod_lt _ (by omega)
  refine⟨_,by simp[gdI (show n<=1000 by omega)];rfl,by simp,λz hz=>?_,u4y λa ha b hb e=>?_⟩
  ·obtain ⟨k,_,rfl⟩:=w6.mp hz
   refine sig_ok _ ?_
   unfold sgI
   rw[u2U (show(c+k)%18<SIG.length from hc k)]
   exact z0F _
  ·have:=sgI_inj _ (hc a) _ (hc b) e
   omega
 ·obtain ⟨k,hk,rfl⟩:=u7b hd
  have hi:(c+k)%18<18:=Nat.mod_lt _ (by omega)
  have s2:dMod (.int ((c:Int)+(k:Int))) (.int 18)=.ok (dN ((c+k)%18)):=by rw[u0G (by omega)];simp[dN]
  have s3:=ix_m (c:=D.str) (rs:=SIG) (i:=(c+k)%18) (by show _<18;omega)
  have s3':dIx (.lst [.str "a",.str "b",.str "+",.str "*",.str "(",.str ")",.str "c",.str "id",.str "=",.str "<=",.str "if",.str "0",.str "[]",.str "else",.str ",",.str "abc123",.str "z",.str "!"]) (dN ((c+k)%18))=.ok (.str (sgI ((c+k)%18))):=by
   unfold sgI
   rw[u2U (show(c+k)%18<SIG.length from hi)]
   exact s3
  exact⟨_,rfl,by simp,by simp[rhoC,s2,s3',onI,-u0k,-u0f,-zb,-zg,-zn,bN,gN,nN]⟩
def u7P (F:Fun K "_law_shape" "_law_shape" u3r f fd) (T:Txt K mg A):∃G,FnOk P w K mg base CX0 1 f fd ["_law_number"] (spF K G)/\Shape G:=by
 refine⟨_,F.okT (k:=0) u4v (λcdv Ar outer s H E hr=>u0d (u1e u4v.nd (u2q (u0a (u0F (u0a (u0h (u0a u0c (u0a (u0h (u0a u0c (u0a u0c (u0a u0c u0b)))) u0b))) (u0a (u0h (u0a u0c (u0a (u0h (u0a u0c u0b)) u0b))) (u0a (u0h (u0a u0c (u0a (u0h (u0a u0c (u0a u0c (u0a u0c u0b)))) u0b))) (u0a (u0h (u0a u0c (u0a (u0h (u0a u0c u0b)) u0b))) (u0a (u0h (u0a u0c (u0a (u0h (u0a u0c (u0a u0c (u0a u0c u0b)))) u0b))) (u0a (u0h (u0a u0c (u0a (u0h (u0a u0c u0b)) u0b))) u0b))))))) u0b)))
  (u0d (u1f 1 (u0F (u0a (u0h (u0a u0c (u0a (u0h (u0a u0c (u0a u0c (u0a u0c u0b)))) u0b))) (u0a (u0h (u0a u0c (u0a (u0h (u0a u0c u0b)) u0b))) u0b))))
  (u0d (u1f 1 (u0F (u0a (u0h (u0a u0c (u0a (u0h (u0a u0c (u0a u0c (u0a u0c u0b)))) u0b))) (u0a (u0h (u0a u0c (u0a (u0h u0b) u0b))) u0b))))
  (u0d (u1f 1 (u0F (u0a (u0h (u0a u0c (u0a (u0h (u0a u0c (u0a u0c u0b))) u0b))) (u0a (u0h (u0a u0c (u0a (u0h u0b) u0b))) (u0a (u0h (u0a u0c (u0a (u0h (u0a u0c (u0a u0c u0b))) u0b))) (u0a (u0h (u0a u0c (u0a (u0h (u0a u0c (u0a u0c (u0a u0c u0b)))) u0b))) u0b))))))
  (u0d (u1f 1 (u0F (u0a (u0h (u0a u0c (u0a (u0h (u0a u0c (u0a u0c (u0a u0c u0b)))) u0b))) (u0a (u0h (u0a u0c (u0a (u0h (u0a u0c (u0a u0c (u0a u0c u0b)))) u0b))) (u0a (u0h (u0a u0c (u0a (u0h (u0a u0c (u0a u0c (u0a u0c u0b)))) u0b))) (u0a (u0h (u0a u0c (u0a (u0h (u0a u0c (u0a u0c (u0a u0c u0b)))) u0b))) (u0a (u0h (u0a u0c (u0a (u0h (u0a u0c u0b)) u0b))) (u0a (u0h (u0a u0c (u0a (u0h (u0a u0c u0b)) u0b))) u0b))))))))
  (u0d (u1f 1 (u0F (u0a (u0h (u0a u0c (u0a (u0h (u0a u0c (u0a u0c u0b))) u0b))) (u0a (u0h (u0a u0c (u0a (u0h (u0a u0c u0b)) u0b))) (u0a (u0h (u0a u0c (u0a (u0h u0b) u0b))) (u0a (u0h (u0a u0c (u0a (u0h (u0a u0c u0b)) u0b))) (u0a (u0h (u0a u0c (u0a (u0h u0b) u0b))) u0b)))))))
  (u0d (u1f 1 (u0F (u0a (u0h (u0a u0c (u0a (u0h (u0a u0c (u0a u0c u0b))) u0b))) (u0a (u0h (u0a u0c (u0a (u0h (u0a u0c u0b)) u0b))) (u0a (u0h (u0a u0c (u0a (u0h (u0a u0c u0b)) u0b))) u0b)))))
  (u0d (u1f 1 (u0F (u0a (u0h (u0a u0c (u0a (u0h (u0a u0c (u0a u0c (u0a u0c u0b)))) u0b))) (u0a (u0h (u0a u0c (u0a (u0h (u0a u0c (u0a u0c u0b))) u0b))) (u0a (u0h (u0a u0c (u0a (u0h (u0a u0c u0b)) u0b))) u0b)))))
  (u0d (u1f 1 (u0F (u0a (u0h (u0a u0c (u0a (u0h (u0a u0c (u0a u0c u0b))) u0b))) (u0a (u0h (u0a u0c (u0a (u0h (u0a u0c (u0a u0c u0b))) u0b))) (u0a (u0h (u0a u0c (u0a (u0h u0b) u0b))) u0b)))))
  (u0d (u1f 1 (u0F (u0a (u0h (u0a u0c (u0a (u0h (u0a u0c (u0a u0c u0b))) u0b))) (u0a (u0h (u0a u0c (u0a (u0h (u0a u0c (u0a u0c u0b))) u0b))) (u0a (u0h (u0a u0c (u0a (u0h (u0a u0c u0b)) u0b))) (u0a (u0h (u0a u0c (u0a (u0h (u0a u0c u0b)) u0b))) u0b))))))
  (u0e (u0g (d_ix x_ix (dv 1) (d_op u1c (dv 0) u0c)))))))))))))),?_⟩
 intro c
 obtain⟨i,ei,hi⟩:=modZ (c:Int) (b:=10) (by omega)
 have s2:dMod (.int (c:Int)) (.int 10)=.ok (dN i):=by rw[u0G (by omega),ei]
 obtain⟨sh,hm,s3⟩:=u3P (c:=λsh:List SH=>D.lst (sh.map shD)) (rs:=SHAPES) (i:=i) (by show i<10;omega)
 refine⟨sh,hm,?_⟩
 have sl:∀k:Nat,k<=1000->k<sizeLine:=λk h=>z0A h (by decide)
 simp[runT,startD,s2,sl,-u0k,-u0f,-zb,-zg,-zn,bN,gN,nN]
 refine Eq.trans (congrArg (λr=>noE (outR ((noE r).go _ λd=>Out.rt d))) s3) ?_
 rfl
def u6S (F:Fun K "_law_symbol" "_law_symbol" u2P f fd) (T:Txt K mg A):∃G,FnOk P w K mg base CX0 1 f fd ["_law_number","_law_heads_here","_law_signs_here"] (spF K G)/\Symb G:=by
 refine⟨_,F.okT (k:=0) u6M (λcdv Ar outer s H E hr=>u0d (u0v (u0m o_ge (dv 0) u0c) (u0e (u0g (d_ix x_ix (dv 2) (d_op o_sub (dv 0) u0c)))) u0n)
  (u0e (u0g (d_ix x_ix (dv 1) (dv 0))))),?_⟩
 intro x hs ss hl sl hx
 by_cases c:10<=x
 ·have c':(10:Int)<=x:=by omega
  have e:(x:Int) - 10=((x - 10:Nat):Int):=by omega
  have s3:=ix_m (c:=D.str) (rs:=ss) (i:=x - 10) (by omega)
  have e2:sy hs ss x=ss[x - 10]'(by omega):=by unfold sy;rw[if_pos c,u2U]
  rw[e2]
  simp[runT,startD,c',e,s3,-u0k,-u0f,-zb,-zg,-zn,bN,gN,nN]
 ·have c':¬ (10:Int)<=x:=by omega
  have s3:=ix_m (c:=D.str) (rs:=hs) (i:=x) (by omega)
  have e2:sy hs ss x=hs[x]'(by omega):=by unfold sy;rw[if_neg c,u2U]
  rw[e2]
  simp[runT,startD,c',s3,-u0k,-u0f,-zb,-zg,-zn,bN,gN,nN]
end
def VR (p:RR):Prop:=OkR p/\∀b∈p.2,sgnS b=true->b∈POOL
def u7Y {z:Str} (h:okH z=true):hdS z=true/\goodS z=true/\sgnS z=false:=by
 unfold okH at h
 simpa[t9] using h
def v1i {z:Str} (h:okG z=true):sgnS z=true/\goodS z=true/\z∈POOL:=by
 unfold okG at h
 simpa[t9] using h
def vr_of {h:Str}{bs:List Str} (hh:okH h=true) (hl:bs.length<=4) (hb:∀b∈bs,okH b=true\/okG b=true):VR (h,bs):=by
 obtain⟨a1,a2,a3⟩:=u7Y hh
 refine⟨⟨a1,hl,λb m=>?_,a2,λb m=>?_⟩,λb m s=>?_⟩
 ·rcases hb b m with q | q
  ·rw[(u7Y q).1,Bool.or_true]
  ·rw[(v1i q).1];rfl
 ·rcases hb b m with q | q
  ·exact(u7Y q).2.1
  ·exact(v1i q).2.1
 ·rcases hb b m with q | q
  ·rw[(u7Y q).2.2] at s;cases s
  ·exact(v1i q).2.2
def u5x {h:Str}{bs:List Str}{rs:List RR} (o:VR (h,bs)) (os:∀q∈rs,VR q):dNotIn (.tup [.str h,.tup (bs.map D.str)]) (.lst (rs.map rT))=.ok (.bl (!decide ((h,bs)∈rs))):=by
 rw[show dNotIn (.tup [.str h,.tup (bs.map D.str)]) (.lst (rs.map rT))=inD (rT (h,bs)) (rs.map rT) true from u2D true _ _,u7c o.1 (λq hq=>(os q hq).1)]
 rfl
def cut_two {α:Type} (xs:List α) (hi:Option Int) (h:2<=xs.length):(cutC xs (some 2) hi).length<=xs.length - 2:=by
 unfold cutC
 rw[show(some (2:Int))=some ((2:Nat):Int) from rfl,HT.sIx_nat,z2E,z1B,Nat.min_eq_left h]
 exact Nat.min_le_right _ _
def five {rs:List Nat} (h:rs.length=5):∃a b c d e,rs=[a,b,c,d,e]:=by
 match rs,h with
 | [a,b,c,d,e],_=>exact⟨a,b,c,d,e,rfl⟩
def three {α:Type}{rs:List α} (h:rs.length=3):∃a b c,rs=[a,b,c]:=by
 match rs,h with
 | [a,b,c],_=>exact⟨a,b,c,rfl⟩
def VRs (rs:List RR):Prop:=∀p∈rs,VR p
noncomputable abbrev dR (rs:List RR):D:=.lst (rs.map rT)
def RH (hs ss:List Str) (p:RR):Prop:=p.1∈hs/\p.2.length<=4/\∀b∈p.2,b∈hs\/b∈ss
def v1H {hs ss:List Str}{p:RR} (hh:∀z∈hs,okH z=true) (hg:∀z∈ss,okG z=true) (h:RH hs ss p):VR p:=vr_of (hh _ h.1) h.2.1 λb hb=>(h.2.2 b hb).imp (hh b) (hg b)
structure GR (rs:List RR):Prop where
 n1:1<=rs.length
 v:VRs rs
 hh:∀p∈rs,HH p.1
 nd:rs.Nodup
 cl:∀p∈rs,∀b∈p.2,b∈hsOf rs\/okG b=true
 fl:∀p∈rs,∀q∈rs,fstC p.1=fstC q.1->p.1=q.1
 sg:∃ss:List Str,ss.length<=5/\∀p∈rs,∀b∈p.2,sgnS b=true->b∈ss
def gr_of {hs ss:List Str}{rs:List RR} (H:HDS hs) (hg:∀z∈ss,okG z=true) (l:ss.length<=5) (n1:1<=rs.length) (nd:rs.Nodup) (rh:∀p∈rs,RH hs ss p) (c:∀p∈rs,∀b∈p.2,b∈hs->b∈hsOf rs):GR rs where
 n1:=n1
 v p hp:=v1H (λz hz=>(H.hh z hz).ok) hg (rh p hp)
 hh p hp:=H.hh _ (rh p hp).1
 nd:=nd
 cl p hp b hb:=((rh p hp).2.2 b hb).imp (c p hp b hb) (hg b)
 fl p hp q hq e:=H.fl _ (rh p hp).1 _ (rh q hq).1 e
 sg:=⟨ss,l,λp hp b hb s=>((rh p hp).2.2 b hb).resolve_left λz=>by
  have:=(u7Y (H.hh b z).ok).2.2
  rw[this] at s;cases s⟩
abbrev Drawn (G:FD):Prop:=∀(ns:List Int) (i:Nat) (hs ss:List Str) (m:Nat),1<=hs.length->hs.length<=3->ss.length<=5->m<=3->HDS hs->(∀z∈ss,okG z=true) ->
 ∃rs:List RR,G [scr ns,dN i,dS hs,dS ss,dN m]=.ok (dR rs)/\rs.length<=6/\GR rs
structure SD (hs ss:List Str) (k:Nat) (rs:List RR):Prop where
 l:rs.length<=k
 nd:rs.Nodup
 rh:∀p∈rs,RH hs ss p
 all:∀j,(h:j<hs.length)->j<k->hs[j]∈hsOf rs
inductive Sdr (ns:List Int) (i:Nat) (hs ss:List Str) (m:Nat) (k:Nat) (ρ:Rho):Prop
 | mk (rs:List RR) (a b c d e:Option Sl) (q0:ρ=[some (.val (scr ns)),some (.val (dN i)),some (.val (dS hs)),some (.val (dS ss)),some (.val (dN m)),some (.own (.l (rs.map rT))),a,b,c,d,e]) (q1:SD hs ss k rs)
inductive Qdr (hs ss:List Str) (n:Nat) (o:Out):Prop
 | mk (ρ:Rho) (rs:List RR) (q0:o=.nx ρ) (q1:getV (frz ρ) 5=.ok (dR rs)) (q2:SD hs ss n rs)
def v4o {hs ss:List Str}{k:Nat}{rs:List RR} (h:SD hs ss k rs) {z:Str}{bs:List Str} (m:(z,bs)∈rs) (hz:∀h:k<hs.length,z=hs[k]):SD hs ss (k+1) rs where
 l:=by have:=h.l;omega
 nd:=h.nd
 rh:=h.rh
 all j hj hk:=by
  by_cases c:j=k
  ·subst c;rw[<- hz hj];exact w6.mpr ⟨_,m,rfl⟩
  ·exact h.all j hj (by omega)
def v4p {hs ss:List Str}{k:Nat}{rs:List RR} (h:SD hs ss k rs) {z:Str}{bs:List Str} (m:¬ (z,bs)∈rs) (r:RH hs ss (z,bs)) (hz:∀h:k<hs.length,z=hs[k]):SD hs ss (k+1) (rs++[(z,bs)]) where
 l:=by have:=h.l;simp;omega
 nd:=List.nodup_append.mpr ⟨h.nd,by simp,λa ha b hb e=>by
  rw[y6.mp hb] at e
  exact m (e ▸ ha)⟩
 rh p hp:=by
  rcases x9.mp hp with q|q
  ·exact h.rh p q
  ·rw[y6.mp q];exact r
 all j hj hk:=by
  unfold hsOf
  rw[z0H,x9]
  by_cases c:j=k
  ·subst c;rw[<- hz hj];exact .inr (by simp)
  ·exact .inl (h.all j hj (by omega))
section
variable {P:Program}{w:World}{K:W.Frag}{mg:MG}{base:Heap}{f:Addr}{fd:FuncData}{A:Adr}
def u3M {a0b:FD} (a0f:Callee P w K mg base 2 "_law_row" ["_law_script","_law_at","_law_base","_law_count"] (spF K a0b)) (a2l:Row a0b) (F:Fun K "_law_drawn_rules" "_law_drawn_rules" u1a f fd) (T:Txt K mg A):∃G,FnOk P w K mg base CX0 3 f fd ["_law_script","_law_at","_law_heads_here","_law_signs_here","_law_more"] (spF K G)/\Drawn G:=by
 refine⟨_,F.okT (k:=2) u0u (λcdv Ar outer s H E hr=>u0d (u1e u0u.nd (u2q u0b))
  (u0d (u0Y rfl (u1Y T.z_range (u0a (d_op u0E (d_B u0L T.z_len (by decide +kernel) (u0a (dv 2) u0b)) (dv 4)) u0b)) (dg_n u0u.nd)
  (u0d (ds_n u0u.nd (d_fn a0f hr (u0a (dv 0) (u0a (d_op u0E (dv 1) (dv 6)) (u0a u0c (u0a u0c u0b))))))
   (u0d (ds_n u0u.nd (d_ix x_ix (dv 2) (d_op u1c (dv 6) (d_B u0L T.z_len (by decide +kernel) (u0a (dv 2) u0b)))))
   (u0d (u0v (u0m o_ge (dv 6) (d_B u0L T.z_len (by decide +kernel) (u0a (dv 2) u0b))) (u0e (ds_n u0u.nd (d_ix x_ix (dv 2) (d_op u1c (d_ix x_ix (dv 7) u0c) (d_B u0L T.z_len (by decide +kernel) (u0a (dv 2) u0b)))))) u0n)
   (u0d (ds_n u0u.nd (d_op u0E (dv 2) (dv 3)))
   (u0d (u4Y ["_law_draw"] [9] rfl (u0q (sc:=defScope u1a) (N:=["_law_script","_law_at","_law_heads_here","_law_signs_here","_law_more","_law_rules_here","_law_k","_law_draws","_law_head","_law_some","_law_body"]) (by decide +kernel)) u0u.nd (u0A (d_sl (dv 7) (u0t u0c) (u0t (d_op u0E u0c (d_op u1c (d_ix x_ix (dv 7) u0c) u0c))))) (dg_n (show(["_law_draw","_law_some"]:List Str).Nodup by decide +kernel)) u1A (d_ix x_ix (dv 1) (d_op u1c (dv 0) (d_B u0L T.z_len (by decide +kernel) (u0a (dv 1) u0b)))))
   (u0e (u0v (u0m (u2z (hu100 hr)) (u0h (u0a (dv 8) (u0a (d_T u1C T.z_tuple (by decide +kernel) (u0a (dv 10) u0b)) u0b))) (dv 5)) (u0e (u1f 5 (u0h (u0a (dv 8) (u0a (d_T u1C T.z_tuple (by decide +kernel) (u0a (dv 10) u0b)) u0b))))) u0n))))))))
  (u0e (u0g (dv 5))))),?_⟩
 intro ns i hs ss m h1 h3 h5 hm hh hg
 have hh':∀z∈hs,okH z=true:=λz hz=>(hh.hh z hz).ok
 have r1:rng1 [.int ((hs.length:Int)+(m:Int))]=.ok (intL 0 (hs.length+m)):=rng_lit _ (by omega) (by omega)
 simp[runT,startD,r1,-u0k,-u0f,-zb,-zg,-zn,bN,gN,nN]
 generalize hI:forD _ _ _ _=o
 have q:Qdr hs ss (hs.length+m) o:=by
  rw[<- hI]
  refine u4W (Sdr ns i hs ss m) (Qdr hs ss (hs.length+m)) ⟨[],none,none,none,none,none,rfl,⟨by simp,by simp,λp h=>(nomatch h),λj _ h=>absurd h (by omega)⟩⟩ ?_ ?_
  ·intro ρ hY
   refine bc λhZ=>?_
   obtain⟨rs,a,b,c,d,e,rfl,h⟩:=hY
   refine hZ ?_
   exact⟨_,rs,rfl,rfl,h⟩
  ·intro k ρ hk hY
   refine bc λhZ=>?_
   obtain⟨rs,x1,x2,x3,x4,x5,rfl,sd⟩:=hY
   refine hZ ?_
   have l1:=sd.l
   refine⟨_,rfl,.inl ?_⟩
   refine bc λhZ=>?_
   obtain⟨ds,er,hl,hd⟩:=a2l ns (i+k) 24 5 (by omega) (by omega) (by omega)
   obtain⟨d0,d1,d2,d3,d4,rfl⟩:=five hl
   have er':a0b [scr ns,.int ((i:Int)+(k:Int)),.int 24,.int 5]=.ok (.lst ([d0,d1,d2,d3,d4].map dN)):=er
   obtain⟨j,ej,hj⟩:=modZ (k:Int) (b:=(hs.length:Int)) (by omega)
   have s1:dMod (.int (k:Int)) (.int (hs.length:Int))=.ok (dN j):=by rw[u0G (by omega),ej]
   have s2:=ix_m (c:=D.str) (rs:=hs) (i:=j) (by omega)
   obtain⟨j',ej',hj'⟩:=modZ (d0:Int) (b:=(hs.length:Int)) (by omega)
   refine hZ ?_
   have s1':dMod (.int (d0:Int)) (.int (hs.length:Int))=.ok (dN j'):=by rw[u0G (by omega),ej']
   have s2':=ix_m (c:=D.str) (rs:=hs) (i:=j') (by omega)
   have s3:dAdd (dS hs) (dS ss)=.ok (dS (hs++ss)):=by rw[u8K (by simp;omega),<- z0H]
   have s4:dMod (.int (d1:Int)) (.int 4)=.ok (.int ((d1:Int)%4)):=u0G (by omega)
   simp[er',s1,s2,-u0k,-u0f,-zb,-zg,-zn,bN,gN,nN]
   obtain⟨cs,hcs,s5⟩:∃cs:List Nat,cs.length<=3/\dSl (.lst [dN d0,dN d1,dN d2,dN d3,dN d4]) (some 2) (some (2+(d1:Int)%4))=.ok (.lst (cs.map dN)):=⟨cutC [d0,d1,d2,d3,d4] (some 2) (some (2+(d1:Int)%4)),cut_two _ _ (by simp),by rw[<- u7s];rfl⟩
   have hcl:cs.length<=sizeLine:=v5 hcs (by decide)
   have hsz:rs.length<sizeLine:=z0A (show rs.length<=1000 by omega) (by decide)
   by_cases c:hs.length<=k
   ·simp [c,u6d,v1o,s1',s2',s3,s4,s5,asI,hcl,-u0k,-u0f,-zb,-zg,-zn,bN,gN,nN]
    generalize hC:compD _ _ _ _ _=oc
    have qc:∃ys,oc=.ok ys/\ys.length=(cs.map dN).length/\∀y∈ys,∃b,y=D.str b/\(b∈hs\/b∈ss):=by
     rw[<- hC]
     refine u3X λd hd=>?_
     obtain⟨x,hx,rfl⟩:=w6.mp hd
     obtain⟨t,et,ht⟩:=modZ (x:Int) (b:=((hs++ss).length:Int)) (by simp;omega)
     have t1:dMod (.int (x:Int)) (.int ((hs++ss).length:Int))=.ok (dN t):=by rw[u0G (by simp;omega),et]
     obtain⟨b,hb,t2⟩:=u3P (c:=D.str) (rs:=hs++ss) (i:=t) (by omega)
     refine⟨_,.str b,rfl,by simp,?_,b,rfl,x9.mp hb⟩
     generalize hs++ss=us at t1 t2
     simp[rhoC,t1,t2,-u0k,-u0f,-zb,-zg,-zn,bN,gN,nN]
    refine bc λhZ=>?_
    obtain⟨ys,rfl,hy1,hy2⟩:=qc
    obtain⟨bs,rfl,hb2⟩:=pull hy2
    refine hZ ?_
    have hbl:bs.length<=4:=by simpa using(show(bs.map D.str).length<=4 by rw[hy1];simp;omega)
    have r:RH hs ss (hs[j']'(by omega),bs):=⟨z0F _,hbl,hb2⟩
    have v:VR (hs[j']'(by omega),bs):=v1H hh' hg r
    have nn:=u5x v λp hp=>v1H hh' hg (sd.rh p hp)
    have g1:gTuple [dS bs]=.ok (.tup (bs.map D.str)):=rfl
    have hzk:∀h:k<hs.length,hs[j']'(by omega)=hs[k]:=λh=>absurd h (by omega)
    by_cases cm:(hs[j']'(by omega),bs)∈rs
    ·refine⟨_,by simp[g1,nn,cm,u1p,-u0k,-u0f,-zb,-zg,-zn,bN,gN,nN];exact⟨rfl,rfl,rfl,rfl,rfl⟩,rs,_,_,_,_,_,rfl,v4o sd cm hzk⟩
    ·refine⟨_,by simp[g1,nn,cm,u1p,hsz,-u0k,-u0f,-zb,-zg,-zn,bN,gN,nN];rfl,rs++[(hs[j']'(by omega),bs)],_,_,_,_,_,by simp[rT];exact⟨rfl,rfl,rfl,rfl,rfl⟩,v4p sd cm r hzk⟩
   ·simp [c,u6d,v1o,s3,s4,s5,asI,hcl,-u0k,-u0f,-zb,-zg,-zn,bN,gN,nN]
    generalize hC:compD _ _ _ _ _=oc
    have qc:∃ys,oc=.ok ys/\ys.length=(cs.map dN).length/\∀y∈ys,∃b,y=D.str b/\(b∈hs\/b∈ss):=by
     rw[<- hC]
     refine u3X λd hd=>?_
     obtain⟨x,hx,rfl⟩:=w6.mp hd
     obtain⟨t,et,ht⟩:=modZ (x:Int) (b:=((hs++ss).length:Int)) (by simp;omega)
     have t1:dMod (.int (x:Int)) (.int ((hs++ss).length:Int))=.ok (dN t):=by rw[u0G (by simp;omega),et]
     obtain⟨b,hb,t2⟩:=u3P (c:=D.str) (rs:=hs++ss) (i:=t) (by omega)
     refine⟨_,.str b,rfl,by simp,?_,b,rfl,x9.mp hb⟩
     generalize hs++ss=us at t1 t2
     simp[rhoC,t1,t2,-u0k,-u0f,-zb,-zg,-zn,bN,gN,nN]
    refine bc λhZ=>?_
    obtain⟨ys,rfl,hy1,hy2⟩:=qc
    obtain⟨bs,rfl,hb2⟩:=pull hy2
    refine hZ ?_
    have hbl:bs.length<=4:=by simpa using(show(bs.map D.str).length<=4 by rw[hy1];simp;omega)
    have r:RH hs ss (hs[j]'(by omega),bs):=⟨z0F _,hbl,hb2⟩
    have v:VR (hs[j]'(by omega),bs):=v1H hh' hg r
    have nn:=u5x v λp hp=>v1H hh' hg (sd.rh p hp)
    have g1:gTuple [dS bs]=.ok (.tup (bs.map D.str)):=rfl
    have hzk:∀h:k<hs.length,hs[j]'(by omega)=hs[k]:=λh=>by
     have:j=k:=by
      have e2:(k:Int)%(hs.length:Int)=(k:Int):=Int.emod_eq_of_lt (by omega) (by omega)
      omega
     subst this
     rfl
    by_cases cm:(hs[j]'(by omega),bs)∈rs
    ·refine⟨_,by simp[g1,nn,cm,u1p,-u0k,-u0f,-zb,-zg,-zn,bN,gN,nN];exact⟨rfl,rfl,rfl,rfl,rfl⟩,rs,_,_,_,_,_,rfl,v4o sd cm hzk⟩
    ·refine⟨_,by simp[g1,nn,cm,u1p,hsz,-u0k,-u0f,-zb,-zg,-zn,bN,gN,nN];rfl,rs++[(hs[j]'(by omega),bs)],_,_,_,_,_,by simp[rT];exact⟨rfl,rfl,rfl,rfl,rfl⟩,v4p sd cm r hzk⟩
 obtain⟨ρ,rs,rfl,g,sd⟩:=q
 have n1:1<=rs.length:=by
  have:=sd.all 0 (by omega) (by omega)
  have h9:=List.length_pos_of_mem this
  simp only[hsOf,v6] at h9
  omega
 refine⟨rs,by simp[g],by have:=sd.l;omega,gr_of hh hg h5 n1 sd.nd sd.rh λp hp b hb hbh=>?_⟩
 obtain⟨j,hj,rfl⟩:=List.getElem_of_mem hbh
 exact sd.all j hj (by omega)
end
abbrev Rules (G:FD):Prop:=∀(ns:List Int) (i:Nat),∃rs:List RR,G [scr ns,dN i]=.ok (dR rs)/\rs.length<=6/\GR rs
noncomputable def ph (hs ss:List Str) (p:SH):RR:=(hs.getD p.1 "",p.2.map (sy hs ss))
def u7g {l:List Str}{i:Nat} (h:i<l.length):l.getD i ""∈l:=by rw[u2U h];exact z0F h
def u7h {l:List Str} (nd:l.Nodup) {i j:Nat} (hi:i<l.length) (hj:j<l.length) (e:l.getD i ""=l.getD j ""):i=j:=by
 rw[u2U hi,u2U hj] at e
 exact(List.getElem_inj nd).mp e
theorem v4y {α β:Type}{f:α->β}:∀{xs ys:List α},(∀x∈xs,∀y∈ys,f x=f y->x=y)->xs.map f=ys.map f->xs=ys
 | [],[],_,_=>rfl
 | [],_::_,_,e=>by cases e
 | _::_,[],_,e=>by cases e
 | x::xs,y::ys,h,e=>by
  simp only[w5,List.cons.injEq] at e
  rw[h x z6 y z6 e.1,v4y (λa ha b hb=>h a (z0 _ ha) b (z0 _ hb)) e.2]
def nd_on {α β:Type}{f:α->β}{xs:List α} (nd:xs.Nodup) (h:∀x∈xs,∀y∈xs,f x=f y->x=y):(xs.map f).Nodup:=by
 unfold List.Nodup
 rw[List.pairwise_map]
 exact nd.imp_of_mem λ{a b} ha hb hab e=>hab (h a ha b hb e)
section
variable {hs ss:List Str}
def u9E (l1:hs.length=3) (l2:ss.length=5) {x:Nat} (h:x<3\/(10<=x/\x<15)):(sy hs ss x∈hs/\x<3)\/(sy hs ss x∈ss/\10<=x):=by
 unfold sy
 by_cases c:10<=x
 ·rw[if_pos c];exact .inr ⟨u7g (by omega),c⟩
 ·rw[if_neg c];exact .inl ⟨u7g (by omega),by omega⟩
def sy_inj (H:HDS hs) (hg:∀z∈ss,okG z=true) (nd:ss.Nodup) (l1:hs.length=3) (l2:ss.length=5) {x y:Nat} (hx:x<3\/(10<=x/\x<15)) (hy:y<3\/(10<=y/\y<15)) (e:sy hs ss x=sy hs ss y):x=y:=by
 have no:∀z,z∈hs->z∈ss->False:=λz a b=>by
  have h1:=(u7Y (H.hh z a).ok).2.2
  rw[(v1i (hg z b)).1] at h1;cases h1
 rcases u9E l1 l2 hx with⟨a,a'⟩|⟨a,a'⟩<;>rcases u9E l1 l2 hy with⟨b,b'⟩|⟨b,b'⟩
 ·unfold sy at e
  rw[if_neg (by omega),if_neg (by omega)] at e
  exact u7h H.nd (by omega) (by omega) e
 ·exact(no _ a (e ▸ b)).elim
 ·exact(no _ (e ▸ b) a).elim
 ·unfold sy at e
  rw[if_pos a',if_pos b'] at e
  have:=u7h nd (by omega) (by omega) e
  omega
def v3q (H:HDS hs) (hg:∀z∈ss,okG z=true) (nd:ss.Nodup) (l1:hs.length=3) (l2:ss.length=5) {sh:List SH} (m:sh∈SHAPES):GR (sh.map (ph hs ss)):=by
 obtain⟨s1,s2,s3,s4⟩:=u7E sh m
 refine gr_of H hg (by omega) (by simpa using s1) (nd_on s3 λp hp q hq e=>?_) (λp hp=>?_) λp hp b hb hbh=>?_
 ·refine bc fun hZ=>?_
  obtain⟨⟨a1,a2,a3⟩,_⟩:=s4 p hp
  obtain⟨⟨b1,b2,b3⟩,_⟩:=s4 q hq
  obtain⟨px,pb⟩:=p
  obtain⟨qx,qb⟩:=q
  refine hZ ?_
  simp only[ph,Prod.mk.injEq] at e
  have e1:px=qx:=u7h H.nd (by rw[l1];exact a1) (by rw[l1];exact b1) e.1
  have e2:pb=qb:=v4y (λx hx y hy=>sy_inj H hg nd l1 l2 (a3 x hx) (b3 y hy)) e.2
  rw[e1,e2]
 ·refine bc fun hZ=>?_
  obtain⟨p,hp0,rfl⟩:=w6.mp hp
  obtain⟨⟨a1,a2,a3⟩,_⟩:=s4 p hp0
  refine hZ ?_
  refine⟨u7g (by rw[l1];exact a1),by simp[ph];omega,λb hb=>?_⟩
  obtain⟨x,hx,rfl⟩:=w6.mp hb
  exact(u9E l1 l2 (a3 x hx)).imp And.left And.left
 ·refine bc fun hZ=>?_
  obtain⟨p,hp0,rfl⟩:=w6.mp hp
  obtain⟨⟨a1,a2,a3⟩,a4⟩:=s4 p hp0
  obtain⟨x,hx,rfl⟩:=w6.mp hb
  refine hZ ?_
  rcases u9E l1 l2 (a3 x hx) with⟨_,c⟩|⟨c,c'⟩
  ·obtain ⟨q,hq,e⟩:=a4 x hx c
   refine w6.mpr ⟨_,w6.mpr ⟨q,hq,rfl⟩,?_⟩
   unfold sy
   rw[if_neg (by omega),<- e]
   rfl
  ·have h1:=(u7Y (H.hh _ hbh).ok).2.2
   rw[(v1i (hg _ c)).1] at h1;cases h1
end
inductive Sru (a0 a1 a2:Option Sl) (hs ss:List Str) (sh0:List SH) (ds:List D) (ρ:Rho):Prop
 | mk (dn sh:List SH) (a b c:Option Sl) (q0:ρ=[a0,a1,a2,some (.val (dS hs)),some (.val (dS ss)),some (.own (.l ((dn.map (ph hs ss)).map rT))),a,b,c,none]) (q1:ds=sh.map shD) (q2:sh0=dn++sh)
def Qru (hs ss:List Str) (sh0:List SH) (o:Out):Prop:=∃ρ:Rho,o=.nx ρ/\getV (frz ρ) 5=.ok (dR (sh0.map (ph hs ss)))
def cut_nd {α:Type}{xs:List α} (h:xs.Nodup) {lo hi:Option Int}:(cutC xs lo hi).Nodup:=h.sublist ((List.take_sublist _ _).trans (List.drop_sublist _ _))
def take3 {α:Type} (xs:List α) {n:Nat} (h1:1<=n) (h:n<=xs.length):(cutC xs none (some (n:Int))).length=n:=by rw[cut_n,z2E,Nat.min_eq_left h]
section
variable {P:Program}{w:World}{K:W.Frag}{mg:MG}{base:Heap}{f:Addr}{fd:FuncData}{A:Adr}
def u7Q {a0b:FD} (a0f:Callee P w K mg base 2 "_law_row" ["_law_script","_law_at","_law_base","_law_count"] (spF K a0b)) {a1w:FD} (a4b:Callee P w K mg base 1 "_law_heads" ["_law_cell_here","_law_many"] (spF K a1w)) {a0m:FD} (a1j:Callee P w K mg base 1 "_law_signs" ["_law_cell_here","_law_many"] (spF K a0m)) {a0n:FD} (a2a:Callee P w K mg base 3 "_law_drawn_rules" ["_law_script","_law_at","_law_heads_here","_law_signs_here","_law_more"] (spF K a0n)) {a3b:FD} (a3y:Callee P w K mg base 1 "_law_shape" ["_law_number"] (spF K a3b)) {a2j:FD} (a3q:Callee P w K mg base 1 "_law_symbol" ["_law_number","_law_heads_here","_law_signs_here"] (spF K a2j)) (a2l:Row a0b) (a2u:Heads a1w) (a2q:Signs a0m) (a5d:Shape a3b) (a5i:Symb a2j) (a5g:Drawn a0n) (F:Fun K "_law_rules" "_law_rules" u2x f fd) (T:Txt K mg A):∃G,FnOk P w K mg base CX0 4 f fd ["_law_script","_law_at"] (spF K G)/\Rules G:=by
 refine⟨_,F.okT (k:=3) u0N (λcdv Ar outer s H E hr=>u0d (ds_n u0N.nd (d_fn a0f hr (u0a (dv 0) (u0a (dv 1) (u0a (d_op u0Z (d_op u0Z (d_op u0Z u0c u0c) u0c) u0c) (u0a u0c u0b))))))
  (u0d (ds_n u0N.nd (d_fn a4b hr (u0a (d_ix x_ix (dv 2) u0c) (u0a u0c u0b))))
  (u0d (ds_n u0N.nd (d_fn a1j hr (u0a (d_ix x_ix (dv 2) u0c) (u0a u0c u0b))))
  (u0d (u0v (u0m o_lt (d_op u6c (d_ix x_ix (dv 2) u0c) u0c) u0c) (u0d (u1e u0N.nd (u2q u0b))
   (u0d (u0Y rfl (u0A (d_fn a3y hr (u0a (d_ix x_ix (dv 2) u0c) u0b))) (u3p (n:=2) rfl (u0r (dg_n u0N.nd) (u0r (dg_n u0N.nd) u1H)))
   (u0d (u4Y ["_law_number"] [3,4] rfl (u0q (sc:=defScope u2x) (N:=["_law_script","_law_at","_law_draws","_law_names","_law_signs_here","_law_rules_here","_law_head","_law_body","_law_symbols","_law_heads_here"]) (by decide +kernel)) u0N.nd (u0A (dv 7)) (dg_n (show (["_law_number","_law_names","_law_signs_here"]:List Str).Nodup by decide +kernel)) u1A (d_fn a3q hr (u0a (dv 0) (u0a (dv 1) (u0a (dv 2) u0b)))))
    (u0e (u1f 5 (u0h (u0a (d_ix x_ix (dv 3) (dv 6)) (u0a (d_T u1C T.z_tuple (by decide +kernel) (u0a (dv 8) u0b)) u0b)))))))
   (u0e (u0g (dv 5))))) u0n)
  (u0d (ds_n u0N.nd (d_sl (dv 3) u0x (u0t (d_op u0E u0c (d_op u1c (d_ix x_ix (dv 2) u0c) u0c)))))
  (u0e (u0g (d_fn a2a hr (u0a (dv 0) (u0a (d_op u0E (dv 1) u0c) (u0a (dv 9) (u0a (d_sl (dv 4) u0x (u0t (d_op u0E u0c (d_op u1c (d_op u6c (d_ix x_ix (dv 2) u0c) u0c) u0c)))) (u0a (d_op u1c (d_op u6c (d_ix x_ix (dv 2) u0c) u0c) u0c) u0b))))))))))))),?_⟩
 intro ns i
 refine bc λhZ=>?_
 obtain⟨ds,er,hl,hd⟩:=a2l ns i 360 3 (by omega) (by omega) (by omega)
 obtain⟨d0,d1,d2,rfl⟩:=three hl
 have er':a0b [scr ns,dN i,.int 360,.int 3]=.ok (.lst [dN d0,dN d1,dN d2]):=er
 obtain⟨hs,eh,lh,hh⟩:=a2u d1 3 (by omega)
 obtain⟨ss,es,ls,hg,nds⟩:=a2q d2 5 (by omega)
 have eh':a1w [dN d1,.int 3]=.ok (dS hs):=eh
 have es':a0m [dN d2,.int 5]=.ok (dS ss):=es
 obtain⟨sh0,m0,e1⟩:=a5d d0
 obtain⟨z1,z2,z3,z4⟩:=u7E sh0 m0
 refine hZ ?_
 have m1:dMulX (.int 3) (.int 3)=.ok (.int 9):=u2n (by omega)
 have m2:dMulX (.int 9) (.int 5)=.ok (.int 45):=u2n (by omega)
 have m3:dMulX (.int 45) (.int 8)=.ok (.int 360):=u2n (by omega)
 have v1:dDiv (dN d0) (.int 45)=.ok (.int ((d0:Int) / 45)):=u3o (by omega) (by omega)
 simp[runT,startD,m1,m2,m3,er',u6d,v1o,ixl_2,eh',es',v1,-u0k,-u0f,-zb,-zg,-zn,bN,gN,nN]
 by_cases c:(d0:Int) / 45<3
 ·simp [c,e1,u6d,-u0k,-u0f,-zb,-zg,-zn,bN,gN,nN]
  generalize hI:forD _ _ _ _=o
  have q:Qru hs ss sh0 o:=by
   rw[<- hI]
   refine u3h (Sru _ _ _ hs ss sh0) (Qru hs ss sh0) ?_ ?_ (sh0.map shD) _ ⟨[],sh0,none,none,none,rfl,rfl,rfl⟩
   ·intro ρ hY
    refine bc λhZ=>?_
    obtain⟨dn,sh,a,b,c,rfl,e,e0⟩:=hY
    refine hZ ?_
    cases sh with
    | cons p sh=>cases e
    | nil =>
     rw[List.append_nil] at e0
     subst e0
     exact⟨_,rfl,rfl⟩
   ·intro d ds ρ hY
    refine bc λhZ=>?_
    obtain⟨dn,sh,a,b,c,rfl,e,e0⟩:=hY
    refine hZ ?_
    cases sh with
    | nil=>cases e
    | cons p sh =>
     cases e
     have hp:p∈sh0:=by rw[e0];simp
     have hdl:dn.length<=6:=by have:=congrArg List.length e0;simp at this;omega
     obtain⟨⟨k1,k2,k3⟩,_⟩:=z4 p hp
     obtain⟨x,xs⟩:=p
     have k2:xs.length<=3:=k2
     have k1:x<3:=k1
     refine⟨_,rfl,.inl ?_⟩
     have s2:=ix_m (c:=D.str) (rs:=hs) (i:=x) (by omega)
     have hxl:xs.length<=sizeLine:=v5 k2 (by decide)
     have hsz:dn.length<sizeLine:=z0A (show dn.length<=1000 by omega) (by decide)
     simp[hxl,-u0k,-u0f,-zb,-zg,-zn,bN,gN,nN]
     rw[u1y (onI (sy hs ss)) λd hd=>?_]
     ·rw [dN_onI]
      have g1:gTuple [dS (xs.map (sy hs ss))]=.ok (.tup ((xs.map (sy hs ss)).map D.str)):=rfl
      have g2:ph hs ss (x,xs)=(hs[x]'(by omega),xs.map (sy hs ss)):=by unfold ph;rw[u2U]
      refine⟨_,by simp[g1,s2,u1p,hsz,-u0k,-u0f,-zb,-zg,-zn,bN,gN,nN];rfl,dn++[(x,xs)],sh,_,_,_,by simp[rT,g2];exact⟨rfl,rfl,rfl⟩,rfl,by rw[e0];simp⟩
     ·obtain ⟨t,ht,rfl⟩:=w6.mp hd
      have t2:=a5i t hs ss lh ls (k3 t ht)
      exact⟨_,rfl,by simp,by simp[rhoC,t2,onI,-u0k,-u0f,-zb,-zg,-zn,bN,gN,nN]⟩
  obtain⟨ρ,rfl,g⟩:=q
  exact⟨_,by simp[g],by simpa using z2,v3q hh hg nds lh ls m0⟩
 ·refine bc fun hZ=>?_
  obtain⟨j,ej,hj⟩:=modZ (d0:Int) (b:=3) (by omega)
  have s1:dMod (dN d0) (.int 3)=.ok (dN j):=by rw[u0G (by omega),ej]
  have s3:dDiv (dN d0) (.int 3)=.ok (.int ((d0:Int) / 3)):=u3o (by omega) (by omega)
  obtain⟨j2,ej2,hj2⟩:=modZ ((d0:Int) / 3) (b:=3) (by omega)
  have s4:dMod (.int ((d0:Int) / 3)) (.int 3)=.ok (dN j2):=by rw[u0G (by omega),ej2]
  have s5:dDiv (dN d0) (.int 9)=.ok (.int ((d0:Int) / 9)):=u3o (by omega) (by omega)
  obtain⟨j3,ej3,hj3⟩:=modZ ((d0:Int) / 9) (b:=4) (by omega)
  refine hZ ?_
  have s6:dMod (.int ((d0:Int) / 9)) (.int 4)=.ok (dN j3):=by rw[u0G (by omega),ej3]
  obtain⟨hs2,lh2,nh2,eh2⟩:∃hs2:List Str,hs2.length=1+j/\HDS hs2/\dSl (dS hs) none (some (1+(j:Int)))=.ok (dS hs2):=⟨cutC hs none (some ((1+j:Nat):Int)),take3 hs (by omega) (by omega),⟨λz hz=>hh.hh z (u7r hz),cut_nd hh.nd,λa ha b hb=>hh.fl a (u7r ha) b (u7r hb)⟩,by show Res.ok (D.lst (cutC (hs.map D.str) none (some ((1+j:Nat):Int))))=_;rw[u7s]⟩
  obtain⟨ss2,ls2,ms2,es2⟩:∃ss2:List Str,ss2.length=1+j2/\(∀z∈ss2,z∈ss)/\dSl (dS ss) none (some (1+(j2:Int)))=.ok (dS ss2):=⟨cutC ss none (some ((1+j2:Nat):Int)),take3 ss (by omega) (by omega),λz hz=>u7r hz,by show Res.ok (D.lst (cutC (ss.map D.str) none (some ((1+j2:Nat):Int))))=_;rw[u7s]⟩
  obtain⟨rs,e,h1,h2⟩:=a5g ns (i+1) hs2 ss2 j3 (by omega) (by omega) (by omega) (by omega) nh2 (λz hz=>hg z (ms2 z hz))
  have e':a0n [scr ns,.int ((i:Int)+1),dS hs2,dS ss2,dN j3]=.ok (dR rs):=e
  refine⟨rs,?_,h1,h2⟩
  simp[c,u6d,s1,s3,s4,s5,s6,asI,eh2,es2,e',-u0k,-u0f,-zb,-zg,-zn,bN,gN,nN]
end
structure RuD (d:D):Prop where
 g:goodD d=true
 pl:∀p,asRule d=some p->∀b∈p.2,sgnS b=true->b∈POOL
structure RkD (d:D):Prop where
 g:goodD d=true
 rk:rkOk d=true
theorem u7d:∀{ds:List D},(∀d∈ds,goodD d=true)->goodDs ds=true
 | [],_=>rfl
 | d::ds,h=>by
  rw[goodDs,h d z6,u7d λx hx=>h x (z0 _ hx)]
  rfl
def v1r {bs:List Str} (h:∀b∈bs,goodS b=true):goodDs (bs.map D.str)=true:=u7d λd hd=>by
 obtain⟨b,hb,rfl⟩:=w6.mp hd
 exact h b hb
def rT_inj {p q:RR} (h:rT p=rT q):p=q:=by
 obtain⟨a,as⟩:=p
 obtain⟨b,bs⟩:=q
 simp only[rT,D.tup.injEq,List.cons.injEq,D.str.injEq,and_true] at h
 rw[h.1,(List.map_inj_right (λx y e=>D.str.inj e)).mp h.2]
def v3Z {a b:D} (h:goodD a=true) (k:goodD b=true):goodD (.tup [a,b])=true:=by
 show goodDs [a,b]=true
 simp[goodDs,h,k]
noncomputable def SIDE:List Str:=["left","right","none"]
structure KR (kk:List RR):Prop where
 l:kk.length<=6
 g:∀p∈kk,p.1∈SIDE/\1<=p.2.length/\p.2.length<=10/\∀b∈p.2,okG b=true
 nd:(kk.flatMap (·.2)).Nodup
abbrev Ranks (G:FD):Prop:=∀(ns:List Int) (i:Nat),∃kk:List RR,G [scr ns,dN i]=.ok (dR kk)/\KR kk
structure SK (pool:List Str) (k:Nat) (kk:List RR):Prop where
 l:kk.length=k
 g:∀p∈kk,p.1∈SIDE/\1<=p.2.length/\p.2.length<=10/\∀b∈p.2,okG b=true
 sub:(kk.flatMap (·.2)).Sublist (pool.take (3*k))
inductive SrkL (a0 a1:Option Sl) (ds:List Nat) (pool:List Str) (k:Nat) (ρ:Rho):Prop
 | mk (kk:List RR) (a b:Option Sl) (q0:ρ=[a0,a1,some (.val (.lst (ds.map dN))),some (.val (dS pool)),some (.own (.l (kk.map rT))),a,b]) (q1:SK pool k kk)
inductive QrkL (pool:List Str) (m:Nat) (o:Out):Prop
 | mk (ρ:Rho) (kk:List RR) (q0:o=.nx ρ) (q1:getV (frz ρ) 4=.ok (dR kk)) (q2:SK pool m kk)
def cut_at {α:Type} (xs:List α) {a n:Nat} (h:a+n<=xs.length):cutC xs (some (a:Int)) (some ((a+n:Nat):Int))=(xs.drop a).take n:=by
 unfold cutC
 rw[HT.sIx_nat,HT.sIx_nat,Nat.min_eq_left (by omega),Nat.min_eq_left (by omega)]
 congr 1
 omega
def sk_new {pool:List Str}{k n:Nat}{kk:List RR} (h:SK pool k kk) (hp:∀z∈pool,okG z=true) {z:Str} (hz:z∈SIDE) (h1:1<=n) (h3:n<=3) (hl:3*k+n<=pool.length):SK pool (k+1) (kk++[(z,(pool.drop (3*k)).take n)]) where
 l:=by simp[h.l]
 g p q:=by
  rcases x9.mp q with q|q
  ·exact h.g p q
  ·rw [y6.mp q]
   refine⟨hz,?_,?_,λb hb=>hp b (z0B (z3A hb))⟩
   ·simp only[z2E,z1B];omega
   ·simp only[z2E,z1B];omega
 sub:=by
  rw[List.flatMap_append,show 3*(k+1)=3*k+3 by omega,List.take_add]
  refine h.sub.append ?_
  simp only[List.flatMap_cons,List.flatMap_nil,List.append_nil]
  have:(pool.drop (3*k)).take n=((pool.drop (3*k)).take 3).take n:=by rw[List.take_take,Nat.min_eq_left h3]
  rw[this]
  exact List.take_sublist _ _
section
variable {P:Program}{w:World}{K:W.Frag}{mg:MG}{base:Heap}{f:Addr}{fd:FuncData}{A:Adr}
def u7R {a0b:FD} (a0f:Callee P w K mg base 2 "_law_row" ["_law_script","_law_at","_law_base","_law_count"] (spF K a0b)) {a0m:FD} (a1j:Callee P w K mg base 1 "_law_signs" ["_law_cell_here","_law_many"] (spF K a0m)) (a2l:Row a0b) (a2q:Signs a0m) (F:Fun K "_law_ranks" "_law_ranks" u3s f fd) (T:Txt K mg A):∃G,FnOk P w K mg base CX0 3 f fd ["_law_script","_law_at"] (spF K G)/\Ranks G:=by
 refine⟨_,F.okT (k:=2) u1n (λcdv Ar outer s H E hr=>u0d (ds_n u1n.nd (d_fn a0f hr (u0a (dv 0) (u0a (dv 1) (u0a (d_op u0Z (d_op u0Z u0c u0c) u0c) (u0a u0c u0b))))))
  (u0d (ds_n u1n.nd (d_fn a1j hr (u0a (d_ix x_ix (dv 2) u0c) (u0a u0c u0b))))
  (u0d (u1e u1n.nd (u2q u0b))
  (u0d (u0Y rfl (u1Y T.z_range (u0a (d_op u1c (d_ix x_ix (dv 2) u0c) u0c) u0b)) (dg_n u1n.nd)
  (u0d (ds_n u1n.nd (d_ix x_ix (u0F (u0a u0i (u0a u0i (u0a u0i u0b)))) (d_op u1c (d_ix x_ix (dv 2) (d_op u0E u0c (dv 5))) u0c)))
   (u0e (u1f 4 (u0h (u0a (dv 6) (u0a (d_T u1C T.z_tuple (by decide +kernel) (u0a (d_sl (dv 3) (u0t (d_op u0Z u0c (dv 5))) (u0t (d_op u0E (d_op u0E (d_op u0Z u0c (dv 5)) u0c) (d_op u1c (d_op u6c (d_ix x_ix (dv 2) (d_op u0E u0c (dv 5))) u0c) u0c)))) u0b)) u0b)))))))
  (u0e (u0g (dv 4))))))),?_⟩
 intro ns i
 refine bc λhZ=>?_
 obtain⟨ds,er,hl,hd⟩:=a2l ns i 756 8 (by omega) (by omega) (by omega)
 have er':a0b [scr ns,dN i,.int 756,.int 8]=.ok (.lst (ds.map dN)):=er
 have m1:dMulX (.int 18) (.int 7)=.ok (.int 126):=u2n (by omega)
 have m2:dMulX (.int 126) (.int 6)=.ok (.int 756):=u2n (by omega)
 have x0:dIx (.lst (ds.map dN)) (.int 0)=.ok (dN (ds[0]'(by omega))):=ix_m (i:=0) (by omega)
 have x1:dIx (.lst (ds.map dN)) (.int 1)=.ok (dN (ds[1]'(by omega))):=ix_m (i:=1) (by omega)
 obtain⟨pool,es,ls,hg,nd⟩:=a2q (ds[0]'(by omega)) 18 (by omega)
 have es':a0m [dN (ds[0]'(by omega)),.int 18]=.ok (dS pool):=es
 obtain⟨m,em,hm⟩:=modZ (ds[1]'(by omega):Int) (b:=7) (by omega)
 refine hZ ?_
 have s1:dMod (dN (ds[1]'(by omega))) (.int 7)=.ok (dN m):=by rw[u0G (by omega),em]
 simp[runT,startD,m1,m2,er',x0,x1,es',s1,u8Y (show m<=1000 by omega),-u0k,-u0f,-zb,-zg,-zn,bN,gN,nN]
 generalize hI:forD _ _ _ _=o
 have q:QrkL pool m o:=by
  rw[<- hI]
  refine u4W (SrkL _ _ ds pool) (QrkL pool m) ⟨[],none,none,rfl,rfl,λp h=>(nomatch h),by simp⟩ ?_ ?_
  ·rintro ρ ⟨kk,a,b,rfl,h⟩
   exact⟨_,kk,rfl,rfl,h⟩
  ·rintro k ρ hk ⟨kk,a,b,rfl,h⟩
   refine⟨_,rfl,.inl ?_⟩
   have h1:=h.l
   have hx:2+k<ds.length:=by omega
   have x2:dIx (.lst (ds.map dN)) (.int (2+(k:Int)))=.ok (dN (ds[2+k]'hx)):=ix_m (i:=2+k) hx
   generalize ds[2+k]'hx=y at x2
   obtain⟨t,et,ht⟩:=modZ (y:Int) (b:=3) (by omega)
   have t1:dMod (dN y) (.int 3)=.ok (dN t):=by rw[u0G (by omega),et]
   obtain⟨z,hz,t2⟩:=u3P (c:=D.str) (rs:=SIDE) (i:=t) (by show t<3;omega)
   have t2':dIx (.lst [.str "left",.str "right",.str "none"]) (dN t)=.ok (.str z):=t2
   have t3:dDiv (dN y) (.int 3)=.ok (.int ((y:Int) / 3)):=u3o (by omega) (by omega)
   obtain⟨e,ee,he⟩:=modZ ((y:Int) / 3) (b:=3) (by omega)
   have t4:dMod (.int ((y:Int) / 3)) (.int 3)=.ok (.int (e:Int)):=by rw[u0G (by omega),ee]
   have t5:dMulX (.int 3) (.int (k:Int))=.ok (.int (3*(k:Int))):=u2n (by omega)
   have t6:dSl (dS pool) (some (3*(k:Int))) (some (3*(k:Int)+1+(e:Int)))=.ok (dS ((pool.drop (3*k)).take (1+e))):=by
    have e1:(3*(k:Int))=((3*k:Nat):Int):=by omega
    have e2:(3*(k:Int)+1+(e:Int))=((3*k+(1+e):Nat):Int):=by omega
    show Res.ok (D.lst (cutC (pool.map D.str) (some (3*(k:Int))) (some (3*(k:Int)+1+(e:Int)))))=_
    rw[e2,e1,u7s,cut_at pool (a:=3*k) (n:=1+e) (by omega)]
   have sk:=sk_new h hg hz (n:=1+e) (by omega) (by omega) (by omega)
   generalize (pool.drop (3*k)).take (1+e)=bs at t6 sk
   have g1:gTuple [dS bs]=.ok (.tup (bs.map D.str)):=rfl
   have hsz:kk.length<sizeLine:=z0A (show kk.length<=1000 by omega) (by decide)
   refine⟨_,by simp[x2,t1,t2',t3,t4,t5,t6,asI,g1,u1p,hsz,-u0k,-u0f,-zb,-zg,-zn,bN,gN,nN];rfl,kk++[(z,bs)],_,_,by simp[rT];exact⟨rfl,rfl⟩,sk⟩
 obtain⟨ρ,kk,rfl,g,h⟩:=q
 exact⟨kk,by simp[g],by have:=h.l;omega,h.g,nd.sublist (h.sub.trans (List.take_sublist _ _))⟩
end
noncomputable def stepB (c:Str) (acc:List (List Str)) (w:Str):List (List Str):=if w=c then acc++[[]] else acc.dropLast++[acc.getLastD []++[w]]
theorem foldB (c:Str):∀(ws:List Str) (acc:List (List Str)) (l:List Str),ws.foldl (stepB c) (acc++[l])=acc++match splitL c ws with
  | []=>[l]
  | w::r=>(l++w)::r
 | [],acc,l=>by simp[splitL]
 | w::ws,acc,l=>by
  rw[z1J,splitL]
  by_cases e:w=c
  ·rw [if_pos e,show stepB c (acc++[l]) w=(acc++[l])++[[]] by simp [stepB,e],foldB c ws]
   cases h:splitL c ws with
   | nil=>exact absurd h (u3H c ws)
   | cons v r=>simp
  ·rw [if_neg e,show stepB c (acc++[l]) w=acc++[l++[w]] by simp [stepB,e],foldB c ws]
   cases h:splitL c ws with
   | nil=>exact absurd h (u3H c ws)
   | cons v r=>simp
def v0j (c:Str) (ws:List Str):ws.foldl (stepB c) [[]]=splitL c ws:=by
 have:=foldB c ws [] []
 rw[List.nil_append,List.nil_append] at this
 rw[this]
 cases h:splitL c ws with
 | nil=>exact absurd h (u3H c ws)
 | cons v r=>simp
structure Bd (H H':Hp) (p:Addr) (bs0:List Addr) (b:Addr) (acc0:List (List Str)) (l:List Str):Prop where
 hp:H' p=some (.lst ((bs0++[b]).map V.ref))
 hz:∀x∈bs0.zip acc0,H' x.1=some (.lst (x.2.map V.str))
 hl:bs0.length=acc0.length
 hb:H' b=some (.lst (l.map V.str))
 nd:(bs0++[b]).Nodup
 np:p∉bs0++[b]
 fp:H p=none
 fb:∀x∈bs0++[b],H x=none
 sm:Same H H'
def u2M {H H':Hp}{p:Addr}{o:HO} (s:Same H H') (h:H p=none):Same H (upd H' p o):=λb u q=>by
 by_cases e:b=p
 ·subst e;rw[h] at q;cases q
 ·rw[u0o e];exact s b u q
def Bd.begin {H:Hp}{p0 p:Addr} (n0:H p0=none) (n:upd H p0 (.lst []) p=none):Bd H (upd (upd H p0 (.lst [])) p (.lst [.ref p0])) p [] p0 [] []:=by
 have hne:p≠p0:=λe=>by subst e;rw[u0j] at n;cases n
 have n1:H p=none:=by rw[u0o hne] at n;exact n
 exact⟨u0j,λx h=>by simp at h,rfl,by rw[u0o (Ne.symm hne),u0j];rfl,by simp,by simpa using hne,n1,λx h=>by simp at h;rw[h];exact n0,u2M (u2M (Same.refl H) n0) n1⟩
def Bd.new {H H':Hp}{p b q:Addr}{bs0:List Addr}{acc0:List (List Str)}{l:List Str} (B:Bd H H' p bs0 b acc0 l) (n:H' q=none) :
  Bd H (upd (upd H' q (.lst [])) p (.lst ((bs0++[b]).map V.ref++[.ref q]))) p (bs0++[b]) q (acc0++[l]) []:=by
 have hqp:q≠p:=λe=>by subst e;rw[B.hp] at n;cases n
 have hm:∀x∈bs0++[b],x≠q:=by
  intro x h e
  subst e
  rcases x9.1 h with m|m
  ·obtain ⟨k,hk,e⟩:=List.getElem_of_mem m
   have:(x,acc0[k]'(by rw[<- B.hl];exact hk))∈bs0.zip acc0:=by
    have hz:k<(bs0.zip acc0).length:=by simp[<- B.hl,hk]
    have:=z0F hz
    simpa[e] using this
   rw[B.hz _ this] at n;cases n
  ·simp at m;subst m;rw[B.hb] at n;cases n
 have hk:∀x∈bs0++[b],∀o,H' x=some o->upd (upd H' q (.lst [])) p (.lst ((bs0++[b]).map V.ref++[.ref q])) x=some o:=by
  intro x h o e
  rw[u0o (λz:x=p=>B.np (by rw[<- z];exact h)),u0o (hm x h)];exact e
 refine⟨by rw[u0j];simp,?_,by simp[B.hl],by rw[u0o hqp,u0j];rfl,?_,?_,B.fp,?_,u2M (u2M B.sm (B.sm.free n)) B.fp⟩
 ·intro x h
  rw[List.zip_append B.hl] at h
  rcases x9.1 h with m|m
  ·exact hk _ (z1I _ (List.of_mem_zip m).1) _ (B.hz x m)
  ·simp at m;subst m;exact hk _ (by simp) _ B.hb
 ·rw [List.nodup_append]
  exact⟨B.nd,by simp,λx h y hy=>by simp at hy;subst hy;exact hm x h⟩
 ·intro h
  rcases x9.1 h with m|m
  ·exact B.np m
  ·simp at m;exact hqp m.symm
 ·intro x h
  rcases x9.1 h with m|m
  ·exact B.fb x m
  ·simp at m;subst m;exact B.sm.free n
def Bd.app {H H':Hp}{p b:Addr}{bs0:List Addr}{acc0:List (List Str)}{l:List Str} (B:Bd H H' p bs0 b acc0 l) (w:Str) :
  Bd H (upd H' b (.lst (l.map V.str++[.str w]))) p bs0 b acc0 (l++[w]):=by
 have hpb:p≠b:=λe=>B.np (by simp[e])
 refine⟨by rw[u0o hpb];exact B.hp,?_,B.hl,by rw[u0j];simp,B.nd,B.np,B.fp,B.fb,u2M B.sm (B.fb b (by simp))⟩
 intro x h
 have hm:=(List.of_mem_zip h).1
 have hne:x.1≠b:=λe=>by
  have:=B.nd
  rw[List.nodup_append] at this
  exact this.2.2 _ hm b (by simp) e
 rw[u0o hne];exact B.hz x h
theorem u7H {K:W.Frag}{F:Hp}:∀{bs:List Addr}{acc:List (List Str)},bs.length=acc.length->(∀x∈bs.zip acc,F x.1=some (.lst (x.2.map V.str)))->(∀l∈acc,∀z∈l,z.length<=sizeLine)->Rps K F (bs.map V.ref) (acc.map λb=>.lst (b.map D.str))
 | [],[],_,_,_=>.nil
 | b::bs,l::acc,e,h,k=>.cons (.lst (.inl (h (b,l) (by simp))) (u3L (k l (by simp)))) (u7H (by simpa using e) (λx m=>h x (by simp[m])) λy m=>k y (by simp[m]))
def Bd.stp {G H H':Hp}{p b:Addr}{bs0:List Addr}{acc0:List (List Str)}{l:List Str} (B:Bd H H' p bs0 b acc0 l) (fh:Same G H) (K:W.Frag) (k:∀l'∈acc0++[l],∀z∈l',z.length<=sizeLine) :
  ∃F',Stp G H F' H'/\Rp K F' (.ref p) (.lst ((acc0++[l]).map λb=>.lst (b.map D.str))):=by
 have hn:∀x,(x=p\/x∈bs0++[b])->H x=none:=λx h=>by
  rcases h with rfl|h
  ·exact B.fp
  ·exact B.fb x h
 refine⟨λx=>if x=p\/x∈bs0++[b] then H' x else G x,⟨λx o e=>?_,λx o e=>?_,B.sm,λx e1 e2=>?_⟩,.lst (.inl ?_) (u7H (bs:=bs0++[b]) (by simp[B.hl]) (λx m=>?_) k)⟩
 ·have:¬ (x=p\/x∈bs0++[b]):=fun h=>by have:=hn x h;rw [fh x o e] at this;cases this
  show(if x=p\/x∈bs0++[b] then H' x else G x)=_
  rw[if_neg this];exact e
 ·by_cases h:x=p\/x∈bs0++[b]
  ·rw[if_pos h] at e;exact e
  ·rw[if_neg h] at e;exact B.sm x o (fh x o e)
 ·have:¬ (x=p\/x∈bs0++[b]):=fun h=>e2 (hn x h)
  show(if x=p\/x∈bs0++[b] then H' x else G x)=_
  rw[if_neg this];exact e1
 ·show (if p=p\/p∈bs0++[b] then H' p else G p)=_
  rw[if_pos (Or.inl rfl)];exact B.hp
 ·have hx:=(List.of_mem_zip m).1
  show(if x.1=p\/x.1∈bs0++[b] then H' x.1 else G x.1)=_
  rw[if_pos (Or.inr hx)]
  rw[List.zip_append B.hl] at m
  rcases x9.1 m with m|m
  ·exact B.hz x m
  ·simp at m;subst m;exact B.hb
abbrev u3v:Stmt:=top 44
def u2L:FnScope ["words","bodies","word"] ["words"] (defScope u3v):=⟨rfl,rfl,rfl,by decide +kernel,rfl,by decide +kernel,by decide +kernel⟩
noncomputable def bodD:List D->Res D
 | [.lst xs]=>match strsOf xs with
  | some ws=>gd (ws.length<sizeLine) (.ok (.lst ((splitL ("|":Str) ws).map λb=>.lst (b.map D.str))))
  | none=>.bad
 | _=>.bad
section
variable {P:Program}{w:World}{K:W.Frag}{mg:MG}{base:Heap}{f:Addr}{fd:FuncData}{A:Adr}
set_option tactic.hygienic true in
def u7V (F:Fun K "bodies_in" "bodies_in" u3v f fd) (T:Txt K mg A):FnOk P w K mg base CX0 1 f fd ["words"] (spF K bodD):=by
 obtain⟨vo,go,ro⟩:=T.g_OR
 have eo:vo=.str "|":=by
  have:=ro (λ_=>none)
  cases this
  rfl
 subst eo
 refine F.okJ u2L (λvs H Q E h=>?_) (λcdv Ar outer s H vs Q E hr h=>?_)
 ·obtain ⟨G,ds,fh,r,q⟩:=h
  rw[r.length]
  unfold bodD at q
  split at q
  ·rfl
  ·exact q.elim
 refine⟨_,v4J (s_n u2L.nd (v1u (v4M (v1u v1B) v1B))) (v4J (s_for rfl (v4B (ev 0)) (g_n u2L.nd) (u8G (s_if (t_cmp op_eq (ev 2) (e_glo go)) (u8G (u9J (e_app (ev 1) (v1u v1B)))) (u8G (u9J (e_app (e_ix u9t (ev 1) (e_un v4m e_int)) (ev 2))))))) (u8G (s_ret (ev 1)))),?_⟩
 refine bc λhZ=>?_
 obtain⟨G,ds,fh,r,q⟩:=h
 have hd:∃xs ws,ds=[.lst xs]/\strsOf xs=some ws/\ws.length<sizeLine/\∀v F' H',Stp G H F' H'->Rp K F' v (.lst ((splitL ("|":Str) ws).map λb=>.lst (b.map D.str)))->Q v H':=by
  unfold bodD at q
  split at q
  ·next xs =>
   split at q
   ·next ws e =>
    by_cases hz:ws.length<sizeLine
    ·rw[u0w hz] at q;exact⟨xs,ws,rfl,e,hz,q⟩
    ·unfold gd at q;rw[if_neg hz] at q;exact q.elim
   ·exact q.elim
  ·exact q.elim
 obtain⟨xs,ws,rfl,e,hz,q⟩:=hd
 refine hZ ?_
 cases r with
 | cons r1 r2 =>
  cases r2
  cases r1 with
  | @lst a zs _ hq rs =>
   obtain⟨rfl,hlen⟩:=u2J rs e
   have hq':Rd H a (.lst (ws.map V.str)):=hq.same fh
   refine⟨z1H _,λp0 n0=>⟨by show 1<=sizeLine;decide,λp n=>?_⟩⟩
   have hap:∀i acc0 l,acc0++[l]=(ws.take i).foldl (stepB "|") [[]]->acc0.length<=i/\l.length<=i/\acc0++[l]=splitL ("|":Str) (ws.take i):=by
    intro i acc0 l h
    rw[v0j] at h
    have h1:=u1i ("|":Str) (ws.take i)
    have h2:=u2l ("|":Str) (ws.take i) l (by rw[<- h];simp)
    have h3:(ws.take i).length<=i:=by simp;omega
    rw[<- h] at h1
    simp at h1
    exact⟨by omega,by omega,h⟩
   refine⟨.ref a,rfl,a,rfl,⟨_,.inl (hq'.same (Bd.begin n0 n).sm)⟩,v0g (xs:=ws.map V.str) (λi σ' H'=>∃wd,σ'=[some (.ref a),some (.ref p),wd]/\∃bs0 b acc0 l,acc0++[l]=(ws.take i).foldl (stepB "|") [[]]/\Bd H H' p bs0 b acc0 l) ⟨none,rfl,[],p0,[],[],rfl,Bd.begin n0 n⟩ ?_ ?_ ?_⟩
   ·intro i σ' H' hi hY
    refine bc λhZ=>?_
    obtain⟨wd,rfl,bs0,b,acc0,l,e1,B⟩:=hY
    refine hZ ?_
    exact .inl (hq'.same B.sm)
   ·intro i x σ' H' hx hY
    refine bc λhZ=>?_
    obtain⟨wd,rfl,bs0,b,acc0,l,e1,B⟩:=hY
    obtain⟨z,hw,rfl⟩:∃z,ws[i]?=some z/\V.str z=x:=by simpa using hx
    refine hZ ?_
    have hi:i<ws.length:=(u7.mp hw).1
    obtain⟨b1,b2,b3⟩:=hap i acc0 l e1
    have e2:(ws.take (i+1)).foldl (stepB "|") [[]]=stepB "|" (acc0++[l]) z:=by
     rw[List.take_succ,hw,List.foldl_append,<- e1];rfl
    refine⟨.str z,rfl,rfl,_,rfl,?_⟩
    show(if decide (V.str z=V.str "|")=true then _ else _)
    by_cases hc:z="|"
    ·rw [if_pos (by rw [hc];exact decide_eq_true rfl)]
     refine⟨.ref p,rfl,.inl ⟨rfl,_,.inl (.inl B.hp)⟩,z1H _,λq nq=>⟨p,_,_,rfl,rfl,?_,?_,_,rfl,_,_,_,_,?_,B.new nq⟩⟩
     ·have:p≠q:=fun h=>by subst h;rw [B.hp] at nq;cases nq
      rw[u0o this];exact B.hp
     ·simp[B.hl];omega
     ·rw[e2];simp[stepB,hc]
    ·rw [if_neg (by simpa using hc)]
     refine⟨.ref p,rfl,1,rfl,p,_,-1,.ref b,rfl,rfl,.inl (.inl B.hp),by rw[z0H];exact v0z _ _,.inl ⟨rfl,_,.inl (.inl B.hb)⟩,.str z,rfl,b,_,_,rfl,rfl,B.hb,by simp;omega,_,rfl,_,_,_,_,?_,B.app z⟩
     rw[e2];simp[stepB,hc]
   ·intro σ' H' hY
    refine bc λhZ=>?_
    obtain⟨wd,rfl,bs0,b,acc0,l,e1,B⟩:=hY
    obtain⟨b1,b2,b3⟩:=hap _ acc0 l e1
    rw[v6,List.take_length] at b3
    obtain⟨F',st,rp⟩:=B.stp fh K (λl' m z hz=>hlen z (u1P ("|":Str) ws l' (by rw[<- b3];exact m) z hz))
    refine hZ ?_
    exact⟨.ref p,rfl,q _ F' _ st (by rw[<- b3];exact rp)⟩
end
end K08
namespace L2
open PySem KW PySem.Spec PyProof.Rows
def Rel.forget {K:W.Frag}{B:Hp×Hp}{ρ:Rho}{σ:St}{F H:Hp}{i:Nat} (x:Option V) (r:Rel K B ρ σ F H):Rel K B (ρ.set i none) (σ.set i x) F H where
 st:=r.st
 len:=by simp[r.len]
 val j d e:=by
  by_cases h:i=j
  ·subst h;rw[z2G] at e;split at e<;>(try split at e)<;>simp_all
  ·rw[z0C h] at e |-;exact r.val j d e
 own j o e:=by
  by_cases h:i=j
  ·subst h;rw[z2G] at e;split at e<;>(try split at e)<;>simp_all
  ·rw[z0C h] at e |-;exact r.own j o e
 dis j k o u a e1 e2 e3 e4:=by
  have n1:i≠j:=by rintro rfl;rw[z2G] at e1;split at e1<;>(try split at e1)<;>simp_all
  have n2:i≠k:=by rintro rfl;rw[z2G] at e2;split at e2<;>(try split at e2)<;>simp_all
  rw[z0C n1] at e1 e3
  rw[z0C n2] at e2 e4
  exact r.dis j k o u a e1 e2 e3 e4
def v3r {α:Type} (l:List α) (w:Nat) (d:α):∃x,l.set w x=l:=by
 by_cases h:w<l.length
 ·exact⟨l[w],List.set_getElem_self h⟩
 ·exact⟨d,List.set_eq_of_length_le (by omega)⟩
end L2
namespace K08
open PySem L2 KW PySem.Spec PyProof.Rows
noncomputable def bodS (l b w:Nat) (ρ:Rho):Out:=match ρ[l]? with
 | some (some (.val (.lst xs)))=>match strsOf xs with
  | some ws=>if ws.length<sizeLine then .nx ((ρ.set b (some (.val (.lst ((splitL ("|":Str) ws).map λb=>.lst (b.map D.str)))))).set w none) else .bad
  | none=>.bad
 | _=>.bad
abbrev bodT (K:W.Frag) (b w:Nat):TS:=tIfS (tTest (tOp rEq (tVar w) (tC (.str "|")))) (tDrop (tBM K "list" rAppend (tVar b) (tCons (tLst tNil) tNil))) (tDrop (tBM K "list" rAppend (tOp (rIxL K) (tVar b) (tUn (rU λi=>.int (-i)) (tC (.int 1)))) (tCons (tVar w) tNil)))
set_option tactic.hygienic true in
def db_bod {X:Cx}{xq:XQ}{s1 s2:Stmt}{sts:List Stmt}{g:Rho->Out}{l b w:Nat} (n1:l≠b) (n2:l≠w) (n3:b≠w) (hb:b<X.N.length) (hw:w<X.N.length)
  (hs1:JS X s1 (tAsg (tLst (tCons (tLst tNil) tNil)) (gName b)))
  (hs2:JS X s2 (tFor (iList X.K (tVar l)) (gName w) (bodT X.K b w)))
  (h:DB X xq sts g):DB X xq (s1::s2::sts) (λρ=>(bodS l b w ρ).andThen g) :=
 ⟨λpins s σ H T I z9=>un5 z9 λB F ρ R q=>u4S hs1.out (u4S hs2.out h.out) pins s σ H T I (by
  have hlen:σ.length=X.N.length:=I.len
  have hd:∃xs ws,ρ[l]?=some (some (.val (.lst xs)))/\strsOf xs=some ws/\ws.length<sizeLine/\OkS X.K xq B T (g ((ρ.set b (some (.val (.lst ((splitL ("|":Str) ws).map λb=>.lst (b.map D.str)))))).set w none)):=by
   have q:=q.out
   dsimp only at q
   unfold bodS at q
   split at q
   ·next xs e =>
    split at q
    ·next ws e2 =>
     by_cases hz:ws.length<sizeLine
     ·rw[if_pos hz] at q;exact⟨xs,ws,e,e2,hz,⟨q⟩⟩
     ·rw[if_neg hz] at q;exact q.elim
    ·exact q.elim
   ·exact q.elim
  refine bc λhZ=>?_
  obtain⟨xs,ws,e0,e,hz,q⟩:=hd
  obtain⟨v,ev,rv⟩:=R.val l _ e0
  refine hZ ?_
  cases rv with
  | @lst a zs _ hq rs =>
   obtain⟨rfl,hlen2⟩:=u2J rs e
   have hq':Rd H a (.lst (ws.map V.str)):=hq.same R.fh
   refine⟨z1H _,λp0 m0=>⟨by show 1<=sizeLine;decide,λp m=>?_⟩⟩
   have hap:∀i acc0 l,acc0++[l]=(ws.take i).foldl (stepB "|") [[]]->acc0.length<=i/\l.length<=i/\acc0++[l]=splitL ("|":Str) (ws.take i):=by
    intro i acc0 l h
    rw[v0j] at h
    have h1:=u1i ("|":Str) (ws.take i)
    have h2:=u2l ("|":Str) (ws.take i) l (by rw[<- h];simp)
    have h3:(ws.take i).length<=i:=by simp;omega
    rw[<- h] at h1
    simp at h1
    exact⟨by omega,by omega,h⟩
   have sl:∀x,((σ.set b (some (.ref p))).set w x)[l]?=some (some (.ref a)):=λx=>by
    rw[z0C (Ne.symm n2),z0C (Ne.symm n1)];exact ev
   have sb:∀x,((σ.set b (some (.ref p))).set w x)[b]?=some (some (.ref p)):=λx=>by
    rw[z0C (Ne.symm n3),z2A (by omega)]
   have sw:∀x,((σ.set b (some (.ref p))).set w x)[w]?=some x:=λx=>by
    rw[z2A (by simp;omega)]
   obtain⟨x0,hx0⟩:=v3r (σ.set b (some (.ref p))) w none
   suffices hz:tFor (iList X.K (tVar l)) (gName w) (bodT X.K b w) { T with nx:=liftS X.K xq g T } (σ.set b (some (.ref p))) (upd (upd H p0 (.lst [])) p (.lst [.ref p0])) from hz
   rw[<- hx0]
   refine⟨.ref a,sl _,a,rfl,⟨_,.inl (hq'.same (Bd.begin m0 m).sm)⟩,v0g (xs:=ws.map V.str) (λi σ' H'=>∃wd,σ'=(σ.set b (some (.ref p))).set w wd/\∃bs0 b acc0 l,acc0++[l]=(ws.take i).foldl (stepB "|") [[]]/\Bd H H' p bs0 b acc0 l) ⟨x0,rfl,[],p0,[],[],rfl,Bd.begin m0 m⟩ ?_ ?_ ?_⟩
   ·intro i σ' H' hi hY
    refine bc λhZ=>?_
    obtain⟨wd,rfl,bs0,b0,acc0,l0,e1,Bb⟩:=hY
    refine hZ ?_
    exact .inl (hq'.same Bb.sm)
   ·intro i x σ' H' hx hY
    refine bc λhZ=>?_
    obtain⟨wd,rfl,bs0,b0,acc0,l0,e1,Bb⟩:=hY
    obtain⟨z,hw,rfl⟩:∃z,ws[i]?=some z/\V.str z=x:=by simpa using hx
    refine hZ ?_
    have hi:i<ws.length:=(u7.mp hw).1
    obtain⟨b1,b2,b3⟩:=hap i acc0 l0 e1
    have e2:(ws.take (i+1)).foldl (stepB "|") [[]]=stepB "|" (acc0++[l0]) z:=by
     rw[List.take_succ,hw,List.foldl_append,<- e1];rfl
    show tIfS _ _ _ _ (((σ.set b (some (.ref p))).set w wd).set w (some (.str z))) _
    rw[List.set_set]
    refine⟨.str z,sw _,rfl,_,rfl,?_⟩
    show(if decide (V.str z=V.str "|")=true then _ else _)
    by_cases hc:z="|"
    ·rw [if_pos (by rw [hc];exact decide_eq_true rfl)]
     refine⟨.ref p,sb _,.inl ⟨rfl,_,.inl (.inl Bb.hp)⟩,z1H _,λq nq=>⟨p,_,_,rfl,rfl,?_,?_,_,rfl,_,_,_,_,?_,Bb.new nq⟩⟩
     ·have:p≠q:=fun h=>by subst h;rw [Bb.hp] at nq;cases nq
      rw[u0o this];exact Bb.hp
     ·simp[Bb.hl];omega
     ·rw[e2];simp[stepB,hc]
    ·rw [if_neg (by simpa using hc)]
     refine⟨.ref p,sb _,1,rfl,p,_,-1,.ref b0,rfl,rfl,.inl (.inl Bb.hp),by rw[z0H];exact v0z _ _,.inl ⟨rfl,_,.inl (.inl Bb.hb)⟩,.str z,sw _,b0,_,_,rfl,rfl,Bb.hb,by simp;omega,_,rfl,_,_,_,_,?_,Bb.app z⟩
     rw[e2];simp[stepB,hc]
   ·intro σ' H' hY
    refine bc λhZ=>?_
    obtain⟨wd,rfl,bs0,b0,acc0,l0,e1,Bb⟩:=hY
    obtain⟨b1,b2,b3⟩:=hap _ acc0 l0 e1
    rw[v6,List.take_length] at b3
    obtain⟨F',st,rp⟩:=Bb.stp R.fh X.K (λl' m z hz=>hlen2 z (u1P ("|":Str) ws l' (by rw[<- b3];exact m) z hz))
    refine hZ ?_
    rw[b3] at rp
    exact⟨B,F',_,((R.step st).set rp).forget wd,q⟩)⟩
noncomputable def BL:Str:=" "
noncomputable def LF:Str:="\n"
def u4c {a b:Str} (h:a.cps.toList=b.cps.toList):a=b:=by
 obtain⟨a⟩:=a
 obtain⟨b⟩:=b
 congr
 exact Array.ext' h
def u4q (a b:Str):(a++b).cps.toList=a.cps.toList++b.cps.toList:=Array.toList_append
def u2A (z:Str) (y:Str) (ys:List Str):(Txt.join z (y::ys)).cps.toList=y.cps.toList++ys.flatMap λp=>z.cps.toList++p.cps.toList:=by
 have key:∀(l:List Str) (acc:Array Nat),(l.foldl (λacc (p:Str)=>acc++z.cps++p.cps) acc).toList=acc.toList++l.flatMap λp=>z.cps.toList++p.cps.toList:=by
  intro l
  induction l with
  | nil=>intro acc;simp
  | cons p l ih=>intro acc;rw[z1J,ih,List.flatMap_cons];simp
 show(List.foldl _ _ _:Array Nat).toList=_
 rw[key]
 rfl
def u4T (z y:Str):Txt.join z [y]=y:=u4c (by rw[u2A];simp)
def u3O (z y x:Str) (ys:List Str):Txt.join z (y::x::ys)=y++z++Txt.join z (x::ys):=u4c (by
 rw[u2A,u4q,u4q,u2A]
 simp)
theorem u8m (c:Nat):∀(w:List Nat) (ws:List (List Nat)),glue c (w::ws)=w++ws.flatMap λp=>c::p
 | w,[]=>by simp[glue]
 | w,v::r=>by rw[glue,u8m c v r];simp
def u5b {c:Nat}{ys:List Str} (h:ys≠[]) (k:∀y∈ys,c∉y.cps.toList):splitS c (Txt.join ⟨#[c]⟩ ys)=ys:=by
 match ys,h with
 | y::ys,_ =>
  have e:(Txt.join ⟨#[c]⟩ (y::ys)).cps.toList=glue c ((y::ys).map λp=>p.cps.toList):=by
   rw[u2A,w5,u8m,List.flatMap_map]
   rfl
  unfold splitS
  rw[e,u5c c _ (by simp) (λw hw=>by
   obtain⟨p,hp,rfl⟩:=w6.mp hw
   exact k p hp),z2J]
  refine(List.map_congr_left λp _=>?_).trans (List.map_id _)
  exact u4c (by simp)
def u9s (z:Str) {ws:List Str} (h:ws≠[]) (y:Str):Txt.join z (y::ws)=y++z++Txt.join z ws:=by
 match ws,h with
 | x::ws,_=>exact u3O z y x ws
theorem u1o {α:Type} (c h:α->D) {g:D->Rho->Res Rho}{fT:Rho->Res Bool}{fe:Rho->Res D}{ρ:Rho}:∀{xs:List α},(∀x∈xs,∃ρ1,g (c x) ρ=.ok ρ1/\fT (frz ρ1)=.ok true/\fe ρ1=.ok (h x))->compD g fT fe ρ (xs.map c)=.ok (xs.map h)
 | [],_=>rfl
 | d::ds,k=>by
  obtain⟨ρ1,k1,k2,k3⟩:=k d z6
  simp[compD,k1,k2,k3,u1o c h λx hx=>k x (z0 _ hx)]
def bod_ok (ws:List Str) (h:ws.length<=1000):bodD [dS ws]=.ok (.lst ((splitL ("|":Str) ws).map λ(b:List Str)=>D.lst (b.map D.str))):=by
 show(match strsOf (ws.map D.str) with|some ws=>gd (ws.length<sizeLine) (Res.ok (D.lst ((splitL ("|":Str) ws).map λ(b:List Str)=>D.lst (b.map D.str))))|none=>.bad)=_
 rw[u2k]
 exact u0w (z0A h (by decide))
abbrev GWs (ws:List Str):Prop:=∀x∈ws,goodS x=true
def tilde:goodS "~"=true/\goodS ":"=true/\goodS "|"=true:=by decide +kernel
def u3Y {ws:List Str} (h:GWs ws):cmpD (dS ws)=.ok (.list (ws.map PyData.str)):=by
 have e:(dS ws).py=some (.list (ws.map PyData.str)):=by simp[dS,D.py,u4R]
 have s:SeqAt.shaped (.list (ws.map PyData.str))=true:=by
  have d:=u3U ws
  simp[SeqAt.shaped,PyData.canLay0,u3N h,PyData.depth]
  omega
 unfold cmpD
 rw[e]
 simp[s]
def v0m {ws vs:List Str} (h:GWs ws) (k:GWs vs):dEq (dS ws) (dS vs)=.ok (.bl (decide (ws=vs))):=by
 unfold dEq
 rw[u3Y h,u3Y k]
 show Res.ok (D.bl (PyData.eqvAll _ _))=_
 rw[u2C]
def u7j {ws:List Str} (h:GWs ws):dEq (dS ws) (.lst [.str "~"])=.ok (.bl (decide (ws=(["~"]:List Str)))):=v0m (vs:=["~"]) h λb hb=>by rw[y6.mp hb];exact tilde.1
def es8 {a b:Str} (h:goodS a=true) (k:goodS b=true):dEq (.str a) (.str b)=.ok (.bl (a==b)):=by
 have h1:=(u2c (z:=a) h).1
 have h2:=(u2c (z:=b) k).1
 simp[dEq,u1l h1,u1l h2,u2V]
def ns8 {a b:Str} (h:goodS a=true) (k:goodS b=true):dNe (.str a) (.str b)=.ok (.bl (!(a==b))):=by
 have h1:=(u2c (z:=a) h).1
 have h2:=(u2c (z:=b) k).1
 simp[dNe,u1l h1,u1l h2,u2V]
def cut_1 {α:Type} (x:α) (xs:List α):cutC (x::xs) (some 1) none=xs:=by
 unfold cutC
 rw[show(some (1:Int))=some ((1:Nat):Int) from rfl,HT.sIx_nat,HT.sIx_none]
 simp
def cut_2 {α:Type} (x y:α) (xs:List α):cutC (x::y::xs) (some 2) none=xs:=by
 unfold cutC
 rw[show(some (2:Int))=some ((2:Nat):Int) from rfl,HT.sIx_nat,HT.sIx_none]
 simp
noncomputable def symS (z:Str):Bool:=sgnS z||hdS z
def sym_is (z:Str):symD (.str z)=symS z:=rfl
noncomputable def bodyF (b:List Str):Bool:=decide (b=(["~"]:List Str))||(decide (b≠[])&&b.all symS)
noncomputable def bodyBy (b:List Str):List Str:=if b=(["~"]:List Str) then [] else b
noncomputable def rankF:List Str->Bool
 | z::r=>decide (r≠[])&&(sideD (.str z)&&r.all sgnS)
 | []=>false
noncomputable def rulesF:List Str->Bool
 | h::c::r=>hdS h&&(decide (c=(":":Str))&&(splitL ("|":Str) r).all bodyF)
 | _=>false
structure Wd (ws:List Str):Prop where
 g:GWs ws
 l:ws.length<=1000
abbrev BodyF (G:FD):Prop:=∀b,Wd b->G [dS b]=.ok (.bl (bodyF b))
abbrev BodyB (G:FD):Prop:=∀b,Wd b->G [dS b]=.ok (.tup ((bodyBy b).map D.str))
abbrev RankF (G:FD):Prop:=∀ws,Wd ws->ws≠[]->G [dS ws]=.ok (.bl (rankF ws))
abbrev RulesF (G:FD):Prop:=∀ws,Wd ws->G [dS ws]=.ok (.bl (rulesF ws))
abbrev Bods (G:FD):Prop:=∀ws:List Str,ws.length<=1000->G [dS ws]=.ok (.lst ((splitL ("|":Str) ws).map λ(b:List Str)=>D.lst (b.map D.str)))
def Wd.tail {x:Str}{ws:List Str} (h:Wd (x::ws)):Wd ws:=⟨λy m=>h.g y (z0 _ m),by have:=h.l;simp at this;omega⟩
def Wd.part {ws:List Str} (h:Wd ws) {b:List Str} (m:b∈splitL ("|":Str) ws):Wd b:=⟨λy k=>h.g y (u1P _ ws b m y k),v5 (u2l _ ws b m) h.l⟩
def Wd.many {ws:List Str} (h:Wd ws):(splitL ("|":Str) ws).length<=1001:=v5 (u1i _ ws) (by have:=h.l;omega)
def line1 {n:Nat} (h:n<=1001):n<=sizeLine:=v5 h (by decide)
section
variable {P:Program}{w:World}{K:W.Frag}{mg:MG}{base:Heap}{f:Addr}{fd:FuncData}{A:Adr}
def u4N {a0v:FD} (a1t:Callee P w K mg base 3 "is_symbol" ["thing"] (spF K a0v)) (a1s:P1 symD a0v) (F:Fun K "has_body_form" "has_body_form" u1v f fd) (T:Txt K mg A):∃G,FnOk P w K mg base CX0 4 f fd ["words"] (spF K G)/\BodyF G:=by
 refine⟨_,F.okT (k:=3) u4G (λcdv Ar outer s H E hr=>u0e (u0g (d_or (u2I (o_eq (hu64 hr)) (dv 0) (u0F (u0a (u3W T.g_EMPTY) u0b))) (u3D (u2s (u2I o_gt (d_B u0L T.z_len (by decide +kernel) (u0a (dv 0) u0b)) u0c) (u3D (d_B (v1y rfl) T.z_all (by decide +kernel) (u0a (DN.de (u0T ["word"] [] rfl (u0q (sc:=defScope u1v) (N:=["words"]) (by decide +kernel)) (u0A (dv 0)) (dg_n (show(["word"]:List Str).Nodup by decide +kernel)) u1A (d_fn a1t hr (u0a (dv 0) u0b)))) u0b)))))))),?_⟩
 intro b h
 have e1:=u7j h.g
 by_cases e:b=(["~"]:List Str)
 ·subst e
  rw[decide_eq_true rfl] at e1
  simp[runT,startD,e1,bodyF]
 ·rw [decide_eq_false e] at e1
  by_cases z:b=[]
  ·subst z
   simp[runT,startD,e1,bodyF]
  ·have l0:0<b.length:=z2D.mpr z
   simp[runT,startD,e1,l0]
   rw[u0w (u0S (by have:=h.l;simp;omega)),u1o D.str (λx=>D.bl (symS x)) (λx hx=>?_)]
   ·simp[u4U,bodyF,e,z]
   ·have es:=a1s (.str x) (h.g x hx)
    rw[sym_is] at es
    exact⟨_,rfl,rfl,by simp[rhoC,es]⟩
def v1e (F:Fun K "body_by" "body_by" u5o f fd) (T:Txt K mg A):∃G,FnOk P w K mg base CX0 1 f fd ["words"] (spF K G)/\BodyB G:=by
 refine⟨_,F.okT (k:=0) v0R (λcdv Ar outer s H E hr=>u0e (u0g (d_ife (u0m (o_eq (hu64 hr)) (dv 0) (u0F (u0a (u3W T.g_EMPTY) u0b))) (u0h u0b) (d_T u1C T.z_tuple (by decide +kernel) (u0a (dv 0) u0b))))),?_⟩
 intro b h
 have e1:=u7j h.g
 by_cases e:b=(["~"]:List Str)
 ·subst e
  rw[decide_eq_true rfl] at e1
  simp[runT,startD,e1,bodyBy]
 ·rw [decide_eq_false e] at e1
  have g1:gTuple [dS b]=.ok (.tup (b.map D.str)):=rfl
  simp[runT,startD,e1,g1,bodyBy,e]
def u4M {a1m:FD} (a2v:Callee P w K mg base 1 "is_side" ["thing"] (spF K a1m)) {a0i:FD} (a0q:Callee P w K mg base 2 "is_sign" ["thing"] (spF K a0i)) (a2r:P1 sideD a1m) (a0g:P1 sgnD a0i) (F:Fun K "has_rank_form" "has_rank_form" u1u f fd) (T:Txt K mg A):∃G,FnOk P w K mg base CX0 3 f fd ["words"] (spF K G)/\RankF G:=by
 refine⟨_,F.okT (k:=2) u4F (λcdv Ar outer s H E hr=>u0e (u0g (u2s (u2I o_gt (d_B u0L T.z_len (by decide +kernel) (u0a (dv 0) u0b)) u0c) (u2s (d_fn a2v hr (u0a (d_ix x_ix (dv 0) u0c) u0b)) (u3D (d_B (v1y rfl) T.z_all (by decide +kernel) (u0a (DN.de (u0T ["word"] [] rfl (u0q (sc:=defScope u1u) (N:=["words"]) (by decide +kernel)) (u0A (d_sl (dv 0) (u0t u0c) u0x)) (dg_n (show(["word"]:List Str).Nodup by decide +kernel)) u1A (d_fn a0q hr (u0a (dv 0) u0b)))) u0b))))))),?_⟩
 intro ws h hn
 match ws,hn with
 | z::r,_ =>
  have e1:=a2r (.str z) (h.g z (by simp))
  have x0:dIx (dS (z::r)) (.int 0)=.ok (.str z):=u6d _ _
  by_cases hr:r=[]
  ·subst hr
   have l0:¬ (1:Int)<(([z]:List Str).length:Int):=by simp
   simp[runT,startD,l0,rankF]
  ·have l0:(1:Int)<(r.length:Int)+1:=by have:=z2D.mpr hr;omega
   have s1:dSl (dS (z::r)) (some 1) none=.ok (dS r):=by
    show Res.ok (D.lst (cutC (D.str z::r.map D.str) (some 1) none))=_
    rw[cut_1]
   cases sd:sideD (.str z) with
   | false=>rw[sd] at e1;simp[runT,startD,l0,x0,e1,rankF,sd]
   | true =>
    rw[sd] at e1
    simp[runT,startD,l0,x0,e1,s1,asI]
    rw[u0w (u0S (by have:=h.l;simp at this |-;omega)),u1o D.str (λx=>D.bl (sgnS x)) (λx hx=>?_)]
    ·simp[u4U,rankF,hr,sd]
    ·have es:=a0g (.str x) (h.g x (z0 _ hx))
     rw[show sgnD (.str x)=sgnS x from rfl] at es
     exact⟨_,rfl,rfl,by simp[rhoC,es]⟩
def u4l {a0k:FD} (a0s:Callee P w K mg base 2 "is_head" ["thing"] (spF K a0k)) {a0w:FD} (a2z:Callee P w K mg base 4 "has_body_form" ["words"] (spF K a0w)) {a0x:FD} (a1u:Callee P w K mg base 1 "bodies_in" ["words"] (spF K a0x)) (a0h:P1 hdD a0k) (a5m:BodyF a0w) (a1x:Bods a0x) (F:Fun K "has_rules_form" "has_rules_form" u1h f fd) (T:Txt K mg A):∃G,FnOk P w K mg base CX0 5 f fd ["words"] (spF K G)/\RulesF G:=by
 refine⟨_,F.okT (k:=4) u4e (λcdv Ar outer s H E hr=>u0d (u0v (dt_w (u3l (u0m o_lt (d_B u0L T.z_len (by decide +kernel) (u0a (dv 0) u0b)) u0c) (u3l (u0J (u0I (d_fn a0s hr (u0a (d_ix x_ix (dv 0) u0c) u0b)))) (u2G (u0m (o_ne (hu64 hr)) (d_ix x_ix (dv 0) u0c) (u3W T.g_IS)))))) (u0e (u0g d_bl)) u0n)
  (u0e (u0g (d_B (v1y rfl) T.z_all (by decide +kernel) (u0a (DN.de (u0T ["body"] [] rfl (u0q (sc:=defScope u1h) (N:=["words"]) (by decide +kernel)) (u0A (d_fn a1u hr (u0a (d_sl (dv 0) (u0t u0c) u0x) u0b))) (dg_n (show(["body"]:List Str).Nodup by decide +kernel)) u1A (d_fn a2z hr (u0a (dv 0) u0b)))) u0b))))),?_⟩
 intro ws h
 match ws,h with
 | [],_=>simp[runT,startD,rulesF]
 | [x],_=>simp[runT,startD,rulesF]
 | z::c::r,h =>
  have e1:=a0h (.str z) (h.g z (by simp))
  have x0:dIx (dS (z::c::r)) (.int 0)=.ok (.str z):=u6d _ _
  have x1:dIx (dS (z::c::r)) (.int 1)=.ok (.str c):=v1o _ _ _
  have l0:¬ ((r.length:Int)+1+1<2):=by omega
  rw[show hdD (.str z)=hdS z from rfl] at e1
  cases hz:hdS z with
  | false=>rw[hz] at e1;simp[runT,startD,l0,x0,e1,rulesF,hz]
  | true =>
   rw[hz] at e1
   have n1:=ns8 (h.g c (by simp)) tilde.2.1
   by_cases hc:c=(":":Str)
   ·have hb:(c==(":":Str))=true:=by rw [hc];exact beq_self_eq_true _
    rw[hb] at n1
    have s1:dSl (dS (z::c::r)) (some 2) none=.ok (dS r):=by
     show Res.ok (D.lst (cutC (D.str z::D.str c::r.map D.str) (some 2) none))=_
     rw[cut_2]
    have hr:Wd r:=h.tail.tail
    have b1:=a1x r hr.l
    simp[runT,startD,l0,x0,e1,x1,n1,s1,asI,b1]
    rw[u0w (line1 (by have:=hr.many;simp;omega)),u1o (λ(b:List Str)=>D.lst (b.map D.str)) (λb=>D.bl (bodyF b)) (λb hb=>?_)]
    ·simp[u4U,rulesF,hz,hc]
    ·have e2:a0w [.lst (b.map D.str)]=.ok (.bl (bodyF b)):=a5m b (hr.part hb)
     exact⟨_,rfl,rfl,by simp[rhoC,e2]⟩
   ·have hb:(c==(":":Str))=false:=beq_eq_false_iff_ne.mpr hc
    rw[hb] at n1
    simp[runT,startD,l0,x0,e1,x1,n1,rulesF,hc]
end
theorem u6i {n:Nat}:∀{ws:List Str},(∀x∈ws,x.length<=n)->(ws.map (·.length)).sum<=ws.length*n
 | [],_=>by simp
 | w::ws,h=>by
  have h1:=h w (by simp)
  have h2:=u6i (n:=n) (ws:=ws) λx m=>h x (z0 _ m)
  rw[w5,List.sum_cons,u9,Nat.add_mul]
  omega
def u9X {z:Str}{ws:List Str}{n m:Nat} (h:∀x∈ws,x.length<=n) (hz:z.length=1) (hm:ws.length<=m) (hs:m*n+m<=16777216):joinL z (ws.map D.str)=.ok (.str (Txt.join z ws)):=by
 unfold joinL
 rw[u2k]
 have h1:=u6i h
 have h2:ws.length*n<=m*n:=Nat.mul_le_mul_right n hm
 exact u0w (by rw[hz];omega)
def v4a {x:Str} (h:goodS x=true):x.length<=1000:=(u2c (z:=x) h).2
def noB (z:Str):Prop:=32∉z.cps.toList/\10∉z.cps.toList
def u9n {z a:Str}{c:Nat} (h:onlyS z a=true) (k:inS ⟨#[c]⟩ a=false):c∉z.cps.toList:=λm=>by
 unfold onlyS at h
 have:=z2F.mp h c m
 rw[k] at this;cases this
def v1q:inS ⟨#[32]⟩ signT=false/\inS ⟨#[10]⟩ signT=false/\inS ⟨#[32]⟩ greatT=false/\inS ⟨#[10]⟩ greatT=false/\inS ⟨#[32]⟩ smallT=false/\inS ⟨#[10]⟩ smallT=false:=by decide +kernel
def sg_no {z:Str} (h:sgnS z=true):noB z:=by
 have:=(s9.mp h).2
 exact⟨u9n this v1q.1,u9n this v1q.2.1⟩
def hd_no {z:Str} (h:hdS z=true):noB z:=by
 have h:=(s9.mp h).2
 obtain⟨h1,h2⟩:=s9.mp h
 have key:∀c,inS ⟨#[c]⟩ greatT=false->inS ⟨#[c]⟩ smallT=false->c∉z.cps.toList:=by
  intro c g s m
  have ht:(tailC z).cps.toList=z.cps.toList.drop 1:=by
   unfold tailC
   rw[u6l]
  cases e:z.cps.toList with
  | nil=>rw[e] at m;cases m
  | cons a l =>
   have f1:fstC z=⟨#[a]⟩:=by
    unfold fstC
    rw[show z.cps.getD 0 0=a by rw[Array.getD_eq_getD_getElem?,<- z1F,e];rfl]
   rw[e] at m ht
   rcases z8.mp m with rfl|m
   ·rw[f1,g] at h1;cases h1
   ·exact u9n h2 s (by rw[ht];simpa using m)
 exact⟨key 32 v1q.2.2.1 v1q.2.2.2.2.1,key 10 v1q.2.2.2.1 v1q.2.2.2.2.2⟩
structure RowW (ws:List Str):Prop where
 ne:ws≠[]
 g:∀x∈ws,goodS x=true
 no:∀x∈ws,noB x
 l:ws.length<=102
def join_no {c:Nat}{z:Str}{ws:List Str} (h:∀x∈ws,c∉x.cps.toList) (hz:c∉z.cps.toList) (hn:ws≠[]):c∉(Txt.join z ws).cps.toList:=by
 match ws,hn with
 | y::ys,_ =>
  rw[u2A]
  intro m
  rcases x9.mp m with m|m
  ·exact h y (by simp) m
  ·obtain ⟨p,hp,m⟩:=List.mem_flatMap.mp m
   rcases x9.mp m with m|m
   ·exact hz m
   ·exact h p (z0 _ hp) m
def v1U {ws:List Str} (r:RowW ws):(Txt.join BL ws).length<=103000:=by
 have h1:=u2T BL ws
 have h2:=u6i (n:=1000) (ws:=ws) λx m=>v4a (r.g x m)
 have h3:=r.l
 rw[show BL.length=1 from rfl] at h1
 have h4:ws.length*1000<=102*1000:=Nat.mul_le_mul_right _ h3
 omega
def u5p {ws:List Str} (r:RowW ws):splitD 32 (.str (Txt.join BL ws))=.ok (.l (ws.map D.str)):=by
 have h1:=v1U r
 show gd _ _=_
 rw[u0w (by rw[show sizeLine=16777216 from rfl];omega)]
 have:=u5b (c:=32) r.ne λy m=>(r.no y m).1
 rw[show BL=⟨#[32]⟩ from rfl,this]
def u6p {rows:List (List Str)} (h:∀ws∈rows,RowW ws) (hn:rows≠[]) (hl:rows.length<=26):splitD 10 (.str (Txt.join LF (rows.map (Txt.join BL))))=.ok (.l ((rows.map (Txt.join BL)).map D.str)):=by
 have h1:=u2T LF (rows.map (Txt.join BL))
 have h2:=u6i (n:=103000) (ws:=rows.map (Txt.join BL)) λx m=>by
  obtain⟨ws,hw,rfl⟩:=w6.mp m
  exact v1U (h ws hw)
 rw[show LF.length=1 from rfl] at h1
 rw[v6] at h1 h2
 have h4:rows.length*103000<=26*103000:=Nat.mul_le_mul_right _ hl
 show gd _ _=_
 rw[u0w (by rw[show sizeLine=16777216 from rfl];omega)]
 have:=u5b (c:=10) (ys:=rows.map (Txt.join BL)) (by simpa using hn) λy m=>by
  obtain⟨ws,hw,rfl⟩:=w6.mp m
  exact join_no (λx hx=>((h ws hw).no x hx).2) (by decide +kernel) (h ws hw).ne
 rw[show LF=⟨#[10]⟩ from rfl]
 rw[this]
theorem v4C {g:D->Rho->Res Rho}{tb:Rho->Out} (S:List D->Rho->Prop) (Q:Out->Prop) (nil:∀ρ,S [] ρ->Q (.nx ρ))
  (cons:∀d ds ρ,S (d::ds) ρ->∃ρ1,g d ρ=.ok ρ1/\((∃ρ2,tb ρ1=.nx ρ2/\S ds ρ2)\/(∃v,tb ρ1=.rt v/\Q (.rt v))\/∃x ρ2,tb ρ1=.er x ρ2/\Q (.er x ρ2))):∀ds ρ,S ds ρ->Q (forD g tb ds ρ)
 | [],ρ,h=>nil ρ h
 | d::ds,ρ,h=>by
  obtain⟨ρ1,e,k⟩:=cons d ds ρ h
  simp only[forD,e,u3n,zg]
  rcases k with⟨ρ2,k1,k2⟩|⟨v,k1,k2⟩|⟨x,ρ2,k1,k2⟩
  ·rw[k1];exact v4C S Q nil cons ds ρ2 k2
  ·rw[k1];exact k2
  ·rw[k1];exact k2
noncomputable def hdW (ws:List Str):Str:=ws.headD ""
noncomputable def rowK (a k:List RR) (ws:List Str):Option (List RR×List RR) :=
 if rulesF ws=true then some (a++(splitL ("|":Str) (ws.drop 2)).map (λb=>(hdW ws,bodyBy b)),k)
 else if a=[]/\rankF ws=true then some (a,k++[(hdW ws,ws.drop 1)])
 else none
noncomputable def readL:Nat->List RR->List RR->List (List Str)->Nat ⊕ (List RR×List RR)
 | _,a,k,[]=>.inr (a,k)
 | n,a,k,ws::r=>match rowK a k ws with
  | some (a',k')=>readL (n+1) a' k' r
  | none=>.inl n
noncomputable def rowsT (rows:List (List Str)):List Str:=rows.map (Txt.join BL)
noncomputable def txt (rows:List (List Str)):Str:=Txt.join LF (rowsT rows)
structure Rows (rows:List (List Str)):Prop where
 r:∀ws∈rows,RowW ws
 n:rows≠[]
 l:rows.length<=26
def RowW.wd {ws:List Str} (r:RowW ws):Wd ws:=⟨r.g,by have:=r.l;omega⟩
def sl_d (ws:List Str) (n:Nat):dSl (dS ws) (some (n:Int)) none=.ok (dS (ws.drop n)):=by
 show Res.ok (D.lst (cutC _ _ _))=_
 rw[cut_d,<- List.map_drop]
abbrev enumD (k:Nat) (ds:List D):List D:=(ds.zipIdx k).map λp=>D.tup [.int (p.2:Nat),p.1]
noncomputable def OutG (A:Adr):Nat ⊕ (List RR×List RR)->Res D
 | .inl n=>.err (.exc A.NoText [("line",dN n)])
 | .inr (a,k)=>(gInit A [dR a,dR k]).bind λfs=>.ok (.ins A.Grammar fs)
structure ReadP (A:Adr) (G:FD):Prop where
 t:∀rows,Rows rows->G [.str (txt rows)]=OutG A (readL 0 [] [] rows)
 o:∀d,gIsA [d,.ty "str"]=.ok (.bl false)->G [d]=.err (.exc A.NoText [("line",.int 0)])
inductive Srd (a0:Option Sl) (res:Nat ⊕ (List RR×List RR)) (ds:List D) (ρ:Rho):Prop
 | mk (n:Nat) (a k:List RR) (rest:List (List Str)) (x y z:Option Sl) (q0:ds=enumD n ((rowsT rest).map D.str)) (q1:ρ=[a0,some (.own (.l (a.map rT))),some (.own (.l (k.map rT))),x,y,z]) (q2:readL n a k rest=res) (q3:(∀ws∈rest,RowW ws)) (q4:n+rest.length<=26) (q5:a.length<=200*n) (q6:k.length<=n)
def Qrd (A:Adr) (res:Nat ⊕ (List RR×List RR)) (o:Out):Prop:=match res with
 | .inl n=>∃ρ,o=.er (.exc A.NoText [("line",dN n)]) ρ
 | .inr (a,k)=>∃ρ,o=.nx ρ/\getV (frz ρ) 1=.ok (dR a)/\getV (frz ρ) 2=.ok (dR k)
def u3A {n:Nat} (h:n<=10000):n<=sizeLine:=v5 h (by decide)
def u5z {n:Nat} (h:n<=10000):n<sizeLine:=z0A h (by decide)
section
variable {P:Program}{w:World}{K:W.Frag}{mg:MG}{base:Heap}{f:Addr}{fd:FuncData}{A:Adr}
def u5s {a1h:FD} (a2m:Callee P w K mg base 5 "has_rules_form" ["words"] (spF K a1h)) {a1p:FD} (a2y:Callee P w K mg base 3 "has_rank_form" ["words"] (spF K a1p)) {a3e:FD} (a5a:Callee P w K mg base 1 "body_by" ["words"] (spF K a3e)) {a0x:FD} (a1u:Callee P w K mg base 1 "bodies_in" ["words"] (spF K a0x)) (x_NoText:XCalleeF P w K mg base 1 "NoText" A.NoText ["self","line"] ["line"]) (k_Grammar:KCallee P w K mg base 7 "Grammar" A.Grammar ["self","rules","ranks"] [] (gInit A)) (a4h:RulesF a1h) (a3j:RankF a1p) (p_by:BodyB a3e) (a1x:Bods a0x) (F:Fun K "read_grammar" "read_grammar" u1E f fd) (T:Txt K mg A):∃G,FnOk P w K mg base (CXe P w) 9 f fd ["text"] (spX K G)/\ReadP A G:=by
 refine⟨_,F.okTX (k:=8) u0Q (λcdv Ar outer s H E hr hq=>u0d (u0v (u0J (u0I (d_B u2a T.z_isinstance (by decide +kernel) (u0a (dv 0) (u0a (d_ty T.z_str (T:="str") (by decide +kernel)) u0b))))) (u0e (u1b hq rfl x_NoText hr (u0a u0c u0b))) u0n)
  (u0d (u1e u0Q.nd (u2q u0b))
  (u0d (u1e u0Q.nd (u2q u0b))
  (u0d (u0Y rfl (u7o T.z_enumerate (u0a (DN.de (u3T (c:=10) (dv 0))) u0b)) (u3p (n:=2) rfl (u0r (dg_n u0Q.nd) (u0r (dg_n u0Q.nd) u1H)))
  (u0d (ds_n u0Q.nd (DN.de (u3T (c:=32) (dv 4))))
   (u0e (u0v (u0I (d_fn a2m hr (u0a (dv 5) u0b))) (u0e (v2S 1 (DN.de (u0T ["body"] [5] rfl (u0q (sc:=defScope u1E) (N:=["text","rules","ranks","line","row","words"]) (by decide +kernel)) (u0A (d_fn a1u hr (u0a (d_sl (dv 5) (u0t u0c) u0x) u0b))) (dg_n (show(["body","words"]:List Str).Nodup by decide +kernel)) u1A (u0h (u0a (d_ix x_ix (dv 1) u0c) (u0a (d_fn a5a hr (u0a (dv 0) u0b)) u0b))))))) (u0e (u0v (dt_w (u3R (u0m (o_eq (hu64 hr)) (d_B u0L T.z_len (by decide +kernel) (u0a (dv 1) u0b)) u0c) (u2W (u0I (d_fn a2y hr (u0a (dv 5) u0b)))))) (u0e (u1f 2 (u0h (u0a (d_ix x_ix (dv 5) u0c) (u0a (d_T u1C T.z_tuple (by decide +kernel) (u0a (d_sl (dv 5) (u0t u0c) u0x) u0b)) u0b))))) (u0e (u1b hq rfl x_NoText hr (u0a (dv 3) u0b)))))))) hq.ps)
  (u0e (u0g (d_make hq k_Grammar hr (u0a (dv 1) (u0a (dv 2) u0b))))))))),?_⟩
 refine⟨λrows hr=>?_,λd hd=>?_⟩
 rotate_left
 ·simp[runX,startD,hd,-u0k,-u0f,-zb,-zg,-zn,bN,gN,nN]
 have sp:splitD 10 (.str (txt rows))=.ok (.l ((rowsT rows).map D.str)):=u6p hr.r hr.n hr.l
 have ia:gIsA [.str (txt rows),.ty "str"]=.ok (.bl true):=rfl
 have en:enum1 [.lst ((rowsT rows).map D.str)]=.ok (enumD 0 ((rowsT rows).map D.str)):=rfl
 refine runX1 rfl ?_
 apply th
 ·simp [startD,ia,-u0k,-u0f,-zb,-zg,-zn,bN,gN,nN]
  rfl
 refine th rfl (th rfl (thq (T:=Qrd A (readL 0 [] [] rows)) ?_ λo q=>?_))
 ·apply goq
  ·simp [sp,en,-u0k,-u0f,-zb,-zg,-zn,bN,gN,nN]
   rfl
  refine v4C (Srd (some (.val (.str (txt rows)))) (readL 0 [] [] rows)) (Qrd A (readL 0 [] [] rows)) ?_ ?_ (enumD 0 ((rowsT rows).map D.str)) _ ⟨0,[],[],rows,none,none,none,rfl,rfl,rfl,hr.r,by have:=hr.l;omega,by simp,by simp⟩
  ·intro ρ hY
   refine bc λhZ=>?_
   obtain⟨n,a,k,rest,x,y,z,e,rfl,er,hw,hn,ha,hk⟩:=hY
   refine hZ ?_
   have e2:=congrArg List.length e
   simp[rowsT] at e2
   have h1:rest=[]:=z1A.mp (by omega)
   subst h1
   rw[<- er]
   exact⟨_,rfl,by simp,by simp⟩
  ·intro d ds ρ hY
   refine bc λhZ=>?_
   obtain⟨n,a,k,rest,x,y,z,e,rfl,er,hw,hn,ha,hk⟩:=hY
   refine hZ ?_
   cases rest with
   | nil=>simp[enumD,rowsT] at e
   | cons ws rest =>
    rw[show rowsT (ws::rest)=Txt.join BL ws::rowsT rest from rfl,w5,enumD,u5K] at e
    obtain⟨rfl,rfl⟩:=List.cons.inj e
    refine⟨_,rfl,?_⟩
    have rw1:=hw ws (by simp)
    have wd:=rw1.wd
    have s1:=u5p rw1
    have r1:=a4h ws wd
    simp only[u9] at hn
    have x0:dIx (dS ws) (.int 0)=.ok (.str (hdW ws)):=by
     cases ws with
     | nil=>exact absurd rfl rw1.ne
     | cons w r=>exact u6d _ _
    cases hf:rulesF ws with
    | true =>
     rw[hf] at r1
     have sl:dSl (dS ws) (some 2) none=.ok (dS (ws.drop 2)):=sl_d ws 2
     have wt:Wd (ws.drop 2):=⟨λy m=>wd.g y (z0B m),by have:=wd.l;simp;omega⟩
     have b1:=a1x (ws.drop 2) wt.l
     have hm:=u1i ("|":Str) (ws.drop 2)
     have hl:=rw1.l
     rw[z1B] at hm
     refine .inl ?_
     simp[s1,r1,sl,asI,b1,-u0k,-u0f,-zb,-zg,-zn,bN,gN,nN]
     rw[u0w (u3A (by first|omega|(simp;omega))),u1o (λ(b:List Str)=>D.lst (b.map D.str)) (λb=>rT (hdW ws,bodyBy b)) (λb hb=>?_)]
     rotate_left
     ·have e2:a3e [.lst (b.map D.str)]=.ok (.tup ((bodyBy b).map D.str)):=p_by b (wt.part hb)
      exact⟨_,rfl,rfl,by simp[rhoC,x0,e2,rT]⟩
     have hsz:a.length+(splitL ("|":Str) (ws.drop 2)).length<=sizeLine:=u3A (by omega)
     refine⟨_,by simp[hsz,-u0k,-u0f,-zb,-zg,-zn,bN,gN,nN];rfl,n+1,a++(splitL ("|":Str) (ws.drop 2)).map (λb=>(hdW ws,bodyBy b)),k,rest,_,_,_,by simp[enumD],by simp[Function.comp_def];exact⟨rfl,rfl,rfl⟩,?_,λv m=>hw v (z0 _ m),by omega,by simp;omega,by omega⟩
     rw[<- er,readL,rowK,if_pos hf]
    | false =>
     rw[hf] at r1
     have r2:=a3j ws wd rw1.ne
     have sl:dSl (dS ws) (some 1) none=.ok (dS (ws.drop 1)):=sl_d ws 1
     have t1:gTuple [dS (ws.drop 1)]=.ok (.tup ((ws.drop 1).map D.str)):=rfl
     have hsz:k.length<sizeLine:=u5z (by omega)
     by_cases hc:a=[]/\rankF ws=true
     ·obtain ⟨rfl,hk1⟩:=hc
      rw[hk1] at r2
      refine .inl ⟨_,by simp[s1,r1,r2,x0,sl,asI,t1,hsz,ei8,-u0k,-u0f,-zb,-zg,-zn,bN,gN,nN];rfl,n+1,[],k++[(hdW ws,ws.drop 1)],rest,_,_,_,by simp[enumD],by simp[rT];exact⟨rfl,rfl,rfl⟩,?_,λv m=>hw v (z0 _ m),by omega,by simp,by simp;omega⟩
      rw[<- er,readL,rowK,if_neg (by rw[hf];simp),if_pos ⟨rfl,hk1⟩]
     ·have eres:readL n a k (ws::rest)=.inl n:=by
       rw[readL,rowK,if_neg (by rw[hf];simp),if_neg hc]
      rw[<- er,eres]
      by_cases ha0:a=[]
      ·have hk1:rankF ws=false:=by
        cases q:rankF ws with
        | true=>exact absurd ⟨ha0,q⟩ hc
        | false=>rfl
       rw[hk1] at r2
       subst ha0
       exact .inr (.inr ⟨_,_,by simp[s1,r1,r2,ei8,-u0k,-u0f,-zb,-zg,-zn,bN,gN,nN];rfl,_,rfl⟩)
      ·have l0:((a.length:Int)==0)=false:=by
        have:=z2D.mpr ha0
        rw[beq_eq_false_iff_ne];omega
       exact .inr (.inr ⟨_,_,by simp[s1,r1,l0,ei8,-u0k,-u0f,-zb,-zg,-zn,bN,gN,nN];rfl,_,rfl⟩)
 revert q
 cases readL 0 [] [] rows with
 | inl n =>
  rintro⟨ρ,rfl⟩
  simp[RetsX,OutG,-u0k,-u0f,-zb,-zg,-zn,bN,gN,nN]
 | inr p =>
  obtain⟨a,k⟩:=p
  rintro⟨ρ,rfl,e1,e2⟩
  simp[RetsX,OutG,e1,e2,-u0k,-u0f,-zb,-zg,-zn,bN,gN,nN]
  generalize gInit A [dR a,dR k]=r
  cases r<;>rfl
end
def u9R {ws vs:List Str} (h:GWs ws) (k:GWs vs):dNe (dS ws) (dS vs)=.ok (.bl (!decide (ws=vs))):=by
 unfold dNe
 rw[u3Y h,u3Y k]
 show Res.ok (D.bl (!PyData.eqvAll _ _))=_
 rw[u2C]
theorem u7M:∀a:List RR,D.pys (a.map rT)=some (a.map pyR)
 | []=>rfl
 | p::a=>by
  have ih:=u7M a
  have e:(rT p).py=some (pyR p):=by simp[rT,D.py,D.pys,u4R,pyR]
  rw[w5,D.pys,e,ih]
  rfl
theorem u8f:∀{a:List RR},(∀p∈a,goodS p.1=true/\GWs p.2)->PyData.canLayAll0 (a.map pyR)=true
 | [],_=>rfl
 | p::a,h=>by
  have h1:=h p z6
  have h2:=u8f λb hb=>h b (z0 _ hb)
  have h3:=h1.1
  simp[goodS] at h3
  simp[PyData.canLayAll0,PyData.canLay0,pyR,h3.1,u3N h1.2,h2]
theorem u8s:∀a:List RR,PyData.depthAll (a.map pyR)<=5
 | []=>by simp[PyData.depthAll]
 | p::a=>by
  have:=u8s a
  have d:=u3U p.2
  simp[PyData.depthAll,PyData.depth,pyR]
  omega
def v4f {a:List RR} (h:∀p∈a,goodS p.1=true/\GWs p.2):dEq (dR a) (.lst [])=.ok (.bl (decide (a=[]))):=by
 have e:cmpD (dR a)=.ok (.list (a.map pyR)):=by
  have e:(dR a).py=some (.list (a.map pyR)):=by simp[D.py,u7M]
  have s:SeqAt.shaped (.list (a.map pyR))=true:=by
   have d:=u8s a
   simp[SeqAt.shaped,PyData.canLay0,u8f h,PyData.depth]
   omega
  unfold cmpD
  rw[e]
  simp[s]
 unfold dEq
 rw[e]
 cases a<;>rfl
def gnil:GWs []:=λ_ m=>(nomatch m)
theorem u4Z (p:Str->Bool) {g:D->Rho->Res Rho}{fT:Rho->Res Bool}{fe:Rho->Res D}{ρ:Rho}:∀{ws:List Str},(∀x∈ws,∃ρ1,g (.str x) ρ=.ok ρ1/\fT (frz ρ1)=.ok (p x)/\fe ρ1=.ok (.str x))->compD g fT fe ρ (ws.map D.str)=.ok ((ws.filter p).map D.str)
 | [],_=>rfl
 | x::ws,k=>by
  obtain⟨ρ1,k1,k2,k3⟩:=k x z6
  have ih:=u4Z p (ws:=ws) λy hy=>k y (z0 _ hy)
  cases e:p x with
  | true=>simp[compD,k1,k2,e,k3,ih]
  | false=>simp[compD,k1,k2,e,ih]
def u3i {p:Str->Bool}{ws:List Str}:(ws.filter (λx=>!p x)=[])↔ws.all p=true:=by
 rw[List.filter_eq_nil_iff,z2F]
 exact⟨λh x m=>by have:=h x m;simpa using this,λh x m=>by simp[h x m]⟩
theorem GWs.filter {ws:List Str} (h:GWs ws) (p:Str->Bool):GWs (ws.filter p):=λx m=>h x (List.mem_filter.mp m).1
noncomputable abbrev rankD8 (ws:List Str):D:=if rankF ws=true then .tup [.str (hdW ws),.tup ((ws.drop 1).map D.str)] else .non
abbrev LRank (G:FD):Prop:=∀ws,Wd ws->ws≠[]->G [dS ws]=.ok (rankD8 ws)
noncomputable abbrev bodsD (bs:List (List Str)):D:=.lst (bs.map λb=>.tup ((bodyBy b).map D.str))
noncomputable abbrev lbodD (ws:List Str):D:=if (splitL ("|":Str) ws).all bodyF=true then bodsD (splitL ("|":Str) ws) else .non
abbrev LBod (G:FD):Prop:=∀ws,Wd ws->G [dS ws]=.ok (lbodD ws)
inductive Slb (a0 a1:Option Sl) (all:List (List Str)) (ds:List D) (ρ:Rho):Prop
 | mk (done rest:List (List Str)) (x y:Option Sl) (q0:ds=rest.map (λb=>.lst (b.map D.str))) (q1:ρ=[a0,a1,none,some (.own (.l (done.map λb=>.tup ((bodyBy b).map D.str)))),x,y]) (q2:done++rest=all) (q3:done.all bodyF=true) (q4:(∀b∈rest,Wd b)) (q5:all.length<=1001)
def Qlb (all:List (List Str)) (o:Out):Prop:=(all.all bodyF=true/\∃ρ,o=.nx ρ/\getV (frz ρ) 3=.ok (bodsD all))\/(all.all bodyF=false/\o=.rt .non)
section
variable {P:Program}{w:World}{K:W.Frag}{mg:MG}{base:Heap}{f:Addr}{fd:FuncData}{A:Adr}
def u9h {a0a:FD} (a0d:Callee P w K mg base 1 "_law_is_sign" ["_law_thing"] (spF K a0a)) (a0g:P1 sgnD a0a) (F:Fun K "_law_rank" "_law_rank" u3a f fd) (T:Txt K mg A):∃G,FnOk P w K mg base CX0 2 f fd ["_law_words"] (spF K G)/\LRank G:=by
 refine⟨_,F.okT (k:=1) u8U (λcdv Ar outer s H E hr=>u0d (u0v (dt_w (u3l (u0m (u2z (hu100 hr)) (d_ix x_ix (dv 0) u0c) (u0F (u0a u0i (u0a u0i (u0a u0i u0b))))) (u2G (u0m (o_eq (hu64 hr)) (d_B u0L T.z_len (by decide +kernel) (u0a (dv 0) u0b)) u0c)))) (u0e (u0g u2j)) u0n)
  (u0d (u0v (u0m (o_ne (hu64 hr)) (DN.de (u0T ["_law_word_here"] [] rfl (u0q (sc:=defScope u3a) (N:=["_law_words"]) (by decide +kernel)) (u0A (d_sl (dv 0) (u0t u0c) u0x)) (dg_n (show(["_law_word_here"]:List Str).Nodup by decide +kernel)) (u5M (u0J (u0I (d_fn a0d hr (u0a (dv 0) u0b))))) (dv 0))) (u0F u0b)) (u0e (u0g u2j)) u0n)
  (u0e (u0g (u0h (u0a (d_ix x_ix (dv 0) u0c) (u0a (d_T u1C T.z_tuple (by decide +kernel) (u0a (d_sl (dv 0) (u0t u0c) u0x) u0b)) u0b))))))),?_⟩
 intro ws h hn
 have g0:goodS (hdW ws)=true:=by
  cases ws with
  | nil=>exact absurd rfl hn
  | cons w r=>exact h.g w (by simp)
 have x0:dIx (dS ws) (.int 0)=.ok (.str (hdW ws)):=by
  cases ws with
  | nil=>exact absurd rfl hn
  | cons w r=>exact u6d _ _
 have ni:=u5w (x:=.str (hdW ws)) (by rw[u1l (u2c g0).1];rfl)
 have sl:dSl (dS ws) (some 1) none=.ok (dS (ws.drop 1)):=by
  cases ws with
  | nil=>exact absurd rfl hn
  | cons w0 r =>
   show Res.ok (D.lst (cutC (D.str w0::r.map D.str) (some 1) none))=_
   rw[cut_1];rfl
 have t1:gTuple [dS (ws.drop 1)]=.ok (.tup ((ws.drop 1).map D.str)):=rfl
 have gd1:GWs (ws.drop 1):=λy m=>h.g y (z0B m)
 have nw:=u9R (gd1.filter λx=>!sgnS x) gnil
 have rf:rankF ws=(decide (ws.drop 1≠[])&&(sideD (.str (hdW ws))&&(ws.drop 1).all sgnS)):=by
  cases ws with
  | nil=>exact absurd rfl hn
  | cons w r=>rfl
 have hl:(ws.drop 1).length<=1000/\(ws.length=1↔ws.drop 1=[]):=by
  have:=h.l
  have:=z2D.mpr hn
  refine⟨by simp;omega,λz=>List.drop_eq_nil_of_le (by omega),λz=>?_⟩
  have:=congrArg List.length z
  rw[z1B,List.length_nil] at this
  omega
 have rd:rankD8 ws=if rankF ws=true then .tup [.str (hdW ws),.tup ((ws.drop 1).map D.str)] else .non:=rfl
 rw[rd]
 generalize hrr:ws.drop 1=r at sl t1 gd1 nw rf hl
 cases sd:sideD (.str (hdW ws)) with
 | false =>
  rw[sd] at ni rf
  simp[runT,startD,x0,ni,rf]
 | true =>
  rw[sd] at ni rf
  by_cases h1:ws.length=1
  ·have e1:((ws.length:Int)==1)=true:=by rw [h1];rfl
   have e2:=hl.2.mp h1
   simp[runT,startD,x0,ni,ei8,e1,rf,e2]
  ·have e1:((ws.length:Int)==1)=false:=by rw [beq_eq_false_iff_ne];omega
   have e2:r≠[]:=λz=>h1 (hl.2.mpr z)
   simp[runT,startD,x0,ni,ei8,e1,sl,asI]
   rw[u0w (u0S (by first|exact hl.1|(simp;exact hl.1))),u4Z (λx=>!sgnS x) (ws:=r) (λx hx=>?_)]
   rotate_left
   ·have es:=a0g (.str x) (gd1 x hx)
    rw[show sgnD (.str x)=sgnS x from rfl] at es
    exact⟨_,rfl,by simp[rhoC,es],by simp[rhoC]⟩
   by_cases ha:r.all sgnS=true
   ·have e3:r.filter (fun x=>!sgnS x)=[]:=u3i.mpr ha
    rw[e3] at nw |-
    have nw':dNe (.lst []) (.lst [])=.ok (.bl false):=nw
    simp[nw',x0,sl,asI,t1,rf,e2,ha]
   ·have e3:r.filter (fun x=>!sgnS x)≠[]:=fun z=>ha (u3i.mp z)
    have nw':dNe (dS (r.filter λx=>!sgnS x)) (.lst [])=.ok (.bl true):=by
     have:(!decide (r.filter (λx=>!sgnS x)=[]))=true:=by simp[e3]
     rw[this] at nw;exact nw
    have ha':r.all sgnS=false:=by
     cases q:r.all sgnS with
     | true=>exact absurd q ha
     | false=>rfl
    rw[ha'] at rf
    simp[nw',rf]
def u6U {a0a:FD} (a0d:Callee P w K mg base 1 "_law_is_sign" ["_law_thing"] (spF K a0a)) {a0c:FD} (a0e:Callee P w K mg base 1 "_law_is_head" ["_law_thing"] (spF K a0c)) (a0g:P1 sgnD a0a) (a0h:P1 hdD a0c) (F:Fun K "_law_bodies" "_law_bodies" u2b f fd) (T:Txt K mg A):∃G,FnOk P w K mg base CX0 2 f fd ["_law_words"] (spF K G)/\LBod G:=by
 refine⟨_,F.okT (k:=1) u0W (λcdv Ar outer s H E hr=>db_bod (l:=0) (b:=1) (w:=2) (by decide) (by decide) (by decide) (show 1<6 by decide) (show 2<6 by decide) (s_n u0W.nd (v1u (v4M (v1u v1B) v1B))) (s_for rfl (v4B (ev 0)) (g_n u0W.nd) (u8G (s_if (t_cmp op_eq (ev 2) e_str) (u8G (u9J (e_app (ev 1) (v1u v1B)))) (u8G (u9J (e_app (e_ix u9t (ev 1) (e_un v4m e_int)) (ev 2)))))))
  (u0d (u1e u0W.nd (u2q u0b))
  (u0d (u0Y rfl (u0A (dv 1)) (dg_n u0W.nd)
  (u0d (u4Y ["_law_word_here"] [] rfl (u0q (sc:=defScope u2b) (N:=["_law_words","_law_bodies_here","_law_word_here","_law_found","_law_body","_law_odd"]) (by decide +kernel)) u0W.nd (u0A (dv 4)) (dg_n (show (["_law_word_here"]:List Str).Nodup by decide +kernel)) (u5M (dt_w (u3R (u0J (u0I (d_fn a0d hr (u0a (dv 0) u0b)))) (u2W (u0J (u0I (d_fn a0e hr (u0a (dv 0) u0b)))))))) (dv 0))
   (u0d (u0v (u0m (o_eq (hu64 hr)) (dv 4) (u0F (u0a u0i u0b))) (u0e (ds_n u0W.nd (u0F u0b))) (u0e (u0v (dt_w (u3l (u0m (o_eq (hu64 hr)) (dv 4) (u0F u0b)) (u2G (u0m (o_ne (hu64 hr)) (dv 5) (u0F u0b))))) (u0e (u0g u2j)) u0n)))
   (u0e (u1f 3 (d_T u1C T.z_tuple (by decide +kernel) (u0a (dv 4) u0b)))))))
  (u0e (u0g (dv 3)))))),?_⟩
 intro ws h
 have bs:bodS 0 1 2 [some (.val (dS ws)),none,none,none,none,none]=.nx [some (.val (dS ws)),some (.val (.lst ((splitL ("|":Str) ws).map λb=>.lst (b.map D.str)))),none,none,none,none]:=by
  show(match strsOf (ws.map D.str) with|some ws=>if ws.length<sizeLine then _ else _|none=>_)=_
  rw[u2k]
  exact if_pos (u5z (by have:=h.l;omega))
 have hp:∀b∈splitL ("|":Str) ws,Wd b:=λb m=>h.part m
 have hm:=h.many
 obtain⟨Rr,hR⟩:∃R,R=lbodD ws:=⟨_,rfl⟩
 rw[<- hR]
 unfold lbodD at hR
 generalize splitL ("|":Str) ws=all at bs hp hm hR
 simp[runT,startD,bs,-u0k,-u0f,-zb,-zg,-zn,bN,gN,nN]
 generalize hI:forD _ _ _ _=o
 have q:Qlb all o:=by
  rw[<- hI]
  refine u3h (Slb _ _ all) (Qlb all) ?_ ?_ _ _ ⟨[],all,none,none,rfl,rfl,rfl,rfl,hp,hm⟩
  ·intro ρ hY
   refine bc λhZ=>?_
   obtain⟨done,rest,x,y,e,rfl,rfl,hd,hw,hn⟩:=hY
   refine hZ ?_
   have h1:rest=[]:=by simpa using e.symm
   subst h1
   refine .inl ⟨by simpa using hd,_,rfl,by simp⟩
  ·intro d ds ρ hY
   refine bc λhZ=>?_
   obtain⟨done,rest,x,y,e,rfl,rfl,hd,hw,hn⟩:=hY
   refine hZ ?_
   match rest,hw,hn,e with
   | [],_,_,e=>simp at e
   | b::rest,hw,hn,e =>
    rw[w5] at e
    obtain⟨rfl,rfl⟩:=List.cons.inj e
    refine⟨_,rfl,?_⟩
    have wb:=hw b (by simp)
    have e1:=u7j wb.g
    have e0:=v0m wb.g gnil
    have nw:=u9R (wb.g.filter λx=>!symS x) gnil
    have t1:gTuple [dS b]=.ok (.tup (b.map D.str)):=rfl
    have hsz:done.length<sizeLine:=u5z (by simp at hn;omega)
    have hlb:=wb.l
    simp[-u0k,-u0k,-u0f,-zb,-zg,-zn,bN,gN,nN]
    rw[u0w (u0S (by first|exact hlb|(simp;exact hlb))),u4Z (λx=>!symS x) (ws:=b) (λx hx=>?_)]
    rotate_left
    ·have es:=a0g (.str x) (wb.g x hx)
     have eh:=a0h (.str x) (wb.g x hx)
     rw[show sgnD (.str x)=sgnS x from rfl] at es
     rw[show hdD (.str x)=hdS x from rfl] at eh
     refine⟨_,rfl,?_,by simp[rhoC]⟩
     unfold symS
     cases q1:sgnS x with
     | true=>rw[q1] at es;simp[rhoC,es]
     | false =>
      rw[q1] at es
      cases q2:hdS x with
      | true=>rw[q2] at eh;simp[rhoC,es,eh]
      | false=>rw[q2] at eh;simp[rhoC,es,eh]
    by_cases c1:b=(["~"]:List Str)
    ·rw [decide_eq_true c1] at e1
     have bb:bodyBy b=[]:=if_pos c1
     have bf:bodyF b=true:=by unfold bodyF;rw[decide_eq_true c1];rfl
     have t0:gTuple [.lst []]=.ok (.tup []):=rfl
     refine .inl ⟨_,by simp[e1,t0,hsz,-u0k,-u0f,-zb,-zg,-zn,bN,gN,nN];rfl,done++[b],rest,_,_,rfl,by simp[bb];exact⟨rfl,rfl⟩,by simp,by simp[hd,bf],λv m=>hw v (z0 _ m),hn⟩
    ·rw [decide_eq_false c1] at e1
     by_cases c2:b=[]
     ·rw [decide_eq_true c2] at e0
      have e0':dEq (dS b) (.lst [])=.ok (.bl true):=e0
      have bf:bodyF b=false:=by unfold bodyF;rw[decide_eq_false c1,c2];rfl
      refine .inr ⟨.non,by simp[e1,e0',-u0k,-u0f,-zb,-zg,-zn,bN,gN,nN],.inr ⟨?_,rfl⟩⟩
      rw[List.all_append,z0D,bf];simp
     ·rw [decide_eq_false c2] at e0
      have e0':dEq (dS b) (.lst [])=.ok (.bl false):=e0
      by_cases c3:b.all symS=true
      ·have f3:b.filter (fun x=>!symS x)=[]:=u3i.mpr c3
       rw[f3] at nw |-
       have nw':dNe (.lst []) (.lst [])=.ok (.bl false):=nw
       refine .inl ⟨_,by simp[e1,e0',nw',t1,hsz,-u0k,-u0f,-zb,-zg,-zn,bN,gN,nN];rfl,done++[b],rest,_,_,rfl,by simp[bodyBy,c1];exact⟨rfl,rfl⟩,by simp,by simp[hd,bodyF,c1,c2,c3],λv m=>hw v (z0 _ m),hn⟩
      ·have f3:b.filter (fun x=>!symS x)≠[]:=fun z=>c3 (u3i.mp z)
       have nw':dNe (dS (b.filter λx=>!symS x)) (.lst [])=.ok (.bl true):=by
        have:(!decide (b.filter (λx=>!symS x)=[]))=true:=by simp[f3]
        rw[this] at nw;exact nw
       have c3':b.all symS=false:=by
        cases q:b.all symS with
        | true=>exact absurd q c3
        | false=>rfl
       have bf:bodyF b=false:=by simp only[bodyF,c3',Bool.and_false,Bool.or_false];exact decide_eq_false c1
       refine .inr ⟨.non,by simp[e1,e0',nw',-u0k,-u0f,-zb,-zg,-zn,bN,gN,nN],.inr ⟨?_,rfl⟩⟩
       rw[List.all_append,z0D,bf];simp
 rcases q with⟨q1,ρ,rfl,q2⟩|⟨q1,rfl⟩
 ·rw [hR,if_pos q1]
  simp[q2,-u0k,-u0f,-zb,-zg,-zn,bN,gN,nN]
 ·rw [hR,if_neg (by rw [q1];simp)]
  rfl
end
noncomputable def resD:Nat ⊕ (List RR×List RR)->D
 | .inl n=>.lst [dN n,.lst [],.lst []]
 | .inr (a,k)=>.lst [.non,dR a,dR k]
abbrev LRead (G:FD):Prop:=∀rows,Rows rows->G [.str (txt rows)]=.ok (resD (readL 0 [] [] rows))
abbrev GRs (a:List RR):Prop:=∀p∈a,goodS p.1=true/\GWs p.2
inductive Slr (a0:Option Sl) (res:Nat ⊕ (List RR×List RR)) (ds:List D) (ρ:Rho):Prop
 | mk (n:Nat) (a k:List RR) (rest:List (List Str)) (x3 x4 x5 x6 x7:Option Sl) (q0:ds=enumD n ((rowsT rest).map D.str)) (q1:ρ=[a0,some (.own (.l (a.map rT))),some (.own (.l (k.map rT))),x3,x4,x5,x6,x7]) (q2:readL n a k rest=res) (q3:(∀ws∈rest,RowW ws)) (q4:n+rest.length<=26) (q5:a.length<=200*n) (q6:k.length<=n) (q7:GRs a)
def Qlr (res:Nat ⊕ (List RR×List RR)) (o:Out):Prop:=match res with
 | .inl n=>o=.rt (resD (.inl n))
 | .inr (a,k)=>∃ρ,o=.nx ρ/\getV (frz ρ) 1=.ok (dR a)/\getV (frz ρ) 2=.ok (dR k)
def Rets (v:D) (o:Out):Prop:=o=.rt v
def run1 {n m:Nat}{t:Rho->Out}{ds:List D}{v:D} (hl:ds.length=m) (h:Rets v (t (startD n ds))):runT n m t ds=.ok v:=by unfold runT;rw[if_pos hl,h];rfl
def Stp (S:List D->Rho->Prop) (Q:Out->Prop) (ds:List D) (o:Out):Prop:=(∃ρ,o=.nx ρ/\S ds ρ)\/∃v,o=.rt v/\Q (.rt v)
def v4c {g:D->Rho->Res Rho}{tb:Rho->Out} (S:List D->Rho->Prop) (Q:Out->Prop) (nil:∀ρ,S [] ρ->Q (.nx ρ)) (cons:∀T,tb=T->∀d ds ρ,S (d::ds) ρ->∃ρ1,g d ρ=.ok ρ1/\Stp S Q ds (T ρ1)) (ds:List D) (ρ:Rho) (h:S ds ρ):Q (forD g tb ds ρ):=u3h S Q nil (cons tb rfl) ds ρ h
def row_t {ws:List Str} (wd:Wd ws) (hf:rulesF ws=true):hdS (hdW ws)=true/\dEq (.str (ws.getD 1 "")) (.str ":")=.ok (.bl true)/\(splitL ("|":Str) (ws.drop 2)).all bodyF=true/\(2:Int)<ws.length/\dIx (dS ws) (.int 1)=.ok (.str (ws.getD 1 "")):=by
 match ws,hf,wd with
 | [],hf,_=>simp[rulesF] at hf
 | [_],hf,_=>simp[rulesF] at hf
 | w0::c::r,hf,wd =>
  simp only[rulesF,t9,decide_eq_true_eq] at hf
  obtain⟨h1,h2,h3⟩:=hf
  refine⟨h1,?_,h3,?_,v1o _ _ _⟩
  ·show dEq (.str c) (.str ":")=_
   rw[es8 (wd.g c (by simp)) tilde.2.1,h2];rfl
  ·cases r with
   | nil=>exact absurd h3 (by decide +kernel)
   | cons v r=>simp;omega
def row_c {ws:List Str} (wd:Wd ws) (c1:(2:Int)<ws.length):dIx (dS ws) (.int 1)=.ok (.str (ws.getD 1 ""))/\goodS (ws.getD 1 "")=true/\rulesF ws=(hdS (hdW ws)&&(decide (ws.getD 1 ""=(":":Str))&&(splitL ("|":Str) (ws.drop 2)).all bodyF)):=by
 match ws,wd,c1 with
 | [],_,c1=>simp at c1
 | [_],_,c1=>simp at c1
 | w0::c::r,wd,_ =>
  exact⟨v1o _ _ _,wd.g c (by simp),rfl⟩
def goodBy {b:List Str} (h:GWs b):GWs (bodyBy b):=by
 unfold bodyBy
 split
 ·exact gnil
 ·exact h
def v2F {ws:List Str} (h:GWs ws) (hn:ws≠[]):goodS (hdW ws)=true:=by
 cases ws with
 | nil=>exact absurd rfl hn
 | cons w r=>exact h w (by simp)
section
variable {P:Program}{w:World}{K:W.Frag}{mg:MG}{base:Heap}{f:Addr}{fd:FuncData}{A:Adr}
def u9g {a3o:FD} (a4l:Callee P w K mg base 2 "_law_rank" ["_law_words"] (spF K a3o)) {a0c:FD} (a0e:Callee P w K mg base 1 "_law_is_head" ["_law_thing"] (spF K a0c)) {a1a:FD} (a3s:Callee P w K mg base 2 "_law_bodies" ["_law_words"] (spF K a1a)) (a0h:P1 hdD a0c) (a3j:LRank a3o) (a1x:LBod a1a) (F:Fun K "_law_read" "_law_read" u2Z f fd) (T:Txt K mg A):∃G,FnOk P w K mg base CX0 3 f fd ["_law_text"] (spF K G)/\LRead G:=by
 refine⟨_,F.okT (k:=2) u0V (λcdv Ar outer s H E hr=>u0d (u1e u0V.nd (u2q u0b))
  (u0d (u1e u0V.nd (u2q u0b))
  (u0d (u0Y rfl (u7o T.z_enumerate (u0a (DN.de (u3T (c:=10) (dv 0))) u0b)) (u3p (n:=2) rfl (u0r (dg_n u0V.nd) (u0r (dg_n u0V.nd) u1H)))
  (u0d (ds_n u0V.nd (DN.de (u3T (c:=32) (dv 4))))
   (u0d (ds_n u0V.nd (d_fn a4l hr (u0a (dv 5) u0b)))
   (u0d (ds_n u0V.nd u2j)
   (u0d (u0v (dt_w (u3R (u0m o_gt (d_B u0L T.z_len (by decide +kernel) (u0a (dv 5) u0b)) u0c) (u3R (u0I (d_fn a0e hr (u0a (d_ix x_ix (dv 5) u0c) u0b))) (u2W (u0m (o_eq (hu64 hr)) (d_ix x_ix (dv 5) u0c) u0i))))) (u0e (ds_n u0V.nd (d_fn a3s hr (u0a (d_sl (dv 5) (u0t u0c) u0x) u0b)))) u0n)
   (u0e (u0v (u0m u9o (dv 7) u2j) (u0e (v2S 1 (DN.de (u0T ["_law_body"] [5] rfl (u0q (sc:=defScope u2Z) (N:=["_law_text","_law_rules_here","_law_ranks_here","_law_line","_law_row_here","_law_words","_law_rank_here","_law_bodies_here"]) (by decide +kernel)) (u0A (dv 7)) (dg_n (show(["_law_body","_law_words"]:List Str).Nodup by decide +kernel)) u1A (u0h (u0a (d_ix x_ix (dv 1) u0c) (u0a (dv 0) u0b))))))) (u0e (u0v (dt_w (u3R (u0m u9o (dv 6) u2j) (u2W (u0m (o_eq (hu64 hr)) (dv 1) (u0F u0b))))) (u0e (u1f 2 (dv 6))) (u0e (u0g (u0F (u0a (dv 3) (u0a (u0F u0b) (u0a (u0F u0b) u0b)))))))))))))))
  (u0e (u0g (u0F (u0a u2j (u0a (dv 1) (u0a (dv 2) u0b))))))))),?_⟩
 intro rows hr
 have sp:splitD 10 (.str (txt rows))=.ok (.l ((rowsT rows).map D.str)):=u6p hr.r hr.n hr.l
 have en:enum1 [.lst ((rowsT rows).map D.str)]=.ok (enumD 0 ((rowsT rows).map D.str)):=rfl
 refine run1 rfl (th rfl (th rfl ?_))
 refine thq (T:=Qlr (readL 0 [] [] rows)) ?_ ?_
 ·apply goq
  ·simp [startD,sp,en,-u0k,-u0f,-zb,-zg,-zn,bN,gN,nN]
   rfl
  refine v4c (Slr (some (.val (.str (txt rows)))) (readL 0 [] [] rows)) (Qlr (readL 0 [] [] rows)) ?_ ?_ (enumD 0 ((rowsT rows).map D.str)) _ ⟨0,[],[],rows,none,none,none,none,none,rfl,rfl,rfl,hr.r,by have:=hr.l;omega,by simp,by simp,λ_ m=>(nomatch m)⟩
  ·intro ρ hY
   refine bc λhZ=>?_
   obtain⟨n,a,k,rest,x3,x4,x5,x6,x7,e,rfl,er,hw,hn,ha,hk,hg⟩:=hY
   refine hZ ?_
   have e2:=congrArg List.length e
   simp[rowsT] at e2
   have h1:rest=[]:=z1A.mp (by omega)
   subst h1
   rw[<- er]
   exact⟨_,rfl,by simp,by simp⟩
  ·intro T hT d ds ρ hY
   refine bc λhZ=>?_
   obtain⟨n,a,k,rest,x3,x4,x5,x6,x7,e,rfl,er,hw,hn,ha,hk,hg⟩:=hY
   refine hZ ?_
   cases rest with
   | nil=>simp[enumD,rowsT] at e
   | cons ws rest =>
    rw[show rowsT (ws::rest)=Txt.join BL ws::rowsT rest from rfl,w5,enumD,u5K] at e
    obtain⟨rfl,rfl⟩:=List.cons.inj e
    refine⟨_,rfl,?_⟩
    have rw1:=hw ws (by simp)
    have wd:=rw1.wd
    have s1:=u5p rw1
    have k1:=a3j ws wd rw1.ne
    obtain⟨rk,hrk⟩:∃rk,rk=rankD8 ws:=⟨_,rfl⟩
    rw[<- hrk] at k1
    have i1:∀x,dIsNot (.lst x) .non=.ok (.bl true):=λ_=>rfl
    have i2:dIsNot .non .non=.ok (.bl false):=rfl
    have i3:∀x,dIsNot (.tup x) .non=.ok (.bl true):=λ_=>rfl
    simp only[u9] at hn
    have x0:dIx (dS ws) (.int 0)=.ok (.str (hdW ws)):=by
     cases ws with
     | nil=>exact absurd rfl rw1.ne
     | cons w r=>exact u6d _ _
    have g0:=v2F wd.g rw1.ne
    have hh:=a0h (.str (hdW ws)) g0
    rw[show hdD (.str (hdW ws))=hdS (hdW ws) from rfl] at hh
    have wt:Wd (ws.drop 2):=⟨λy m=>wd.g y (z0B m),by have:=wd.l;simp;omega⟩
    have bb:=a1x (ws.drop 2) wt
    have eqr:=v4f hg
    have hl:=rw1.l
    cases hf:rulesF ws with
    | true =>
     obtain⟨hz,hc,hb,h2,xc⟩:=row_t wd hf
     have sl:dSl (dS ws) (some 2) none=.ok (dS (ws.drop 2)):=sl_d ws 2
     generalize ws.getD 1 ""=wc at hc xc
     rw[hz] at hh
     have bb:a1a [dS (ws.drop 2)]=.ok (bodsD (splitL ("|":Str) (ws.drop 2))):=by rw[bb,lbodD,if_pos hb]
     have hm:=u1i ("|":Str) (ws.drop 2)
     rw[z1B] at hm
     subst hT
     refine .inl ?_
     simp[s1,k1,h2,x0,hh,xc,hc,sl,asI,bb,i1,-u0k,-u0f,-zb,-zg,-zn,bN,gN,nN]
     rw[u0w (u3A (by first|omega|(simp;omega))),u1o (λ(b:List Str)=>D.tup ((bodyBy b).map D.str)) (λb=>rT (hdW ws,bodyBy b)) (λb hb=>?_)]
     rotate_left
     ·exact⟨_,rfl,rfl,by simp[rhoC,x0,rT]⟩
     have hsz:a.length+(splitL ("|":Str) (ws.drop 2)).length<=sizeLine:=u3A (by omega)
     refine⟨_,by simp[hsz,-u0k,-u0f,-zb,-zg,-zn,bN,gN,nN];rfl,n+1,a++(splitL ("|":Str) (ws.drop 2)).map (λb=>(hdW ws,bodyBy b)),k,rest,_,_,_,_,_,by simp[enumD],by simp[Function.comp_def];exact⟨rfl,rfl,rfl,rfl,rfl⟩,?_,λv m=>hw v (z0 _ m),by omega,by simp;omega,by omega,λp m=>?_⟩
     ·rw[<- er,readL,rowK,if_pos hf]
     ·rcases x9.mp m with m | m
      ·exact hg p m
      ·obtain ⟨b,hb2,rfl⟩:=w6.mp m
       exact⟨g0,goodBy (wt.part hb2).g⟩
    | false =>
     have hsz:k.length<sizeLine:=u5z (by omega)
     subst hT
     apply th
     ·simp [s1,-u0k,-u0f,-zb,-zg,-zn,bN,gN,nN]
      rfl
     apply th
     ·simp [k1,-u0k,-u0f,-zb,-zg,-zn,bN,gN,nN]
      rfl
     apply th rfl
     apply th (ρ:=[some (.val (.str (txt rows))),some (.own (.l (a.map rT))),some (.own (.l (k.map rT))),some (.val (dN n)),some (.val (.str (Txt.join BL ws))),some (.val (dS ws)),some (.val rk),some (.val .non)])
     ·by_cases c1:(2:Int)<ws.length
      ·have sl:dSl (dS ws) (some 2) none=.ok (dS (ws.drop 2)):=sl_d ws 2
       obtain⟨xc,gc,rf⟩:=row_c wd c1
       have ec:=es8 gc tilde.2.1
       generalize ws.getD 1 ""=wc at xc gc rf ec
       cases hz:hdS (hdW ws) with
       | false =>
        rw[hz] at hh
        simp[c1,hh,x0,asI,-u0k,-u0f,-zb,-zg,-zn,bN,gN,nN]
       | true =>
        rw[hz] at hh rf
        by_cases hcc:wc=(":":Str)
        ·have hb:(wc==(":":Str))=true:=by rw [hcc];exact beq_self_eq_true _
         rw[hb] at ec
         have hnb:¬ ((splitL ("|":Str) (ws.drop 2)).all bodyF=true):=λz=>by
          rw[hf,z,decide_eq_true hcc] at rf;cases rf
         have bb:a1a [dS (ws.drop 2)]=.ok .non:=by rw[bb,lbodD,if_neg hnb]
         simp[c1,hh,xc,ec,sl,bb,x0,asI,-u0k,-u0f,-zb,-zg,-zn,bN,gN,nN]
        ·have hb:(wc==(":":Str))=false:=beq_eq_false_iff_ne.mpr hcc
         rw[hb] at ec
         simp[c1,hh,xc,ec,x0,asI,-u0k,-u0f,-zb,-zg,-zn,bN,gN,nN]
      ·simp[c1,asI,-u0k,-u0f,-zb,-zg,-zn,bN,gN,nN]
     by_cases hc:a=[]/\rankF ws=true
     ·obtain ⟨rfl,hk1⟩:=hc
      rw[rankD8,if_pos hk1] at hrk
      subst hrk
      have eqr0:dEq (.lst []) (.lst [])=.ok (.bl true):=eqr
      refine .inl ⟨_,by simp[eqr0,hsz,i2,i3,asI,-u0k,-u0f,-zb,-zg,-zn,bN,gN,nN];rfl,n+1,[],k++[(hdW ws,ws.drop 1)],rest,_,_,_,_,_,by simp[enumD],by simp[rT];exact⟨rfl,rfl,rfl,rfl,rfl⟩,?_,λv m=>hw v (z0 _ m),by omega,by simp,by simp;omega,λ_ m=>(nomatch m)⟩
      rw[<- er,readL,rowK,if_neg (by rw[hf];simp),if_pos ⟨rfl,hk1⟩]
     ·have eres:readL n a k (ws::rest)=.inl n:=by rw [readL,rowK,if_neg (by rw [hf];simp),if_neg hc]
      rw[<- er,eres]
      refine .inr ⟨resD (.inl n),?_,rfl⟩
      by_cases hk1:rankF ws=true
      ·rw [rankD8,if_pos hk1] at hrk
       subst hrk
       rw[decide_eq_false (λz=>hc ⟨z,hk1⟩)] at eqr
       simp[eqr,i2,i3,asI,resD,-u0k,-u0f,-zb,-zg,-zn,bN,gN,nN]
      ·rw [rankD8,if_neg hk1] at hrk
       subst hrk
       simp[i2,asI,resD,-u0k,-u0f,-zb,-zg,-zn,bN,gN,nN]
 intro o q
 revert q
 cases readL 0 [] [] rows with
 | inl n =>
  rintro rfl
  rfl
 | inr p =>
  obtain⟨a,k⟩:=p
  rintro⟨ρ,rfl,e1,e2⟩
  simp[Rets,resD,e1,e2,-u0k,-u0f,-zb,-zg,-zn,bN,gN,nN]
end
noncomputable def WORDS8:List Str:=(["A","B","E","Aa","List0","a","b","+","-","("]:List Str)++([")","left","right","none","id",":",":",":","|","|"]:List Str)++(["~","~","","A:","$","Abcdefg","abcdefg","a|b","Left","::"]:List Str)++(["~~","@","aB","0","A+","{","|a","left","B","a"]:List Str)
noncomputable def SG8:List Str:=POOL++WORDS8
def sg8_len:SG8.length<64:=by decide +kernel
abbrev PoolW (ws:List Str):Prop:=∀x∈ws,sgnS x=true->x∈SG8
abbrev PoolR (a:List RR):Prop:=∀p∈a,PoolW p.2
structure Rows8 (rows:List (List Str)):Prop extends Rows rows where
 p:∀ws∈rows,PoolW ws
def poolBy {b:List Str} (h:PoolW b):PoolW (bodyBy b):=by
 unfold bodyBy
 split
 ·exact λ_ m=>(nomatch m)
 ·exact h
theorem u5q:∀(rest:List (List Str)) (n:Nat) (a k a' k':List RR),readL n a k rest=.inr (a',k')->(∀ws∈rest,RowW ws/\PoolW ws)->GRs a->PoolR a->GRs k->GRs a'/\PoolR a'/\GRs k'
 | [],n,a,k,a',k',e,_,h1,h2,h3=>by
  rw[readL] at e
  cases e
  exact⟨h1,h2,h3⟩
 | ws::rest,n,a,k,a',k',e,hw,h1,h2,h3=>by
  obtain⟨rw1,pw⟩:=hw ws (by simp)
  have wd:=rw1.wd
  have g0:=v2F wd.g rw1.ne
  have hw':=λv m=>hw v (z0 _ m)
  rw[readL] at e
  cases hk:rowK a k ws with
  | none=>rw[hk] at e;cases e
  | some p =>
   obtain⟨a1,k1⟩:=p
   rw[hk] at e
   unfold rowK at hk
   split at hk
   ·cases hk
    refine u5q rest _ _ _ _ _ e hw' (λp m=>?_) (λp m=>?_) h3
    ·rcases x9.mp m with m | m
     ·exact h1 p m
     ·obtain ⟨b,hb,rfl⟩:=w6.mp m
      exact⟨g0,goodBy λy hy=>wd.g y (z0B (u1P _ _ b hb y hy))⟩
    ·rcases x9.mp m with m | m
     ·exact h2 p m
     ·obtain ⟨b,hb,rfl⟩:=w6.mp m
      exact poolBy λy hy=>pw y (z0B (u1P _ _ b hb y hy))
   ·split at hk
    ·cases hk
     refine u5q rest _ _ _ _ _ e hw' h1 h2 λp m=>?_
     rcases x9.mp m with m|m
     ·exact h3 p m
     ·rw [y6.mp m]
      exact⟨g0,λy hy=>wd.g y (z0B hy)⟩
    ·cases hk
def u2o {a:List RR} (h:GRs a):goodDs (a.map rT)=true:=u7d λd hd=>by
 obtain⟨p,hp,rfl⟩:=w6.mp hd
 obtain⟨h1,h2⟩:=h p hp
 exact v3Z h1 (v1r h2)
theorem u8r:∀ss:List Str,depDs (ss.map D.str)=0
 | []=>rfl
 | z::ss=>by simp[depDs,depD,u8r ss]
theorem u2r:∀a:List RR,depDs (a.map rT)<=2
 | []=>by simp[depDs]
 | p::a=>by
  have:=u2r a
  simp[depDs,depD,rT,u8r]
  omega
def hand8 {a:List RR} (h:GRs a) (hp:PoolR a):Hand (dR a) where
 g:=u2o h
 dp:=by have:=u2r a;simp[depD];omega
 few e:=by
  obtain⟨e1,l1,l2,ok⟩:=u4X e (u2o h)
  refine⟨ok,l2,?_⟩
  have:(sgL [] (rsOf (dR a))).length<=SG8.length:=sub_len (v4n (rs:=rsOf (dR a)) (ss:=[]) (by simp)) (u8R (P:=λz=>z∈SG8) (λz hz=>(nomatch hz)) λp hpm b hb s=>by
   obtain⟨d,hd,ed⟩:=z3C.mp hpm
   obtain⟨q,hq,rfl⟩:=w6.mp hd
   have:=rT_inj (u5Q ed).1
   subst this
   exact hp q hq b hb s)
  exact z0A this sg8_len
def handK8 {k:List RR} (h:GRs k):HandK (dR k) where
 g:=u2o h
 dp:=by have:=u2r k;simp[depD];omega
 rk:=by
  rintro xs (e|e) x hx
  ·cases e
   obtain⟨p,hp,rfl⟩:=w6.mp hx
   show isOkR (cmpD (.str p.1))=true
   rw[u1l (u2c (h p hp).1).1]
   rfl
  ·cases e
def v4b {A:Adr}{r k:D} (hr:Hand r) (hk:HandK (toldD k)):gInit A [r,k]=((dueAll r (toldD k)).toR A).bind λ_=>.ok (gFlds r k):=if_pos ⟨hr,hk⟩
noncomputable def tell (a k:List RR):D:=match dueAll (dR a) (dR k) with
 | .fine=>.tup [.str "told",.lst [.tup (a.map rT),.tup (k.map rT)]]
 | u=>u.toD
noncomputable def res8:Nat ⊕ (List RR×List RR)->D
 | .inl n=>.tup [.str "text",dN n]
 | .inr (a,k)=>tell a k
structure Told (G:FD):Prop where
 t:∀rows,Rows8 rows->G [.str (txt rows)]=.ok (res8 (readL 0 [] [] rows))
 o:∀d,gIsA [d,.ty "str"]=.ok (.bl false)->G [d]=.ok (.tup [.str "text",.int 0])
abbrev TDue (G:FD):Prop:=∀rows,Rows8 rows->G [.str (txt rows)]=.ok (res8 (readL 0 [] [] rows))
def be_kr:(Str.ofString "ranks"==Str.ofString "rules")=false:=by decide +kernel
structure Hnd (K:W.Frag) (A:Adr):Prop where
 xb_NoText:xbB K A.NoText=true
 sb_NoText_NoText:subK K A.NoText A.NoText=true
 xb_NoRule:xbB K A.NoRule=true
 sb_NoRule_NoText:subK K A.NoRule A.NoText=false
 sb_NoRule_NoRule:subK K A.NoRule A.NoRule=true
 xb_Doubled:xbB K A.Doubled=true
 sb_Doubled_NoText:subK K A.Doubled A.NoText=false
 sb_Doubled_NoRule:subK K A.Doubled A.NoRule=false
 sb_Doubled_Doubled:subK K A.Doubled A.Doubled=true
 xb_NoHead:xbB K A.NoHead=true
 sb_NoHead_NoText:subK K A.NoHead A.NoText=false
 sb_NoHead_NoRule:subK K A.NoHead A.NoRule=false
 sb_NoHead_Doubled:subK K A.NoHead A.Doubled=false
 sb_NoHead_NoHead:subK K A.NoHead A.NoHead=true
 xb_NoRanks:xbB K A.NoRanks=true
 sb_NoRanks_NoText:subK K A.NoRanks A.NoText=false
 sb_NoRanks_NoRule:subK K A.NoRanks A.NoRule=false
 sb_NoRanks_Doubled:subK K A.NoRanks A.Doubled=false
 sb_NoRanks_NoHead:subK K A.NoRanks A.NoHead=false
 sb_NoRanks_NoRanks:subK K A.NoRanks A.NoRanks=true
 xb_TooMany:xbB K A.TooMany=true
 sb_TooMany_NoText:subK K A.TooMany A.NoText=false
 sb_TooMany_NoRule:subK K A.TooMany A.NoRule=false
 sb_TooMany_Doubled:subK K A.TooMany A.Doubled=false
 sb_TooMany_NoHead:subK K A.TooMany A.NoHead=false
 sb_TooMany_NoRanks:subK K A.TooMany A.NoRanks=false
 sb_TooMany_TooMany:subK K A.TooMany A.TooMany=true
section
variable {P:Program}{w:World}{K:W.Frag}{mg:MG}{base:Heap}{f:Addr}{fd:FuncData}{A:Adr}
def u9d {a1b:FD} (a3g:CalleeX P w K mg base 9 "read_grammar" ["text"] a1b) (a4q:ReadP A a1b) (Hn:Hnd K A) (F:Fun K "_law_told" "_law_told" u4h f fd) (T:Txt K mg A):∃G,FnOk P w K mg base (CXe P w) 10 f fd ["_law_text"] (spX K G)/\Told G:=by
 refine⟨_,F.okTX (k:=9) u0s (λcdv Ar outer s H E hr hq=>u0d (ds_n u0s.nd u2j)
  (u0d (ds_tryE ⟨rfl,rfl⟩ (λpn xq1 hq=>u0e (ds_n u0s.nd (u7p hq a3g hr (u0a (dv 0) u0b))))
  (u6C (i:=3) ⟨rfl,rfl⟩ u0s.nd T.m_NoText T.b_NoText (λex=>u0e (ds_n u0s.nd (u0h (u0a u0i (u0a (u6D T.x_line (dv 3)) u0b)))))
  (u6C (i:=3) ⟨rfl,rfl⟩ u0s.nd T.m_NoRule T.b_NoRule (λex=>u0e (ds_n u0s.nd (u0h (u0a u0i (u0a (u6D T.x_found (dv 3)) u0b)))))
  (u6C (i:=3) ⟨rfl,rfl⟩ u0s.nd T.m_Doubled T.b_Doubled (λex=>u0e (ds_n u0s.nd (u0h (u0a u0i (u0a (u6D T.x_number (dv 3)) u0b)))))
  (u6C (i:=3) ⟨rfl,rfl⟩ u0s.nd T.m_NoHead T.b_NoHead (λex=>u0e (ds_n u0s.nd (u0h (u0a u0i (u0a (u6D T.x_head (dv 3)) u0b)))))
  (u6C (i:=3) ⟨rfl,rfl⟩ u0s.nd T.m_NoRanks T.b_NoRanks (λex=>u0e (ds_n u0s.nd (u0h (u0a u0i (u0a (u6D T.x_found (dv 3)) u0b)))))
  (u6C (i:=3) ⟨rfl,rfl⟩ u0s.nd T.m_TooMany T.b_TooMany (λex=>u0e (ds_n u0s.nd (u0h (u0a u0i (u0a (u6D T.x_found (dv 3)) u0b)))))
  (dh_noK ⟨rfl,rfl⟩ T.m_TableError T.b_TableError (λex=>u0e (ds_n u0s.nd (u0h (u0a u0i (u0a u0c u0b)))))
  (dh_nil hq))))))))
  (u0e (ds_n u0s.nd (u0h (u0a u0i (u0a (u0F (u0a (d_fld T.cls T.na_rules (dv 2)) (u0a (d_fld T.cls T.na_ranks (dv 2)) u0b))) u0b))))))
  (u0e (u0g (dv 1))))),?_⟩
 refine⟨λrows hr=>?_,λd hd=>?_⟩
 rotate_left
 ·have e:=a4q.o d hd
  simp[runX,startD,e,catchE,hdAs,Hn.xb_NoText,Hn.sb_NoText_NoText,unset,List.lookup,dN]
 have e:=a4q.t rows hr.toRows
 cases hres:readL 0 [] [] rows with
 | inl n =>
  rw[hres] at e
  simp[runX,startD,e,OutG,catchE,hdAs,Hn.xb_NoText,Hn.sb_NoText_NoText,unset,List.lookup,res8]
 | inr p =>
  obtain⟨a,k⟩:=p
  rw[hres] at e
  obtain⟨g1,g2,g3⟩:=u5q rows 0 [] [] a k hres (λws m=>⟨hr.r ws m,hr.p ws m⟩) (λ_ m=>(nomatch m)) (λ_ m=>(nomatch m)) (λ_ m=>(nomatch m))
  have gi:=v4b (A:=A) (k:=dR k) (hand8 g1 g2) (handK8 g3)
  rw[show toldD (dR k)=dR k from rfl] at gi
  have e:a1b [.str (txt rows)]=(gInit A [dR a,dR k]).bind λfs=>.ok (.ins A.Grammar fs):=e
  rw[gi] at e
  rw[show res8 (.inr (a,k))=tell a k from rfl]
  unfold tell
  cases u:dueAll (dR a) (dR k) with
  | fine =>
   rw[u] at e
   have f1:(gFlds (dR a) (dR k)).lookup ("rules":Str)=some (.tup (a.map rT)):=rfl
   have f2:(gFlds (dR a) (dR k)).lookup ("ranks":Str)=some (.tup (k.map rT)):=by
    simp[gFlds,List.lookup,be_kr,itemsD,toldD]
   simp[runX,startD,e,Due.toR,catchE,fldD,f1,f2]
  | rule x =>
   rw[u] at e
   simp[runX,startD,e,Due.toR,Due.toD,catchE,hdAs,Hn.xb_NoRule,Hn.sb_NoRule_NoText,Hn.sb_NoRule_NoRule,unset,List.lookup]
  | dbl x =>
   rw[u] at e
   simp[runX,startD,e,Due.toR,Due.toD,catchE,hdAs,Hn.xb_Doubled,Hn.sb_Doubled_NoText,Hn.sb_Doubled_NoRule,Hn.sb_Doubled_Doubled,unset,List.lookup]
  | head x =>
   rw[u] at e
   simp[runX,startD,e,Due.toR,Due.toD,catchE,hdAs,Hn.xb_NoHead,Hn.sb_NoHead_NoText,Hn.sb_NoHead_NoRule,Hn.sb_NoHead_Doubled,Hn.sb_NoHead_NoHead,unset,List.lookup]
  | ranks x =>
   rw[u] at e
   simp[runX,startD,e,Due.toR,Due.toD,catchE,hdAs,Hn.xb_NoRanks,Hn.sb_NoRanks_NoText,Hn.sb_NoRanks_NoRule,Hn.sb_NoRanks_Doubled,Hn.sb_NoRanks_NoHead,Hn.sb_NoRanks_NoRanks,unset,List.lookup]
  | many x =>
   rw[u] at e
   simp[runX,startD,e,Due.toR,Due.toD,catchE,hdAs,Hn.xb_TooMany,Hn.sb_TooMany_NoText,Hn.sb_TooMany_NoRule,Hn.sb_TooMany_Doubled,Hn.sb_TooMany_NoHead,Hn.sb_TooMany_NoRanks,Hn.sb_TooMany_TooMany,unset,List.lookup]
def u5t {a3n:FD} (a4k:Callee P w K mg base 3 "_law_read" ["_law_text"] (spF K a3n)) {a4c:FD} (a4s:Callee P w K mg base 4 "_law_due" ["_law_rules_here","_law_ranks_here"] (spF K a4c)) (a4q:LRead a3n) (a4w:∀r k,Hand r->HandK k->a4c [r,k]=.ok (dueAll r k).toD) (F:Fun K "_law_text_due" "_law_text_due" u2h f fd) (T:Txt K mg A):∃G,FnOk P w K mg base CX0 5 f fd ["_law_text"] (spF K G)/\TDue G:=by
 refine⟨_,F.okT (k:=4) u0R (λcdv Ar outer s H E hr=>u0d (v4F (d_fn a4k hr (u0a (dv 0) u0b)) (v4H (n:=3) rfl (u0r (dg_n u0R.nd) (u0r (dg_n u0R.nd) (u0r (dg_n u0R.nd) u1H)))))
  (u0d (u0v (u0m u9o (dv 1) u2j) (u0e (u0g (u0h (u0a u0i (u0a (dv 1) u0b))))) u0n)
  (u0d (ds_n u0R.nd (d_fn a4s hr (u0a (dv 2) (u0a (dv 3) u0b))))
  (u0d (u0v (u0m o_is (dv 4) u2j) (u0e (ds_n u0R.nd (u0h (u0a u0i (u0a (u0F (u0a (d_T u1C T.z_tuple (by decide +kernel) (u0a (dv 2) u0b)) (u0a (d_T u1C T.z_tuple (by decide +kernel) (u0a (dv 3) u0b)) u0b))) u0b))))) u0n)
  (u0e (u0g (dv 4))))))),?_⟩
 intro rows hr
 have e:=a4q rows hr.toRows
 have asl:∀x y z:D,asL 3 (.lst [x,y,z])=.ok [x,y,z]:=λ_ _ _=>rfl
 cases hres:readL 0 [] [] rows with
 | inl n =>
  rw[hres] at e
  have i1:dIsNot (dN n) .non=.ok (.bl true):=rfl
  simp[runT,startD,e,resD,res8,i1,asl]
 | inr p =>
  obtain⟨a,k⟩:=p
  rw[hres] at e
  obtain⟨g1,g2,g3⟩:=u5q rows 0 [] [] a k hres (λws m=>⟨hr.r ws m,hr.p ws m⟩) (λ_ m=>(nomatch m)) (λ_ m=>(nomatch m)) (λ_ m=>(nomatch m))
  have d1:=a4w (dR a) (dR k) (hand8 g1 g2) (handK8 g3)
  have i1:dIsNot .non .non=.ok (.bl false):=rfl
  have i2:dIs .non .non=.ok (.bl true):=rfl
  have i3:∀x,dIs (.tup x) .non=.ok (.bl false):=λ_=>rfl
  have t1:gTuple [dR a]=.ok (.tup (a.map rT)):=rfl
  have t2:gTuple [dR k]=.ok (.tup (k.map rT)):=rfl
  rw[show res8 (.inr (a,k))=tell a k from rfl]
  unfold tell
  cases u:dueAll (dR a) (dR k)<;>rw[u] at d1<;>simp[runT,startD,e,resD,i1,i2,i3,t1,t2,d1,Due.toD,asl]
end
structure W8 (x:Str):Prop where
 g:goodS x=true
 l:x.length<=8
 no:noB x
 p:sgnS x=true->x∈SG8
def words8:∀x∈WORDS8,goodS x=true/\x.length<=8/\32∉x.cps.toList/\10∉x.cps.toList:=by decide +kernel
def u2t {x:Str} (h:x∈WORDS8):W8 x:=by
 obtain⟨a,b,c,d⟩:=words8 x h
 exact⟨a,b,⟨c,d⟩,λ_=>u6 _ h⟩
inductive R8 (m:Nat) (z:Str):Prop
 | mk (ws:List Str) (q0:z=Txt.join BL ws) (q1:ws≠[]) (q2:ws.length<=m) (q3:∀x∈ws,W8 x)
abbrev Word (G:FD):Prop:=∀n:Nat,∃x∈WORDS8,G [dN n]=.ok (.str x)
def u9W:Txt.join BL []=("":Str):=by decide +kernel
def empty8:W8 ("":Str):=u2t (by decide +kernel)
def u5r {m:Nat} (hm:1<=m) {ws:List Str} (hl:ws.length<=m) (h:∀x∈ws,W8 x):R8 m (Txt.join BL ws):=by
 by_cases e:ws=[]
 ·subst e
  exact⟨[""],by rw[u9W,u4T],by simp,by simpa using hm,λx m=>by rw[y6.mp m];exact empty8⟩
 ·exact⟨ws,rfl,e,hl,h⟩
def u7a {ws:List Str} (hl:ws.length<=1000) (h:∀x∈ws,W8 x):joinD " " (dS ws)=.ok (.str (Txt.join BL ws)):=u9X (n:=8) (m:=1000) (λx m=>(h x m).l) rfl hl (by decide)
def R8.rowW {z:Str}{m:Nat} (hm:m<=102) (h:R8 m z):∃ws,z=Txt.join BL ws/\RowW ws/\PoolW ws:=by
 obtain⟨ws,e,hn,hl,hw⟩:=h
 exact⟨ws,e,⟨hn,λx m=>(hw x m).g,λx m=>(hw x m).no,by omega⟩,λx m=>(hw x m).p⟩
section
variable {P:Program}{w:World}{K:W.Frag}{mg:MG}{base:Heap}{f:Addr}{fd:FuncData}{A:Adr}
def u9b (F:Fun K "_law_word" "_law_word" u4g f fd) (T:Txt K mg A):∃G,FnOk P w K mg base CX0 1 f fd ["_law_number"] (spF K G)/\Word G:=by
 refine⟨_,F.okT (k:=0) u2v (λcdv Ar outer s H E hr=>u0d (ds_n u2v.nd (u0F (u0a u0i (u0a u0i (u0a u0i (u0a u0i (u0a u0i (u0a u0i (u0a u0i (u0a u0i (u0a u0i (u0a u0i (u0a u0i (u0a u0i (u0a u0i (u0a u0i (u0a u0i (u0a u0i (u0a u0i (u0a u0i u0b))))))))))))))))))))
  (u0d (ds_n u2v.nd (d_op u0E (dv 1) (u0F (u0a u0i (u0a u0i (u0a u0i (u0a u0i (u0a u0i (u0a u0i (u0a u0i (u0a u0i (u0a u0i (u0a u0i (u0a u0i (u0a u0i (u0a u0i (u0a u0i (u0a u0i u0b))))))))))))))))))
  (u0d (ds_n u2v.nd (d_op u0E (dv 1) (u0F (u0a u0i (u0a u0i (u0a u0i (u0a u0i (u0a u0i (u0a u0i (u0a u0i u0b))))))))))
  (u0e (u0g (d_ix x_ix (dv 1) (d_op u1c (dv 0) u0c))))))),?_⟩
 intro n
 obtain⟨i,ei,hi⟩:=modZ (n:Int) (b:=40) (by omega)
 have s2:dMod (.int (n:Int)) (.int 40)=.ok (dN i):=by rw[u0G (by omega),ei]
 obtain⟨x,hm,s3⟩:=u3P (c:=D.str) (rs:=WORDS8) (i:=i) (by show i<40;omega)
 refine⟨x,hm,?_⟩
 simp[runT,startD,s2,u8K,-u0k,-u0f,-zb,-zg,-zn,bN,gN,nN]
 refine Eq.trans (congrArg (λr=>noE (outR ((noE r).go _ λd=>Out.rt d))) s3) ?_
 rfl
end
abbrev Wild (G:FD):Prop:=∀(ns:List Int) (i:Nat),∃zs:List Str,G [scr ns,dN i]=.ok (dS zs)/\zs.length<=8/\∀z∈zs,R8 12 z
inductive Swi (a0 a1:Option Sl) (rs:List Nat) (k:Nat) (ρ:Rho):Prop
 | mk (zs:List Str) (a b:Option Sl) (q0:ρ=[a0,a1,some (.val (.lst (rs.map dN))),some (.own (.l (zs.map D.str))),a,b]) (q1:zs.length=k) (q2:∀z∈zs,R8 12 z)
inductive Qwi (n:Nat) (o:Out):Prop
 | mk (ρ:Rho) (zs:List Str) (q0:o=.nx ρ) (q1:getV (frz ρ) 3=.ok (dS zs)) (q2:zs.length=n) (q3:∀z∈zs,R8 12 z)
def gtI (i j:Int):dGt (.int i) (.int j)=.ok (.bl (decide (i > j))):=rfl
section
variable {P:Program}{w:World}{K:W.Frag}{mg:MG}{base:Heap}{f:Addr}{fd:FuncData}{A:Adr}
def u9c {a0b:FD} (a0f:Callee P w K mg base 2 "_law_row" ["_law_script","_law_at","_law_base","_law_count"] (spF K a0b)) {a1c:FD} (a0t:Callee P w K mg base 1 "_law_word" ["_law_number"] (spF K a1c)) (a2l:Row a0b) (a4o:Word a1c) (F:Fun K "_law_wild" "_law_wild" u2m f fd) (T:Txt K mg A):∃G,FnOk P w K mg base CX0 3 f fd ["_law_script","_law_at"] (spF K G)/\Wild G:=by
 refine⟨_,F.okT (k:=2) u1B (λcdv Ar outer s H E hr=>u0d (ds_n u1B.nd (d_fn a0f hr (u0a (dv 0) (u0a (dv 1) (u0a (d_op u0Z u0c u0c) (u0a u0c u0b))))))
  (u0d (u1e u1B.nd (u2q u0b))
  (u0d (u0Y rfl (u1Y T.z_range (u0a (d_op u1c (d_ix x_ix (dv 2) u0c) u0c) u0b)) (dg_n u1B.nd)
  (u0d (u4Y ["_law_j"] [2,4] rfl (u0q (sc:=defScope u2m) (N:=["_law_script","_law_at","_law_draws","_law_rows","_law_k","_law_words"]) (by decide +kernel)) u1B.nd (u1Y T.z_range (u0a (d_op u1c (d_ix x_ix (dv 2) (d_op u0E (d_op u0Z u0c (dv 4)) u0c)) u0c) u0b)) (dg_n (show (["_law_j","_law_draws","_law_k"]:List Str).Nodup by decide +kernel)) u1A (d_fn a0t hr (u0a (d_ix x_ix (dv 1) (d_op u0E (d_op u0E (d_op u0Z u0c (dv 2)) (dv 0)) u0c)) u0b)))
   (u0d (u0v (u0m o_gt (d_op u1c (d_op u6c (d_ix x_ix (dv 2) (d_op u0E (d_op u0Z u0c (dv 4)) u0c)) u0c) u0c) u0c) (u0e (ds_n u1B.nd (d_op u0E (u0F (u0a (d_fn a0t hr (u0a (d_op u1c (d_op u6c (d_ix x_ix (dv 2) (d_op u0E (d_op u0Z u0c (dv 4)) u0c)) u0c) u0c) u0b)) (u0a u0i u0b))) (DN.de (u0T ["_law_word_here"] [] rfl (u0q (sc:=defScope u2m) (N:=["_law_script","_law_at","_law_draws","_law_rows","_law_k","_law_words"]) (by decide +kernel)) (u0A (dv 5)) (dg_n (show(["_law_word_here"]:List Str).Nodup by decide +kernel)) (u5M (u0m (o_ne (hu64 hr)) (dv 0) u0i)) (dv 0)))))) u0n)
   (u0e (u1f 3 (u3V (dv 5)))))))
  (u0e (u0g (dv 3)))))),?_⟩
 intro ns i
 refine bc λhZ=>?_
 obtain⟨rs,er,hl,hb⟩:=a2l ns i 360 70 (by omega) (by omega) (by omega)
 have m0:dMulX (.int 40) (.int 9)=.ok (.int 360):=u2n (by omega)
 have er':a0b [scr ns,dN i,.int 360,.int 70]=.ok (.lst (rs.map dN)):=er
 have x0:=ix_m (c:=dN) (rs:=rs) (i:=0) (by omega)
 obtain⟨n,en,hn⟩:=modZ ((rs[0]'(by omega):Nat):Int) (b:=9) (by omega)
 refine hZ ?_
 have d0:dMod (dN (rs[0]'(by omega))) (.int 9)=.ok (dN n):=by
  show dMod (.int _) (.int 9)=_
  rw[u0G (by omega),en]
 have x0':dIx (.lst (rs.map dN)) (.int 0)=.ok (dN (rs[0]'(by omega))):=x0
 have r0:rng1 [dN n]=.ok (intL 0 n):=u8Y (by omega)
 generalize (rs[0]'(by omega))=q0 at d0 x0' en
 simp[runT,startD,m0,er',x0',d0,r0,-u0k,-u0f,-zb,-zg,-zn,bN,gN,nN]
 generalize hI:forD _ _ _ _=o
 have q:Qwi n o:=by
  rw[<- hI]
  refine u4W (n:=n) (Swi _ _ rs) (Qwi n) ⟨[],none,none,rfl,rfl,λz h=>(nomatch h)⟩ ?_ ?_
  ·rintro ρ ⟨zs,a,b,rfl,hz,hr⟩
   exact⟨_,zs,rfl,by simp,hz,hr⟩
  ·rintro k ρ hk ⟨zs,a,b,rfl,hz,hr⟩
   refine⟨_,rfl,.inl ?_⟩
   have hk8:k<8:=by omega
   have t1:dMulX (.int 7) (dN k)=.ok (.int (7*(k:Int))):=u2n (by omega)
   have x1:=ix_m (c:=dN) (rs:=rs) (i:=7*k+1) (by omega)
   have x1':dIx (.lst (rs.map dN)) (.int (7*(k:Int)+1))=.ok (dN (rs[7*k+1]'(by omega))):=by
    rw[show(7*(k:Int)+1)=((7*k+1:Nat):Int) by omega];exact x1
   refine bc λhZ=>?_
   obtain⟨m,em,hm⟩:=modZ ((rs[7*k+1]'(by omega):Nat):Int) (b:=8) (by omega)
   have d1:dMod (dN (rs[7*k+1]'(by omega))) (.int 8)=.ok (dN m):=by
    show dMod (.int _) (.int 8)=_
    rw[u0G (by omega),em]
   obtain⟨c4,e4,h4⟩:=modZ (((rs[7*k+1]'(by omega):Nat):Int) / 8) (b:=4) (by omega)
   have d2:dDiv (dN (rs[7*k+1]'(by omega))) (.int 8)=.ok (.int (((rs[7*k+1]'(by omega):Nat):Int) / 8)):=u3o (by omega) (by omega)
   have d3:dMod (.int (((rs[7*k+1]'(by omega):Nat):Int) / 8)) (.int 4)=.ok (dN c4):=by rw[u0G (by omega),e4]
   obtain⟨c5,e5,h5⟩:=modZ (((rs[7*k+1]'(by omega):Nat):Int) / 32) (b:=5) (by omega)
   have d4:dDiv (dN (rs[7*k+1]'(by omega))) (.int 32)=.ok (.int (((rs[7*k+1]'(by omega):Nat):Int) / 32)):=u3o (by omega) (by omega)
   have d5:dMod (.int (((rs[7*k+1]'(by omega):Nat):Int) / 32)) (.int 5)=.ok (dN c5):=by rw[u0G (by omega),e5]
   obtain⟨w1,hw1,ew1⟩:=a4o c5
   refine hZ ?_
   have r1:rng1 [dN m]=.ok (intL 0 m):=u8Y (by omega)
   have hsz:zs.length<sizeLine:=u5z (by omega)
   generalize (rs[7*k+1]'(by omega))=v at x1' d1 d2 d3 d4 d5 em e4 e5
   generalize (v:Int) / 8=v8 at d2 d3 e4
   generalize (v:Int) / 32=v32 at d4 d5 e5
   have a1:dAdd (.int (7*(k:Int))) (.int 1)=.ok (.int (7*(k:Int)+1)):=rfl
   simp[t1,a1,x1',d1,r1,gdI (show m<=1000 by omega),-u0k,-u0f,-zb,-zg,-zn,bN,gN,nN]
   generalize hC:compD _ _ _ _ _=oc
   have qc:∃ys,oc=.ok ys/\ys.length=(intL 0 m).length/\∀y∈ys,∃b,y=D.str b/\b∈WORDS8:=by
    rw[<- hC]
    refine u3X λd hd=>?_
    obtain⟨j,hj,rfl⟩:=u7b hd
    have u1:=ix_m (c:=dN) (rs:=rs) (i:=7*k+j+2) (by omega)
    have u1':dIx (.lst (rs.map dN)) (.int (7*(k:Int)+(j:Int)+2))=.ok (dN (rs[7*k+j+2]'(by omega))):=by
     rw[show(7*(k:Int)+(j:Int)+2)=((7*k+j+2:Nat):Int) by omega];exact u1
    obtain⟨b,hb1,hb2⟩:=a4o (rs[7*k+j+2]'(by omega))
    generalize (rs[7*k+j+2]'(by omega))=v2 at u1' hb2
    have a2:dAdd (.int (7*(k:Int))) (dN j)=.ok (.int (7*(k:Int)+(j:Int))):=rfl
    have a3:dAdd (.int (7*(k:Int)+(j:Int))) (.int 2)=.ok (.int (7*(k:Int)+(j:Int)+2)):=rfl
    exact⟨_,.str b,rfl,by simp,by simp[rhoC,t1,a2,a3,u1',hb2,-u0k,-u0f,-zb,-zg,-zn,bN,gN,nN],b,rfl,hb1⟩
   refine bc λhZ=>?_
   obtain⟨ys,rfl,hy1,hy2⟩:=qc
   obtain⟨ws,rfl,hws⟩:=pull hy2
   refine hZ ?_
   have hwl:ws.length<=8:=by
    have:(ws.map D.str).length=m:=by rw[hy1,v0b]
    rw[v6] at this
    omega
   have ww:∀x∈ws,W8 x:=λx m=>u2t (hws x m)
   by_cases c:c4 > 0
   ·have g1:dGt (dN c4) (.int 0)=.ok (.bl true):=by
     show dGt (.int _) (.int 0)=_
     rw[gtI,decide_eq_true (by omega)]
    have ww2:∀x∈w1::":"::ws.filter (λx=>!(x==(":":Str))),W8 x:=λx m=>by
     rcases z8.mp m with rfl|m
     ·exact u2t hw1
     ·rcases z8.mp m with rfl | m
      ·exact u2t (by decide +kernel)
      ·exact ww x (List.mem_filter.mp m).1
    have hfl:(ws.filter (λx=>!(x==(":":Str)))).length<=8:=v5 (List.length_filter_le _ _) hwl
    have jo:=u7a (ws:=w1::":"::ws.filter (λx=>!(x==(":":Str)))) (by simp;omega) ww2
    have a6:dAdd (.lst [.str w1,.str ":"]) (dS (ws.filter (λx=>!(x==(":":Str)))))=.ok (dS (w1::":"::ws.filter (λx=>!(x==(":":Str))))):=by
     rw[u8K (by simp;omega)];rfl
    simp[d2,d3,g1,d4,d5,ew1,t1,a1,x1',-u0k,-u0f,-zb,-zg,-zn,bN,gN,nN]
    rw[u0w (u0S (by first|omega|(simp;omega))),u4Z (λx=>!(x==(":":Str))) (ws:=ws) (λx hx=>?_)]
    rotate_left
    ·have nx:=ns8 (ww x hx).g tilde.2.1
     exact⟨_,rfl,by simp[rhoC,nx],by simp[rhoC]⟩
    generalize hfv:w1::":"::ws.filter (λx=>!(x==(":":Str)))=fv at a6 jo ww2
    have hfvl:fv.length<=12:=by rw[<- hfv];simp;omega
    refine⟨_,by simp[a6,jo,hsz,-u0k,-u0f,-zb,-zg,-zn,bN,gN,nN];rfl,zs++[Txt.join BL fv],_,_,by simp;exact⟨rfl,rfl⟩,by simp[hz],λz m=>?_⟩
    rcases x9.mp m with m|m
    ·exact hr z m
    ·rw[y6.mp m];exact u5r (by omega) hfvl ww2
   ·have g1:dGt (dN c4) (.int 0)=.ok (.bl false):=by
     show dGt (.int _) (.int 0)=_
     rw[gtI,decide_eq_false (by omega)]
    have jo:=u7a (ws:=ws) (by omega) ww
    refine⟨_,by simp[d2,d3,g1,t1,a1,x1',jo,hsz,-u0k,-u0f,-zb,-zg,-zn,bN,gN,nN];rfl,zs++[Txt.join BL ws],_,_,by simp;exact⟨rfl,rfl⟩,by simp[hz],λz m=>?_⟩
    rcases x9.mp m with m|m
    ·exact hr z m
    ·rw[y6.mp m];exact u5r (by omega) (by omega) ww
 obtain⟨ρ,zs,rfl,e1,hz,hr⟩:=q
 exact⟨zs,by simp[e1,-u0k,-u0f,-zb,-zg,-zn,bN,gN,nN],by omega,hr⟩
end
abbrev A8 (x:Str):Prop:=okH x=true\/okG x=true
def a8_w {x:Str} (h:A8 x):W8 x:=by
 rcases h with h|h
 ·obtain ⟨a,b,c⟩:=u7Y h
  exact⟨b,by have:=u3I (s9.mp a).1;omega,hd_no a,λz=>by rw[c] at z;cases z⟩
 ·obtain ⟨a,b,c⟩:=v1i h
  exact⟨b,by have:=u3I (s9.mp a).1;omega,sg_no a,λ_=>z1I _ c⟩
theorem u3Q:∀ss:List Str,hardDs (ss.map D.str)=true
 | []=>rfl
 | z::ss=>by simp[hardDs,hardD,u3Q ss]
structure RA (m:Nat) (rs:List RR):Prop where
 n1:1<=rs.length
 l:rs.length<=m
 a:∀p∈rs,okH p.1=true/\p.2.length<=4/\∀b∈p.2,A8 b
def ra_gr {rs:List RR} (h:GR rs) (hl:rs.length<=6):RA 6 rs where
 n1:=h.n1
 l:=hl
 a p hp:=⟨(h.hh p hp).ok,((h.v p hp).1).l,λb hb=>by
  rcases h.cl p hp b hb with q|q
  ·obtain ⟨r,hr,rfl⟩:=w6.mp q
   exact .inl (h.hh r hr).ok
  ·exact .inr q⟩
def ra_vr {m:Nat}{rs:List RR} (h:RA m rs):∀p∈rs,VR p:=λp hp=>by
 obtain⟨a,b,c⟩:=h.a p hp
 exact vr_of a b c
abbrev Wider (G:FD):Prop:=∀(ns:List Int) (rs:List RR),RA 6 rs->∃rs',G [scr ns,dR rs]=.ok (dR rs')/\RA 7 rs'
inductive Swd (a0 a1 a2:Option Sl) (ds:List D) (ρ:Rho):Prop
 | mk (rest:List RR) (ss:List Str) (x y:Option Sl) (q0:ds=rest.map rT) (q1:ρ=[a0,a1,a2,some (.own (.l (ss.map D.str))),x,y,none]) (q2:(rest≠[]\/∃d e,x=some (.val d)/\y=some (.val e))) (q3:(∀p∈rest,p.2.length<=4/\∀b∈p.2,A8 b)) (q4:(∀x∈ss,A8 x)) (q5:1<=ss.length) (q6:ss.length+4*rest.length<=100)
inductive Qwd (a0 a1 a2:Option Sl) (o:Out):Prop
 | mk (ss:List Str) (d e:D) (q0:o=.nx [a0,a1,a2,some (.own (.l (ss.map D.str))),some (.val d),some (.val e),none]) (q1:(∀x∈ss,A8 x)) (q2:1<=ss.length) (q3:ss.length<=100)
section
variable {P:Program}{w:World}{K:W.Frag}{mg:MG}{base:Heap}{f:Addr}{fd:FuncData}{A:Adr}
def u7N {a0b:FD} (a0f:Callee P w K mg base 2 "_law_row" ["_law_script","_law_at","_law_base","_law_count"] (spF K a0b)) (a2l:Row a0b) (F:Fun K "_law_wider" "_law_wider" u1T f fd) (T:Txt K mg A):∃G,FnOk P w K mg base CX0 3 f fd ["_law_script","_law_rules_here"] (spF K G)/\Wider G:=by
 refine⟨_,F.okT (k:=2) u1m (λcdv Ar outer s H E hr=>u0d (ds_n u1m.nd (d_fn a0f hr (u0a (dv 0) (u0a u0c (u0a (d_op u0Z u0c u0c) (u0a u0c u0b))))))
  (u0d (u1e u1m.nd (u0T ["_law_head","_law_body"] [] rfl (u0q (sc:=defScope u1T) (N:=["_law_script","_law_rules_here","_law_draws","_law_some","_law_head","_law_body","_law_rule"]) (by decide +kernel)) (u0A (dv 1)) (u3p (n:=2) rfl (u0r (dg_n (show(["_law_head","_law_body"]:List Str).Nodup by decide +kernel)) (u0r (dg_n (show(["_law_head","_law_body"]:List Str).Nodup by decide +kernel)) u1H))) u1A (dv 0)))
  (u0d (u0Y rfl (u0A (DN.de (v2T T.z_list (u0a (dv 1) u0b)))) (u3p (n:=2) rfl (u0r (dg_n u1m.nd) (u0r (dg_n u1m.nd) u1H)))
  (u0e (v2S 3 (DN.de (v2T T.z_list (u0a (dv 5) u0b))))))
  (u0d (ds_n u1m.nd (DE.hard (u0h (u0a (d_ix x_ix (d_ix x_ix (dv 1) (d_op u1c (d_ix x_ix (dv 2) u0c) (d_B u0L T.z_len (by decide +kernel) (u0a (dv 1) u0b)))) u0c) (u0a (d_T u1C T.z_tuple (by decide +kernel) (u0a (DN.de (u0T ["_law_draw"] [3] rfl (u0q (sc:=defScope u1T) (N:=["_law_script","_law_rules_here","_law_draws","_law_some","_law_head","_law_body","_law_rule"]) (by decide +kernel)) (u0A (d_sl (dv 2) (u0t u0c) u0x)) (dg_n (show(["_law_draw","_law_some"]:List Str).Nodup by decide +kernel)) u1A (d_ix x_ix (dv 1) (d_op u1c (dv 0) (d_B u0L T.z_len (by decide +kernel) (u0a (dv 1) u0b)))))) u0b)) u0b)))))
  (u0d (u0v (dt_w (u3l (u0m o_gt (d_op u1c (d_ix x_ix (dv 2) u0c) u0c) u0c) (u2G (u0m (o_in (hu100 hr)) (dv 6) (dv 1))))) (u0e (u0g (dv 1))) u0n)
  (u0e (u0g (d_op u0E (dv 1) (u0F (u0a (dv 6) u0b)))))))))),?_⟩
 intro ns rs hr
 refine bc λhZ=>?_
 obtain⟨ds,er,hl,hb⟩:=a2l ns 8 288 6 (by omega) (by omega) (by omega)
 have m0:dMulX (.int 24) (.int 12)=.ok (.int 288):=u2n (by omega)
 have er':a0b [scr ns,.int 8,.int 288,.int 6]=.ok (.lst (ds.map dN)):=er
 have x0:dIx (.lst (ds.map dN)) (.int 0)=.ok (dN (ds[0]'(by omega))):=ix_m (c:=dN) (rs:=ds) (i:=0) (by omega)
 have x1:dIx (.lst (ds.map dN)) (.int 1)=.ok (dN (ds[1]'(by omega))):=ix_m (c:=dN) (rs:=ds) (i:=1) (by omega)
 obtain⟨cs,hcs,sl⟩:∃cs:List Nat,cs.length=4/\dSl (.lst (ds.map dN)) (some 2) none=.ok (.lst (cs.map dN)):=by
  match ds,hl with
  | d0::d1::r,hl =>
   refine⟨r,by simpa using hl,?_⟩
   show Res.ok (D.lst (cutC (dN d0::dN d1::r.map dN) (some 2) none))=_
   rw[cut_2]
 refine hZ ?_
 generalize (ds[0]'(by omega))=q0 at x0
 generalize (ds[1]'(by omega))=q1 at x1
 have h1:=hr.n1
 have h6:=hr.l
 have gl:seqOf [dR rs]=.ok (.l (rs.map rT)):=rfl
 simp[runT,startD,m0,er',-u0k,-u0f,-zb,-zg,-zn,bN,gN,nN]
 rw[u0w (u0S (by first|omega|(simp;omega))),u1o rT (λp=>D.str p.1) (λp hp=>⟨_,rfl,rfl,by simp[rhoC]⟩)]
 simp[gl,-u0k,-u0f,-zb,-zg,-zn,bN,gN,nN]
 generalize hI:forD _ _ _ _=o
 have q:Qwd (some (.val (scr ns))) (some (.val (dR rs))) (some (.val (.lst (ds.map dN)))) o:=by
  rw[<- hI]
  refine u3h (Swd (some (.val (scr ns))) (some (.val (dR rs))) (some (.val (.lst (ds.map dN))))) (Qwd (some (.val (scr ns))) (some (.val (dR rs))) (some (.val (.lst (ds.map dN))))) ?_ ?_ (rs.map rT) _ ⟨rs,rs.map (·.1),none,none,rfl,by simp[Function.comp_def],.inl (z2D.mp h1),λp hp=>(hr.a p hp).2,λx m=>?_,by simpa using h1,by simp;omega⟩
  ·intro ρ hY
   refine bc λhZ=>?_
   obtain⟨rest,ss,x,y,e,rfl,nx,hp,ha,hs1,hs2⟩:=hY
   refine hZ ?_
   have h1:rest=[]:=by simpa using e.symm
   rcases nx with nx|⟨d,e,rfl,rfl⟩
   ·exact absurd h1 nx
   ·exact⟨ss,d,e,rfl,ha,hs1,by omega⟩
  ·intro d ds ρ hY
   refine bc λhZ=>?_
   obtain⟨rest,ss,x,y,e,rfl,nx,hp,ha,hs1,hs2⟩:=hY
   refine hZ ?_
   match rest,hp,hs2,e with
   | [],_,_,e=>simp at e
   | p::rest,hp,hs2,e =>
    rw[w5] at e
    obtain⟨rfl,rfl⟩:=List.cons.inj e
    obtain⟨hl4,hA⟩:=hp p (by simp)
    simp only[u9] at hs2
    have gs:seqOf [.tup (p.2.map D.str)]=.ok (.l (p.2.map D.str)):=rfl
    have hsz:ss.length+p.2.length<=sizeLine:=u3A (by omega)
    refine⟨_,rfl,.inl ⟨_,by simp[gs,hsz,-u0k,-u0f,-zb,-zg,-zn,bN,gN,nN];rfl,rest,ss++p.2,_,_,rfl,by simp;exact⟨rfl,rfl⟩,.inr ⟨_,_,rfl,rfl⟩,λq m=>hp q (z0 _ m),λx m=>?_,by simp;omega,by simp;omega⟩⟩
    rcases x9.mp m with m|m
    ·exact ha x m
    ·exact hA x m
  ·obtain ⟨p,hp,rfl⟩:=w6.mp m
   exact .inl (hr.a p hp).1
 refine bc λhZ=>?_
 obtain⟨ss,dx,dy,rfl,ha,hs1,hs2⟩:=q
 have ow:ownL [some (.val (scr ns)),some (.val (dR rs)),some (.val (.lst (ds.map dN))),some (.own (.l (ss.map D.str))),some (.val dx),some (.val dy),none]=true:=rfl
 obtain⟨j,ej,hj⟩:=modZ (q1:Int) (b:=(rs.length:Int)) (by omega)
 refine hZ ?_
 have s1:dMod (dN q1) (.int (rs.length:Int))=.ok (dN j):=by
  show dMod (.int _) _=_
  rw[u0G (by omega),ej]
 have s2:dIx (.lst (rs.map rT)) (dN j)=.ok (rT (rs[j]'(by omega))):=ix_m (c:=rT) (rs:=rs) (i:=j) (by omega)
 have hmem:(rs[j]'(by omega))∈rs:=z0F _
 generalize (rs[j]'(by omega))=p0 at s2 hmem
 have s3:dIx (rT p0) (.int 0)=.ok (.str p0.1):=ix_0 _ _
 obtain⟨k4,e4,h4⟩:=modZ (q0:Int) (b:=4) (by omega)
 have s4:dMod (dN q0) (.int 4)=.ok (dN k4):=by
  show dMod (.int _) _=_
  rw[u0G (by omega),e4]
 have g4:dGt (dN k4) (.int 0)=.ok (.bl (decide (0<k4))):=by
  show dGt (.int _) (.int 0)=_
  rw[gtI]
  congr 2
  exact decide_eq_decide.mpr ⟨λh=>by omega,λh=>by omega⟩
 simp[x1,s1,s2,s3,sl,asI,-u0k,-u0f,-zb,-zg,-zn,bN,gN,nN]
 rw[u0w (u3A (by omega))]
 generalize hC:compD _ _ _ _ _=oc
 have qc:∃ys,oc=.ok ys/\ys.length=(cs.map dN).length/\∀y∈ys,∃b,y=D.str b/\A8 b:=by
  rw[<- hC]
  refine u3X λd hd=>?_
  refine bc λhZ=>?_
  obtain⟨v,hv,rfl⟩:=w6.mp hd
  obtain⟨t,et,ht⟩:=modZ (v:Int) (b:=(ss.length:Int)) (by omega)
  have t1:dMod (dN v) (.int (ss.length:Int))=.ok (dN t):=by
   show dMod (.int _) _=_
   rw[u0G (by omega),et]
  obtain⟨b,hb,t2⟩:=u3P (c:=D.str) (rs:=ss) (i:=t) (by omega)
  refine hZ ?_
  have t2':dIx (.lst (ss.map D.str)) (dN t)=.ok (.str b):=t2
  exact⟨_,.str b,rfl,by simp,by simp[rhoC,t1,t2',-u0k,-u0f,-zb,-zg,-zn,bN,gN,nN],b,rfl,ha b hb⟩
 refine bc λhZ=>?_
 obtain⟨ys,rfl,hy1,hy2⟩:=qc
 obtain⟨bs,rfl,hbA⟩:=pull hy2
 refine hZ ?_
 have hbl:bs.length=4:=by
  have:(bs.map D.str).length=4:=by rw[hy1,v6,hcs]
  simpa using this
 have gt:gTuple [dS bs]=.ok (.tup (bs.map D.str)):=rfl
 have v:VR (p0.1,bs):=vr_of (hr.a p0 hmem).1 (by omega) hbA
 have inn:dIn (.tup [.str p0.1,.tup (bs.map D.str)]) (.lst (rs.map rT))=.ok (.bl (decide ((p0.1,bs)∈rs))):=by
  rw[show dIn (.tup [.str p0.1,.tup (bs.map D.str)]) (.lst (rs.map rT))=inD (rT (p0.1,bs)) (rs.map rT) false from u2D false _ _,u7c v.1 λq hq=>(ra_vr hr q hq).1]
  rfl
 have ad:dAdd (.lst (rs.map rT)) (.lst [.tup [.str p0.1,.tup (bs.map D.str)]])=.ok (dR (rs++[(p0.1,bs)])):=by
  rw[u8K (by simp;omega)]
  simp[rT]
 have l4:bs.length<=sizeLine:=u3A (by omega)
 have r7:RA 7 rs:=⟨h1,by omega,hr.a⟩
 by_cases c0:0<k4
 ·rw [decide_eq_true c0] at g4
  exact⟨rs,by simp[gt,hardC,ow,l4,hardD,hardDs,u3Q,u1p,x0,s4,g4,-u0k,-u0f,-zb,-zg,-zn,bN,gN,nN],r7⟩
 ·rw [decide_eq_false c0] at g4
  by_cases cm:(p0.1,bs)∈rs
  ·rw [decide_eq_true cm] at inn
   exact⟨rs,by simp[gt,hardC,ow,l4,hardD,hardDs,u3Q,u1p,x0,s4,g4,inn,-u0k,-u0f,-zb,-zg,-zn,bN,gN,nN],r7⟩
  ·rw [decide_eq_false cm] at inn
   refine⟨rs++[(p0.1,bs)],by simp[gt,hardC,ow,l4,hardD,hardDs,u3Q,u1p,x0,s4,g4,inn,ad,-u0k,-u0f,-zb,-zg,-zn,bN,gN,nN],by simp,by simp;omega,λp m=>?_⟩
   rcases x9.mp m with m|m
   ·exact hr.a p m
   ·rw [y6.mp m]
    exact⟨(hr.a p0 hmem).1,(show bs.length<=4 by omega),hbA⟩
end
abbrev Good (G:FD):Prop:=∀(ns:List Int) (i:Nat),∃zs:List Str,G [scr ns,dN i]=.ok (dS zs)/\1<=zs.length/\zs.length<=13/\∀z∈zs,R8 12 z
def side8 {x:Str} (h:x∈SIDE):W8 x:=u2t (by
 have:∀y∈SIDE,y∈WORDS8:=by decide +kernel
 exact this x h)
def mark8:W8 (":":Str)/\W8 ("~":Str):=⟨u2t (by decide +kernel),u2t (by decide +kernel)⟩
def u6G {a b:Str} (h:a.length+b.length<=16777216):dAdd (.str a) (.str b)=.ok (.str (a++b)):=u0w h
def sep3:(" : ":Str)=BL++":"++BL:=by decide +kernel
def app_e (a:Str):a++("":Str)=a:=u4c (by rw[u4q];simp[show("":Str).cps.toList=[] by decide +kernel])
def e_app (a:Str):("":Str)++a=a:=u4c (by rw[u4q];simp[show("":Str).cps.toList=[] by decide +kernel])
noncomputable def tl (b:List Str):Str:=if b=[] then "~" else ""
def tl_le (b:List Str):(tl b).length<=1:=by unfold tl;split<;>decide
def u9Y {ws:List Str} (hl:ws.length<=1000) (h:∀x∈ws,W8 x):joinD " " (.tup (ws.map D.str))=.ok (.str (Txt.join BL ws)):=u7a hl h
noncomputable def tildeIf (b:List Str):List Str:=if b=[] then ["~"] else b
def v3y (h:Str) (b:List Str):h++" : "++(Txt.join BL b++tl b)=Txt.join BL (h::":"::tildeIf b):=by
 by_cases e:b=[]
 ·subst e
  unfold tildeIf tl
  rw[if_pos rfl,if_pos rfl,u9W,e_app,u3O,u3O,u4T,sep3]
  simp only[u8I]
 ·unfold tildeIf tl
  rw[if_neg e,if_neg e,app_e,u3O,u9s BL e,sep3]
  simp only[u8I]
def u9r {ws:List Str}{n:Nat} (h:∀x∈ws,W8 x) (hl:ws.length<=n):(Txt.join BL ws).length<=9*n:=by
 have h1:=u2T BL ws
 have h2:=u6i (n:=8) (ws:=ws) λx m=>(h x m).l
 rw[show BL.length=1 from rfl] at h1
 omega
inductive Sgd (a0 a1 a2:Option Sl) (ds:List D) (ρ:Rho):Prop
 | mk (rest:List RR) (zs:List Str) (x y:Option Sl) (q0:ds=rest.map rT) (q1:ρ=[a0,a1,a2,some (.own (.l (zs.map D.str))),x,y]) (q2:(∀p∈rest,okH p.1=true/\p.2.length<=4/\∀b∈p.2,A8 b)) (q3:(∀z∈zs,R8 12 z)) (q4:zs.length+rest.length<=13) (q5:1<=zs.length+rest.length)
inductive Qgd (o:Out):Prop
 | mk (ρ:Rho) (zs:List Str) (q0:o=.nx ρ) (q1:getV (frz ρ) 3=.ok (dS zs)) (q2:1<=zs.length) (q3:zs.length<=13) (q4:∀z∈zs,R8 12 z)
section
variable {P:Program}{w:World}{K:W.Frag}{mg:MG}{base:Heap}{f:Addr}{fd:FuncData}{A:Adr}
def u9i {a3a:FD} (a3x:Callee P w K mg base 3 "_law_wider" ["_law_script","_law_rules_here"] (spF K a3a)) {a3c:FD} (a3z:Callee P w K mg base 4 "_law_rules" ["_law_script","_law_at"] (spF K a3c)) {a1v:FD} (a4a:Callee P w K mg base 3 "_law_ranks" ["_law_script","_law_at"] (spF K a1v)) (a4h:Rules a3c) (a5c:Wider a3a) (a5e:Ranks a1v) (F:Fun K "_law_good" "_law_good" u3b f fd) (T:Txt K mg A):∃G,FnOk P w K mg base CX0 5 f fd ["_law_script","_law_at"] (spF K G)/\Good G:=by
 refine⟨_,F.okT (k:=4) u1S (λcdv Ar outer s H E hr=>u0d (ds_n u1S.nd (d_fn a3x hr (u0a (dv 0) (u0a (d_fn a3z hr (u0a (dv 0) (u0a (dv 1) u0b))) u0b))))
  (u0d (ds_comp ["_law_side","_law_signs_here"] [] rfl (u0q (sc:=defScope u3b) (N:=["_law_script","_law_at","_law_rules_here","_law_rows","_law_head","_law_body"]) (by decide +kernel)) u1S.nd (u0A (d_fn a4a hr (u0a (dv 0) (u0a (d_op u0E (dv 1) u0c) u0b)))) (u3p (n:=2) rfl (u0r (dg_n (show(["_law_side","_law_signs_here"]:List Str).Nodup by decide +kernel)) (u0r (dg_n (show(["_law_side","_law_signs_here"]:List Str).Nodup by decide +kernel)) u1H))) u1A (d_op u0E (d_op u0E (dv 0) u0i) (u3V (dv 1))))
  (u0d (u0Y rfl (u0A (dv 2)) (u3p (n:=2) rfl (u0r (dg_n u1S.nd) (u0r (dg_n u1S.nd) u1H)))
  (u0e (u1f 3 (d_op u0E (d_op u0E (dv 4) u0i) (d_op u0E (u3V (dv 5)) (d_op o_mulT u0i (d_T c_int T.z_int (by decide +kernel) (u0a (u2I (o_eq (hu64 hr)) (d_B u0L T.z_len (by decide +kernel) (u0a (dv 5) u0b)) u0c) u0b))))))))
  (u0e (u0g (dv 3)))))),?_⟩
 intro ns i
 refine bc λhZ=>?_
 obtain⟨rs,er,hl6,hgr⟩:=a4h ns i
 obtain⟨rs',ew,hra⟩:=a5c ns rs (ra_gr hgr hl6)
 obtain⟨kk,ek,hk⟩:=a5e ns (i+8)
 refine hZ ?_
 have ek':a1v [scr ns,.int ((i:Int)+8)]=.ok (dR kk):=ek
 have h7:=hra.l
 have h1:=hra.n1
 have hk6:=hk.l
 have it:∀l:List D,items (.lst l)=.ok l:=λl=>rfl
 simp[runT,startD,er,ew,ek',it,-u0k,-u0f,-zb,-zg,-zn,bN,gN,nN]
 rw[u0w (u0S (by first|omega|(simp;omega))),u1o rT (λp=>D.str (Txt.join BL (p.1::p.2))) (λp hp=>?_)]
 rotate_left
 ·obtain ⟨g1,g2,g3,g4⟩:=hk.g p hp
  have hw:∀x∈p.2,W8 x:=λx m=>a8_w (.inr (g4 x m))
  have s8:=side8 g1
  have jo:=u9Y (ws:=p.2) (by omega) hw
  have jl:=u9r hw g3
  have a1:dAdd (.str p.1) (.str " ")=.ok (.str (p.1++" ")):=u6G (by have:=s8.l;rw[show(" ":Str).length=1 from rfl];omega)
  have a2:dAdd (.str (p.1++" ")) (.str (Txt.join BL p.2))=.ok (.str (p.1++" "++Txt.join BL p.2)):=u6G (by have:=s8.l;rw[u1D,show(" ":Str).length=1 from rfl];omega)
  have ej:Txt.join BL (p.1::p.2)=p.1++" "++Txt.join BL p.2:=u9s BL (by intro e;rw[e] at g2;simp at g2) p.1
  refine⟨_,rfl,rfl,?_⟩
  rw[ej]
  simp[rhoC,rT,a1,a2,jo,-u0k,-u0f,-zb,-zg,-zn,bN,gN,nN]
 simp[it,-u0k,-u0f,-zb,-zg,-zn,bN,gN,nN]
 generalize hI:forD _ _ _ _=o
 have q:Qgd o:=by
  rw[<- hI]
  refine u3h (Sgd (some (.val (scr ns))) (some (.val (dN i))) (some (.val (dR rs')))) Qgd ?_ ?_ (rs'.map rT) _ ⟨rs',kk.map λp=>Txt.join BL (p.1::p.2),none,none,rfl,by simp[Function.comp_def],hra.a,λz m=>?_,by simp;omega,by simp;omega⟩
  ·intro ρ hY
   refine bc λhZ=>?_
   obtain⟨rest,zs,x,y,e,rfl,hp,hz,l1,l2⟩:=hY
   refine hZ ?_
   have h1:rest=[]:=by simpa using e.symm
   subst h1
   exact⟨_,zs,rfl,rfl,by simpa using l2,by simpa using l1,hz⟩
  ·intro d ds ρ hY
   refine bc λhZ=>?_
   obtain⟨rest,zs,x,y,e,rfl,hp,hz,l1,l2⟩:=hY
   refine hZ ?_
   match rest,e with
   | p::rest,e =>
    rw[w5] at e
    injection e with e1 e2
    subst e1 e2
    obtain⟨g1,g2,g3⟩:=hp p z6
    have hw:∀x∈p.2,W8 x:=λx m=>a8_w (g3 x m)
    have h8:=a8_w (.inl g1)
    have jo:=u9Y (ws:=p.2) (by omega) hw
    have jl:=u9r hw g2
    have hsz:zs.length<sizeLine:=w9 (show zs.length<1000 by simp at l1;omega) (by decide)
    have a1:dAdd (.str p.1) (.str " : ")=.ok (.str (p.1++" : ")):=u6G (by have:=h8.l;rw[show(" : ":Str).length=3 from rfl];omega)
    have lt:=tl_le p.2
    have a2:dAdd (.str (Txt.join BL p.2)) (.str (tl p.2))=.ok (.str (Txt.join BL p.2++tl p.2)):=u6G (by omega)
    have a3:dAdd (.str (p.1++" : ")) (.str (Txt.join BL p.2++tl p.2))=.ok (.str (Txt.join BL (p.1::":"::tildeIf p.2))):=by
     rw[u6G (by have:=h8.l;rw[u1D,u1D,show(" : ":Str).length=3 from rfl];omega),v3y]
    have m1:(noE (dEq (.int ((p.2.length:Nat):Int)) (.int 0))).bind (λd=>(Res.ok [d]))=.ok [.bl (decide (p.2=[]))]:=by
     rw[ei8]
     cases p.2 with
     | nil=>rfl
     | cons a l=>simp;omega
    have m2:dMulT (.str "~") (.int (if decide (p.2=[])=true then 1 else 0))=.ok (.str (tl p.2)):=by
     by_cases e:p.2=[]
     ·unfold tl
      simp only[e,decide_true,if_true]
      show gd _ _=_
      rw[u0w (by decide +kernel)]
      rfl
     ·unfold tl
      simp only[e,decide_false,if_false,t7]
      show gd _ _=_
      rw[u0w (by decide +kernel)]
      rfl
    have gi:gInt [.bl (decide (p.2=[]))]=.ok (.int (if decide (p.2=[])=true then 1 else 0)):=rfl
    refine⟨_,rfl,.inl ?_⟩
    refine⟨_,?_,rest,zs++[Txt.join BL (p.1::":"::tildeIf p.2)],some (.val (.str p.1)),some (.val (.tup (p.2.map D.str))),rfl,rfl,λr m=>hp r (z0 _ m),λz m=>?_,by simp at l1 |-;omega,by simp;omega⟩
    ·simp [rT,a1,jo,gLen,hsz,-u0k,-u0f,-zb,-zg,-zn,bN,gN,nN]
     rw[m1,zb,gi,u3n,zb,m2,u3n,zb,a2,u3n,zb,a3,u3n]
     rfl
    ·rcases x9.mp m with m | m
     ·exact hz z m
     ·rw [y6.mp m]
      refine u5r (by omega) ?_ λx m=>?_
      ·show (tildeIf p.2).length+1+1<=12
       unfold tildeIf
       split
       ·simp
       ·omega
      ·rcases z8.mp m with rfl | m
       ·exact h8
       ·rcases z8.mp m with rfl | m
        ·exact mark8.1
        ·unfold tildeIf at m
         split at m
         ·rw[y6.mp m];exact mark8.2
         ·exact hw x m
  ·refine bc fun hZ=>?_
   obtain⟨p,hp,rfl⟩:=w6.mp m
   obtain⟨g1,g2,g3,g4⟩:=hk.g p hp
   refine hZ ?_
   exact u5r (by omega) (by simp;omega) λx m=>by
    rcases z8.mp m with rfl|m
    ·exact side8 g1
    ·exact a8_w (.inr (g4 x m))
 refine bc λhZ=>?_
 obtain⟨ρ,zs,rfl,e1,hz1,hz2,hr⟩:=q
 refine hZ ?_
 exact⟨zs,by simp[e1,-u0k,-u0f,-zb,-zg,-zn,bN,gN,nN],hz1,hz2,hr⟩
end
def sl_t (ws:List Str) (n:Nat):dSl (dS ws) none (some (n:Int))=.ok (dS (ws.take n)):=by
 show Res.ok (D.lst (cutC _ _ _))=_
 rw[cut_n,<- List.map_take]
def u7D (ws:List Str) (n:Nat):dSl (dS ws) (some ((n:Int)+1)) none=.ok (dS (ws.drop (n+1))):=sl_d ws (n+1)
def u8L {a b:List Str} (h:a.length+b.length<=1000):dAdd (dS a) (dS b)=.ok (dS (a++b)):=by
 rw[u8K (by simpa using h),<- z0H]
def v3d {a b:List Str} (h:a.length+b.length<=1000):catD (dS a) (dS b)=.ok (.l ((a++b).map D.str)):=by
 show gd _ _=_
 rw[u0w (u0S (by simpa using h)),<- z0H]
def R8.mono {m n:Nat} (h:m<=n) {z:Str} (r:R8 m z):R8 n z:=by obtain⟨ws,a,b,c,d⟩:=r;exact⟨ws,a,b,v5 c h,d⟩
def v2x {n i:Nat} (h:i<n):ixN n (i:Int)=some i:=by
 unfold ixN
 simp
 omega
abbrev Spoilt (G:FD):Prop:=∀(zs:List Str) (w a o p n:Nat),1<=zs.length->zs.length<=13->(∀z∈zs,R8 12 z)->w<9->∃zs':List Str,G [dS zs,.lst [dN w,dN a,dN o,dN p,dN n]]=.ok (dS zs')/\zs'.length<=14/\∀z∈zs',R8 13 z
def v2l {α:Type}{l:List α}{n m:Nat}{x:α} (h:x∈l.take n++l.drop m):x∈l:=by
 rcases x9.mp h with h|h
 ·exact z3A h
 ·exact z0B h
def u5y {α:Type}{l:List α}{n m:Nat}{x y:α} (h:x∈l.take n++[y]++l.drop m):x∈l\/x=y:=by
 rcases x9.mp h with h|h
 ·rcases x9.mp h with h | h
  ·exact .inl (z3A h)
  ·exact .inr (y6.mp h)
 ·exact .inl (z0B h)
section
variable {l:List Str}{n:Nat} (h:l.length<=13)
include h
def a_td (i j:Nat):dAdd (dS (l.take i)) (dS (l.drop j))=.ok (dS (l.take i++l.drop j)):=u8L (by simp;omega)
def a_t1 (i:Nat) (y:Str):dAdd (dS (l.take i)) (.lst [.str y])=.ok (dS (l.take i++[y])):=u8L (b:=[_]) (by simp;omega)
def a_3 (i j:Nat) (y:Str):dAdd (dS (l.take i++[y])) (dS (l.drop j))=.ok (dS (l.take i++[y]++l.drop j)):=u8L (by simp;omega)
def k_td (i j:Nat):catD (dS (l.take i)) (dS (l.drop j))=.ok (.l ((l.take i++l.drop j).map D.str)):=v3d (by simp;omega)
def k_3 (i j:Nat) (y:Str):catD (dS (l.take i++[y])) (dS (l.drop j))=.ok (.l ((l.take i++[y]++l.drop j).map D.str)):=v3d (by simp;omega)
def k_e (i j:Nat) (y:Str):catD (dS (l.take i++l.drop j)) (.lst [.str y])=.ok (.l ((l.take i++l.drop j++[y]).map D.str)):=v3d (b:=[_]) (by simp;omega)
end
def fnd_ok {zs ws:List Str}{i j:Nat} (h13:zs.length<=13) (hj:i<=j) (hz:∀z∈zs,R8 12 z) (hw:∀x∈ws,W8 x) (hl:ws.length<=13):(zs.take i++[Txt.join BL ws]++zs.drop j).length<=14/\∀z∈zs.take i++[Txt.join BL ws]++zs.drop j,R8 13 z :=
 ⟨by simp;omega,λz m=>by
  rcases u5y m with m|rfl
  ·exact(hz z m).mono (by omega)
  ·exact u5r (by omega) hl hw⟩
def w4 (w a b c d:Nat):w=a\/w=b\/w=c\/w=d\/w≠a/\w≠b/\w≠c/\w≠d:=by
 by_cases h1:w=a
 ·exact .inl h1
 by_cases h2:w=b
 ·exact .inr (.inl h2)
 by_cases h3:w=c
 ·exact .inr (.inr (.inl h3))
 by_cases h4:w=d
 ·exact .inr (.inr (.inr (.inl h4)))
 exact .inr (.inr (.inr (.inr ⟨h1,h2,h3,h4⟩)))
def fire {r:Res D}{ρ:Rho}{k:Bool->Out}{w j:Int}{o:Out} (h:r=.ok (.int w)) (b:(w==j)=true) (e:k true=o):((r.bind λx=>(Res.ok (D.int j)).bind λy=>(noE (dEq x y)).bind asB).go ρ k)=o:=by rw[h,bN,bN,ei8,b];exact e
def no {Q:Out->Prop}{r:Res D}{ρ:Rho}{k:Bool->Out}{w j:Int}{f:Rho->Out} (b:(w==j)=false) (q:Q (f ρ)) (h:r=.ok (.int w):=by rfl) (e:k false=.nx ρ:=by rfl):Q (((r.bind λx=>(Res.ok (D.int j)).bind λy=>(noE (dEq x y)).bind asB).go ρ k).andThen f):=by rw[h,bN,bN,ei8,b];exact th e q
def nq {w j:Nat} (h:w≠j):((w:Int)==(j:Int))=false:=by simp;omega
def then_as (a:Out) (f g:Rho->Out):(a.andThen f).andThen g=a.andThen λρ=>(f ρ).andThen g:=by cases a<;>rfl
def NxM (M:Rho->Prop) (o:Out):Prop:=∃ρ,o=.nx ρ/\M ρ
def four {Q:Out->Prop}{a:Out}{f g h R:Rho->Out} (M:Rho->Prop) (e:NxM M (a.andThen λρ=>(f ρ).andThen λρ=>(g ρ).andThen λρ=>(h ρ).andThen .nx)) (k:∀ρ,M ρ->Q (R ρ)):Q (a.andThen λρ=>(f ρ).andThen λρ=>(g ρ).andThen λρ=>(h ρ).andThen R):=by
 obtain⟨ρ,e,m⟩:=e
 have e:=congrArg (λo=>o.andThen R) e
 simp only[then_as,nN] at e
 rw[e]
 exact k ρ m
def Spo (o:Out):Prop:=∃zs:List Str,o=.rt (dS zs)/\zs.length<=14/\∀z∈zs,R8 13 z
def run_spo {n m:Nat}{t:Rho->Out}{ds:List D} (hl:ds.length=m) (h:Spo (t (startD n ds))):∃zs:List Str,runT n m t ds=.ok (dS zs)/\zs.length<=14/\∀z∈zs,R8 13 z:=by
 obtain⟨zs,e,q⟩:=h
 exact⟨zs,by unfold runT;rw[if_pos hl,e];rfl,q⟩
section
variable {P:Program}{w:World}{K:W.Frag}{mg:MG}{base:Heap}{f:Addr}{fd:FuncData}{A:Adr}
def u6T {a1c:FD} (a0t:Callee P w K mg base 1 "_law_word" ["_law_number"] (spF K a1c)) (a4o:Word a1c) (F:Fun K "_law_spoilt" "_law_spoilt" u2Q f fd) (T:Txt K mg A):∃G,FnOk P w K mg base CX0 2 f fd ["_law_rows","_law_draws"] (spF K G)/\Spoilt G:=by
 refine⟨_,F.okT (k:=1) u0l (λcdv Ar outer s H E hr=>u0d (v4F (dv 1) (v4H (n:=5) rfl (u0r (dg_n u0l.nd) (u0r (dg_n u0l.nd) (u0r (dg_n u0l.nd) (u0r (dg_n u0l.nd) (u0r (dg_n u0l.nd) u1H)))))))
  (u0d (ds_n u0l.nd (d_op u1c (dv 3) (d_B u0L T.z_len (by decide +kernel) (u0a (dv 0) u0b))))
  (u0d (ds_n u0l.nd (d_op u1c (dv 4) (d_B u0L T.z_len (by decide +kernel) (u0a (dv 0) u0b))))
  (u0d (ds_n u0l.nd (DN.de (u3T (c:=32) (d_ix x_ix (dv 0) (dv 3)))))
  (u0d (ds_n u0l.nd (d_op u1c (dv 5) (d_B u0L T.z_len (by decide +kernel) (u0a (dv 7) u0b))))
  (u0d (u0v (u0m (o_eq (hu64 hr)) (dv 2) u0c) (u0e (ds_n u0l.nd (d_op u0E (d_sl (dv 7) u0x (u0t (dv 5))) (d_sl (dv 7) (u0t (d_op u0E (dv 5) u0c)) u0x)))) u0n)
  (u0d (u0v (u0m (o_eq (hu64 hr)) (dv 2) u0c) (u0e (ds_n u0l.nd (d_op u0E (d_op u0E (d_sl (dv 7) u0x (u0t (dv 5))) (u0F (u0a (d_ix x_ix (dv 7) (dv 5)) u0b))) (d_sl (dv 7) (u0t (dv 5)) u0x)))) u0n)
  (u0d (u0v (u0m (o_eq (hu64 hr)) (dv 2) u0c) (u0e (ds_n u0l.nd (d_op u0E (d_op u0E (d_sl (dv 7) u0x (u0t (dv 5))) (u0F (u0a (d_fn a0t hr (u0a (dv 6) u0b)) u0b))) (d_sl (dv 7) (u0t (d_op u0E (dv 5) u0c)) u0x)))) u0n)
  (u0d (u0v (u0m (o_eq (hu64 hr)) (dv 2) u0c) (u0e (ds_n u0l.nd (d_op u0E (d_op u0E (d_sl (dv 7) u0x (u0t (dv 5))) (u0F (u0a (d_fn a0t hr (u0a (dv 6) u0b)) u0b))) (d_sl (dv 7) (u0t (dv 5)) u0x)))) u0n)
  (u0d (u1e u0l.nd (v0q (d_op u0E (d_sl (dv 0) u0x (u0t (dv 3))) (u0F (u0a (u3V (dv 7)) u0b))) (d_sl (dv 0) (u0t (d_op u0E (dv 3) u0c)) u0x)))
  (u0d (u0v (u0m (o_eq (hu64 hr)) (dv 2) u0c) (u0e (ds_set2 rfl 8 (dv 3) (dv 4) (u0h (u0a (d_ix x_ix (dv 0) (dv 4)) (u0a (d_ix x_ix (dv 0) (dv 3)) u0b))))) u0n)
  (u0d (u0v (u0m (o_eq (hu64 hr)) (dv 2) u0c) (u0e (u1e u0l.nd (v0q (d_op u0E (d_sl (dv 0) u0x (u0t (dv 3))) (d_sl (dv 0) (u0t (d_op u0E (dv 3) u0c)) u0x)) (u0F (u0a (d_ix x_ix (dv 0) (dv 3)) u0b))))) u0n)
  (u0d (u0v (u0m (o_eq (hu64 hr)) (dv 2) u0c) (u0e (u1e u0l.nd (v0q (d_op u0E (d_sl (dv 0) u0x (u0t (dv 3))) (u0F (u0a (d_ix x_ix (dv 0) (dv 3)) u0b))) (d_sl (dv 0) (u0t (dv 3)) u0x)))) u0n)
  (u0d (u0v (u0m (o_eq (hu64 hr)) (dv 2) u0c) (u0e (u1e u0l.nd (v0q (d_sl (dv 0) u0x (u0t (dv 3))) (d_sl (dv 0) (u0t (d_op u0E (dv 3) u0c)) u0x)))) u0n)
  (u0e (u0g (dv 8))))))))))))))))),?_⟩
 intro zs w a o p n h1 h13 hz h9
 refine bc λhZ=>?_
 obtain⟨at_,ea,hat⟩:=modI (a:Int) (b:=zs.length) (by omega)
 obtain⟨ot,eo,hot⟩:=modI (o:Int) (b:=zs.length) (by omega)
 have lp:(0:Int)<zs.length:=by omega
 have m1:dMod (.int (a:Int)) (.int (zs.length:Int))=.ok (dN at_):=by rw[u0G lp,ea]
 have m2:dMod (.int (o:Int)) (.int (zs.length:Int))=.ok (dN ot):=by rw[u0G lp,eo]
 obtain⟨z,hzm,x1⟩:=u3P (c:=D.str) (rs:=zs) (i:=at_) hat
 obtain⟨zo,hzo,x3⟩:=u3P (c:=D.str) (rs:=zs) (i:=ot) hot
 obtain⟨ws,ez,hn,hl,hw⟩:=hz z hzm
 have rw8:RowW ws:=⟨hn,λx m=>(hw x m).g,λx m=>(hw x m).no,by omega⟩
 have sp:splitD 32 (.str z)=.ok (.l (ws.map D.str)):=by rw[ez];exact u5p rw8
 have wl:0<ws.length:=z2D.mpr hn
 obtain⟨pl,ep,hpl⟩:=modI (p:Int) (b:=ws.length) wl
 have m3:dMod (.int (p:Int)) (.int (ws.length:Int))=.ok (dN pl):=by rw[u0G (by omega),ep]
 obtain⟨wp,hwp,x2⟩:=u3P (c:=D.str) (rs:=ws) (i:=pl) hpl
 obtain⟨y,hy,wd⟩:=a4o n
 refine hZ ?_
 have hl13:ws.length<=13:=by omega
 have lnz:gLen [dS zs]=.ok (.int (zs.length:Int)):=by show Res.ok (D.int _)=_;rw[v6]
 have lnw:gLen [dS ws]=.ok (.int (ws.length:Int)):=by show Res.ok (D.int _)=_;rw[v6]
 have b1:dAdd (dN at_) (.int 1)=.ok (.int ((at_:Int)+1)):=rfl
 have b2:dAdd (dN pl) (.int 1)=.ok (.int ((pl:Int)+1)):=rfl
 have l5:∀q:D,asL 5 (.lst [q,dN a,dN o,dN p,dN n])=.ok [q,dN a,dN o,dN p,dN n]:=λq=>rfl
 refine run_spo rfl ?_
 apply th
 ·simp [startD,l5,-u1x,-List.append_assoc,-u0k,-u0f,-zb,-zg,-zn,bN,gN,nN]
  rfl
 apply th
 ·simp [m1,lnz,-u1x,-List.append_assoc,-u0k,-u0f,-zb,-zg,-zn,bN,gN,nN]
  rfl
 apply th
 ·simp [m2,lnz,-u1x,-List.append_assoc,-u0k,-u0f,-zb,-zg,-zn,bN,gN,nN]
  rfl
 apply th
 ·simp [x1,sp,-u1x,-List.append_assoc,-u0k,-u0f,-zb,-zg,-zn,bN,gN,nN]
  rfl
 apply th
 ·simp [m3,lnw,-u1x,-List.append_assoc,-u0k,-u0f,-zb,-zg,-zn,bN,gN,nN]
  rfl
 refine four (λρ=>∃ws',(∀x∈ws',W8 x)/\ws'.length<=13/\ρ=[some (.val (dS zs)),some (.val (.lst [dN w,dN a,dN o,dN p,dN n])),some (.val (dN w)),some (.val (dN at_)),some (.val (dN ot)),some (.val (dN pl)),some (.val (dN n)),some (.val (dS ws')),none]) ?_ ?_
 ·rcases w4 w 0 1 2 3 with rfl | rfl | rfl | rfl | ⟨h4,h5,h6,h7⟩
  ·skip
   apply th
   ·refine fire rfl rfl ?_
    simp[sl_t,sl_d,u7D,b2,asI,a_td hl13,a_t1 hl13,a_3 hl13,x2,wd,-u1x,-List.append_assoc,-u0k,-u0f,-zb,-zg,-zn,bN,gN,nN]
    rfl
   exact no rfl <| no rfl <| no rfl <| ⟨_,rfl,ws.take pl++ws.drop (pl+1),λx m=>hw x (v2l m),by simp;omega,by simp⟩
  ·refine no rfl <| ?_
   apply th
   ·refine fire rfl rfl ?_
    simp[sl_t,sl_d,u7D,b2,asI,a_td hl13,a_t1 hl13,a_3 hl13,x2,wd,-u1x,-List.append_assoc,-u0k,-u0f,-zb,-zg,-zn,bN,gN,nN]
    rfl
   exact no rfl <| no rfl <| ⟨_,rfl,ws.take pl++[wp]++ws.drop pl,λx m=>(u5y m).elim (hw x) λe=>e ▸ hw _ hwp,by simp;omega,by simp⟩
  ·refine no rfl <| no rfl <| ?_
   apply th
   ·refine fire rfl rfl ?_
    simp[sl_t,sl_d,u7D,b2,asI,a_td hl13,a_t1 hl13,a_3 hl13,x2,wd,-u1x,-List.append_assoc,-u0k,-u0f,-zb,-zg,-zn,bN,gN,nN]
    rfl
   exact no rfl <| ⟨_,rfl,ws.take pl++[y]++ws.drop (pl+1),λx m=>(u5y m).elim (hw x) λe=>e ▸ u2t hy,by simp;omega,by simp⟩
  ·refine no rfl <| no rfl <| no rfl <| ?_
   apply th
   ·refine fire rfl rfl ?_
    simp[sl_t,sl_d,u7D,b2,asI,a_td hl13,a_t1 hl13,a_3 hl13,x2,wd,-u1x,-List.append_assoc,-u0k,-u0f,-zb,-zg,-zn,bN,gN,nN]
    rfl
   exact⟨_,rfl,ws.take pl++[y]++ws.drop pl,λx m=>(u5y m).elim (hw x) λe=>e ▸ u2t hy,by simp;omega,by simp⟩
  ·exact no (nq h4) <| no (nq h5) <| no (nq h6) <| no (nq h7) ⟨_,rfl,ws,hw,hl13,rfl⟩
 ·rintro _ ⟨ws',ww,lw,rfl⟩
  have jo:=u7a (by omega) ww
  have f2:=k_3 h13 at_ (at_+1) (Txt.join BL ws')
  have lF:(zs.take at_++[Txt.join BL ws']++zs.drop (at_+1)).length=zs.length:=by simp;omega
  have fo:=fnd_ok h13 (Nat.le_succ at_) hz ww lw
  generalize zs.take at_++[Txt.join BL ws']++zs.drop (at_+1)=F at f2 lF fo
  apply th
  ·simp [sl_t,sl_d,u7D,b1,asI,a_td h13,a_t1 h13,f2,jo,-u1x,-List.append_assoc,-u0k,-u0f,-zb,-zg,-zn,bN,gN,nN]
   rfl
  rcases w4 w 4 5 6 7 with rfl|rfl|rfl|rfl|⟨h4,h5,h6,h7⟩
  ·have i1:ixN F.length (at_:Int)=some at_:=v2x (by omega)
   have i2:ixN F.length (ot:Int)=some ot:=v2x (by omega)
   apply th
   ·refine fire rfl rfl ?_
    simp[x1,x3,set2,setO,setI,i1,i2,flatD,-u1x,-List.append_assoc,-u0k,-u0f,-zb,-zg,-zn,bN,gN,nN]
    rfl
   refine no rfl <| no rfl <| no rfl ⟨(F.set at_ zo).set ot z,by simp,by simp;omega,λx m=>?_⟩
   rcases List.mem_or_eq_of_mem_set m with m|rfl
   ·rcases List.mem_or_eq_of_mem_set m with m | rfl
    ·exact fo.2 x m
    ·exact(hz _ hzo).mono (by omega)
   ·exact(hz _ hzm).mono (by omega)
  ·refine no rfl <| ?_
   apply th
   ·refine fire rfl rfl ?_
    simp[sl_t,sl_d,u7D,b1,asI,a_td h13,a_t1 h13,k_3 h13,k_td h13,k_e h13,x1,-u1x,-List.append_assoc,-u0k,-u0f,-zb,-zg,-zn,bN,gN,nN]
    rfl
   refine no rfl <| no rfl <| ?_
   exact⟨zs.take at_++zs.drop (at_+1)++[z],by simp,by simp;omega,λx m=>(x9.mp m).elim (λm=>(hz x (v2l m)).mono (by omega)) λm=>by rw[y6.mp m];exact(hz z hzm).mono (by omega)⟩
  ·refine no rfl <| no rfl <| ?_
   apply th
   ·refine fire rfl rfl ?_
    simp[sl_t,sl_d,u7D,b1,asI,a_td h13,a_t1 h13,k_3 h13,k_td h13,k_e h13,x1,-u1x,-List.append_assoc,-u0k,-u0f,-zb,-zg,-zn,bN,gN,nN]
    rfl
   refine no rfl <| ?_
   exact⟨zs.take at_++[z]++zs.drop at_,by simp,by simp;omega,λx m=>(u5y m).elim (λm=>(hz x m).mono (by omega)) λe=>e ▸ (hz _ hzm).mono (by omega)⟩
  ·refine no rfl <| no rfl <| no rfl <| ?_
   apply th
   ·refine fire rfl rfl ?_
    simp[sl_t,sl_d,u7D,b1,asI,a_td h13,a_t1 h13,k_3 h13,k_td h13,k_e h13,x1,-u1x,-List.append_assoc,-u0k,-u0f,-zb,-zg,-zn,bN,gN,nN]
    rfl
   exact⟨zs.take at_++zs.drop (at_+1),by simp,by simp;omega,λx m=>(hz x (v2l m)).mono (by omega)⟩
  ·exact no (nq h4) <| no (nq h5) <| no (nq h6) <| no (nq h7) ⟨F,by simp,fo⟩
end
set_option tactic.hygienic true in
def res8_ok {rows:List (List Str)} (h:Rows8 rows):∃(w:Str) (d:D),res8 (readL 0 [] [] rows)=.tup [.str w,d]/\goodD d=true/\depD d<=50:=by
 cases e:readL 0 [] [] rows with
 | inl n=>exact⟨"text",dN n,rfl,rfl,by simp[depD]⟩
 | inr p =>
  obtain⟨a,k⟩:=p
  obtain⟨g1,g2,g3⟩:=u5q rows 0 [] [] a k e (λws m=>⟨h.r ws m,h.p ws m⟩) (λp m=>(nomatch m)) (λp m=>(nomatch m)) (λp m=>(nomatch m))
  have ha:=arg_all (hand8 g1 g2) (handK8 g3)
  by_cases c:dueAll (dR a) (dR k)=.fine
  ·refine ⟨"told",.lst [.tup (a.map rT),.tup (k.map rT)],?_,?_,?_⟩
   ·show tell a k=_
    unfold tell
    rw[c]
   ·have h1:=u2o g1
    have h2:=u2o g3
    simp[goodD,goodDs,h1,h2]
   ·have h1:=u2r a
    have h2:=u2r k
    simp[depD,depDs]
    omega
  ·refine ⟨(dueAll (dR a) (dR k)).word,(dueAll (dR a) (dR k)).arg,?_,ha.1,ha.2⟩
   rw[<- toD_arg c]
   show tell a k=_
   unfold tell
   split
   ·rename_i q;exact absurd q c
   ·rfl
theorem pull8:∀{zs:List Str},(∀z∈zs,R8 102 z)->∃rows:List (List Str),zs=rowsT rows/\rows.length=zs.length/\∀ws∈rows,RowW ws/\PoolW ws
 | [],_=>⟨[],rfl,rfl,λ_ m=>(nomatch m)⟩
 | z::zs,h=>by
  obtain⟨ws,e,h1,h2⟩:=(h z z6).rowW (y7 _)
  obtain⟨rows,e2,hl,h3⟩:=pull8 (zs:=zs) λx m=>h x (z0 _ m)
  refine⟨ws::rows,by rw[e,e2];rfl,by simp[hl],λv m=>?_⟩
  rcases z8.mp m with rfl|m
  ·exact⟨h1,h2⟩
  ·exact h3 v m
def u7L {m:Nat}{z:Str} (h:R8 m z):z.length<=9*m:=by
 obtain⟨ws,e,_,hl,hw⟩:=h
 rw[e]
 exact u9r hw hl
def e8:R8 1 ("":Str):=⟨[""],by rw[u4T],by simp,by simp,λx m=>by rw[y6.mp m];exact empty8⟩
def lf_nil:Txt.join LF []=("":Str):=by decide +kernel
def text8 {zs:List Str} (h:∀z∈zs,R8 102 z) (hl:zs.length<=20):∃rows,Rows8 rows/\joinD "\n" (dS zs)=.ok (.str (txt rows)):=by
 have jo:joinD "\n" (dS zs)=.ok (.str (Txt.join LF zs)):=u9X (n:=918) (m:=20) (λx m=>u7L (h x m)) rfl hl (by decide)
 by_cases e:zs=[]
 ·subst e
  obtain⟨rows,e2,hl2,h3⟩:=pull8 (zs:=[("":Str)]) λz m=>by rw[y6.mp m];exact e8.mono (by omega)
  refine⟨rows,⟨⟨λws m=>(h3 ws m).1,λq=>by rw[q] at hl2;simp at hl2,by rw[hl2];simp⟩,λws m=>(h3 ws m).2⟩,?_⟩
  rw[jo,lf_nil]
  unfold txt
  rw[<- e2,u4T]
 ·obtain ⟨rows,e2,hl2,h3⟩:=pull8 h
  refine⟨rows,⟨⟨λws m=>(h3 ws m).1,λq=>e (by rw[e2,q];rfl),by omega⟩,λws m=>(h3 ws m).2⟩,?_⟩
  rw[jo]
  unfold txt
  rw[<- e2]
def blank8 {m:Nat}{z:Str} (h:R8 m z):R8 (m+1) (" "++z):=by
 obtain⟨ws,e,hn,hl,hw⟩:=h
 refine⟨""::ws,?_,by simp,by simp;omega,λx mx=>?_⟩
 ·rw [u9s BL hn,e_app,e]
  rfl
 ·rcases z8.mp mx with rfl | mx
  ·exact empty8
  ·exact hw x mx
noncomputable def T6:List D:=[.non,.int 7,.lst [.str "A : a"],.tup [.str "A : a"],.bl true,.dct []]
def t6_no:∀d∈T6,gIsA [d,.ty "str"]=.ok (.bl false):=by
 intro d m
 simp only[T6,z8,z1G,or_false] at m
 rcases m with rfl|rfl|rfl|rfl|rfl|rfl<;>rfl
def t6_ix {k:Nat} (h:k<6):∃d∈T6,dIx (.lst [.non,.int 7,.lst [.str "A : a"],.tup [.str "A : a"],.bl true,.dct []]) (dN k)=.ok d:=by
 have h':k<T6.length:=h
 refine⟨T6[k],z0F h',u6e (ds:=T6) (i:=k) (u5 h')⟩
def row_e:∃rows,Rows8 rows/\txt rows=""/\res8 (readL 0 [] [] rows)=.tup [.str "text",.int 0]:=by
 refine⟨[[""]],⟨⟨λws m=>?_,by simp,by simp⟩,λws m=>?_⟩,by decide +kernel,?_⟩
 ·rw [y6.mp m]
  exact⟨by simp,by decide +kernel,λx m=>by rw[y6.mp m];exact empty8.no,by simp⟩
 ·rw [y6.mp m]
  exact λx m=>by rw[y6.mp m];exact empty8.p
 ·have:readL 0 [] [] [[("":Str)]]=.inl 0:=by
   have q:rowK [] [] [("":Str)]=none:=by decide +kernel
   rw[readL,q]
  rw[this]
  rfl
structure Sm8 (G T U:FD) (d:D):Prop where
 ex:∃x,T [d]=.ok x/\U [d]=.ok x/\G [x,x]=.ok (.bl true)
def sm8 {G T U:FD} (a4p:∀(w:Str) (d:D),goodD d=true->depD d<=50->G [.tup [.str w,d],.tup [.str w,d]]=.ok (.bl true)) (a3t:Told T) (a4w:TDue U) {rows:List (List Str)} (h:Rows8 rows):Sm8 G T U (.str (txt rows)):=by
 obtain⟨w,d,e,h1,h2⟩:=res8_ok h
 exact⟨_,a3t.t rows h,a4w rows h,by rw[e];exact a4p w d h1 h2⟩
def rng_2 {a n:Nat} (h:a+n<=1000):rng2 [.int (a:Int),.int ((a+n:Nat):Int)]=.ok (intL (a:Int) n):=by
 show gd _ _=_
 rw[u0w (by omega),show(((a+n:Nat):Int) - (a:Int)).toNat=n by omega]
def v2B {a n:Nat}{d:D} (h:d∈intL (a:Int) n):∃k,d=dN k:=by
 simp[intL] at h
 obtain⟨k,_,e⟩:=h
 exact⟨a+k,by rw[<- e];rfl⟩
theorem v0h {g:D->Rho->Res Rho}{tb:Rho->Out} (S:Rho->Prop) (P:D->Prop) (step:∀d ρ,P d->S ρ->∃ρ1 ρ2,g d ρ=.ok ρ1/\tb ρ1=.nx ρ2/\S ρ2):∀(ds:List D) (ρ:Rho),(∀d∈ds,P d)->S ρ->∃ρ',forD g tb ds ρ=.nx ρ'/\S ρ'
 | [],ρ,_,h=>⟨ρ,rfl,h⟩
 | d::ds,ρ,hp,h=>by
  obtain⟨ρ1,ρ2,e1,e2,h2⟩:=step d ρ (hp d z6) h
  obtain⟨ρ',e3,h3⟩:=v0h S P step ds ρ2 (λx hx=>hp x (z0 _ hx)) h2
  exact⟨ρ',by simp[forD,e1,e2,e3],h3⟩
def v2J {g:D->Rho->Res Rho}{tb:Rho->Out}{ds:List D}{ρ:Rho} (S:Rho->Prop) (P:D->Prop) (hp:∀d∈ds,P d) (h0:S ρ) (step:∀d ρ,P d->S ρ->∃ρ1 ρ2,g d ρ=.ok ρ1/\tb ρ1=.nx ρ2/\S ρ2):∃ρ',forD g tb ds ρ=.nx ρ'/\S ρ':=v0h S P step ds ρ hp h0
section
variable {P:Program}{w:World}{K:W.Frag}{mg:MG}{base:Heap}{f:Addr}{fd:FuncData}{A:Adr}
def pr_law {a2f:FD} (a4m:Callee P w K mg base 5 "_law_good" ["_law_script","_law_at"] (spF K a2f)) {a0b:FD} (a0f:Callee P w K mg base 2 "_law_row" ["_law_script","_law_at","_law_base","_law_count"] (spF K a0b)) {a2k:FD} (a3r:Callee P w K mg base 2 "_law_spoilt" ["_law_rows","_law_draws"] (spF K a2k)) {a1r:FD} (a1g:Callee P w K mg base 2 "_law_same" ["_law_told_here","_law_due_here"] (spF K a1r)) {a3l:FD} (a4i:Callee P w K mg base 3 "_law_wild" ["_law_script","_law_at"] (spF K a3l)) {a1q:FD} (a1f:CalleeX P w K mg base 10 "_law_told" ["_law_text"] a1q) {a0p:FD} (a1i:Callee P w K mg base 5 "_law_text_due" ["_law_text"] (spF K a0p)) (a2l:Row a0b) (a4p:∀(w:Str) (d:D),goodD d=true->depD d<=50->a1r [.tup [.str w,d],.tup [.str w,d]]=.ok (.bl true)) (a3t:Told a1q) (a5k:Good a2f) (a4w:TDue a0p) (a5b:Spoilt a2k) (a5h:Wild a3l) (F:Fun K "law" "law" u6N f fd) (T:Txt K mg A):∃G,FnOk P w K mg base (CXe P w) 11 f fd ["_law_script"] (spX K G)/\∀ns:List Int,G [scr ns]=.ok (.bl true):=by
 refine⟨_,F.okTX (k:=10) u3J (λcdv Ar outer s H E hr hq=>u0d (ds_n u3J.nd (d_ix x_ix (u0F (u0a u2j (u0a u0c (u0a (u0F (u0a u0i u0b)) (u0a (u0h (u0a u0i u0b)) (u0a d_bl (u0a (DN.de v2W) u0b))))))) (d_ix x_ix (d_fn a0f hr (u0a (dv 0) (u0a u0c (u0a u0c (u0a u0c u0b))))) u0c)))
  (u0d (u0v (dt_w (u3l (u0J (u0I (d_fn a1g hr (u0a (u7p hq a1f hr (u0a (dv 1) u0b)) (u0a (u0h (u0a u0i (u0a u0c u0b))) u0b))))) (u2G (u0J (u0I (d_fn a1g hr (u0a (u7p hq a1f hr (u0a u0i u0b)) (u0a (u0h (u0a u0i (u0a u0c u0b))) u0b)))))))) (u0e (u0g d_bl)) u0n)
  (u0d (ds_n u3J.nd (d_fn a4m hr (u0a (dv 0) (u0a u0c u0b))))
  (u0d (u0Y rfl (u0A (u0F (u0a (u3V (dv 2)) (u0a (u3V (d_op u0E (dv 2) (u0F (u0a u0i u0b)))) (u0a (u3V (d_op u0E (u0F (u0a u0i u0b)) (dv 2))) (u0a (d_op u0E u0i (u3V (dv 2))) u0b)))))) (dg_n u3J.nd)
  (u0e (u0v (u0J (u0I (d_fn a1g hr (u0a (u7p hq a1f hr (u0a (dv 3) u0b)) (u0a (d_fn a1i hr (u0a (dv 3) u0b)) u0b))))) (u0e (u0g d_bl)) u0n)) hq.ps)
  (u0d (u0Y rfl (v2V T.z_range (u0a u0c (u0a (d_B (c_max rfl) T.z_max (by decide +kernel) (u0a u0c (u0a (d_B (c_min rfl) T.z_min (by decide +kernel) (u0a (d_B u0L T.z_len (by decide +kernel) (u0a (dv 0) u0b)) (u0a u0c u0b))) u0b))) u0b))) (dg_n u3J.nd)
  (u0d (ds_n u3J.nd (d_fn a0f hr (u0a (dv 0) (u0a (dv 4) (u0a (d_op u0Z (d_op u0Z (d_op u0Z u0c u0c) u0c) u0c) (u0a u0c u0b))))))
   (u0d (ds_n u3J.nd (d_fn a3r hr (u0a (dv 2) (u0a (u0F (u0a (d_op u1c (d_ix x_ix (dv 5) u0c) u0c) (u0a (d_ix x_ix (dv 5) u0c) (u0a (d_ix x_ix (dv 5) u0c) (u0a (d_ix x_ix (dv 5) u0c) (u0a (d_ix x_ix (dv 5) u0c) u0b)))))) u0b))))
   (u0d (u0v (u0m (o_eq (hu64 hr)) (d_op u1c (d_op u6c (d_ix x_ix (dv 5) u0c) u0c) u0c) u0c) (u0e (ds_n u3J.nd (d_fn a4i hr (u0a (dv 0) (u0a (dv 4) u0b))))) u0n)
   (u0d (ds_n u3J.nd (u3V (dv 6)))
   (u0e (u0v (u0J (u0I (d_fn a1g hr (u0a (u7p hq a1f hr (u0a (dv 3) u0b)) (u0a (d_fn a1i hr (u0a (dv 3) u0b)) u0b))))) (u0e (u0g d_bl)) u0n)))))) hq.ps)
  (u0e (u0g d_bl))))))),?_⟩
 intro ns
 obtain⟨rs,er,hl,hb⟩:=a2l ns 62 6 1 (by omega) (by omega) (by omega)
 have er':a0b [scr ns,.int 62,.int 6,.int 1]=.ok (.lst (rs.map dN)):=er
 have x0:dIx (.lst (rs.map dN)) (.int 0)=.ok (dN (rs[0]'(by omega))):=ix_m (c:=dN) (rs:=rs) (i:=0) (by omega)
 have r6:rs[0]'(by omega)<6:=hb _ (z0F _)
 generalize (rs[0]'(by omega))=q0 at x0 r6
 refine bc λhZ=>?_
 obtain⟨d,hd,ed⟩:=t6_ix r6
 have td:=a3t.o d (t6_no d hd)
 have s0:=a4p "text" (.int 0) rfl (by simp[depD])
 obtain⟨rw0,h0,e0,v0⟩:=row_e
 have te:=a3t.t rw0 h0
 rw[e0,v0] at te
 obtain⟨zs,eg,z1,z13,hz⟩:=a5k ns 1
 have eg':a2f [scr ns,.int 1]=.ok (dS zs):=eg
 have sm:∀{rows},Rows8 rows->Sm8 a1r a1q a0p (.str (txt rows)):=λh=>sm8 a4p a3t a4w h
 obtain⟨w1,h1,j1⟩:=text8 (zs:=zs) (λz m=>(hz z m).mono (by omega)) (by omega)
 obtain⟨w2,h2,j2⟩:=text8 (zs:=zs++[("":Str)]) (λz m=>by
  rcases x9.mp m with m|m
  ·exact(hz z m).mono (by omega)
  ·rw[y6.mp m];exact e8.mono (by omega)) (by simp;omega)
 obtain⟨w3,h3,j3⟩:=text8 (zs:=""::zs) (λz m=>by
  rcases z8.mp m with rfl|m
  ·exact e8.mono (by omega)
  ·exact(hz z m).mono (by omega)) (by simp;omega)
 obtain⟨w4,h4,j4⟩:∃rows,Rows8 rows/\dAdd (.str " ") (.str (txt w1))=.ok (.str (txt rows)):=by
  match zs,z1,hz,j1 with
  | z::r,_,hz,j1 =>
   obtain⟨w4,h4,j4⟩:=text8 (zs:=(" "++z)::r) (λx m=>by
    rcases z8.mp m with rfl|m
    ·exact(blank8 (hz z z6)).mono (by omega)
    ·exact(hz x (z0 _ m)).mono (by omega)) (by simp at z13 |-;omega)
   refine⟨w4,h4,?_⟩
   have k1:joinD "\n" (dS (z::r))=.ok (.str (Txt.join LF (z::r))):=u9X (n:=918) (m:=20) (λx m=>u7L ((hz x m).mono (by omega:12<=102))) rfl (by simp at z13 |-;omega) (by decide)
   have k2:joinD "\n" (dS ((" "++z)::r))=.ok (.str (Txt.join LF ((" "++z)::r))):=u9X (n:=918) (m:=20) (λx m=>by
    rcases z8.mp m with rfl|m
    ·exact u7L ((blank8 (hz z z6)).mono (by omega:12+1<=102))
    ·exact u7L ((hz x (z0 _ m)).mono (by omega:12<=102))) rfl (by simp at z13 |-;omega) (by decide)
   rw[k1] at j1
   rw[k2] at j4
   have e1:=D.str.inj (Res.ok.inj j1)
   have e4:=D.str.inj (Res.ok.inj j4)
   have ee:Txt.join LF ((" "++z)::r)=" "++Txt.join LF (z::r):=u4c (by rw[u2A,u4q,u4q,u2A];simp)
   rw[<- e4,<- e1,ee]
   refine u6G ?_
   have:=u2T LF (z::r)
   have l2:=u6i (n:=918) (ws:=z::r) λx m=>u7L ((hz x m).mono (by omega:12<=102))
   rw[show LF.length=1 from rfl] at this
   rw[show(" ":Str).length=1 from rfl]
   have l3:(z::r).length*918<=13*918:=Nat.mul_le_mul_right _ z13
   omega
 refine hZ ?_
 have a2:dAdd (dS zs) (.lst [.str ""])=.ok (dS (zs++[("":Str)])):=u8L (b:=[("":Str)]) (by simp;omega)
 have a3:dAdd (.lst [.str ""]) (dS zs)=.ok (dS (""::zs)):=u8L (a:=[("":Str)]) (by simp;omega)
 have it:∀l:List D,items (.lst l)=.ok l:=λl=>rfl
 have td0:(OD.d []).toD=.dct []:=rfl
 simp[runX,startD,td0,er',x0,ed,td,te,s0,eg',j1,j2,j3,j4,a2,a3,it,-u0k,-u0f,-zb,-zg,-zn,bN,gN,nN]
 generalize hI:forD _ _ _ _=o
 have q:∃ρ',o=.nx ρ'/\∃x3,ρ'=[some (.val (scr ns)),some (.val d),some (.val (dS zs)),x3,none,none,none]:=by
  rw[<- hI]
  refine v2J (λρ=>∃x3,ρ=[some (.val (scr ns)),some (.val d),some (.val (dS zs)),x3,none,none,none]) (λd=>Sm8 a1r a1q a0p d) ?_ ⟨_,rfl⟩ ?_
  ·intro x m
   simp only[z8,z1G,or_false] at m
   rcases m with rfl|rfl|rfl|rfl
   ·exact sm h1
   ·exact sm h2
   ·exact sm h3
   ·exact sm h4
  ·rintro x ρ hx ⟨x3,rfl⟩
   obtain⟨v,e1,e2,e3⟩:=hx.ex
   exact⟨_,_,rfl,by simp[e1,e2,e3,-u0k,-u0f,-zb,-zg,-zn,bN,gN,nN];rfl,_,rfl⟩
 refine bc λhZ=>?_
 obtain⟨_,rfl,x3,rfl⟩:=q
 obtain⟨n,hn,en⟩:∃n:Nat,n<=49/\((gLen [scr ns]).bind λl=>(gMin [l,.int 60]).bind λm=>gMax [.int 15,m])=.ok (.int ((11+n:Nat):Int)):=by
  have e1:gLen [scr ns]=.ok (.int (ns.length:Int)):=by show Res.ok (D.int _)=_;rw[v6]
  rw[e1]
  show ∃n:Nat,n<=49/\Res.ok (D.int (if (if (60:Int)<(ns.length:Int) then 60 else (ns.length:Int)) > 15 then (if (60:Int)<(ns.length:Int) then 60 else (ns.length:Int)) else 15))=_
  refine⟨((if (if (60:Int)<(ns.length:Int) then 60 else (ns.length:Int)) > 15 then (if (60:Int)<(ns.length:Int) then 60 else (ns.length:Int)) else 15) - 11).toNat,?_,?_⟩
  ·split<;>split<;>omega
  ·congr 2
   split<;>split<;>omega
 have g1:gLen [scr ns]=.ok (.int (ns.length:Int)):=by show Res.ok (D.int _)=_;rw[v6]
 rw[g1,zb] at en
 obtain⟨m,g2⟩:∃m:Int,gMin [.int (ns.length:Int),.int 60]=.ok (.int m):=⟨_,rfl⟩
 refine hZ ?_
 rw[g2,zb] at en
 have m0:dMulX (.int 10) (.int 9)=.ok (.int 90):=u2n (by omega)
 have m1:dMulX (.int 90) (.int 8)=.ok (.int 720):=u2n (by omega)
 have m2:dMulX (.int 720) (.int 40)=.ok (.int 28800):=u2n (by omega)
 have er2:rng2 [.int 11,.int (11+(n:Int))]=.ok (intL 11 n):=rng_2 (a:=11) (n:=n) (by omega)
 simp[g1,g2,en,er2,-u0k,-u0f,-zb,-zg,-zn,bN,gN,nN]
 generalize hI2:forD _ _ _ _=o2
 have q:∃ρ',o2=.nx ρ'/\∃x3 x4 x5 x6,ρ'=[some (.val (scr ns)),some (.val d),some (.val (dS zs)),x3,x4,x5,x6]:=by
  rw[<- hI2]
  refine v2J (λρ=>∃x3 x4 x5 x6,ρ=[some (.val (scr ns)),some (.val d),some (.val (dS zs)),x3,x4,x5,x6]) (λd=>∃k,d=dN k) (λx m=>v2B (a:=11) m) ⟨_,_,_,_,rfl⟩ ?_
  rintro x ρ ⟨k,rfl⟩ ⟨x3,x4,x5,x6,rfl⟩
  obtain⟨rs,er,hl,hb⟩:=a2l ns k 28800 5 (by omega) (by omega) (by omega)
  have er':a0b [scr ns,dN k,.int 28800,.int 5]=.ok (.lst (rs.map dN)):=er
  match rs,hl,er' with
  | [r0,r1,r2,r3,r4],_,er' =>
   have y0:dIx (.lst [dN r0,dN r1,dN r2,dN r3,dN r4]) (.int 0)=.ok (dN r0):=u6e (i:=0) rfl
   have y1:dIx (.lst [dN r0,dN r1,dN r2,dN r3,dN r4]) (.int 1)=.ok (dN r1):=u6e (i:=1) rfl
   have y2:dIx (.lst [dN r0,dN r1,dN r2,dN r3,dN r4]) (.int 2)=.ok (dN r2):=u6e (i:=2) rfl
   have y3:dIx (.lst [dN r0,dN r1,dN r2,dN r3,dN r4]) (.int 3)=.ok (dN r3):=u6e (i:=3) rfl
   have y4:dIx (.lst [dN r0,dN r1,dN r2,dN r3,dN r4]) (.int 4)=.ok (dN r4):=u6e (i:=4) rfl
   have er':a0b [scr ns,dN k,.int 28800,.int 5]=.ok (.lst [dN r0,dN r1,dN r2,dN r3,dN r4]):=er'
   refine bc λhZ=>?_
   obtain⟨w,ew,hw⟩:=modI (r0:Int) (b:=9) (by omega)
   have t1:dMod (dN r0) (.int 9)=.ok (dN w):=by rw[u0G (by omega)];exact congrArg (λi=>Res.ok (D.int i)) ew
   have t2:dDiv (dN r0) (.int 9)=.ok (.int ((r0:Int) / 9)):=u3o (by omega) (by omega)
   obtain⟨v,ev,hv⟩:=modI ((r0:Int) / 9) (b:=3) (by omega)
   have t3:dMod (.int ((r0:Int) / 9)) (.int 3)=.ok (dN v):=by rw[u0G (by omega)];exact congrArg (λi=>Res.ok (D.int i)) ev
   obtain⟨zs',es,hs14,hs⟩:=a5b zs w r1 r2 r3 r4 z1 z13 hz hw
   obtain⟨zw,ewd,hw8,hwd⟩:=a5h ns k
   refine hZ ?_
   have hf3:∀ρ,frz (x3::ρ)=x3.map frzS::frz ρ:=λ_=>rfl
   by_cases c:v=0
   ·have t4:dEq (dN v) (.int 0)=.ok (.bl true):=by rw [c];rfl
    refine bc λhZ=>?_
    obtain⟨rows,hr,j⟩:=text8 (zs:=zw) (λz m=>(hwd z m).mono (by omega)) (by omega)
    obtain⟨u,e1,e2,e3⟩:=(sm hr).ex
    refine hZ ?_
    exact⟨_,_,rfl,by simp[m0,m1,m2,er',y0,y1,y2,y3,y4,hf3,t1,t2,t3,t4,es,ewd,j,e1,e2,e3,-u0k,-u0f,-zb,-zg,-zn,bN,gN,nN];exact⟨rfl,rfl,rfl,rfl⟩,_,_,_,_,rfl⟩
   ·have t4:dEq (dN v) (.int 0)=.ok (.bl false):=by
     have:((v:Int)==0)=false:=by rw[beq_eq_false_iff_ne];omega
     rw[ei8,this]
    refine bc λhZ=>?_
    obtain⟨rows,hr,j⟩:=text8 (zs:=zs') (λz m=>(hs z m).mono (by omega)) (by omega)
    obtain⟨u,e1,e2,e3⟩:=(sm hr).ex
    refine hZ ?_
    exact⟨_,_,rfl,by simp[m0,m1,m2,er',y0,y1,y2,y3,y4,hf3,t1,t2,t3,t4,es,j,e1,e2,e3,-u0k,-u0f,-zb,-zg,-zn,bN,gN,nN];exact⟨rfl,rfl,rfl,rfl⟩,_,_,_,_,rfl⟩
 obtain⟨_,rfl,_⟩:=q
 simp
end
noncomputable def noLst (K:W.Frag):Bool:=K.all λp=>match p.2.cls with
 | .type T=>!(T=="list")
 | _=>true
set_option tactic.hygienic true in
def v3L {K:W.Frag} (h:noLst K=true) {a:Addr}{o:Obj} (e:K.lookup a=some o):o.cls≠.type "list":=λz=>by
 have hm:(a,o)∈K:=by
  unfold noLst at h
  clear h
  induction K with
  | nil=>cases e
  | cons p K ih =>
   obtain⟨b,u⟩:=p
   rw[z0J] at e
   split at e
   ·rename_i q
    cases e
    rw[beq_iff_eq.mp q]
    exact z6
   ·exact z0 _ (ih e)
 have:=z2F.mp h _ hm
 simp only[z] at this
 simp at this
theorem u9K {K:W.Frag}{F:Hp}:∀ns:List Int,Rps K F (ns.map V.int) (ns.map D.int)
 | []=>.nil
 | n::ns=>.cons (.int n) (u9K ns)
def spLaw7 (K:W.Frag):Sp:=λvs H Q _=>∃(a:Addr) (ns:List Int),vs=[.ref a]/\SqL K H a (ns.map V.int)/\∀H',Q (.bl true) H'
def law_imp {P:Program}{w:World}{K:W.Frag}{mg:MG}{base:Heap}{k:Nat}{f:Addr}{fd:FuncData}{ps:List Str}{G:FD} (nl:noLst K=true) (h:FnOk P w K mg base (CXe P w) k f fd ps (spX K G)) (p:∀ns:List Int,G [scr ns]=.ok (.bl true)) :
  FnOk P w K mg base (CXe P w) k f fd ps (spLaw7 K):=h.imp λvs H Q E ⟨a,ns,e,hs,q⟩=>by
 subst e
 rcases hs with hs|⟨o,its,n,e1,e2,_⟩
 ·refine ⟨H,[scr ns],Same.refl H,.cons (.lst hs (u9K ns)) .nil,?_⟩
  rw[p ns]
  intro v F' H' st pv
  cases pv
  exact q H'
 ·exact absurd e2 (v3L nl e1)
def s_xf {X:Cx}{o value:Expr}{ta tv:TE}{f:Str}{pos pos':Pos} (ha:JE X o ta) (hv:JE X value tv) (hs:swapsWith value (some (.Attribute o f pos')) pos.line X.env=pure false:=by rfl):JS X (.Assign [.Attribute o f pos'] value pos) (sXF X.K ta tv f):=⟨ps_xf ha.out hv.out hs⟩
section
variable {P:Program}{w:World}{K:W.Frag}{mg:MG}{base:Heap}{f C:Addr}{fd:FuncData}
def ok_x {q fl:Str}{st:Stmt}{p1 p2 p3 p4:Pos} (F:Fun K "__init__" q st f fd) (S:FnScope ["self",fl] ["self",fl] (defScope st)) (hb:defBody st=[.Assign [.Attribute (.Name "self" p1) fl p2] (.Name fl p3) p4]) (e1:(fl==("__debug__":Str))=false) (e2:(fl==("__classdict__":Str))=false) (c:XCls K C f) (n:NoAttr K C fl):FnOk P w K mg base CX0 1 f fd ["self",fl] (spXI C [fl]):=by
 have vi:∀x∈(["self",fl]:List Str),Vis (defScope st) x:=λx hx=>(S.par x hx).elim .inl λz=>.inr (.inl z)
 refine F.okJ S (λvs H Q E h=>?_) (λcdv A outer s H vs Q E hr h=>?_)
 ·obtain ⟨a,args,n',rfl,hl,_⟩:=h
  rw[u9,hl];rfl
 refine bc λhZ=>?_
 obtain⟨a,args,n',rfl,hl,ha,q⟩:=h
 refine hZ ?_
 match args,hl,q with
 | [v],_,q =>
  rw[hb]
  refine⟨_,u8G (s_xf (ev 0 rfl (vi _ (by simp))) (ev 1 rfl (vi _ (by simp)) e1 e2)),?_⟩
  exact⟨_,rfl,_,rfl,a,C,f,n',rfl,c,n,ha,λdx h1 h2=>q dx h1 h2⟩
end
def AtF (K:W.Frag) (x:Str) (st:Stmt):Prop:=∃f oc od kV dc pm an cd ct sl,W.nsIn K mainGlobals x=some (some (.ref f))/\K.lookup f=some ⟨oc,od,.func (W.fnOf x x (defArgs st) (defBody st) (defScope st) .none kV dc pm an cd ct),sl⟩/\W.codeIn K cd x=true/\W.keepIn K (.ref f)=true
def AtX (K:W.Frag) (C:Addr) (x q fl:Str) (st:Stmt):Prop:=W.nsIn K mainGlobals x=some (some (.ref C))/\∃f oc od kV dc pm an cd ct sl,W.findIn K (.ref C) "__init__"=some (some (.ref f))/\K.lookup f=some ⟨oc,od,.func (W.fnOf "__init__" q (defArgs st) (defBody st) (defScope st) .none kV dc pm an cd ct),sl⟩/\W.codeIn K cd q=true/\W.keepIn K (.ref f)=true/\xcB K C f=true/\W.findIn K (.ref C) fl=some none/\xbB K C=true
section
variable {P:Program}{w:World}{K:W.Frag}{h:Heap}{mg:MG}{base:Heap}{f C:Addr}{fd:FuncData}{x q fl m:Str}{st:Stmt}{k:Nat}{ps:List Str}{p1 p2 p3 p4 p5:Str}
def AtF.go (a:AtF K x st) (X:K.In h) (G:h.Ns mainGlobals mg):∃f fd,Fun K x x st f fd/\mg x=some (.ref f)/\W.keepIn K (.ref f)=true:=by
 refine bc λhZ=>?_
 obtain⟨f,oc,od,kV,dc,pm,an,cd,ct,sl,h1,h2,h3,h4⟩:=a
 refine hZ ?_
 exact⟨f,_,v2I h2 h3 h4,W.mg_of X G h1,h4⟩
def AtX.go (a:AtX K C x q fl st) (X:K.In h) (G:h.Ns mainGlobals mg):∃f fd,Fun K "__init__" q st f fd/\XCls K C f/\NoAttr K C fl/\mg x=some (.ref C)/\XBase K C:=by
 refine bc λhZ=>?_
 obtain⟨h0,f,oc,od,kV,dc,pm,an,cd,ct,sl,h1,h2,h3,h4,h5,h6,h7⟩:=a
 refine hZ ?_
 exact⟨f,_,v2I h2 h3 h4,xcls_of h5,h6,W.mg_of X G h0,u4P h7⟩
abbrev bA (x q:Str) (st:Stmt) (us:List Value) (l:List (Str×Value)):Prop:=∀(kV doc pm:Value) (an:Option Addr) (cdv ct:Value),bindArgs (W.fnOf x q (defArgs st) (defBody st) (defScope st) .none kV doc pm an cdv ct) ⟨us,[]⟩=pure l
def l1 {α:Type}{n:Nat}{us:List α} (hl:us.length=n+1):∃a r,us=a::r/\r.length=n:=by
 cases us with
 | nil=>cases hl
 | cons a r=>exact⟨a,r,rfl,Nat.succ.inj hl⟩
def _root_.L2.Fun.b1 (F:Fun K x q st f fd) (e:∀a,bA x q st [a] [(p1,a)]):Binds K fd [p1] []:=F.binds λkV doc pm an cdv ct us hl=>by obtain⟨a,u0,rfl,h0⟩:=l1 hl;obtain rfl:=z1A.mp h0;exact e a kV doc pm an cdv ct
def _root_.L2.Fun.b2 (F:Fun K x q st f fd) (e:∀a b,bA x q st [a,b] [(p1,a),(p2,b)]):Binds K fd [p1,p2] []:=F.binds λkV doc pm an cdv ct us hl=>by obtain⟨a,u0,rfl,h0⟩:=l1 hl;obtain⟨b,u1,rfl,h1⟩:=l1 h0;obtain rfl:=z1A.mp h1;exact e a b kV doc pm an cdv ct
def _root_.L2.Fun.b3 (F:Fun K x q st f fd) (e:∀a b c,bA x q st [a,b,c] [(p1,a),(p2,b),(p3,c)]):Binds K fd [p1,p2,p3] []:=F.binds λkV doc pm an cdv ct us hl=>by obtain⟨a,u0,rfl,h0⟩:=l1 hl;obtain⟨b,u1,rfl,h1⟩:=l1 h0;obtain⟨c,u2,rfl,h2⟩:=l1 h1;obtain rfl:=z1A.mp h2;exact e a b c kV doc pm an cdv ct
def _root_.L2.Fun.b4 (F:Fun K x q st f fd) (e:∀a b c d,bA x q st [a,b,c,d] [(p1,a),(p2,b),(p3,c),(p4,d)]):Binds K fd [p1,p2,p3,p4] []:=F.binds λkV doc pm an cdv ct us hl=>by obtain⟨a,u0,rfl,h0⟩:=l1 hl;obtain⟨b,u1,rfl,h1⟩:=l1 h0;obtain⟨c,u2,rfl,h2⟩:=l1 h1;obtain⟨d,u3,rfl,h3⟩:=l1 h2;obtain rfl:=z1A.mp h3;exact e a b c d kV doc pm an cdv ct
def _root_.L2.Fun.b5 (F:Fun K x q st f fd) (e:∀a b c d g,bA x q st [a,b,c,d,g] [(p1,a),(p2,b),(p3,c),(p4,d),(p5,g)]):Binds K fd [p1,p2,p3,p4,p5] []:=F.binds λkV doc pm an cdv ct us hl=>by obtain⟨a,u0,rfl,h0⟩:=l1 hl;obtain⟨b,u1,rfl,h1⟩:=l1 h0;obtain⟨c,u2,rfl,h2⟩:=l1 h1;obtain⟨d,u3,rfl,h3⟩:=l1 h2;obtain⟨g,u4,rfl,h4⟩:=l1 h3;obtain rfl:=z1A.mp h4;exact e a b c d g kV doc pm an cdv ct
def mkC {g:FD} (H:FnOk P w K mg base CX0 k f fd ps (spF K g)) (b:Binds K fd ps []) (kp:W.keepIn K (.ref f)=true) (a:mg x=some (.ref f)):Callee P w K mg base k x ps (spF K g):=⟨f,fd,H,b,kp,a⟩
def mkX {g:FD} (H:FnOk P w K mg base (CXe P w) k f fd ps (spX K g)) (b:Binds K fd ps []) (kp:W.keepIn K (.ref f)=true) (a:mg x=some (.ref f)):CalleeX P w K mg base k x ps g:=⟨f,fd,H,b,kp,a⟩
def mkE (H:FnOk P w K mg base CX0 1 f fd ["self",fl] (spXI C [fl])) (b:Binds K fd ["self",fl] []) (c:XCls K C f) (a:mg x=some (.ref C)):XCalleeF P w K mg base 1 x C ["self",fl] [fl]:=⟨f,fd,c,H,b,a⟩
end
set_option maxHeartbeats 0 in
def all_mk {l:W.OpenLaw}{w:World}{K:W.Frag}{h:Heap}{mg:MG}{fa tG aS fG fl CNoRule CNoRanks CTooMany CNoText CNoHead CDoubled CTableError CGrammar:Addr} (X:K.In h) (G:h.Ns mainGlobals mg) (hfa:mg "law"=some (.ref fa)) {odt odS odG anG odl anl:Option Addr}{slt slS slG sll:Array (Option Value)}{oct ocG kVG dcG pmG cdG ctG ocl kVl dcl pml cdl ctl:Value}{nT nS:Nat}{tMOST_IN_BODY tMOST_IN_RANK tMOST_RULES tMOST_HEADS tMOST_SIGNS tMOST_RANKS tLONGEST tIN_SIGNS tGREAT tSMALL_AND_FIGURES tOR tIS tEMPTY ts1 ts2 ts3:Tok}
  (h0:AtF K "is_short_text" u1W) (h1:AtF K "has_only" u3d) (h2:AtF K "is_sign" u5i) (h3:AtF K "is_head" u5n) (h4:AtF K "is_symbol" u3u) (h5:AtF K "is_pair" u5m) (h6:AtF K "is_body" u3K) (h7:AtF K "is_rule" u5k) (h8:AtF K "is_side" u5j) (h9:AtF K "is_rank_signs" u1t) (h10:AtF K "is_rank" u5l) (h11:AtF K "heads_in" u3c) (h12:AtF K "signs_in" u4f) (h13:AtF K "need_rules" u2N) (h14:AtF K "need_known_heads" u1q) (h15:AtF K "need_few_symbols" u1r) (h16:AtF K "need_ranks" u2O) (h17:AtF K "bodies_in" u3v) (h18:AtF K "has_body_form" u1v) (h19:AtF K "has_rules_form" u1h) (h20:AtF K "has_rank_form" u1u) (h21:AtF K "body_by" u5o) (h22:AtF K "read_grammar" u1E) (h23:AtF K "_law_cell" u4k) (h24:AtF K "_law_stir" u4i) (h25:AtF K "_law_row" u5g) (h26:AtF K "_law_heads" u2y) (h27:AtF K "_law_signs" u2w) (h28:AtF K "_law_shape" u3r) (h29:AtF K "_law_symbol" u2P) (h30:AtF K "_law_drawn_rules" u1a) (h31:AtF K "_law_rules" u2x) (h32:AtF K "_law_wider" u1T) (h33:AtF K "_law_ranks" u3s) (h34:AtF K "_law_is_sign" u1K) (h35:AtF K "_law_is_head" u1N) (h36:AtF K "_law_is_rule" u1L) (h37:AtF K "_law_rules_due" u1U) (h38:AtF K "_law_heads_due" u1s) (h39:AtF K "_law_is_rank" u1M) (h40:AtF K "_law_ranks_due" u1V) (h41:AtF K "_law_due" u5h) (h42:AtF K "_law_kinds" u3t) (h43:AtF K "_law_same" u4j) (h44:AtF K "_law_word" u4g) (h45:AtF K "_law_wild" u2m) (h46:AtF K "_law_good" u3b) (h47:AtF K "_law_spoilt" u2Q) (h48:AtF K "_law_rank" u3a) (h49:AtF K "_law_bodies" u2b) (h50:AtF K "_law_read" u2Z) (h51:AtF K "_law_told" u4h) (h52:AtF K "_law_text_due" u2h) (xNoRule:AtX K CNoRule "NoRule" "NoRule.__init__" "found" (meth 3 0)) (xNoRanks:AtX K CNoRanks "NoRanks" "NoRanks.__init__" "found" (meth 4 0)) (xTooMany:AtX K CTooMany "TooMany" "TooMany.__init__" "found" (meth 5 0)) (xNoText:AtX K CNoText "NoText" "NoText.__init__" "line" (meth 6 0)) (xNoHead:AtX K CNoHead "NoHead" "NoHead.__init__" "head" (meth 7 0)) (xDoubled:AtX K CDoubled "Doubled" "Doubled.__init__" "number" (meth 8 0)) (gT:W.nsIn K mainGlobals "TableError"=some (some (.ref CTableError))/\xbB K CTableError=true) (s_NoText_NoText:subK K CNoText CNoText=true) (b_NoText:xbB K CNoText=true) (s_NoRule_NoText:subK K CNoRule CNoText=false) (s_NoRule_NoRule:subK K CNoRule CNoRule=true) (b_NoRule:xbB K CNoRule=true) (s_Doubled_NoText:subK K CDoubled CNoText=false) (s_Doubled_NoRule:subK K CDoubled CNoRule=false) (s_Doubled_Doubled:subK K CDoubled CDoubled=true) (b_Doubled:xbB K CDoubled=true) (s_NoHead_NoText:subK K CNoHead CNoText=false) (s_NoHead_NoRule:subK K CNoHead CNoRule=false) (s_NoHead_Doubled:subK K CNoHead CDoubled=false) (s_NoHead_NoHead:subK K CNoHead CNoHead=true) (b_NoHead:xbB K CNoHead=true) (s_NoRanks_NoText:subK K CNoRanks CNoText=false) (s_NoRanks_NoRule:subK K CNoRanks CNoRule=false) (s_NoRanks_Doubled:subK K CNoRanks CDoubled=false) (s_NoRanks_NoHead:subK K CNoRanks CNoHead=false) (s_NoRanks_NoRanks:subK K CNoRanks CNoRanks=true) (b_NoRanks:xbB K CNoRanks=true) (s_TooMany_NoText:subK K CTooMany CNoText=false) (s_TooMany_NoRule:subK K CTooMany CNoRule=false) (s_TooMany_Doubled:subK K CTooMany CDoubled=false) (s_TooMany_NoHead:subK K CTooMany CNoHead=false) (s_TooMany_NoRanks:subK K CTooMany CNoRanks=false) (s_TooMany_TooMany:subK K CTooMany CTooMany=true) (b_TooMany:xbB K CTooMany=true) (gG:W.nsIn K mainGlobals "Grammar"=some (some (.ref CGrammar))) (aG:W.findIn K (.ref CGrammar) "__init__"=some (some (.ref fG))) (lG:K.lookup fG=some ⟨ocG,odG,.func (W.fnOf "__init__" "Grammar.__init__" (defArgs u1w) (defBody u1w) (defScope u1w) (.ref tG) kVG dcG pmG anG cdG ctG),slG⟩) (ltG:K.lookup tG=some ⟨oct,odt,.seq #[.none] nT,slt⟩) (cG:W.codeIn K cdG "Grammar.__init__"=true) (pgG:W.plainGet K CGrammar Str.empty=true) (hdG:W.hasDictIn K CGrammar=true) (poG:W.plainOver K CGrammar=true) (saG:W.findIn K (.ref CGrammar) "__setattr__"=some (some (.builtin "object.__setattr__"))) (mkG:W.makesIn K CGrammar=true) (fnG:W.isFn K (.ref fG)=true) (kpG:W.keepIn K (.ref CGrammar)=true) (naRu:W.findIn K (.ref CGrammar) "rules"=some none) (naRa:W.findIn K (.ref CGrammar) "ranks"=some none) (naSt:W.findIn K (.ref CGrammar) "start"=some none) (nl:noLst K=true) (gSI:W.nsIn K mainGlobals "SIDES"=some (some (.ref aS))) (lS:K.lookup aS=some ⟨.type "tuple",odS,.seq #[.str "left" ts1,.str "right" ts2,.str "none" ts3] nS,slS⟩) (gMOST_IN_BODY:W.nsIn K mainGlobals "MOST_IN_BODY"=some (some (.int 4 tMOST_IN_BODY))) (gMOST_IN_RANK:W.nsIn K mainGlobals "MOST_IN_RANK"=some (some (.int 10 tMOST_IN_RANK))) (gMOST_RULES:W.nsIn K mainGlobals "MOST_RULES"=some (some (.int 20 tMOST_RULES))) (gMOST_HEADS:W.nsIn K mainGlobals "MOST_HEADS"=some (some (.int 8 tMOST_HEADS))) (gMOST_SIGNS:W.nsIn K mainGlobals "MOST_SIGNS"=some (some (.int 10 tMOST_SIGNS))) (gMOST_RANKS:W.nsIn K mainGlobals "MOST_RANKS"=some (some (.int 6 tMOST_RANKS))) (gLONGEST:W.nsIn K mainGlobals "LONGEST"=some (some (.int 6 tLONGEST))) (gIN_SIGNS:W.nsIn K mainGlobals "IN_SIGNS"=some (some (.str "abcdefghijklmnopqrstuvwxyz0123456789+-*/()[]=<>,;.!?^&" tIN_SIGNS))) (gGREAT:W.nsIn K mainGlobals "GREAT"=some (some (.str "ABCDEFGHIJKLMNOPQRSTUVWXYZ" tGREAT))) (gSMALL_AND_FIGURES:W.nsIn K mainGlobals "SMALL_AND_FIGURES"=some (some (.str "abcdefghijklmnopqrstuvwxyz0123456789" tSMALL_AND_FIGURES))) (gOR:W.nsIn K mainGlobals "OR"=some (some (.str "|" tOR))) (gIS:W.nsIn K mainGlobals "IS"=some (some (.str ":" tIS))) (gEMPTY:W.nsIn K mainGlobals "EMPTY"=some (some (.str "~" tEMPTY))) (zz:∀x∈(["isinstance","str","int","bool","list","tuple","dict","len","all","range","enumerate","sorted","set","reversed","max","min"]:List Str),W.nsIn K mainGlobals x=some none) (al:W.nsIn K mainGlobals "law"=some (some (.ref fl))) (ll:K.lookup fl=some ⟨ocl,odl,.func (W.fnOf "law" "law" (defArgs u6N) (defBody u6N) (defScope u6N) .none kVl dcl pml anl cdl ctl),sll⟩) (cl:W.codeIn K cdl "law"=true) (kl:W.keepIn K (.ref fl)=true)
  : ∃fd:FuncData,(∀(s:Shared) (v:Value),BindsTo s fd ⟨[v],[]⟩ [("_law_script",v)])/\∀base:Heap,K.In base->base.Ns mainGlobals mg->FnOk l.prog w K mg base (CXe l.prog w) 11 fa fd ["_law_script"] (spLaw7 K):=by
 cases hfa.symm.trans (W.mg_of X G al)
 refine Classical.byContradiction λhZ=>?_
 obtain⟨_,_,FNoRule,XNoRule,NNoRule,MNoRule,BNoRule⟩:=xNoRule.go X G
 obtain⟨_,_,FNoRanks,XNoRanks,NNoRanks,MNoRanks,BNoRanks⟩:=xNoRanks.go X G
 obtain⟨_,_,FTooMany,XTooMany,NTooMany,MTooMany,BTooMany⟩:=xTooMany.go X G
 obtain⟨_,_,FNoText,XNoText,NNoText,MNoText,BNoText⟩:=xNoText.go X G
 obtain⟨_,_,FNoHead,XNoHead,NNoHead,MNoHead,BNoHead⟩:=xNoHead.go X G
 obtain⟨_,_,FDoubled,XDoubled,NDoubled,MDoubled,BDoubled⟩:=xDoubled.go X G
 let A:Adr:=⟨CNoRule,CNoRanks,CTooMany,CNoText,CNoHead,CDoubled,CTableError,CGrammar⟩
 have xf:XRead K "found" [CNoRule,CNoRanks,CTooMany]:=by
  intro C hC
  simp only[z8,z1G,or_false] at hC
  rcases hC with rfl|rfl|rfl
  ·exact⟨⟨_,XNoRule⟩,NNoRule⟩
  ·exact⟨⟨_,XNoRanks⟩,NNoRanks⟩
  ·exact⟨⟨_,XTooMany⟩,NTooMany⟩
 have xh:XRead K "head" [CNoHead]:=by
  intro C hC
  rw[y6.mp hC]
  exact⟨⟨_,XNoHead⟩,NNoHead⟩
 have xn:XRead K "number" [CDoubled]:=by
  intro C hC
  rw[y6.mp hC]
  exact⟨⟨_,XDoubled⟩,NDoubled⟩
 have xl:XRead K "line" [CNoText]:=by
  intro C hC
  rw[y6.mp hC]
  exact⟨⟨_,XNoText⟩,NNoText⟩
 have T:Txt K mg A:={ z_isinstance:=W.mg_none_of X G (zz _ (by decide)),z_str:=W.mg_none_of X G (zz _ (by decide)),z_int:=W.mg_none_of X G (zz _ (by decide)),z_bool:=W.mg_none_of X G (zz _ (by decide)),z_list:=W.mg_none_of X G (zz _ (by decide)),z_tuple:=W.mg_none_of X G (zz _ (by decide)),z_dict:=W.mg_none_of X G (zz _ (by decide)),z_len:=W.mg_none_of X G (zz _ (by decide)),z_all:=W.mg_none_of X G (zz _ (by decide)),z_range:=W.mg_none_of X G (zz _ (by decide)),z_enumerate:=W.mg_none_of X G (zz _ (by decide)),z_sorted:=W.mg_none_of X G (zz _ (by decide)),z_set:=W.mg_none_of X G (zz _ (by decide)),z_reversed:=W.mg_none_of X G (zz _ (by decide)),z_max:=W.mg_none_of X G (zz _ (by decide)),z_min:=W.mg_none_of X G (zz _ (by decide)),g_SIDES:=⟨.ref aS,⟨_,W.mg_of X G gSI,rfl⟩,λF=>.tup (xs:=[.str "left",.str "right",.str "none"]) (.inr ⟨_,_,_,lS,rfl,rfl,(show 3<=sizeLine by decide),.cons ⟨_,rfl⟩ (.cons ⟨_,rfl⟩ (.cons ⟨_,rfl⟩ .nil))⟩) (.cons (.str (by decide +kernel)) (.cons (.str (by decide +kernel)) (.cons (.str (by decide +kernel)) .nil)))⟩,g_MOST_IN_BODY:=⟨.int _,⟨_,W.mg_of X G gMOST_IN_BODY,⟨_,rfl⟩⟩,λF=>.int _⟩,g_MOST_IN_RANK:=⟨.int _,⟨_,W.mg_of X G gMOST_IN_RANK,⟨_,rfl⟩⟩,λF=>.int _⟩,g_MOST_RULES:=⟨.int _,⟨_,W.mg_of X G gMOST_RULES,⟨_,rfl⟩⟩,λF=>.int _⟩,g_MOST_HEADS:=⟨.int _,⟨_,W.mg_of X G gMOST_HEADS,⟨_,rfl⟩⟩,λF=>.int _⟩,g_MOST_SIGNS:=⟨.int _,⟨_,W.mg_of X G gMOST_SIGNS,⟨_,rfl⟩⟩,λF=>.int _⟩,g_MOST_RANKS:=⟨.int _,⟨_,W.mg_of X G gMOST_RANKS,⟨_,rfl⟩⟩,λF=>.int _⟩,g_LONGEST:=⟨.int _,⟨_,W.mg_of X G gLONGEST,⟨_,rfl⟩⟩,λF=>.int _⟩,g_IN_SIGNS:=⟨.str _,⟨_,W.mg_of X G gIN_SIGNS,⟨_,rfl⟩⟩,λF=>.str (by decide +kernel)⟩,g_GREAT:=⟨.str _,⟨_,W.mg_of X G gGREAT,⟨_,rfl⟩⟩,λF=>.str (by decide +kernel)⟩,g_SMALL_AND_FIGURES:=⟨.str _,⟨_,W.mg_of X G gSMALL_AND_FIGURES,⟨_,rfl⟩⟩,λF=>.str (by decide +kernel)⟩,g_OR:=⟨.str _,⟨_,W.mg_of X G gOR,⟨_,rfl⟩⟩,λF=>.str (by decide +kernel)⟩,g_IS:=⟨.str _,⟨_,W.mg_of X G gIS,⟨_,rfl⟩⟩,λF=>.str (by decide +kernel)⟩,g_EMPTY:=⟨.str _,⟨_,W.mg_of X G gEMPTY,⟨_,rfl⟩⟩,λF=>.str (by decide +kernel)⟩,m_NoRule:=MNoRule,b_NoRule:=BNoRule,m_NoRanks:=MNoRanks,b_NoRanks:=BNoRanks,m_TooMany:=MTooMany,b_TooMany:=BTooMany,m_NoText:=MNoText,b_NoText:=BNoText,m_NoHead:=MNoHead,b_NoHead:=BNoHead,m_Doubled:=MDoubled,b_Doubled:=BDoubled,m_TableError:=W.mg_of X G gT.1,b_TableError:=u4P gT.2,cls:=⟨pgG,hdG,poG,saG⟩,na_rules:=naRu,na_ranks:=naRa,na_start:=naSt,x_found:=xf,x_head:=xh,x_number:=xn,x_line:=xl }
 have Hn:Hnd K A:={ xb_NoText:=b_NoText,xb_NoRule:=b_NoRule,xb_Doubled:=b_Doubled,xb_NoHead:=b_NoHead,xb_NoRanks:=b_NoRanks,xb_TooMany:=b_TooMany,sb_NoText_NoText:=s_NoText_NoText,sb_NoRule_NoText:=s_NoRule_NoText,sb_NoRule_NoRule:=s_NoRule_NoRule,sb_Doubled_NoText:=s_Doubled_NoText,sb_Doubled_NoRule:=s_Doubled_NoRule,sb_Doubled_Doubled:=s_Doubled_Doubled,sb_NoHead_NoText:=s_NoHead_NoText,sb_NoHead_NoRule:=s_NoHead_NoRule,sb_NoHead_Doubled:=s_NoHead_Doubled,sb_NoHead_NoHead:=s_NoHead_NoHead,sb_NoRanks_NoText:=s_NoRanks_NoText,sb_NoRanks_NoRule:=s_NoRanks_NoRule,sb_NoRanks_Doubled:=s_NoRanks_Doubled,sb_NoRanks_NoHead:=s_NoRanks_NoHead,sb_NoRanks_NoRanks:=s_NoRanks_NoRanks,sb_TooMany_NoText:=s_TooMany_NoText,sb_TooMany_NoRule:=s_TooMany_NoRule,sb_TooMany_Doubled:=s_TooMany_Doubled,sb_TooMany_NoHead:=s_TooMany_NoHead,sb_TooMany_NoRanks:=s_TooMany_NoRanks,sb_TooMany_TooMany:=s_TooMany_TooMany }
 obtain⟨_,_,F0,a0,k0⟩:=h0.go X G
 obtain⟨_,_,F1,a1,k1⟩:=h1.go X G
 obtain⟨_,_,F2,a2,k2⟩:=h2.go X G
 obtain⟨_,_,F3,a3,k3⟩:=h3.go X G
 obtain⟨_,_,F4,a4,k4⟩:=h4.go X G
 obtain⟨_,_,F5,a5,k5⟩:=h5.go X G
 obtain⟨_,_,F6,a6,k6⟩:=h6.go X G
 obtain⟨_,_,F7,a7,k7⟩:=h7.go X G
 obtain⟨_,_,F8,a8,k8⟩:=h8.go X G
 obtain⟨_,_,F9,a9,k9⟩:=h9.go X G
 obtain⟨_,_,F10,a10,k10⟩:=h10.go X G
 obtain⟨_,_,F11,a11,k11⟩:=h11.go X G
 obtain⟨_,_,F12,a12,k12⟩:=h12.go X G
 obtain⟨_,_,F13,a13,k13⟩:=h13.go X G
 obtain⟨_,_,F14,a14,k14⟩:=h14.go X G
 obtain⟨_,_,F15,a15,k15⟩:=h15.go X G
 obtain⟨_,_,F16,a16,k16⟩:=h16.go X G
 obtain⟨_,_,F17,a17,k17⟩:=h17.go X G
 obtain⟨_,_,F18,a18,k18⟩:=h18.go X G
 obtain⟨_,_,F19,a19,k19⟩:=h19.go X G
 obtain⟨_,_,F20,a20,k20⟩:=h20.go X G
 obtain⟨_,_,F21,a21,k21⟩:=h21.go X G
 obtain⟨_,_,F22,a22,k22⟩:=h22.go X G
 obtain⟨_,_,F23,a23,k23⟩:=h23.go X G
 obtain⟨_,_,F24,a24,k24⟩:=h24.go X G
 obtain⟨_,_,F25,a25,k25⟩:=h25.go X G
 obtain⟨_,_,F26,a26,k26⟩:=h26.go X G
 obtain⟨_,_,F27,a27,k27⟩:=h27.go X G
 obtain⟨_,_,F28,a28,k28⟩:=h28.go X G
 obtain⟨_,_,F29,a29,k29⟩:=h29.go X G
 obtain⟨_,_,F30,a30,k30⟩:=h30.go X G
 obtain⟨_,_,F31,a31,k31⟩:=h31.go X G
 obtain⟨_,_,F32,a32,k32⟩:=h32.go X G
 obtain⟨_,_,F33,a33,k33⟩:=h33.go X G
 obtain⟨_,_,F34,a34,k34⟩:=h34.go X G
 obtain⟨_,_,F35,a35,k35⟩:=h35.go X G
 obtain⟨_,_,F36,a36,k36⟩:=h36.go X G
 obtain⟨_,_,F37,a37,k37⟩:=h37.go X G
 obtain⟨_,_,F38,a38,k38⟩:=h38.go X G
 obtain⟨_,_,F39,a39,k39⟩:=h39.go X G
 obtain⟨_,_,F40,a40,k40⟩:=h40.go X G
 obtain⟨_,_,F41,a41,k41⟩:=h41.go X G
 obtain⟨_,_,F42,a42,k42⟩:=h42.go X G
 obtain⟨_,_,F43,a43,k43⟩:=h43.go X G
 obtain⟨_,_,F44,a44,k44⟩:=h44.go X G
 obtain⟨_,_,F45,a45,k45⟩:=h45.go X G
 obtain⟨_,_,F46,a46,k46⟩:=h46.go X G
 obtain⟨_,_,F47,a47,k47⟩:=h47.go X G
 obtain⟨_,_,F48,a48,k48⟩:=h48.go X G
 obtain⟨_,_,F49,a49,k49⟩:=h49.go X G
 obtain⟨_,_,F50,a50,k50⟩:=h50.go X G
 obtain⟨_,_,F51,a51,k51⟩:=h51.go X G
 obtain⟨_,_,F52,a52,k52⟩:=h52.go X G
 have F53:=v2I (st:=u6N) ll cl kl
 have FG:FunD K "__init__" "Grammar.__init__" u1w fG _:=⟨_,_,_,_,_,_,_,_,_,_,rfl,lG,cG⟩
 have bG3:Binds K (W.fnOf "__init__" "Grammar.__init__" (defArgs u1w) (defBody u1w) (defScope u1w) (.ref tG) kVG dcG pmG anG cdG ctG) ["self","rules","ranks"] []:=λs us XI hl=>match us,hl with | [_,_,_],_=>BindsTo.of_defaults rfl (XI _ _ ltG) rfl rfl rfl
 refine hZ ⟨W.fnOf "law" "law" (defArgs u6N) (defBody u6N) (defScope u6N) .none kVl dcl pml anl cdl ctl,λs v=>.of_eq rfl,λbase _ _=>Classical.byContradiction λhY=>?_⟩
 have ENoRule:=mkE (ok_x (P:=l.prog) (w:=w) (base:=base) FNoRule ⟨rfl,rfl,rfl,by decide +kernel,rfl,by decide +kernel,by decide +kernel⟩ rfl rfl rfl XNoRule NNoRule) (FNoRule.b2 λ_ _ _ _ _ _ _ _=>rfl) XNoRule MNoRule
 have ENoRanks:=mkE (ok_x (P:=l.prog) (w:=w) (base:=base) FNoRanks ⟨rfl,rfl,rfl,by decide +kernel,rfl,by decide +kernel,by decide +kernel⟩ rfl rfl rfl XNoRanks NNoRanks) (FNoRanks.b2 λ_ _ _ _ _ _ _ _=>rfl) XNoRanks MNoRanks
 have ETooMany:=mkE (ok_x (P:=l.prog) (w:=w) (base:=base) FTooMany ⟨rfl,rfl,rfl,by decide +kernel,rfl,by decide +kernel,by decide +kernel⟩ rfl rfl rfl XTooMany NTooMany) (FTooMany.b2 λ_ _ _ _ _ _ _ _=>rfl) XTooMany MTooMany
 have ENoText:=mkE (ok_x (P:=l.prog) (w:=w) (base:=base) FNoText ⟨rfl,rfl,rfl,by decide +kernel,rfl,by decide +kernel,by decide +kernel⟩ rfl rfl rfl XNoText NNoText) (FNoText.b2 λ_ _ _ _ _ _ _ _=>rfl) XNoText MNoText
 have ENoHead:=mkE (ok_x (P:=l.prog) (w:=w) (base:=base) FNoHead ⟨rfl,rfl,rfl,by decide +kernel,rfl,by decide +kernel,by decide +kernel⟩ rfl rfl rfl XNoHead NNoHead) (FNoHead.b2 λ_ _ _ _ _ _ _ _=>rfl) XNoHead MNoHead
 have EDoubled:=mkE (ok_x (P:=l.prog) (w:=w) (base:=base) FDoubled ⟨rfl,rfl,rfl,by decide +kernel,rfl,by decide +kernel,by decide +kernel⟩ rfl rfl rfl XDoubled NDoubled) (FDoubled.b2 λ_ _ _ _ _ _ _ _=>rfl) XDoubled MDoubled
 obtain⟨_,H,p23⟩:=u9j (P:=l.prog) (w:=w) (base:=base)  F23 T
 have C23:=mkC H (F23.b2 λ_ _ _ _ _ _ _ _=>rfl) k23 a23
 obtain⟨_,H,p24⟩:=u9e (P:=l.prog) (w:=w) (base:=base)  F24 T
 have C24:=mkC H (F24.b2 λ_ _ _ _ _ _ _ _=>rfl) k24 a24
 obtain⟨_,H,p25⟩:=v0V C23 C24 p23 p24 F25 T
 have C25:=mkC H (F25.b4 λ_ _ _ _ _ _ _ _ _ _=>rfl) k25 a25
 obtain⟨_,H,p32⟩:=u7N C25 p25 F32 T
 have C32:=mkC H (F32.b2 λ_ _ _ _ _ _ _ _=>rfl) k32 a32
 obtain⟨_,H,p26⟩:=u7T (P:=l.prog) (w:=w) (base:=base)  F26 T
 have C26:=mkC H (F26.b2 λ_ _ _ _ _ _ _ _=>rfl) k26 a26
 obtain⟨_,H,p27⟩:=u7O (P:=l.prog) (w:=w) (base:=base)  F27 T
 have C27:=mkC H (F27.b2 λ_ _ _ _ _ _ _ _=>rfl) k27 a27
 obtain⟨_,H,p30⟩:=u3M C25 p25 F30 T
 have C30:=mkC H (F30.b5 λ_ _ _ _ _ _ _ _ _ _ _=>rfl) k30 a30
 obtain⟨_,H,p28⟩:=u7P (P:=l.prog) (w:=w) (base:=base)  F28 T
 have C28:=mkC H (F28.b1 λ_ _ _ _ _ _ _=>rfl) k28 a28
 obtain⟨_,H,p29⟩:=u6S (P:=l.prog) (w:=w) (base:=base)  F29 T
 have C29:=mkC H (F29.b3 λ_ _ _ _ _ _ _ _ _=>rfl) k29 a29
 obtain⟨_,H,p31⟩:=u7Q C25 C26 C27 C30 C28 C29 p25 p26 p27 p28 p29 p30 F31 T
 have C31:=mkC H (F31.b2 λ_ _ _ _ _ _ _ _=>rfl) k31 a31
 obtain⟨_,H,p33⟩:=u7R C25 C27 p25 p27 F33 T
 have C33:=mkC H (F33.b2 λ_ _ _ _ _ _ _ _=>rfl) k33 a33
 obtain⟨_,H,p46⟩:=u9i C32 C31 C33 p31 p32 p33 F46 T
 have C46:=mkC H (F46.b2 λ_ _ _ _ _ _ _ _=>rfl) k46 a46
 obtain⟨_,H,p44⟩:=u9b (P:=l.prog) (w:=w) (base:=base)  F44 T
 have C44:=mkC H (F44.b1 λ_ _ _ _ _ _ _=>rfl) k44 a44
 obtain⟨_,H,p47⟩:=u6T C44 p44 F47 T
 have C47:=mkC H (F47.b2 λ_ _ _ _ _ _ _ _=>rfl) k47 a47
 obtain⟨_,H,p42⟩:=u7S (P:=l.prog) (w:=w) (base:=base)  F42 T
 have C42:=mkC H (F42.b1 λ_ _ _ _ _ _ _=>rfl) k42 a42
 obtain⟨_,H,p43⟩:=u9f C42 p42 F43 T
 have C43:=mkC H (F43.b2 λ_ _ _ _ _ _ _ _=>rfl) k43 a43
 obtain⟨_,H,p45⟩:=u9c C25 C44 p25 p44 F45 T
 have C45:=mkC H (F45.b2 λ_ _ _ _ _ _ _ _=>rfl) k45 a45
 obtain⟨_,H,p0⟩:=u4K (P:=l.prog) (w:=w) (base:=base)  F0 T
 have C0:=mkC H (F0.b1 λ_ _ _ _ _ _ _=>rfl) k0 a0
 obtain⟨_,H,p1⟩:=u9l (P:=l.prog) (w:=w) (base:=base)  F1 T
 have C1:=mkC H (F1.b2 λ_ _ _ _ _ _ _ _=>rfl) k1 a1
 obtain⟨_,H,p3⟩:=v1c C0 C1 p0 p1 F3 T
 have C3:=mkC H (F3.b1 λ_ _ _ _ _ _ _=>rfl) k3 a3
 obtain⟨_,H,p2⟩:=v0X C0 C1 p0 p1 F2 T
 have C2:=mkC H (F2.b1 λ_ _ _ _ _ _ _=>rfl) k2 a2
 obtain⟨_,H,p4⟩:=u7U C2 C3 p2 p3 F4 T
 have C4:=mkC H (F4.b1 λ_ _ _ _ _ _ _=>rfl) k4 a4
 obtain⟨_,H,p18⟩:=u4N C4 p4 F18 T
 have C18:=mkC H (F18.b1 λ_ _ _ _ _ _ _=>rfl) k18 a18
 have H:=u7V (P:=l.prog) (w:=w) (base:=base) F17 T
 have C17:=mkC H (F17.b1 λ_ _ _ _ _ _ _=>rfl) k17 a17
 have p17:=bod_ok
 obtain⟨_,H,p19⟩:=u4l C3 C18 C17 p3 p18 p17 F19 T
 have C19:=mkC H (F19.b1 λ_ _ _ _ _ _ _=>rfl) k19 a19
 obtain⟨_,H,p8⟩:=v0Y (P:=l.prog) (w:=w) (base:=base)  F8 T
 have C8:=mkC H (F8.b1 λ_ _ _ _ _ _ _=>rfl) k8 a8
 obtain⟨_,H,p20⟩:=u4M C8 C2 p8 p2 F20 T
 have C20:=mkC H (F20.b1 λ_ _ _ _ _ _ _=>rfl) k20 a20
 obtain⟨_,H,p21⟩:=v1e (P:=l.prog) (w:=w) (base:=base)  F21 T
 have C21:=mkC H (F21.b1 λ_ _ _ _ _ _ _=>rfl) k21 a21
 obtain⟨_,H,p5⟩:=v1b (P:=l.prog) (w:=w) (base:=base)  F5 T
 have C5:=mkC H (F5.b1 λ_ _ _ _ _ _ _=>rfl) k5 a5
 obtain⟨_,H,p6⟩:=v1d C4 p4 F6 T
 have C6:=mkC H (F6.b1 λ_ _ _ _ _ _ _=>rfl) k6 a6
 obtain⟨_,H,p7⟩:=v0Z C5 C3 C6 p5 p3 p6 F7 T
 have C7:=mkC H (F7.b1 λ_ _ _ _ _ _ _=>rfl) k7 a7
 obtain⟨_,H,p13⟩:=u6Q C7 ENoRule ETooMany EDoubled p7 F13 T
 have C13:=mkX H (F13.b1 λ_ _ _ _ _ _ _=>rfl) k13 a13
 obtain⟨_,H,p11⟩:=u9k (P:=l.prog) (w:=w) (base:=base)  F11 T
 have C11:=mkC H (F11.b1 λ_ _ _ _ _ _ _=>rfl) k11 a11
 obtain⟨_,H,p14⟩:=u3w C11 C3 ENoHead p3 p11 F14 T
 have C14:=mkX H (F14.b1 λ_ _ _ _ _ _ _=>rfl) k14 a14
 obtain⟨_,H,p12⟩:=u9a C2 p2 F12 T
 have C12:=mkC H (F12.b1 λ_ _ _ _ _ _ _=>rfl) k12 a12
 obtain⟨_,H,p15⟩:=u3x C11 C12 ETooMany p11 p12 F15 T
 have C15:=mkX H (F15.b1 λ_ _ _ _ _ _ _=>rfl) k15 a15
 obtain⟨_,H,p9⟩:=u4L C2 p2 F9 T
 have C9:=mkC H (F9.b1 λ_ _ _ _ _ _ _=>rfl) k9 a9
 obtain⟨_,H,p10⟩:=v1a C5 C8 C9 p5 p8 p9 F10 T
 have C10:=mkC H (F10.b1 λ_ _ _ _ _ _ _=>rfl) k10 a10
 obtain⟨_,H,p16⟩:=u6R C10 ENoRanks ETooMany p10 F16 T
 have C16:=mkX H (F16.b1 λ_ _ _ _ _ _ _=>rfl) k16 a16
 have KG:KCallee l.prog w K mg base 7 "Grammar" A.Grammar ["self","rules","ranks"] [] (gInit A):=⟨fG,_,[],[],⟨mkG,aG,fnG,kpG⟩,v1f C13 C14 C15 C16 p13 p14 p15 p16 FG T,bG3,.nil,λF=>.nil,W.mg_of X G gG⟩
 obtain⟨_,H,p22⟩:=u5s C19 C20 C21 C17 ENoText KG p19 p20 p21 p17 F22 T
 have C22:=mkX H (F22.b1 λ_ _ _ _ _ _ _=>rfl) k22 a22
 obtain⟨_,H,p51⟩:=u9d C22 p22 Hn F51 T
 have C51:=mkX H (F51.b1 λ_ _ _ _ _ _ _=>rfl) k51 a51
 obtain⟨_,H,p34⟩:=u5X (P:=l.prog) (w:=w) (base:=base)  F34 T
 have C34:=mkC H (F34.b1 λ_ _ _ _ _ _ _=>rfl) k34 a34
 obtain⟨_,H,p48⟩:=u9h C34 p34 F48 T
 have C48:=mkC H (F48.b1 λ_ _ _ _ _ _ _=>rfl) k48 a48
 obtain⟨_,H,p35⟩:=u6a (P:=l.prog) (w:=w) (base:=base)  F35 T
 have C35:=mkC H (F35.b1 λ_ _ _ _ _ _ _=>rfl) k35 a35
 obtain⟨_,H,p49⟩:=u6U C34 C35 p34 p35 F49 T
 have C49:=mkC H (F49.b1 λ_ _ _ _ _ _ _=>rfl) k49 a49
 obtain⟨_,H,p50⟩:=u9g C48 C35 C49 p35 p48 p49 F50 T
 have C50:=mkC H (F50.b1 λ_ _ _ _ _ _ _=>rfl) k50 a50
 obtain⟨_,H,p36⟩:=u5Y C35 C34 p35 p34 F36 T
 have C36:=mkC H (F36.b1 λ_ _ _ _ _ _ _=>rfl) k36 a36
 obtain⟨_,H,p37⟩:=u4H C36 p36 F37 T
 have C37:=mkC H (F37.b1 λ_ _ _ _ _ _ _=>rfl) k37 a37
 obtain⟨_,H,p38⟩:=u4J C35 C34 p35 p34 F38 T
 have C38:=mkC H (F38.b1 λ_ _ _ _ _ _ _=>rfl) k38 a38
 obtain⟨_,H,p39⟩:=u5Z C34 p34 F39 T
 have C39:=mkC H (F39.b1 λ_ _ _ _ _ _ _=>rfl) k39 a39
 obtain⟨_,H,p40⟩:=u4I C39 p39 F40 T
 have C40:=mkC H (F40.b1 λ_ _ _ _ _ _ _=>rfl) k40 a40
 obtain⟨_,H,p41⟩:=v0W C37 C38 C40 p37 p38 p40 F41 T
 have C41:=mkC H (F41.b2 λ_ _ _ _ _ _ _ _=>rfl) k41 a41
 obtain⟨_,H,p52⟩:=u5t C50 C41 p50 p41 F52 T
 have C52:=mkC H (F52.b1 λ_ _ _ _ _ _ _=>rfl) k52 a52
 obtain⟨_,H,p53⟩:=pr_law C46 C25 C47 C43 C45 C51 C52 p25 p43 p51 p46 p52 p47 p45 F53 T
 exact hY (law_imp nl H p53)
def walk {l:W.OpenLaw}{q:Program}{loose:List Str}{XP:(Str->Option Value)->Heap->Prop}{YP:World->Heap->Prop}{d:DefRec}{K:Params->W.Frag} (hn:l.most=some 63) (hdf:d.params.defaults=[])
  (hY:∀(w:World) (h:Heap),YP w h->(K w.params).In h)
  (F:∀ (w:World) (mg:MG) (fa:Addr) (h:Heap),(K w.params).In h->h.Ns mainGlobals mg->mg d.name=some (.ref fa) ->
   ∃fd:FuncData,(∀(s:Shared) (u:Value),BindsTo s fd ⟨[u],[]⟩ [("_law_script",u)])/\∀base:Heap,(K w.params).In base->base.Ns mainGlobals mg->FnOk l.prog w (K w.params) mg base (CXe l.prog w) 11 fa fd ["_law_script"] (spLaw7 (K w.params))) :
  W.WalkO q loose XP YP l.row.toRowW d [] (λf vs=>PySem.call f vs) :=
 L2.walk_of (n:=63) (k:=11) (x:="_law_script") (CX:=λw=>CXe l.prog w) (sp:=λw=>spLaw7 (K w.params)) hn (by decide) hdf ⟨rfl,by decide,by decide⟩ hY F (λ_ H a ns hl hO hS=>⟨a,ns,rfl,hS,λ_=>rfl⟩) λ_ _ _ _ _ z9133=>by obtain⟨_,_,_,_,_,_,_,_,_,_,_,z⟩:=z9133;exact z
end K08
end
namespace PySem.W.Fast
def tw6807684449563712977:=True
def tw9260321008818367:=True
def tw13014161347055371964:=True
def tw8900120854735724941:=True
def tw15210232842760144410:=True
def tw12735491428705080914:=True
def tw17444761710556200628:=True
def tw11076315405874771819:=True
def tw18289907867055379230:=True
def tw13615975159910118914:=True
def tw15409984478897631118:=True
def tw3208513237096302679:=True
def tw6215481691071861177:=True
def tw4093441243642111900:=True
def tw17342299065428331541:=True
def tw2057794598181804934:=True
def tw2894985208587171025:=True
def tw15153871734841153947:=True
def tw15112130402521631070:=True
def tw4932902729910502153:=True
def tw15308246836100684038:=True
def tw5784084325317640363:=True
def tw17536169846932593260:=True
def tw9607131274717011250:=True
def tw16495312083824274238:=True
def tw7315148837654249885:=True
def tw11744931516051073240:=True
def tw14202028599276426278:=True
def tw4425280068481792064:=True
def tw2910834026399647895:=True
def tw6092275105621459437:=True
def tw15240182428744092894:=True
def tw2749718508482756504:=True
def tw17543900764382350012:=True
def tw13411227603587744170:=True
def tw6571514157268885895:=True
def tw11032503382484112133:=True
def tw17998040265760119853:=True
def tw14160850464680182900:=True
def tw18114261079840747137:=True
def tw3609159145134425759:=True
def tw13059498781181647144:=True
def tw9803164801791344655:=True
def tw5221212310881033247:=True
def tw9091838194098504253:=True
def tw9515915295667499127:=True
def tw15739244679803586201:=True
def tw1347659279121703197:=True
def tw11005803716598446078:=True
def tw12691341408568742663:=True
def tw18336298325862142074:=True
def tw16011698292971657937:=True
def tw3348811342095531960:=True
def tw16173518651374982815:=True
def tw1295435240649647072:=True
def tw759116247175988697:=True
def tw4790352615306452975:=True
def tw4915892352847876129:=True
def tw3877339067079424067:=True
def tw2302254474440175430:=True
def tw18094173599080478322:=True
def tw8889411759581528960:=True
def tw6195127738960501169:=True
def tw17499421806976997819:=True
def tw10948242894174981513:=True
def tw11650115794561224503:=True
def tw9906671510739086876:=True
def tw9151656226394161650:=True
def tw14906375751317348316:=True
def tw2791466353769114804:=True
def tw7050337797514851022:=True
def tw13500065940641061107:=True
def tw8143237956776716292:=True
def tw8406862636175962912:=True
def tw15221054621000496596:=True
def tw306096310946885008:=True
def tw11683086785427029950:=True
def tw11141011512773219293:=True
def tw14021367904772991011:=True
def tw7912404129466158195:=True
def tw15840244789388636621:=True
def tw14926245787114467068:=True
def tw11525152009102985965:=True
def tw10756841049680216194:=True
def tw10613524987406477771:=True
def tw4590087055918814266:=True
def tw13109523528903854898:=True
def tw17995158348330687155:=True
def tw6960582747381607628:=True
def tw13994839999290717986:=True
def tw13447981239242245417:=True
def tw5356692637067270698:=True
def tw16686692316008566373:=True
def tw8323482057471883263:=True
def tw10369389003014721921:=True
def tw17150989068114826284:=True
def tw833603152495507498:=True
def tw1376583391605519506:=True
def tw12106762836903623471:=True
def tw5417212168467806680:=True
def tw2425272125616844763:=True
def tw16718490155379663850:=True
def tw11191757071944561506:=True
def tw6862576036802020739:=True
def tw13977967529030512616:=True
def tw5695326536174782114:=True
def tw14215783759085174332:=True
def tw14404103440285544490:=True
def tw3427648027979081071:=True
def tw13395526239725587263:=True
def tw15216825381690504163:=True
def tw2773420560757226259:=True
def tw15483125267323347637:=True
def tw12176324494248296500:=True
def tw12562290765625782696:=True
def tw12755486655959562431:=True
def tw9718138463115315343:=True
def tw8047980541088183129:=True
def tw14151265687678824482:=True
def tw14634964028649212406:=True
def tw12612116418187828451:=True
def tw2302126648482461487:=True
def tw15204393207318607492:=True
def tw16951644249681041464:=True
def tw16482309634495934634:=True
def tw5396256343002175984:=True
def tw16115473949042191617:=True
def tw9632413784961465865:=True
def tw7364850092187220517:=True
def tw13089992110739305299:=True
def tw18048891275081696381:=True
def tw6024387417826141368:=True
def tw2381844908378538376:=True
def tw12197173924096538398:=True
def tw5861606854638683909:=True
def tw1486735064445142314:=True
def tw3324560004288459083:=True
def tw10294654695869312873:=True
def tw14165806126615289790:=True
def tw12536307523954599976:=True
def tw8261163883017113964:=True
def tw1102425145618606795:=True
def tw10791452281618181917:=True
def tw15802203020522491939:=True
def tw6810362369538354122:=True
def tw2692898458544228337:=True
def tw9484010289422042068:=True
def tw710013299852360897:=True
def tw16989342228483188056:=True
def tw14529117160338207806:=True
def tw17017822030600824122:=True
def tw5048159407247084183:=True
def tw794992028000513541:=True
def tw3003016955421324494:=True
def tw6447352036423557464:=True
def tw9994141674238437670:=True
def tw4498707670223168538:=True
def tw17021256276698417367:=True
def tw3195180345473554268:=True
def tw10387033207068440179:=True
def tw9376059287978097343:=True
def tw12559960631589946563:=True
def tw1421483707811073591:=True
def tw16809856540337913794:=True
def tw14613616072389414136:=True
def tw12167657650646238074:=True
def tw7836745546710343806:=True
def tw7805250094949720135:=True
def tw10681640438578604629:=True
def tw16856060774950108818:=True
def tw7812122087038104836:=True
def tw15367672028189394824:=True
def tw13568202660460382530:=True
def tw1099657572999823741:=True
def tw6757265993436280496:=True
def tw16377021169345133430:=True
def tw1332608425153879748:=True
def tw2316311781378980650:=True
def tw91336238736813357:=True
def tw649947374548609874:=True
def tw7366183342844016060:=True
def tw10133147500867245278:=True
def tw12597048380775286651:=True
def tw4771710973548178766:=True
def tw12939826671011869751:=True
def tw8599675471414780328:=True
def tw4441093219286956828:=True
def tw876005155612752268:=True
def tw17815764851534694862:=True
def tw1540060290510970854:=True
def tw6186474418453652583:=True
def tw4335631606867546611:=True
def tw14723988686513167403:=True
def tw17380740571581717321:=True
def tw16692411088638676027:=True
def tw17229084165488325349:=True
def tw11013793608451634028:=True
def tw9118072287938675625:=True
def tw14170798648419293306:=True
def tw6661152036091398786:=True
def tw14663510572987214924:=True
def tw8948866047607839950:=True
def tw15609361018252847642:=True
def tw14181137571496748912:=True
def tw3589573984756948421:=True
def tw345529381700213513:=True
def tw17835360141630386479:=True
def tw17998702334951459729:=True
def tw4779414188397941609:=True
def tw16589998407497572900:=True
def tw10061020150096646804:=True
def tw3367604676462489214:=True
def tw8444199462217657252:=True
def tw1842025599167282704:=True
def tw7378212210216117875:=True
def tw895705867365024893:=True
def tw16438441366278304891:=True
def tw2498968014408493597:=True
def tw8889137838830415726:=True
def tw4075357107946590285:=True
def tw11375305089981813960:=True
def tw18424196604296015074:=True
def tw7834652699814589886:=True
def tw5132034988653974692:=True
def tw3864239136656657267:=True
def tw17571333988417234742:=True
def tw4936843742332027251:=True
def tw7862032610724401477:=True
def tw7723437686027032739:=True
def tw13871362039407151909:=True
def tw13140618443285857048:=True
def tw308725596303378698:=True
def tw11344688652409897541:=True
def tw10893151752500930211:=True
def tw14139670547711054327:=True
def tw12744425153503723079:=True
def tw12930030591029807314:=True
def tw8819947031003670680:=True
def tw2514275986511656522:=True
def tw17938163907352648055:=True
def tw2260520403185229011:=True
def tw6431405028638365540:=True
def tw15165780502074529117:=True
def tw17676743333196616436:=True
def tw11731446289051342825:=True
def tw3852685925449433771:=True
def tw13456666903695431052:=True
def tw3168898441357981223:=True
def tw2730991995133544760:=True
def tw1647812263405401482:=True
def tw17929598185903790878:=True
def tw17576562904360500419:=True
def tw3563570573726894895:=True
def tw6702580133646381884:=True
def tw10132329790529750005:=True
def tw1981993041713462813:=True
def tw4258718574664214908:=True
def tw3393105865472291429:=True
def tw6831884088980745642:=True
def tw10990478882634028075:=True
def tw2800342078240702130:=True
def tw516284248427653241:=True
def tw12904521017737283743:=True
def tw14282381492501830243:=True
def tw15302685453723996372:=True
def tw1952386245368387495:=True
def tw15154311228906205213:=True
def tw4440679177339417866:=True
def tw4072366034816237336:=True
def tw7537750782871052473:=True
def tw14378649994398667765:=True
def tw15568389843669498107:=True
def tw444094049810362460:=True
def tw11034640761208343707:=True
def tw1452862549372495928:=True
def tw13198436009644848293:=True
def tw17951943453889430514:=True
def tw3835227061886981104:=True
def tw8651706455130582324:=True
def tw2046502198072328507:=True
def tw4190258306578794623:=True
def tw4431869673347881662:=True
def tw14391461693560351195:=True
def tw6399351581448769001:=True
def tw7472545190324040792:=True
def tw10140710078342280830:=True
def tw17869672812901536248:=True
def tw17759590834396661359:=True
def tw16470933418020464770:=True
def tw2023042902810125647:=True
def tw12049371154713068227:=True
def tw4853040680409977701:=True
def tw9473031876890869297:=True
def tw5959834245829852940:=True
def tw11331744028871037990:=True
def tw7007745535597532167:=True
def tw10276419428892090549:=True
def tw1586501459519711140:=True
def tw2273144222975218950:=True
def tw17474785530385809002:=True
def tw7582332174879197025:=True
def tw17231334944033024399:=True
def tw8512579961315114441:=True
def tw4869245707899416501:=True
def tw10269796465733654481:=True
def tw7696749486809513007:=True
def tw10118197546147169091:=True
def tw2913287243335055945:=True
def tw7597000171874630535:=True
def tw10697330756958044900:=True
def tw13244253888106693234:=True
def tw13038401524543610606:=True
def tw15829003624098001780:=True
def tw1777067083632454660:=True
def tw11351947432433499434:=True
def tw10076317791850349959:=True
def tw7834278685025070664:=True
def tw9791286505242555443:=True
def tw12933620093587191980:=True
def tw12541892084945161622:=True
def tw16458577621884108924:=True
def tw16669023261467354994:=True
def tw12521553206151609003:=True
def tw5347431694647677815:=True
def tw9290976766956987242:=True
def tw11995623791717234318:=True
def tw1368567459839485846:=True
def tw16795371814649532628:=True
def tw540667196890806620:=True
def tw17936967693624966740:=True
def tw3490694441079060121:=True
def tw17140801583070053921:=True
def tw5932989105943226898:=True
def tw1376311142176385596:=True
def tw17941810736230916467:=True
def tw7565165897233989026:=True
def tw9889354474260016306:=True
def tw17090186218183557121:=True
def tw3877015549920295204:=True
def tw2223617987190195633:=True
def tw7581058410151004721:=True
def tw14164785283851671313:=True
def tw15520449195154318475:=True
def tw3221381185940965476:=True
def tw779876389179402273:=True
def tw10880854177613088045:=True
def tw9945714380094040763:=True
def tw4000332487227975359:=True
def tw3728495071726036299:=True
def tw17197096245272698302:=True
def tw17226127661319487740:=True
def tw9621988735520082702:=True
def tw11792127069160287017:=True
def tw12011170476297591055:=True
def tw17257783384877635997:=True
def tw8361008944615180245:=True
def tw10819590654676720171:=True
def tw12529408060005404176:=True
def tw13012062970275339340:=True
def tw3559762298602447273:=True
def tw14221134958971174035:=True
def tw1574024228749496957:=True
def tw9503924737886115071:=True
def tw7710973363549281993:=True
def tw3293488640715756607:=True
def tw15486212560011410910:=True
def tw17025436857006050285:=True
def tw14101374606943628810:=True
def tw9840788387133124756:=True
def tw15650191714119560521:=True
def tw7818976655090993411:=True
def tw9680316405769522873:=True
def tw1861610367640386171:=True
def tw3503339602219394048:=True
def tw14169001153785376630:=True
def tw11826040792234174498:=True
def tw1358258380680415451:=True
def tw249907479542201351:=True
def tw15001105580310674696:=True
end PySem.W.Fast
open PySem PySem.W PyProof.Rows
set_option maxRecDepth 100000 in
set_option maxHeartbeats 0 in
theorem PySem.Challenge.cw_rulestable_k08_whole_any_text_holds : PySem.Challenge.rw_rulestable_k08_whole_any_text.Holds := by
  w_on; o_law; k_head; (case hw => w_witness2)
  k_fill
  refine K08.walk (l := PySem.Challenge.rw_rulestable_k08_whole_any_text) rfl rfl (fun w h Y => PySem.W.kIn_of Y) ?F
  case F =>
    intro w mg fa h KX G hmg
    refine' K08.all_mk KX G hmg ?h0 ?h1 ?h2 ?h3 ?h4 ?h5 ?h6 ?h7 ?h8 ?h9 ?h10 ?h11 ?h12 ?h13 ?h14 ?h15 ?h16 ?h17 ?h18 ?h19 ?h20 ?h21 ?h22 ?h23 ?h24 ?h25 ?h26 ?h27 ?h28 ?h29 ?h30 ?h31 ?h32 ?h33 ?h34 ?h35 ?h36 ?h37 ?h38 ?h39 ?h40 ?h41 ?h42 ?h43 ?h44 ?h45 ?h46 ?h47 ?h48 ?h49 ?h50 ?h51 ?h52 ?h53 ?h54 ?h55 ?h56 ?h57 ?h58 ?h59 ?h60 ?h61 ?h62 ?h63 ?h64 ?h65 ?h66 ?h67 ?h68 ?h69 ?h70 ?h71 ?h72 ?h73 ?h74 ?h75 ?h76 ?h77 ?h78 ?h79 ?h80 ?h81 ?h82 ?h83 ?h84 ?h85 ?h86 ?h87 ?h88 ?h89 ?h90 ?h91 ?h92 ?h93 ?h94 ?h95 ?h96 ?h97 ?h98 ?h99 ?h100 ?h101 ?h102 ?h103 ?h104 ?h105 ?h106 ?h107 ?h108 ?h109 ?h110 ?h111 ?h112 ?h113 ?h114 ?h115 ?h116 ?h117 ?h118 ?h119 ?h120 ?h121 ?h122
    case h0 | h1 | h2 | h3 | h4 | h5 | h6 | h7 | h8 | h9 | h10 | h11 | h12 | h13 | h14 | h15 | h16 | h17 | h18 | h19 | h20 | h21 | h22 | h23 | h24 | h25 | h26 | h27 | h28 | h29 | h30 | h31 | h32 | h33 | h34 | h35 | h36 | h37 | h38 | h39 | h40 | h41 | h42 | h43 | h44 | h45 | h46 | h47 | h48 | h49 | h50 | h51 | h52 => exact ⟨_, _, _, _, _, _, _, _, _, _, by k_is, by k_is, by k_is, by k_is⟩
    case h53 | h54 | h55 | h56 | h57 | h58 => exact ⟨by k_is, _, _, _, _, _, _, _, _, _, _, by k_is, by k_is, by k_is, by k_is, by kernel_rfl, by k_is, by kernel_rfl⟩
    case h59 => exact ⟨by k_is, by kernel_rfl⟩
    case h60 | h61 | h62 | h63 | h64 | h65 | h66 | h67 | h68 | h69 | h70 | h71 | h72 | h73 | h74 | h75 | h76 | h77 | h78 | h79 | h80 | h81 | h82 | h83 | h84 | h85 | h86 => kernel_rfl
    case h87 | h88 | h89 | h90 | h91 => k_is
    case h92 | h93 | h94 | h95 | h96 | h97 | h98 | h99 | h100 | h101 => first | k_is | kernel_rfl
    case h102 => kernel_rfl
    case h103 | h104 | h105 | h106 | h107 | h108 | h109 | h110 | h111 | h112 | h113 | h114 | h115 | h116 | h117 => k_is
    case h118 => intro x hx; simp only [List.mem_cons, List.not_mem_nil, or_false] at hx; rcases hx with rfl | rfl | rfl | rfl | rfl | rfl | rfl | rfl | rfl | rfl | rfl | rfl | rfl | rfl | rfl | rfl <;> k_is
    case h119 | h120 | h121 | h122 => k_is
