import PyProof.Rows.All
import Wide.All
import OpenK.AllK
import Wide.FinOn
import Lean
import PyProof.EqAt
import PyProof.EqKinds
import PyProof.TupleCall
import PyProof.Rows.SetFrom
import PyProof.Rows.SortStr
import KE.KDictSum
import KE.KEqDict
import KE.KDictLaws
import PyProof.StrOps2
import PySem.Challenge.RW_rulestable_k55_rows_not_climbed
set_option Elab.async false
set_option linter.all false
set_option maxRecDepth 100000
set_option tactic.hygienic false
section
abbrev VP:=PySem.Value->PySem.Shared->Prop
abbrev LO:=List (PySem.Addr×PySem.Obj)
abbrev MG:=PySem.Str->Option PySem.Value
abbrev z5:=@PySem.Heap.get?_push_of_some
abbrev z6:=@PySem.Heap.get?_push_size
abbrev z7:=@PySem.Heap.lt_size
abbrev z8:=@List.mem_cons_self
abbrev y0:=@Nat.le_refl
abbrev y1:=@List.mem_cons_of_mem
abbrev y2:=@List.getElem?_eq_getElem
abbrev y7:=@List.mem_cons
abbrev y9:=@List.size_toArray
abbrev w5:=@Nat.lt_of_lt_of_le
abbrev w6:=@List.getElem?_eq_some_iff
abbrev w9:=@List.getElem?_map
abbrev v5:=@Nat.ne_of_lt
abbrev v7:=@Nat.le_trans
abbrev v8:=@List.length_map
abbrev v9:=@List.mem_singleton
abbrev u0:=@PySem.Heap.get?_update_other
abbrev u9:=@List.map_cons
abbrev t0:=@List.mem_append_right
abbrev t8:=@Bool.false_eq_true
abbrev t9:=@List.lookup_cons
abbrev s9:=@List.length_cons
abbrev r6:=@List.not_mem_nil
abbrev r9:=@PySem.Heap.get?_update_self
abbrev q9:=@Bool.false_ne_true
abbrev z0A:=@Bool.and_eq_true
abbrev z0B:=@Nat.lt_irrefl
abbrev z0C:=@List.mem_map
abbrev z0D:=@List.mem_append_left
abbrev z0E:=@List.find?_cons
abbrev z0F:=@List.length_append
abbrev z0G:=@List.mem_append
abbrev z0H:=@Array.length_toList
abbrev z0I:=@List.getElem?_replicate
abbrev z0J:=@List.map_append
abbrev z1A:=@Nat.zero_le
abbrev z1B:=@List.length_replicate
abbrev z1C:=@List.map_map
abbrev z1D:=@List.getElem?_append_right
abbrev z1E:=@List.all_cons
abbrev z1F:=@Bool.and_eq_true_iff
abbrev z1G:=@List.mem_filter
abbrev z1H:=@Array.getElem?_toList
abbrev z1I:=@List.mem_of_mem_take
abbrev z1J:=@List.nodup_cons
abbrev z2A:=@List.getElem?_append
abbrev z2B:=@List.getElem_mem
abbrev z2C:=@List.all_eq_true
abbrev z2D:=@List.getElem?_append_left
abbrev z2E:=@Bool.eq_iff_iff
abbrev z2F:=@List.getElem?_set_self
abbrev z2G:=@List.getElem?_reverse
abbrev z2H:=@List.mem_flatMap
abbrev z2I:=@List.length_drop
abbrev z2J:=@List.foldl_cons
abbrev z3A:=@List.mem_map_of_mem
abbrev z3B:=@Array.getElem?_eq_getElem
abbrev z3C:=@List.length_take
namespace L2
open PySem PySem.Spec PyProof.Rows
abbrev Key:=Sum Int Str
noncomputable def keyIs:Key->Value->Bool
 | .inl k,v=>Value.isInt k v
 | .inr x,v=>Value.isStrOf x v
noncomputable def keyH (w:World):Key->Int
 | .inl k=>hashInt k
 | .inr x=>hashStr w x
theorem u0t:∀{k:Key}{v:Value},keyIs k v=true->(∃i t,k=Sum.inl i/\v=Value.int i t)\/(∃x t,k=Sum.inr x/\v=Value.str x t)
 | .inl i,v,h=>by
  obtain⟨t,e⟩:=Value.isInt_shape (k:=i) (v:=v) h;exact .inl ⟨i,t,rfl,e⟩
 | .inr x,v,h=>by
  obtain⟨t,e⟩:=Value.isStrOf_shape (x:=x) (v:=v) h;exact .inr ⟨x,t,rfl,e⟩
def v0F (i:Int) (t:Tok):keyIs (.inl i) (.int i t)=true:=by simp[keyIs,Value.isInt]
def v0E (x:Str) (t:Tok):keyIs (.inr x) (.str x t)=true:=by simp[keyIs,Value.isStrOf]
def key_ll (a b:Int):decide ((Sum.inl a:Key)=Sum.inl b)=(a==b):=by
 by_cases e:a=b
 ·subst e;simp
 ·have h:¬ (Sum.inl a:Key)=Sum.inl b:=fun q=>e (Sum.inl.inj q)
  rw[decide_eq_false h];exact(beq_eq_false_iff_ne.mpr e).symm
def key_rr (a b:Str):decide ((Sum.inr a:Key)=Sum.inr b)=decide (a=b):=by
 by_cases e:a=b
 ·subst e;simp
 ·have h:¬ (Sum.inr a:Key)=Sum.inr b:=fun q=>e (Sum.inr.inj q)
  rw[decide_eq_false h,decide_eq_false e]
def key_lr (a:Int) (b:Str):decide ((Sum.inl a:Key)=Sum.inr b)=false:=decide_eq_false (λq=>nomatch q)
def key_rl (a:Str) (b:Int):decide ((Sum.inr a:Key)=Sum.inl b)=false:=decide_eq_false (λq=>nomatch q)
noncomputable def mixKind (prog:Program) (w:World):PySem.KeyKind prog w Key where
 is:=keyIs
 hash:=keyH w
 inj:=λv a b ha hb=>by
  rcases u0t ha with⟨i,t,rfl,rfl⟩|⟨x,t,rfl,rfl⟩
  ·rcases u0t hb with ⟨j,u,rfl,e⟩ | ⟨y,u,rfl,e⟩
   ·injection e with e1 _;rw[e1]
   ·exact nomatch e
  ·rcases u0t hb with ⟨j,u,rfl,e⟩ | ⟨y,u,rfl,e⟩
   ·exact nomatch e
   ·injection e with e1 _;rw[e1]
 byValue:=λk v h=>by
  rcases u0t h with⟨i,t,rfl,rfl⟩|⟨x,t,rfl,rfl⟩<;>rfl
 pyHash:=λhv h=>by
  rcases u0t hv with⟨i,t,rfl,rfl⟩|⟨x,t,rfl,rfl⟩
  ·exact wpAny_pyHash_int h
  ·exact wpAny_pyHash_str h
 eqBool:=λhu hv h=>by
  rcases u0t hu with⟨i,t,rfl,rfl⟩|⟨x,t,rfl,rfl⟩
  ·rcases u0t hv with ⟨j,u,rfl,rfl⟩ | ⟨y,u,rfl,rfl⟩
   ·rw[key_ll] at h;exact wpAny_eqBool_int h
   ·rw[key_lr] at h;exact SeqAt.EqAt.int_str i t y u _ _ _ _ h
  ·rcases u0t hv with ⟨j,u,rfl,rfl⟩ | ⟨y,u,rfl,rfl⟩
   ·rw[key_rl] at h;exact SeqAt.EqAt.str_int x t j u _ _ _ _ h
   ·rw[key_rr] at h;exact wpAny_eqBool_str h
 «strs»:=λk x t v h=>by
  rcases u0t h with⟨i,u,rfl,e⟩|⟨y,u,rfl,e⟩
  ·exact nomatch e
  ·injection e with e1 _
   subst e1;cases v<;>rfl
def u9k (prog:Program) (w:World) (k:Key) (v:Value):(mixKind prog w).is k v=keyIs k v:=rfl
def u2l (prog:Program) (w:World) (i:Int) (t:Tok):(mixKind prog w).is (.inl i) (.int i t)=true:=v0F i t
def u2k (prog:Program) (w:World) (x:Str) (t:Tok):(mixKind prog w).is (.inr x) (.str x t)=true:=v0E x t
inductive V where
 | non|bl (b:Bool)|int (i:Int)|str (x:Str)|byt (b:Array UInt8)|flt (b:UInt64)|ref (a:Addr)|ty (n:String)
 deriving DecidableEq
def RelV:V->Value->Prop
 | .non,u=>u=Value.none
 | .bl b,u=>u=Value.bool b
 | .int i,u=>∃t,u=Value.int i t
 | .str x,u=>∃t,u=Value.str x t
 | .byt b,u=>∃t,u=Value.bytes b t
 | .flt b,u=>∃t,u=Value.float b t
 | .ref a,u=>u=Value.ref a
 | .ty n,u=>u=Value.type n
abbrev Vals:List V->List Value->Prop:=Paired RelV
theorem Vals.length {xs:List V}{us:List Value} (r:Vals xs us):xs.length=us.length:=Paired.length r
theorem Vals.get:∀{xs:List V}{us:List Value}{i:Nat}{x:V},Vals xs us->xs[i]?=some x->∃u,us[i]?=some u/\RelV x u
 | _,_,_,_,.nil,e=>by simp at e
 | _,_,0,_,.cons r _,e=>by simp at e;subst e;exact⟨_,rfl,r⟩
 | _,_,i+1,x,.cons _ t,e=>by
  obtain⟨u,h1,h2⟩:=Vals.get (i:=i) (x:=x) t (by simpa using e)
  exact⟨u,by simpa using h1,h2⟩
theorem Vals.set {x:V}{u:Value} (r:RelV x u):∀{xs:List V}{us:List Value} (i:Nat),Vals xs us->Vals (xs.set i x) (us.set i u)
 | _,_,_,.nil=>.nil
 | _,_,0,.cons _ t=>.cons r t
 | _,_,i+1,.cons q t=>.cons q (Vals.set r i t)
theorem Vals.append:∀{xs ys:List V}{us ws:List Value},Vals xs us->Vals ys ws->Vals (xs++ys) (us++ws)
 | _,_,_,_,.nil,s=>s
 | _,_,_,_,.cons r t,s=>.cons r (Vals.append t s)
theorem Vals.take:∀{xs:List V}{us:List Value} (n:Nat),Vals xs us->Vals (xs.take n) (us.take n)
 | _,_,0,_=>.nil
 | _,_,_+1,.nil=>.nil
 | _,_,n+1,.cons r t=>.cons r (Vals.take n t)
theorem Vals.drop:∀{xs:List V}{us:List Value} (n:Nat),Vals xs us->Vals (xs.drop n) (us.drop n)
 | _,_,0,r=>r
 | _,_,_+1,.nil=>.nil
 | _,_,n+1,.cons _ t=>Vals.drop n t
def RelO:Option V->Option Value->Prop
 | some v,some u=>RelV v u
 | none,none=>True
 | _,_=>False
noncomputable def KV {κ:Type}:List (κ×V)->List (κ×Value)->Prop:=Paired λ(p:κ×V) (q:κ×Value)=>p.1=q.1/\RelV p.2 q.2
noncomputable def kV:Key->V
 | .inl i=>.int i
 | .inr x=>.str x
inductive HO where
 /-- a list -/
 | lst (xs:List V)
 /-- a tuple (never changes) -/
 | tup (xs:List V)
 /-- a dict whose keys are ints and texts;one whose keys are tuples of ints and texts (the empty one is both) -/
 | dK (kvs:List (Key×V))|dT (kvs:List (List Key×V))
 /-- a set of ints: its members,its size -/
 | set (S:Int->Bool) (n:Nat)
 /-- an instance of the class at C,its dict at dx,its attributes -/
 | ins (C dx:Addr) (fs:List (Str×V))
 /-- the dict of the instance at x -/
 | own (x:Addr)
 /-- the dict of an exception -/
 | xd (fs:List (Str×V))
 /-- a bound method,f of x -/
 | met (f x:Addr)
 /-- a range object lo,lo+1,.. below hi -/
 | rng (lo hi:Int)
 /-- a thing that is known to the object (the script;a dict while a loop walks it): read,never written while it is so -/
 | frz (o:Obj) (u:HO)
 /-- a code object's table -/
 | tbl (ps:Array Value)
 /-- any other thing,by what is true of its one object (a def of one's own: SetO a S n:=HO.ext λh=>..) -/
 | ext (φ:Heap->Prop)
abbrev Hp:=Addr->Option HO
noncomputable def upd (H:Hp) (a:Addr) (o:HO):Hp:=λb=>if b=a then some o else H b
def u0d {H:Hp}{a:Addr}{o:HO}:upd H a o a=some o:=by unfold upd;rw[if_pos rfl]
def u0f {H:Hp}{a b:Addr}{o:HO} (h:b≠a):upd H a o b=H b:=by unfold upd;rw[if_neg h]
def upd_upd {H:Hp}{a:Addr}{o u:HO}:upd (upd H a o) a u=upd H a u:=by
 funext b;unfold upd;split<;>rfl
def ne_of {H:Hp}{a b:Addr}{o u:HO} (h:H a=some o) (h':H b=some u) (d:o≠u):a≠b:=by
 intro e;subst e;rw[h] at h';exact d (Option.some.inj h')
def u0m {H:Hp}{a b:Addr}{o:HO} (h:H a=some o) (h':H b=none):a≠b:=by
 intro e;subst e;rw[h] at h';cases h'
section
variable (P:Program) (w:World)
def ObjOk (H:Hp) (h:Heap) (a:Addr):HO->Prop
 | .lst xs=>xs.length<=sizeLine/\∃(its:List Value) (n:Nat),Vals xs its/\h.get? a=some { cls:=.type "list",data:=.seq its.toArray n }
 | .tup xs=>xs.length<=sizeLine/\∃its:List Value,Vals xs its/\IsTup h a its.toArray
 | .dK kvs=>kvs.length<=sizeLine/\(a==sysModules)=false/\∃vs,KV kvs vs/\h.DictOf (mixKind P w) a vs
 | .dT kvs=>kvs.length<=sizeLine/\(a==sysModules)=false/\∃xs:List (List Key×Addr×Value),
   Paired (λ(p:List Key×V) (q:List Key×Addr×Value)=>p.1=q.1/\H q.2.1=some (.tup (p.1.map kV))/\RelV p.2 q.2.2) kvs xs /\
   ∃o es ep,h.get? a=some o/\o.ExactDict/\o.data=.dict es ep/\es.toList=xs.map (entryOfKey (tupleKind (mixKind P w)))/\(xs.map (·.1)).Nodup
 | .set S n=>h.SetOf (intKind P w) a S n
 | .ins C dx fs=>H dx=some (.own a)/\fs.length<=1000/\dx≠a/\h.get? a=some (W.instObj C dx) /\
   ∃mA,h.Ns1 dx mA/\(∀f,RelO (fs.lookup f) (mA f))/\PySem.Within mA (fs.map (·.1))
 | .own _=>∃o,h.get? a=some o
 | .xd fs=>∃mA,h.Ns1 a mA/\∀f,RelO (fs.lookup f) (mA f)
 | .rng lo hi=>∃t u v,h.get? a=some { cls:=.type "range",data:=.fields #[.int lo t,.int hi u,.int 1 v] }
 | .frz o u=>h.get? a=some o/\ObjOk H h a u
 | .tbl ps=>h.get? a=some { cls:=.none,data:=.fields ps }
 | .met f x=>h.get? a=some (W.methodObj (.ref f) (.ref x))
 | .ext φ=>φ h/\(∃o,h.get? a=some o)/\∀h1 h2:Heap,φ h1->(∀o,h1.get? a=some o->h2.get? a=some o)->φ h2
def HOk (H:Hp) (h:Heap):Prop:=∀a o,H a=some o->ObjOk P w H h a o
end
section
variable {P:Program}{w:World}{H H':Hp}{h h':Heap}{a:Addr}{o:HO}
theorem ObjOk.lt (x:ObjOk P w H h a o):a<h.objs.size:=by
 cases o with
 | lst xs=>obtain⟨_,_,_,_,e⟩:=x;exact z7 e
 | tup xs=>obtain⟨_,_,_,p⟩:=x;exact p.lt
 | dK kvs=>obtain⟨_,_,_,_,o,_,_,e,_⟩:=x;exact z7 e
 | dT kvs=>obtain⟨_,_,_,_,o,_,_,e,_⟩:=x;exact z7 e
 | set S n=>obtain⟨o,_,_,_,e,_⟩:=x;exact z7 e
 | ins C dx fs=>obtain⟨_,_,_,e,_⟩:=x;exact z7 e
 | own y=>obtain⟨_,e⟩:=x;exact z7 e
 | xd fs=>obtain⟨_,⟨_,_,_,e,_⟩,_⟩:=x;exact z7 e
 | rng lo hi=>obtain⟨_,_,_,e⟩:=x;exact z7 e
 | frz ob u=>obtain⟨e,_⟩:=x;exact z7 e
 | tbl ps=>exact z7 (show h.get? a=some _ from x)
 | met f y=>exact z7 (show h.get? a=some _ from x)
 | ext φ=>obtain⟨_,⟨_,e⟩,_⟩:=x;exact z7 e
theorem Paired.mapP {α β:Type}{F G:α->β->Prop}:∀{l₁:List α}{l₂:List β},Paired F l₁ l₂->(∀a b,F a b->G a b)->Paired G l₁ l₂
 | _,_,.nil,_=>.nil
 | _,_,.cons r t,f=>.cons (f _ _ r) (Paired.mapP t f)
def ObjOk.stay (x:ObjOk P w H h a o) (k:∀b u,(b=a\/H b=some (.own a))->h.get? b=some u->h'.get? b=some u)
  (ho:∀b,H b=some (.own a)->H' b=some (.own a)) (ht:∀b xs,H b=some (.tup xs)->H' b=some (.tup xs)):ObjOk P w H' h' a o:=by
 induction o with
 | lst xs=>obtain⟨z,its,n,r,e⟩:=x;exact⟨z,its,n,r,k _ _ (.inl rfl) e⟩
 | tup xs=>obtain⟨z,its,r,ob,e,c⟩:=x;exact⟨z,its,r,ob,k _ _ (.inl rfl) e,c⟩
 | dK kvs=>obtain⟨z,y,vs,r,ob,es,ep,e,c⟩:=x;exact⟨z,y,vs,r,ob,es,ep,k _ _ (.inl rfl) e,c⟩
 | dT kvs =>
  obtain⟨z,y,xs,r,ob,es,ep,e,c⟩:=x;exact⟨z,y,xs,Paired.mapP r λp q z=>⟨z.1,ht _ _ z.2.1,z.2.2⟩,ob,es,ep,k _ _ (.inl rfl) e,c⟩
 | set S n=>obtain⟨ob,es,ep,t,e,c⟩:=x;exact⟨ob,es,ep,t,k _ _ (.inl rfl) e,c⟩
 | ins C dx fs =>
  obtain⟨d,z,ne,e,mA,⟨od,es,ep,e2,c⟩,r⟩:=x;exact⟨ho _ d,z,ne,k _ _ (.inl rfl) e,mA,⟨od,es,ep,k _ _ (.inr d) e2,c⟩,r⟩
 | own y=>obtain⟨ob,e⟩:=x;exact⟨ob,k _ _ (.inl rfl) e⟩
 | xd fs=>obtain⟨mA,⟨od,es,ep,e,c⟩,r⟩:=x;exact⟨mA,⟨od,es,ep,k _ _ (.inl rfl) e,c⟩,r⟩
 | rng lo hi=>obtain⟨t,u,v,e⟩:=x;exact⟨t,u,v,k _ _ (.inl rfl) e⟩
 | frz ob u ih=>obtain⟨e,q⟩:=x;exact⟨k _ _ (.inl rfl) e,ih q⟩
 | tbl ps =>
  have e:h.get? a=some { cls:=.none,data:=.fields ps }:=x;show h'.get? a=some { cls:=.none,data:=.fields ps };exact k a _ (.inl rfl) e
 | met f y =>
  have e:h.get? a=some (W.methodObj (.ref f) (.ref y)):=x;show h'.get? a=some (W.methodObj (.ref f) (.ref y));exact k a _ (.inl rfl) e
 | ext φ=>obtain⟨p,⟨o,e⟩,st⟩:=x;exact⟨st _ _ p λo q=>k _ _ (.inl rfl) q,⟨o,k _ _ (.inl rfl) e⟩,st⟩
theorem HOk.lt (x:HOk P w H h) (e:H a=some o):a<h.objs.size:=(x a o e).lt
def HOk.fresh (x:HOk P w H h) (e:h.objs.size<=a):H a=none:=by
 cases q:H a with
 | none=>rfl
 | some u=>exact absurd (w5 (x.lt q) e) (z0B _)
def HOk.kept (x:HOk P w H h) (k:∀b u,h.get? b=some u->h'.get? b=some u):HOk P w H h':=λa o e =>
 (x a o e).stay (λb u _ q=>k b u q) (λ_ q=>q) λ_ _ q=>q
def HOk.laid (x:HOk P w H h) (k:∀b u,h.get? b=some u->h'.get? b=some u) (hp:h.objs.size<=a) (new:ObjOk P w (upd H a o) h' a o):HOk P w (upd H a o) h':=λb u e=>by
 have hn:=x.fresh hp;by_cases hb:b=a
 ·subst hb;rw[u0d] at e;cases e;exact new
 ·rw [u0f hb] at e
  exact(x b u e).stay (λc v _ q=>k c v q) (λc q=>by rw[u0f (u0m q hn)];exact q) λc xs q=>by rw[u0f (u0m q hn)];exact q
end
def Rd (H:Hp) (a:Addr) (u:HO):Prop:=H a=some u\/∃o,H a=some (.frz o u)
def Rd.ok {P:Program}{w:World}{H:Hp}{h:Heap}{a:Addr}{u:HO} (r:Rd H a u) (x:HOk P w H h):ObjOk P w H h a u:=by
 rcases r with r|⟨o,r⟩
 ·exact x a u r
 ·obtain ⟨_,q⟩:=x a _ r
  exact q
def Mut:Option HO->Prop
 | some (.lst _)=>True
 | some (.dK _)=>True
 | some (.dT _)=>True
 | some (.set _ _)=>True
 | some (.ins _ _ _)=>True
 | some (.ext _)=>True
 | _=>False
section
variable {P:Program}{w:World}{H:Hp}{h h':Heap}{x e:Addr}{o':HO}
def HOk.write (ok:HOk P w H h) (mu:Mut (H x)) (he:e=x\/H e=some (.own x)) (k:∀b u,b≠e->h.get? b=some u->h'.get? b=some u) (heo:∃u,h'.get? e=some u)
  (new:ObjOk P w (upd H x o') h' x o'):HOk P w (upd H x o') h':=λb u q=>by
 have nown:∀c y,H c=some (.own y)->c≠x:=λc y r z=>by subst z;rw[r] at mu;exact mu
 have ntup:∀c xs,H c=some (.tup xs)->c≠x:=λc xs r z=>by subst z;rw[r] at mu;exact mu
 by_cases hb:b=x
 ·subst hb;rw[u0d] at q;cases q;exact new
 ·rw [u0f hb] at q
  by_cases hbe:b=e
  ·have q':H b=some (.own x):=by
    rcases he with z|z
    ·exact absurd (hbe.trans z) hb
    ·rw[hbe];exact z
   rw[q] at q';cases q';obtain⟨v,hv⟩:=heo;exact⟨v,by rw[hbe];exact hv⟩
  ·refine (ok b u q).stay (fun c v hc r=>k c v ?_ r) (fun c r=>by rw [u0f (nown c b r)];exact r) fun c xs r=>by rw [u0f (ntup c xs r)];exact r
   rcases hc with rfl|hc
   ·exact hbe
   ·rintro rfl
    rcases he with z|z
    ·exact nown c b hc z
    ·rw[hc] at z;cases z;exact hb rfl
end
structure Un (fs ex:List Addr) (H H':Hp) (h h':Heap):Prop where
 keep:∀b o,h.get? b=some o->H b=none->b∉fs->b∉ex->h'.get? b=some o
 slot:∀b o,h.get? b=some o->H b=none->b∈fs->b∉ex->∃sl,h'.get? b=some { o with slots:=sl }
 free:∀b o,h.get? b=some o->H b=none->b∉ex->H' b=none
 there:∀b o,h.get? b=some o->b∉ex->∃o',h'.get? b=some o'
 tups:∀b xs,H b=some (.tup xs)->H' b=some (.tup xs)
 frzs:∀b o u,H b=some (.frz o u)->H' b=some (.frz o u)
 tbls:∀b ps,H b=some (.tbl ps)->∃more,H' b=some (.tbl (ps++more))
section
variable {fs fs' ex ex':List Addr}{H H1 H2:Hp}{h h1 h2 h':Heap}{a x e:Addr}{o:HO}
def Un.any (u:Un fs ex H H1 h h1) {b:Addr}{ob:Obj} (q:h.get? b=some ob) (n:H b=none) (hx:b∉ex):∃sl,h1.get? b=some { ob with slots:=sl }:=by
 by_cases hb:b∈fs
 ·exact u.slot b ob q n hb hx
 ·exact⟨ob.slots,u.keep b ob q n hb hx⟩
def Un.kept (k:∀b u,h.get? b=some u->h'.get? b=some u):Un fs ex H H h h' :=
 ⟨λb ob q _ _ _=>k b ob q,λb ob q _ _ _=>⟨ob.slots,k b ob q⟩,λ_ _ _ n _=>n,λb ob q _=>⟨ob,k b ob q⟩,λ_ _ q=>q,λ_ _ _ q=>q,λ_ ps q=>⟨#[],by rw[q];simp⟩⟩
def Un.refl:Un fs ex H H h h:=Un.kept λ_ _ q=>q
def Un.laid (k:∀b u,h.get? b=some u->h'.get? b=some u) (hp:h.objs.size<=a) (hn:H a=none):Un fs ex H (upd H a o) h h' where
 keep:=λb u q _ _ _=>k b u q
 slot:=λb u q _ _ _=>⟨u.slots,k b u q⟩
 free:=λb u q n _=>by rw[u0f (v5 (w5 (z7 q) hp))];exact n
 there:=λb u q _=>⟨u,k b u q⟩
 tups:=λb xs q=>by rw[u0f (u0m q hn)];exact q
 frzs:=λb u xs q=>by rw[u0f (u0m q hn)];exact q
 tbls:=λb ps q=>⟨#[],by rw[u0f (u0m q hn),q];simp⟩
def Un.write (mu:Mut (H x)) (he:e=x\/H e=some (.own x)) (k:∀b u,b≠e->h.get? b=some u->h'.get? b=some u) (heo:∃u,h'.get? e=some u):Un fs ex H (upd H x o) h h':=by
 have hx:∀b,H b=none->b≠x:=λb n z=>by subst z;rw[n] at mu;exact mu
 have hb:∀b,H b=none->b≠e:=λb n z=>by
  subst z;rcases he with r|r
  ·exact hx b n r
  ·rw[n] at r;cases r
 have hm:∀b u,H b=some u->¬ Mut (some u)->b≠x:=λb u q nm z=>by subst z;rw[q] at mu;exact nm mu
 refine⟨λb u q n _ _=>k b u (hb b n) q,λb u q n _ _=>⟨u.slots,k b u (hb b n) q⟩,λb u q n _=>by rw[u0f (hx b n)];exact n,λb u q _=>?_,
  λb xs q=>by rw[u0f (hm b _ q λz=>z)];exact q,λb u xs q=>by rw[u0f (hm b _ q λz=>z)];exact q,λb ps q=>⟨#[],by rw[u0f (hm b _ q λz=>z),q];simp⟩⟩
 by_cases hbe:b=e
 ·subst hbe;exact heo
 ·exact⟨u,k b u hbe q⟩
end
noncomputable def trk (h:Heap) (H:Hp):List Addr:=(List.range h.objs.size).filter λa=>(H a).isSome
noncomputable def hidT (h:Heap) (H:Hp):Heap:=W.hideAll h (trk h H)
def v0S (h:Heap) (H:Hp):(hidT h H).objs.size=h.objs.size:=W.hideAll_size _ _
def v3a {h:Heap}{H:Hp}{b:Addr}{o:Obj} (e:h.get? b=some o) (n:H b=none):(hidT h H).get? b=some o :=
 W.hideAll_get _ e λhm=>by
  have q:(H b).isSome=true:=(z1G.mp hm).2;rw[n] at q;simp at q
def of_hidT {h:Heap}{H:Hp}{b:Addr}{o:Obj} (e:(hidT h H).get? b=some o):h.get? b=some o/\H b=none:=by
 have e':h.get? b=some o:=W.of_hideAll (trk h H) e;refine⟨e',?_⟩;cases q:H b with
 | none=>rfl
 | some x =>
  have hm:b∈trk h H:=z1G.mpr ⟨List.mem_range.mpr (z7 e'),by simp[q]⟩
  have z:(hidT h H).get? b=none:=W.hideAll_none (trk h H) hm;rw[z] at e;cases e
structure Mod (K:W.Frag) (mg:MG) (base:Heap):Prop where
 kin:K.In base
 glob:base.Ns mainGlobals mg
 blt:∃mb,base.Ns builtinsNs mb/\∀x:Str,x≠"__name__"->mb x=bootBuiltins x
 nolimit:base.NoLimit
structure Cx where
 prog:Program
 w:World
 K:W.Frag
 mg:Str->Option Value
 base:Heap
 A:Around
 N:List Str
 s₀:Shared
 H₀:Hp
 env:Env
 outer:List Env
 stack:List Env
 ex:List Addr
 fn:Str->Bool
 calm:Bool
 pn:LO
 xe:Value->Shared->Prop
noncomputable def frs (l:List Env):List Addr:=l.filterMap (·.frame)
noncomputable abbrev Cx.fs (X:Cx):List Addr:=frs X.outer
def Vis (sc:Scope) (x:Str):Prop:=sc.names.lookup x=some .local\/sc.names.lookup x=some .cell\/sc.names.lookup x=some .free
def Loc (sc:Scope) (x:Str):Prop:=sc.names.lookup x=some .local\/sc.names.lookup x=some .cell
def Look (env:Env) (h:Heap) (m:MG) (x:Str) (u:Value):Prop :=
 (env.kindOf x=some .local/\m x=some u)\/((env.kindOf x=some .cell\/env.kindOf x=some .free)/\∃c,env.cells.lookup x=some c/\h.IsCell c (some u))
structure Cx.Ok (X:Cx):Prop where
 mod:Mod X.K X.mg X.base
 kind:X.env.scope.kind=.function
 glob:X.env.globals=mainGlobals
 blt:X.env.builtins=builtinsNs
 above:X.s₀.heap.objs.size<=X.env.locals
 inj:∀x y c,X.env.cells.lookup x=some c->X.env.cells.lookup y=some c->x=y
 has:∀x,(X.env.kindOf x=some .cell\/X.env.kindOf x=some .free)->∃c,X.env.cells.lookup x=some c
 cab:∀x c,X.fn x=true->X.env.cells.lookup x=some c->X.s₀.heap.objs.size<=c
 hd:X.calm=true->X.A.handled=none
 frames:X.A.frames=some X.stack
 stk:X.stack=X.outer\/(X.stack=X.env::X.outer/\X.env.frame=some X.env.locals)
 exf:∀b∈X.ex,b≠X.env.locals/\∀x c,X.env.cells.lookup x=some c->c≠b
 bs:∀b o,X.base.get? b=some o->X.s₀.heap.get? b=some o/\X.H₀ b=none
 bsz:X.base.objs.size<=X.s₀.heap.objs.size
 noex:∀b o,X.base.get? b=some o->b∉X.ex
 exfs:∀b∈X.ex,b∉X.fs
 funs:X.s₀.heap.FunFrames X.base X.outer
 frf:∀b∈X.fs,X.H₀ b=none
structure Inv (X:Cx) (pins:LO) (σ:List (Option V)) (H:Hp) (s:Shared):Prop where
 ok:X.Ok
 os:s.os=X.s₀.os
 bare:AllBare s.gens
 base:Un X.fs X.ex X.H₀ H X.s₀.heap s.heap
 loc:∃m,s.heap.Ns X.env.locals m/\∀(i:Nat) (x:Str) (v:V),X.N[i]?=some x->σ[i]?=some (some v)->Vis X.env.scope x->∃u,RelV v u/\Look X.env s.heap m x u
 cell:∀x c,X.env.cells.lookup x=some c->∃v,s.heap.IsCell c v
 free:H X.env.locals=none
 freeC:∀x c,X.env.cells.lookup x=some c->H c=none
 pin:∀p∈X.pn++pins,s.heap.get? p.1=some p.2/\H p.1=none/\p.1≠X.env.locals/\p.1∉X.fs/\∀v,p.2.data≠.cell v
 hok:HOk X.prog X.w H s.heap
 len:σ.length=X.N.length
section
variable {X:Cx}{pins:LO}{σ:List (Option V)}{H H':Hp}{s:Shared}{h':Heap}
def Cx.Ok.nofr (ok:X.Ok) {b:Addr}{o:Obj} (e:X.base.get? b=some o):b∉X.fs:=λhb=>by
 have:=(ok.funs.mem hb).1
 rw[e] at this;cases this
theorem Inv.bs (I:Inv X pins σ H s):∀b o,X.base.get? b=some o->s.heap.get? b=some o/\H b=none:=λb o e =>
 ⟨I.base.keep b o (I.ok.bs b o e).1 (I.ok.bs b o e).2 (I.ok.nofr e) (I.ok.noex b o e),I.base.free b o (I.ok.bs b o e).1 (I.ok.bs b o e).2 (I.ok.noex b o e)⟩
def Inv.bk (I:Inv X pins σ H s):∀b o,X.base.get? b=some o->s.heap.get? b=some o:=λb o e=>(I.bs b o e).1
theorem Inv.mod (I:Inv X pins σ H s):Mod X.K X.mg X.base:=I.ok.mod
def Inv.kIn (I:Inv X pins σ H s):X.K.In s.heap:=I.ok.mod.kin.keeps I.bk
def Inv.fr (I:Inv X pins σ H s):∃m,Fr X.base X.env.locals s.heap m :=
 let ⟨m,hn,_⟩:=I.loc
 ⟨m,hn,I.bk,v7 I.ok.bsz I.ok.above⟩
theorem Inv.lt (I:Inv X pins σ H s):X.env.locals<s.heap.objs.size:=by obtain⟨_,hn,_⟩:=I.loc;exact hn.lt
def Inv.sz (I:Inv X pins σ H s):X.s₀.heap.objs.size<=s.heap.objs.size:=v7 I.ok.above (Nat.le_of_lt I.lt)
def Inv.nofs (I:Inv X pins σ H s) {a:Addr} (h:s.heap.objs.size<=a):a∉X.fs:=λhb=>by
 obtain⟨_,o,ho,_⟩:=I.ok.funs.mem hb;exact absurd (w5 (z7 ho) (v7 I.sz h)) (z0B _)
def Inv.cne (I:Inv X pins σ H s):∀x c,X.env.cells.lookup x=some c->c≠X.env.locals:=λx c e z=>by
 obtain⟨v,o,ho,hd⟩:=I.cell x c e;obtain⟨m,⟨o',es,ep,ho',hd',_⟩,_⟩:=I.loc;rw[z,ho'] at ho;cases ho;rw[hd'] at hd;cases hd
theorem Inv.funs (I:Inv X pins σ H s):s.heap.FunFrames X.base X.outer:=by
 have all:∀(l:List Env),(∀b∈frs l,b∈X.fs)->X.s₀.heap.FunFrames X.base l->s.heap.FunFrames X.base l:=by
  intro l;induction l with
  | nil=>intro _ _;trivial
  | cons env r ih =>
   intro hs hl;obtain⟨hk,⟨L,o,hf,hn,ho,hd⟩,hr⟩:=hl;have hL:L∈X.fs:=hs L (by unfold frs;rw[List.filterMap_cons,hf];exact z8)
   obtain⟨sl,e⟩:=I.base.slot L o ho (I.ok.frf L hL) hL λz=>I.ok.exfs L z hL
   exact⟨hk,⟨L,_,hf,hn,e,hd⟩,ih (λb hb=>hs b (by unfold frs;rw[List.filterMap_cons,hf];exact y1 _ hb)) hr⟩
 exact all X.outer (λ_ hb=>hb) I.ok.funs
theorem Inv.stack (I:Inv X pins σ H s):s.heap.FunFrames X.base X.stack:=by
 rcases I.ok.stk with e|⟨e,hf⟩
 ·rw[e];exact I.funs
 ·rw [e]
  obtain⟨m,hn,_⟩:=I.loc;refine .cons (by rw[I.ok.kind];decide) hf hn ?_ I.funs
  exact Heap.get?_none_of_le (v7 I.ok.bsz I.ok.above)
def Inv.stkSub (I:Inv X pins σ H s):∀b∈frs X.stack,b∈X.env.locals::X.fs:=λb hb=>by
 rcases I.ok.stk with e|⟨e,hf⟩
 ·rw[e] at hb;exact y1 _ hb
 ·rw [e] at hb
  unfold frs at hb;rw[List.filterMap_cons,hf] at hb;exact hb
def Inv.stkFree (I:Inv X pins σ H s):∀b∈frs X.stack,H b=none:=λb hb=>by
 rcases y7.mp (I.stkSub b hb) with e|hb
 ·rw[e];exact I.free
 ·obtain ⟨_,o,ho,_⟩:=I.ok.funs.mem hb
  exact I.base.free b o ho (I.ok.frf b hb) λz=>I.ok.exfs b z hb
def Inv.step {g':Array GenState}{t':Nat}{d':Drawn}{ch:List Addr} (I:Inv X pins σ H s)
  (hch:∀b∈ch,(b∈X.ex\/X.s₀.heap.objs.size<=b)/\b≠X.env.locals/\(∀x c,X.env.cells.lookup x=some c->c≠b)/\∀p∈X.pn++pins,p.1≠b)
  (keep:∀b o,b≠X.env.locals->b∉X.fs->b∉ch->s.heap.get? b=some o->H b=none->h'.get? b=some o)
  (slot:∀b o,b≠X.env.locals->b∈X.fs->b∉ch->s.heap.get? b=some o->H b=none->∃sl,h'.get? b=some { o with slots:=sl }) (free:∀b o,b∉ch->s.heap.get? b=some o->H b=none->H' b=none)
  (there:∀b o,b∉ch->s.heap.get? b=some o->∃o',h'.get? b=some o')
  (tups:∀b xs,H b=some (.tup xs)->H' b=some (.tup xs)) (frzs:∀b o u,H b=some (.frz o u)->H' b=some (.frz o u)) (tbls:∀b ps,H b=some (.tbl ps)->∃more,H' b=some (.tbl (ps++more)))
  (ns:∀m,s.heap.Ns X.env.locals m->h'.Ns X.env.locals m) (hok:HOk X.prog X.w H' h') (hg:AllBare g') :
  Inv X pins σ H' { s with heap:=h',gens:=g',drawn:=d',toks:=t' }:=by
 have neL:∀b o,X.s₀.heap.get? b=some o->b≠X.env.locals:=λb o e=>v5 (w5 (z7 e) I.ok.above)
 have neC:∀b o,X.s₀.heap.get? b=some o->b∉X.ex->b∉ch:=λb o e hx hb=>by
  rcases(hch b hb).1 with z|z
  ·exact hx z
  ·exact absurd (w5 (z7 e) z) (z0B _)
 have cellK:∀x c,X.env.cells.lookup x=some c->∀v,s.heap.IsCell c v->h'.IsCell c v:=λx c e v ⟨o,ho,hd⟩=>by
  have nch:c∉ch:=λz=>(hch c z).2.2.1 x c e rfl
  by_cases hc:c∈X.fs
  ·obtain ⟨sl,q⟩:=slot c o (I.cne x c e) hc nch ho (I.freeC x c e)
   exact⟨_,q,hd⟩
  ·exact⟨o,keep c o (I.cne x c e) hc nch ho (I.freeC x c e),hd⟩
 refine⟨I.ok,I.os,hg,⟨λb o e n hb hx=>?_,λb o e n hb hx=>?_,λb o e n hx=>?_,λb o e hx=>?_,λb xs e=>tups b xs (I.base.tups b xs e),λb o xs e=>frzs b o xs (I.base.frzs b o xs e),λb ps e=>?_⟩,?_,λx c e=>?_,?_,λx c e=>?_,λp hp=>?_,hok,I.len⟩
 ·exact keep b o (neL b o e) hb (neC b o e hx) (I.base.keep b o e n hb hx) (I.base.free b o e n hx)
 ·obtain ⟨sl,e1⟩:=I.base.slot b o e n hb hx
  obtain⟨sl',e2⟩:=slot b _ (neL b o e) hb (neC b o e hx) e1 (I.base.free b o e n hx);exact⟨sl',e2⟩
 ·obtain ⟨o',e1⟩:=I.base.there b o e hx
  exact free b o' (neC b o e hx) e1 (I.base.free b o e n hx)
 ·obtain ⟨o',e1⟩:=I.base.there b o e hx
  exact there b o' (neC b o e hx) e1
 ·obtain ⟨m1,e1⟩:=I.base.tbls b ps e
  obtain⟨m2,e2⟩:=tbls b _ e1;exact⟨m1++m2,by rw[e2,Array.append_assoc]⟩
 ·obtain ⟨m,hn,hl⟩:=I.loc
  refine⟨m,ns m hn,λi x v e1 e2 e3=>?_⟩
  obtain⟨u,r,l⟩:=hl i x v e1 e2 e3;refine⟨u,r,?_⟩;rcases l with l|⟨k,c,e,z⟩
  ·exact .inl l
  ·exact .inr ⟨k,c,e,cellK x c e _ z⟩
 ·obtain ⟨v,z⟩:=I.cell x c e
  exact⟨v,cellK x c e v z⟩
 ·obtain ⟨m,⟨o,_,_,ho,_⟩,_⟩:=I.loc
  exact free _ o (λz=>(hch _ z).2.1 rfl) ho I.free
 ·obtain ⟨v,o,ho,hd⟩:=I.cell x c e
  exact free c o (λz=>(hch c z).2.2.1 x c e rfl) ho (I.freeC x c e)
 ·obtain ⟨e,n,ne,nf,d⟩:=I.pin p hp
  have nch:p.1∉ch:=λz=>(hch p.1 z).2.2.2 p hp rfl
  exact⟨keep p.1 p.2 ne nf nch e n,free p.1 p.2 nch e n,ne,nf,d⟩
def Inv.un {t':Nat} (I:Inv X pins σ H s) (u:Un X.fs [] H H' s.heap h') (hok:HOk X.prog X.w H' h'):Inv X pins σ H' { s with heap:=h',toks:=t' }:=by
 obtain⟨m,⟨o,es,ep,ho,r⟩,_⟩:=id I.loc;obtain⟨sl,hL⟩:=u.any ho I.free (by simp)
 exact I.step (g':=s.gens) (d':=s.drawn) (ch:=[]) (λ_ z=>nomatch z) (λb o _ hb _ e n=>u.keep b o e n hb (by simp)) (λb o _ hb _ e n=>u.slot b o e n hb (by simp)) (λb o _ e n=>u.free b o e n (by simp)) (λb o _ e=>u.there b o e (by simp)) u.tups u.frzs u.tbls (λm' hm=>by
  obtain⟨o',es',ep',ho',r'⟩:=hm;rw[ho] at ho';cases ho';exact⟨_,es',ep',hL,r'⟩) hok I.bare
def Inv.call {g':Array GenState}{t':Nat}{d':Drawn}{ch:List Addr} (I:Inv X pins σ H s) (u:Un (frs X.stack) ch H H' s.heap h') (hok:HOk X.prog X.w H' h') (hg:AllBare g')
  (hch:∀b∈ch,(b∈X.ex\/X.s₀.heap.objs.size<=b)/\b≠X.env.locals/\(∀x c,X.env.cells.lookup x=some c->c≠b)/\∀p∈X.pn++pins,p.1≠b) :
  Inv X pins σ H' { s with heap:=h',gens:=g',drawn:=d',toks:=t' }:=by
 obtain⟨m,⟨o,es,ep,ho,r⟩,_⟩:=id I.loc;obtain⟨sl,hL⟩:=u.any ho I.free λz=>(hch _ z).2.1 rfl
 exact I.step (ch:=ch) hch (λb o hL hb hc e n=>u.keep b o e n (λz=>(y7.mp (I.stkSub b z)).elim hL hb) hc) (λb o _ _ hc e n=>u.any e n hc) (λb o hc e n=>u.free b o e n hc) (λb o hc e=>u.there b o e hc) u.tups u.frzs u.tbls (λm' hm=>by
  obtain⟨o',es',ep',ho',r'⟩:=hm;rw[ho] at ho';cases ho';exact⟨_,es',ep',hL,r'⟩) hok hg
def Inv.turned {t':Nat}{it:Addr} (I:Inv X pins σ H s) (k:∀b o,b≠it->s.heap.get? b=some o->h'.get? b=some o) (hn:H it=none) (hL:it≠X.env.locals)
  (h1:it∈X.ex\/X.s₀.heap.objs.size<=it) (h2:∀x c,X.env.cells.lookup x=some c->c≠it) (h3:∀p∈X.pn++pins,p.1≠it):Inv X pins σ H { s with heap:=h',toks:=t' }:=by
 have nit:∀b u,H b=some u->b≠it:=λb u e z=>by rw[z,hn] at e;cases e
 refine I.step (g':=s.gens) (d':=s.drawn) (ch:=[it]) (λb hb=>?_) (λb o _ _ hc e _=>k b o (λz=>hc (by simp[z])) e) (λb o _ _ hc e _=>⟨o.slots,k b o (λz=>hc (by simp[z])) e⟩) (λ_ _ _ _ n=>n)
  (λb o hc e=>⟨o,k b o (λz=>hc (by simp[z])) e⟩) (λ_ _ e=>e) (λ_ _ _ e=>e) (λb ps e=>⟨#[],by rw[e];simp⟩) (λm hm=>?_) (λb u e=>?_) I.bare
 ·have e:b=it:=by simpa using hb
  subst e;exact⟨h1,hL,h2,h3⟩
 ·obtain ⟨o,es,ep,ho,r⟩:=hm
  exact⟨o,es,ep,k _ o (Ne.symm hL) ho,r⟩
 ·refine (I.hok b u e).stay (fun c v hc q=>k c v ?_ q) (fun _ q=>q) fun _ _ q=>q
  rcases hc with z|z
  ·rw[z];exact nit b u e
  ·exact nit c _ z
def Inv.tok (I:Inv X pins σ H s) (t:Nat):Inv X pins σ H { s with toks:=t }:=I.un (h':=s.heap) (t':=t) Un.refl I.hok
theorem Inv.kept {t':Nat} (I:Inv X pins σ H s) (k:∀b u,s.heap.get? b=some u->h'.get? b=some u):Inv X pins σ H { s with heap:=h',toks:=t' }:=I.un (Un.kept k) (I.hok.kept k)
theorem Inv.laid {a:Addr}{o:HO}{t':Nat} (I:Inv X pins σ H s) (k:∀b u,s.heap.get? b=some u->h'.get? b=some u) (hp:s.heap.objs.size<=a) (new:ObjOk X.prog X.w (upd H a o) h' a o) :
  Inv X pins σ (upd H a o) { s with heap:=h',toks:=t' }:=I.un (Un.laid k hp (I.hok.fresh hp)) (I.hok.laid k hp new)
theorem Inv.write {x e:Addr}{o:HO}{t':Nat} (I:Inv X pins σ H s) (mu:Mut (H x)) (he:e=x\/H e=some (.own x)) (k:∀b u,b≠e->s.heap.get? b=some u->h'.get? b=some u) (heo:∃u,h'.get? e=some u)
  (new:ObjOk X.prog X.w (upd H x o) h' x o):Inv X pins σ (upd H x o) { s with heap:=h',toks:=t' }:=I.un (Un.write mu he k heo) (I.hok.write mu he k heo new)
def Inv.weak {σ':List (Option V)} (I:Inv X pins σ H s) (hl:σ'.length=σ.length) (w:∀(i:Nat) v,σ'[i]?=some (some v)->σ[i]?=some (some v)):Inv X pins σ' H s :=
 ⟨I.ok,I.os,I.bare,I.base,by obtain⟨m,hn,hl'⟩:=I.loc;exact⟨m,hn,λi x v e1 e2 e3=>hl' i x v e1 (w i v e2) e3⟩,I.cell,I.free,I.freeC,I.pin,I.hok,hl.trans I.len⟩
def Inv.pins_of {pins':LO} (I:Inv X pins σ H s) (h:∀p∈pins',s.heap.get? p.1=some p.2/\H p.1=none/\p.1≠X.env.locals/\p.1∉X.fs/\∀v,p.2.data≠.cell v):Inv X pins' σ H s :=
 ⟨I.ok,I.os,I.bare,I.base,I.loc,I.cell,I.free,I.freeC,λp hp=>(z0G.mp hp).elim (λz=>I.pin p (z0D _ z)) (h p),I.hok,I.len⟩
def u5j {N:List Str} (hN:N.Nodup) {i j:Nat}{x:Str} (a:N[i]?=some x) (b:N[j]?=some x):i=j:=by
 obtain⟨h1,e1⟩:=w6.mp a;obtain⟨h2,e2⟩:=w6.mp b;exact(List.getElem_inj hN).mp (e1.trans e2.symm)
def u5H {M:Model}{A:Around}{E:VP}{i:Nat}{x:Str}{v:V}{u:Value}{Q:Unit->Shared->Prop} (I:Inv X pins σ H s) (hN:X.N.Nodup) (hi:X.N[i]?=some x) (hx:Loc X.env.scope x) (r:RelV v u)
  (h:∀s',Inv X pins (σ.set i (some v)) H s'->(∃a,Heap.SameBut a s.heap s'.heap/\(a=X.env.locals\/X.env.cells.lookup x=some a))->Q () s') (hf:X.fn x=true\/X.env.scope.names.lookup x=some .local:=by first|exact .inl rfl|exact .inr rfl|assumption):wpAny M A (storeName X.env x u) Q E s:=by
 obtain⟨m,hn,hl⟩:=id I.loc;have hcls:(X.env.scope.kind==.class||(X.env.scope.kind==.module&&X.env.locals != X.env.globals))=false:=by rw[I.ok.kind];rfl
 have hiσ:i<σ.length:=by rw[I.len];exact(w6.mp hi).1
 have cne:=I.cne;have tracked:∀{a:Addr}{h':Heap},(∃o,s.heap.get? a=some o/\H a=none)->Heap.SameBut a s.heap h'->HOk X.prog X.w H h':=λ{a h'} ha hs b ob e=>by
  obtain⟨_,_,hfree⟩:=ha;refine(I.hok b ob e).stay (λc w' hc q=>(hs.2 c ?_).trans q) (λ_ q=>q) λ_ _ q=>q
  rintro rfl;rcases hc with rfl|hc
  ·rw[hfree] at e;cases e
  ·rw[hfree] at hc;cases hc
 rcases hx with hk|hk
 ·refine wpAny_storeName_local hk hn (fun h' hn' hs=>?_) hcls
  obtain⟨oL,_,_,hoL,_⟩:=id hn;refine h _ ⟨I.ok,I.os,I.bare,⟨λb o e n hb hx=>?_,λb o e n hb hx=>?_,I.base.free,λb o e hx=>?_,I.base.tups,I.base.frzs,I.base.tbls⟩,⟨_,hn',λj y v' e1 e2 e3=>?_⟩,λy c e=>?_,I.free,I.freeC,λp hp=>?_,tracked ⟨oL,hoL,I.free⟩ hs,by simpa using I.len⟩ ⟨_,hs,.inl rfl⟩
  ·exact(hs.2 b (v5 (w5 (z7 e) I.ok.above))).trans (I.base.keep b o e n hb hx)
  ·obtain ⟨sl,e1⟩:=I.base.slot b o e n hb hx
   exact⟨sl,(hs.2 b (v5 (w5 (z7 e) I.ok.above))).trans e1⟩
  ·obtain ⟨o',e1⟩:=I.base.there b o e hx
   exact⟨o',(hs.2 b (v5 (w5 (z7 e) I.ok.above))).trans e1⟩
  ·by_cases hj:j=i
   ·subst hj
    rw[hi] at e1;cases e1;rw[z2F hiσ] at e2;cases e2;exact⟨u,r,.inl ⟨hk,by simp⟩⟩
   ·rw [List.getElem?_set_ne (Ne.symm hj)] at e2
    obtain⟨u',r',q⟩:=hl j y v' e1 e2 e3;refine⟨u',r',?_⟩;rcases q with⟨k,e⟩|⟨k,c,e,z⟩
    ·refine .inl ⟨k,?_⟩
     have:y≠x:=λe=>hj (u5j hN e1 (e ▸ hi))
     simp[this,e]
    ·exact .inr ⟨k,c,e,z.sameBut hs (cne y c e)⟩
  ·obtain ⟨w',z⟩:=I.cell y c e
   exact⟨w',z.sameBut hs (cne y c e)⟩
  ·obtain ⟨e,n,ne,nf,d⟩:=I.pin p hp
   exact⟨(hs.2 p.1 ne).trans e,n,ne,nf,d⟩
 ·have hfn:X.fn x=true:=by
   rcases hf with z|z
   ·exact z
   ·rw[z] at hk;cases hk
  obtain⟨c,hc⟩:=I.ok.has x (.inl hk);obtain⟨w',z⟩:=I.cell x c hc;refine wpAny_storeName_cell I.ok.kind hk hc z (λh' hc' hs=>?_)
  obtain⟨oc,hoc,hocd⟩:=id z;refine h { s with heap:=h' } ⟨I.ok,I.os,I.bare,⟨λb o e n hb hx=>?_,λb o e n hb hx=>?_,I.base.free,λb o e hx=>?_,I.base.tups,I.base.frzs,I.base.tbls⟩,⟨m,hn.sameBut hs (Ne.symm (cne x c hc)),λj y v' e1 e2 e3=>?_⟩,λy c' e=>?_,I.free,I.freeC,λp hp=>?_,tracked ⟨oc,hoc,I.freeC x c hc⟩ hs,by simpa using I.len⟩ ⟨c,hs,.inr hc⟩
  ·exact(hs.2 b (v5 (w5 (z7 e) (I.ok.cab x c hfn hc)))).trans (I.base.keep b o e n hb hx)
  ·obtain ⟨sl,e1⟩:=I.base.slot b o e n hb hx
   exact⟨sl,(hs.2 b (v5 (w5 (z7 e) (I.ok.cab x c hfn hc)))).trans e1⟩
  ·obtain ⟨o',e1⟩:=I.base.there b o e hx
   exact⟨o',(hs.2 b (v5 (w5 (z7 e) (I.ok.cab x c hfn hc)))).trans e1⟩
  ·by_cases hj:j=i
   ·subst hj
    rw[hi] at e1;cases e1;rw[z2F hiσ] at e2;cases e2;exact⟨u,r,.inr ⟨.inl hk,c,hc,hc'⟩⟩
   ·rw [List.getElem?_set_ne (Ne.symm hj)] at e2
    obtain⟨u',r',q⟩:=hl j y v' e1 e2 e3;refine⟨u',r',?_⟩;rcases q with q|⟨k,c',e,z'⟩
    ·exact .inl q
    ·refine .inr ⟨k,c',e,z'.sameBut hs ?_⟩
     rintro rfl;exact hj (u5j hN e1 (I.ok.inj _ _ _ e hc ▸ hi))
  ·by_cases hcc:c'=c
   ·subst hcc;exact⟨_,hc'⟩
   ·obtain ⟨w2,z2⟩:=I.cell y c' e
    exact⟨w2,z2.sameBut hs hcc⟩
  ·obtain ⟨e,n,ne,nf,d⟩:=I.pin p hp
   refine⟨(hs.2 p.1 ?_).trans e,n,ne,nf,d⟩;intro q;rw[q,hoc] at e;have q':oc=p.2:=Option.some.inj e;exact d w' (by rw[<- q'];exact hocd)
def u3x {M:Model}{A:Around}{E:VP}{i:Nat}{x:Str}{v:V}{u:Value}{Q:Unit->Shared->Prop} (I:Inv X pins σ H s) (hN:X.N.Nodup) (hi:X.N[i]?=some x) (hx:Loc X.env.scope x) (r:RelV v u)
  (h:∀s',Inv X pins (σ.set i (some v)) H s'->Q () s') (hf:X.fn x=true\/X.env.scope.names.lookup x=some .local:=by first|exact .inl rfl|exact .inr rfl|assumption):wpAny M A (storeName X.env x u) Q E s :=
 u5H I hN hi hx r (λs' I' _=>h s' I') hf
def Inv.call' {s':Shared}{ch:List Addr} (I:Inv X pins σ H s) (ho:s'.os=s.os) (u:Un (frs X.stack) ch H H' s.heap s'.heap) (hok:HOk X.prog X.w H' s'.heap) (hg:AllBare s'.gens)
  (hch:∀b∈ch,(b∈X.ex\/X.s₀.heap.objs.size<=b)/\b≠X.env.locals/\(∀x c,X.env.cells.lookup x=some c->c≠b)/\∀p∈X.pn++pins,p.1≠b):Inv X pins σ H' s':=by
 obtain⟨h',g',d',t',o'⟩:=s';have e:o'=s.os:=ho;subst e;exact I.call (g':=g') (t':=t') (d':=d') u hok hg hch
end
abbrev XK:=Value->Option Addr->Hp->Prop
abbrev St:=List (Option V)
abbrev VK:=V->Hp->Prop
abbrev TE:=St->Hp->VK->Prop
abbrev TT:=St->Hp->(Bool->Hp->Prop)->Prop
abbrev TA:=St->Hp->(List V->Hp->Prop)->Prop
structure Ends where
 nx:St->Hp->Prop
 rt:VK
 bk:St->Hp->Prop:=λ_ _=>False
 ct:St->Hp->Prop:=λ_ _=>False
abbrev TS:=Ends->St->Hp->Prop
def EP (X:Cx) (pins:LO) (σ:St) (Q:VK) (u:Value) (s':Shared):Prop:=∃v H',Inv X pins σ H' s'/\RelV v u/\Q v H'
def TP (X:Cx) (pins:LO) (σ:St) (Q:Bool->Hp->Prop) (b:Bool) (s':Shared):Prop:=∃H',Inv X pins σ H' s'/\Q b H'
def AP (X:Cx) (pins:LO) (σ:St) (Q:List V->Hp->Prop) (us:List Value) (s':Shared):Prop:=∃vs H',Inv X pins σ H' s'/\Vals vs us/\Q vs H'
def SP (X:Cx) (pins:LO) (D:Ends) (f:Flow) (s':Shared):Prop :=
 match f with
 | .next=>∃σ' H',Inv X pins σ' H' s'/\D.nx σ' H'
 | .brk=>∃σ' H',Inv X pins σ' H' s'/\D.bk σ' H'
 | .cont=>∃σ' H',Inv X pins σ' H' s'/\D.ct σ' H'
 | .ret u=>∃v σ' H',Inv X pins σ' H' s'/\RelV v u/\D.rt v H'
def PE (X:Cx) (e:Expr) (t:TE):Prop :=
 ∀(pins:LO) (s:Shared) (σ:St) (H:Hp) (Q:VK),Inv X pins σ H s->t σ H Q->wpAny (model X.prog X.w) X.A (eval e X.env) (EP X pins σ Q) X.xe s
def PT (X:Cx) (e:Expr) (t:TT):Prop :=
 ∀(pins:LO) (s:Shared) (σ:St) (H:Hp) (Q:Bool->Hp->Prop),Inv X pins σ H s->t σ H Q->wpAny (model X.prog X.w) X.A (isTrue e X.env (eval e X.env)) (TP X pins σ Q) X.xe s
def PW (X:Cx) (e:Expr) (t:TT):Prop :=
 ∀(whole:Sem Value) (pins:LO) (s:Shared) (σ:St) (H:Hp) (Q:Bool->Hp->Prop),Inv X pins σ H s->t σ H Q->wpAny (model X.prog X.w) X.A (isTrue e X.env whole) (TP X pins σ Q) X.xe s
def PW.pt {X:Cx}{e:Expr}{t:TT} (h:PW X e t):PT X e t:=h _
def PA (X:Cx) (es:List Expr) (t:TA):Prop :=
 ∀(pos:Pos) (pins:LO) (s:Shared) (σ:St) (H:Hp) (Q:List V->Hp->Prop),Inv X pins σ H s->t σ H Q->wpAny (model X.prog X.w) X.A (spliced (backTo pos (starEach es X.env))) (AP X pins σ Q) X.xe s
def PS (X:Cx) (st:Stmt) (t:TS):Prop :=
 ∀(pins:LO) (s:Shared) (σ:St) (H:Hp) (D:Ends),Inv X pins σ H s->t D σ H->wpAny (model X.prog X.w) X.A (exec st X.env) (SP X pins D) X.xe s
def PSs (X:Cx) (st:List Stmt) (t:TS):Prop :=
 ∀(pins:LO) (s:Shared) (σ:St) (H:Hp) (D:Ends),Inv X pins σ H s->t D σ H->wpAny (model X.prog X.w) X.A (execs st X.env) (SP X pins D) X.xe s
def thn {α:Type}{t:Sem α}{Q Q':α->Shared->Prop}{M:Model}{A:Around}{E:VP}{s:Shared} (h:wpAny M A t Q E s) (hQ:∀a s,Q a s->Q' a s):wpAny M A t Q' E s:=wpAny_mono h hQ λ_ _ x=>x
section
variable {X:Cx}
def bin {a b:Expr}{ta tb:TE} (ha:PE X a ta) (hb:PE X b tb) {pins:LO}{s:Shared}{σ:St}{H:Hp}{R:V->V->Hp->Prop} (I:Inv X pins σ H s) (h:ta σ H λx H1=>tb σ H1 λy H2=>R x y H2)
  {α:Type}{Q:α->Shared->Prop}{f:Value->Value->Sem α}
  (hf:∀v u s2 x y H2,Inv X pins σ H2 s2->RelV x v->RelV y u->R x y H2->wpAny (model X.prog X.w) X.A (f v u) Q X.xe s2) :
  wpAny (model X.prog X.w) X.A (eval a X.env) (λv s₁=>wpAny (model X.prog X.w) X.A (eval b X.env) (λu s₂=>wpAny (model X.prog X.w) X.A (f v u) Q X.xe s₂) X.xe s₁) X.xe s:=by
 refine thn (ha pins s σ H _ I h) λv s1 z92=>?_
 obtain⟨x,H1,I1,r1,q1⟩:=z92;refine thn (hb pins s1 σ H1 _ I1 q1) λu s2 z93=>?_
 obtain⟨y,H2,I2,r2,q2⟩:=z93;exact hf v u s2 x y H2 I2 r1 r2 q2
def tVar (i:Nat):TE:=λσ H Q=>∃v,σ[i]?=some (some v)/\Q v H
def tC (v:V):TE:=λ_ H Q=>Q v H
def u0v {i:Nat}{x:Str}{pos:Pos} (hN:X.N[i]?=some x) (hv:Vis X.env.scope x) (hd:(x==("__debug__":Str))=false:=by decide) (hcd:(x==("__classdict__":Str))=false:=by decide):PE X (.Name x pos) (tVar i):=by
 intro pins s σ H Q I h;obtain⟨v,e,h⟩:=h;obtain⟨m,hn,hl⟩:=I.loc;obtain⟨u,r,l⟩:=hl i x v hN e hv;have fin:EP X pins σ Q u s:=⟨v,H,I,r,h⟩;rcases l with⟨hk,hm⟩|⟨hk,c,hc,hcell⟩
 ·exact wpAny_Name (wpAny_loadName_local I.ok.kind hk hn hm fin) hd
 ·rcases hk with hk | hk
  ·exact wpAny_Name (wpAny_loadName_cell I.ok.kind hk hc hcell fin) hd
  ·exact wpAny_Name (wpAny_loadName_free I.ok.kind hk hc hcell fin hcd) hd
def pe_int {i j pos}:PE X (.Constant (.int i) j pos) (tC (.int i)):=λ_ _ _ H _ I h=>wpAny_Constant_int ⟨.int i,H,I.tok _,⟨_,rfl⟩,h⟩
def v2z {b j pos}:PE X (.Constant (.bool b) j pos) (tC (.bl b)):=λ_ _ _ H _ I h=>Constant_bool ⟨.bl b,H,I,rfl,h⟩
def v0l {j pos}:PE X (.Constant .none j pos) (tC .non):=λ_ _ _ H _ I h=>Constant_none ⟨.non,H,I,rfl,h⟩
def pe_str {x j pos}:PE X (.Constant (.str x) j pos) (tC (.str x)):=λ_ _ _ H _ I h=>Calls.Constant_str ⟨.str x,H,I.tok _,⟨_,rfl⟩,h⟩
def Gl (X:Cx) (x:Str):Prop:=X.env.kindOf x=some .globalImplicit
def u2P {E:VP}{pins:LO}{s:Shared}{σ:St}{H:Hp}{x:Str}{u:Value}{pos:Pos}{Q:VP} (I:Inv X pins σ H s) (hg:Gl X x) (hm:X.mg x=some u) (h:Q u s)
  (hd:(x==("__debug__":Str))=false:=by decide):wpAny (model X.prog X.w) X.A (eval (.Name x pos) X.env) Q E s :=
 Calls.Name_function_global I.ok.kind hg (Calls.loadGlobal_global (by rw[I.ok.glob];exact I.mod.glob.keeps I.bk) hm h) hd
def u1M {E:VP}{pins:LO}{s:Shared}{σ:St}{H:Hp}{x:Str}{u:Value}{pos:Pos}{Q:VP} (I:Inv X pins σ H s) (hg:Gl X x) (hm:X.mg x=none) (hv:bootBuiltins x=some u) (h:Q u s)
  (hn:x≠"__name__":=by decide) (hd:(x==("__debug__":Str))=false:=by decide):wpAny (model X.prog X.w) X.A (eval (.Name x pos) X.env) Q E s:=by
 obtain⟨mb,h1,h2⟩:=I.mod.blt;exact Calls.Name_function_global I.ok.kind hg (Calls.loadGlobal_builtin (by rw[I.ok.glob];exact I.mod.glob.keeps I.bk) hm (by rw[I.ok.blt];exact h1.keeps I.bk) ((h2 x hn).trans hv) h) hd
def v0n {x:Str}{v:V}{u:Value}{pos:Pos} (hg:Gl X x) (hm:X.mg x=some u) (r:RelV v u) (hd:(x==("__debug__":Str))=false:=by decide):PE X (.Name x pos) (tC v) :=
 λ_ _ _ H _ I h=>u2P I hg hm ⟨v,H,I,r,h⟩ hd
def v0p {x:Str}{v:V}{u:Value}{pos:Pos} (hg:Gl X x) (hm:X.mg x=none) (hv:bootBuiltins x=some u) (r:RelV v u) (hn:x≠"__name__":=by decide) (hd:(x==("__debug__":Str))=false:=by decide):PE X (.Name x pos) (tC v) :=
 λ_ _ _ H _ I h=>u1M I hg hm hv ⟨v,H,I,r,h⟩ hn hd
variable {a b:Expr}{ta tb:TE}{pos:Pos}
def PC (X:Cx) (op:CmpOp) (a b:Expr) (t:TE):Prop :=
 ∀(pins:LO) (s:Shared) (σ:St) (H:Hp) (Q:VK),Inv X pins σ H s->t σ H Q ->
  wpAny (model X.prog X.w) X.A (eval a X.env) (λv s₁=>wpAny (model X.prog X.w) X.A (eval b X.env) (λu s₂=>wpAny (model X.prog X.w) X.A (compareOp op v u) (EP X pins σ Q) X.xe s₂) X.xe s₁) X.xe s
def tB (t:TE):TT:=λσ H Q=>t σ H λx H1=>∃c,x=.bl c/\Q c H1
def pt_cmp {op:CmpOp}{t:TE} (h:PC X op a b t) (h1:behindInMarks op b=false:=by first|exact nobehind _ (by decide) (by decide)|rfl):PT X (.Compare a [op] [b] pos) (tB t):=by
 intro pins s σ H Q I hw;refine wpAny_isTrue_Compare1 (thn (h pins s σ H _ I hw) λv s1 h1=>thn h1 λu s2 h2=>thn h2 λc s3 z94=>?_) h1
 obtain⟨x,H1,I1,r1,q1⟩:=z94;obtain⟨d,rfl,q⟩:=q1;cases r1;exact wpAny_truthy_bool ⟨H1,I1,q⟩
def v0d {e:Expr}{t:TE} (h:PE X e t) (he:∀whole,isTrue e X.env whole=(do let v <- whole;standAt e.pos;holding [v] (truthy v)):=by intro _;rfl):PT X e (tB t):=by
 intro pins s σ H Q I hw;refine isTrue_plain (thn (h pins s σ H _ I hw) λv s1 z95=>?_) (he _)
 obtain⟨x,H1,I1,r1,q1⟩:=z95;obtain⟨d,rfl,q⟩:=q1;cases r1;exact wpAny_truthy_bool ⟨H1,I1,q⟩
variable {tA tB':TT}{rest:List Expr}
def tAnd (t u:TT):TT:=λσ H Q=>t σ H λc H1=>if c=true then u σ H1 Q else Q false H1
def tOr (t u:TT):TT:=λσ H Q=>t σ H λc H1=>if c=true then Q true H1 else u σ H1 Q
def tNot (t:TT):TT:=λσ H Q=>t σ H λc H1=>Q (!c) H1
def pw_and1 (ha:PT X a tA):PW X (.BoolOp .And [a] pos) tA:=by
 intro wh pins s σ H Q I h;refine isTrue_and (thn (ha pins s σ H Q I h) λc s1 e=>?_)
 cases c with
 | true=>exact isTrue_and_nil e
 | false=>exact e
def v3B (ha:PT X a tA):PW X (.BoolOp .Or [a] pos) tA:=by
 intro wh pins s σ H Q I h;refine isTrue_or (thn (ha pins s σ H Q I h) λc s1 e=>?_)
 cases c with
 | false=>exact isTrue_or_nil e
 | true=>exact e
def pw_and (ha:PT X a tA) (hb:PW X (.BoolOp .And (b::rest) pos) tB'):PW X (.BoolOp .And (a::b::rest) pos) (tAnd tA tB'):=by
 intro wh pins s σ H Q I h;refine isTrue_and (thn (ha pins s σ H _ I h) λc s1 z96=>?_)
 obtain⟨H1,I1,q1⟩:=z96;cases c with
 | true=>exact hb wh pins s1 σ H1 Q I1 q1
 | false=>exact⟨H1,I1,q1⟩
def pw_or (ha:PT X a tA) (hb:PW X (.BoolOp .Or (b::rest) pos) tB'):PW X (.BoolOp .Or (a::b::rest) pos) (tOr tA tB'):=by
 intro wh pins s σ H Q I h;refine isTrue_or (thn (ha pins s σ H _ I h) λc s1 z97=>?_)
 obtain⟨H1,I1,q1⟩:=z97;cases c with
 | true=>exact⟨H1,I1,q1⟩
 | false=>exact hb wh pins s1 σ H1 Q I1 q1
def v0e (ha:PT X a tA):PT X (.UnaryOp .Not a pos) (tNot tA):=by
 intro pins s σ H Q I h;exact isTrue_not (ha pins s σ H (λc H1=>Q (!c) H1) I h)
def tAndV (ta tb:TE):TE:=λσ H Q=>ta σ H λx H1=>∃c,x=.bl c/\if c=true then tb σ H1 Q else Q (.bl false) H1
def tOrV (ta tb:TE):TE:=λσ H Q=>ta σ H λx H1=>∃c,x=.bl c/\if c=true then Q (.bl true) H1 else tb σ H1 Q
def tNotV (ta:TE):TE:=λσ H Q=>ta σ H λx H1=>∃c,x=.bl c/\Q (.bl (!c)) H1
def pe_one {op}{t:TE} (h:PE X a t):PE X (.BoolOp op [a] pos) t:=λpins s σ H Q I hw=>BoolOp_one (h pins s σ H Q I hw)
def pe_and (ha:PE X a ta) (hb:PE X (.BoolOp .And (b::rest) pos) tb):PE X (.BoolOp .And (a::b::rest) pos) (tAndV ta tb):=by
 intro pins s σ H Q I h;refine BoolOp_and (thn (ha pins s σ H _ I h) λv s1 z98=>?_)
 obtain⟨x,H1,I1,r1,q1⟩:=z98;obtain⟨c,rfl,q1⟩:=q1;cases r1;refine wpAny_truthy_bool ?_;cases c with
 | true=>exact hb pins s1 σ H1 Q I1 q1
 | false=>exact⟨.bl false,H1,I1,rfl,q1⟩
def pe_or (ha:PE X a ta) (hb:PE X (.BoolOp .Or (b::rest) pos) tb):PE X (.BoolOp .Or (a::b::rest) pos) (tOrV ta tb):=by
 intro pins s σ H Q I h;refine BoolOp_or (thn (ha pins s σ H _ I h) λv s1 z99=>?_)
 obtain⟨x,H1,I1,r1,q1⟩:=z99;obtain⟨c,rfl,q1⟩:=q1;cases r1;refine wpAny_truthy_bool ?_;cases c with
 | false=>exact hb pins s1 σ H1 Q I1 q1
 | true=>exact⟨.bl true,H1,I1,rfl,q1⟩
def pe_not (ha:PE X a ta):PE X (.UnaryOp .Not a pos) (tNotV ta):=by
 intro pins s σ H Q I h;refine UnaryOp_ (thn (ha pins s σ H _ I h) λv s1 z910=>?_)
 obtain⟨x,H1,I1,r1,q1⟩:=z910;obtain⟨c,rfl,q1⟩:=q1;cases r1;exact not_of (wpAny_truthy_bool ⟨.bl (!c),H1,I1,rfl,q1⟩)
def tIf (t:TT) (ta tb:TE):TE:=λσ H Q=>t σ H λc H1=>if c=true then ta σ H1 Q else tb σ H1 Q
def v2v {c:Expr} (hc:PT X c tA) (ha:PE X a ta) (hb:PE X b tb):PE X (.IfExp c a b pos) (tIf tA ta tb):=by
 intro pins s σ H Q I h;refine wpAny_IfExp (thn (hc pins s σ H _ I h) λd s1 z911=>?_)
 obtain⟨H1,I1,q1⟩:=z911;cases d with
 | true=>exact ha pins s1 σ H1 Q I1 q1
 | false=>exact hb pins s1 σ H1 Q I1 q1
end
def SqL (K:W.Frag) (H:Hp) (a:Addr) (xs:List V):Prop :=
 Rd H a (.lst xs) \/
  ∃(o:Obj) (its:Array Value) (n:Nat),K.lookup a=some o/\o.cls=.type "list"/\o.dict=none/\o.data=.seq its n/\its.size<=sizeLine/\Vals xs its.toList
def SqT (K:W.Frag) (H:Hp) (a:Addr) (xs:List V):Prop :=
 Rd H a (.tup xs) \/
  ∃(o:Obj) (its:Array Value) (n:Nat),K.lookup a=some o/\o.cls=.type "tuple"/\o.data=.seq its n/\its.size<=sizeLine/\Vals xs its.toList
noncomputable def absV:Value->Option V
 | .none=>some .non
 | .bool b=>some (.bl b)
 | .int i _=>some (.int i)
 | .str x _=>some (.str x)
 | .bytes b _=>some (.byt b)
 | .float b _=>some (.flt b)
 | .ref a=>some (.ref a)
 | .type n=>some (.ty n)
 | _=>none
def RelV.abs {x:V}{u:Value} (r:RelV x u):absV u=some x:=by
 cases x with
 | non=>cases r;rfl
 | bl _=>cases r;rfl
 | int _=>obtain⟨t,rfl⟩:=r;rfl
 | str _=>obtain⟨t,rfl⟩:=r;rfl
 | byt _=>obtain⟨t,rfl⟩:=r;rfl
 | flt _=>obtain⟨t,rfl⟩:=r;rfl
 | ref _=>cases r;rfl
 | ty _=>cases r;rfl
theorem RelV.inj {x y:V}{u:Value} (r:RelV x u) (q:RelV y u):x=y:=Option.some.inj (r.abs.symm.trans q.abs)
theorem Vals.inj:∀{xs ys:List V}{us:List Value},Vals xs us->Vals ys us->xs=ys
 | _,_,_,.nil,.nil=>rfl
 | _,_,_,.cons r t,.cons r' t'=>by rw[r.inj r',Vals.inj t t']
section
variable {X:Cx}{pins:LO}{σ:St}{H:Hp}{s:Shared}{a:Addr}{xs ys:List V}
def Inv.list (I:Inv X pins σ H s) (h:SqL X.K H a xs):∃its:List Value,Vals xs its/\PlainL s.heap a its.toArray/\xs.length<=sizeLine:=by
 rcases h with h|⟨o,its,n,hk,hc,hd,hs,hz,r⟩
 ·obtain ⟨z,its,n,r,e⟩:=h.ok I.hok
  exact⟨its,r,⟨_,n,e,rfl,rfl,rfl⟩,z⟩
 ·refine ⟨its.toList,r,⟨o,n,I.kIn a o hk,hc,hd,by simpa using hs⟩,?_⟩
  have e:=r.length;simp only[z0H] at e;omega
def Inv.tuple (I:Inv X pins σ H s) (h:SqT X.K H a xs):∃its:List Value,Vals xs its/\IsTup s.heap a its.toArray/\xs.length<=sizeLine:=by
 rcases h with h|⟨o,its,n,hk,hc,hs,hz,r⟩
 ·obtain ⟨z,its,r,p⟩:=h.ok I.hok
  exact⟨its,r,p,z⟩
 ·refine ⟨its.toList,r,⟨o,I.kIn a o hk,hc,n,by simpa using hs⟩,?_⟩
  have e:=r.length;simp only[z0H] at e;omega
def Inv.list_inj (I:Inv X pins σ H s) (h:SqL X.K H a xs) (h':SqL X.K H a ys):xs=ys:=by
 obtain⟨its,r,⟨o,n,e,_,_,d⟩,_⟩:=I.list h;obtain⟨its',r',⟨o',n',e',_,_,d'⟩,_⟩:=I.list h';rw[e] at e';cases e';rw[d] at d';injection d' with d1 _
 have:its=its':=by simpa using congrArg Array.toList d1
 subst this;exact r.inj r'
def Inv.tuple_inj (I:Inv X pins σ H s) (h:SqT X.K H a xs) (h':SqT X.K H a ys):xs=ys:=by
 obtain⟨its,r,⟨o,e,_,n,d⟩,_⟩:=I.tuple h;obtain⟨its',r',⟨o',e',_,n',d'⟩,_⟩:=I.tuple h';rw[e] at e';cases e';rw[d] at d';injection d' with d1 _
 have:its=its':=by simpa using congrArg Array.toList d1
 subst this;exact r.inj r'
end
abbrev Cx.wish (X:Cx) (E:VP):Cx:={ X with xe:=E }
abbrev Cx.nox (X:Cx):Cx:=X.wish λ_ _=>False
theorem Cx.Ok.wish {X:Cx} (ok:X.Ok) (E:VP):(X.wish E).Ok :=
 ⟨ok.mod,ok.kind,ok.glob,ok.blt,ok.above,ok.inj,ok.has,ok.cab,ok.hd,ok.frames,ok.stk,ok.exf,ok.bs,ok.bsz,ok.noex,ok.exfs,ok.funs,ok.frf⟩
def Cx.Ok.unwish {X:Cx}{E:VP} (ok:(X.wish E).Ok):X.Ok :=
 ⟨ok.mod,ok.kind,ok.glob,ok.blt,ok.above,ok.inj,ok.has,ok.cab,ok.hd,ok.frames,ok.stk,ok.exf,ok.bs,ok.bsz,ok.noex,ok.exfs,ok.funs,ok.frf⟩
section
variable {X:Cx}{pins:LO}{σ:St}{H:Hp}{s:Shared}{E:VP}
theorem Inv.wish (I:Inv X pins σ H s) (E:VP):Inv (X.wish E) pins σ H s:=⟨I.ok.wish E,I.os,I.bare,I.base,I.loc,I.cell,I.free,I.freeC,I.pin,I.hok,I.len⟩
theorem Inv.unwish (I:Inv (X.wish E) pins σ H s):Inv X pins σ H s:=⟨I.ok.unwish,I.os,I.bare,I.base,I.loc,I.cell,I.free,I.freeC,I.pin,I.hok,I.len⟩
theorem SP.unwish {D:Ends}{f:Flow}{s':Shared} (h:SP (X.wish E) pins D f s'):SP X pins D f s':=by
 cases f with
 | next=>obtain⟨σ',H',I,q⟩:=h;exact⟨σ',H',I.unwish,q⟩
 | brk=>obtain⟨σ',H',I,q⟩:=h;exact⟨σ',H',I.unwish,q⟩
 | cont=>obtain⟨σ',H',I,q⟩:=h;exact⟨σ',H',I.unwish,q⟩
 | ret u=>obtain⟨v,σ',H',I,r,q⟩:=h;exact⟨v,σ',H',I.unwish,r,q⟩
theorem PSs.nox {st:List Stmt}{t:TS} (h:PSs X.nox st t):PSs X st t:=λpins s σ H D I hw =>
 wpAny_mono (h pins s σ H D (I.wish _) hw) (λ_ _ q=>q.unwish) λ_ _ z=>False.elim z
end
section
variable {X:Cx}{st:Stmt}{rest:List Stmt}{t u:TS}{e:Expr}{te:TE}{pos:Pos}
def tNext:TS:=λD σ H=>D.nx σ H
def tSeq (t u:TS):TS:=λD σ H=>t { D with nx:=u D } σ H
def u2J:PSs X [] tNext:=λ_ _ σ H _ I h=>wpAny_execs_nil ⟨σ,H,I,h⟩
def u0x (h1:PS X st t) (h2:PSs X rest u):PSs X (st::rest) (tSeq t u):=by
 intro pins s σ H D I h;refine wpAny_execs_cons (thn (h1 pins s σ H { D with nx:=u D } I h) λf s1 q=>?_)
 cases f with
 | next =>
  obtain⟨σ',H',I',q⟩:=q;exact h2 pins s1 σ' H' D I' q
 | ret v=>exact q
 | brk=>exact q
 | cont=>exact q
def u1h (h1:PS X st t):PSs X [st] t:=by
 intro pins s σ H D I h;refine wpAny_execs_cons (thn (h1 pins s σ H D I h) λf s1 q=>?_)
 cases f with
 | next=>exact wpAny_execs_nil q
 | ret v=>exact q
 | brk=>exact q
 | cont=>exact q
def Inv.quiet {pins:LO}{σ:St}{H:Hp}{s:Shared} (I:Inv X pins σ H s):interactive X.env=false:=by simp[interactive,I.ok.kind]
def tDrop (te:TE):TS:=λD σ H=>te σ H λ_ H1=>D.nx σ H1
def u2K (he:PE X e te) (hs:swapsWith e none pos.line X.env=pure false:=by rfl):PS X (.Expr e pos) (tDrop te):=by
 intro pins s σ H D I h;exact wpAny_Expr_any (thn (he pins s σ H _ I h) λv s1 z912=>by obtain⟨x,H1,I1,r1,q1⟩:=z912;exact⟨σ,H1,I1,q1⟩) I.quiet hs
def tRet (te:TE):TS:=λD σ H=>te σ H D.rt
def u4E (he:PE X e te):PS X (.Return (some e) pos) (tRet te):=by
 intro pins s σ H D I h;exact wpAny_Return_some (thn (he pins s σ H _ I h) λv s1 z913=>by obtain⟨x,H1,I1,r1,q1⟩:=z913;exact⟨x,σ,H1,I1,r1,q1⟩)
def tIfS (c:TT) (t u:TS):TS:=λD σ H=>c σ H λb H1=>if b=true then t D σ H1 else u D σ H1
def u7a {c:Expr}{a b:List Stmt}{tc:TT} (hc:PT X c tc) (ha:PSs X a t) (hb:PSs X b u):PS X (.If c a b pos) (tIfS tc t u):=by
 intro pins s σ H D I h;refine wpAny_If (thn (hc pins s σ H _ I h) λd s1 z914=>?_)
 obtain⟨H1,I1,q1⟩:=z914;cases d with
 | true=>exact ha pins s1 σ H1 D I1 q1
 | false=>exact hb pins s1 σ H1 D I1 q1
def tNever:TS:=λ_ _ _=>False
def u2v {sts:List Stmt}:PSs X sts tNever:=λ_ _ _ _ _ _ h=>h.elim
end
abbrev TG:=V->St->Hp->(St->Hp->Prop)->Prop
abbrev TGs:=List V->St->Hp->(St->Hp->Prop)->Prop
def PG (X:Cx) (target:Expr) (t:TG):Prop :=
 ∀(pins:LO) (s:Shared) (σ:St) (H:Hp) (v:V) (u:Value) (Q:St->Hp->Prop),Inv X pins σ H s->RelV v u->t v σ H Q ->
  wpAny (model X.prog X.w) X.A (assign target X.env u) (λ_ s'=>∃σ' H',Inv X pins σ' H' s'/\Q σ' H') X.xe s
def PGs (X:Cx) (ts:List Expr) (t:TGs):Prop :=
 ∀(pins:LO) (s:Shared) (σ:St) (H:Hp) (vs:List V) (us:List Value) (Q:St->Hp->Prop),Inv X pins σ H s->Vals vs us->t vs σ H Q ->
  wpAny (model X.prog X.w) X.A (assignInOrder ((assignEach ts X.env).map (·.2)) us) (λ_ s'=>∃σ' H',Inv X pins σ' H' s'/\Q σ' H') X.xe s
section
variable {X:Cx}{pos:Pos}
def gName (i:Nat):TG:=λv σ H Q=>Q (σ.set i (some v)) H
def pg_name {i:Nat}{x:Str} (hN:X.N.Nodup) (hi:X.N[i]?=some x) (hx:Loc X.env.scope x) (hf:X.fn x=true\/X.env.scope.names.lookup x=some .local:=by first|exact .inl rfl|exact .inr rfl|assumption):PG X (.Name x pos) (gName i):=by
 intro pins s σ H v u Q I r h;exact wpAny_assign_Name (u3x I hN hi hx r (λs' I'=>⟨_,H,I',h⟩) hf)
def gNil:TGs:=λvs σ H Q=>vs=[]/\Q σ H
def gCons (t:TG) (u:TGs):TGs:=λvs σ H Q=>∃v r,vs=v::r/\t v σ H λσ' H'=>u r σ' H' Q
def pgs_nil:PGs X [] gNil:=by
 intro pins s σ H vs us Q I r h;obtain⟨e,h⟩:=h;subst e;cases r;exact assignInOrder_nil ⟨σ,H,I,h⟩
def v2t {e:Expr}{es:List Expr}{t:TG}{u:TGs} (h1:PG X e t) (h2:PGs X es u)
  (hs:(assignEach (e::es) X.env).map (·.2)=assign e X.env::(assignEach es X.env).map (·.2):=by rfl):PGs X (e::es) (gCons t u):=by
 intro pins s σ H vs us Q I r h;obtain⟨v,vr,e1,h⟩:=h;subst e1;cases r with
 | cons r rr =>
  rw[hs];refine assignInOrder_cons (thn (h1 pins s σ H _ _ _ I r h) λ_ s1 z915=>?_)
  obtain⟨σ1,H1,I1,q1⟩:=z915;exact h2 pins s1 σ1 H1 _ _ Q I1 rr q1
def gTup (K:W.Frag) (n:Nat) (t:TGs):TG:=λv σ H Q=>∃a xs,v=.ref a/\SqT K H a xs/\xs.length=n/\t xs σ H Q
def pg_tup {es:List Expr}{k:Nat}{t:TGs}{n:Nat} (hc:X.calm=true) (h:PGs X es t)
  (hn:(assignEach es X.env).length=n:=by rfl) (hst:(assignEach es X.env).findIdx? (·.1)=none:=by rfl):PG X (.Tuple es k pos) (gTup X.K n t):=by
 intro pins s σ H v u Q I r hw;obtain⟨a,xs,e1,hq,hl,hw⟩:=hw;subst e1;cases r;obtain⟨its,rv,ht,hz⟩:=I.tuple hq;refine assign_Tuple_tuple (I.ok.hd hc) ht (by simp[hn,<- hl,rv.length]) hst λh' hx=>?_
 have I1:Inv X pins σ H { s with heap:=h' }:=I.kept (t':=s.toks) λb o e=>hx b o (v5 (z7 e)) e
 exact h pins _ σ H xs _ Q I1 (by simpa using rv) hw
def tAsg (te:TE) (g:TG):TS:=λD σ H=>te σ H λx H1=>g x σ H1 D.nx
def ps_asg {tg e:Expr}{te:TE}{g:TG} (he:PE X e te) (hg:PG X tg g) (hs:swapsWithSole [tg] e pos.line X.env=pure false:=by rfl) (hw:swappedStores [tg] e X.env=pure none:=by rfl)
  (h1:(assignEach [tg] X.env).map (·.2)=[assign tg X.env]:=by rfl):PS X (.Assign [tg] e pos) (tAsg te g):=by
 intro pins s σ H D I h;refine wpAny_Assign_stores (thn (he pins s σ H _ I h) λv s1 z916=>?_) hs hw
 obtain⟨x,H1,I1,r1,q1⟩:=z916;rw[h1];exact thn (hg pins s1 σ H1 x v _ I1 r1 q1) λ_ s2 q=>q
def v0g {i:Nat}{x:Str}{e:Expr}{te:TE}{pos':Pos} (hN:X.N.Nodup) (hi:X.N[i]?=some x) (hx:Loc X.env.scope x) (he:PE X e te) (hs:swapsWith e (some (.Name x pos')) pos.line X.env=pure false:=by rfl) (hf:X.fn x=true\/X.env.scope.names.lookup x=some .local:=by first|exact .inl rfl|exact .inr rfl|assumption) :
  PS X (.Assign [.Name x pos'] e pos) (tAsg te (gName i)):=by
 intro pins s σ H D I h;refine wpAny_Assign_Name (thn (he pins s σ H _ I h) λv s1 z917=>?_) hs
 obtain⟨y,H1,I1,r1,q1⟩:=z917;exact u3x I1 hN hi hx r1 (λs2 I2=>⟨_,H1,I2,q1⟩) hf
end
structure It where
 go:Nat->Hp->Prop
 yld:Nat->Hp->V->Hp->Prop
 stop:Nat->Hp->Prop
def FpOk (X:Cx) (pins:LO) (H:Hp) (b:Addr):Prop :=
 H b=none/\b≠X.env.locals/\b∉X.fs/\(b∈X.ex\/X.s₀.heap.objs.size<=b)/\(∀x c,X.env.cells.lookup x=some c->c≠b)/\∀p∈X.pn++pins,p.1≠b
def Inv.fpOk {X:Cx}{pins:LO}{σ:St}{H H':Hp}{s:Shared}{b:Addr} (I:Inv X pins σ H s) (hb:s.heap.objs.size<=b) (hn:H' b=none):FpOk X pins H' b:=by
 refine⟨hn,Nat.ne_of_gt (w5 I.lt hb),I.nofs hb,.inr (v7 I.sz hb),λx c e z=>?_,λp hp z=>?_⟩
 ·obtain ⟨v,q⟩:=I.cell x c e
  exact absurd (w5 q.lt (by rw[z];exact hb)) (z0B _)
 ·exact absurd (w5 (z7 (I.pin p hp).1) (by rw[z];exact hb)) (z0B _)
structure Turn (P:Program) (w:World) (K:W.Frag) (tg:Expr) (J:It) (fp:List Addr) (it:Addr) (tn:Nat->Heap->Prop):Prop where
 mem:it∈fp
 obj:∀i h,tn i h->∀b∈fp,∃o,h.get? b=some o/\∀v,o.data≠.cell v
 keep:∀i h h',tn i h->(∀b∈fp,∀o,h.get? b=some o->h'.get? b=some o)->tn i h'
 item:∀(X:Cx),X.prog=P->X.w=w->X.K=K->X.calm=true->∀(i:Nat) (pins:LO) (s:Shared) (σ:St) (H:Hp) (E:VP),Inv X pins σ H s->(∀b∈fp,FpOk X pins H b)->tn i s.heap->J.go i H ->
  wpAny (model P w) X.A (pyNext (.ref it)) (λr s1=>∃u,r=some u /\
   wpAny (model P w) X.A (letOwnedTupleGo tg (.ref it) u) (λ_ s2=>∃x H',Inv X pins σ H' s2/\RelV x u/\J.yld i H x H'/\tn (i+1) s2.heap/\∀b∈fp,H' b=none) E s1) E s
 done:∀(X:Cx),X.prog=P->X.w=w->X.K=K->X.calm=true->∀(i:Nat) (pins:LO) (s:Shared) (σ:St) (H:Hp) (E:VP),Inv X pins σ H s->(∀b∈fp,FpOk X pins H b)->tn i s.heap->J.stop i H ->
  wpAny (model P w) X.A (pyNext (.ref it)) (λr s1=>r=none/\Inv X pins σ H s1) E s
 self:∀(A:Around) (i:Nat) (s:Shared) (Q:VP) (E:VP),tn i s.heap->Q (.ref it) s->wpAny (model P w) A (pyIter (.ref it)) Q E s
abbrev TI:=St->Hp->(It->Hp->Prop)->Prop
def PIE (X:Cx) (pins:LO) (σ:St) (tg:Expr) (R:It->Hp->Prop) (itv:Value) (s2:Shared):Prop :=
 ∃(it:Addr) (fp:List Addr) (tn:Nat->Heap->Prop) (J:It) (H':Hp),itv=.ref it/\Inv X pins σ H' s2/\Turn X.prog X.w X.K tg J fp it tn/\tn 0 s2.heap/\(∀b∈fp,FpOk X pins H' b)/\R J H'
def PI (X:Cx) (tg iter:Expr) (wi:TI):Prop :=
 ∀(pins:LO) (s:Shared) (σ:St) (H:Hp) (R:It->Hp->Prop),Inv X pins σ H s->wi σ H R ->
  wpAny (model X.prog X.w) X.A (eval iter X.env) (λv s1=>wpAny (model X.prog X.w) X.A (pyIter v) (PIE X pins σ tg R) X.xe s1) X.xe s
def u9q {M:Model}{A:Around}{E:VP}{s:Shared}{tg:Expr}{it:Addr}{u:Value}{o:Obj}{n:String}{vs:Array Value}{Q:Unit->Shared->Prop} (ho:s.heap.get? it=some o) (hc:o.cls=.type n) (hd:o.data=.fields vs)
  (hn:["enumerate","zip","dict_itemiterator","dict_reverseitemiterator","odict_iterator","itertools.zip_longest","itertools.pairwise"].contains n=false) (hQ:Q () s):wpAny M A (letOwnedTupleGo tg (.ref it) u) Q E s:=by
 unfold letOwnedTupleGo;cases tg<;>first
  | exact wpAny_pure hQ
  | (cases u<;>first
    | exact wpAny_pure hQ
    | (refine wpAny_bind (wpAny_load ho ?_)
       rw[hc,hd];show wpAny M A (if (["enumerate","zip","dict_itemiterator","dict_reverseitemiterator","odict_iterator","itertools.zip_longest","itertools.pairwise"].contains n&&vs[0]?==some (rawInt _))=true then _ else _) Q E s
       rw[if_neg (by intro h;rw[hn,Bool.false_and] at h;cases h)]
       exact wpAny_pure hQ))
def Itl (K:W.Frag) (a:Addr):It :=
 ⟨λi H=>∃xs x,SqL K H a xs/\xs[i]?=some x,λi H x H'=>H'=H/\∀xs,SqL K H a xs->xs[i]?=some x,λi H=>∃xs,SqL K H a xs/\xs.length<=i⟩
def Itt (K:W.Frag) (a:Addr):It :=
 ⟨λi H=>∃xs x,SqT K H a xs/\xs[i]?=some x,λi H x H'=>H'=H/\∀xs,SqT K H a xs->xs[i]?=some x,λi H=>∃xs,SqT K H a xs/\xs.length<=i⟩
def Itr (lo:Int) (n:Nat):It:=⟨λi _=>i<n,λi H x H'=>H'=H/\x=.int (lo+i),λi _=>n<=i⟩
def u9G {P:Program}{w:World}{K:W.Frag}{tg:Expr} (a it:Addr):Turn P w K tg (Itl K a) [it] it (λi h=>h.IsListIter it a i) where
 mem:=by simp
 obj:=λi h st b hb=>by
  have e:b=it:=by simpa using hb
  subst e;obtain⟨o,e,c,d⟩:=st;exact⟨o,e,λv z=>by rw[d] at z;cases z⟩
 keep:=λi h h' st k=>st.at λo e=>k it (by simp) o e
 item:=by
  intro X hP hw hK hc i pins s σ H E I hf st hg;subst hP hw hK;obtain⟨xs,x,hq,hx⟩:=hg;obtain⟨its,rv,p,hz⟩:=I.list hq;obtain⟨u,hu,ru⟩:=rv.get hx;obtain⟨f0,f1,f2,f3,f4,f5⟩:=hf it (by simp)
  refine wpAny_pyNext_list_item st p.isList (x:=u) (by simpa using hu) λh' st' sb=>?_
  have I1:Inv X pins σ H { s with heap:=h' }:=I.turned (t':=s.toks) (λb o hb e=>(sb.2 b hb).trans e) f0 f1 f3 f4 f5
  obtain⟨o,e,c,d⟩:=id st';exact⟨u,rfl,u9q (s:={ s with heap:=h' }) e c d (by decide) ⟨x,H,I1,ru,⟨rfl,λys hy=>by rw[I.list_inj hy hq];exact hx⟩,st',λb hb=>(hf b hb).1⟩⟩
 done:=by
  intro X hP hw hK hc i pins s σ H E I hf st hg;subst hP hw hK;obtain⟨xs,hq,hx⟩:=hg;obtain⟨its,rv,p,hz⟩:=I.list hq;obtain⟨f0,f1,f2,f3,f4,f5⟩:=hf it (by simp)
  have hl:=rv.length;exact wpAny_pyNext_list_end (I.ok.hd hc) st p.isList (by simp;omega) λh' eb=>⟨rfl,I.turned (t':=s.toks) (λb o hb e=>eb b o hb e) f0 f1 f3 f4 f5⟩
 self:=λ_ _ _ _ _ st h=>wpAny_pyIter_listiter st h
def u8C {P:Program}{w:World}{K:W.Frag}{tg:Expr} (a it:Addr):Turn P w K tg (Itt K a) [it] it (λi h=>h.IsTupleIter it a i) where
 mem:=by simp
 obj:=λi h st b hb=>by
  have e:b=it:=by simpa using hb
  subst e;obtain⟨o,e,c,d⟩:=st;exact⟨o,e,λv z=>by rw[d] at z;cases z⟩
 keep:=λi h h' st k=>st.at λo e=>k it (by simp) o e
 item:=by
  intro X hP hw hK hc i pins s σ H E I hf st hg;subst hP hw hK;obtain⟨xs,x,hq,hx⟩:=hg;obtain⟨its,rv,p,hz⟩:=I.tuple hq;obtain⟨u,hu,ru⟩:=rv.get hx;obtain⟨f0,f1,f2,f3,f4,f5⟩:=hf it (by simp)
  refine wpAny_pyNext_tuple_item st (show s.heap.IsTuple a its.toArray from p) (x:=u) (by simpa using hu) λh' st' sb=>?_
  have I1:Inv X pins σ H { s with heap:=h' }:=I.turned (t':=s.toks) (λb o hb e=>(sb.2 b hb).trans e) f0 f1 f3 f4 f5
  obtain⟨o,e,c,d⟩:=id st';exact⟨u,rfl,u9q (s:={ s with heap:=h' }) e c d (by decide) ⟨x,H,I1,ru,⟨rfl,λys hy=>by rw[I.tuple_inj hy hq];exact hx⟩,st',λb hb=>(hf b hb).1⟩⟩
 done:=by
  intro X hP hw hK hc i pins s σ H E I hf st hg;subst hP hw hK;obtain⟨xs,hq,hx⟩:=hg;obtain⟨its,rv,p,hz⟩:=I.tuple hq;obtain⟨f0,f1,f2,f3,f4,f5⟩:=hf it (by simp)
  have hl:=rv.length;exact wpAny_pyNext_tuple_end (I.ok.hd hc) st (show s.heap.IsTuple a its.toArray from p) (by simp;omega) λh' eb=>⟨rfl,I.turned (t':=s.toks) (λb o hb e=>eb b o hb e) f0 f1 f3 f4 f5⟩
 self:=λ_ _ _ _ _ st h=>wpAny_pyIter_tupleiter st h
def u8D {P:Program}{w:World}{K:W.Frag}{tg:Expr} (it:Addr) (lo:Int) (n:Nat):Turn P w K tg (Itr lo n) [it] it (λi h=>IsRangeIter h it (lo+(i:Nat)*1) ((n:Int) - (i:Nat)) 1) where
 mem:=by simp
 obj:=λi h st b hb=>by
  have e:b=it:=by simpa using hb
  subst e;exact⟨_,st,λv z=>by
   have z':Data.fields _=Data.cell v:=z;cases z'⟩
 keep:=λi h h' st k=>k it (by simp) _ st
 item:=by
  intro X hP hw hK hc i pins s σ H E I hf st hg;subst hP hw hK;obtain⟨f0,f1,f2,f3,f4,f5⟩:=hf it (by simp)
  have W:=Walks.range (prog:=X.prog) (w:=X.w) (I.ok.hd hc) it lo 1 n;refine W.item i s _ _ hg st λv h' tk hv st' kk=>?_
  obtain⟨t,rfl⟩:=hv;have I1:Inv X pins σ H { s with heap:=h',toks:=tk }:=I.turned (λb o hb e=>kk b o (by simpa using hb) e) f0 f1 f3 f4 f5
  refine⟨_,rfl,u9q (s:={ s with heap:=h',toks:=tk }) (n:="range_iterator") st' rfl rfl (by decide) ⟨.int (lo+i),H,I1,⟨t,?_⟩,⟨rfl,rfl⟩,st',λb hb=>(hf b hb).1⟩⟩
  rw[Int.mul_one]
 done:=by
  intro X hP hw hK hc i pins s σ H E I hf st hg;subst hP hw hK;obtain⟨f0,f1,f2,f3,f4,f5⟩:=hf it (by simp)
  exact wpAny_pyNext_range_end (I.ok.hd hc) st (by have:n<=i:=hg;omega) λh' eb=>⟨rfl,I.turned (t':=s.toks) (λb o hb e=>eb b o hb e) f0 f1 f3 f4 f5⟩
 self:=λ_ _ _ _ _ st h=>wpAny_pyIter_rangeiter st h
section
variable {X:Cx}{tg:Expr}
def iList (K:W.Frag) (tl:TE):TI:=λσ H R=>tl σ H λx H1=>∃a,x=.ref a/\(∃xs,SqL K H1 a xs)/\R (Itl K a) H1
def iTup (K:W.Frag) (tl:TE):TI:=λσ H R=>tl σ H λx H1=>∃a,x=.ref a/\(∃xs,SqT K H1 a xs)/\R (Itt K a) H1
def v0k {l:Expr}{tl:TE} (hl:PE X l tl):PI X tg l (iList X.K tl):=by
 intro pins s σ H R I h;refine thn (hl pins s σ H _ I h) λv s1 z918=>?_
 obtain⟨x,H1,I1,r1,q1⟩:=z918;obtain⟨a,e,⟨xs,hq⟩,q⟩:=q1;subst e;cases r1;obtain⟨its,rv,p,hz⟩:=I1.list hq;refine wpAny_pyIter_list p.isList ?_;refine⟨s1.heap.objs.size,[s1.heap.objs.size],_,_,H1,rfl,I1.kept (t':=s1.toks) λb o e=>z5 _ e,u9G a _,⟨_,z6 _ rfl,rfl,rfl⟩,λb hb=>?_,q⟩
 have e:b=s1.heap.objs.size:=by simpa using hb
 subst e;exact I1.fpOk (y0 _) (I1.hok.fresh (y0 _))
def pi_tup {l:Expr}{tl:TE} (hl:PE X l tl):PI X tg l (iTup X.K tl):=by
 intro pins s σ H R I h;refine thn (hl pins s σ H _ I h) λv s1 z919=>?_
 obtain⟨x,H1,I1,r1,q1⟩:=z919;obtain⟨a,e,⟨xs,hq⟩,q⟩:=q1;subst e;cases r1;obtain⟨its,rv,p,hz⟩:=I1.tuple hq;refine wpAny_pyIter_tuple (show s1.heap.IsTuple a its.toArray from p) ?_
 refine⟨s1.heap.objs.size,[s1.heap.objs.size],_,_,H1,rfl,I1.kept (t':=s1.toks) λb o e=>z5 _ e,u8C a _,⟨_,z6 _ rfl,rfl,rfl⟩,λb hb=>?_,q⟩
 have e:b=s1.heap.objs.size:=by simpa using hb
 subst e;exact I1.fpOk (y0 _) (I1.hok.fresh (y0 _))
def v2k {pins:LO}{σ:St}{H:Hp}{s:Shared}{R:It->Hp->Prop}{E:VP}{lo hi:Int}{t u v:Tok}{tk:Nat} (I:Inv X pins σ H s) (h1:-(2^62)<=lo) (h2:lo<2^62) (h3:-(2^62)<=hi) (h4:hi<2^62)
  (q:R (Itr lo (hi - lo).toNat) H):wpAny (model X.prog X.w) X.A (pyIter (.ref s.heap.objs.size)) (PIE X pins σ tg R) E { s with heap:=s.heap.push { cls:=.type "range",data:=.fields #[.int lo t,.int hi u,.int 1 v] },toks:=tk }:=by
 refine wpAny_pyIter_range (IsRange.new ..) (small_one h1 h2 h3 h4) ?_;have I1:Inv X pins σ H { s with heap:=s.heap.push { cls:=.type "range",data:=.fields #[.int lo t,.int hi u,.int 1 v] },toks:=tk }:=I.kept λb o e=>z5 _ e
 refine⟨(s.heap.push { cls:=.type "range",data:=.fields #[.int lo t,.int hi u,.int 1 v] }).objs.size,[(s.heap.push { cls:=.type "range",data:=.fields #[.int lo t,.int hi u,.int 1 v] }).objs.size],_,_,H,rfl,
  I1.kept (t':=tk) λb o e=>z5 _ e,u8D _ lo (hi - lo).toNat,?_,λb hb=>?_,q⟩
 ·have e1:lo+((0:Nat):Int)*1=lo:=by simp
  have e2:(((hi - lo).toNat:Nat):Int) - ((0:Nat):Int)=Builtin.Range.rangeSize lo hi 1:=by rw[rangeSize_one];split<;>omega
  show IsRangeIter _ _ (lo+((0:Nat):Int)*1) ((((hi - lo).toNat:Nat):Int) - ((0:Nat):Int)) 1;rw[e1,e2];exact z6 _ rfl
 ·have e:b=(s.heap.push { cls:=.type "range",data:=.fields #[.int lo t,.int hi u,.int 1 v] }).objs.size:=by simpa using hb
  subst e;exact I1.fpOk (y0 _) (I1.hok.fresh (y0 _))
def iRng1 (ta:TA):TI:=λσ H R=>ta σ H λvs H1=>∃j:Int,vs=[.int j]/\-(2^62)<=j/\j<2^62/\R (Itr 0 j.toNat) H1
def v0j {a:Expr}{ta:TA}{p pos:Pos} (hg:Gl X "range") (hm:X.mg "range"=none) (ha:PA X [a] ta) (hs:starEach [a] X.env=[(false,eval a X.env)]:=by rfl):PI X tg (.Call (.Name "range" p) [a] [] pos) (iRng1 ta):=by
 intro pins s σ H R I h;refine Call_ (u1M I hg hm boot_range (PyProof.Rows.callWith_type1 (thn (ha pos pins s σ H _ I h) λus s1 z920=>?_) hs rfl))
 obtain⟨vs,H1,I1,r1,q1⟩:=z920;obtain⟨j,e,q1,q2,q⟩:=q1;subst e;cases r1 with
 | cons r rr =>
  cases rr;obtain⟨t,rfl⟩:=r;exact call_range_1 (v2k I1 (by omega) (by omega) q1 q2 (by simpa using q))
def tFor (wi:TI) (g:TG) (tb:TS):TS:=λD σ H=>wi σ H λJ H1=>∃W:Nat->Nat->St->Hp->Prop,(∃m,W 0 m σ H1)/\∀i m σ H,W i m σ H ->
 (J.stop i H/\D.nx σ H)\/(J.go i H/\∃N:St->Hp->Prop,(∀σ' H',N σ' H'->∃m',m'<m/\W (i+1) m' σ' H')/\∀x H',J.yld i H x H'->g x σ H' λσ2 H2=>tb { D with nx:=N,ct:=N,bk:=D.nx } σ2 H2)
noncomputable def pinsAt (fp:List Addr) (h:Heap):LO:=fp.filterMap λb=>(h.get? b).map λo=>(b,o)
def u1U {fp:List Addr}{h:Heap}{b:Addr}{o:Obj} (hb:b∈fp) (e:h.get? b=some o):(b,o)∈pinsAt fp h:=List.mem_filterMap.mpr ⟨b,hb,by rw[e];rfl⟩
def v0s {fp:List Addr}{h:Heap}{p:Addr×Obj} (hp:p∈pinsAt fp h):p.1∈fp/\h.get? p.1=some p.2:=by
 obtain⟨b,hb,e⟩:=List.mem_filterMap.mp hp;cases q:h.get? b with
 | none=>rw[q] at e;cases e
 | some o =>
  rw[q] at e;have e':(b,o)=p:=Option.some.inj e;subst e';exact⟨hb,q⟩
def Inv.pinned {pins:LO}{σ:St}{H:Hp}{s:Shared}{fp:List Addr} (I:Inv X pins σ H s) (hf:∀b∈fp,FpOk X pins H b) (ho:∀b∈fp,∃o,s.heap.get? b=some o/\∀v,o.data≠.cell v):Inv X (pins++pinsAt fp s.heap) σ H s :=
 I.pins_of λp hp=>(z0G.mp hp).elim (λz=>I.pin p (t0 _ z)) λz=>by
  obtain⟨hb,e⟩:=v0s z;obtain⟨f0,f1,f2,_⟩:=hf p.1 hb;obtain⟨o,e',d⟩:=ho p.1 hb;rw[e] at e';cases e';exact⟨e,f0,f1,f2,d⟩
def Inv.unpinned {pins pl:LO}{σ:St}{H:Hp}{s:Shared} (I:Inv X (pins++pl) σ H s):Inv X pins σ H s:=I.pins_of λp hp=>I.pin p (t0 _ (z0D _ hp))
def v3D {iter:Expr}{body:List Stmt}{wi:TI}{g:TG}{tb:TS}{pos:Pos} (hp:PassesOwn (model X.prog X.w) X.A X.env X.xe) (hc:X.calm=true) (hi:PI X tg iter wi) (hg:PG X tg g) (hb:PSs X body tb)
  (hs:∀x,foldedSetIterable iter X.env x=pure x:=by intro _;rfl):PS X (.For tg iter body [] pos) (tFor wi g tb):=by
 intro pins s σ H D I h;refine wpAny_For (thn (hi pins s σ H _ I h) λv s1 h1=>thn h1 λitv s2 h2=>?_) hs
 obtain⟨it,fp,tn,J,H2,e,I2,T,st2,f2,W,⟨m0,w0⟩,turn⟩:=h2;subst e;have stat:∀{H':Hp},(∀b∈fp,H' b=none)->∀b∈fp,FpOk X pins H' b:=λhn b hb=>⟨hn b hb,(f2 b hb).2⟩
 refine codeAny_forLoop_any (λn s'=>∃i σ' H',Inv X pins σ' H' s'/\tn i s'.heap/\(∀b∈fp,H' b=none)/\W i n σ' H') ?_ m0 ⟨0,σ,H2,I2,st2,λb hb=>(f2 b hb).1,w0⟩
 rintro n s3 ⟨i,σ3,H3,I3,st3,fr3,w3⟩;rcases turn i n σ3 H3 w3 with⟨stop,qn⟩|⟨go,N,hN,step⟩
 ·refine wpAny_passesOwn hp (thn (T.done X rfl rfl rfl hc i pins s3 σ3 H3 X.xe I3 (stat fr3) st3 stop) fun r s4 z921=>?_)
  obtain⟨hr,I4⟩:=z921;subst hr;exact wpAny_execs_nil ⟨σ3,H3,I4,qn⟩
 ·refine wpAny_passesOwn hp (thn (T.item X rfl rfl rfl hc i pins s3 σ3 H3 X.xe I3 (stat fr3) st3 go) fun r s4 z922=>?_)
  obtain⟨u,hr,h4⟩:=z922;subst hr;refine wpAny_passesOwn hp (thn h4 λ_ s5 z923=>?_)
  obtain⟨x,H5,I5,r5,y5,st5,fr5⟩:=z923;have I5':=I5.pinned (stat fr5) (T.obj _ _ st5);refine wpAny_passesOwn hp (thn (hg _ s5 σ3 H5 x u _ I5' r5 (step x H5 y5)) λ_ s6 z924=>?_)
  obtain⟨σ6,H6,I6,q6⟩:=z924;refine wpAny_passesOwn hp (thn (hb _ s6 σ6 H6 _ I6 q6) λf s7 q7=>?_)
  have again:∀{σ7:St}{H7:Hp},Inv X (pins++pinsAt fp s5.heap) σ7 H7 s7->N σ7 H7->∃m,m<n/\∃i σ' H',Inv X pins σ' H' s7/\tn i s7.heap/\(∀b∈fp,H' b=none)/\W i m σ' H':=λ{σ7 H7} I7 n7=>by
   obtain⟨m',hm,w7⟩:=hN σ7 H7 n7;refine⟨m',hm,i+1,σ7,H7,I7.unpinned,T.keep _ _ _ st5 λb hb o e=>(I7.pin (b,o) (t0 _ (t0 _ (u1U hb e)))).1,λb hb=>?_,w7⟩
   obtain⟨o,e,d⟩:=T.obj _ _ st5 b hb;exact(I7.pin (b,o) (t0 _ (t0 _ (u1U hb e)))).2.1
  cases f with
  | next=>obtain⟨σ7,H7,I7,n7⟩:=q7;exact again I7 n7
  | cont=>obtain⟨σ7,H7,I7,n7⟩:=q7;exact again I7 n7
  | brk=>obtain⟨σ7,H7,I7,q7⟩:=q7;exact⟨σ7,H7,I7.unpinned,q7⟩
  | ret v=>obtain⟨x7,σ7,H7,I7,r7,q7⟩:=q7;exact⟨x7,σ7,H7,I7.unpinned,r7,q7⟩
end
abbrev R2:=V->V->Hp->VK->Prop
def OpR (X:Cx) (f:Value->Value->Sem Value) (r:R2):Prop :=
 ∀(pins:LO) (s:Shared) (σ:St) (H:Hp) (x y:V) (v u:Value) (Q:VK),Inv X pins σ H s->RelV x v->RelV y u->r x y H Q ->
  wpAny (model X.prog X.w) X.A (f v u) (EP X pins σ Q) X.xe s
def CallR (X:Cx) (f:Value) (r:List V->Hp->VK->Prop):Prop :=
 ∀(pins:LO) (s:Shared) (σ:St) (H:Hp) (xs:List V) (us:List Value) (Q:VK),Inv X pins σ H s->Vals xs us->r xs H Q ->
  wpAny (model X.prog X.w) X.A (call f us) (EP X pins σ Q) X.xe s
def TruR (X:Cx) (r:V->Hp->(Bool->Hp->Prop)->Prop):Prop :=
 ∀(pins:LO) (s:Shared) (σ:St) (H:Hp) (x:V) (v:Value) (Q:Bool->Hp->Prop),Inv X pins σ H s->RelV x v->r x H Q ->
  wpAny (model X.prog X.w) X.A (truthy v) (TP X pins σ Q) X.xe s
def tOp (r:R2) (ta tb:TE):TE:=λσ H Q=>ta σ H λx H1=>tb σ H1 λy H2=>r x y H2 Q
def rI (C:Int->Int->Prop) (g:Int->Int->V):R2:=λx y H Q=>∃i j,x=.int i/\y=.int j/\C i j/\Q (g i j) H
def rI0 (g:Int->Int->V):R2:=λx y H Q=>∃i j,x=.int i/\y=.int j/\Q (g i j) H
section
variable {X:Cx}{a b c:Expr}{ta tb tc:TE}{pos:Pos}
def binT (ha:PE X a ta) (hb:PE X b tb) {pins:LO}{s:Shared}{σ:St}{H:Hp}{R:V->V->Hp->Prop} (I:Inv X pins σ H s)
  (h:ta σ H λx H1=>tb σ H1 λy H2=>R x y H2) {Q:VP}{f:Value->Value->Sem Value}
  (hf:∀v u s2 x y H2,Inv X pins σ H2 s2->RelV x v->RelV y u->R x y H2->wpAny (model X.prog X.w) X.A (f v u) Q X.xe s2) :
  wpAny (model X.prog X.w) X.A (eval a X.env) (λv s₁=>wpAny (model X.prog X.w) X.A (eval b X.env) (λu s₂=>wpAny (model X.prog X.w) X.A (f v u) Q X.xe s₂) X.xe s₁) X.xe s:=by
 refine thn (ha pins s σ H _ I h) λv s1 z925=>?_
 obtain⟨x,H1,I1,r1,q1⟩:=z925;refine thn (hb pins s1 σ H1 _ I1 q1) λu s2 z926=>?_
 obtain⟨y,H2,I2,r2,q2⟩:=z926;exact hf v u s2 x y H2 I2 r1 r2 q2
def pe_op {op:Operator}{r:R2} (ho:OpR X (binaryOp op) r) (ha:PE X a ta) (hb:PE X b tb):PE X (.BinOp a op b pos) (tOp r ta tb):=by
 intro pins s σ H Q I h;exact wpAny_BinOp (binT ha hb I h λv u s2 x y H2 I2 rx ry q=>ho pins s2 σ H2 x y v u Q I2 rx ry q)
def opI {f:Value->Value->Sem Value}{C:Int->Int->Prop}{g:Int->Int->Int}
  (rule:∀(i j:Int) (t u:Tok) (s:Shared) (Q:VP) (E:VP),C i j->Q (.int (g i j) s.toks) { s with toks:=s.toks+1 }->wpAny (model X.prog X.w) X.A (f (.int i t) (.int j u)) Q E s) :
  OpR X f (rI C λi j=>.int (g i j)):=by
 intro pins s σ H x y v u Q I rx ry h;obtain⟨i,j,rfl,rfl,hc,q⟩:=h;obtain⟨t,rfl⟩:=rx;obtain⟨t',rfl⟩:=ry;exact rule i j t t' s _ _ hc ⟨.int (g i j),H,I.tok _,⟨_,rfl⟩,q⟩
def opI0 {f:Value->Value->Sem Value}{g:Int->Int->Int}
  (rule:∀(i j:Int) (t u:Tok) (s:Shared) (Q:VP) (E:VP),Q (.int (g i j) s.toks) { s with toks:=s.toks+1 }->wpAny (model X.prog X.w) X.A (f (.int i t) (.int j u)) Q E s) :
  OpR X f (rI0 λi j=>.int (g i j)):=by
 intro pins s σ H x y v u Q I rx ry h;obtain⟨i,j,rfl,rfl,q⟩:=h;obtain⟨t,rfl⟩:=rx;obtain⟨t',rfl⟩:=ry;exact rule i j t t' s _ _ ⟨.int (g i j),H,I.tok _,⟨_,rfl⟩,q⟩
def opB0 {f:Value->Value->Sem Value}{g:Int->Int->Bool}
  (rule:∀(i j:Int) (t u:Tok) (s:Shared) (Q:VP) (E:VP),Q (.bool (g i j)) s->wpAny (model X.prog X.w) X.A (f (.int i t) (.int j u)) Q E s) :
  OpR X f (rI0 λi j=>.bl (g i j)):=by
 intro pins s σ H x y v u Q I rx ry h;obtain⟨i,j,rfl,rfl,q⟩:=h;obtain⟨t,rfl⟩:=rx;obtain⟨t',rfl⟩:=ry;exact rule i j t t' s _ _ ⟨.bl (g i j),H,I,rfl,q⟩
def CPow (i j:Int):Prop:=0<=j/\j<=1000000/\i.natAbs<2^64
def CMul (i j:Int):Prop:=(-(2^64)<i/\i<2^64)\/(-(2^64)<j/\j<2^64)
def CMul.ok {i j:Int} (h:CMul i j):IntMulOk i j:=by
 rcases h with⟨h1,h2⟩|⟨h1,h2⟩
 ·exact .of_left (intBits_le_64 h1 h2)
 ·exact .of_right (intBits_le_64 h1 h2)
def op_add:OpR X (binaryOp .Add) (rI0 λi j=>.int (i+j)):=opI0 λ_ _ _ _ _ _ _ q=>add_int q
def op_sub:OpR X (binaryOp .Sub) (rI0 λi j=>.int (i - j)):=opI0 λ_ _ _ _ _ _ _ q=>sub_int q
def op_mul:OpR X (binaryOp .Mult) (rI CMul λi j=>.int (i*j)):=opI λ_ _ _ _ _ _ _ hc q=>mul_int q hc.ok
def op_mod:OpR X (binaryOp .Mod) (rI (λ_ j=>0<j) λi j=>.int (i%j)):=opI λi j _ _ _ _ _ hc q=>by
 have h1:(0:Int)<j:=hc;exact mod_int' (by omega) (by rw[Int.fmod_eq_emod_of_nonneg i (by omega)];exact q)
def op_pow:OpR X (binaryOp .Pow) (rI CPow λi j=>.int (i^j.toNat)):=opI λ_ _ _ _ _ _ _ hc q=>pow_int_small hc.1 hc.2.1 hc.2.2 q
def v0Z {pins:LO}{σ:St}{H:Hp}{s:Shared}{Q:VK}{k k':Bool} (I:Inv X pins σ H s) (q:Q (.bl k) H) (e:k=k'):EP X pins σ Q (.bool k') s:=by
 subst e;exact⟨.bl k,H,I,rfl,q⟩
def op_lt:OpR X (compareOp .Lt) (rI0 λi j=>.bl (decide (i<j))):=opB0 λ_ _ _ _ _ _ _ q=>lt_int q
def op_le:OpR X (compareOp .LtE) (rI0 λi j=>.bl (decide (i<=j))):=opB0 λ_ _ _ _ _ _ _ q=>le_int q
def op_gt:OpR X (compareOp .Gt) (rI0 λi j=>.bl (decide (j<i))):=opB0 λ_ _ _ _ _ _ _ q=>gt_int q
def op_ge:OpR X (compareOp .GtE) (rI0 λi j=>.bl (decide (j<=i))):=opB0 λ_ _ _ _ _ _ _ q=>ge_int q
def v0q:OpR X (compareOp .In) (λx y H Q=>∃i j,x=.str i/\y=.str j/\Q (.bl (!(Builtin.Str.occurrences j i 0 j.length 1).isEmpty)) H):=by
 intro pins s σ H x y v u Q I rx ry h;obtain⟨i,j,rfl,rfl,q⟩:=h;obtain⟨t,rfl⟩:=rx;obtain⟨t',rfl⟩:=ry;exact in_str (v0Z I q rfl)
def op_isN:OpR X (compareOp .Is) (λx y H Q=>y=.non/\Q (.bl (decide (x=.non))) H):=by
 intro pins s σ H x y v u Q I rx ry h;obtain⟨rfl,q⟩:=h;cases ry;refine is_none_gen (v0Z I q ?_);cases x<;>first
  | (cases rx;rfl)
  | (obtain⟨t,rfl⟩:=rx;rfl)
def op_notN:OpR X (compareOp .IsNot) (λx y H Q=>y=.non/\Q (.bl (!decide (x=.non))) H):=by
 intro pins s σ H x y v u Q I rx ry h;obtain⟨rfl,q⟩:=h;cases ry;refine isnot_none_gen (v0Z I q ?_);cases x<;>first
  | (cases rx;rfl)
  | (obtain⟨t,rfl⟩:=rx;rfl)
def nomark (b:Expr) {op:CmpOp} (h:op≠.In:=by decide) (h2:op≠.NotIn:=by decide):behindInMarks op b=false:=by
 have e1:(op==CmpOp.In)=false:=by cases op<;>first|rfl|exact absurd rfl h
 have e2:(op==CmpOp.NotIn)=false:=by cases op<;>first|rfl|exact absurd rfl h2
 cases b<;>simp[behindInMarks,e1,e2]
def pe_cmpR {op:CmpOp}{r:R2} (ho:OpR X (compareOp op) r) (ha:PE X a ta) (hb:PE X b tb) (hm:behindInMarks op b=false):PE X (.Compare a [op] [b] pos) (tOp r ta tb):=by
 intro pins s σ H Q I h;exact wpAny_Compare1 (binT ha hb I h λv u s2 x y H2 I2 rx ry q=>ho pins s2 σ H2 x y v u Q I2 rx ry q) hm
def tTest (t:TE):TT:=λσ H Q=>t σ H λx H'=>∃k,x=.bl k/\Q k H'
def v0f {op:CmpOp}{r:R2} (ho:OpR X (compareOp op) r) (ha:PE X a ta) (hb:PE X b tb) (hm:behindInMarks op b=false):PT X (.Compare a [op] [b] pos) (tTest (tOp r ta tb)):=by
 intro pins s σ H Q I h;refine wpAny_isTrue_Compare1 (thn (ha pins s σ H _ I h) λv s1 ⟨x,H1,I1,r1,q1⟩=>thn (hb pins s1 σ H1 _ I1 q1) λu s2 ⟨y,H2,I2,r2,q2⟩ =>
  thn (ho pins s2 σ H2 x y v u _ I2 r1 r2 q2) λc s3 ⟨z,H3,I3,r3,k,e,q3⟩=>?_) hm
 subst e;cases r3;exact wpAny_truthy_bool ⟨H3,I3,q3⟩
def tChain (r r':R2) (ta tb tc:TE):TE:=λσ H Q=>ta σ H λx H1=>tb σ H1 λy H2=>r x y H2 λz H3=>∃k,z=.bl k /\
 (if k=true then tc σ H3 λw' H4=>r' y w' H4 Q else Q (.bl false) H3)
def v2x {op op':CmpOp}{r r':R2} (ho:OpR X (compareOp op) r) (ho':OpR X (compareOp op') r') (ha:PE X a ta) (hb:PE X b tb) (hc:PE X c tc)
  (hm:lastMarks [op,op'] [b,c]=false:=by with_unfolding_all rfl):PE X (.Compare a [op,op'] [b,c] pos) (tChain r r' ta tb tc):=by
 intro pins s σ H Q I h;refine Compare_chain (thn (ha pins s σ H _ I h) λv s1 ⟨x,H1,I1,r1,q1⟩=>chain_link (thn (hb pins s1 σ H1 _ I1 q1) λu s2 ⟨y,H2,I2,r2,q2⟩ =>
  thn (ho pins s2 σ H2 x y v u _ I2 r1 r2 q2) λd s3 ⟨z,H3,I3,r3,k,e,q3⟩=>?_)) hm
 subst e;cases r3;refine wpAny_truthy_bool ?_;cases k with
 | false=>exact ite_ff ⟨.bl false,H3,I3,rfl,q3⟩
 | true=>exact ite_tt (chain_last (thn (hc pins s3 σ H3 _ I3 q3) λw' s4 z933=>by obtain⟨z',H4,I4,r4,q4⟩:=z933;exact ho' pins s4 σ H4 y z' u w' Q I4 r2 r4 q4))
def v2m {op op':CmpOp}{r r':R2} (ho:OpR X (compareOp op) r) (ho':OpR X (compareOp op') r') (ha:PE X a ta) (hb:PE X b tb) (hc:PE X c tc)
  (hm:lastMarks [op,op'] [b,c]=false:=by with_unfolding_all rfl):PT X (.Compare a [op,op'] [b,c] pos) (tTest (tChain r r' ta tb tc)):=by
 intro pins s σ H Q I h;refine isTrue_chain (thn (ha pins s σ H _ I h) λv s1 ⟨x,H1,I1,r1,q1⟩=>test_link (thn (hb pins s1 σ H1 _ I1 q1) λu s2 ⟨y,H2,I2,r2,q2⟩ =>
  thn (ho pins s2 σ H2 x y v u _ I2 r1 r2 q2) λd s3 ⟨z,H3,I3,r3,k,e,q3⟩=>?_)) hm
 subst e;cases r3;refine wpAny_truthy_bool ?_;cases k with
 | false =>
  obtain⟨k',e',q'⟩:=q3;cases e';exact ite_ff ⟨H3,I3,q'⟩
 | true =>
  refine ite_tt (test_last (thn (hc pins s3 σ H3 _ I3 q3) λw' s4 ⟨z',H4,I4,r4,q4⟩=>thn (ho' pins s4 σ H4 y z' u w' _ I4 r2 r4 q4) λd' s5 z938=>?_))
  obtain⟨z2,H5,I5,r5,k2,e2,q5⟩:=z938;subst e2;cases r5;exact wpAny_truthy_bool ⟨H5,I5,q5⟩
def TruV (K:W.Frag) (x:V) (H:Hp) (k:Bool):Prop :=
 match x with
 | .non=>k=false
 | .bl b=>k=b
 | .int i=>k=(i != 0)
 | .str y=>y.length<=sizeLine/\k=((y.length:Int) != 0)
 | .byt y=>y.size<=sizeLine/\k=((y.size:Int) != 0)
 | .ref p=>(∃xs,SqL K H p xs/\k=!xs.isEmpty)\/(∃xs,SqT K H p xs/\k=!xs.isEmpty)\/∃kvs,H p=some (.dK kvs)/\k=!kvs.isEmpty
 | _=>False
def u9o {κ:Type}{kvs:List (κ×V)}{vs:List (κ×Value)} (r:KV kvs vs):(!vs.isEmpty)=!kvs.isEmpty:=by
 cases r<;>rfl
def u4K {xs:List V}{its:List Value} (r:Vals xs its):(!its.toArray.isEmpty)=!xs.isEmpty:=by
 cases r<;>simp
def line63:(sizeLine:Nat)<2^63:=by rw[sizeLine_eq];decide
def tru_ok:TruR X (λx H Q=>∃k,TruV X.K x H k/\Q k H):=by
 intro pins s σ H x v Q I rx h;obtain⟨k,e,q⟩:=h;have hl:=line63;have hs:sizeLine=16777216:=sizeLine_eq;cases x with
 | non =>
  cases rx;have e':k=false:=e;subst e';exact truthy_none ⟨H,I,q⟩
 | bl b =>
  cases rx;have e':k=b:=e;subst e';exact wpAny_truthy_bool ⟨H,I,q⟩
 | int i =>
  obtain⟨t,rfl⟩:=rx;have e':k=(i != 0):=e;subst e';exact PySem.P.truthy_int ⟨H,I,q⟩
 | str y =>
  obtain⟨t,rfl⟩:=rx;obtain⟨hy,e'⟩:y.length<=sizeLine/\k=((y.length:Int) != 0):=e;subst e';exact PySem.P.truthy_str (by omega) ⟨H,I.tok _,q⟩
 | byt y =>
  obtain⟨t,rfl⟩:=rx;obtain⟨hy,e'⟩:y.size<=sizeLine/\k=((y.size:Int) != 0):=e;subst e';exact W.truthy_bytes (by omega) ⟨H,I.tok _,q⟩
 | ref p =>
  cases rx;have e':(∃xs,SqL X.K H p xs/\k=!xs.isEmpty)\/(∃xs,SqT X.K H p xs/\k=!xs.isEmpty)\/∃kvs,H p=some (.dK kvs)/\k=!kvs.isEmpty:=e;rcases e' with⟨xs,hx,e'⟩|⟨xs,hx,e'⟩|⟨kvs,hx,e'⟩
  ·subst e'
   obtain⟨its,r,pl,hz⟩:=I.list hx;have hlen:=r.length;exact wpAny_truthy_list pl.isList (by simp only[y9];omega) ⟨H,I.tok _,by rw[u4K r];exact q⟩
  ·subst e'
   obtain⟨its,r,pl,hz⟩:=I.tuple hx;have hlen:=r.length;exact truthy_tuple pl (by simp only[y9];omega) ⟨H,I.tok _,by rw[u4K r];exact q⟩
  ·subst e'
   obtain⟨hz,hS,vs,r,m⟩:kvs.length<=sizeLine/\(p==sysModules)=false/\∃vs,KV kvs vs/\s.heap.DictOf (mixKind X.prog X.w) p vs:=I.hok p _ hx;have hlen:kvs.length=vs.length:=Paired.length r;exact wpAny_truthy_dict hS m (by omega) ⟨H,I.tok _,by rw[u9o r];exact q⟩
 | _=>exact(show False from e).elim
def u9j:OpR X (binaryOp .Add) (λx y H Q=>∃i j,x=.str i/\y=.str j/\i.length+j.length<=sizeLine/\Q (.str (i++j)) H):=by
 intro pins s σ H x y v u Q I rx ry h;obtain⟨i,j,rfl,rfl,hz,q⟩:=h;obtain⟨t,rfl⟩:=rx;obtain⟨t',rfl⟩:=ry;exact add_str (λt' tk=>⟨.str (i++j),H,I.tok _,⟨_,rfl⟩,q⟩) hz
def vals1 {x:V}{us:List Value} (r:Vals [x] us):∃u,us=[u]/\RelV x u:=by
 cases r with
 | cons r1 r2=>cases r2;exact⟨_,rfl,r1⟩
def vals2 {x y:V}{us:List Value} (r:Vals [x,y] us):∃u w',us=[u,w']/\RelV x u/\RelV y w':=by
 cases r with
 | cons r1 r2 =>
  cases r2 with
  | cons r3 r4=>cases r4;exact⟨_,_,rfl,r1,r3⟩
def LenV (K:W.Frag) (x:V) (H:Hp) (n:Nat):Prop :=
 match x with
 | .str y=>y.length<=sizeLine/\n=y.length
 | .byt y=>y.size<=sizeLine/\n=y.size
 | .ref p=>(∃xs,SqL K H p xs/\n=xs.length)\/∃xs,SqT K H p xs/\n=xs.length
 | _=>False
def u5x:CallR X (.builtin "len") (λxs H Q=>∃x n,xs=[x]/\LenV X.K x H n/\Q (.int n) H):=by
 intro pins s σ H xs us Q I r h;obtain⟨x,n,rfl,e,q⟩:=h;obtain⟨u,rfl,rx⟩:=vals1 r;have hl:=line63;have hs:sizeLine=16777216:=sizeLine_eq;cases x with
 | str y =>
  obtain⟨t,rfl⟩:=rx;obtain⟨hy,e'⟩:y.length<=sizeLine/\n=y.length:=e;subst e';exact len_str (by omega) ⟨.int _,H,I.tok _,⟨_,rfl⟩,q⟩
 | byt y =>
  obtain⟨t,rfl⟩:=rx;obtain⟨hy,e'⟩:y.size<=sizeLine/\n=y.size:=e;subst e';exact W.len_bytes (by omega) ⟨.int _,H,I.tok _,⟨_,rfl⟩,q⟩
 | ref p =>
  cases rx;have e':(∃xs,SqL X.K H p xs/\n=xs.length)\/∃xs,SqT X.K H p xs/\n=xs.length:=e;rcases e' with⟨xs,hx,e'⟩|⟨xs,hx,e'⟩
  ·subst e'
   obtain⟨its,r',pl,hz⟩:=I.list hx;have hlen:=r'.length;exact Calls.call_len_list pl.isList (by simp only[y9];omega) ⟨.int xs.length,H,I.tok _,⟨_,by simp only[y9];rw[hlen]⟩,q⟩
  ·subst e'
   obtain⟨its,r',pl,hz⟩:=I.tuple hx;have hlen:=r'.length;exact len_tuple pl (by simp only[y9];omega) ⟨.int xs.length,H,I.tok _,⟨_,by simp only[y9];rw[hlen]⟩,q⟩
 | _=>exact(show False from e).elim
end
structure ObjM (h:Heap) (x dx C:Addr) (mA:MG):Prop where
 obj:h.get? x=some (W.instObj C dx)
 ns:h.Ns1 dx mA
 ne:dx≠x
set_option tactic.hygienic true in
def u6d {h:Heap}{dx:Addr}{mA:MG} (n:h.Ns1 dx mA):∃od,h.get? dx=some od/\∀name,W.lookIn name od=some (mA name):=by
 obtain⟨o,es,ep,ho,hd,hk,_,hm⟩:=n;refine⟨o,ho,λname=>?_⟩
 have e:=hm name;unfold nsFind findBy at e;rw[<- Array.find?_toList] at e;unfold W.lookIn;rw[hd];dsimp only;split
 ·rename_i y q
  rw[q] at e;exact congrArg some e
 ·rename_i q
  rw[q] at e;have a:es.toList.any (·.refKey)=false:=by
   rw[List.any_eq_false];intro y hy;obtain⟨z,t,hkey⟩:=hk y (Array.mem_toList_iff.mp hy);simp[DictEntry.refKey,hkey]
  have a':¬ es.toList.any (·.refKey)=true:=by rw[a];exact q9
  rw[if_neg a'];exact congrArg some e
def ObjM.look {h:Heap}{x dx C:Addr}{mA:MG} (I:ObjM h x dx C mA):∃od,W.InstAt h x (W.instObj C dx) C (some od)/\∀name,W.lookIn name od=some (mA name) :=
 let ⟨od,ho,hl⟩:=u6d I.ns
 ⟨od,⟨I.obj,rfl,rfl,ho⟩,hl⟩
section
variable {prog:Program}{w:World}{A:Around}{E:VP}{s:Shared}{K:W.Frag}{x dx C f:Addr}{mA:MG}{name:Str}{v:Value}
def get_map {expr:Bool}{Q:VP} (X:K.In s.heap) (I:ObjM s.heap x dx C mA) (hg:W.plainGet K C name=true) (hh:W.hasDictIn K C=true)
  (ha:W.findIn K (.ref C) name=some none) (hv:mA name=some v) (hv':W.handedIn v=true) (h:Q v { s with toks:=s.toks+1 }) :
  wpAny (model prog w) A (getAttr (.ref x) name expr) Q E s:=by
 obtain⟨od,J,hl⟩:=I.look;exact W.get_value X J (W.plainGet_of hg).1 (W.findObj_own hh ha rfl (by rw[hl,hv])) hv' h
def v3d {pl:Sem Bool}{Q:Value×List Value->Shared->Prop} (X:K.In s.heap) (I:ObjM s.heap x dx C mA) (hg:W.plainGet K C name=true)
  (hf:W.findIn K (.ref C) name=some (some (.ref f))) (ht:W.isFn K (.ref f)=true) (hv:mA name=none) (h:Q (.ref f,[.ref x]) s) :
  wpAny (model prog w) A (getMethod (.ref x) name pl) Q E s:=by
 obtain⟨od,J,hl⟩:=I.look;exact W.method_fn X J (W.plainGet_of hg).1 (W.plainGet_of hg).2 hf (beq_iff_eq.mp ht) (by show(W.lookIn name od).map (·.isSome)=some false;rw[hl,hv];rfl) h
def set_map {ns:List Str}{Q:Unit->Shared->Prop} (X:K.In s.heap) (I:ObjM s.heap x dx C mA)
  (hs:W.findIn K (.ref C) "__setattr__"=some (some (.builtin "object.__setattr__"))) (hp:W.plainOver K C=true) (ht:W.takerIn K C name=some none) (hh:W.hasDictIn K C=true)
  (hw:PySem.Within mA ns) (hsz:ns.length<=sizeLine)
  (h:∀h',ObjM h' x dx C (λy=>if y=name then some v else mA y)->Heap.SameBut dx s.heap h'->Q () { s with heap:=h',toks:=s.toks+2 }) :
  wpAny (model prog w) A (setAttr (.ref x) name v) Q E s:=by
 obtain⟨od,J,hl⟩:=I.look;refine W.set_plain X J hs (W.osa_open (s:={ s with toks:=s.toks+1 }) (r:=none) X J hp ht λb=>?_)
 obtain⟨cd,hc,hd'⟩:=W.any_some hh;have hx:s.heap.get? x=some ⟨.ref C,some dx,.plain,#[]⟩:=I.obj;refine wpAny_bind (wpAny_pure (wpAny_bind (wpAny_bind (wpAny_loadPart hx (wpAny_bind (W.Looks.here (s:={ s with toks:=s.toks+1 }) (W.looks_clsIn X hc) ?_))))))
 rw[hd'];refine wpAny_pure (a:=some dx) (wpAny_bind (wpAny_pure (wpAny_bind ?_)));refine wpAny_nsSet1 (s:={ s with toks:=s.toks+1 }) I.ns λh' hn2 hs2=>?_
 obtain⟨oD,esD,epD,hoD,hdD,hcD⟩:=hn2.count (PySem.Within.cons name v hw);refine wpAny_bind (wpAny_lookBehind hoD (by rw[hdD];exact pastItsLine_dict (v7 hcD (by rw[s9];omega))) ?_)
 exact wpAny_pure (h _ ⟨(hs2.2 _ (Ne.symm I.ne)).trans I.obj,hn2,I.ne⟩ hs2)
def v2M {R:Result->Shared->Prop}{vs:List Value}{kw:List (Str×Value)} (X:K.In s.heap) (hm:W.makesIn K C=true)
  (hi:W.findIn K (.ref C) "__init__"=some (some (.ref f))) (hf:W.typeIn K (.ref f)=some (.type "function"))
  (h:codeAny (model prog w) (A.under (.builtin "type.__call__" ⟨.ref C::vs,kw⟩)) (.call (.ref f) ⟨.ref (s.heap.objs.size+1)::vs,kw⟩) (W.InitBack (s.heap.objs.size+1) R)
   { s with heap:=(s.heap.push W.emptyDict).push (W.instObj C s.heap.objs.size) }) :
  codeAny (model prog w) A (.call (.ref C) ⟨vs,kw⟩) R s:=by
 obtain⟨hh,g,d,t,os⟩:=s;exact W.make_core (W.makes_of X hm) (W.looks_findIn X hi) (λself=>W.bind_fn X self hf) (.inl rfl) h
end
noncomputable def putF (f:Str) (v:V):List (Str×V)->List (Str×V)
 | []=>[(f,v)]
 | (g,x)::r=>if g=f then (g,v)::r else (g,x)::putF f v r
theorem u3U (f g:Str) (v:V):∀fs:List (Str×V),(putF f v fs).lookup g=if g=f then some v else fs.lookup g
 | []=>by
  show List.lookup g [(f,v)]=_;by_cases h:g=f
  ·have hb:(g==f)=true:=beq_iff_eq.mpr h
   simp only[List.lookup,hb,if_pos h]
  ·have hb:(g==f)=false:=beq_eq_false_iff_ne.mpr h
   simp only[List.lookup,hb,if_neg h]
 | (k,x)::r=>by
  have ih:=u3U f g v r;rw[show putF f v ((k,x)::r)=(if k=f then (k,v)::r else (k,x)::putF f v r) from rfl]
  by_cases hk:k=f
  ·rw [if_pos hk]
   by_cases h:g=k
   ·have hb:(g==k)=true:=beq_iff_eq.mpr h
    simp only[List.lookup,hb,if_pos (h.trans hk)]
   ·have hb:(g==k)=false:=beq_eq_false_iff_ne.mpr h
    simp only[List.lookup,hb,if_neg (λe:g=f=>h (e.trans hk.symm))]
  ·rw [if_neg hk]
   by_cases h:g=k
   ·have hb:(g==k)=true:=beq_iff_eq.mpr h
    simp only[List.lookup,hb,if_neg (λe:g=f=>hk (h.symm.trans e))]
   ·have hb:(g==k)=false:=beq_eq_false_iff_ne.mpr h
    simp only[List.lookup,hb];exact ih
theorem u3Y (f:Str) (v:V):∀fs:List (Str×V),f∈(putF f v fs).map (·.1)/\∀g,g∈fs.map (·.1)->g∈(putF f v fs).map (·.1)
 | []=>⟨by simp[putF],λg h=>by simp at h⟩
 | (k,x)::r=>by
  obtain⟨i1,i2⟩:=u3Y f v r;rw[show putF f v ((k,x)::r)=(if k=f then (k,v)::r else (k,x)::putF f v r) from rfl]
  by_cases hk:k=f
  ·rw [if_pos hk]
   subst hk;exact⟨by simp,λg h=>by simpa using h⟩
  ·rw [if_neg hk]
   refine⟨?_,λg h=>?_⟩
   ·rw [u9]
    exact y1 _ i1
   ·rw [u9] at h |-
    rcases y7.mp h with e|e
    ·exact y7.mpr (.inl e)
    ·exact y1 _ (i2 g e)
theorem u3X (f:Str) (v:V):∀fs:List (Str×V),(putF f v fs).length<=fs.length+1
 | []=>by simp[putF]
 | (k,x)::r=>by
  have ih:=u3X f v r;rw[show putF f v ((k,x)::r)=(if k=f then (k,v)::r else (k,x)::putF f v r) from rfl]
  by_cases hk:k=f
  ·rw[if_pos hk,s9,s9];omega
  ·rw[if_neg hk,s9,s9];omega
def RelO.some_of {v:V}{o:Option Value} (r:RelO (some v) o):∃u,o=some u/\RelV v u:=by
 cases o with
 | none=>exact(show False from r).elim
 | some u=>exact⟨u,rfl,r⟩
def RelO.none_of {o:Option Value} (r:RelO none o):o=none:=by
 cases o with
 | none=>rfl
 | some u=>exact(show False from r).elim
def u6m {v:V}{u:Value} (r:RelV v u):W.handedIn u=true:=by
 cases v with
 | non=>cases (show u=Value.none from r);rfl
 | bl b=>cases (show u=Value.bool b from r);rfl
 | int i=>obtain⟨t,e⟩:=(show ∃t,u=Value.int i t from r);cases e;rfl
 | str x=>obtain⟨t,e⟩:=(show ∃t,u=Value.str x t from r);cases e;rfl
 | byt b=>obtain⟨t,e⟩:=(show ∃t,u=Value.bytes b t from r);cases e;rfl
 | flt b=>obtain⟨t,e⟩:=(show ∃t,u=Value.float b t from r);cases e;rfl
 | ref a=>cases (show u=Value.ref a from r);rfl
 | ty n=>cases (show u=Value.type n from r);rfl
section
variable {P:Program}{w:World}{H H':Hp}{h h':Heap}{a C dx:Addr}{fs fs':List (Str×V)}
def u5m (hok:HOk P w H h) (e:H a=some (.ins C dx fs)):∃mA,ObjM h a dx C mA/\(∀f,RelO (fs.lookup f) (mA f))/\PySem.Within mA (fs.map (·.1))/\fs.length<=1000/\H dx=some (.own a):=by
 obtain⟨d,z,ne,ob,mA,n,r,q⟩:=(show ObjOk P w H h a (.ins C dx fs) from hok a _ e)
 exact⟨mA,⟨ob,n,ne⟩,r,q,z,d⟩
end
structure Cls (K:W.Frag) (C:Addr):Prop where
 pg:W.plainGet K C Str.empty=true
 hd:W.hasDictIn K C=true
 po:W.plainOver K C=true
 sa:W.findIn K (.ref C) "__setattr__"=some (some (.builtin "object.__setattr__"))
def Cls.get {K:W.Frag}{C:Addr} (c:Cls K C) (f:Str):W.plainGet K C f=true:=c.pg
def NoAttr (K:W.Frag) (C:Addr) (f:Str):Prop:=W.findIn K (.ref C) f=some none
def NoAttr.taker {K:W.Frag}{C:Addr}{f:Str} (n:NoAttr K C f):W.takerIn K C f=some none:=by
 unfold W.takerIn;rw[show W.findIn K (.ref C) f=some none from n]
 rfl
structure Meth (K:W.Frag) (C:Addr) (m:Str) (f:Addr):Prop where
 at_:W.findIn K (.ref C) m=some (some (.ref f))
 fn:W.isFn K (.ref f)=true
 kp:W.keepIn K (.ref f)=true
section
variable {X:Cx}{pins:LO}{σ:St}{H:Hp}{s:Shared}{a C dx:Addr}{fs:List (Str×V)}{f:Str}{v:V}{A:Around}{E:VP}
def u9r {b:Bool}{Q:VP} (I:Inv X pins σ H s) (e:H a=some (.ins C dx fs)) (c:Cls X.K C) (n:NoAttr X.K C f) (l:fs.lookup f=some v)
  (h:∀u s',Inv X pins σ H s'->RelV v u->Q u s'):wpAny (model X.prog X.w) A (getAttr (.ref a) f b) Q E s:=by
 obtain⟨mA,O,r,_,_,_⟩:=u5m I.hok e;obtain⟨u,hu,ru⟩:=RelO.some_of (v:=v) (o:=mA f) (by rw[<- l];exact r f)
 exact get_map I.kIn O (c.get f) c.hd n hu (u6m ru) (h u _ (I.tok _) ru)
def u2S {m:Str}{g:Addr}{pl:Sem Bool}{Q:Value×List Value->Shared->Prop} (I:Inv X pins σ H s) (e:H a=some (.ins C dx fs)) (c:Cls X.K C) (k:Meth X.K C m g) (l:fs.lookup m=none)
  (h:Q (.ref g,[.ref a]) s):wpAny (model X.prog X.w) A (getMethod (.ref a) m pl) Q E s:=by
 obtain⟨mA,O,r,_,_,_⟩:=u5m I.hok e;have hn:mA m=none:=RelO.none_of (by rw[<- l];exact r m)
 exact v3d I.kIn O (c.get m) k.at_ k.fn hn h
def u8H {y:V}{u:Value}{Q:Unit->Shared->Prop} (I:Inv X pins σ H s) (e:H a=some (.ins C dx fs)) (c:Cls X.K C) (n:NoAttr X.K C f) (hl:fs.length<1000) (ry:RelV y u)
  (h:∀s',Inv X pins σ (upd H a (.ins C dx (putF f y fs))) s'->Q () s'):wpAny (model X.prog X.w) A (setAttr (.ref a) f u) Q E s:=by
 obtain⟨mA,O,r,wi,_,ho⟩:=u5m I.hok e;have hz:(fs.map (·.1)).length<=sizeLine:=by rw[v8,sizeLine_eq];omega
 refine set_map I.kIn O c.sa c.po n.taker c.hd wi hz λh' O' sb=>h _ ?_
 have hd:∃o,h'.get? dx=some o:=let ⟨o,_,_,e',_⟩:=O'.ns;⟨o,e'⟩
 refine I.write (x:=a) (e:=dx) (by rw[e];exact True.intro) (.inr ho) (λb q hb z=>(sb.2 b hb).trans z) hd ?_
 refine⟨by rw[u0f O.ne];exact ho,?_,O.ne,O'.obj,_,O'.ns,λg=>?_,λg hg=>?_⟩
 ·have:=u3X f y fs;omega
 ·show RelO ((putF f y fs).lookup g) (if g=f then some u else mA g)
  rw[u3U];by_cases q:g=f
  ·rw[if_pos q,if_pos q];exact ry
  ·rw[if_neg q,if_neg q];exact r g
 ·by_cases q:g=f
  ·rw[q];exact(u3Y f y fs).1
  ·refine (u3Y f y fs).2 g (wi g fun z=>hg ?_)
   show(if g=f then some u else mA g)=none
   rw[if_neg q];exact z
def Inv.made (I:Inv X pins σ H s):Inv X pins σ (upd (upd H s.heap.objs.size (.own (s.heap.objs.size+1))) (s.heap.objs.size+1) (.ins C s.heap.objs.size []))
  { s with heap:=(s.heap.push W.emptyDict).push (W.instObj C s.heap.objs.size) }:=by
 have e1:(s.heap.push W.emptyDict).get? s.heap.objs.size=some W.emptyDict:=z6 s.heap rfl;have e2:((s.heap.push W.emptyDict).push (W.instObj C s.heap.objs.size)).get? (s.heap.objs.size+1)=some (W.instObj C s.heap.objs.size):=by
  have:=z6 (s.heap.push W.emptyDict) (o:=W.instObj C s.heap.objs.size) rfl
  rwa [Heap.size_push] at this
 have e3:(s.heap.push W.emptyDict).Ns s.heap.objs.size (λ_=>none):=⟨W.emptyDict,#[],_,e1,rfl,(λe he=>absurd he (by simp)),λ_=>rfl⟩
 have I1:=I.laid (a:=s.heap.objs.size) (o:=.own (s.heap.objs.size+1)) (h':=s.heap.push W.emptyDict) (t':=s.toks) (λb u q=>z5 _ q) (y0 _) ⟨_,e1⟩
 refine I1.laid (a:=s.heap.objs.size+1) (o:=.ins C s.heap.objs.size []) (t':=s.toks) (λb u q=>z5 _ q) (Nat.le_of_eq (Heap.size_push _ _)) ?_
 have ne:s.heap.objs.size≠s.heap.objs.size+1:=v5 (Nat.lt_succ_self _);refine⟨by rw[u0f ne,u0d],z1A _,ne,e2,λ_=>none,(Heap.Ns1.of_empty e3).at λo q=>z5 _ q,λ_=>True.intro,λy hy=>absurd rfl hy⟩
def v1D {prog:Program}{w:World}{env:Env}{e:Expr}{f:Str}{pos:Pos}{s:Shared}{Q:VP} (hb:attributeBase e f env (eval e env)=eval e env)
  (h:wpAny (model prog w) A (eval e env) (λo s₁=>wpAny (model prog w) A (getAttr o f true) Q E s₁) E s):wpAny (model prog w) A (eval (.Attribute e f pos) env) Q E s :=
 Attribute_any_ h (by rw[arm_eval_Attribute,hb])
end
def tFld (K:W.Frag) (ta:TE) (f:Str):TE:=λσ H Q=>ta σ H λx H1=>∃a C dx fs v,x=.ref a/\H1 a=some (.ins C dx fs)/\Cls K C/\NoAttr K C f/\fs.lookup f=some v/\Q v H1
def sFld (K:W.Frag) (ta tv:TE) (f:Str):TS:=λD σ H=>tv σ H λy H1=>ta σ H1 λx H2=>∃a C dx fs,x=.ref a/\H2 a=some (.ins C dx fs)/\Cls K C/\NoAttr K C f/\fs.length<1000 /\
 D.nx σ (upd H2 a (.ins C dx (putF f y fs)))
section
variable {X:Cx}{o e value:Expr}{f:Str}{pos pos' tpos:Pos}{ta tv:TE}
def u4G (he:PE X e ta) (hb:attributeBase e f X.env (eval e X.env)=eval e X.env):PE X (.Attribute e f pos) (tFld X.K ta f):=by
 intro pins s σ H Q I h;refine v1D hb (thn (he pins s σ H _ I h) λu s1 z939=>?_)
 obtain⟨x,H1,I1,rx,a,C,dx,fs,v,ex,ea,c,n,l,q⟩:=z939;subst ex;obtain rfl:u=Value.ref a:=rx;exact u9r I1 ea c n l λu' s2 I2 ru=>⟨v,H1,I2,ru,q⟩
def u4F (ha:PE X o ta) (hv:PE X value tv) (hs:swapsWith value (some (.Attribute o f pos')) pos.line X.env=pure false):PS X (.Assign [.Attribute o f pos'] value pos) (sFld X.K ta tv f):=by
 intro pins s σ H D I h;refine plainObj_wpAny_Assign_Attribute (thn (hv pins s σ H _ I h) λu s1 ⟨y,H1,I1,ry,q⟩=>thn (ha pins s1 σ H1 _ I1 q) λov s2 z941=>?_) hs
 obtain⟨x,H2,I2,rx,a,C,dx,fs,ex,ea,c,n,l,q2⟩:=z941;subst ex;obtain rfl:ov=Value.ref a:=rx;exact u8H I2 ea c n l ry λs3 I3=>⟨σ,_,I3,q2⟩
def methcall_of {pl:Sem Bool}{m:Str}{apos:Pos}{args:List Expr}{pins:LO}{s:Shared}{σ:St}{H:Hp}{Q:VP}{te:TE} (he:PE X e te) (I:Inv X pins σ H s)
  (h:te σ H fun x H1=>∃ a C dx fs g,x=.ref a/\H1 a=some (.ins C dx fs)/\Cls X.K C/\Meth X.K C m g/\fs.lookup m=none /\
   ∀s1,Inv X pins σ H1 s1->wpAny (model X.prog X.w) X.A (callWith pos (.ref g) [.ref a] (backTo pos (starEach args X.env)) (backToKw pos (keywordEach [] X.env))) Q X.xe s1)
  (ht:eval (.Call (.Attribute e m apos) args [] pos) X.env=(do
   let ov <- eval e X.env
   standAt apos.atName
   let (f,first) <- holding [ov] (getMethod ov m pl)
   callWith pos f first (backTo pos (starEach args X.env)) (backToKw pos (keywordEach [] X.env)))) :
  wpAny (model X.prog X.w) X.A (eval (.Call (.Attribute e m apos) args [] pos) X.env) Q X.xe s:=by
 refine W.methodCall_KW (pl:=pl) (thn (he pins s σ H _ I h) λu s1 z942=>?_) ht
 obtain⟨x,H1,I1,rx,a,C,dx,fs,g,ex,ea,c,k,l,q⟩:=z942;subst ex;obtain rfl:u=Value.ref a:=rx;exact u2S I1 ea c k l (q s1 I1)
end
section
variable {X:Cx}{pins:LO}{σ:St}{H:Hp}{s:Shared}{A:Around}{E:VP}{Q:VP}{c:Value}{b:Bool}
inductive TyOf (K:W.Frag) (H:Hp):V->Value->Prop where
 | non:TyOf K H .non (.type "NoneType")
 | bl (x:Bool):TyOf K H (.bl x) (.type "bool")
 | int (i:Int):TyOf K H (.int i) (.type "int")
 | str (x:Str):TyOf K H (.str x) (.type "str")
 | flt (x:UInt64):TyOf K H (.flt x) (.type "float")
 | lst {a:Addr}{xs:List V} (e:H a=some (.lst xs)):TyOf K H (.ref a) (.type "list")
 | frz {a:Addr}{o:Obj}{xs:List V} (e:H a=some (.frz o (.lst xs))):TyOf K H (.ref a) (.type "list")
 | tup {a:Addr}{xs:List V} (e:H a=some (.tup xs)):TyOf K H (.ref a) (.type "tuple")
 | dK {a:Addr}{kvs:List (Key×V)} (e:H a=some (.dK kvs)):TyOf K H (.ref a) (.type "dict")
 | dT {a:Addr}{kvs:List (List Key×V)} (e:H a=some (.dT kvs)):TyOf K H (.ref a) (.type "dict")
 | ins {a C dx:Addr}{fs:List (Str×V)} (e:H a=some (.ins C dx fs)) (cl:Cls K C) (ha:W.findIn K (.ref C) "__class__"=some (some (.builtin "object.__class__")))
   (hn:W.specialIn K (.builtin "object.__class__") "__get__"=some (some (.builtin "getset_descriptor.__get__"))) (htk:W.takesIn K (.builtin "object.__class__")=some true)
   (hm:W.mroIn K C (.type "object")=some true):TyOf K H (.ref a) (.ref C)
def u0T {x:V}{u t:Value} (I:Inv X pins σ H s) (rx:RelV x u) (ty:TyOf X.K H x t) (e:W.kitOne X.K t c=some b) (h:∀tk,Q (.bool b) { s with toks:=tk }) :
  wpAny (model X.prog X.w) A (call (.builtin "isinstance") [u,c]) Q E s:=by
 cases ty with
 | non=>cases (show u=Value.none from rx);exact W.kia_one W.kitx_none I.kIn True.intro e (λz=>nomatch z) h
 | bl y=>cases (show u=Value.bool y from rx);exact W.kia_one W.kitx_bool I.kIn True.intro e (λz=>nomatch z) h
 | int i=>obtain⟨t,q⟩:=(show ∃t,u=Value.int i t from rx);cases q;exact W.kia_one W.kitx_int I.kIn True.intro e (λz=>nomatch z) h
 | str y=>obtain⟨t,q⟩:=(show ∃t,u=Value.str y t from rx);cases q;exact W.kia_one W.kitx_str I.kIn True.intro e (λz=>nomatch z) h
 | flt y=>obtain⟨t,q⟩:=(show ∃t,u=Value.float y t from rx);cases q;exact W.kia_one W.kitx_float I.kIn True.intro e (λz=>nomatch z) h
 | @lst a xs ea =>
  cases (show u=Value.ref a from rx)
  obtain⟨_,_,n,_,h1⟩:=(show ObjOk X.prog X.w H s.heap a (.lst xs) from I.hok a _ ea)
  exact W.kia_one W.kitx_list I.kIn ⟨_,h1,rfl⟩ e (λz=>nomatch z) h
 | @frz a ob xs ea =>
  cases (show u=Value.ref a from rx)
  obtain⟨_,_,_,n,_,h1⟩:=(show ObjOk X.prog X.w H s.heap a (.frz ob (.lst xs)) from I.hok a _ ea)
  exact W.kia_one W.kitx_list I.kIn ⟨_,h1,rfl⟩ e (λz=>nomatch z) h
 | @tup a xs ea =>
  cases (show u=Value.ref a from rx)
  obtain⟨_,_,_,p⟩:=(show ObjOk X.prog X.w H s.heap a (.tup xs) from I.hok a _ ea)
  obtain⟨o,h1,h2,_⟩:=p;exact W.kia_one W.kitx_tuple I.kIn ⟨o,h1,h2⟩ e (λz=>nomatch z) h
 | @dK a kvs ea =>
  cases (show u=Value.ref a from rx)
  obtain⟨_,_,vs,_,p⟩:=(show ObjOk X.prog X.w H s.heap a (.dK kvs) from I.hok a _ ea)
  obtain⟨o,es,ep,h1,h2,_⟩:=p;exact W.kia_one W.kitx_dict I.kIn ⟨o,h1,h2.1⟩ e (λz=>nomatch z) h
 | @dT a kvs ea =>
  cases (show u=Value.ref a from rx)
  obtain⟨_,_,xs,_,o,es,ep,h1,h2,_⟩:=(show ObjOk X.prog X.w H s.heap a (.dT kvs) from I.hok a _ ea)
  exact W.kia_one W.kitx_dict I.kIn ⟨o,h1,h2.1⟩ e (λz=>nomatch z) h
 | @ins a C dx fs ea cl ha hn htk hm =>
  cases (show u=Value.ref a from rx)
  obtain⟨mA,O,_⟩:=u5m I.hok ea;obtain⟨od,J,_⟩:=O.look;exact W.kia_one (W.kitx_own (cl.get _) cl.hd ha hn htk hm) I.kIn J e (λz=>nomatch z) h
end
structure Room (k:Nat) (A:Around):Prop where
 hd:A.handled=none
 dp:A.depth+3*k+5<recursionLimit
 un:A.units+16*k+200<cLine
def Room.mono {j k:Nat}{A:Around} (r:Room k A) (h:j<=k):Room j A:=⟨r.hd,by have:=r.dp;omega,by have:=r.un;omega⟩
theorem Room.deeper {k:Nat}{A:Around} (r:Room (k+1) A) (env:Env):Room k (A.deeper env) :=
 ⟨r.hd,by have:=r.dp;show A.depth+1+3*k+5<_;omega,by have:=r.un;show A.units+3+16*k+200<_;omega⟩
def u9m {A:Around}{C:Addr}{us:List Value}{kw:List (Str×Value)}:(A.under (.builtin "type.__call__" ⟨.ref C::us,kw⟩)).depth=A.depth+1:=by
 first|rfl|simp[Around.under,Code.weight,Code.isCreation,Code.isGuard,Code.isCaller,Code.frames,Code.isFrame,guardIds]
def u9l {A:Around}{C:Addr}{us:List Value}{kw:List (Str×Value)}:(A.under (.builtin "type.__call__" ⟨.ref C::us,kw⟩)).units=A.units+1:=by
 first|rfl|simp[Around.under,Code.cUnits,Code.frames,Code.isFrame]
def Room.make {k:Nat}{A:Around} (r:Room (k+1) A) (C:Addr) (us:List Value) (kw:List (Str×Value)):Room k (A.under (.builtin "type.__call__" ⟨.ref C::us,kw⟩)) :=
 ⟨r.hd,by have:=r.dp;rw[u9m];omega,by have:=r.un;rw[u9l];omega⟩
theorem Room.depth {k:Nat}{A:Around} (r:Room k A):A.depth<recursionLimit:=by have:=r.dp;omega
def tNil:TA:=λ_ H Q=>Q [] H
def tCons (ta:TE) (tr:TA):TA:=λσ H Q=>ta σ H λx H1=>tr σ H1 λxs H2=>Q (x::xs) H2
section
variable {X:Cx}{e:Expr}{es:List Expr}{te:TE}{t:TA}{pos:Pos}
def u1o:PA X [] tNil:=λ_ _ _ _ H Q I h=>Calls.spliced_nil ⟨[],H,I,.nil,h⟩
def pa_cons (ha:PE X e te) (hr:PA X es t) (hs:starEach (e::es) X.env=(false,eval e X.env)::starEach es X.env:=by rfl):PA X (e::es) (tCons te t):=by
 intro pos pins s σ H Q I h;rw[hs];show wpAny _ _ (spliced ((false,eval e X.env)::backTo pos (starEach es X.env))) _ _ s;refine Calls.spliced_cons (thn (ha pins s σ H _ I h) λu s1 z943=>?_)
 obtain⟨x,H1,I1,r1,q1⟩:=z943;exact thn (hr pos pins s1 σ H1 _ I1 q1) λus s2 ⟨xs,H2,I2,r2,q2⟩=>⟨x::xs,H2,I2,.cons r1 r2,q2⟩
def tTup (t:TA):TE:=λσ H Q=>t σ H λxs H1=>xs.length<=sizeLine/\∀p,H1 p=none->Q (.ref p) (upd H1 p (.tup xs))
def tLst (t:TA):TE:=λσ H Q=>t σ H λxs H1=>xs.length<=sizeLine/\∀p,H1 p=none->Q (.ref p) (upd H1 p (.lst xs))
def pe_tup {x1} (h:PA X es t):PE X (.Tuple es x1 pos) (tTup t):=by
 intro pins s σ H Q I hq;refine wpAny_Tuple_spliced (thn (h pos pins s σ H _ I hq) λus s1 ⟨xs,H1,I1,r,z,q⟩=>⟨by rw[<- r.length];exact z,?_⟩)
 have hf:H1 s1.heap.objs.size=none:=I1.hok.fresh (y0 _);refine⟨.ref s1.heap.objs.size,upd H1 s1.heap.objs.size (.tup xs),I1.laid (t':=s1.toks) (λb u e=>z5 _ e) (y0 _) ?_,rfl,q _ hf⟩
 exact⟨z,us,r,⟨_,z6 _ rfl,rfl,_,rfl⟩⟩
def u7O (h:PA X es t):PE X (.List es pos) (tLst t):=by
 intro pins s σ H Q I hq;refine wpAny_List_spliced (thn (h pos pins s σ H _ I hq) λus s1 ⟨xs,H1,I1,r,z,q⟩=>⟨by rw[<- r.length];exact z,?_⟩)
 have hf:H1 s1.heap.objs.size=none:=I1.hok.fresh (y0 _);refine⟨.ref s1.heap.objs.size,upd H1 s1.heap.objs.size (.lst xs),I1.laid (t':=s1.toks) (λb u e=>z5 _ e) (y0 _) ?_,rfl,q _ hf⟩
 exact⟨z,us,0,r,z6 _ rfl⟩
end
abbrev Sp:=List V->Hp->VK->XK->Prop
abbrev CXT:=List Env->Hp->Shared->XK->Value->Shared->Prop
structure Env0 (P:Program) (w:World) (K:W.Frag) (mg:MG) (base:Heap) (A:Around) (outer:List Env) (s:Shared) (H:Hp):Prop where
 frames:A.frames=some outer
 mod:Mod K mg base
 bs:∀b o,base.get? b=some o->s.heap.get? b=some o/\H b=none
 bsz:base.objs.size<=s.heap.objs.size
 funs:s.heap.FunFrames base outer
 frf:∀b∈frs outer,H b=none
 hok:HOk P w H s.heap
 bare:AllBare s.gens
def CE (outer:List Env) (P:Program) (w:World) (H:Hp) (s:Shared) (Q:VK) (u:Value) (s':Shared):Prop :=
 ∃v H',s'.os=s.os/\AllBare s'.gens/\Un (frs outer) [] H H' s.heap s'.heap/\HOk P w H' s'.heap/\RelV v u/\Q v H'
def CR (CX:CXT) (outer:List Env) (P:Program) (w:World) (H:Hp) (s:Shared) (Q:VK) (E:XK) (r:Result) (s':Shared):Prop :=
 match r with
 | .ok (.ret u)=>CE outer P w H s Q u s'
 | .ok _=>False
 | .error e=>CX outer H s E e s'
structure FnOk (P:Program) (w:World) (K:W.Frag) (mg:MG) (base:Heap) (CX:CXT) (k:Nat) (f:Addr) (fd:FuncData) (ps:List Str) (sp:Sp):Prop where
 len:∀vs H Q E,sp vs H Q E->vs.length=ps.length
 run:∀(A:Around) (outer:List Env) (s:Shared) (H:Hp) (args:Args) (us:List Value) (vs:List V) (Q:VK) (E:XK),Room k A->Env0 P w K mg base A outer s H->BindsTo s fd args (ps.zip us)->Vals vs us->sp vs H Q E ->
  codeAny (model P w) A (.call (.ref f) args) (CR CX outer P w H s Q E) s
def FnOk.imp {P:Program}{w:World}{K:W.Frag}{mg:MG}{base:Heap}{CX:CXT}{k:Nat}{f:Addr}{fd:FuncData}{ps:List Str}{sp sp':Sp} (F:FnOk P w K mg base CX k f fd ps sp)
  (h:∀vs H Q E,sp' vs H Q E->sp vs H Q E):FnOk P w K mg base CX k f fd ps sp' :=
 ⟨λvs H Q E q=>F.len vs H Q E (h _ _ _ _ q),λA outer s H args us vs Q E hr he hb hv hs=>F.run A outer s H args us vs Q E hr he hb hv (h _ _ _ _ hs)⟩
def Env0.make {P:Program}{w:World}{K:W.Frag}{mg:MG}{base:Heap}{A:Around}{outer:List Env}{s:Shared}{H:Hp} (e:Env0 P w K mg base A outer s H) (C:Addr) (us:List Value) (kw:List (Str×Value)) :
  Env0 P w K mg base (A.under (.builtin "type.__call__" ⟨.ref C::us,kw⟩)) outer s H:=⟨by first|exact e.frames|(simpa[Around.under,Code.envs,Code.isFrame,pushEnvs] using e.frames),e.mod,e.bs,e.bsz,e.funs,e.frf,e.hok,e.bare⟩
section
variable {X:Cx}{pins:LO}{σ:St}{H:Hp}{s s':Shared}
def Inv.env0 (I:Inv X pins σ H s):Env0 X.prog X.w X.K X.mg X.base X.A X.stack s H :=
 ⟨I.ok.frames,I.ok.mod,I.bs,v7 I.ok.bsz I.sz,I.stack,I.stkFree,I.hok,I.bare⟩
def Inv.after {Q:VK}{u:Value} (I:Inv X pins σ H s) (h:CE X.stack X.prog X.w H s Q u s'):EP X pins σ Q u s':=by
 obtain⟨v,H',os,bare,un,hok,r,q⟩:=h;obtain⟨hh,g,d,t,os'⟩:=s';obtain rfl:os'=s.os:=os;exact⟨v,H',I.call (h':=hh) (g':=g) (d':=d) (t':=t) (ch:=[]) un hok bare (λb z=>absurd z (by simp)),r,q⟩
end
def tCall (sp:Sp) (dvs:List V) (E:XK) (t:TA):TE:=λσ H Q=>t σ H λvs H1=>sp (vs++dvs) H1 Q E
def tMeth (C:Addr) (m:Str) (sp:Sp) (dvs:List V) (E:XK) (ta:TE) (t:TA):TE:=λσ H Q=>ta σ H λx H1=>∃a dx fs,x=.ref a/\H1 a=some (.ins C dx fs)/\fs.lookup m=none /\
 t σ H1 λvs H2=>sp (x::(vs++dvs)) H2 Q E
def tMake (C:Addr) (sp:Sp) (dvs:List V) (E:XK) (t:TA):TE:=λσ H Q=>t σ H λvs H1=>∀x dx,H1 x=none->H1 dx=none->dx≠x ->
 sp (.ref x::(vs++dvs)) (upd (upd H1 dx (.own x)) x (.ins C dx [])) (λv H2=>v=.non/\Q (.ref x) H2) E
def Binds (K:W.Frag) (fd:FuncData) (ps:List Str) (ds:List Value):Prop :=
 ∀(s:Shared) (us:List Value),K.In s.heap->(us++ds).length=ps.length->BindsTo s fd ⟨us,[]⟩ (ps.zip (us++ds))
def Binds.all {K:W.Frag}{fd:FuncData}{ps:List Str} (h:∀us:List Value,us.length=ps.length->bindArgs fd ⟨us,[]⟩=pure (ps.zip us)):Binds K fd ps []:=λs us _ hl=>by
 rw[List.append_nil] at hl |-
 exact .of_eq (h us hl)
def Passes (CX:CXT) (X:Cx) (E:XK):Prop:=∀(pins:LO) (σ:St) (H:Hp) (s:Shared) (e:Value) (s':Shared),Inv X pins σ H s->CX X.stack H s E e s'->X.xe e s'
section
variable {X:Cx}{CX:CXT}{k:Nat}{f C:Addr}{fd:FuncData}{ps:List Str}{sp:Sp}{dvs:List V}{ds:List Value}{E:XK}{x m:Str}{p pos apos:Pos}{e o:Expr}{es:List Expr}{ta:TE}{t:TA}
def u9X {pins:LO}{σ:St}{H:Hp}{s:Shared}{Q:VK}{us:List Value}{vs:List V} (F:FnOk X.prog X.w X.K X.mg X.base CX k f fd ps sp) (hr:Room k X.A) (hb:Binds X.K fd ps ds) (hd:Vals dvs ds) (hx:Passes CX X E)
  (I:Inv X pins σ H s) (r:Vals vs us) (h:sp (vs++dvs) H Q E):wpAny (model X.prog X.w) X.A (call (.ref f) us) (EP X pins σ Q) X.xe s:=by
 have r2:Vals (vs++dvs) (us++ds):=r.append hd;have hl:(us++ds).length=ps.length:=by rw[<- r2.length];exact F.len _ _ _ _ h
 refine wpAny_call (codeAny_mono (F.run X.A X.stack s H ⟨us,[]⟩ (us++ds) (vs++dvs) Q E hr I.env0 (hb s us I.kIn hl) r2 h) λr s' hq=>?_)
 cases r with
 | error e=>exact hx pins σ H s e s' I hq
 | ok fl =>
  cases fl with
  | ret u=>exact I.after hq
  | next=>exact False.elim hq
  | brk=>exact False.elim hq
  | cont=>exact False.elim hq
def pe_call (F:FnOk X.prog X.w X.K X.mg X.base CX k f fd ps sp) (hr:Room k X.A) (hg:Gl X x) (hm:X.mg x=some (.ref f)) (hk:W.keepIn X.K (.ref f)=true) (hb:Binds X.K fd ps ds) (hd:Vals dvs ds) (hx:Passes CX X E)
  (ha:PA X (e::es) t) (hdb:(x==("__debug__":Str))=false:=by decide) (he:starEach (e::es) X.env=(false,eval e X.env)::starEach es X.env:=by rfl) (hpl:(backTo pos (starEach es X.env)).any (·.1)=false:=by rfl) :
  PE X (.Call (.Name x p) (e::es) [] pos) (tCall sp dvs E t):=by
 intro pins s σ H Q I h;refine wpAny_Call_Name_kw (u2P I hg hm ?_ hdb);refine W.callWith_K (h₀:=X.base) I.ok.mod.kin hk (thn (ha pos pins s σ H _ I h) λus s1 ⟨vs,H1,I1,r,q⟩=>⟨I1.kIn,?_⟩) he hpl
 exact u9X F hr hb hd hx I1 r q
def u5g {pl:Sem Bool} (he:PE X o ta) (c:Cls X.K C) (hm:Meth X.K C m f) (F:FnOk X.prog X.w X.K X.mg X.base CX k f fd ps sp) (hr:Room k X.A) (hb:Binds X.K fd ps ds) (hd:Vals dvs ds) (hx:Passes CX X E) (ha:PA X (e::es) t)
  (hst:starEach (e::es) X.env=(false,eval e X.env)::starEach es X.env:=by rfl) (hpl:(backTo pos (starEach es X.env)).any (·.1)=false:=by rfl)
  (ht:eval (.Call (.Attribute o m apos) (e::es) [] pos) X.env=(do
   let ov <- eval o X.env
   standAt apos.atName
   let (f,first) <- holding [ov] (getMethod ov m pl)
   callWith pos f first (backTo pos (starEach (e::es) X.env)) (backToKw pos (keywordEach [] X.env))):=by rfl) :
  PE X (.Call (.Attribute o m apos) (e::es) [] pos) (tMeth C m sp dvs E ta t):=by
 intro pins s σ H Q I h;refine W.methodCall_KW (pl:=pl) (thn (he pins s σ H _ I h) λu s1 z948=>?_) ht
 obtain⟨x,H1,I1,rx,a,dx,fs,ex,ea,l,q⟩:=z948;subst ex;obtain rfl:u=Value.ref a:=rx;refine u2S I1 ea c hm l ?_;refine W.callWith_K (first:=[.ref a]) (h₀:=X.base) I.ok.mod.kin hm.kp (thn (ha pos pins s1 σ H1 _ I1 q) λus s2 ⟨vs,H2,I2,r,q2⟩=>⟨I2.kIn,?_⟩) hst hpl
 exact u9X (us:=.ref a::us) (vs:=.ref a::vs) F hr hb hd hx I2 (.cons rfl r) q2
def u7N {pl:Sem Bool} (he:PE X o ta) (c:Cls X.K C) (hm:Meth X.K C m f) (F:FnOk X.prog X.w X.K X.mg X.base CX k f fd ps sp) (hr:Room k X.A) (hb:Binds X.K fd ps ds) (hd:Vals dvs ds) (hx:Passes CX X E)
  (ht:eval (.Call (.Attribute o m apos) [] [] pos) X.env=(do
   let ov <- eval o X.env
   standAt apos.atName
   let (f,first) <- holding [ov] (getMethod ov m pl)
   callWith pos f first (backTo pos (starEach [] X.env)) (backToKw pos (keywordEach [] X.env))):=by rfl) :
  PE X (.Call (.Attribute o m apos) [] [] pos) (tMeth C m sp dvs E ta tNil):=by
 intro pins s σ H Q I h;refine W.methodCall_KW (pl:=pl) (thn (he pins s σ H _ I h) λu s1 z950=>?_) ht
 obtain⟨x,H1,I1,rx,a,dx,fs,ex,ea,l,q⟩:=z950;subst ex;obtain rfl:u=Value.ref a:=rx;refine u2S I1 ea c hm l ?_;exact W.callWith_K0 (first:=[.ref a]) I1.kIn hm.kp (u9X (us:=[.ref a]) (vs:=[.ref a]) F hr hb hd hx I1 (.cons rfl .nil) q)
structure Mk (K:W.Frag) (C f:Addr):Prop where
 makes:W.makesIn K C=true
 init:W.findIn K (.ref C) "__init__"=some (some (.ref f))
 fn:W.isFn K (.ref f)=true
 kp:W.keepIn K (.ref C)=true
def v2i {pins:LO}{σ:St}{H:Hp}{s:Shared}{Q:VK}{us:List Value}{vs:List V} (M:Mk X.K C f) (F:FnOk X.prog X.w X.K X.mg X.base CX k f fd ps sp) (hr:Room (k+1) X.A) (hb:Binds X.K fd ps ds) (hd:Vals dvs ds)
  (hx:Passes CX X E) (I:Inv X pins σ H s) (r:Vals vs us)
  (h:∀x dx,H x=none->H dx=none->dx≠x->sp (.ref x::(vs++dvs)) (upd (upd H dx (.own x)) x (.ins C dx [])) (λv H2=>v=.non/\Q (.ref x) H2) E) :
  wpAny (model X.prog X.w) X.A (call (.ref C) us) (EP X pins σ Q) X.xe s:=by
 have hq:=h (s.heap.objs.size+1) s.heap.objs.size (I.hok.fresh (Nat.le_succ _)) (I.hok.fresh (y0 _)) (v5 (Nat.lt_succ_self _));have I2:=Inv.made (C:=C) I;have r2:Vals (V.ref (s.heap.objs.size+1)::(vs++dvs)) (Value.ref (s.heap.objs.size+1)::(us++ds)):=.cons rfl (r.append hd);have hl:(Value.ref (s.heap.objs.size+1)::us++ds).length=ps.length:=by
  have e:=r2.length;rw[F.len _ _ _ _ hq] at e;exact e.symm
 refine wpAny_call (v2M (f:=f) I.kIn M.makes M.init (beq_iff_eq.mp M.fn) (codeAny_mono (F.run _ X.stack _ _ ⟨Value.ref (s.heap.objs.size+1)::us,[]⟩ (Value.ref (s.heap.objs.size+1)::(us++ds)) _ _ E (hr.make C us [])
  (I2.env0.make C us []) (hb _ (Value.ref (s.heap.objs.size+1)::us) I2.kIn hl) r2 hq) λr s' hq'=>?_))
 cases r with
 | error e=>exact hx pins σ _ _ e s' I2 hq'
 | ok fl =>
  cases fl with
  | ret u =>
   obtain⟨v,H',I3,rv,ev,q3⟩:=I2.after hq';subst ev;exact⟨rv,⟨V.ref (s.heap.objs.size+1),H',I3,rfl,q3⟩⟩
  | next=>exact False.elim hq'
  | brk=>exact False.elim hq'
  | cont=>exact False.elim hq'
def v0m (M:Mk X.K C f) (F:FnOk X.prog X.w X.K X.mg X.base CX k f fd ps sp) (hr:Room (k+1) X.A) (hg:Gl X x) (hm:X.mg x=some (.ref C)) (hb:Binds X.K fd ps ds) (hd:Vals dvs ds) (hx:Passes CX X E)
  (ha:PA X (e::es) t) (hdb:(x==("__debug__":Str))=false:=by decide) (he:starEach (e::es) X.env=(false,eval e X.env)::starEach es X.env:=by rfl) (hpl:(backTo pos (starEach es X.env)).any (·.1)=false:=by rfl) :
  PE X (.Call (.Name x p) (e::es) [] pos) (tMake C sp dvs E t):=by
 intro pins s σ H Q I h;refine wpAny_Call_Name_kw (u2P I hg hm ?_ hdb);refine W.callWith_K (h₀:=X.base) I.ok.mod.kin M.kp (thn (ha pos pins s σ H _ I h) λus s1 ⟨vs,H1,I1,r,q⟩=>⟨I1.kIn,?_⟩) he hpl
 exact v2i M F hr hb hd hx I1 r q
end
structure FnScope (N P:List Str) (sc:Scope):Prop where
 kind:sc.kind=.function
 co:sc.isCoroutine=false
 gen:sc.isGenerator=false
 nd:N.Nodup
 pre:N.take P.length=P
 par:∀x∈P,sc.names.lookup x=some .local\/sc.names.lookup x=some .cell
 nofree:∀y∈sc.names,y.2≠.free
theorem u6y {kindOf:Str->Option NameKind}{x:Str}:∀{binds:List (Str×Value)}{m:MG},(∀v,(x,v)∉binds)->bindL kindOf binds m x=m x
 | [],_,_=>rfl
 | (n,v)::r,m,h=>by
  unfold bindL;rw[u6y λw hw=>h w (y1 _ hw)]
  split
  ·have:x≠n:=by rintro rfl;exact h v z8
   simp[this]
  ·rfl
theorem u6A {kindOf:Str->Option NameKind}{x:Str}:∀{binds:List (Str×Value)}{m:MG},(∀v,(x,v)∉binds)->bindC kindOf binds m x=m x
 | [],_,_=>rfl
 | (n,v)::r,m,h=>by
  unfold bindC;rw[u6A λw hw=>h w (y1 _ hw)]
  split
  ·rfl
  ·have:x≠n:=by rintro rfl;exact h v z8
   simp[this]
theorem u6z {kindOf:Str->Option NameKind}{x:Str}{v:Value}:∀{P:List Str}{vs:List Value}{i:Nat}{m:MG},P.Nodup->P[i]?=some x->vs[i]?=some v->kindOf x=some .local ->
  bindL kindOf (P.zip vs) m x=some v
 | [],_,_,_,_,h,_,_=>by simp at h
 | _::_,[],_,_,_,_,h,_=>by simp at h
 | p::P,w::vs,0,m,nd,h1,h2,hk=>by
  simp at h1 h2;subst h1;subst h2;show bindL kindOf ((p,w)::P.zip vs) m p=_;unfold bindL;rw[u6y λv hv=>(z1J.mp nd).1 (List.of_mem_zip hv).1,if_pos hk]
  simp
 | p::P,w::vs,i+1,m,nd,h1,h2,hk=>by
  show bindL kindOf ((p,w)::P.zip vs) m x=_;unfold bindL;exact u6z (i:=i) (z1J.mp nd).2 (by simpa using h1) (by simpa using h2) hk
theorem u6B {kindOf:Str->Option NameKind}{x:Str}{v:Value}:∀{P:List Str}{vs:List Value}{i:Nat}{m:MG},P.Nodup->P[i]?=some x->vs[i]?=some v->kindOf x≠some .local ->
  bindC kindOf (P.zip vs) m x=some v
 | [],_,_,_,_,h,_,_=>by simp at h
 | _::_,[],_,_,_,_,h,_=>by simp at h
 | p::P,w::vs,0,m,nd,h1,h2,hk=>by
  simp at h1 h2;subst h1;subst h2;show bindC kindOf ((p,w)::P.zip vs) m p=_;unfold bindC;rw[u6A λv hv=>(z1J.mp nd).1 (List.of_mem_zip hv).1,if_neg hk]
  simp
 | p::P,w::vs,i+1,m,nd,h1,h2,hk=>by
  show bindC kindOf ((p,w)::P.zip vs) m x=_;unfold bindC;exact u6B (i:=i) (z1J.mp nd).2 (by simpa using h1) (by simpa using h2) hk
noncomputable def start (N:List Str) (vs:List V):St:=vs.map some++List.replicate (N.length - vs.length) none
noncomputable def cxOf (CX:CXT) (P:Program) (w:World) (K:W.Frag) (mg:MG) (base:Heap) (N:List Str) (qual:Str) (scope:Scope) (f:Addr) (cd:Value) (A:Around) (outer:List Env) (s:Shared) (H:Hp) (E:XK):Cx where
 prog:=P
 w:=w
 K:=K
 mg:=mg
 base:=base
 A:=A.deeper (envOfC qual scope s.heap.objs.size f cd)
 N:=N
 s₀:=s
 H₀:=H
 env:=envOfC qual scope s.heap.objs.size f cd
 outer:=outer
 stack:=envOfC qual scope s.heap.objs.size f cd::outer
 ex:=[]
 calm:=true
 fn:=λ_=>true
 pn:=[]
 xe:=λe s'=>wpAny (model P w) (A.deeper (envOfC qual scope s.heap.objs.size f cd)) (leaving (envOfC qual scope s.heap.objs.size f cd) e) (λ_ s''=>CX outer H s E e s'') (λe' s''=>CX outer H s E e' s'') s'
def u8y {sc:Scope}{n:Nat}{x:Str} (h:sc.names.lookup x=some .cell):∃c,(cellsFrom n sc.names []).lookup x=some c:=by
 have q:=W.cellsFrom_some sc.names n [] (.inl h);exact Option.isSome_iff_exists.mp q
def v0N {CX:CXT}{P:Program}{w:World}{K:W.Frag}{mg:MG}{base:Heap}{N ps:List Str}{qual:Str}{scope:Scope}{f:Addr}{cd:Value}{A:Around}{outer:List Env}{s s1:Shared}{H:Hp}{E:XK}{us:List Value}{vs:List V}
  (S:FnScope N ps scope) (hd:A.handled=none) (e0:Env0 P w K mg base A outer s H) (hl:vs.length=ps.length) (r:Vals vs us)
  (x:InCallC s s.heap.objs.size (bindL (envOfC qual scope s.heap.objs.size f cd).kindOf (ps.zip us) λ_=>none) (cellsFrom (s.heap.objs.size+1) scope.names []) (bindC (envOfC qual scope s.heap.objs.size f cd).kindOf (ps.zip us) λ_=>none) s1) :
  Inv (cxOf CX P w K mg base N qual scope f cd A outer s H E) [] (start N vs) H s1:=by
 have hpl:ps.length<=N.length:=by have:=congrArg List.length S.pre;rw[z3C] at this;omega
 obtain⟨h1,tk,rfl,hk⟩:=x.done;have noA:∀b:Addr,b∉(cxOf CX P w K mg base N qual scope f cd A outer s H E).ex:=λb z=>absurd (show b∈([]:List Addr) from z) (by simp)
 refine⟨⟨e0.mod,S.kind,rfl,rfl,y0 _,λy z c h1 h2=>?_,λy hy=>?_,λy c _ h=>?_,λ_=>hd,Around.frames_deeper e0.frames,.inr ⟨rfl,rfl⟩,λb z=>absurd z (noA b),e0.bs,e0.bsz,λb _ _=>noA b,λb z=>absurd z (noA b),e0.funs,e0.frf⟩,
  rfl,e0.bare,Un.kept hk,⟨_,x.toInCall.ns,λi y v h1 h2 h3=>?_⟩,λy c h=>⟨_,x.cell y c h⟩,e0.hok.fresh (y0 _),λy c h=>?_,λp hp=>absurd (show p∈([]:LO) from hp) (by simp),e0.hok.kept hk,?_⟩
 ·exact name_of_addr x.apart (PySem.mem_of_lookup h1) (PySem.mem_of_lookup h2)
 ·have hy:scope.names.lookup y=some .cell\/scope.names.lookup y=some .free:=hy
  rcases hy with hy|hy
  ·exact u8y hy
  ·exact absurd rfl (S.nofree _ (PySem.mem_of_lookup hy))
 ·exact Nat.le_of_lt (x.above y c (PySem.mem_of_lookup h))
 ·have hi:i<vs.length:=by
   unfold start at h2;by_cases hi:i<vs.length
   ·exact hi
   ·rw [z1D (by simpa using hi)] at h2
    rw[z0I] at h2;split at h2<;>cases h2
  have ha:vs[i]?=some v:=by
   unfold start at h2;rw[z2D (by simpa using hi),w9] at h2
   cases e:vs[i]? with
   | none=>rw[e] at h2;cases h2
   | some a=>rw[e] at h2;cases h2;rfl
  obtain⟨u,hu,rv⟩:=r.get ha;have hp:ps[i]?=some y:=by
   rw[<- S.pre,List.getElem?_take_of_lt (by omega)];exact h1
  have ndP:ps.Nodup:=by rw[<- S.pre];exact S.nd.sublist (List.take_sublist _ _)
  refine⟨u,rv,?_⟩;rcases S.par y (List.mem_of_getElem? hp) with k|k
  ·exact .inl ⟨k,u6z ndP hp hu k⟩
  ·obtain ⟨c,e⟩:=u8y (n:=s.heap.objs.size+1) k
   refine .inr ⟨.inl k,c,e,?_⟩;have q:=x.cell y c e;rw[u6B ndP hp hu (by show scope.names.lookup y≠_;rw[k];decide)] at q
   exact q
 ·exact e0.hok.fresh (Nat.le_of_lt (x.above y c (PySem.mem_of_lookup h)))
 ·unfold start
  show _=N.length;rw[z0F,v8,z1B];omega
def fn_of {CX:CXT}{P:Program}{w:World}{K:W.Frag}{mg:MG}{base:Heap}{k:Nat}{f:Addr}{name qual:Str}{params:Arguments}{body:List Stmt}{scope:Scope}{dV kV doc pm cdv ct oc:Value}{an od:Option Addr}
  {osl:Array (Option Value)}{N ps:List Str}{sp:Sp} (lk:K.lookup f=some ⟨oc,od,.func (W.fnOf name qual params body scope dV kV doc pm an cdv ct),osl⟩) (hcd:W.codeIn K cdv qual=true) (S:FnScope N ps scope)
  (len:∀vs H Q E,sp vs H Q E->vs.length=ps.length)
  (hbody:∀ (A:Around) (outer:List Env) (s:Shared) (H:Hp) (vs:List V) (Q:VK) (E:XK),Room k (A.deeper (envOfC qual scope s.heap.objs.size f cdv))->sp vs H Q E ->
   ∃t,PSs (cxOf CX P w K mg base N qual scope f cdv A outer s H E) body t/\t { nx:=λ_ H'=>Q .non H',rt:=Q } (start N vs) H) :
  FnOk P w K mg base CX (k+1) f (W.fnOf name qual params body scope dV kV doc pm an cdv ct) ps sp:=by
 refine⟨len,λA outer s H args us vs Q E hr e0 hb r hsp=>?_⟩
 have hl:=len _ _ _ _ hsp;have KX:K.In s.heap:=e0.mod.kin.keeps λb o e=>(e0.bs b o e).1
 have lim:s.heap.NoLimit:=e0.mod.nolimit.keeps λb o e=>(e0.bs b o e).1
 have hkind:∀y∈ps.zip us,scope.names.lookup y.1=some .local\/(scope.names.lookup y.1=some .cell/\((cellsFrom (s.heap.objs.size+1) scope.names []).lookup y.1).isSome=true):=λ⟨n,v⟩ hy=>by
  rcases S.par n (List.of_mem_zip hy).1 with q|q
  ·exact .inl q
  ·exact .inr ⟨q,W.cellsFrom_some _ _ _ (.inl q)⟩
 refine codeAny_call_function hr.depth (KX _ _ lk) rfl S.co S.gen rfl (W.codeRec_of KX hcd) (hb _ _ _ _ ?_);refine wpAny_newFunctionEnv_cells S.kind hkind λenv he s1 x=>?_
 subst he;refine⟨lim.keeps x.toInCall.keep,codeAny_func ?_⟩;obtain⟨t,ht,hq⟩:=hbody A outer s H vs Q E (hr.deeper _) hsp;have I:Inv (cxOf CX P w K mg base N qual scope f cdv A outer s H E) [] (start N vs) H s1:=v0N S hr.hd e0 hl r x;refine wpAny_mono (ht [] s1 (start N vs) H _ I hq) (λfl s' hs=>?_) λe s' hs=>hs
 have fin:∀{σ':St}{H':Hp}{v:V}{u:Value},Inv (cxOf CX P w K mg base N qual scope f cdv A outer s H E) [] σ' H' s'->RelV v u->Q v H'->CE outer P w H s Q u s' :=
  λ{σ' H' v u} J rv q=>⟨v,H',J.os,J.bare,J.base,J.hok,rv,q⟩
 cases fl with
 | ret u =>
  obtain⟨v,σ',H',J,rv,q⟩:=hs;exact fin J rv q
 | next =>
  obtain⟨σ',H',J,q⟩:=hs;exact fin (v:=V.non) (u:=Value.none) J rfl q
 | brk =>
  obtain⟨_,_,_,q⟩:=hs;exact False.elim q
 | cont =>
  obtain⟨_,_,_,q⟩:=hs;exact False.elim q
section
variable {X:Cx}{x:Str}{p pos:Pos}{e:Expr}{es:List Expr}{t:TA}{id T:String}{r:List V->Hp->VK->Prop}
def tCB (r:List V->Hp->VK->Prop) (t:TA):TE:=λσ H Q=>t σ H λvs H1=>r vs H1 Q
def v2y (hc:CallR X (.builtin id) r) (hg:Gl X x) (hm:X.mg x=none) (hv:bootBuiltins x=some (.builtin id)) (ha:PA X (e::es) t) (hn:x≠"__name__":=by decide) (hdb:(x==("__debug__":Str))=false:=by decide)
  (he:starEach (e::es) X.env=(false,eval e X.env)::starEach es X.env:=by rfl) (hpl:(backTo pos (starEach es X.env)).any (·.1)=false:=by rfl):PE X (.Call (.Name x p) (e::es) [] pos) (tCB r t):=by
 intro pins s σ H Q I h;refine wpAny_Call_Name_kw (u1M I hg hm hv ?_ hn hdb);exact PyProof.Rows.callWith_builtin1 (thn (ha pos pins s σ H _ I h) λus s1 z953=>by obtain⟨vs,H1,I1,r1,q1⟩:=z953;exact hc pins s1 σ H1 vs us Q I1 r1 q1) he hpl
def v0o (hc:CallR X (.type T) r) (hg:Gl X x) (hm:X.mg x=none) (hv:bootBuiltins x=some (.type T)) (ha:PA X (e::es) t) (hn:x≠"__name__":=by decide) (hdb:(x==("__debug__":Str))=false:=by decide)
  (he:starEach (e::es) X.env=(false,eval e X.env)::starEach es X.env:=by rfl) (hpl:(backTo pos (starEach es X.env)).any (·.1)=false:=by rfl):PE X (.Call (.Name x p) (e::es) [] pos) (tCB r t):=by
 intro pins s σ H Q I h;refine wpAny_Call_Name_kw (u1M I hg hm hv ?_ hn hdb);exact PyProof.Rows.callWith_type1 (thn (ha pos pins s σ H _ I h) λus s1 z954=>by obtain⟨vs,H1,I1,r1,q1⟩:=z954;exact hc pins s1 σ H1 vs us Q I1 r1 q1) he hpl
end
end L2
namespace HT
open PySem PyProof.Rows
section
open PySem.SeqAt
open PySem.AutoSeq1 (wpAny_loadPart')
open PySem.MeetsSeq PySem.MeetsSeq2 PySem.MeetsSeq3
end
section
variable {prog:Program}{w:World}{A:Around}{E:VP}{s:Shared}
noncomputable def sIx (n d:Nat):Option Int->Nat
 | none=>d
 | some v=>if v<0 then (v+(n:Int)).toNat else min v.toNat n
def sIx_none (n d:Nat):sIx n d none=d:=rfl
def sIx_nat (n d k:Nat):sIx n d (some (k:Int))=min k n:=by
 show(if (k:Int)<0 then ((k:Int)+(n:Int)).toNat else min (k:Int).toNat n)=min k n
 rw[if_neg (by omega),Int.toNat_natCast]
def sIx_le (n d:Nat) (hd:d<=n) (o:Option Int):sIx n d o<=n:=by
 cases o with
 | none=>exact hd
 | some v =>
  show(if v<0 then (v+(n:Int)).toNat else min v.toNat n)<=n
  by_cases hv:v<0
  ·rw[if_pos hv];omega
  ·rw[if_neg hv];exact Nat.min_le_right _ _
def v1x (v:Int) (n d:Nat):(if v<0 then max (v+(n:Int)) 0 else min v (n:Int))=((sIx n d (some v):Nat):Int):=by
 show(if v<0 then max (v+(n:Int)) 0 else min v (n:Int))=(((if v<0 then (v+(n:Int)).toNat else min v.toNat n):Nat):Int)
 by_cases hv:v<0
 ·simp only[if_pos hv];omega
 ·simp only[if_neg hv];omega
def u9x (lo hi:Option Int) (n:Nat):Builtin.Slice.sliceAdjust lo hi 1 (n:Int)=(((sIx n 0 lo:Nat):Int),((sIx n n hi:Nat):Int)):=by
 have h1:¬ ((1:Int)<0):=by omega
 unfold Builtin.Slice.sliceAdjust;simp only[h1,if_false];refine Prod.ext ?_ ?_
 ·cases lo with
  | none=>rfl
  | some v=>exact v1x v n 0
 ·cases hi with
  | none=>rfl
  | some v=>exact v1x v n n
def u9i (i j:Nat):Builtin.Slice.slicePlaces (i:Int) (j:Int) 1=j - i:=by
 unfold Builtin.Slice.slicePlaces;have h1:(1:Int) > 0:=by omega
 simp only[h1,if_true,Int.ediv_one]
 split<;>omega
def slicePart_ {v:Value}{o:Option Int}{Q:Option Int->Shared->Prop} (p:IsPart v o) (h:Q o s):wpAny (model prog w) A (Builtin.Slice.slicePartIndex v) Q E s:=by
 cases p with
 | none=>exact slicePart_none h
 | int i t=>exact slicePart_int h
def u3i {sl:Addr}{vl vu:Value}{lo hi:Option Int}{n:Nat}{Q:Int×Int×Nat->Shared->Prop} (hs:s.heap.IsSliceOf sl vl vu .none) (pl:IsPart vl lo) (pu:IsPart vu hi)
  (h:Q (((sIx n 0 lo:Nat):Int),1,sIx n n hi - sIx n 0 lo) s):wpAny (model prog w) A (Builtin.Slice.sliceApplied (.ref sl) (pure (n:Int))) Q E s:=by
 obtain⟨os,hos,hcs,hds⟩:=id hs;unfold Builtin.Slice.sliceApplied Builtin.Slice.sliceFields;refine wpAny_bind (wpAny_bind (wpAny_field hos hds (x:=vl) rfl (wpAny_bind (wpAny_field hos hds (x:=vu) rfl (wpAny_bind (wpAny_field hos hds (x:=.none) rfl (wpAny_pure ?_)))))));refine wpAny_bind (slicePart_none ?_);show wpAny _ _ (if ((1:Int)==0)=true then _ else _) _ _ s
 rw[if_neg (by decide)]
 refine wpAny_bind (slicePart_ pl (wpAny_bind (slicePart_ pu (wpAny_bind (wpAny_pure ?_)))));show wpAny _ _ (match Builtin.Slice.sliceAdjust lo hi 1 (n:Int) with|(lo,hi)=>pure (lo,(1:Int),Builtin.Slice.slicePlaces lo hi 1)) _ _ s
 rw[u9x lo hi n];show wpAny _ _ (pure (((sIx n 0 lo:Nat):Int),(1:Int),Builtin.Slice.slicePlaces ((sIx n 0 lo:Nat):Int) ((sIx n n hi:Nat):Int) 1)) _ _ s;rw[u9i];exact wpAny_pure h
def v2s (xs:Array Value) (i k:Nat):((List.range k).filterMap λ(m:Nat)=>xs[((i:Int)+(m:Int)*1).toNat]?).toArray=((xs.toList.drop i).take k).toArray:=by
 have e:(λ(m:Nat)=>xs[((i:Int)+(m:Int)*1).toNat]?)=λm=>xs[i+m]?:=by
  funext m
  have:((i:Int)+(m:Int)*1).toNat=i+m:=by omega
  rw[this]
 rw[e]
 have:=pick_run xs i k
 rw[List.filterMap_map] at this;have e2:((λx=>xs[x]?) ∘ λx=>i+x)=λm=>xs[i+m]?:=rfl
 rw[e2] at this;rw[this]
def getItem_tuple_cut {t sl:Addr}{items:Array Value}{vl vu:Value}{lo hi:Option Int}{Q:VP} (ht:IsTup s.heap t items) (hs:s.heap.IsSliceOf sl vl vu .none) (pl:IsPart vl lo) (pu:IsPart vu hi)
  (hw:¬ (sIx items.size 0 lo=0/\sIx items.size items.size hi=items.size))
  (h:Q (.ref s.heap.objs.size) { s with heap:=s.heap.push { cls:=.type "tuple",data:=.seq ((items.toList.drop (sIx items.size 0 lo)).take (sIx items.size items.size hi - sIx items.size 0 lo)).toArray } })
  (hsz:items.size<=sizeLine):wpAny (model prog w) A (getItem (.ref t) (.ref sl)) Q E s:=by
 have htake:sizeOk (.seq ((items.toList.drop (sIx items.size 0 lo)).take (sIx items.size items.size hi - sIx items.size 0 lo)).toArray):=by
  show((items.toList.drop (sIx items.size 0 lo)).take (sIx items.size items.size hi - sIx items.size 0 lo)).toArray.size<=sizeLine;rw[y9,z3C,z2I,z0H];omega
 have hj:sIx items.size items.size hi<=items.size:=sIx_le _ _ (y0 _) hi;obtain⟨os,hos,hcs,hds⟩:=id hs;have hTs:s.TypeIs (.ref sl) "slice":=⟨os,hos,hcs⟩;unfold getItem
 try with_reducible refine wpAny_holding ?_
 first|refine wpAny_bind (wpAny_pure ?_)|skip
 refine wpAny_bind (wpAny_sequenceKey ht.typeIs (by decide) ?_)
 refine wpAny_bind (wpAny_callSpecial?_slot (name:=Str.ofString "__getitem__") ht.typeIs PyProof.Rows.slot_tuple_getitem
  (wpAny_call_entry PyProof.Rows.slot_tuple_getitem ht.typeIs entry_tuple_getitem ?_ (args_tuple_getitem _ _)))
 show wpAny _ _ (Builtin.Tuple.tupleItemsOf (.ref t) >>= _) _ _ s;refine wpAny_bind (tupleItemsOf_ ht ?_);refine wpAny_bind (wpAny_typeOf hTs ?_);rw[if_pos (by decide)]
 refine wpAny_bind (u3i hs pl pu ?_);have hno:¬ ((((sIx items.size 0 lo:Nat):Int)==0&&(1:Int)==1&&(sIx items.size items.size hi - sIx items.size 0 lo)==items.size)=true):=by
  intro q;rw[z0A,z0A] at q;have q1:((sIx items.size 0 lo:Nat):Int)=0:=eq_of_beq q.1.1;have q2:sIx items.size items.size hi - sIx items.size 0 lo=items.size:=eq_of_beq q.2;exact hw ⟨by omega,by omega⟩
 show wpAny _ _ (if (((sIx items.size 0 lo:Nat):Int)==0&&(1:Int)==1&&(sIx items.size items.size hi - sIx items.size 0 lo)==items.size)=true then _ else _) _ _ s
 rw[if_neg hno,v2s]
 first
  | exact wpAny_bind (m:=Builtin.Tuple.tupleExact _) (wpAny_newObj_type (wpAny_pure ⟨_,rfl,wpAny_pure h⟩) htake)
  | exact wpAny_bind (m:=Builtin.Tuple.tupleExact _) (wpAny_newObj_type (wpAny_bind (wpAny_pure (wpAny_pure ⟨_,rfl,wpAny_pure h⟩))) htake)
  | exact wpAny_bind (wpAny_bind (m:=Builtin.Tuple.tupleExact _) (wpAny_newObj_type (wpAny_pure (wpAny_pure ⟨_,rfl,wpAny_pure h⟩)) htake))
  | exact wpAny_bind (wpAny_bind (m:=Builtin.Tuple.tupleExact _) (wpAny_newObj_type (wpAny_pure ⟨_,rfl,wpAny_pure h⟩) htake))
end
end HT
namespace L2
open PySem PySem.Spec PyProof.Rows
abbrev TO:=St->Hp->(Option Int->Hp->Prop)->Prop
def PO (X:Cx) (e:Option Expr) (t:TO):Prop :=
 ∀(pins:LO) (s:Shared) (σ:St) (H:Hp) (Q:Option Int->Hp->Prop),Inv X pins σ H s->t σ H Q ->
  wpAny (model X.prog X.w) X.A (evalPart e X.env) (λu s'=>∃o H',Inv X pins σ H' s'/\IsPart u o/\Q o H') X.xe s
noncomputable def tNoPart:TO:=λ_ H Q=>Q none H
noncomputable def tPart (t:TE):TO:=λσ H Q=>t σ H λx H1=>∃i,x=.int i/\Q (some i) H1
section
variable {X:Cx}{e:Expr}{te:TE}{lo hi:Option Expr}{tl th:TO}{pos p2:Pos}
def po_none:PO X none tNoPart:=by
 intro pins s σ H Q I h;rw[evalPart_none];exact wpAny_pure ⟨none,H,I,.none,h⟩
def po_some (h:PE X e te):PO X (some e) (tPart te):=by
 intro pins s σ H Q I hw;rw[evalPart_some];refine thn (h pins s σ H _ I hw) λu s1 z955=>?_
 obtain⟨x,H1,I1,r1,q1⟩:=z955;obtain⟨i,rfl,q⟩:=q1;obtain⟨t,rfl⟩:=r1;exact⟨some i,H1,I1,.int i t,q⟩
def SlR (X:Cx) (r:V->Option Int->Option Int->Hp->VK->Prop):Prop :=
 ∀(pins:LO) (s:Shared) (σ:St) (H:Hp) (x:V) (v vl vu:Value) (lo hi:Option Int) (sl:Addr) (Q:VK),Inv X pins σ H s->RelV x v->s.heap.IsSliceOf sl vl vu .none->IsPart vl lo->IsPart vu hi->r x lo hi H Q ->
  ∃T id,typeLookup (.type T) "__getitem__"=pure (some (.builtin id))/\s.TypeIs v T/\wpAny (model X.prog X.w) X.A (getItem v (.ref sl)) (EP X pins σ Q) X.xe s
def tSl (r:V->Option Int->Option Int->Hp->VK->Prop) (te:TE) (tl th:TO):TE:=λσ H Q=>te σ H λx H1=>tl σ H1 λl H2=>th σ H2 λu H3=>r x l u H3 Q
def v2u {r:V->Option Int->Option Int->Hp->VK->Prop} (hr:SlR X r) (he:PE X e te) (hl:PO X lo tl) (hu:PO X hi th):PE X (.Subscript e (.Slice lo hi none p2) pos) (tSl r te tl th):=by
 intro pins s σ H Q I h;refine Subscript_ (thn (he pins s σ H _ I h) λv s1 z956=>?_)
 obtain⟨x,H1,I1,r1,q1⟩:=z956;refine wpAny_Slice (thn (hl pins s1 σ H1 _ I1 q1) λvl s2 ⟨l,H2,I2,pl,q2⟩=>thn (hu pins s2 σ H2 _ I2 q2) λvu s3 z958=>?_)
 obtain⟨u,H3,I3,pu,q3⟩:=z958;rw[evalPart_none];refine wpAny_pure ?_;have I4:Inv X pins σ H3 { s3 with heap:=s3.heap.push { cls:=.type "slice",data:=.fields #[vl,vu,.none] } }:=I3.kept (t':=s3.toks) λb ob q=>z5 _ q
 obtain⟨T,id,hT,ht,hg⟩:=hr pins { s3 with heap:=s3.heap.push { cls:=.type "slice",data:=.fields #[vl,vu,.none] } } σ H3 x v vl vu l u s3.heap.objs.size Q I4 r1 (Heap.IsSliceOf.new ..) pl pu q3
 show wpAny (model X.prog X.w) X.A (subscriptTail e (.Slice lo hi none p2) v (.ref s3.heap.objs.size)) (EP X pins σ Q) X.xe { s3 with heap:=s3.heap.push { cls:=.type "slice",data:=.fields #[vl,vu,.none] } }
 exact tail_any (ops:=[.ref s3.heap.objs.size,v]) ht hT hg (by with_unfolding_all rfl)
noncomputable def cutV (xs:List V) (lo hi:Option Int):List V:=(xs.drop (HT.sIx xs.length 0 lo)).take (HT.sIx xs.length xs.length hi - HT.sIx xs.length 0 lo)
def u4j (xs:List V) (lo hi:Option Int):(cutV xs lo hi).length<=xs.length:=by
 unfold cutV;rw[z3C,z2I];omega
def rSlT (K:W.Frag):V->Option Int->Option Int->Hp->VK->Prop:=λx lo hi H Q=>∃a xs,x=.ref a/\SqT K H a xs /\
 ¬ (HT.sIx xs.length 0 lo=0/\HT.sIx xs.length xs.length hi=xs.length)/\∀p,H p=none->Q (.ref p) (upd H p (.tup (cutV xs lo hi)))
def sl_tup:SlR X (rSlT X.K):=by
 intro pins s σ H x v vl vu lo hi sl Q I rx hs pl pu h;obtain⟨a,xs,rfl,hx,hw,q⟩:=h;cases rx;obtain⟨its,r,ht,hz⟩:=I.tuple hx;have hlen:its.toArray.size=xs.length:=by rw[y9];exact r.length.symm
 refine⟨"tuple",_,PyProof.Rows.slot_tuple_getitem.lookup,ht.typeIs,?_⟩;refine HT.getItem_tuple_cut ht hs pl pu (by rw[hlen];exact hw) ?_ (by rw[hlen];exact hz)
 rw[hlen];refine⟨.ref s.heap.objs.size,_,I.laid (t':=s.toks) (o:=.tup (cutV xs lo hi)) (λb ob q=>z5 _ q) (y0 _) ?_,rfl,q _ (I.hok.fresh (y0 _))⟩
 exact⟨v7 (u4j xs lo hi) hz,_,(r.drop (HT.sIx xs.length 0 lo)).take (HT.sIx xs.length xs.length hi - HT.sIx xs.length 0 lo),IsTup.new _ _⟩
end
noncomputable def ixN (n:Nat) (i:Int):Option Nat:=if 0<=i then (if i<n then some i.toNat else none) else if -(n:Int)<=i then some (i+n).toNat else none
noncomputable def atI {α:Type} (xs:List α) (i:Int):Option α:=(ixN xs.length i).bind λj=>xs[j]?
def ixN_seq {n:Nat}{i:Int}{j:Nat} (h:ixN n i=some j):seqIndex? i n=some j/\j<n/\-(n:Int)<=i/\i<n:=by
 unfold ixN at h;by_cases h0:0<=i
 ·rw [if_pos h0] at h
  by_cases h1:i<n
  ·rw [if_pos h1] at h
   have e:i.toNat=j:=Option.some.inj h;exact⟨by rw[seqIndex_of h0 h1,e],by omega,by omega,h1⟩
  ·rw[if_neg h1] at h;cases h
 ·rw [if_neg h0] at h
  by_cases h1:-(n:Int)<=i
  ·rw [if_pos h1] at h
   have e:(i+n).toNat=j:=Option.some.inj h;exact⟨by rw[seqIndex_neg (by omega) h1,e],by omega,h1,by omega⟩
  ·rw[if_neg h1] at h;cases h
def u7B {α:Type}{xs:List α}{i:Int}{v:α} (h:atI xs i=some v):∃j,seqIndex? i xs.length=some j/\xs[j]?=some v/\j<xs.length/\-(xs.length:Int)<=i/\i<xs.length:=by
 unfold atI at h;cases e:ixN xs.length i with
 | none=>rw[e] at h;cases h
 | some j =>
  rw[e] at h;obtain⟨h1,h2,h3,h4⟩:=ixN_seq e;exact⟨j,h1,h,h2,h3,h4⟩
def u7A {α:Type}{xs:List α}{j:Nat}{v:α} (h:xs[j]?=some v):atI xs (j:Int)=some v:=by
 have hj:j<xs.length:=(w6.mp h).1;have e:ixN xs.length (j:Int)=some j:=by
  unfold ixN;rw[if_pos (by omega),if_pos (by omega)];simp
 unfold atI;rw[e];exact h
def PlainIx (b:Expr):Prop:=∀o i,subscripted b false o i=operate [o,i] (getItem o i)
def IxR (X:Cx) (r:R2):Prop :=
 ∀(value slice:Expr) (pins:LO) (s:Shared) (σ:St) (H:Hp) (x y:V) (v u:Value) (Q:VK),Inv X pins σ H s->RelV x v->RelV y u->r x y H Q ->
  subscripted slice false v u=operate [v,u] (getItem v u)->wpAny (model X.prog X.w) X.A (subscriptTail value slice v u) (EP X pins σ Q) X.xe s
def MtR (X:Cx) (id:String) (r:V->List V->Hp->VK->Prop):Prop :=
 ∀(pins:LO) (s:Shared) (σ:St) (H:Hp) (x:V) (xs:List V) (v:Value) (us:List Value) (Q:VK),Inv X pins σ H s->RelV x v->Vals xs us->r x xs H Q ->
  wpAny (model X.prog X.w) X.A (call (.builtin id) (v::us)) (EP X pins σ Q) X.xe s
section
variable {X:Cx}{a b:Expr}{ta tb:TE}{pos:Pos}
def pe_ix {r:R2} (hr:IxR X r) (ha:PE X a ta) (hb:PE X b tb) (hs:PlainIx b):PE X (.Subscript a b pos) (tOp r ta tb):=by
 intro pins s σ H Q I h;exact Subscript_ (binT ha hb I h λv u s2 x y H2 I2 rx ry q=>hr a b pins s2 σ H2 x y v u Q I2 rx ry q (hs _ _))
def rIxL (K:W.Frag):R2:=λx y H Q=>∃p xs i v,x=.ref p/\y=.int i/\SqL K H p xs/\atI xs i=some v/\Q v H
def rIxT (K:W.Frag):R2:=λx y H Q=>∃p xs i v,x=.ref p/\y=.int i/\SqT K H p xs/\atI xs i=some v/\Q v H
def rIxS:R2:=λx y H Q=>∃z i c,x=.str z/\y=.int i/\z.length<=sizeLine/\atI z.cps.toList i=some c/\Q (.str ⟨#[c]⟩) H
def ix_list:IxR X (rIxL X.K):=by
 intro value slice pins s σ H x y v u Q I rx ry h hs;obtain⟨p,xs,i,z,rfl,rfl,hq,he,q⟩:=h;cases rx;obtain⟨t,rfl⟩:=ry;obtain⟨its,r,pl,hz⟩:=I.list hq;obtain⟨j,h1,h2,h3,h4,h5⟩:=u7B he;obtain⟨w,ew,rw'⟩:=r.get h2;have hl:=r.length;have hn:=line63;have fin:EP X pins σ Q w s:=⟨z,H,I,rw',q⟩;by_cases h0:0<=i
 ·have hj:i.toNat=j:=by
   rw[seqIndex_of h0 h5] at h1;exact Option.some.inj h1
  exact item_listR pl.isList h0 (by omega) (by rw[hj];simpa using ew) fin hs
 ·have hj:(i+(its.toArray.size:Int)).toNat=j:=by
   rw[seqIndex_neg (by omega) h4] at h1
   rw[y9,<- hl];exact Option.some.inj h1
  exact subscriptTail_builtinR (x:=w) pl.isList.typeIs slot_list_getitem.lookup
   (wpAny_getItem_list_neg (Q:=λr s'=>r=w/\EP X pins σ Q r s') pl.isList (by omega) (by rw[y9]<;>omega) (by omega) (by rw[hj];simpa using ew) ⟨rfl,fin⟩) hs
def ix_tup:IxR X (rIxT X.K):=by
 intro value slice pins s σ H x y v u Q I rx ry h hs;obtain⟨p,xs,i,z,rfl,rfl,hq,he,q⟩:=h;cases rx;obtain⟨t,rfl⟩:=ry;obtain⟨its,r,pl,hz⟩:=I.tuple hq;obtain⟨j,h1,h2,h3,h4,h5⟩:=u7B he;obtain⟨w,ew,rw'⟩:=r.get h2;have hl:=r.length;have hn:=line63;have fin:EP X pins σ Q w s:=⟨z,H,I,rw',q⟩;exact subscriptTail_builtinR (x:=w) pl.typeIs slot_tuple_getitem.lookup
  (getItem_tuple (j:=j) (Q:=λr s'=>r=w/\EP X pins σ Q r s') pl (by omega) (by omega) (by rw[y9,<- hl];exact h1) (by simpa using ew) ⟨rfl,fin⟩) hs
def ix_str:IxR X rIxS:=by
 intro value slice pins s σ H x y v u Q I rx ry h hs;obtain⟨z,i,c,rfl,rfl,hz,he,q⟩:=h;obtain⟨t,rfl⟩:=rx;obtain⟨t',rfl⟩:=ry;obtain⟨j,h1,h2,h3,h4,h5⟩:=u7B he;have hl:z.cps.toList.length=z.length:=by simp[Str.length]
 rw[hl] at h1 h4 h5;have hn:=line63;exact tail_any (typeIs_str s z t) slot_str_getitem.lookup (getItem_str (c:=c) (by
  have e1:decide (i < -(2^63:Int))=false:=decide_eq_false (by omega)
  have e2:decide (i ≥ 2^63)=false:=decide_eq_false (by omega)
  rw[e1,e2,Bool.or_false]) (by rw[h1];simpa using h2) ⟨.str ⟨#[c]⟩,H,I.tok _,⟨_,rfl⟩,q⟩) hs
def u5J (lo hi:Option Int) (n:Nat):(sliceBounds lo hi none n).1=((HT.sIx n 0 lo:Nat):Int)/\(sliceBounds lo hi none n).2.1=((HT.sIx n n hi:Nat):Int)/\(sliceBounds lo hi none n).2.2=1:=by
 refine⟨?_,?_,rfl⟩
 ·cases lo with
  | none=>simp[sliceBounds,HT.sIx]
  | some i =>
   simp only[sliceBounds,HT.sIx,Option.getD_none,show(1:Int) > 0 by decide,if_true]
   by_cases h:i<0
   ·simp only[h,if_true]<;>omega
   ·simp only[h,if_false]<;>omega
 ·cases hi with
  | none=>simp[sliceBounds,HT.sIx]
  | some i =>
   simp only[sliceBounds,HT.sIx,Option.getD_none,show(1:Int) > 0 by decide,if_true]
   by_cases h:i<0
   ·simp only[h,if_true]<;>omega
   ·simp only[h,if_false]<;>omega
def u4Y (its:List Value) (lo hi:Option Int):slicePick its.toArray lo hi none=((its.drop (HT.sIx its.length 0 lo)).take (HT.sIx its.length its.length hi - HT.sIx its.length 0 lo)).toArray:=by
 obtain⟨h1,h2,h3⟩:=u5J lo hi its.toArray.size;unfold slicePick;rw[h1,h2,h3];simp only[sliceRange_one,pick_run,y9]<;>rfl
def rSlL (K:W.Frag):V->Option Int->Option Int->Hp->VK->Prop:=λx lo hi H Q=>∃a xs,x=.ref a/\SqL K H a xs/\∀p,H p=none->Q (.ref p) (upd H p (.lst (cutV xs lo hi)))
def sl_list:SlR X (rSlL X.K):=by
 intro pins s σ H x v vl vu lo hi sl Q I rx hs pl pu h;obtain⟨a,xs,rfl,hx,q⟩:=h;cases rx;obtain⟨its,r,ht,hz⟩:=I.list hx;have hlen:=r.length;refine⟨"list",_,slot_list_getitem.lookup,ht.isList.typeIs,?_⟩;refine wpAny_getItem_list_slice ht.isList hs pl pu .none (by simp) ?_ (by rw[y9]<;>omega)
 rw[u4Y,<- hlen];refine⟨.ref s.heap.objs.size,_,I.laid (t':=s.toks) (o:=.lst (cutV xs lo hi)) (λb ob q=>z5 _ q) (y0 _) ?_,rfl,q _ (I.hok.fresh (y0 _))⟩
 exact⟨v7 (u4j xs lo hi) hz,_,0,(r.drop (HT.sIx xs.length 0 lo)).take (HT.sIx xs.length xs.length hi - HT.sIx xs.length 0 lo),z6 _ rfl⟩
def u5X:OpR X (compareOp .NotIn) (λx y H Q=>∃i j,x=.str i/\y=.str j/\Q (.bl (!(!(Builtin.Str.occurrences j i 0 j.length 1).isEmpty))) H):=by
 intro pins s σ H x y v u Q I rx ry h;obtain⟨i,j,rfl,rfl,q⟩:=h;obtain⟨t,rfl⟩:=rx;obtain⟨t',rfl⟩:=ry;exact notIn_str ⟨.bl _,H,I,rfl,q⟩
def u6x:CallR X (.type "list") (λxs H Q=>∃p ys,xs=[.ref p]/\(SqL X.K H p ys\/SqT X.K H p ys)/\∀l,H l=none->Q (.ref l) (upd H l (.lst ys))):=by
 intro pins s σ H xs us Q I r h;obtain⟨p,ys,rfl,hq,q⟩:=h;obtain⟨u,rfl,rx⟩:=vals1 r;cases rx;have fin:∀(its:List Value),Vals ys its->ys.length<=sizeLine->∀(h':Heap) (c':Nat),(∀b o',s.heap.get? b=some o'->h'.get? b=some o') ->
   h'.get? s.heap.objs.size=some { cls:=.type "list",dict:=none,data:=.seq its.toArray c',slots:=#[] }->EP X pins σ Q (.ref s.heap.objs.size) { s with heap:=h' }:=λits r' hz h' c' kp e =>
  ⟨.ref s.heap.objs.size,_,I.laid (t':=s.toks) kp (y0 _) (show ObjOk X.prog X.w _ h' _ (.lst ys) from⟨hz,its,c',r',e⟩),rfl,q _ (I.hok.fresh (y0 _))⟩
 rcases hq with hq|hq
 ·obtain ⟨its,r',pl,hz⟩:=I.list hq
  have hlen:=r'.length;obtain⟨o,ho,hc,n,hd⟩:=pl.isList;exact call_list_seq p (.inl rfl) ho hc hd (λh' c' kp e=>fin its r' hz h' c' kp e) (by simp only[y9]<;>omega)
 ·obtain ⟨its,r',pl,hz⟩:=I.tuple hq
  have hlen:=r'.length;obtain⟨o,ho,hc,n,hd⟩:=pl;exact call_list_seq p (.inr rfl) ho hc hd (λh' c' kp e=>fin its r' hz h' c' kp e) (by simp only[y9]<;>omega)
def u2z:CallR X (.type "tuple") (λxs H Q=>∃p ys,xs=[.ref p]/\((SqL X.K H p ys/\∀l,H l=none->Q (.ref l) (upd H l (.tup ys)))\/(SqT X.K H p ys/\Q (.ref p) H))):=by
 intro pins s σ H xs us Q I r h;obtain⟨p,ys,rfl,h⟩:=h;obtain⟨u,rfl,rx⟩:=vals1 r;cases rx;rcases h with⟨hq,q⟩|⟨hq,q⟩
 ·obtain ⟨its,r',pl,hz⟩:=I.list hq
  have hlen:=r'.length;refine call_tuple_list pl.isList (λh' kp=>?_) (by simp only[y9]<;>omega)
  have I1:Inv X pins σ H { s with heap:=h' }:=I.kept (t':=s.toks) kp
  have I2:Inv X pins σ (upd H h'.objs.size (.tup ys)) { s with heap:=h'.push { cls:=.type "tuple",data:=.seq its.toArray } } :=
   I1.laid (t':=s.toks) (λb o e=>z5 _ e) (y0 _) (show ObjOk X.prog X.w _ _ _ (.tup ys) from⟨hz,its,r',IsTup.new _ _⟩)
  exact⟨.ref h'.objs.size,_,I2,rfl,q _ (I1.hok.fresh (y0 _))⟩
 ·obtain ⟨its,r',pl,hz⟩:=I.tuple hq
  exact call_tuple_same pl ⟨.ref p,H,I,rfl,q⟩
def tyV (K:W.Frag) (T:String) (x:V) (H:Hp):Prop:=match x with
 | .str _=>T="str"
 | .int _=>T="int"
 | .ref p=>(T="list"/\∃xs,SqL K H p xs)\/(T="tuple"/\∃o,K.lookup p=some o/\o.cls=.type "tuple"/\o.dict=none) \/
   (T="dict"/\((∃kvs,H p=some (.dK kvs))\/∃kvs,H p=some (.dT kvs)))\/(T="set"/\∃S n,H p=some (.set S n))
 | _=>False
def tyV_is {pins:LO}{σ:St}{H:Hp}{s:Shared}{T:String}{x:V}{v:Value} (I:Inv X pins σ H s) (r:RelV x v) (ty:tyV X.K T x H) :
  s.TypeIs v T/\∀a,v=.ref a->∃ob,s.heap.get? a=some ob/\ob.dict=none:=by
 cases x with
 | str z =>
  obtain⟨t,rfl⟩:=r;cases (show T="str" from ty)
  exact⟨typeIs_str s z t,λ_ e=>nomatch e⟩
 | int i =>
  obtain⟨t,rfl⟩:=r;cases (show T="int" from ty)
  exact⟨typeIs_int s i t,λ_ e=>nomatch e⟩
 | ref p =>
  cases r;rcases ty with⟨rfl,xs,hq⟩|⟨rfl,o,hk,hc,hd⟩|⟨rfl,hk⟩|⟨rfl,S,n,hk⟩
  ·obtain ⟨its,_,pl,_⟩:=I.list hq
   refine⟨pl.isList.typeIs,λa e=>?_⟩
   cases e;obtain⟨o,n,e,c,hd,_⟩:=pl;exact⟨o,e,hd⟩
  ·refine ⟨⟨o,I.kIn p o hk,hc⟩,fun a e=>?_⟩
   cases e;exact⟨o,I.kIn _ o hk,hd⟩
  ·have z:∃o,s.heap.get? p=some o/\o.ExactDict:=by
    rcases hk with⟨kvs,hk⟩|⟨kvs,hk⟩
    ·obtain ⟨_,_,_,_,o,_,_,e,ex,_⟩:=I.hok p _ hk
     exact⟨o,e,ex⟩
    ·obtain ⟨_,_,_,_,o,_,_,e,ex,_⟩:=I.hok p _ hk
     exact⟨o,e,ex⟩
   obtain⟨o,e,ex⟩:=z;refine⟨⟨o,e,ex.1⟩,λa e2=>?_⟩
   cases e2;exact⟨o,e,ex.2.1⟩
  ·obtain ⟨o,_,_,_,e,ex,_⟩:=I.hok p _ hk
   refine⟨⟨o,e,ex.1⟩,λa e2=>?_⟩
   cases e2;exact⟨o,e,ex.2.1⟩
 | _=>exact False.elim ty
def tBM (K:W.Frag) (T:String) (r:V->List V->Hp->VK->Prop) (to:TE) (t:TA):TE:=λσ H Q=>to σ H λx H1=>tyV K T x H1/\t σ H1 λxs H2=>r x xs H2 Q
variable {o e:Expr}{es:List Expr}{to:TE}{t:TA}{name:Str}{apos cpos:Pos}{T id:String}{r:V->List V->Hp->VK->Prop}
def pe_bm (pa:PlainAttrs T) (slot:Slot T name id) (hty:typeOf (.builtin id)=pure (.type "method_descriptor")) (hm:MtR X id r) (ho:PE X o to) (ha:PA X (e::es) t)
  (hbase:attributeBase o name X.env (eval o X.env)=eval o X.env:=by rfl)
  (hfew:((backTo cpos (starEach (e::es) X.env)).all (fun x=>!x.1)&&(backToKw cpos (keywordEach [] X.env)).all (fun x=>x.1.isSome)
   && decide ((e::es).length+([]:List Keyword).length+(if ([]:List Keyword).isEmpty then 0 else 1)<30))=true:=by rfl)
  (hline:(apos.endLine==cpos.line)=true:=by rfl) (hs:starEach (e::es) X.env=(false,eval e X.env)::starEach es X.env:=by rfl) (hplain:(backTo cpos (starEach es X.env)).any (·.1)=false:=by rfl) :
  PE X (.Call (.Attribute o name apos) (e::es) [] cpos) (tBM X.K T r to t):=by
 intro pins s σ H Q I h;refine wpAny_Call_method_late hbase hfew hline rfl (thn (ho pins s σ H _ I h) λv s1 z959=>?_)
 obtain⟨x,H1,I1,r1,ty,q1⟩:=z959;obtain⟨h1,h2⟩:=tyV_is I1 r1 ty;refine⟨T,id,pa,slot,hty,h1,h2,?_⟩;have hA:=ha cpos pins s1 σ H1 _ I1 q1;rw[hs] at hA |-
 refine Calls.callWith_builtin (by show(false||(backTo cpos (starEach es X.env)).any (·.1))=false;rw[hplain]<;>rfl) (Calls.evalArgs_plain ?_)
 exact thn hA λus s2 ⟨vs,H2,I2,r2,q2⟩=>hm pins s2 σ H2 x vs v us Q I2 r1 r2 q2
end
def MtM (X:Cx) (id:String) (r:V->List V->Hp->VK->Prop):Prop :=
 ∀(pins:LO) (s:Shared) (σ:St) (H:Hp) (x:V) (xs:List V) (v:Value) (us:List Value) (Q:VK),Inv X pins σ H s->RelV x v->Vals xs us->r x xs H Q ->
  wpAny (model X.prog X.w) X.A (call (.builtin id) (v::us)) (EP X pins σ Q) X.xe s
theorem Vals.one:∀{x:V}{us:List Value},Vals [x] us->∃u,us=[u]/\RelV x u
 | _,_,.cons r .nil=>⟨_,rfl,r⟩
theorem Vals.eraseIdx:∀{xs:List V}{us:List Value} (i:Nat),Vals xs us->Vals (xs.eraseIdx i) (us.eraseIdx i)
 | _,_,_,.nil=>.nil
 | _,_,0,.cons _ t=>t
 | _,_,i+1,.cons r t=>.cons r (Vals.eraseIdx i t)
theorem Vals.rep {xs:List V}{us:List Value} (h:Vals xs us):∀k:Nat,Vals (List.replicate k xs).flatten (List.replicate k us).flatten
 | 0=>.nil
 | k+1=>by
  rw[List.replicate_succ,List.replicate_succ,List.flatten_cons,List.flatten_cons];exact Vals.append h (Vals.rep h k)
theorem u6e {α:Type}:∀(l:List α) (i:Nat),(l.eraseIdx i).length<=l.length
 | [],_=>y0 _
 | _::_,0=>Nat.le_succ _
 | _::r,i+1=>Nat.succ_le_succ (u6e r i)
theorem u4c (its:List Value):∀(k:Nat) (acc:List Value),
  List.foldl (λx1 x2=>x1++x2) acc.toArray (List.replicate k its.toArray)=(acc++(List.replicate k its).flatten).toArray
 | 0,acc=>by simp
 | k+1,acc=>by
  have e:acc.toArray++its.toArray=(acc++its).toArray:=by simp
  have e2:(acc++its)++(List.replicate k its).flatten=acc++(List.replicate (k+1) its).flatten:=by
   rw[List.replicate_succ,List.flatten_cons,List.append_assoc]
  rw[<- e2,<- u4c its k (acc++its),<- e,List.replicate_succ,z2J]
section
variable {X:Cx}{pins:LO}{σ:St}{H:Hp}{s:Shared}{l b:Addr}{xs ys zs:List V}
def Inv.lset {its its':List Value}{n:Nat}{f:Array Value->Array Value}{t':Nat} (I:Inv X pins σ H s) (hH:H l=some (.lst xs))
  (e:s.heap.get? l=some { cls:=.type "list",data:=.seq its.toArray n }) (hf:f its.toArray=its'.toArray) (hv:Vals ys its') (hz:ys.length<=sizeLine) :
  Inv X pins σ (upd H l (.lst ys)) { s with heap:=s.heap.update l (Obj.mapSeq f),toks:=t' }:=by
 have q:=PySem.IsL.update e f;rw[hf] at q;refine I.write (x:=l) (e:=l) (by rw[hH];exact trivial) (.inl rfl) (λb' u hb hu=>(u0 s.heap (Obj.mapSeq f) (Ne.symm hb)).trans hu) ⟨_,q⟩ ?_
 exact⟨hz,its',_,hv,q⟩
def Inv.lnew {its:List Value}{t':Nat} (I:Inv X pins σ H s) (hv:Vals ys its) (hz:ys.length<=sizeLine) :
  Inv X pins σ (upd H s.heap.objs.size (.lst ys)) { s with heap:=s.heap.push { cls:=.type "list",data:=.seq its.toArray },toks:=t' } :=
 I.laid (λ_ _ q=>z5 _ q) (y0 _) ⟨hz,its,0,hv,z6 _ rfl⟩
theorem Inv.fresh (I:Inv X pins σ H s):H s.heap.objs.size=none:=I.hok.fresh (y0 _)
def Inv.lstM (I:Inv X pins σ H s) (hH:H l=some (.lst xs)):xs.length<=sizeLine/\∃(its:List Value) (n:Nat),Vals xs its/\xs.length=its.length/\s.heap.get? l=some { cls:=.type "list",data:=.seq its.toArray n }:=by
 obtain⟨z,its,n,r,e⟩:=I.hok l _ hH;exact⟨z,its,n,r,r.length,e⟩
def notLongL {n:Nat} (h:n<=sizeLine):Builtin.List.listTooLong n=false:=by
 unfold Builtin.List.listTooLong;exact decide_eq_false (by omega)
end
section
variable {X:Cx}
def rAppend:V->List V->Hp->VK->Prop:=λx vs H Q=>∃l xs y,x=.ref l/\vs=[y]/\H l=some (.lst xs)/\xs.length<sizeLine/\Q .non (upd H l (.lst (xs++[y])))
def u6b:MtM X "list.append" rAppend:=by
 intro pins s σ H x vs v us Q I rx rv h;obtain⟨l,xs,y,rfl,rfl,hH,hz,q⟩:=h;cases rx;obtain⟨u,rfl,ru⟩:=rv.one;obtain⟨z,its,n,r,hl,e⟩:=I.lstM hH;refine call_meets F.slot_list_append ⟨_,e,rfl⟩ F.entry_list_append (F.args_list_append_2 _ _) (PySem.list_append l its.toArray n u (by rw[y9];omega)) ⟨e,?_⟩
 refine⟨.non,_,I.lset (its':=its++[u]) hH e (by simp) (r.append (.cons ru .nil)) ?_,rfl,q⟩
 rw[z0F,List.length_singleton];omega
def rPopAt:V->List V->Hp->VK->Prop:=λx vs H Q=>∃l xs i k y,x=.ref l/\vs=[.int i]/\H l=some (.lst xs)/\-(2^63)<=i/\i<2^63/\seqIndex? i xs.length=some k/\xs[k]?=some y/\Q y (upd H l (.lst (xs.eraseIdx k)))
def v2I:MtM X "list.pop" rPopAt:=by
 intro pins s σ H x vs v us Q I rx rv h;obtain⟨l,xs,i,k,y,rfl,rfl,hH,h1,h2,hk,hy,q⟩:=h;cases rx;obtain⟨u,rfl,ru⟩:=rv.one;obtain⟨t,rfl⟩:=ru;obtain⟨z,its,n,r,hl,e⟩:=I.lstM hH;obtain⟨w,hw,rw'⟩:=r.get hy;refine call_meets F.slot_list_pop ⟨_,e,rfl⟩ F.entry_list_pop (F.args_list_pop_2 _ _)
  (MeetsSeq.list_pop_at l its.toArray n i t k w (fitsIndex_both h1 h2) (by rw[y9,<- hl];exact hk) (by rw[<- z1H];exact hw) (by rw[y9];omega)) ⟨e,?_⟩
 refine⟨y,_,I.lset (its':=its.eraseIdx k) hH e ?_ (r.eraseIdx k) ?_,rw',q⟩
 ·show its.toArray.eraseIdxIfInBounds k=(its.eraseIdx k).toArray
  rw[List.eraseIdxIfInBounds_toArray]
 ·have:=u6e xs k
  omega
def v0C {α:Type} (xs:List α) (k:Nat):(List.replicate k xs).flatten.length=k*xs.length:=by
 induction k with
 | zero=>simp
 | succ k ih=>rw[List.replicate_succ,List.flatten_cons,z0F,ih,Nat.succ_mul,Nat.add_comm]
end
end L2
namespace Att
open PySem PySem.W PySem.Calls PyProof.Rows
def u3Z {P:Params}{h:Heap}:∀(ns:List Int) (vs:List Value),WellAll P h vs (ns.map WData.int)->IntsAre vs ns:=by
 intro ns;induction ns with
 | nil =>
  intro vs w;rw[List.map_nil] at w;cases w;exact .nil
 | cons n ns ih =>
  intro vs w;rw[u9] at w;cases w with
  | cons a b =>
   cases a;exact .cons _ _ (ih _ b)
def u9S {l:OpenLaw}{n:Nat} (hn:l.most=some n) {P:Params}{h:Heap}{args:List WData}{vals:List Value}
  (hpre:l.row.toRowW.claim.pre args=true) (hwl:WellAll P h vals args) :
  ∃a vs ns,vals=[Value.ref a]/\args=[WData.list (ns.map WData.int)]/\h.get? a=some { cls:=.type "list",data:=.seq vs.toArray }/\IntsAre vs ns/\ns.length<=n:=by
 have hsh:WShape.hasAll [] args [.list .int]=true:=(pre_splitW hpre).1;have hc:l.pre.holds [] { args:=args }=true:=(pre_splitW hpre).2;obtain⟨d,r,rfl,h1,h2⟩:=hasAllW_cons hsh;obtain rfl:=hasAllW_nil h2;obtain⟨xs,rfl,h3⟩:=hasW_list h1;obtain⟨ns,rfl⟩:=items_int h3;have hlen:ns.length<=n:=by
  unfold OpenLaw.pre at hc;have h4:(WTm.not (.lt (.lit (.int (n:Int))) (.len (.arg 0)))).holds [] { args:=[.list (ns.map .int)] }=true:=by
   have h4:=(holds_andW hc).1;rw[hn] at h4;exact h4
  have h5:=condW_of h4 (w_not (w_lt w_lit (w_len_list (w_arg rfl))));rw[v8] at h5;refine Nat.le_of_not_lt λq=>?_
  have q':(n:Int)<((ns.length:Nat):Int):=by omega
  first
   | (rw[decide_eq_true q'] at h5;exact absurd h5 (by decide))
   | (simp at h5;omega)
 cases hwl with
 | cons w1 w2 =>
  cases w2;cases w1 with
  | list ho hall=>exact⟨_,_,ns,rfl,rfl,ho,u3Z ns _ hall,hlen⟩
def v0i (l:OpenLaw) (args:List WData):l.row.toRowW.claim.post args (.bool true) args=true :=
 postW_of (r:=l.row.toRowW) (X:=(true==true))
  (show WShape.has [] (.bool true) .bool=true by first|rfl|decide|simp[WShape.has,WShape.arms,WShape.armsAll])
  (show(WTm.eq .res (.lit (.bool true))).value [] { args:=args,res:=some (.bool true),after:=args }=some (.bool (true==true)) from w_eq_bool (w_res rfl) w_lit) rfl
def attach_call {l:OpenLaw}{n:Nat}{q:Program}{loose:List Str}{XP:(Str->Option Value)->Heap->Prop}{YP:World->Heap->Prop}{d:DefRec}
  (hn:l.most=some n) (hdf:d.params.defaults=[])
  (call:∀ (w:World) (s₀ s₁:Shared) (mg mb:MG) (fa:Addr) (o:Obj) (pm cd doc:Value) (a:Addr) (vs:List Value) (ns:List Int),
   Ground q loose [] XP w s₀ mg mb s₁.heap->YP w s₁.heap ->
   s₁.heap.get? fa=some o->o.data=.func (docDef d.name d.params d.body d.scope pm cd doc)->s₁.heap.CodeRec cd d.name->mg d.name=some (.ref fa) ->
   s₁.heap.get? a=some { cls:=.type "list",data:=.seq vs.toArray }->IntsAre vs ns->ns.length<=n->s₁.gens=#[] ->
   codeAny (model l.prog w) callerA (.call (.ref fa) ⟨[.ref a],[]⟩) (λr s'=>r=.ok (.ret (.bool true))/\OldK s₁.heap s'.heap/\s'.os=s₁.os/\AllBare s'.gens) s₁) :
  WalkO q loose XP YP l.row.toRowW d [] (λf vs=>PySem.call f vs):=by
 intro w s₀ s₁ mg mb G Y fa o pm cd doc dV kV ho hd hcd hD hmg hg args vals as hpre hlay hrd hwl hlo;obtain rfl:dV=.none:=Dflts.none hD hdf;obtain rfl:kV=.none:=Dflts.noKw hD;obtain⟨a,vs,ns,rfl,rfl,hobj,hints,hlen⟩:=u9S hn hpre hwl;refine enter_call (codeAny_mono (call w s₀ s₁ mg mb fa o pm cd doc a vs ns G Y ho (fd_plain hd) hcd hmg hobj hints hlen hg) λr s' hq=>?_)
 obtain⟨rfl,h2,h3,h4⟩:=hq;exact⟨.inl ⟨.bool true,.bool true,[],rfl,λ_=>rfl,.bool true,v0i l _,λ_=>⟨List.Pairwise.nil,λ_ hm=>(nomatch hm)⟩⟩,h2,h3,h4⟩
end Att
namespace L2
open PySem PySem.Spec PyProof.Rows
theorem u5C:∀{vs:List Value}{ns:List Int},IntsAre vs ns->Vals (ns.map V.int) vs
 | _,_,.nil=>.nil
 | _,_,.cons n t h=>.cons ⟨t,rfl⟩ (u5C h)
def Only (H:Hp):Prop:=∀b,H b=none\/∃o xs,H b=some (.frz o (.lst xs))
def v2T {P:Program}{w:World}{K:W.Frag}{mg mb:MG}{CX:CXT}{k:Nat}{fa a:Addr}{fd:FuncData}{x:Str}{sp:Sp}{s₁:Shared}{vs:List Value}{ns:List Int}
  (KX:K.In s₁.heap) (hns:s₁.heap.Ns mainGlobals mg) (hb:s₁.heap.Ns builtinsNs mb) (hbb:∀x:Str,x≠"__name__"->mb x=bootBuiltins x) (hlim:s₁.heap.NoLimit) (hg:s₁.gens=#[])
  (ha:s₁.heap.get? a=some { cls:=.type "list",data:=.seq vs.toArray }) (hi:IntsAre vs ns) (hl:ns.length<=sizeLine) (hr:Room k callerA)
  (F:∀base:Heap,K.In base->base.Ns mainGlobals mg->FnOk P w K mg base CX k fa fd [x] sp) (hbind:∀(s:Shared) (u:Value),BindsTo s fd ⟨[u],[]⟩ [(x,u)])
  (hsp:∀H:Hp,Only H->SqL K H a (ns.map V.int)->sp [.ref a] H (λv _=>v=.bl true) λ_ _ _=>False)
  (hCX:∀H e s',CX [] H s₁ (λ_ _ _=>False) e s'->False) :
  codeAny (model P w) callerA (.call (.ref fa) ⟨[.ref a],[]⟩) (λr s'=>r=.ok (.ret (.bool true))/\OldK s₁.heap s'.heap/\s'.os=s₁.os/\AllBare s'.gens) s₁:=by
 have rv:=u5C hi;have lenV:=hi.length;have core:∀H:Hp,Only H->SqL K H a (ns.map V.int)->HOk P w H s₁.heap->(∀b,H b≠none->b=a)->(H a≠none->K.lookup a=none) ->
   codeAny (model P w) callerA (.call (.ref fa) ⟨[.ref a],[]⟩) (λr s'=>r=.ok (.ret (.bool true))/\OldK s₁.heap s'.heap/\s'.os=s₁.os/\AllBare s'.gens) s₁:=by
  intro H hO hS hok hA hK;have base_of:∀{b:Addr}{o:Obj},s₁.heap.get? b=some o->H b=none->(hidT s₁.heap H).get? b=some o:=λe n=>v3a e n
  have noA:∀{b:Addr}{o:Obj}{es:Array DictEntry}{ep:Nat},s₁.heap.get? b=some o->o.data=.dict es ep->H b=none:=λ{b o es ep} e d=>by
   cases q:H b with
   | none=>rfl
   | some u =>
    have e':b=a:=hA b (by rw[q];simp)
    subst e';rw[ha] at e;cases e;have d':Data.seq vs.toArray _=Data.dict es ep:=d;cases d'
  have nsK:∀{b:Addr}{m:MG},s₁.heap.Ns b m->(hidT s₁.heap H).Ns b m:=λ{b m} ⟨o,es,ep,e,d,r⟩=>⟨o,es,ep,base_of e (noA e d),d,r⟩
  have hKb:K.In (hidT s₁.heap H):=λb o e=>base_of (KX b o e) (by
   cases q:H b with
   | none=>rfl
   | some u =>
    have e':b=a:=hA b (by rw[q];simp)
    subst e';rw[hK (by rw[q];simp)] at e;cases e)
  have hM:Mod K mg (hidT s₁.heap H):=⟨hKb,nsK hns,⟨mb,nsK hb,hbb⟩,by obtain⟨mc,h1,h2⟩:=hlim;exact⟨mc,nsK h1,h2⟩⟩
  have e0:Env0 P w K mg (hidT s₁.heap H) callerA [] s₁ H:=⟨rfl,hM,λb o e=>of_hidT e,Nat.le_of_eq (v0S _ _),trivial,λb hb=>absurd (show b∈([]:List Addr) from hb) (by simp),hok,.of_eq hg⟩
  refine codeAny_mono ((F _ hKb (nsK hns)).run callerA [] s₁ H ⟨[.ref a],[]⟩ [.ref a] [.ref a] _ _ hr e0 (hbind s₁ (.ref a)) (.cons rfl .nil) (hsp H hO hS)) λr s' h=>?_
  cases r with
  | error e=>exact(hCX H e s' h).elim
  | ok fl =>
   cases fl with
   | next=>exact False.elim h
   | brk=>exact False.elim h
   | cont=>exact False.elim h
   | ret u =>
    obtain⟨v,H',os,bare,un,hok',r',q⟩:=h;have q':v=.bl true:=q;subst q';obtain rfl:u=Value.bool true:=r';refine⟨rfl,OldK.of_keep λb o e=>?_,os,bare⟩
    cases q:H b with
    | none=>exact un.keep b o e q (by intro z;exact absurd (show b∈([]:List Addr) from z) (by simp)) (by simp)
    | some u =>
     rcases hO b with z|⟨ob,xs,z⟩
     ·rw[q] at z;cases z
     ·have z2:=un.frzs b ob _ z
      obtain⟨e1,_⟩:=hok b _ z;obtain⟨e2,_⟩:=hok' b _ z2;rw[e] at e1;cases e1;exact e2
 cases hk:K.lookup a with
 | some o =>
  have e:=KX a o hk;rw[ha] at e;cases e;refine core (λ_=>none) (λ_=>.inl rfl) (.inr ⟨_,vs.toArray,_,hk,rfl,rfl,rfl,by rw[y9,lenV];exact hl,by simpa using rv⟩) (λb u z=>by have z':(none:Option HO)=some u:=z;cases z') (λb z=>absurd rfl z) λz=>absurd rfl z
 | none =>
  refine core (λb=>if b=a then some (.frz { cls:=.type "list",data:=.seq vs.toArray } (.lst (ns.map V.int))) else none) (λb=>?_) (.inl (.inr ⟨{ cls:=.type "list",data:=.seq vs.toArray },if_pos rfl⟩)) (λb u z=>?_) (λb z=>?_) λ_=>hk
  ·by_cases hb:b=a
   ·exact .inr ⟨_,_,if_pos hb⟩
   ·exact .inl (if_neg hb)
  ·by_cases hb:b=a
   ·have z':=(if_pos hb).symm.trans z
    cases z';subst hb;exact⟨ha,by rw[v8];exact hl,vs,_,rv,ha⟩
   ·have z':=(if_neg hb).symm.trans z
    cases z'
  ·by_cases hb:b=a
   ·exact hb
   ·exact absurd (if_neg hb) z
def walk_of {l:W.OpenLaw}{n k:Nat}{q:Program}{loose:List Str}{XP:(Str->Option Value)->Heap->Prop}{YP:World->Heap->Prop}{d:DefRec}{K:Params->W.Frag}{CX:World->CXT}{sp:World->Sp}{x:Str}
  (hn:l.most=some n) (hn2:n<=sizeLine) (hdf:d.params.defaults=[]) (hr:Room k callerA)
  (hY:∀(w:World) (h:Heap),YP w h->(K w.params).In h)
  (F:∀ (w:World) (mg:MG) (fa:Addr) (h:Heap),(K w.params).In h->h.Ns mainGlobals mg->mg d.name=some (.ref fa) ->
   ∃fd:FuncData,(∀(s:Shared) (u:Value),BindsTo s fd ⟨[u],[]⟩ [(x,u)]) /\
    ∀base:Heap,(K w.params).In base->base.Ns mainGlobals mg->FnOk l.prog w (K w.params) mg base (CX w) k fa fd [x] (sp w))
  (hsp:∀(w:World) (H:Hp) (a:Addr) (ns:List Int),ns.length<=n->Only H->SqL (K w.params) H a (ns.map V.int)->sp w [.ref a] H (λv _=>v=.bl true) λ_ _ _=>False)
  (hCX:∀(w:World) (H:Hp) (s:Shared) (e:Value) (s':Shared),CX w [] H s (λ_ _ _=>False) e s'->False) :
  W.WalkO q loose XP YP l.row.toRowW d [] (λf vs=>PySem.call f vs):=by
 refine Att.attach_call hn hdf λw s₀ s₁ mg mb fa o pm cd doc a vs ns G Y ho hd hcd hmg hobj hints hlen hg=>?_
 have KX:=hY w _ Y;obtain⟨fd,hb,hF⟩:=F w mg fa _ KX G.T.g hmg;exact v2T KX G.T.g G.T.b G.T.builtins G.T.nolimit hg hobj hints (v7 hlen hn2) hr hF hb (λH hO hS=>hsp w H a ns hlen hO hS) λH e s'=>hCX w H s₁ e s'
noncomputable def defArgs (s:Stmt):Arguments:=match s with
 | .FunctionDef _ a _ _ _ _ _ _ _ _=>a
 | _=>{ posonlyargs:=[],args:=[],vararg:=none,kwonlyargs:=[],kw_defaults:=[],kwarg:=none,defaults:=[] }
noncomputable def defBody (s:Stmt):List Stmt:=match s with
 | .FunctionDef _ _ b _ _ _ _ _ _ _=>b
 | _=>[]
noncomputable def defScope (s:Stmt):Scope:=match s with
 | .FunctionDef _ _ _ _ _ _ sc _ _ _=>sc
 | _=>{ kind:=.function,names:=[],isGenerator:=false,isCoroutine:=false }
abbrev CX0:CXT:=λ_ _ _ _ _ _=>False
abbrev E0:XK:=λ_ _ _=>False
def pass0 {X:Cx}:Passes CX0 X E0:=λ_ _ _ _ _ _ _ h=>h.elim
structure Fun (K:W.Frag) (x qual:Str) (st:Stmt) (f:Addr) (fd:FuncData):Prop where
 ex:∃(oc:Value) (od:Option Addr) (kV doc pm:Value) (an:Option Addr) (cdv ct:Value) (osl:Array (Option Value)),
  fd=W.fnOf x qual (defArgs st) (defBody st) (defScope st) .none kV doc pm an cdv ct/\K.lookup f=some ⟨oc,od,.func fd,osl⟩/\W.codeIn K cdv qual=true
 kp:W.keepIn K (.ref f)=true
section
variable {P:Program}{w:World}{K:W.Frag}{mg:MG}{base:Heap}
def Fun.ok {x qual:Str}{st:Stmt}{f:Addr}{fd:FuncData}{N ps:List Str}{k:Nat}{sp:Sp} (F:Fun K x qual st f fd) (S:FnScope N ps (defScope st)) (len:∀vs H Q E,sp vs H Q E->vs.length=ps.length)
  (hbody:∀ (cdv:Value) (A:Around) (outer:List Env) (s:Shared) (H:Hp) (vs:List V) (Q:VK) (E:XK),Room k (A.deeper (envOfC qual (defScope st) s.heap.objs.size f cdv))->sp vs H Q E ->
   ∃t,PSs (cxOf CX0 P w K mg base N qual (defScope st) f cdv A outer s H E).nox (defBody st) t/\t { nx:=λ_ H'=>Q .non H',rt:=Q } (start N vs) H):FnOk P w K mg base CX0 (k+1) f fd ps sp:=by
 obtain⟨oc,od,kV,doc,pm,an,cdv,ct,osl,rfl,lk,hcd⟩:=F.ex;refine fn_of lk hcd S len λA outer s H vs Q E hr hsp=>?_
 obtain⟨t,h,q⟩:=hbody cdv A outer s H vs Q E hr hsp;exact⟨t,h.nox,q⟩
def Fun.binds {x qual:Str}{st:Stmt}{f:Addr}{fd:FuncData}{ps:List Str} (F:Fun K x qual st f fd)
  (h:∀(kV doc pm:Value) (an:Option Addr) (cdv ct:Value) (us:List Value),us.length=ps.length->bindArgs (W.fnOf x qual (defArgs st) (defBody st) (defScope st) .none kV doc pm an cdv ct) ⟨us,[]⟩=pure (ps.zip us)):Binds K fd ps []:=by
 obtain⟨oc,od,kV,doc,pm,an,cdv,ct,osl,rfl,lk,hcd⟩:=F.ex;exact .all (h kV doc pm an cdv ct)
def u8f {x qual:Str}{st:Stmt}{f:Addr}{oc:Value}{od an:Option Addr}{osl:Array (Option Value)}{kV doc pm cdv ct:Value} (l:K.lookup f=some ⟨oc,od,.func (W.fnOf x qual (defArgs st) (defBody st) (defScope st) .none kV doc pm an cdv ct),osl⟩)
  (c:W.codeIn K cdv qual=true) (k:W.keepIn K (.ref f)=true):Fun K x qual st f (W.fnOf x qual (defArgs st) (defBody st) (defScope st) .none kV doc pm an cdv ct):=⟨⟨oc,od,kV,doc,pm,an,cdv,ct,osl,rfl,l,c⟩,k⟩
end
def Same (H H':Hp):Prop:=∀b o,H b=some o->H' b=some o
def Same.refl (H:Hp):Same H H:=λ_ _ h=>h
def Same.trans {H H1 H2:Hp} (a:Same H H1) (b:Same H1 H2):Same H H2:=λc o h=>b c o (a c o h)
def Same.free {H H':Hp} (e:Same H H') {l:Addr} (h:H' l=Option.none):H l=Option.none:=by
 cases q:H l with
 | none=>rfl
 | some o =>
  rw[e l o q] at h;cases h
def Same.seq {K:W.Frag}{H H':Hp}{a:Addr}{xs:List V} (e:Same H H') (h:SqL K H a xs):SqL K H' a xs:=by
 rcases h with(h|⟨o,h⟩)|h
 ·exact .inl (.inl (e _ _ h))
 ·exact .inl (.inr ⟨o,e _ _ h⟩)
 ·exact .inr h
section
variable {P:Program}{w:World}{H H':Hp}{h h1 h2:Heap}{a C:Addr}{o:HO}{fs ex:List Addr}
def HOk.track (x:HOk P w H h) (hn:H a=none) (new:ObjOk P w (upd H a o) h a o):HOk P w (upd H a o) h:=λb u e=>by
 by_cases hb:b=a
 ·subst hb;rw[u0d] at e;cases e;exact new
 ·rw [u0f hb] at e
  exact(x b u e).stay (λ_ _ _ q=>q) (λc q=>by rw[u0f (u0m q hn)];exact q) (λc xs q=>by rw[u0f (u0m q hn)];exact q)
def Un.track (u:Un fs ex H H' h h1) (hn:H' a=none) (ha:h.get? a=none):Un fs ex H (upd H' a o) h h1 where
 keep:=u.keep
 slot:=u.slot
 free:=λb ob q n hx=>by
  rw[u0f (by rintro rfl;rw[ha] at q;cases q)]
  exact u.free b ob q n hx
 there:=u.there
 tups:=λb xs q=>by have:=u.tups b xs q;rw[u0f (u0m this hn)];exact this
 frzs:=λb ob xs q=>by have:=u.frzs b ob xs q;rw[u0f (u0m this hn)];exact this
 tbls:=λb ps q=>by
  obtain⟨m,this⟩:=u.tbls b ps q;exact⟨m,by rw[u0f (u0m this hn)];exact this⟩
end
theorem u2Y (env:Env) (f:Str×NameKind->List (Str×Addr)->Sem (ForInStep (List (Str×Addr))))
  (h1:∀n cs a,env.cells.lookup n=some a->f (n,.free) cs=pure (.yield ((n,a)::cs))) (h2:∀n k cs,k≠.free->f (n,k) cs=pure (.yield cs)) :
  ∀(l:List (Str×NameKind)) (cs:List (Str×Addr)),(∀x∈l,x.2=.free->∃c,env.cells.lookup x.1=some c)->(∀x c,cs.lookup x=some c->env.cells.lookup x=some c) ->
   ∃cl,forIn l cs f=pure cl/\(∀x c,cl.lookup x=some c->env.cells.lookup x=some c)/\(∀x∈l,x.2=.free->∃c,cl.lookup x.1=some c)/\∀x c,cs.lookup x=some c->∃c',cl.lookup x=some c'
 | [],cs,_,hc=>⟨cs,rfl,hc,(λ_ z=>(nomatch z)),λx c q=>⟨c,q⟩⟩
 | (n,k)::l,cs,hl,hc=>by
  by_cases hk:k=.free
  ·subst hk
   obtain⟨a,ha⟩:=hl (n,.free) z8 rfl;have hc':∀x c,((n,a)::cs).lookup x=some c->env.cells.lookup x=some c:=λx c q=>by
    rw[t9] at q;cases e:x==n with
    | true=>rw[e] at q;cases q;rw[eq_of_beq e];exact ha
    | false=>rw[e] at q;exact hc x c q
   obtain⟨cl,e,p1,p2,p3⟩:=u2Y env f h1 h2 l ((n,a)::cs) (λx hx=>hl x (y1 _ hx)) hc'
   refine⟨cl,?_,p1,λx hx hf=>?_,λx c q=>?_⟩
   ·rw[List.forIn_cons,h1 n cs a ha,pure_bind];exact e
   ·rcases y7.mp hx with rfl | hx
    ·exact p3 n a (by rw[t9];simp)
    ·exact p2 x hx hf
   ·by_cases e:(x==n)=true
    ·exact p3 x a (by rw[t9,e])
    ·have e':(x==n)=false:=by simpa using e
     exact p3 x c (by rw[t9,e'];exact q)
  ·obtain ⟨cl,e,p1,p2,p3⟩:=u2Y env f h1 h2 l cs (fun x hx=>hl x (y1 _ hx)) hc
   refine⟨cl,?_,p1,λx hx hf=>?_,p3⟩
   ·rw[List.forIn_cons,h2 n k cs hk,pure_bind];exact e
   ·rcases y7.mp hx with rfl | hx
    ·exact absurd hf hk
    ·exact p2 x hx hf
def u1F {scope:Scope}{env:Env} (h:∀x∈scope.names,x.2=.free->∃c,env.cells.lookup x.1=some c) :
  ∃cl,closureFor scope env=pure cl/\(∀x c,cl.lookup x=some c->env.cells.lookup x=some c)/\∀x∈scope.names,x.2=.free->∃c,cl.lookup x.1=some c:=by
 unfold closureFor;obtain⟨cl,e,p1,p2,_⟩:=u2Y env (λ(x:Str×NameKind) (r:List (Str×Addr))=>match x with
   | (name,kind)=>if (kind==NameKind.free)=true then (do let a <- cellOf env name;pure (ForInStep.yield ((name,a)::r))) else pure (ForInStep.yield r))
  (fun n cs a ha=>by simp [cellOf,ha]) (fun n k cs hk=>by
   have:(k==NameKind.free)=false:=by simpa using hk
   simp[this]) scope.names [] h (λx c q=>by simp at q)
 refine⟨cl,?_,p1,p2⟩
 first
  | (rw[e];rfl)
  | (simp only[pure_bind,bind_pure] at e |-;exact e)
  | (show(forIn scope.names [] _ >>= _)=_;rw[e];rfl)
theorem u1s (env:Env):∀(names:List (Str×NameKind)) (x:Str),
  (names.map fun (n,k)=>if (k==NameKind.free&&env.scope.kind==.function&&env.kindOf n==some .cell) then (n,NameKind.cell) else (n,k)).lookup x =
   (names.lookup x).map λk=>if (k==NameKind.free&&env.scope.kind==.function&&env.kindOf x==some .cell) then NameKind.cell else k
 | [],x=>rfl
 | (n,k)::r,x=>by
  have ih:=u1s env r x;show List.lookup x ((if (k==NameKind.free&&env.scope.kind==.function&&env.kindOf n==some .cell)=true then (n,NameKind.cell) else (n,k))::_)=_
  cases hx:x==n with
  | true =>
   have e:=eq_of_beq hx;subst e;by_cases hc:(k==NameKind.free&&env.scope.kind==.function&&env.kindOf x==some .cell)=true
   ·rw[if_pos hc];simp only[t9,hx,Option.map_some,if_pos hc]
   ·rw[if_neg hc];simp only[t9,hx,Option.map_some,if_neg hc]
  | false =>
   by_cases hc:(k==NameKind.free&&env.scope.kind==.function&&env.kindOf n==some .cell)=true
   ·rw[if_pos hc];simp only[t9,hx];exact ih
   ·rw[if_neg hc];simp only[t9,hx];exact ih
abbrev cxC (X:Cx) (own:List Str) (outs:List Nat) (scope:Scope) (cl:List (Str×Addr)) (C:Addr) (s:Shared) (H:Hp) (fp:List Addr):Cx where
 prog:=X.prog
 w:=X.w
 K:=X.K
 mg:=X.mg
 base:=X.base
 A:=X.A
 N:=own++outs.map λj=>X.N.getD j Str.empty
 s₀:=s
 H₀:=H
 env:=compEnvC scope cl C X.env
 outer:=X.stack
 stack:=X.stack
 ex:=fp
 fn:=λ_=>false
 calm:=X.calm
 pn:=[]
 xe:=λ_ _=>False
noncomputable def stC (k:Nat) (outs:List Nat) (σ:St):St:=List.replicate k none++outs.map λj=>(σ[j]?).join
structure CompOk (sc:Scope) (N:List Str) (own:List Str) (outs:List Nat) (scope:Scope):Prop where
 kind:scope.kind=.function
 cell:∀y∈scope.names,y.2≠.cell
 loc:∀y∈scope.names,y.2=.local->scope.names.lookup y.1=some .local
 fre:∀y∈scope.names,y.2=.free->sc.names.lookup y.1=some .cell\/sc.names.lookup y.1=some .free
 out:∀j∈outs,∃y,N[j]?=some y/\scope.names.lookup y=some .free
 ownN:∀y∈own,scope.names.lookup y=some .local
noncomputable def compB (sc:Scope) (N:List Str) (own:List Str) (outs:List Nat) (scope:Scope):Bool :=
 decide (scope.kind=.function)&&scope.names.all (λy=>y.2 != .cell)&&scope.names.all (λy=>y.2 != .local||scope.names.lookup y.1==some .local) &&
 scope.names.all (λy=>y.2 != .free||sc.names.lookup y.1==some .cell||sc.names.lookup y.1==some .free) &&
 outs.all (λj=>match N[j]? with|some y=>scope.names.lookup y==some .free|none=>false)&&own.all (λy=>scope.names.lookup y==some .local)
def u0l {sc:Scope}{N own:List Str}{outs:List Nat}{scope:Scope} (h:compB sc N own outs scope=true):CompOk sc N own outs scope:=by
 unfold compB at h;simp only[z0A,z2C,decide_eq_true_eq] at h;obtain⟨⟨⟨⟨⟨h1,h2⟩,h3⟩,h4⟩,h5⟩,h6⟩:=h;refine⟨h1,λy hy=>?_,λy hy hl=>?_,λy hy hl=>?_,λj hj=>?_,λy hy=>?_⟩
 ·simpa using h2 y hy
 ·have:=h3 y hy
  rw[hl] at this;simpa using this
 ·have:=h4 y hy
  rw[hl] at this;simpa using this
 ·have:=h5 j hj
  cases e:N[j]? with
  | none=>rw[e] at this;cases this
  | some y=>rw[e] at this;exact⟨y,rfl,by simpa using this⟩
 ·simpa using h6 y hy
def PIf (X:Cx) (ifs:List Expr) (t:TT):Prop :=
 ∀(pins:LO) (s:Shared) (σ:St) (H:Hp) (Q:Bool->Hp->Prop),Inv X pins σ H s->t σ H Q ->
  wpAny (model X.prog X.w) X.A (forIn ifs true λc r=>if r=true then do let ok <- isTrue c X.env (eval c X.env);pure (ForInStep.yield ok) else pure (ForInStep.yield r)) (TP X pins σ Q) X.xe s
def tYes:TT:=λ_ H Q=>Q true H
def pif_nil {X:Cx}:PIf X [] tYes:=λpins s σ H Q I h=>wpAny_pure ⟨H,I,h⟩
def pif_one {X:Cx}{c:Expr}{t:TT} (hc:PT X c t):PIf X [c] t:=λpins s σ H Q I h=>by
 rw[List.forIn_cons];simp only[if_true,List.forIn_nil];refine wpAny_bind (wpAny_bind (thn (hc pins s σ H Q I h) λb s1 q=>wpAny_pure (wpAny_pure q)))
def CompRd (k:Nat) (outs:List Nat) (σ:St) (g:TG) (ti:TT) (te:TE) (J:It) (H1:Hp) (Q:VK):Prop:=∃W:Nat->Nat->List V->Hp->Prop,(∃m,W 0 m [] H1)/\∀i m ys H,W i m ys H->ys.length<=sizeLine /\
 ((J.stop i H/\∀ p,H p=none->Q (.ref p) (upd H p (.lst ys))) \/
  (J.go i H/\∃N:List V->Hp->Prop,(∀ys' H',N ys' H'->∃m',m'<m/\W (i+1) m' ys' H')/\∀x H',J.yld i H x H'->g x (stC k outs σ) H' λσ2 H2=>σ2.drop k=(outs.map λj=>(σ[j]?).join)/\ti σ2 H2 λb H3=>if b=true then te σ2 H3 λy H4=>N (ys++[y]) H4 else N ys H3))
def tComp (k:Nat) (outs:List Nat) (wi:TI) (g:TG) (ti:TT) (te:TE):TE:=λσ H Q=>wi σ H λJ H1=>CompRd k outs σ g ti te J H1 Q
theorem u4t {prog:Program}{w:World}{A:Around}{R:Result->Shared->Prop}{s:Shared}{elt target iter:Expr}{ifs:List Expr}{scope:Scope}{pos:Pos}{it acc:Value}{env:Env} (I:Nat->Shared->Prop)
  (turn:∀ n s,I n s->wpAny (model prog w) A (pyNext it) (fun r s₁=>match r with
   | none=>R (.ok .next) s₁
   | some v=>wpAny (model prog w) A (letOwnedTupleGo target it v) (λ_ s₁'=>wpAny (model prog w) A (assign target env v) (λ_ s₂ =>
     wpAny (model prog w) A (forIn ifs true λc r=>if r=true then do let ok <- isTrue c env (eval c env);pure (ForInStep.yield ok) else pure (ForInStep.yield r)) (λok s₃ =>
      if ok=true then wpAny (model prog w) A (eval elt env) (λx s₄ =>
       wpAny (model prog w) A (call (.builtin "list.append") [acc,x]) (λ_ s₅=>∃m,m<n/\I m s₅) (λ_ _=>False) s₄) (λ_ _=>False) s₃
      else ∃m,m<n/\I m s₃) (λ_ _=>False) s₂) (λ_ _=>False) s₁') (λ_ _=>False) s₁) (λ_ _=>False) s)
  (n:Nat) (h:I n s) :
  codeAny (model prog w) A (.compLoop (.ListComp elt [⟨target,iter,ifs,0⟩] scope pos) 0 it acc env) R s:=by
 refine codeAny_loop rfl I (λn s hI=>?_) n h
 show wpAny _ A ((compTurn (.ListComp elt [⟨target,iter,ifs,0⟩] scope pos) 0 it acc env).onRaise (λx=>do noteFrame x env;theTreesLotGoes x)) _ _ s
 refine wpAny_noted ?_;rw[compTurn_list];refine wpAny_bind (wpAny_standAt (wpAny_bind (wpAny_mono (turn n s hI) (λr s₁ h₁=>?_) λ_ _ h'=>h'.elim)))
 cases r with
 | none=>exact wpAny_pure h₁
 | some v =>
  refine wpAny_bind (wpAny_mono h₁ (λ_ s₁' h₁'=>?_) λ_ _ h'=>h'.elim)
  refine wpAny_bind (wpAny_mono h₁' (λ_ s₂ h₂=>wpAny_bind (wpAny_mono h₂ (λok s₃ h₃=>?_) λ_ _ h'=>h'.elim)) λ_ _ h'=>h'.elim)
  cases ok with
  | false=>exact wpAny_pure ⟨rfl,h₃⟩
  | true =>
   exact wpAny_bind (wpAny_bind (wpAny_mono h₃ (λx s₄ h₄=>wpAny_bind (wpAny_mono h₄ (λ_ s₅ h₅=>wpAny_pure (wpAny_pure ⟨rfl,h₅⟩)) λ_ _ h'=>h'.elim)) λ_ _ h'=>h'.elim))
section
variable {X:Cx}{pins:LO}{σ:St}{H:Hp}{s:Shared}{own:List Str}{outs:List Nat}{scope:Scope}{cl:List (Str×Addr)}{C:Addr}{fp:List Addr}
def u6h {sc:Scope} (ok:CompOk X.env.scope X.N own outs scope) {x:Str} (h:(compEnvC scope cl C X.env).kindOf x=some .cell\/(compEnvC scope cl C X.env).kindOf x=some .free):(x,NameKind.free)∈scope.names:=by
 have e:(compEnvC scope cl C X.env).kindOf x=(scope.names.lookup x).map λk=>if (k==NameKind.free&&X.env.scope.kind==.function&&X.env.kindOf x==some .cell) then NameKind.cell else k:=u1s X.env scope.names x
 rw[e] at h;cases q:scope.names.lookup x with
 | none=>rw[q] at h;simp at h
 | some k =>
  have hm:=PySem.mem_of_lookup q;by_cases hk:k=.free
  ·subst hk;exact hm
  ·rw [q] at h
   have hkf:(k==NameKind.free)=false:=by simpa using hk
   simp only[Option.map_some,hkf,Bool.false_and,t8,if_false,Option.some.injEq] at h;rcases h with h|h
   ·exact absurd h (ok.cell _ hm)
   ·exact absurd h hk
def cxC_ok (I:Inv X pins σ H s) (ok:CompOk X.env.scope X.N own outs scope) (hcl:∀x c,cl.lookup x=some c->X.env.cells.lookup x=some c) (hcf:∀x∈scope.names,x.2=.free->∃c,cl.lookup x.1=some c)
  (hC:s.heap.objs.size<=C) (hfp:∀b∈fp,FpOk X pins H b) (hfs:∀b∈fp,b<s.heap.objs.size):(cxC X own outs scope cl C s H fp).Ok where
 mod:=I.ok.mod
 kind:=ok.kind
 glob:=I.ok.glob
 blt:=I.ok.blt
 above:=hC
 inj:=λx y c h1 h2=>I.ok.inj x y c (hcl x c h1) (hcl y c h2)
 has:=λx h=>by
  have hm:=u6h (sc:=scope) ok h;exact hcf _ hm rfl
 cab:=λx c h _=>by cases h
 hd:=I.ok.hd
 frames:=I.ok.frames
 stk:=.inl rfl
 exf:=λb hb=>⟨v5 (w5 (hfs b hb) hC),λx c e=>(hfp b hb).2.2.2.2.1 x c (hcl x c e)⟩
 bs:=I.bs
 bsz:=v7 I.ok.bsz I.sz
 noex:=λb o e hb=>by
  rcases(hfp b hb).2.2.2.1 with z|z
  ·exact I.ok.noex b o e z
  ·have h1:b<X.base.objs.size:=z7 e
   exact absurd (w5 h1 (v7 I.ok.bsz z)) (z0B _)
 exfs:=λb hb z=>by
  rcases y7.mp (I.stkSub b z) with q|q
  ·exact(hfp b hb).2.1 q
  ·exact(hfp b hb).2.2.1 q
 funs:=I.stack
 frf:=I.stkFree
def getD_eq {N:List Str}{j:Nat}{y:Str} (h:N[j]?=some y):N.getD j Str.empty=y:=by
 rw[List.getD_eq_getElem?_getD,h];rfl
def v2Y (I:Inv X pins σ H s) (ok:CompOk X.env.scope X.N own outs scope) (hcl:∀x c,cl.lookup x=some c->X.env.cells.lookup x=some c) (hcf:∀x∈scope.names,x.2=.free->∃c,cl.lookup x.1=some c)
  (hC:s.heap.objs.size<=C) (hfp:∀b∈fp,FpOk X pins H b) (hfs:∀b∈fp,b<s.heap.objs.size) {h':Heap}{t':Nat}{m:MG} (hk:∀b o,s.heap.get? b=some o->h'.get? b=some o) (hn:h'.Ns C m) :
  Inv (cxC X own outs scope cl C s H fp) [] (stC own.length outs σ) H { s with heap:=h',toks:=t' }:=by
 refine⟨cxC_ok I ok hcl hcf hC hfp hfs,rfl,I.bare,Un.kept hk,⟨m,hn,λi x v e1 e2 e3=>?_⟩,λx c e=>?_,I.hok.fresh hC,λx c e=>I.freeC x c (hcl x c e),λp hp=>(nomatch hp),I.hok.kept hk,?_⟩
 ·have hi:own.length<=i:=by
   by_cases hi:own.length<=i
   ·exact hi
   ·exfalso
    unfold stC at e2;rw[z2D (by simp;omega),z0I] at e2
    split at e2<;>cases e2
  unfold stC at e2;rw[z1D (by simp;omega),z1B,w9] at e2
  have e1':(own++outs.map λj=>X.N.getD j Str.empty)[i]?=some x:=e1
  rw[z1D hi,w9] at e1';cases q:outs[i - own.length]? with
  | none=>rw[q] at e2;cases e2
  | some j =>
   rw[q] at e1' e2;obtain⟨y,hy,hyf⟩:=ok.out j (List.mem_of_getElem? q);have ex:y=x:=by
    rw[<- getD_eq hy];exact Option.some.inj e1'
   subst ex;have ev:σ[j]?=some (some v):=by
    have e2':(σ[j]?).join=some v:=Option.some.inj e2;cases z:σ[j]? with
    | none=>rw[z] at e2';cases e2'
    | some o=>rw[z] at e2';cases o with
     | none=>cases e2'
     | some v'=>cases e2';rfl
   obtain⟨m0,hn0,hl⟩:=I.loc;have hkd:=ok.fre (y,.free) (PySem.mem_of_lookup hyf) rfl;obtain⟨u,r,l⟩:=hl j y v hy ev (hkd.elim (λz=>.inr (.inl z)) λz=>.inr (.inr z))
   refine⟨u,r,?_⟩;rcases l with⟨k,_⟩|⟨k,c,ec,hcell⟩
   ·exfalso
    have k':X.env.scope.names.lookup y=some .local:=k;rcases hkd with z|z
    ·have z':X.env.scope.names.lookup y=some .cell:=z
     rw[k'] at z';cases z'
    ·have z':X.env.scope.names.lookup y=some .free:=z
     rw[k'] at z';cases z'
   ·refine .inr ⟨?_,?_⟩
    ·have e:(compEnvC scope cl C X.env).kindOf y=(scope.names.lookup y).map fun k=>if (k==NameKind.free&&X.env.scope.kind==.function&&X.env.kindOf y==some .cell) then NameKind.cell else k:=u1s X.env scope.names y
     show(compEnvC scope cl C X.env).kindOf y=_\/(compEnvC scope cl C X.env).kindOf y=_;rw[e,hyf,Option.map_some];split
     ·exact .inl rfl
     ·exact .inr rfl
    ·obtain ⟨c',ec'⟩:=hcf (y,.free) (PySem.mem_of_lookup hyf) rfl
     refine⟨c',ec',?_⟩
     have:c'=c:=Option.some.inj ((hcl y c' ec').symm.trans ec)
     subst this;obtain⟨o,ho,hd⟩:=hcell;exact⟨o,hk _ o ho,hd⟩
 ·obtain ⟨v,o,ho,hd⟩:=I.cell x c (hcl x c e)
  exact⟨v,o,hk c o ho,hd⟩
 ·unfold stC
  show _=(own++outs.map λj=>X.N.getD j Str.empty).length
  simp
end
section
variable {X:Cx}{tg iter elt:Expr}{ifs:List Expr}{own:List Str}{outs:List Nat}{scope:Scope}{wi:TI}{g:TG}{ti:TT}{te:TE}{pos:Pos}
def u6u {pins:LO}{σ:St}{H:Hp}{s:Shared}{cl:List (Str×Addr)}{it:Addr}{fp:List Addr}{tn:Nat->Heap->Prop}{J:It}{E:VP}{Q:VK} (hc:X.calm=true) (ok:CompOk X.env.scope X.N own outs scope)
  (hcl:∀x c,cl.lookup x=some c->X.env.cells.lookup x=some c) (hcf:∀x∈scope.names,x.2=.free->∃c,cl.lookup x.1=some c)
  (hg:∀{C fp},PG (cxC X own outs scope cl C s H fp) tg g) (hf:∀{C fp},PIf (cxC X own outs scope cl C s H fp) ifs ti) (he:∀{C fp},PE (cxC X own outs scope cl C s H fp) elt te)
  (I:Inv X pins σ H s) (T:Turn X.prog X.w X.K tg J fp it tn) (st:tn 0 s.heap) (f2:∀b∈fp,FpOk X pins H b)
  (hW:CompRd own.length outs σ g ti te J H Q)
  {RR:Value->Addr->Result->Shared->Prop}
  (hRR:∀D C Hf s' m,s'.heap.Ns C m->Inv X pins σ Hf s'->Hf C=none->C≠X.env.locals->X.s₀.heap.objs.size<=C->(∀x c,X.env.cells.lookup x=some c->c≠C)->(∀p∈X.pn++pins,p.1≠C)->Q (.ref D) Hf->RR (.ref D) C (.ok .next) s') :
  wpAny (model X.prog X.w) X.A (newList []) (λacc s₃=>wpAny (model X.prog X.w) X.A (newFunctionEnv scope X.env.globals cl [] X.env.qual none .none (some X.env)) (λcenv s₄ =>
   codeAny (model X.prog X.w) X.A (.compStart (.ListComp elt [⟨tg,iter,ifs,0⟩] scope pos) 0 (.ref it) acc { cenv with scope:=relabel scope X.env }) (RR acc cenv.locals) s₄) E s₃) E s:=by
 obtain⟨W,⟨m0,w0⟩,turn⟩:=hW;have hfs:∀b∈fp,@LT.lt Nat _ b s.heap.objs.size:=λb hb=>let ⟨o,e,_⟩:=T.obj _ _ st b hb;z7 e
 refine wpAny_newObj_type (wpAny_newFunctionEnv ok.cell (by intro y hy;simp at hy) (λh₁ hns₁ hsb₁=>?_) ok.kind)
 dsimp only at hns₁ hsb₁ |-
 generalize hH2:s.heap.push { cls:=.type "list",dict:=none,data:=.seq ([]:List Value).toArray }=H2 at hns₁ hsb₁ |-
 have hC:H2.objs.size=s.heap.objs.size+1:=by rw[<- hH2,Heap.size_push]
 generalize eC:H2.objs.size=C at hns₁ hsb₁ hC |-
 have hDC:s.heap.objs.size≠C:=by omega
 have below:∀b,b<s.heap.objs.size->b≠C/\b≠s.heap.objs.size:=λb hb=>⟨by omega,by omega⟩
 have old:∀b o,s.heap.get? b=some o->h₁.get? b=some o:=λb o e=>hsb₁.extBut b o (below b (z7 e)).1 (z5 _ (hH2 ▸ z5 _ e))
 have hacc:h₁.PlainList s.heap.objs.size #[]:=⟨_,hsb₁.extBut _ _ hDC (z5 _ (hH2 ▸ z6 _ rfl))⟩;have hst₁:tn 0 h₁:=T.keep _ _ _ st λb _ o e=>old b o e
 have fresh:∀a,s.heap.objs.size<=a->s.heap.get? a=none:=λa ha=>by
  cases e:s.heap.get? a with
  | none=>rfl
  | some o'=>exact absurd (z7 e) (Nat.not_lt.mpr ha)
 obtain⟨D,hD⟩:∃D:Nat,s.heap.objs.size=D:=⟨_,rfl⟩;rw[hD] at hDC hacc |-
 have hDs:s.heap.get? D=none:=fresh D (Nat.le_of_eq hD);have hCs:s.heap.get? C=none:=fresh C (by omega)
 have hDfp:D∉fp:=λz=>by have:=hfs D z;omega
 have hI0:∀t',Inv (cxC X own outs scope cl C s H fp) [] (stC own.length outs σ) H { s with heap:=h₁,toks:=t' }:=λt'=>v2Y I ok hcl hcf (by omega) f2 hfs old hns₁
 have cellNe:∀x c,cl.lookup x=some c->@LT.lt Nat _ c s.heap.objs.size:=λx c e=>let ⟨v,q⟩:=I.cell x c (hcl x c e);q.lt
 have stkLt:∀b∈frs X.stack,@LT.lt Nat _ b s.heap.objs.size:=λb hb=>by
  obtain⟨_,o,ho,_⟩:=I.stack.mem hb;exact z7 ho
 have stat:∀{H':Hp}{oD:Obj},(∀b∈fp,H' b=none)->∀b∈fp,FpOk (cxC X own outs scope cl C s H fp) [(D,oD)] H' b:=λ{H' oD} hn b hb=>by
  refine⟨hn b hb,(below b (hfs b hb)).1,λz=>?_,.inl hb,λx c e z=>(f2 b hb).2.2.2.2.1 x c (hcl x c e) z,λp hp z=>?_⟩
  ·rcases y7.mp (I.stkSub b z) with q | q
   ·exact(f2 b hb).2.1 q
   ·exact(f2 b hb).2.2.1 q
  ·have:p=(D,oD):=by simpa using hp
   subst this;exact hDfp (show D∈fp from(show D=b from z) ▸ hb)
 have loop:∀s₃:Shared,s₃={ s with heap:=h₁,toks:=s.toks+([]:List (Str×Value)).length } ->
   codeAny (model X.prog X.w) X.A (.compLoop (.ListComp elt [⟨tg,iter,ifs,0⟩] scope pos) 0 (.ref it) (.ref D) (compEnvC scope cl C X.env)) (RR (.ref D) C) s₃:=by
  rintro s₃ rfl;refine u4t (λn s'=>∃i ys us nn H',Inv (cxC X own outs scope cl C s H fp) [(D,{ cls:=.type "list",data:=.seq us.toArray nn })] (stC own.length outs σ) H' s'/\tn i s'.heap/\(∀b∈fp,H' b=none)/\Vals ys us/\W i n ys H') ?_ m0 ?_
  ·rintro n s3 ⟨i,ys,us,nn,H3,I3,st3,fr3,hv,w3⟩
   have hD3:=I3.pin (D,_) (t0 _ z8);obtain⟨hz,ht⟩:=turn i n ys H3 w3;rcases ht with⟨stop,qn⟩|⟨go,NN,hNN,step⟩
   ·refine thn (T.done (cxC X own outs scope cl C s H fp) rfl rfl rfl hc i _ s3 _ H3 _ I3 (stat fr3) st3 stop) fun r s4 z962=>?_
    obtain⟨hr,I4⟩:=z962;subst hr;have hD4:=I4.pin (D,_) (t0 _ z8);obtain⟨m4,hn4,_⟩:=I4.loc;have hC4:H3 C=none:=I4.free;have hok:HOk X.prog X.w (upd H3 D (.lst ys)) s4.heap:=I4.hok.track hD4.2.1 ⟨hz,us,nn,hv,hD4.1⟩;have hun:Un (frs X.stack) fp H (upd H3 D (.lst ys)) s.heap s4.heap:=Un.track I4.base hD4.2.1 hDs;have I5:Inv X pins σ (upd H3 D (.lst ys)) s4:=I.call' I4.os hun hok I4.bare λb hb=>⟨(f2 b hb).2.2.2.1,(f2 b hb).2.1,(f2 b hb).2.2.2.2.1,(f2 b hb).2.2.2.2.2⟩
    refine hRR D C _ s4 m4 hn4 I5 (by rw[u0f hDC.symm];exact hC4) ?_ ?_ ?_ ?_ (qn D hD4.2.1)
    ·intro z
     have h1:@LT.lt Nat _ X.env.locals s.heap.objs.size:=I.lt;have z':@Eq Nat C X.env.locals:=z;omega
    ·have h1:=I.sz
     exact v7 h1 (by omega)
    ·intro x c e z
     obtain⟨v,q⟩:=I.cell x c e;have h1:@LT.lt Nat _ c s.heap.objs.size:=q.lt;have z':@Eq Nat c C:=z;omega
    ·intro p hp z
     have h1:@LT.lt Nat _ p.1 s.heap.objs.size:=z7 (I.pin p hp).1;have z':@Eq Nat p.1 C:=z;omega
   ·refine thn (T.item (cxC X own outs scope cl C s H fp) rfl rfl rfl hc i _ s3 _ H3 (fun _ _=>False) I3 (stat fr3) st3 go) fun r s4 z963=>?_
    obtain⟨u,hr,h4⟩:=z963;subst hr;refine thn h4 λ_ s5 z964=>?_
    obtain⟨x,H5,I5,r5,y5,st5,fr5⟩:=z964;have I5':=I5.pinned (stat fr5) (T.obj _ _ st5);refine thn (hg _ s5 _ H5 x u _ I5' r5 (step x H5 y5)) λ_ s6 z965=>?_
    obtain⟨σ6,H6,I6,d6,q6⟩:=z965;have weak:∀{H7:Hp}{s7:Shared}{us':List Value}{nn':Nat},Inv (cxC X own outs scope cl C s H fp) [(D,{ cls:=.type "list",data:=.seq us'.toArray nn' })] σ6 H7 s7->Inv (cxC X own outs scope cl C s H fp) [(D,{ cls:=.type "list",data:=.seq us'.toArray nn' })] (stC own.length outs σ) H7 s7:=λ{H7 s7 us' nn'} I7=>by
     refine I7.weak (by have e:=I7.len;have e2:(cxC X own outs scope cl C s H fp).N.length=own.length+outs.length:=by simp
                        rw[e,e2];unfold stC;simp) λj v e=>?_
     have hj:own.length<=j:=by
      by_cases hj:own.length<=j
      ·exact hj
      ·exfalso
       unfold stC at e;rw[z2D (by simp;omega),z0I] at e
       split at e<;>cases e
     unfold stC at e;rw[z1D (by simp;omega),z1B,<- d6,List.getElem?_drop] at e
     rw[show own.length+(j - own.length)=j by omega] at e
     exact e
    refine thn (hf _ s6 σ6 H6 _ I6 q6) λb s7 z966=>?_
    obtain⟨H7,I7,q7⟩:=z966;have keepT:∀{H8:Hp}{s8:Shared},Inv (cxC X own outs scope cl C s H fp) ([(D,{ cls:=.type "list",data:=.seq us.toArray nn })]++pinsAt fp s5.heap) σ6 H8 s8->(∀b∈fp,∀o,s5.heap.get? b=some o->s8.heap.get? b=some o)/\∀b∈fp,H8 b=none:=λ{H8 s8} I8=>by
     refine⟨λb hb o e=>(I8.pin (b,o) (t0 _ (t0 _ (u1U hb e)))).1,λb hb=>?_⟩
     obtain⟨o,e,d⟩:=T.obj _ _ st5 b hb;exact(I8.pin (b,o) (t0 _ (t0 _ (u1U hb e)))).2.1
    cases b with
    | false =>
     rw[if_neg (by simp)] at q7
     rw[if_neg (by simp)]
     obtain⟨m',hm,w7⟩:=hNN _ _ q7;exact⟨m',hm,i+1,ys,us,nn,H7,weak I7.unpinned,T.keep _ _ _ st5 (keepT I7).1,(keepT I7).2,hv,w7⟩
    | true =>
     rw[if_pos rfl] at q7;rw[if_pos rfl];refine thn (he _ s7 σ6 H7 _ I7 q7) λu8 s8 z967=>?_
     obtain⟨y8,H8,I8,r8,q8⟩:=z967;obtain⟨m',hm,w8⟩:=hNN _ _ q8;have hD8:=I8.pin (D,_) (t0 _ (z0D _ z8));refine wpAny_list_append_plain (hsz:=by rw[y9,<- hv.length];exact hz) (x:=u8) ⟨nn,hD8.1⟩ λh9 hl9 hs9=>?_
     obtain⟨n9,e9⟩:=hl9;have k9:∀b o,b≠D->s8.heap.get? b=some o->h9.get? b=some o:=λb o hb e=>(hs9.2 b hb).trans e
     have I8':Inv (cxC X own outs scope cl C s H fp) [] σ6 H8 s8:=I8.pins_of λp hp=>(nomatch hp)
     have I9:Inv (cxC X own outs scope cl C s H fp) [] σ6 H8 { s8 with heap:=h9,toks:=s8.toks }:=I8'.turned k9 hD8.2.1 hDC (.inr (by show s.heap.objs.size<=D;omega)) (λx c e z=>by have h1:=cellNe x c e;have z':@Eq Nat c D:=z;omega) (λp hp=>(nomatch hp))
     have e9':h9.get? D=some { cls:=.type "list",data:=.seq (us++[u8]).toArray n9 }:=by
      rw[e9];simp
     have I9':Inv (cxC X own outs scope cl C s H fp) [(D,{ cls:=.type "list",data:=.seq (us++[u8]).toArray n9 })] σ6 H8 { s8 with heap:=h9,toks:=s8.toks }:=I9.pins_of λp hp=>by
      have:p=(D,{ cls:=.type "list",data:=.seq (us++[u8]).toArray n9 }):=by simpa using hp
      subst this;refine⟨e9',hD8.2.1,hDC,λz=>?_,λv z=>by cases z⟩
      have:=stkLt D z
      omega
     refine⟨m',hm,i+1,ys++[y8],us++[u8],n9,H8,weak I9',?_,(keepT I8).2,hv.append (.cons r8 .nil),w8⟩;exact T.keep _ _ _ st5 λb hb o e=>k9 b o (λz=>hDfp (show D∈fp from(show b=D from z) ▸ hb)) ((keepT I8).1 b hb o e)
  ·obtain ⟨n0,e0⟩:=hacc
   refine⟨0,[],[],n0,H,(hI0 _).pins_of λp hp=>?_,hst₁,λb hb=>(f2 b hb).1,.nil,w0⟩
   have:p=(D,{ cls:=.type "list",data:=.seq ([]:List Value).toArray n0 }):=by simpa using hp
   subst this;refine⟨e0,I.hok.fresh (by omega),hDC,λz=>?_,λv z=>by cases z⟩
   have:=stkLt D z
   omega
 exact codeAny_compStart_list (loop _ rfl) (T.self _ 0 _ _ _ hst₁ (loop _ rfl))
def u6l {scope:Scope}{pins:LO}{σ:St}{H:Hp}{s:Shared} (I:Inv X pins σ H s) (ok:CompOk X.env.scope X.N own outs scope):∀x∈scope.names,x.2=.free->∃c,X.env.cells.lookup x.1=some c:=λx hx hf=>I.ok.has x.1 (ok.fre x hx hf)
def pe_comp (own:List Str) (outs:List Nat) (hc:X.calm=true) (ok:CompOk X.env.scope X.N own outs scope) (hi:PI X tg iter wi)
  (hg:∀{cl C s H fp},PG (cxC X own outs scope cl C s H fp) tg g) (hf:∀{cl C s H fp},PIf (cxC X own outs scope cl C s H fp) ifs ti) (he:∀{cl C s H fp},PE (cxC X own outs scope cl C s H fp) elt te)
  (hs:∀x,foldedSetIterable iter X.env x=pure x:=by intro _;rfl):PE X (.ListComp elt [⟨tg,iter,ifs,0⟩] scope pos) (tComp own.length outs wi g ti te):=by
 intro pins s σ H Q I h;obtain⟨cl,ecl,hcl,hcf⟩:=u1F (u6l I ok);rw[eval_ListComp];refine wpAny_comprehension_free (use:=none) rfl hs ecl ok.kind ok.loc (thn (hi pins s σ H _ I h) λxv s₁ h₁=>thn h₁ λitv s₂ h₂=>?_)
 obtain⟨it,fp,tn,J,H2,e,I2,T,st2,f2,hW⟩:=h₂;subst e;refine u6u (Q:=Q) (RR:=λacc C=>compPost (model X.prog X.w) X.A X.xe none (EP X pins σ Q) acc C) hc ok hcl hcf hg hf he I2 T st2 f2 hW ?_
 intro D C Hf s' m hn I' hC hL hs0 hce hpi q;refine⟨m,hn,λh' hs'=>?_⟩
 exact⟨.ref D,Hf,I'.turned (t':=s'.toks) (λb o hb e=>(hs'.2 b hb).trans e) hC hL (.inr hs0) hce hpi,rfl,q⟩
set_option tactic.hygienic true in
def u4D {i:Nat}{y:Str}{py spos:Pos} (own:List Str) (outs:List Nat) (hc:X.calm=true) (ok:CompOk X.env.scope X.N own outs scope) (hN:X.N.Nodup) (hy:X.N[i]?=some y) (hx:X.env.scope.names.lookup y=some .local) (hi:PI X tg iter wi)
  (hg:∀{cl C s H fp},PG (cxC X own outs scope cl C s H fp) tg g) (hf:∀{cl C s H fp},PIf (cxC X own outs scope cl C s H fp) ifs ti) (he:∀{cl C s H fp},PE (cxC X own outs scope cl C s H fp) elt te)
  (hsw:swapsWith (.ListComp elt [⟨tg,iter,ifs,0⟩] scope pos) (some (.Name y py)) spos.line X.env=pure true:=by rfl)
  (hs:∀x,foldedSetIterable iter X.env x=pure x:=by intro _;rfl):PS X (.Assign [.Name y py] (.ListComp elt [⟨tg,iter,ifs,0⟩] scope pos) spos) (tAsg (tComp own.length outs wi g ti te) (gName i)):=by
 intro pins s σ H D I h;obtain⟨cl,ecl,hcl,hcf⟩:=u1F (u6l I ok);rw[exec_Assign_Name_used _ _ _ _ hsw];refine wpAny_bind (wpAny_standAt (wpAny_bind ?_));show wpAny _ X.A (do let _ <- comprehension (.ListComp elt [⟨tg,iter,ifs,0⟩] scope pos) scope X.env _ (newList []) false (eval iter X.env) (some (assign (.Name y py) X.env))) _ _ s
 refine wpAny_bind (wpAny_mono (wpAny_comprehension_free (use:=some (assign (.Name y py) X.env)) (Q:=λ_ s'=>SP X pins D .next s') rfl hs ecl ok.kind ok.loc
  (thn (hi pins s σ H _ I h) λxv s₁ h₁=>thn h₁ λitv s₂ h₂=>?_)) (λ_ s' hq=>wpAny_pure (wpAny_pure hq)) λ_ _ e=>e)
 obtain⟨it,fp,tn,J,H2,e,I2,T,st2,f2,hW⟩:=h₂;subst e;refine u6u (Q:=λx H1=>gName i x σ H1 D.nx) (RR:=λacc C=>compPost (model X.prog X.w) X.A X.xe (some (assign (.Name y py) X.env)) (λ_ s'=>SP X pins D .next s') acc C) hc ok hcl hcf hg hf he I2 T st2 f2 hW ?_
 intro D' C Hf s' m hn I' hC hL hs0 hce hpi q;show wpAny _ X.A (assign (.Name y py) X.env (.ref D')) _ _ _;refine wpAny_assign_Name (u5H I' hN hy (.inl hx) (v:=.ref D') rfl (λs2 I2' z968=>?_) (.inr hx))
 obtain⟨a,hsb,ha⟩:=z968;have haC:C≠a:=by
  rcases ha with rfl|ha
  ·exact hL
  ·exact λz=>hce _ _ ha z.symm
 refine⟨m,hn.sameBut hsb haC,λh' hs'=>?_⟩
 exact⟨_,Hf,I2'.turned (t':=s2.toks) (λb o hb e=>(hs'.2 b hb).trans e) hC hL (.inr hs0) hce hpi,q⟩
end
section
variable {X:Cx}{tg:Expr}
def rSlS:V->Option Int->Option Int->Hp->VK->Prop:=λx lo hi H Q=>∃z,x=.str z/\z.length<=sizeLine/\Q (.str (Txt.slice z lo hi)) H
def sl_str:SlR X rSlS:=by
 intro pins s σ H x v vl vu lo hi sl Q I rx hs pl pu h;obtain⟨z,rfl,hz,q⟩:=h;obtain⟨t,rfl⟩:=rx;refine⟨"str",_,PySem.F.slot_str_getitem.lookup,typeIs_str _ _ _,?_⟩;have fin:∀lo' hi',lo'=lo->hi'=hi->∀t' k,EP X pins σ Q (.str (Txt.slice z lo' hi') t') { s with toks:=k }:=λlo' hi' e1 e2 t' k=>by
  subst e1 e2;exact⟨.str _,H,I.tok k,⟨t',rfl⟩,q⟩
 obtain⟨o,ho,hc,hd⟩:=hs;cases pl with
 | none =>
  cases pu with
  | none=>exact wpAny_getItem_str_slice (l:=none) (u:=none) (st:=none) ⟨o,ho,hc,hd⟩ rfl (post_val_or_str ⟨v7 (Txt.slice_le z _ _) hz,λt' k=>fin _ _ rfl rfl t' k⟩)
  | int j uj=>exact wpAny_getItem_str_slice (l:=none) (u:=some (j,uj)) (st:=none) ⟨o,ho,hc,hd⟩ rfl (post_val_or_str ⟨v7 (Txt.slice_le z _ _) hz,λt' k=>fin _ _ rfl rfl t' k⟩)
 | int i ui =>
  cases pu with
  | none=>exact wpAny_getItem_str_slice (l:=some (i,ui)) (u:=none) (st:=none) ⟨o,ho,hc,hd⟩ rfl (post_val_or_str ⟨v7 (Txt.slice_le z _ _) hz,λt' k=>fin _ _ rfl rfl t' k⟩)
  | int j uj=>exact wpAny_getItem_str_slice (l:=some (i,ui)) (u:=some (j,uj)) (st:=none) ⟨o,ho,hc,hd⟩ rfl (post_val_or_str ⟨v7 (Txt.slice_le z _ _) hz,λt' k=>fin _ _ rfl rfl t' k⟩)
def Its (z:Str):It:=⟨λi _=>i<z.cps.size,λi H x H'=>H'=H/\∃c,z.cps[i]?=some c/\x=.str ⟨#[c]⟩,λi _=>z.cps.size<=i⟩
def u8E {P:Program}{w:World}{K:W.Frag}{tg:Expr} (z:Str) (t:Tok) (it:Addr):Turn P w K tg (Its z) [it] it (λi h=>h.IsStrIter it "str_ascii_iterator" z t i) where
 mem:=by simp
 obj:=λi h st b hb=>by
  have e:b=it:=by simpa using hb
  subst e;obtain⟨o,e,c,d⟩:=st;exact⟨o,e,λv z=>by rw[d] at z;cases z⟩
 keep:=λi h h' st k=>let ⟨o,e,r⟩:=st;⟨o,k it (by simp) o e,r⟩
 item:=by
  intro X hP hw hK hc i pins s σ H E I hf st hg;subst hP hw hK;obtain⟨f0,f1,f2,f3,f4,f5⟩:=hf it (by simp)
  have hg':i<z.cps.size:=hg;refine wpAny_pyNext_ascii_item st (c:=z.cps[i]) (by simp[hg']) λh' st' sb=>?_
  have I1:Inv X pins σ H { s with heap:=h',toks:=s.toks+1 }:=I.turned (λb o hb e=>(sb.2 b hb).trans e) f0 f1 f3 f4 f5
  obtain⟨o,e,c,d⟩:=id st';exact⟨_,rfl,u9q (s:={ s with heap:=h',toks:=s.toks+1 }) e c d (by decide) ⟨.str ⟨#[z.cps[i]]⟩,H,I1,⟨_,rfl⟩,⟨rfl,z.cps[i],by simp[hg'],rfl⟩,st',λb hb=>(hf b hb).1⟩⟩
 done:=by
  intro X hP hw hK hc i pins s σ H E I hf st hg;subst hP hw hK;obtain⟨f0,f1,f2,f3,f4,f5⟩:=hf it (by simp)
  have hg':z.cps.size<=i:=hg;exact wpAny_pyNext_ascii_end (I.ok.hd hc) st (by simp;omega) λh' eb=>⟨rfl,I.turned (t':=s.toks) (λb o hb e=>eb b o hb e) f0 f1 f3 f4 f5⟩
 self:=λ_ _ _ _ _ st h=>wpAny_pyIter_striter_ascii st h
def u9F {P:Program}{w:World}{K:W.Frag}{tg:Expr} (z:Str) (t:Tok) (it:Addr):Turn P w K tg (Its z) [it] it (λi h=>h.IsStrIter it "str_iterator" z t i) where
 mem:=by simp
 obj:=λi h st b hb=>by
  have e:b=it:=by simpa using hb
  subst e;obtain⟨o,e,c,d⟩:=st;exact⟨o,e,λv z=>by rw[d] at z;cases z⟩
 keep:=λi h h' st k=>let ⟨o,e,r⟩:=st;⟨o,k it (by simp) o e,r⟩
 item:=by
  intro X hP hw hK hc i pins s σ H E I hf st hg;subst hP hw hK;obtain⟨f0,f1,f2,f3,f4,f5⟩:=hf it (by simp)
  have hg':i<z.cps.size:=hg;refine wpAny_pyNext_wide_item st (c:=z.cps[i]) (by simp[hg']) λh' st' sb=>?_
  have I1:Inv X pins σ H { s with heap:=h',toks:=s.toks+1 }:=I.turned (λb o hb e=>(sb.2 b hb).trans e) f0 f1 f3 f4 f5
  obtain⟨o,e,c,d⟩:=id st';exact⟨_,rfl,u9q (s:={ s with heap:=h',toks:=s.toks+1 }) e c d (by decide) ⟨.str ⟨#[z.cps[i]]⟩,H,I1,⟨_,rfl⟩,⟨rfl,z.cps[i],by simp[hg'],rfl⟩,st',λb hb=>(hf b hb).1⟩⟩
 done:=by
  intro X hP hw hK hc i pins s σ H E I hf st hg;subst hP hw hK;obtain⟨f0,f1,f2,f3,f4,f5⟩:=hf it (by simp)
  have hg':z.cps.size<=i:=hg;exact wpAny_pyNext_wide_end (I.ok.hd hc) st (by simp;omega) λh' eb=>⟨rfl,I.turned (t':=s.toks) (λb o hb e=>eb b o hb e) f0 f1 f3 f4 f5⟩
 self:=λ_ _ _ _ _ st h=>wpAny_pyIter_striter_wide st h
def iStr (tl:TE):TI:=λσ H R=>tl σ H λx H1=>∃z,x=.str z/\R (Its z) H1
def pi_str {l:Expr}{tl:TE} (hl:PE X l tl):PI X tg l (iStr tl):=by
 intro pins s σ H R I h;refine thn (hl pins s σ H _ I h) λv s1 z969=>?_
 obtain⟨x,H1,I1,r1,q1⟩:=z969;obtain⟨z,rfl,q⟩:=q1;obtain⟨t,rfl⟩:=r1;cases ha:z.cps.all (·<128) with
 | true =>
  refine wpAny_pyIter_ascii ha ?_;have hn:H1 s1.heap.objs.size=none:=I1.hok.fresh (y0 _);exact⟨s1.heap.objs.size,[s1.heap.objs.size],_,Its z,H1,rfl,I1.kept (t':=s1.toks) (λb o e=>z5 _ e),u8E z t _,⟨_,z6 _ rfl,rfl,rfl⟩,λb hb=>by
   have e:b=s1.heap.objs.size:=by simpa using hb
   subst e;exact I1.fpOk (y0 _) hn,q⟩
 | false =>
  refine wpAny_pyIter_wide ha ?_;have hn:H1 s1.heap.objs.size=none:=I1.hok.fresh (y0 _);exact⟨s1.heap.objs.size,[s1.heap.objs.size],_,Its z,H1,rfl,I1.kept (t':=s1.toks) (λb o e=>z5 _ e),u9F z t _,⟨_,z6 _ rfl,rfl,rfl⟩,λb hb=>by
   have e:b=s1.heap.objs.size:=by simpa using hb
   subst e;exact I1.fpOk (y0 _) hn,q⟩
def v3q (hc:X.calm=true):CallR X (.builtin "all") (λxs H Q=>∃(p:Addr) (bs:List Bool),xs=[.ref p]/\SqL X.K H p (bs.map V.bl)/\Q (.bl (bs.all id)) H):=by
 intro pins s σ H xs us Q I r h;obtain⟨p,bs,rfl,hq,q⟩:=h;obtain⟨u,rfl,ru⟩:=vals1 r;cases ru;obtain⟨its,rv,hl,hz⟩:=I.list hq;have hlen:=rv.length;rw[v8] at hlen;have hlt:p<s.heap.objs.size:=let ⟨o,ho,_⟩:=hl.isList;z7 ho
 refine call_all_walk (wpAny_pyIter_list hl.isList ?_);refine⟨s.heap.objs.size,_,_,_,_,_,λi=>bs.getD i false,rfl,Walks.list (show X.A.in1.handled=none from I.ok.hd hc) s.heap.objs.size p (v5 hlt) its.toArray,⟨⟨_,z6 _ rfl,rfl,rfl⟩,hl.isList.at λo e=>z5 _ e⟩,?_,?_⟩
 ·intro i v s' Q' E' hv hQ
  have hv':its[i]?=some v:=by simpa using hv
  have hi:i<bs.length:=by
   have:=(w6.mp hv').1
   omega
  have hx:(bs.map V.bl)[i]?=some (V.bl bs[i]):=by rw[w9,y2 hi];rfl
  obtain⟨u,hu,ru⟩:=rv.get hx;rw[hv'] at hu;cases hu;cases ru;have e:bs.getD i false=bs[i]:=by rw[List.getD_eq_getElem?_getD,y2 hi];rfl
  have hQ':Q' (bs.getD i false) s':=hQ;rw[e] at hQ';exact wpAny_truthy_bool hQ'
 ·intro h' tk hk
  have hw:∀b o,s.heap.get? b=some o->h'.get? b=some o:=λb o e=>hk b o (by
   intro z
   have:b=s.heap.objs.size:=by simpa using z
   subst this;exact absurd (z7 e) (z0B _)) (z5 _ e)
  have e:(List.range its.toArray.size).all (λi=>bs.getD i false)=bs.all id:=by
   rw[y9,<- hlen];clear hlen hq rv q hz;induction bs with
   | nil=>rfl
   | cons b bs ih =>
    rw[s9,List.range_succ_eq_map,z1E,List.all_map,z1E];simp only[List.getD_cons_zero,id];congr 1
  rw[e];exact⟨.bl _,H,I.kept hw,rfl,q⟩
def CDivB (i j:Int):Prop:=0<j/\j<2^64
def v2A:OpR X (binaryOp .FloorDiv) (rI CDivB λi j=>.int (i / j)):=opI λi j _ _ _ _ _ hc q=>by
 have h1:(0:Int)<j:=hc.1;have h2:j<2^64:=hc.2;refine floordiv_int (by omega) (by rw[Int.fdiv_eq_ediv_of_nonneg i (by omega)];exact q) (.inl (PyProof.noPylong_of_log2 ?_))
 have:j.natAbs.log2<64:=(Nat.log2_lt (by omega)).mpr (by omega)
 omega
end
noncomputable def notStar:Expr->Bool
 | .Starred _ _=>false
 | _=>true
def u0k {e:Expr}{es:List Expr}{env:Env} (h:notStar e=true):starEach (e::es) env=(false,eval e env)::starEach es env:=by
 cases e<;>first|rfl|exact absurd h q9
theorem u0O {pos:Pos}{env:Env}:∀{es:List Expr},es.all notStar=true->(backTo pos (starEach es env)).any (·.1)=false
 | [],_=>rfl
 | e::es,h=>by
  rw[z1E,z0A] at h;rw[u0k h.1];show(false||(backTo pos (starEach es env)).any (·.1))=false
  rw[u0O h.2];rfl
theorem u8z {pos:Pos}{env:Env}:∀{es:List Expr},es.all notStar=true->(backTo pos (starEach es env)).all (λx=>!x.1)=true
 | [],_=>rfl
 | e::es,h=>by
  rw[z1E,z0A] at h;rw[u0k h.1];show(true&&(backTo pos (starEach es env)).all (λx=>!x.1))=true
  rw[u8z h.2];rfl
def u0j {e:Expr}{es:List Expr} (h:(e::es).all notStar=true):notStar e=true/\es.all notStar=true:=by
 rw[z1E,z0A] at h;exact h
section
variable {X:Cx}{e o:Expr}{es:List Expr}{te to:TE}{t:TA}{x name:Str}{p pos apos cpos:Pos}{id T:String}{r:List V->Hp->VK->Prop}{r3:V->List V->Hp->VK->Prop}
def pac (ha:PE X e te) (hr:PA X es t) (hs:notStar e=true:=by rfl):PA X (e::es) (tCons te t):=pa_cons ha hr (u0k hs)
def pcB (hc:CallR X (.builtin id) r) (hg:Gl X x) (hm:X.mg x=none) (hv:bootBuiltins x=some (.builtin id)) (ha:PA X (e::es) t) (hn:x≠"__name__":=by decide) (hdb:(x==("__debug__":Str))=false:=by decide)
  (hs:(e::es).all notStar=true:=by rfl):PE X (.Call (.Name x p) (e::es) [] pos) (tCB r t):=v2y hc hg hm hv ha hn hdb (u0k (u0j hs).1) (u0O (u0j hs).2)
def pcT (hc:CallR X (.type T) r) (hg:Gl X x) (hm:X.mg x=none) (hv:bootBuiltins x=some (.type T)) (ha:PA X (e::es) t) (hn:x≠"__name__":=by decide) (hdb:(x==("__debug__":Str))=false:=by decide)
  (hs:(e::es).all notStar=true:=by rfl):PE X (.Call (.Name x p) (e::es) [] pos) (tCB r t):=v0o hc hg hm hv ha hn hdb (u0k (u0j hs).1) (u0O (u0j hs).2)
def pbm (pa:PlainAttrs T) (slot:Slot T name id) (hty:typeOf (.builtin id)=pure (.type "method_descriptor")) (hm:MtR X id r3) (ho:PE X o to) (ha:PA X (e::es) t)
  (hs:(e::es).all notStar=true:=by rfl) (hl:decide ((e::es).length<30)=true:=by rfl)
  (hbase:attributeBase o name X.env (eval o X.env)=eval o X.env:=by rfl) (hline:(apos.endLine==cpos.line)=true:=by rfl) :
  PE X (.Call (.Attribute o name apos) (e::es) [] cpos) (tBM X.K T r3 to t):=by
 refine pe_bm pa slot hty hm ho ha hbase ?_ hline (u0k (u0j hs).1) (u0O (u0j hs).2);rw[u8z hs];have h2:(e::es).length+([]:List Keyword).length+(if ([]:List Keyword).isEmpty then 0 else 1)<30:=by
  have:=of_decide_eq_true hl
  simpa using this
 rw[decide_eq_true h2];rfl
end
def Callee (P:Program) (w:World) (K:W.Frag) (mg:MG) (base:Heap) (k:Nat) (x:Str) (ps:List Str) (sp:Sp):Prop :=
 ∃f fd,FnOk P w K mg base CX0 k f fd ps sp/\Binds K fd ps []/\W.keepIn K (.ref f)=true/\mg x=some (.ref f)
def Glo (mg:MG) (x:Str) (v:V):Prop:=∃u,mg x=some u/\RelV v u
section
variable {X:Cx}{P:Program}{w:World}{K:W.Frag}{mg:MG}{base:Heap}{k k':Nat}{x:Str}{ps:List Str}{sp:Sp}{e:Expr}{es:List Expr}{t:TA}{p pos:Pos}{v:V}
def pe_fn (h:Callee P w K mg base k x ps sp) (hr:Room k' X.A) (hk:k<=k') (ha:PA X (e::es) t) (hg:Gl X x:=by rfl) (eP:X.prog=P:=by rfl) (ew:X.w=w:=by rfl) (eK:X.K=K:=by rfl) (em:X.mg=mg:=by rfl) (eb:X.base=base:=by rfl)
  (hdb:(x==("__debug__":Str))=false:=by decide) (hs:(e::es).all notStar=true:=by rfl) :
  PE X (.Call (.Name x p) (e::es) [] pos) (tCall sp [] E0 t):=by
 subst eP ew eK em eb;obtain⟨f,fd,F,hb,hkp,hm⟩:=h;exact pe_call F (hr.mono hk) hg hm hkp hb .nil pass0 ha hdb (u0k (u0j hs).1) (u0O (u0j hs).2)
def v3E (h:Glo mg x v) (hg:Gl X x:=by rfl) (em:X.mg=mg:=by rfl) (hd:(x==("__debug__":Str))=false:=by decide):PE X (.Name x pos) (tC v):=by
 subst em;obtain⟨u,hm,r⟩:=h;exact v0n hg hm r hd
end
section
variable {X:Cx}{pos pos':Pos}{x:Str}{e:Expr}{te:TE}{tg l:Expr}{tl:TE}
def u4X {N:List Str}{i:Nat} (hi:N.findIdx? (λy=>y==x)=some i):N[i]?=some x:=by
 obtain⟨h1,h2,_⟩:=List.findIdx?_eq_some_iff_getElem.mp hi;rw[y2 h1];exact congrArg some (eq_of_beq h2)
def pg_n {i:Nat} (hN:X.N.Nodup) (hi:X.N.findIdx? (λy=>y==x)=some i:=by rfl) (hx:Loc X.env.scope x:=by first|exact Or.inl rfl|exact Or.inr rfl) (hf:X.fn x=true\/X.env.scope.names.lookup x=some .local:=by first|exact .inl rfl|exact .inr rfl) :
  PG X (.Name x pos) (gName i):=pg_name hN (u4X hi) hx hf
def ps_n {i:Nat} (hN:X.N.Nodup) (he:PE X e te) (hi:X.N.findIdx? (λy=>y==x)=some i:=by rfl) (hx:Loc X.env.scope x:=by first|exact Or.inl rfl|exact Or.inr rfl) (hs:swapsWith e (some (.Name x pos')) pos.line X.env=pure false:=by rfl)
  (hf:X.fn x=true\/X.env.scope.names.lookup x=some .local:=by first|exact .inl rfl|exact .inr rfl):PS X (.Assign [.Name x pos'] e pos) (tAsg te (gName i)):=v0g hN (u4X hi) hx he hs hf
end
mutual
inductive RdV (K:W.Frag) (H:Hp):V->PyData->Prop
 | non:RdV K H .non .none
 | bl (b:Bool):RdV K H (.bl b) (.bool b)
 | int (i:Int):RdV K H (.int i) (.int i)
 | str (z:Str):RdV K H (.str z) (.str z)
 | lst {a:Addr}{xs:List V}{ds:List PyData}:SqL K H a xs->RdVs K H xs ds->RdV K H (.ref a) (.list ds)
 | tup {a:Addr}{xs:List V}{ds:List PyData}:SqT K H a xs->RdVs K H xs ds->RdV K H (.ref a) (.tuple ds)
inductive RdVs (K:W.Frag) (H:Hp):List V->List PyData->Prop
 | nil:RdVs K H [] []
 | cons {x:V}{d:PyData}{xs:List V}{ds:List PyData}:RdV K H x d->RdVs K H xs ds->RdVs K H (x::xs) (d::ds)
end
section
variable {X:Cx}{pins:LO}{σ:St}{H:Hp}{s:Shared}
mutual
theorem RdV.reads (I:Inv X pins σ H s):∀{x:V}{d:PyData}{u:Value},RdV X.K H x d->RelV x u->∃as,Reads s.heap u d as
 | _,_,_,.non,r=>by cases r;exact⟨_,.none⟩
 | _,_,_,.bl b,r=>by cases r;exact⟨_,.bool b⟩
 | _,_,_,.int i,r=>by obtain⟨t,rfl⟩:=r;exact⟨_,.int i t⟩
 | _,_,_,.str z,r=>by obtain⟨t,rfl⟩:=r;exact⟨_,.str z t⟩
 | _,_,_,.lst hq hs,r=>by
  cases r;obtain⟨its,rv,p,hz⟩:=I.list hq;obtain⟨as,h⟩:=RdVs.reads I hs rv;obtain⟨o,ho,hc,n,hd⟩:=p.isList;exact⟨_,.list ho hc hd (by simpa using h)⟩
 | _,_,_,.tup hq hs,r=>by
  cases r;obtain⟨its,rv,p,hz⟩:=I.tuple hq;obtain⟨as,h⟩:=RdVs.reads I hs rv;obtain⟨o,ho,hc,n,hd⟩:=p;exact⟨_,.tuple ho hc hd (by simpa using h)⟩
theorem RdVs.reads (I:Inv X pins σ H s):∀{xs:List V}{ds:List PyData}{us:List Value},RdVs X.K H xs ds->Vals xs us->∃as,ReadsAll s.heap us ds as
 | _,_,_,.nil,r=>by cases r;exact⟨_,.nil⟩
 | _,_,_,.cons h hs,r=>by
  cases r with
  | cons r1 r2 =>
   obtain⟨as,h1⟩:=RdV.reads I h r1;obtain⟨bs,h2⟩:=RdVs.reads I hs r2;exact⟨_,.cons h1 h2⟩
end
end
def Same.seqT {K:W.Frag}{H H':Hp}{a:Addr}{xs:List V} (e:Same H H') (h:SqT K H a xs):SqT K H' a xs:=by
 rcases h with(h|⟨o,h⟩)|h
 ·exact .inl (.inl (e _ _ h))
 ·exact .inl (.inr ⟨o,e _ _ h⟩)
 ·exact .inr h
mutual
theorem RdV.same {K:W.Frag}{H H':Hp} (e:Same H H'):∀{x:V}{d:PyData},RdV K H x d->RdV K H' x d
 | _,_,.non=>.non
 | _,_,.bl b=>.bl b
 | _,_,.int i=>.int i
 | _,_,.str z=>.str z
 | _,_,.lst hq hs=>.lst (e.seq hq) (RdVs.same e hs)
 | _,_,.tup hq hs=>.tup (e.seqT hq) (RdVs.same e hs)
theorem RdVs.same {K:W.Frag}{H H':Hp} (e:Same H H'):∀{xs:List V}{ds:List PyData},RdVs K H xs ds->RdVs K H' xs ds
 | _,_,.nil=>.nil
 | _,_,.cons h hs=>.cons (RdV.same e h) (RdVs.same e hs)
end
section
variable {X:Cx}
def rEqD (K:W.Frag) (neg:Bool):R2:=λx y H Q=>∃d e,RdV K H x d/\RdV K H y e/\SeqAt.shaped d=true/\SeqAt.shaped e=true/\Q (.bl (if neg=true then !PyData.eqv d e else PyData.eqv d e)) H
def op_eqD (hu:X.A.units+64<cLine):OpR X (compareOp .Eq) (rEqD X.K false):=by
 intro pins s σ H x y v u Q I rx ry h;obtain⟨d,e,h1,h2,s1,s2,q⟩:=h;obtain⟨as,r1⟩:=h1.reads I rx;obtain⟨bs,r2⟩:=h2.reads I ry;exact eq_dataH r1 r2 s1 s2 hu ⟨.bl _,H,I,rfl,q⟩
def op_neD (hu:X.A.units+64<cLine):OpR X (compareOp .NotEq) (rEqD X.K true):=by
 intro pins s σ H x y v u Q I rx ry h;obtain⟨d,e,h1,h2,s1,s2,q⟩:=h;obtain⟨as,r1⟩:=h1.reads I rx;obtain⟨bs,r2⟩:=h2.reads I ry;exact ne_dataH r1 r2 s1 s2 hu ⟨.bl _,H,I,rfl,q⟩
end
end L2
namespace L2
open PySem PySem.Spec PyProof.Rows
section
variable {κ:Type} [DecidableEq κ]
noncomputable def valV (kvs:List (κ×V)) (k:κ):Option V:=(kvs.find? λkv=>decide (kv.1=k)).map (·.2)
noncomputable def putK (kvs:List (κ×V)) (k:κ) (v:V):List (κ×V) :=
 if (kvs.any λkv=>decide (kv.1=k))=true then kvs.map (λkv=>if kv.1=k then (kv.1,v) else kv) else kvs++[(k,v)]
def u4T {p:κ×V}{r:List (κ×V)}{k:κ} (e:p.1=k):valV (p::r) k=some p.2:=by simp[valV,z0E,e]
def u4U {p:κ×V}{r:List (κ×V)}{k:κ} (e:¬ p.1=k):valV (p::r) k=valV r k:=by simp[valV,z0E,e]
theorem u7D (k:κ):∀kvs:List (κ×V),(kvs.any λkv=>decide (kv.1=k))=(valV kvs k).isSome
 | []=>rfl
 | p::r=>by
  rw[List.any_cons];by_cases e:p.1=k
  ·simp only[u4T e,decide_eq_true e,Bool.true_or,Option.isSome_some]
  ·rw[u4U e,decide_eq_false e,Bool.false_or];exact u7D k r
def u3W (kvs:List (κ×V)) (k:κ) (v:V):(putK kvs k v).length<=kvs.length+1:=by
 unfold putK;split
 ·rw[v8];omega
 ·rw[z0F,s9,List.length_nil];omega
def RelO.isSome_eq {o:Option V}{u:Option Value} (r:RelO o u):o.isSome=u.isSome:=by
 cases o with
 | none=>cases u with
  | none=>rfl
  | some _=>exact(show False from r).elim
 | some _=>cases u with
  | none=>exact(show False from r).elim
  | some _=>rfl
def KV.val {kvs:List (κ×V)}{vs:List (κ×Value)} (r:KV kvs vs) (k:κ):RelO (valV kvs k) (valueAt vs k):=by
 unfold KV at r;induction r with
 | nil=>exact True.intro
 | @cons p q ps qs h t ih =>
  obtain⟨h1,h2⟩:=h;by_cases e:p.1=k
  ·have e':q.1=k:=h1.symm.trans e
   have b:valueAt (q::qs) k=some q.2:=by simp[valueAt,z0E,e']
   rw[u4T e,b];exact h2
  ·have e':¬ q.1=k:=fun z=>e (h1.trans z)
   have b:valueAt (q::qs) k=valueAt qs k:=by simp[valueAt,z0E,e']
   rw[u4U e,b];exact ih
theorem KV.any {kvs:List (κ×V)}{vs:List (κ×Value)} (r:KV kvs vs) (k:κ):(kvs.any λkv=>decide (kv.1=k))=vs.any λkv=>decide (kv.1=k):=by
 unfold KV at r;induction r with
 | nil=>rfl
 | cons h t ih=>rw[List.any_cons,List.any_cons,ih,h.1]
def KV.repl {kvs:List (κ×V)}{vs:List (κ×Value)} (r:KV kvs vs) (k:κ) {y:V}{u:Value} (ry:RelV y u) :
  KV (kvs.map λkv=>if kv.1=k then (kv.1,y) else kv) (vs.map λkv=>if kv.1=k then (kv.1,u) else kv):=by
 unfold KV at r |-
 induction r with
 | nil=>exact .nil
 | @cons p q ps qs h t ih =>
  rw[u9,u9];refine .cons ?_ ih;obtain⟨h1,h2⟩:=h;by_cases e:p.1=k
  ·rw[if_pos e,if_pos (h1.symm.trans e)];exact⟨h1,ry⟩
  ·rw[if_neg e,if_neg (λz=>e (h1.trans z))];exact⟨h1,h2⟩
def KV.put {kvs:List (κ×V)}{vs:List (κ×Value)} (r:KV kvs vs) (k:κ) {y:V}{u:Value} (ry:RelV y u):KV (putK kvs k y) (stored vs k u):=by
 unfold putK stored;rw[r.any k];by_cases e:(vs.any λkv=>decide (kv.1=k))=true
 ·rw[if_pos e,if_pos e];exact r.repl k ry
 ·rw[if_neg e,if_neg e];exact Paired.snoc r ⟨rfl,ry⟩
def KV.keys {kvs:List (κ×V)}{vs:List (κ×Value)} (r:KV kvs vs):kvs.map (·.1)=vs.map (·.1):=by
 unfold KV at r;induction r with
 | nil=>rfl
 | cons h t ih=>rw[u9,u9,ih,h.1]
theorem KV.length {kvs:List (κ×V)}{vs:List (κ×Value)} (r:KV kvs vs):kvs.length=vs.length:=Paired.length r
end
def v0I {P:Program}{w:World}{k:Key}{u:Value} (r:RelV (kV k) u):(mixKind P w).is k u=true:=by
 cases k with
 | inl i=>obtain⟨t,e⟩:=(show ∃t,u=Value.int i t from r);subst e;exact u2l P w i t
 | inr x=>obtain⟨t,e⟩:=(show ∃t,u=Value.str x t from r);subst e;exact u2k P w x t
theorem u6k {P:Program}{w:World}:∀{ks:List Key}{us:List Value},Vals (ks.map kV) us->ItemsAre (mixKind P w) ks us
 | [],_,r=>by rw[List.map_nil] at r;cases r;exact .nil
 | k::ks,_,r=>by
  rw[u9] at r;cases r with
  | cons h t=>exact .cons (v0I h) (u6k t)
abbrev KT (H:Hp):List (List Key×V)->List (List Key×Addr×Value)->Prop:=Paired λp q=>p.1=q.1/\H q.2.1=some (.tup (p.1.map kV))/\RelV p.2 q.2.2
def KT.val {H:Hp}{kvs:List (List Key×V)}{xs:List (List Key×Addr×Value)} (r:KT H kvs xs) (k:List Key):RelO (valV kvs k) ((atKey xs k).map (·.2)):=by
 induction r with
 | nil=>exact True.intro
 | @cons p q ps qs h t ih =>
  obtain⟨h1,_,h2⟩:=h;by_cases e:p.1=k
  ·have e':q.1=k:=h1.symm.trans e
   have b:atKey (q::qs) k=some q.2:=by simp[atKey,z0E,e']
   rw[u4T e,b];exact h2
  ·have e':¬ q.1=k:=fun z=>e (h1.trans z)
   have b:atKey (q::qs) k=atKey qs k:=by simp[atKey,z0E,e']
   rw[u4U e,b];exact ih
def KT.repl {H:Hp}{kvs:List (List Key×V)}{xs:List (List Key×Addr×Value)} (r:KT H kvs xs) (k:List Key) {y:V}{u:Value} (ry:RelV y u) :
  KT H (kvs.map λkv=>if kv.1=k then (kv.1,y) else kv) (xs.map (putAt k u)):=by
 induction r with
 | nil=>exact .nil
 | @cons p q ps qs h t ih =>
  rw[u9,u9];refine .cons ?_ ih;obtain⟨h1,h2,h3⟩:=h;unfold putAt;by_cases e:p.1=k
  ·rw[if_pos e,if_pos (h1.symm.trans e)];exact⟨h1,h2,ry⟩
  ·rw[if_neg e,if_neg (λz=>e (h1.trans z))];exact⟨h1,h2,h3⟩
def KT.put {H:Hp}{kvs:List (List Key×V)}{xs:List (List Key×Addr×Value)} (r:KT H kvs xs) (k:List Key) {b:Addr}{y:V}{u:Value} (hb:H b=some (.tup (k.map kV))) (ry:RelV y u) :
  KT H (putK kvs k y) (storedH xs k b u):=by
 have e:(kvs.any λkv=>decide (kv.1=k))=(atKey xs k).isSome:=by
  rw[u7D,(r.val k).isSome_eq,Option.isSome_map]
 unfold putK storedH;rw[e];by_cases q:(atKey xs k).isSome=true
 ·rw[if_pos q,if_pos q];exact r.repl k ry
 ·rw[if_neg q,if_neg q];exact Paired.snoc r ⟨rfl,hb,ry⟩
def KT.keeps {H H':Hp}{kvs:List (List Key×V)}{xs:List (List Key×Addr×Value)} (r:KT H kvs xs) (ht:∀b ys,H b=some (.tup ys)->H' b=some (.tup ys)):KT H' kvs xs :=
 Paired.mapP r λ_ _ z=>⟨z.1,ht _ _ z.2.1,z.2.2⟩
section
variable {P:Program}{w:World}{H:Hp}{h:Heap}{a:Addr}
def rd_of {u:HO} (ok:HOk P w H h) (e:Rd H a u):ObjOk P w H h a u:=e.ok ok
def v1n {kvs:List (Key×V)} (ok:HOk P w H h) (e:Rd H a (.dK kvs)):kvs.length<=sizeLine/\(a==sysModules)=false/\∃vs,KV kvs vs/\h.DictOf (mixKind P w) a vs :=
 show ObjOk P w H h a (.dK kvs) from rd_of ok e
def dk_of {kvs:List (Key×V)} (ok:HOk P w H h) (e:H a=some (.dK kvs)):kvs.length<=sizeLine/\(a==sysModules)=false/\∃vs,KV kvs vs/\h.DictOf (mixKind P w) a vs:=v1n ok (.inl e)
def u6j {ks:List Key} (ok:HOk P w H h) (e:H a=some (.tup (ks.map kV))):(tupleKind (mixKind P w)).is h ks a:=by
 obtain⟨_,its,r,o,h1,h2,n,h3⟩:=(show ObjOk P w H h a (.tup (ks.map kV)) from ok a _ e)
 exact⟨o,its.toArray,n,h1,h2,h3,by simpa using u6k r⟩
def v1l {kvs:List (List Key×V)} (ok:HOk P w H h) (e:Rd H a (.dT kvs)):kvs.length<=sizeLine/\(a==sysModules)=false /\
  ∃xs,KT H kvs xs/\h.DictOfH (tupleKind (mixKind P w)) a xs:=by
 obtain⟨z,y,xs,r,o,es,ep,h1,h2,h3,h4,h5⟩:=(show ObjOk P w H h a (.dT kvs) from rd_of ok e)
 refine⟨z,y,xs,r,o,es,ep,h1,h2,h3,h4,λx hx=>?_,h5⟩
 have all:∀{l:List (List Key×V)}{m:List (List Key×Addr×Value)},KT H l m->∀x∈m,(tupleKind (mixKind P w)).is h x.1 x.2.1:=by
  intro l m q;induction q with
  | nil=>intro x hx;exact nomatch hx
  | @cons p q ps qs hq t ih =>
   intro x hx;rcases y7.mp hx with e|hx
   ·subst e
    exact u6j ok (by rw[<- hq.1];exact hq.2.1)
   ·exact ih x hx
 exact all r x hx
def dt_of {kvs:List (List Key×V)} (ok:HOk P w H h) (e:H a=some (.dT kvs)):kvs.length<=sizeLine/\(a==sysModules)=false /\
  ∃xs,KT H kvs xs/\h.DictOfH (tupleKind (mixKind P w)) a xs:=v1l ok (.inl e)
end
def DGet (H:Hp) (a:Addr) (y:V) (r:Option V):Prop :=
 (∃kvs k,Rd H a (.dK kvs)/\y=kV k/\r=valV kvs k)\/∃kvs k b,Rd H a (.dT kvs)/\y=.ref b/\H b=some (.tup (k.map kV))/\r=valV kvs k
def DPut (H:Hp) (a:Addr) (y v:V) (H':Hp):Prop :=
 (∃kvs k,H a=some (.dK kvs)/\y=kV k/\kvs.length<sizeLine/\H'=upd H a (.dK (putK kvs k v))) \/
 ∃kvs k b,H a=some (.dT kvs)/\y=.ref b/\H b=some (.tup (k.map kV))/\kvs.length<sizeLine/\H'=upd H a (.dT (putK kvs k v))
theorem DGet.k {H:Hp}{a:Addr}{kvs:List (Key×V)}{k:Key} (e:H a=some (.dK kvs)):DGet H a (kV k) (valV kvs k):=.inl ⟨kvs,k,.inl e,rfl,rfl⟩
theorem DPut.k {H:Hp}{a:Addr}{kvs:List (Key×V)}{k:Key}{v:V} (e:H a=some (.dK kvs)) (hl:kvs.length<sizeLine):DPut H a (kV k) v (upd H a (.dK (putK kvs k v))):=.inl ⟨kvs,k,e,rfl,hl,rfl⟩
section
variable {X:Cx}{pins:LO}{σ:St}{H:Hp}{s:Shared}{a:Addr}{y v:V}{u r:Value}{o:Option V}{A:Around}{E:VP}
def Inv.big (I:Inv X pins σ H s):sysModules<s.heap.objs.size:=by
 have h:mainGlobals<s.heap.objs.size:=(I.mod.glob.keeps I.bk).lt;exact Nat.lt_trans (by decide) h
def v1s {Q:VP} (hu:A.units+1<cLine) (I:Inv X pins σ H s) (g:DGet H a y (some v)) (ry:RelV y u) (h:∀w' s',Inv X pins σ H s'->RelV v w'->Q w' s') :
  wpAny (model X.prog X.w) A (getItem (.ref a) u) Q E s:=by
 rcases g with⟨kvs,k,e,ey,l⟩|⟨kvs,k,b,e,ey,eb,l⟩
 ·subst ey
  obtain⟨z,hd,vs,rel,dd⟩:=v1n I.hok e;obtain⟨w',hw,rw'⟩:=RelO.some_of (v:=v) (o:=valueAt vs k) (by rw[l];exact rel.val k)
  exact wpAny_getItem_of (v0I ry) dd.mapOf hw (h w' _ (I.tok _) rw')
 ·subst ey
  cases (show u=Value.ref b from ry)
  obtain⟨z,hd,xs,rel,dd⟩:=v1l I.hok e;obtain⟨w',hw,rw'⟩:=RelO.some_of (v:=v) (o:=(atKey xs k).map (·.2)) (by rw[l];exact rel.val k)
  obtain⟨p,hp,hp2⟩:=Option.map_eq_some_iff.mp hw;refine wpAny_getItem_heap (tupleKind_room_in1 hu) (u6j I.hok eb) dd hp ?_;rw[hp2];exact h w' _ (I.tok _) rw'
def d_in {Q:VP} (hu:A.units+1<cLine) (I:Inv X pins σ H s) (g:DGet H a y o) (ry:RelV y u) (h:∀s',Inv X pins σ H s'->Q (.bool o.isSome) s') :
  wpAny (model X.prog X.w) A (compareOp .In u (.ref a)) Q E s:=by
 rcases g with⟨kvs,k,e,ey,l⟩|⟨kvs,k,b,e,ey,eb,l⟩
 ·subst ey
  obtain⟨z,hd,vs,rel,dd⟩:=v1n I.hok e;refine wpAny_in_of (v0I ry) hd dd.mapOf ?_;rw[<- (rel.val k).isSome_eq,<- l];exact h _ (I.tok _)
 ·subst ey
  cases (show u=Value.ref b from ry)
  obtain⟨z,hd,xs,rel,dd⟩:=v1l I.hok e;refine wpAny_in_heap (tupleKind_room_in1 hu) (u6j I.hok eb) hd dd ?_;have q:=(rel.val k).isSome_eq;rw[Option.isSome_map] at q;rw[<- q,<- l];exact h _ (I.tok _)
def d_notIn {Q:VP} (hu:A.units+1<cLine) (I:Inv X pins σ H s) (g:DGet H a y o) (ry:RelV y u) (h:∀s',Inv X pins σ H s'->Q (.bool (!o.isSome)) s') :
  wpAny (model X.prog X.w) A (compareOp .NotIn u (.ref a)) Q E s:=by
 rcases g with⟨kvs,k,e,ey,l⟩|⟨kvs,k,b,e,ey,eb,l⟩
 ·subst ey
  obtain⟨z,hd,vs,rel,dd⟩:=v1n I.hok e;refine wpAny_notIn_of (v0I ry) hd dd.mapOf ?_;rw[<- (rel.val k).isSome_eq,<- l];exact h _ (I.tok _)
 ·subst ey
  cases (show u=Value.ref b from ry)
  obtain⟨z,hd,xs,rel,dd⟩:=v1l I.hok e;refine wpAny_notIn_heap (tupleKind_room_in1 hu) (u6j I.hok eb) hd dd ?_;have q:=(rel.val k).isSome_eq;rw[Option.isSome_map] at q;rw[<- q,<- l];exact h _ (I.tok _)
def u7x {h':Heap}{t':Nat}{ob:HO} (I:Inv X pins σ H s) (mu:Mut (H a)) (hs:Heap.SameBut a s.heap h') (he:∃q,h'.get? a=some q) (new:ObjOk X.prog X.w (upd H a ob) h' a ob) :
  Inv X pins σ (upd H a ob) { s with heap:=h',toks:=t' } :=
 I.write (x:=a) (e:=a) mu (.inl rfl) (λb q hb z=>(hs.2 b hb).trans z) he new
def dk_new {P:Program}{w:World}{H':Hp}{h':Heap}{kvs:List (Key×V)}{vs:List (Key×Value)} (z:kvs.length<=sizeLine) (hd:(a==sysModules)=false) (rel:KV kvs vs) (dd:h'.DictOf (mixKind P w) a vs) :
  ObjOk P w H' h' a (.dK kvs):=⟨z,hd,vs,rel,dd⟩
def v1q {H':Hp}{Q:Unit->Shared->Prop} (hu:A.units+1<cLine) (I:Inv X pins σ H s) (g:DPut H a y v H') (ry:RelV y u) (rv:RelV v r) (h:∀s',Inv X pins σ H' s'->Q () s') :
  wpAny (model X.prog X.w) A (setItem (.ref a) u r) Q E s:=by
 rcases g with⟨kvs,k,e,ey,l,eH⟩|⟨kvs,k,b,e,ey,eb,l,eH⟩
 ·subst ey eH
  obtain⟨z,hd,vs,rel,dd⟩:=dk_of I.hok e;have hz:vs.length<=sizeLine:=by rw[<- rel.length];exact z
  have hl:(putK kvs k v).length<=sizeLine:=by have:=u3W kvs k v;omega
  refine wpAny_setItem_pairs (hsz:=hz) (v0I ry) dd λh' dd' hs=>h _ ?_
  have he:∃q,h'.get? a=some q:=let ⟨q,_,_,hq,_⟩:=dd';⟨q,hq⟩
  exact u7x I (by rw[e];exact True.intro) hs he (dk_new hl hd (rel.put k rv) dd')
 ·subst ey eH
  cases (show u=Value.ref b from ry)
  obtain⟨z,hd,xs,rel,dd⟩:=dt_of I.hok e;have hz:xs.length<=sizeLine:=by rw[<- Paired.length rel];exact z
  have hl:(putK kvs k v).length<=sizeLine:=by have:=u3W kvs k v;omega
  refine wpAny_setItem_heap (hsz:=hz) (tupleKind_room_in1 hu) (u6j I.hok eb) dd λh' dd' hs=>h _ ?_
  obtain⟨q,es,ep,hq,h2,h3,h4,_,h5⟩:=dd';refine u7x I (by rw[e];exact True.intro) hs ⟨q,hq⟩ ⟨hl,hd,_,(rel.put k eb rv).keeps λc ys ec=>?_,q,es,ep,hq,h2,h3,h4,h5⟩
  rw[u0f (ne_of ec e (λz=>nomatch z))]
  exact ec
end
def NoSl (i:Expr):Prop:=∀ov iv,subscripted i false ov iv=operate [ov,iv] (getItem ov iv)
def subD_of {prog:Program}{w:World}{A:Around}{E:VP}{s:Shared}{env:Env}{value slice:Expr}{pos:Pos}{T id:String}{Q:VP}
  (hl:typeLookup (.type T) "__getitem__"=pure (some (.builtin id))) (hs:NoSl slice)
  (h:wpAny (model prog w) A (eval value env) (λo s₁=>wpAny (model prog w) A (eval slice env) (λi s₂=>s₂.TypeIs o T/\wpAny (model prog w) A (getItem o i) Q E s₂) E s₁) E s) :
  wpAny (model prog w) A (eval (.Subscript value slice pos) env) Q E s:=by
 refine Subscript_ (wpAny_mono h (λo s₁ h₁=>wpAny_mono h₁ (λi s₂ h₂=>?_) λ_ _ x=>x) λ_ _ x=>x)
 obtain⟨hT,h₂⟩:=h₂;unfold subscriptTail;refine wpAny_bind ?_;rw[getitemInPython_of_ne hT.not_modules];refine wpAny_bind (wpAny_specialOf hT hl ?_);have fin:wpAny (model prog w) A (subscripted slice false o i) (λr s₃=>wpAny (model prog w) A (letTemporaryGo value o r >>= λ_=>pure r) Q E s₃) E s₂:=by
  rw[hs o i];exact wpAny_operating (wpAny_mono h₂ (λr s₃ h₃=>wpAny_bind (wpAny_letTemporaryGo (wpAny_pure h₃))) λ_ _ x=>x)
 first
  | exact wpAny_pure (wpAny_bind fin)
  | exact wpAny_bind (wpAny_pure (wpAny_bind fin))
  | exact wpAny_bind fin
def u7w {X:Cx}{pins:LO}{σ:St}{H:Hp}{s:Shared}{a:Addr}{y:V}{o:Option V} (I:Inv X pins σ H s) (g:DGet H a y o):s.TypeIs (.ref a) "dict":=by
 rcases g with⟨kvs,k,e,_,_⟩|⟨kvs,k,b,e,_,_,_⟩
 ·obtain ⟨_,_,vs,_,dd⟩:=v1n I.hok e
  exact dd.typeIs
 ·obtain ⟨_,_,xs,_,dd⟩:=v1l I.hok e
  exact dd.typeIs
def tDGet (td ty:TE):TE:=λσ H Q=>td σ H λx H1=>ty σ H1 λy H2=>∃a v,x=.ref a/\DGet H2 a y (some v)/\Q v H2
def sDPut (td ty tv:TE):TS:=λD σ H=>tv σ H λv H1=>td σ H1 λx H2=>ty σ H2 λy H3=>∃a H4,x=.ref a/\DPut H3 a y v H4/\D.nx σ H4
section
variable {X:Cx}{o i e value:Expr}{pos pos' tpos:Pos}{td ty tv:TE}
def pe_dget (hu:X.A.units+1<cLine) (ho:PE X o td) (hi:PE X i ty) (hs:NoSl i):PE X (.Subscript o i pos) (tDGet td ty):=by
 intro pins s σ H Q I h;refine subD_of PySem.F.slot_dict_getitem.lookup hs (thn (ho pins s σ H _ I h) λu s1 ⟨x,H1,I1,rx,q1⟩=>thn (hi pins s1 σ H1 _ I1 q1) λiv s2 z971=>?_)
 obtain⟨y,H2,I2,ry,a,v,ex,g,q2⟩:=z971;subst ex;obtain rfl:u=Value.ref a:=rx;exact⟨u7w I2 g,v1s hu I2 g ry λw' s3 I3 rw'=>⟨v,H2,I3,rw',q2⟩⟩
def ps_dput (hu:X.A.units+1<cLine) (ho:PE X o td) (hi:PE X i ty) (hv:PE X value tv) (hs:swapsWith value (some (.Subscript o i pos')) pos.line X.env=pure false) :
  PS X (.Assign [.Subscript o i pos'] value pos) (sDPut td ty tv):=by
 intro pins s σ H D I h;refine wpAny_Assign_Subscript (thn (hv pins s σ H _ I h) λr s1 ⟨v,H1,I1,rv,q1⟩=>thn (ho pins s1 σ H1 _ I1 q1) λu s2 ⟨x,H2,I2,rx,q2⟩=>thn (hi pins s2 σ H2 _ I2 q2) λiv s3 z974=>?_) hs
 obtain⟨y,H3,I3,ry,a,H4,ex,g,q3⟩:=z974;subst ex;obtain rfl:u=Value.ref a:=rx;exact v1q hu I3 g ry rv λs4 I4=>⟨σ,H4,I4,q3⟩
end
def u8q {P:Program}{w:World}{H:Hp} (h:Heap) (hb:sysModules<h.objs.size):ObjOk P w H (h.push { cls:=.type "dict",data:=.dict #[] }) h.objs.size (.dK []) :=
 ⟨z1A _,beq_eq_false_iff_ne.mpr (Ne.symm (v5 hb)),[],.nil,Heap.DictOf.new h⟩
def tDNewK:TE:=λ_ H Q=>∀p,H p=none->Q (.ref p) (upd H p (.dK []))
section
variable {X:Cx}{pos:Pos}
def v2w:PE X (.Dict [] [] pos) tDNewK:=λpins s σ H Q I h =>
 wpAny_Dict_empty ⟨.ref s.heap.objs.size,_,I.laid (a:=s.heap.objs.size) (o:=.dK []) (t':=s.toks) (λ_ _ q=>z5 _ q) (y0 _) (u8q s.heap I.big),rfl,h _ (I.hok.fresh (y0 _))⟩
end
structure M2 (X:Cx) (o:Expr) (m:Str) (apos:Pos) (e f:Expr) (cpos:Pos):Prop where
 base:attributeBase o m X.env (eval o X.env)=eval o X.env
 few:((backTo cpos (starEach [e,f] X.env)).all (λx=>!x.1)&&(backToKw cpos (keywordEach [] X.env)).all (λx=>x.1.isSome)
  && decide (([e,f]:List Expr).length+([]:List Keyword).length+(if ([]:List Keyword).isEmpty then 0 else 1)<30))=true
 line:(apos.endLine==cpos.line)=true
 trees:backTo cpos (starEach [e,f] X.env)=[(false,eval e X.env),(false,eval f X.env)]
end L2
namespace Att
open PySem PySem.W PySem.Calls PyProof.Rows
end Att
namespace L2
open PySem PySem.Spec PyProof.Rows
end L2
namespace L2
open PySem PySem.Spec PyProof.Rows
structure JE (X:Cx) (e:Expr) (t:TE):Prop where
 out:PE X e t
structure JS (X:Cx) (s:Stmt) (t:TS):Prop where
 out:PS X s t
structure JB (X:Cx) (s:List Stmt) (t:TS):Prop where
 out:PSs X s t
section
variable {X:Cx}{a b c e o:Expr}{es rest:List Expr}{ta tb tc te to:TE}{t u:TS}{tA tB':TT}{pos pos' p apos cpos:Pos}{x name:Str}{tr:TA}{v:V}{i:Nat}
def ev (i:Nat) {x:Str}{pos:Pos} (hN:X.N[i]?=some x:=by rfl) (hv:Vis X.env.scope x:=by first|exact Or.inl rfl|exact Or.inr (Or.inl rfl)|exact Or.inr (Or.inr rfl)) (hd:(x==("__debug__":Str))=false:=by decide)
  (hcd:(x==("__classdict__":Str))=false:=by decide):JE X (.Name x pos) (tVar i):=⟨u0v hN hv hd hcd⟩
variable {tg l:Expr}{tl:TE}
variable {st:Stmt}{sts:List Stmt}
def b_one (h1:JS X st t):JB X [st] t:=⟨u1h h1.out⟩
end
section
variable {P:Program}{w:World}{K:W.Frag}{mg:MG}{base:Heap}
def Fun.okJ {x qual:Str}{st:Stmt}{f:Addr}{fd:FuncData}{N ps:List Str}{k:Nat}{sp:Sp} (F:Fun K x qual st f fd) (S:FnScope N ps (defScope st)) (len:∀vs H Q E,sp vs H Q E->vs.length=ps.length)
  (hbody:∀ (cdv:Value) (A:Around) (outer:List Env) (s:Shared) (H:Hp) (vs:List V) (Q:VK) (E:XK),Room k (A.deeper (envOfC qual (defScope st) s.heap.objs.size f cdv))->sp vs H Q E ->
   ∃t,JB (cxOf CX0 P w K mg base N qual (defScope st) f cdv A outer s H E).nox (defBody st) t/\t { nx:=λ_ H'=>Q .non H',rt:=Q } (start N vs) H):FnOk P w K mg base CX0 (k+1) f fd ps sp :=
 F.ok S len λcdv A outer s H vs Q E hr h=>by obtain⟨t,a,b⟩:=hbody cdv A outer s H vs Q E hr h;exact⟨t,a.out,b⟩
end
end L2
namespace KW
open PySem L2 PySem.Spec PyProof.Rows
end KW
namespace L2
open PySem PySem.Spec PyProof.Rows
noncomputable def cutC {α:Type} (xs:List α) (lo hi:Option Int):List α:=(xs.drop (HT.sIx xs.length 0 lo)).take (HT.sIx xs.length xs.length hi - HT.sIx xs.length 0 lo)
def v2l (a b:Nat):sliceRange (a:Int) (b:Int) 1=(List.range (b - a)).map (λk=>a+k):=by
 unfold sliceRange;have h:(if (1:Int) > 0 then (if (a:Int)<b then ((b:Int) - a+1 - 1) / 1 else 0) else (if (a:Int) > b then ((a:Int) - b - 1 - 1) / (-1) else 0)).toNat=b - a:=by
  rw[if_pos (by decide)]
  by_cases h:(a:Int)<b
  ·rw[if_pos h];omega
  ·rw[if_neg h];omega
 simp only[h];refine List.map_congr_left λk _=>?_
 omega
def u8w (v:Int) (n d:Nat):max 0 (min (if v<0 then v+(n:Int) else v) (n:Int))=((HT.sIx n d (some v):Nat):Int):=by
 show max 0 (min (if v<0 then v+(n:Int) else v) (n:Int))=(((if v<0 then (v+(n:Int)).toNat else min v.toNat n):Nat):Int)
 by_cases hv:v<0
 ·simp only[if_pos hv];omega
 ·simp only[if_neg hv];omega
def u6M (l u:Option Int) (n:Nat):Builtin.Str.strSliceIndices l u 1 n=(List.range (HT.sIx n n u - HT.sIx n 0 l)).map (λk=>HT.sIx n 0 l+k):=by
 rw[<- v2l];unfold Builtin.Str.strSliceIndices;simp only[show((1:Int) > 0)=True from by simp,if_true]
 congr 1
 ·cases l with
  | none=>rfl
  | some v=>exact u8w v n 0
 ·cases u with
  | none=>rfl
  | some v=>exact u8w v n n
set_option tactic.hygienic true in
def u9M (z:Str) (l u:Option Int):(Txt.slice z l u).cps.toList=cutC z.cps.toList l u:=by
 have hn:z.cps.toList.length=z.length:=by rw[z0H];rfl
 have hl:HT.sIx z.length 0 l<=z.length:=HT.sIx_le _ 0 (z1A _) l;have hu:HT.sIx z.length z.length u<=z.length:=HT.sIx_le _ _ (y0 _) u;unfold Txt.slice cutC;rw[u6M,hn];split
 ·rename_i h
  simp only[beq_self_eq_true,Bool.true_and,v8,List.length_range,beq_iff_eq] at h;have e1:HT.sIx z.length 0 l=0:=by omega
  have e2:HT.sIx z.length z.length u=z.length:=by omega
  rw[e1,e2,List.drop_zero,Nat.sub_zero,List.take_of_length_le (by omega)]
 ·by_cases h:HT.sIx z.length 0 l<=HT.sIx z.length z.length u
  ·have h2:=StrLaws.picks z.cps.toList (HT.sIx z.length z.length u - HT.sIx z.length 0 l) (HT.sIx z.length 0 l) (by omega)
   rw[<- h2];show List.filterMap (λx=>z.cps[x]?) _=_
   have e:(λx=>z.cps[x]?)=(λx:Nat=>z.cps.toList[x]?):=by funext i;simp
   rw[e]
  ·have e:HT.sIx z.length z.length u - HT.sIx z.length 0 l=0:=by omega
   rw[e,List.take_zero];rfl
def sIx_one (n d:Nat):HT.sIx n d (some 1)=min 1 n:=HT.sIx_nat n d 1
def u8G (z:Str):(Txt.slice z (some 1) none).cps.toList=z.cps.toList.drop 1:=by
 rw[u9M];unfold cutC;rw[sIx_one,HT.sIx_none];by_cases h:1<=z.cps.toList.length
 ·rw[Nat.min_eq_left h,List.take_of_length_le (by rw[z2I];omega)]
 ·have e:z.cps.toList=[]:=List.eq_nil_of_length_eq_zero (by omega)
  rw[e];rfl
abbrev bmV:List Value:=[.type "ValueError",.type "Exception",.type "BaseException",.type "object"]
abbrev tupO (vs:List Value):Obj:={ cls:=.type "tuple",data:=.seq vs.toArray }
abbrev excO (C t:Addr) (dx:Option Addr):Obj:={ cls:=.ref C,dict:=dx,data:=.fields #[.ref t,.none,.none,.none,.bool false,.none] }
noncomputable def onlyV:List Value->Bool
 | .ref _::r=>onlyV r
 | l=>l==bmV
noncomputable def xcB (K:W.Frag) (C f:Addr):Bool:=match K.lookup C with
 | some ⟨.type "type",_,.cls cd,sl⟩=>(match cd.mro,sl.toList with
  | .ref C'::bm,[_,_,_,_,some (.builtin n),_]=>C'==C&&n=="ValueError.__new__"&&!cd.hasDel&&W.tailIn K bmV bm&&cd.hasDict &&
    W.findIn K (.ref C) "__init__"==some (some (.ref f))&&W.typeIn K (.ref f)==some (.type "function")&&W.findIn K (.ref C) "__getattribute__"==some (some (.builtin "BaseException.__getattribute__")) &&
    W.findIn K (.ref C) "__setattr__"==some (some (.builtin "object.__setattr__"))&&W.findIn K (.ref C) "__getattr__"==some none&&W.keepIn K (.ref C)&&onlyV bm &&
    W.findIn K (.ref C) "__class__"==some (some (.builtin "object.__class__"))&&W.specialIn K (.builtin "object.__class__") "__get__"==some (some (.builtin "getset_descriptor.__get__"))&&W.takesIn K (.builtin "object.__class__")==some true&&W.mroIn K C (.type "object")==some true
  | _,_=>false)
 | _=>false
structure XCls (K:W.Frag) (C f:Addr):Prop where
 obj:∃bm N nm q bs sn sub ab col dd k0 k1 k2 k3 k5,K.lookup C=some (excClassObj nm q C N bs bm true sn sub ab col dd k0 k1 k2 k3 k5 "ValueError.__new__")/\W.tailIn K bmV bm=true
 init:W.findIn K (.ref C) "__init__"=some (some (.ref f))
 fn:W.typeIn K (.ref f)=some (.type "function")
 ga:W.findIn K (.ref C) "__getattribute__"=some (some (.builtin "BaseException.__getattribute__"))
 sa:W.findIn K (.ref C) "__setattr__"=some (some (.builtin "object.__setattr__"))
 gt:W.findIn K (.ref C) "__getattr__"=some none
 kp:W.keepIn K (.ref C)=true
 ov:∃cd,W.clsIn K C=some cd/\onlyV cd.mro=true/\cd.hasDict=true
 cl:W.findIn K (.ref C) "__class__"=some (some (.builtin "object.__class__"))
 cg:W.specialIn K (.builtin "object.__class__") "__get__"=some (some (.builtin "getset_descriptor.__get__"))
 ct:W.takesIn K (.builtin "object.__class__")=some true
 co:W.mroIn K C (.type "object")=some true
set_option tactic.hygienic true in
def xcls_of {K:W.Frag}{C f:Addr} (e:xcB K C f=true):XCls K C f:=by
 unfold xcB at e;split at e
 ·rename_i dd cd sl ho
  split at e
  ·rename_i C' bm k0 k1 k2 k3 n k5 hm hs
   simp only[z0A,beq_iff_eq,Bool.not_eq_true'] at e;obtain⟨⟨⟨⟨⟨⟨⟨⟨⟨⟨⟨⟨⟨⟨⟨rfl,rfl⟩,hdel⟩,ht⟩,hdi⟩,e1⟩,e2⟩,e3⟩,e4⟩,e5⟩,e6⟩,e7⟩,e8⟩,e9⟩,e10⟩,e11⟩:=e;obtain⟨nm,bs,mro,ns,qn,hd,sn,sub,ab,col,del⟩:=cd;dsimp only at hm hdel hdi;subst hm hdel hdi;have hsl:sl=#[k0,k1,k2,k3,some (.builtin "ValueError.__new__"),k5]:=by
    obtain⟨l⟩:=sl;simp only at hs;rw[hs]
   subst hsl;exact⟨⟨bm,ns,nm,qn,bs,sn,sub,ab,col,dd,k0,k1,k2,k3,k5,ho,ht⟩,e1,e2,e3,e4,e5,e6,⟨_,by unfold W.clsIn;rw[ho],by show onlyV bm=true;exact e7,rfl⟩,e8,e9,e10,e11⟩
  ·cases e
 ·cases e
section
variable {prog:Program}{w:World}{A:Around}{K:W.Frag}{C f:Addr}{h:Heap}{g:Array GenState}{d:Drawn}{t:Nat}{os:OsState}{R:Result->Shared->Prop}
def v3i {rest:List Value} (X:K.In h) (c:XCls K C f) (hz:rest.length<=sizeLine)
  (hq:codeAny (model prog w) (A.under (.builtin "type.__call__" ⟨.ref C::rest,[]⟩)) (.call (.ref f) ⟨.ref (h.objs.size+1)::rest,[]⟩) (W.InitBack (h.objs.size+1) R) ⟨(h.push (tupO rest)).push (excO C h.objs.size none),g,d,t,os⟩) :
  codeAny (model prog w) A (.call (.ref C) ⟨rest,[]⟩) R ⟨h,g,d,t,os⟩:=by
 obtain⟨bm,N,nm,q,bs,sn,sub,ab,col,dd,k0,k1,k2,k3,k5,hK,ht⟩:=c.obj;have T:=W.tail_of_in X ht;have hC:=X _ _ hK;have FV:=PySem.F.excBase_ValueError;have b1:=tc_lookup;have b2:=tc_bind (.ref C);have b3:(⟨h,g,d,t,os⟩:Shared).TypeIs (.ref C) "type":=⟨_,hC,rfl⟩;refine codeAny_of_tree ?_;show wpAny _ _ (callAny (.ref C) _) _ _ _
 repeat (any_goals (first|assumption|with_reducible refine wpAny_loadPart_at hC ?_|wp_step))
 refine⟨rfl,?_⟩;refine codeAny_call_builtin_at (Code.quiet_builtin _ (by decide +kernel)) entry_typeCall (wpAny_check_type_call_sub hC ?_)
 repeat (first|with_reducible refine wpAny_loadPart_at hC ?_|with_reducible refine wpAny_madeBy_exc hC ?_|wp_step)
 refine codeAny_call_builtin_code (Code.quiet_builtin _ FV.quiet) (wpAny_check_new_subU FV (by decide +kernel) T hC ?_)
 refine codeAny_exc_new_subU FV (by decide +kernel) FV T hC ?_ hz
 show wpAny _ (A.under (Code.builtin "type.__call__" ⟨Value.ref C::rest,[]⟩)) _ _ _ ⟨(h.push (tupO rest)).push (excO C h.objs.size none),g,d,t,os⟩;have hk:∀b o,h.get? b=some o->((h.push (tupO rest)).push (excO C h.objs.size none)).get? b=some o:=λb o e=>z5 _ (z5 _ e)
 have X1:K.In ((h.push (tupO rest)).push (excO C h.objs.size none)):=X.keeps hk;have hg:((h.push (tupO rest)).push (excO C h.objs.size none)).get? (h.objs.size+1)=some (excO C h.objs.size none):=by heap_get
 have ty:W.Looks (model prog w) ((h.push (tupO rest)).push (excO C h.objs.size none)) (typeOf (.ref (h.objs.size+1))) (.ref C):=(W.Looks.ld hg).andThen .now;have hcC:(Value.ref C::bm).contains (.ref C)=true:=by simp
 have su:W.Looks (model prog w) ((h.push (tupO rest)).push (excO C h.objs.size none)) (isSubtype (.ref C) (.ref C)) true:=W.looks_mroIn X1 (by unfold W.mroIn W.clsIn;rw[hK];exact congrArg some hcC)
 have li:=W.looks_findIn (M:=model prog w) X1 c.init;have lb:=W.bind_fn (M:=model prog w) X1 (.ref (h.objs.size+1)) c.fn;unfold isInstance callSpecial? specialOf
 repeat (first|with_reducible refine wpAny_call ?_|lk)
 refine codeAny_mono hq λr s' z=>?_
 rcases r with e|(v|_|_|_)<;>first|exact z|exact z.elim|skip
 obtain⟨rfl,z⟩:=z;exact wpAny_pure (wpAny_pure z)
end
theorem u5c (self:Value):∀{l:List Value},onlyV l=true->refuseLoop self "__setattr__" l=pure ()
 | .ref c::r,e=>by
  rw[refuseLoop_ref];exact u5c self (l:=r) (by unfold onlyV at e;exact e)
 | [],e=>by cases (beq_iff_eq.mp (show(([]:List Value)==bmV)=true from e))
 | v::r,e=>by
  cases v<;>first
   | (unfold onlyV at e;rw[beq_iff_eq.mp e];kernel_rfl)
   | (rw[refuseLoop_ref];exact u5c self (l:=r) (by unfold onlyV at e;exact e))
theorem u1w:∀{l:List Value},onlyV l=true->l.contains (.type "BaseException")=true
 | .ref c::r,e=>by
  rw[List.contains_cons,u1w (l:=r) (by unfold onlyV at e;exact e),Bool.or_true]
 | [],e=>by cases (beq_iff_eq.mp (show(([]:List Value)==bmV)=true from e))
 | v::r,e=>by
  cases v<;>first
   | (unfold onlyV at e;rw[beq_iff_eq.mp e];decide +kernel)
   | (rw[List.contains_cons,u1w (l:=r) (by unfold onlyV at e;exact e),Bool.or_true])
theorem u3T:∀{l:List Value},onlyV l=true->l.contains (.type "object")=true
 | .ref c::r,e=>by
  rw[List.contains_cons,u3T (l:=r) (by unfold onlyV at e;exact e),Bool.or_true]
 | [],e=>by cases (beq_iff_eq.mp (show(([]:List Value)==bmV)=true from e))
 | v::r,e=>by
  cases v<;>first
   | (unfold onlyV at e;rw[beq_iff_eq.mp e];decide +kernel)
   | (rw[List.contains_cons,u3T (l:=r) (by unfold onlyV at e;exact e),Bool.or_true])
def ExAt (h:Heap) (e C:Addr) (dx:Option Addr):Prop:=∃t f1 f2 f3 f4 f5 sl,h.get? e=some { cls:=.ref C,dict:=dx,data:=.fields #[.ref t,f1,f2,f3,f4,f5],slots:=sl }
section
variable {prog:Program}{w:World}{A:Around}{E:VP}{s:Shared}{K:W.Frag}{e C f:Addr}{name:Str}{v:Value}{R:Result->Shared->Prop}
def exc_osa {ox:Obj}{od:Option Obj}{tk:Tok} (X:K.In s.heap) (c:XCls K C f) (I:W.InstAt s.heap e ox C od) (hn:W.findIn K (.ref C) name=some none)
  (h:∀ b,wpAny (model prog w) A.in1 (Builtin.ObjectAttr.storeInOwnDict (.ref e) (.ref C) (.str name tk) name v b)
   (λfin s'=>match fin with | .done f=>R (.ok f) s' | .again c'=>c'.quiet=true/\codeAny (model prog w) A c' R s') (λx s'=>R (.error x) s') s) :
  codeAny (model prog w) A (.call (.builtin "object.__setattr__") ⟨[.ref e,.str name tk,v],[]⟩) R s:=by
 have SF:=PySem.F.store_object;obtain⟨cd,hc,ho,_⟩:=c.ov;have ne:cd.mro.isEmpty=false:=by
  cases q:cd.mro with
  | nil=>rw[q] at ho;cases (beq_iff_eq.mp (show(([]:List Value)==bmV)=true from ho))
  | cons _ _=>rfl
 have sub:W.Looks (model prog w) s.heap (isInstance (.ref e) (.type "object")) true :=
  I.type.andThen (W.looks_mroIn X (by unfold W.mroIn;rw[hc,Option.bind_some,if_neg (by rw[ne];decide),u3T ho]))
 refine codeAny_call_builtin SF.slot.plain SF.entry (@W.check_slot (model prog w) _ _ s "object.__setattr__" "object" "__setattr__" (.ref e) [.str name tk,v] [] _ SF.kind SF.split sub (SF.args (.ref e) (.str name tk) v) ?_);have hm:W.Looks (model prog w) s.heap (mroOf (.ref C)) cd.mro:=(W.looks_clsIn X hc).andThen .now;rw[W.osa_eq,refuse_eq];refine wpAny_bind (wpAny_bind (I.type.here (wpAny_bind (hm.here ?_))));rw[u5c _ ho];refine wpAny_pure (wpAny_bind (I.type.here (wpAny_bind ((W.looks_findIn X hn).here (wpAny_bind (wpAny_pure (a:=none) ?_))))));exact h _
set_option maxHeartbeats 4000000 in
def exc_get {Q:VP}{expr:Bool}{dx:Addr}{mA:MG} (X:K.In s.heap) (c:XCls K C f) (he:ExAt s.heap e C (some dx)) (hm:s.heap.Ns1 dx mA) (hn:W.findIn K (.ref C) name=some none) (hv:mA name=some v)
  (hv':W.handedIn v=true) (h:Q v { s with toks:=s.toks+1 }):wpAny (model prog w) A (getAttr (.ref e) name expr) Q E s:=by
 obtain⟨t,f1,f2,f3,f4,f5,sl,he⟩:=he;obtain⟨od,hod,hl⟩:=u6d hm;have I:W.InstAt s.heap e _ C (some od):=⟨he,rfl,rfl,hod⟩;obtain⟨cd,hc,ho,hd⟩:=c.ov;have L0:=I.type (M:=model prog w);have L1:=W.looks_findIn (M:=model prog w) X c.ga;have L2:=W.looks_findIn (M:=model prog w) X c.gt;have hf:W.findObj K C (some od) name=some (.value v):=by
  unfold W.findObj;rw[hc,Option.bind_some,hn,Option.bind_some,Option.bind_some,Option.bind_some];show((W.ownOf cd (some od) name).bind _)=_;unfold W.ownOf;rw[if_pos hd];show((W.lookIn name od).bind _)=_;rw[hl,hv];rfl
 have L3:=W.looks_find (M:=model prog w) X I hf;obtain⟨hh,g,d,tt,os⟩:=s;unfold getAttr getAttrBy;refine wpAny_bind (wpAny_mkText (wpAny_holding (wpAny_bind (L0.at (wpAny_bind (L1.at ?_))))));have FA:=PySem.F.attr_ValueError;have ne:cd.mro.isEmpty=false:=by
  cases q:cd.mro with
  | nil=>rw[q] at ho;cases (beq_iff_eq.mp (show(([]:List Value)==bmV)=true from ho))
  | cons _ _=>rfl
 have sub:W.Looks (model prog w) hh (isInstance (.ref e) (.type "BaseException")) true :=
  L0.andThen (W.looks_mroIn X (by unfold W.mroIn;rw[hc,Option.bind_some,if_neg (by rw[ne];decide),u1w ho]))
 show wpAny _ _ (getAttrByItsOwn _ _ _ _ _ _) _ _ _;unfold getAttrByItsOwn;refine wpAny_bind (L2.at ?_);refine wpAny_bind (wpAny_attempt ?_);have hx0:(expr&&onTheHeap (Value.builtin "BaseException.__getattribute__"))=false:=by cases expr<;>rfl
 unfold callGetattribute;rw[if_neg (by rw[hx0];exact q9)]
 refine wpAny_holding ?_;unfold boundAndCalled;rw[FA.ga.bind];refine wpAny_bind (wpAny_pure (wpAny_call ?_));refine codeAny_call_builtin FA.ga.plain F.entry_bexc_ga (@W.check_slot (model prog w) _ _ ⟨hh,g,d,tt+1,os⟩ "BaseException.__getattribute__" "BaseException" "__getattribute__" (.ref e) [.str name tt] [] _ (by decide +kernel) (by decide +kernel) sub (F.args_bexc_ga (.ref e) (.str name tt)) ?_)
 show wpAny _ _ (Builtin.«object.__getattribute__» ⟨[.ref e,.str name tt],[]⟩) _ _ _;unfold Builtin.«object.__getattribute__»;refine wpAny_bind (wpAny_pure (a:=(Value.ref e,[Value.str name tt])) (wpAny_bind (wpAny_pure (a:=name) (wpAny_bind (L0.at (wpAny_bind (L3.at ?_)))))));refine wpAny_pure ?_;show wpAny _ _ (handedOut v) _ _ _;rw[W.handedOut_of hv'];exact wpAny_pure h
set_option maxHeartbeats 4000000 in
def v1c {Q:Option Value->Shared->Prop}{dx:Option Addr}{od:Option Obj}{ox:Obj} (X:K.In s.heap) (c:XCls K C f) (I:W.InstAt s.heap e ox C od) (h:Q (some (.ref C)) { s with toks:=s.toks+1 }) :
  wpAny (model prog w) A (getAttr? (.ref e) "__class__") Q E s:=by
 obtain⟨cd,hc,ho,hd⟩:=c.ov;have L0:=I.type (M:=model prog w);have L1:=W.looks_findIn (M:=model prog w) X c.ga;have L2:=W.looks_findIn (M:=model prog w) X c.gt;have hf:W.findObj K C od "__class__"=some (.bind (.builtin "getset_descriptor.__get__") (.builtin "object.__class__")):=by
  unfold W.findObj;rw[hc,Option.bind_some,c.cl,Option.bind_some];show((W.specialIn K (.builtin "object.__class__") "__get__").bind _)=_;rw[c.cg,Option.bind_some];show((W.takesIn K (.builtin "object.__class__")).bind _)=_;rw[c.ct,Option.bind_some]
 have L3:=W.looks_find (M:=model prog w) X I hf;have FA:=PySem.F.attr_ValueError;have ne:cd.mro.isEmpty=false:=by
  cases q:cd.mro with
  | nil=>rw[q] at ho;cases (beq_iff_eq.mp (show(([]:List Value)==bmV)=true from ho))
  | cons _ _=>rfl
 have sub:W.Looks (model prog w) s.heap (isInstance (.ref e) (.type "BaseException")) true :=
  L0.andThen (W.looks_mroIn X (by unfold W.mroIn;rw[hc,Option.bind_some,if_neg (by rw[ne];decide),u1w ho]))
 obtain⟨hh,g,d,tt,os⟩:=s;unfold getAttr? getAttrBy? getAttrBy;refine wpAny_bind (wpAny_mkText (wpAny_bind (wpAny_attempt (wpAny_holding (wpAny_bind (L0.at (wpAny_bind (L1.at ?_))))))));show wpAny _ _ (getAttrByItsOwn _ _ _ _ _ _) _ _ _;unfold getAttrByItsOwn;refine wpAny_bind (L2.at ?_);refine wpAny_bind (wpAny_attempt ?_);unfold callGetattribute;rw[if_neg (show ¬ (false&&onTheHeap (Value.builtin "BaseException.__getattribute__"))=true from q9)]
 refine wpAny_holding ?_;unfold boundAndCalled;rw[FA.ga.bind];refine wpAny_bind (wpAny_pure (wpAny_call ?_));refine codeAny_call_builtin FA.ga.plain F.entry_bexc_ga (@W.check_slot (model prog w) _ _ ⟨hh,g,d,tt+1,os⟩ "BaseException.__getattribute__" "BaseException" "__getattribute__" (.ref e) [.str "__class__" tt] [] _ (by decide +kernel) (by decide +kernel) sub (F.args_bexc_ga (.ref e) (.str "__class__" tt)) ?_)
 show wpAny _ _ (Builtin.«object.__getattribute__» ⟨[.ref e,.str "__class__" tt],[]⟩) _ _ _;unfold Builtin.«object.__getattribute__»;refine wpAny_bind (wpAny_pure (a:=(Value.ref e,[Value.str "__class__" tt])) (wpAny_bind (wpAny_pure (a:=Str.ofString "__class__") (wpAny_bind (L0.at (wpAny_bind (L3.at ?_)))))));show wpAny _ _ (holding [_] (call _ [_,.ref e,.ref C]) >>= ret) _ _ _;refine wpAny_bind (wpAny_holding (wpAny_call (W.class_get (s:=⟨hh,g,d,tt+1,os⟩) (ox:=ox) (od:=od) X I c.co ?_)));refine wpAny_pure ?_;show wpAny _ _ (handedOut (.ref C)) _ _ _;exact wpAny_pure (wpAny_pure h)
def u7U {dx:Option Addr}{od:Option Obj} (c:XCls K C f):W.KitX K (.ref e) (.ref C) (λh=>∃ox od,W.InstAt h e ox C od) where
 ty:=λ_ _ _ ⟨_,_,I⟩=>I.type
 it:=λ_ _ X _=>by
  obtain⟨bm,N,nm,q,bs,sn,sub,ab,col,dd,k0,k1,k2,k3,k5,hK,ht⟩:=c.obj;intro A' Q' E' s' k q;unfold isType loadHead;exact wpAny_bind (wpAny_loadPart (k _ _ (X _ _ hK)) (wpAny_pure q))
 ne:=λh tp dd its n sl X htp=>by
  obtain⟨bm,N,nm,q,bs,sn,sub,ab,col,dd,k0,k1,k2,k3,k5,hK,ht⟩:=c.obj;refine Bool.eq_false_iff.mpr λq=>?_
  have ee:C=tp:=Value.ref.inj (beq_iff_eq.mp q);subst ee;have z:=congrArg Obj.cls (Option.some.inj ((X _ _ hK).symm.trans htp));exact absurd (Value.type.inj z) (by decide)
 ca:=λX z976 k=>by obtain⟨_,_,I⟩:=z976;exact v1c (dx:=none) X c I k
end
noncomputable def XO (C:Addr) (dx:Option Addr) (e:Addr):HO:=.ext λh=>ExAt h e C dx
noncomputable def DXO (dx:Addr) (fs:List (Str×V)):HO:=.ext λh=>∃mA,h.Ns1 dx mA/\(∀f,RelO (fs.lookup f) (mA f))/\PySem.Within mA (fs.map (·.1))
section
variable {P:Program}{w:World}{H:Hp}{h:Heap}{e C dx:Addr}{d:Option Addr}{fs:List (Str×V)}
def xo_ok (x:ExAt h e C d):ObjOk P w H h e (XO C d e) :=
 ⟨x,by obtain⟨_,_,_,_,_,_,_,q⟩:=x;exact⟨_,q⟩,λh1 h2 z977 k=>by obtain⟨t,f1,f2,f3,f4,f5,sl,q⟩:=z977;exact⟨t,f1,f2,f3,f4,f5,sl,k _ q⟩⟩
def v3L {mA:MG} (n:h.Ns1 dx mA) (r:∀f,RelO (fs.lookup f) (mA f)) (z:PySem.Within mA (fs.map (·.1))):ObjOk P w H h dx (DXO dx fs) :=
 ⟨⟨mA,n,r,z⟩,by obtain⟨o,_,_,q,_⟩:=n;exact⟨o,q⟩,λh1 h2 z978 k=>by obtain⟨m,a,b,c⟩:=z978;exact⟨m,a.at k,b,c⟩⟩
def v1I (x:HOk P w H h) (q:H e=some (XO C d e)):ExAt h e C d:=(show ObjOk P w H h e (XO C d e) from x e _ q).1
def dxo_at (x:HOk P w H h) (q:H dx=some (DXO dx fs)):∃mA,h.Ns1 dx mA/\(∀f,RelO (fs.lookup f) (mA f))/\PySem.Within mA (fs.map (·.1)):=(show ObjOk P w H h dx (DXO dx fs) from x dx _ q).1
def ExAt.inst (x:ExAt h e C (some dx)) {od:Obj} (q:h.get? dx=some od):∃ox,W.InstAt h e ox C (some od):=by obtain⟨t,f1,f2,f3,f4,f5,sl,z⟩:=x;exact⟨_,z,rfl,rfl,q⟩
end
section
variable {X:Cx}{pins:LO}{σ:St}{H:Hp}{s:Shared}{a C dx fI:Addr}{fs:List (Str×V)}{f:Str}{v:V}{A:Around}{E:VP}
def xget_ok {b:Bool}{Q:VP} (I:Inv X pins σ H s) (e:H a=some (XO C (some dx) a)) (ed:H dx=some (DXO dx fs)) (c:XCls X.K C fI) (n:NoAttr X.K C f) (l:fs.lookup f=some v)
  (h:∀u s',Inv X pins σ H s'->RelV v u->Q u s'):wpAny (model X.prog X.w) A (getAttr (.ref a) f b) Q E s:=by
 obtain⟨mA,nA,r,_⟩:=dxo_at I.hok ed;obtain⟨u,hu,ru⟩:=RelO.some_of (v:=v) (o:=mA f) (by rw[<- l];exact r f)
 exact exc_get I.kIn c (v1I I.hok e) nA n hu (u6m ru) (h u _ (I.tok _) ru)
end
section
variable {X:Cx}{e o value:Expr}{es:List Expr}{ta tv te:TE}{t:TA}{f x:Str}{p pos pos':Pos}{C fI:Addr}{fd:FuncData}{ps:List Str}{sp:Sp}{k:Nat}{v:V}
def tXFld (K:W.Frag) (ta:TE) (f:Str):TE:=λσ H Q=>ta σ H λx H1=>∃a C fI dx fs v,x=.ref a/\H1 a=some (XO C (some dx) a)/\H1 dx=some (DXO dx fs)/\XCls K C fI/\NoAttr K C f/\fs.lookup f=some v/\Q v H1
def pe_xfld (he:PE X e ta) (hb:attributeBase e f X.env (eval e X.env)=eval e X.env):PE X (.Attribute e f pos) (tXFld X.K ta f):=by
 intro pins s σ H Q I h;refine v1D hb (thn (he pins s σ H _ I h) λu s1 z979=>?_)
 obtain⟨x,H1,I1,rx,a,C,fI,dx,fs,v,ex,ea,ed,c,n,l,q⟩:=z979;subst ex;obtain rfl:u=Value.ref a:=rx;exact xget_ok I1 ea ed c n l λu' s2 I2 ru=>⟨v,H1,I2,ru,q⟩
end
section
variable {X:Cx}{pins:LO}{σ:St}{H:Hp}{s:Shared}{h':Heap}
def Inv.turned2 {t':Nat}{e it p:Addr}{ys:List V} (I:Inv X pins σ H s) (k:∀b o,b≠e->b≠it->s.heap.get? b=some o->h'.get? b=some o) (f1:FpOk X pins H e) (f2:FpOk X pins H it) (hp:s.heap.objs.size<=p)
  (new:ObjOk X.prog X.w (upd H p (.tup ys)) h' p (.tup ys)):Inv X pins σ (upd H p (.tup ys)) { s with heap:=h',toks:=t' }:=by
 have hfr:H p=none:=I.hok.fresh hp;have nin:∀b u,H b=some u->b≠e/\b≠it:=λb u q=>⟨(λz=>by rw[z,f1.1] at q;cases q),(λz=>by rw[z,f2.1] at q;cases q)⟩
 have nch:∀b,b∉[e,it]->b≠e/\b≠it:=λb hb=>⟨λz=>hb (by simp[z]),λz=>hb (by simp[z])⟩
 refine I.call' (ch:=[e,it]) rfl ⟨λb o q n _ hx=>k b o (nch b hx).1 (nch b hx).2 q,λb o q n _ hx=>⟨o.slots,k b o (nch b hx).1 (nch b hx).2 q⟩,λb o q n _=>?_,λb o q hx=>⟨o,k b o (nch b hx).1 (nch b hx).2 q⟩,λb xs q=>?_,λb o u q=>?_,λb ps q=>⟨#[],?_⟩⟩ ?_ I.bare λb hb=>?_
 ·rw[u0f (by rintro rfl;exact absurd (z7 q) (Nat.not_lt.mpr hp))];exact n
 ·rw[u0f (u0m q hfr)];exact q
 ·rw[u0f (u0m q hfr)];exact q
 ·rw[u0f (u0m q hfr),q];simp
 ·intro b u q
  by_cases hb:b=p
  ·subst hb;rw[u0d] at q;cases q;exact new
  ·rw [u0f hb] at q
   refine(I.hok b u q).stay (λc v hc z=>?_) (λc z=>by rw[u0f (u0m z hfr)];exact z) λc xs z=>by rw[u0f (u0m z hfr)];exact z
   rcases hc with rfl|hc
   ·exact k c v (nin c u q).1 (nin c u q).2 z
   ·exact k c v (nin c _ hc).1 (nin c _ hc).2 z
 ·rcases y7.mp hb with rfl | hb
  ·exact⟨f1.2.2.2.1,f1.2.1,f1.2.2.2.2.1,f1.2.2.2.2.2⟩
  ·obtain rfl:b=it:=by simpa using hb
   exact⟨f2.2.2.2.1,f2.2.1,f2.2.2.2.2.1,f2.2.2.2.2.2⟩
end
def Ite (K:W.Frag) (a:Addr):It :=
 ⟨λi H=>∃xs x,SqL K H a xs/\xs[i]?=some x,λi H y H'=>∃p x,H p=none/\y=.ref p/\H'=upd H p (.tup [.int i,x])/\∀xs,SqL K H a xs->xs[i]?=some x,λi H=>∃xs,SqL K H a xs/\xs.length<=i⟩
def u5D {P:Program}{w:World}{K:W.Frag}{es:List Expr}{k:Nat}{pos:Pos} (a e it:Addr) (hne:e≠it) :
  Turn P w K (.Tuple es k pos) (Ite K a) [e,it] e (λi h=>(∃old,IsEnum h e it (i:Int) old)/\h.IsListIter it a i) where
 mem:=by simp
 obj:=λi h st b hb=>by
  obtain⟨⟨old,q⟩,o,e2,c,d⟩:=st;rcases y7.mp hb with rfl|hb
  ·exact⟨_,q,λv z=>by cases z⟩
  ·obtain rfl:b=it:=by simpa using hb
   exact⟨o,e2,λv z=>by rw[d] at z;cases z⟩
 keep:=λi h h' st k=>⟨by obtain⟨old,q⟩:=st.1;exact⟨old,k e (by simp) _ q⟩,st.2.at λo q=>k it (by simp) o q⟩
 item:=by
  intro X hP hw hK hc i pins s σ H E I hf st hg;subst hP hw hK;obtain⟨xs,x,hq,hx⟩:=hg;obtain⟨its,rv,p,hz⟩:=I.list hq;obtain⟨u,hu,ru⟩:=rv.get hx;obtain⟨⟨old,he⟩,hl⟩:=st;have f1:=hf e (by simp)
  have f2:=hf it (by simp)
  have hel:e<s.heap.objs.size:=z7 he;refine wpAny_pyNext_enum_item he hl p.isList (x:=u) (by simpa using hu) hne λh1 eo li ht hsz kk=>⟨_,rfl,?_⟩
  refine wpAny_letOwnedTupleGo_enum (s:={ s with heap:=h1,toks:=s.toks+1 }) eo λh2 en sb=>?_
  have hpe:s.heap.objs.size≠e:=Nat.ne_of_gt hel;have hfr:H s.heap.objs.size=none:=I.hok.fresh (y0 _);have k2:∀b o,b≠e->b≠it->s.heap.get? b=some o->h2.get? b=some o:=λb o hb hi q=>(sb.2 b hb).trans (kk b o hb hi q)
  have ht2:h2.get? s.heap.objs.size=some { cls:=.type "tuple",data:=.seq #[.int i s.toks,u] }:=(sb.2 _ hpe).trans ht;have I2:=I.turned2 (t':=s.toks+1) (p:=s.heap.objs.size) (ys:=[.int i,x]) k2 f1 f2 (y0 _) ⟨by show 2<=sizeLine;decide,[.int i s.toks,u],.cons ⟨_,rfl⟩ (.cons ru .nil),⟨_,ht2,rfl,_,rfl⟩⟩
  have en':IsEnum h2 e it (((i+1:Nat):Int)) u:=by
   have:((i+1:Nat):Int)=(i:Int)+1:=by omega
   rw[this];exact en
  refine⟨.ref s.heap.objs.size,_,I2,rfl,⟨s.heap.objs.size,x,hfr,rfl,rfl,λys hy=>by rw[I.list_inj hy hq];exact hx⟩,⟨⟨u,en'⟩,?_⟩,λb hb=>?_⟩
  ·obtain ⟨o,q,r⟩:=li
   exact⟨o,(sb.2 it (Ne.symm hne)).trans q,r⟩
  ·have hb':b<s.heap.objs.size:=by
    rcases y7.mp hb with rfl|hb
    ·exact hel
    ·obtain rfl:b=it:=by simpa using hb
     obtain⟨o,q,_⟩:=hl;exact z7 q
   rw[u0f (v5 hb')];exact(hf b hb).1
 done:=by
  intro X hP hw hK hc i pins s σ H E I hf st hg;subst hP hw hK;obtain⟨xs,hq,hx⟩:=hg;obtain⟨its,rv,p,hz⟩:=I.list hq;obtain⟨⟨old,he⟩,hl⟩:=st;obtain⟨f0,f1,f2,f3,f4,f5⟩:=hf it (by simp)
  have hlen:=rv.length;exact wpAny_pyNext_enum_end (I.ok.hd hc) he hl p.isList (by simp;omega) λh' eb=>⟨rfl,I.turned (t':=s.toks) (λb o hb q=>eb b o hb q) f0 f1 f3 f4 f5⟩
 self:=λ_ _ _ _ _ st h=>by
  obtain⟨⟨old,he⟩,_⟩:=st;exact wpAny_pyIter_enum he h
def iEnum (K:W.Frag) (ta:TA):TI:=λσ H R=>ta σ H λvs H1=>∃a xs,vs=[.ref a]/\SqL K H1 a xs/\R (Ite K a) H1
section
variable {X:Cx}{a:Expr}{ta:TA}{p pos tp:Pos}{es:List Expr}{k:Nat}
def pi_enum (hg:Gl X "enumerate") (hm:X.mg "enumerate"=none) (ha:PA X [a] ta) (hs:starEach [a] X.env=[(false,eval a X.env)]:=by rfl):PI X (.Tuple es k tp) (.Call (.Name "enumerate" p) [a] [] pos) (iEnum X.K ta):=by
 intro pins s σ H R I h;refine Call_ (u1M I hg hm (show bootBuiltins "enumerate"=some (.type "enumerate") by decide +kernel) (PyProof.Rows.callWith_type1 (thn (ha pos pins s σ H _ I h) λus s1 ⟨vs,H1,I1,r1,q1⟩=>?_) hs rfl))
 obtain⟨a',xs,e,hq,q⟩:=q1;subst e;obtain⟨u,rfl,ru⟩:=vals1 r1;cases ru;obtain⟨its,rv,pl,hz⟩:=I1.list hq;refine call_enumerate_list pl.isList λh' en li hsz kk=>?_
 refine wpAny_pyIter_enum en ?_;have hne:s1.heap.objs.size+1≠s1.heap.objs.size:=Nat.succ_ne_self _;refine⟨s1.heap.objs.size+1,[s1.heap.objs.size+1,s1.heap.objs.size],_,Ite X.K a',H1,rfl,I1.kept (t':=s1.toks) kk,u5D a' _ _ hne,⟨⟨_,en⟩,li⟩,λb hb=>?_,q⟩
 have hb':s1.heap.objs.size<=b:=by
  rcases y7.mp hb with rfl|hb
  ·exact Nat.le_succ _
  ·have e:b=s1.heap.objs.size:=by simpa using hb
   rw[e];exact y0 _
 exact I1.fpOk hb' (I1.hok.fresh hb')
end
def un5 {α β γ:Type}{p q:α->β->γ->Prop}{r:Prop} (h:∃a b c,p a b c/\q a b c) (k:∀a b c,p a b c->q a b c->r):r:=by obtain⟨a,b,c,x,y⟩:=h;exact k a b c x y
inductive DK where
 | i (n:Int)|s (z:Str)|t (ks:List DK)
noncomputable instance:DecidableEq DK:=λa b=>_root_.Classical.propDecidable (a=b)
inductive D where
 | non|bl (b:Bool)|int (i:Int)|str (z:Str)|ty (T:String)
 | lst (ds:List D)|tup (ds:List D)|dct (kvs:List (D×D))|ins (C:Addr) (fs:List (Str×D))|exc (C:Addr) (fs:List (Str×D))|dn (hs:List DK->Int) (kvs:List (List DK×D))|hdl (a:Addr)
inductive Res (α:Type) where
 | ok (a:α)|err (x:D)|bad
namespace Res
noncomputable def bind {α β:Type}:Res α->(α->Res β)->Res β
 | .ok a,f=>f a
 | .err x,_=>.err x
 | .bad,_=>.bad
def all {α:Type} (r:Res α) (P:α->Prop) (E:D->Prop):Prop:=match r with
 | .ok a=>P a
 | .err x=>E x
 | .bad=>False
@[simp] theorem bind_ok {α β:Type} (a:α) (f:α->Res β):(Res.ok a).bind f=f a:=rfl
@[simp] theorem bind_err {α β:Type} (x:D) (f:α->Res β):(Res.err x).bind f=.err x:=rfl
@[simp] theorem bind_bad {α β:Type} (f:α->Res β):Res.bad.bind f=.bad:=rfl
def all_bind {α β:Type}{r:Res α}{f:α->Res β}{P:β->Prop}{E:D->Prop}:(r.bind f).all P E↔r.all (λa=>(f a).all P E) E:=by
 cases r<;>exact Iff.rfl
def all_mono {α:Type}{r:Res α}{P Q:α->Prop}{E F:D->Prop} (h:r.all P E) (p:∀a,P a->Q a) (e:∀x,E x->F x):r.all Q F:=by
 cases r with
 | ok a=>exact p a h
 | err x=>exact e x h
 | bad=>exact h
end Res
noncomputable def kD:Key->D
 | .inl i=>.int i
 | .inr z=>.str z
mutual
noncomputable def DK.toD:DK->D
 | .i n=>.int n
 | .s z=>.str z
 | .t ks=>.tup (DK.toDs ks)
noncomputable def DK.toDs:List DK->List D
 | []=>[]
 | k::ks=>k.toD::DK.toDs ks
end
mutual
noncomputable def DK.py:DK->PyData
 | .i n=>.int n
 | .s z=>.str z
 | .t ks=>.tuple (DK.pys ks)
noncomputable def DK.pys:List DK->List PyData
 | []=>[]
 | k::ks=>k.py::DK.pys ks
end
mutual
noncomputable def DK.dep:DK->Nat
 | .i _=>0
 | .s _=>0
 | .t ks=>DK.deps ks+1
noncomputable def DK.deps:List DK->Nat
 | []=>0
 | k::ks=>max k.dep (DK.deps ks)
end
noncomputable def okK (k:List DK):Bool:=decide ((DK.t k).dep<=8)&&SeqAt.shaped (DK.t k).py
noncomputable def NDO (a:Addr) (hs:List DK->Int) (xs:List (List DK×Addr×Value)):HO:=.ext λh=>∃o es ep,h.get? a=some o/\o.ExactDict/\o.data=.dict es ep/\es.toList=xs.map (λx=>⟨hs x.1,.ref x.2.1,x.2.2⟩)/\(xs.map (·.1)).Nodup/\xs.length<=sizeLine/\(a==sysModules)=false
mutual
inductive Rp (K:W.Frag) (H:Hp):V->D->Prop
 | non:Rp K H .non .non
 | bl (b:Bool):Rp K H (.bl b) (.bl b)
 | int (i:Int):Rp K H (.int i) (.int i)
 | str {z:Str} (h:z.length<=sizeLine):Rp K H (.str z) (.str z)
 | ty (T:String):Rp K H (.ty T) (.ty T)
 | lst {a:Addr}{xs:List V}{ds:List D}:Rd H a (.lst xs)->Rps K H xs ds->Rp K H (.ref a) (.lst ds)
 | tup {a:Addr}{xs:List V}{ds:List D}:SqT K H a xs->Rps K H xs ds->Rp K H (.ref a) (.tup ds)
 | dK {a:Addr}{kvs:List (Key×V)}{ps:List (D×D)}:H a=some (.dK kvs)->Rpk K H kvs ps->Rp K H (.ref a) (.dct ps)
 | ins {a C dx:Addr}{fs:List (Str×V)}{gs:List (Str×D)}:H a=some (.ins C dx fs)->Rpf K H fs gs->Rp K H (.ref a) (.ins C gs)
 | exc {a C dx:Addr}{fs:List (Str×V)}{gs:List (Str×D)}:H a=some (XO C (some dx) a)->H dx=some (DXO dx fs)->Rpf K H fs gs->Rp K H (.ref a) (.exc C gs)
 | dn {a:Addr}{hs:List DK->Int}{xs:List (List DK×Addr×Value)}{kvs:List (List DK×D)}:H a=some (NDO a hs xs)->Rpn K H xs kvs->Rp K H (.ref a) (.dn hs kvs)
 | hdl (a:Addr):Rp K H (.ref a) (.hdl a)
inductive Rps (K:W.Frag) (H:Hp):List V->List D->Prop
 | nil:Rps K H [] []
 | cons {x:V}{d:D}{xs:List V}{ds:List D}:Rp K H x d->Rps K H xs ds->Rps K H (x::xs) (d::ds)
inductive Rpk (K:W.Frag) (H:Hp):List (Key×V)->List (D×D)->Prop
 | nil:Rpk K H [] []
 | cons {k:Key}{x:V}{d:D}{xs:List (Key×V)}{ds:List (D×D)}:Rp K H x d->Rpk K H xs ds->Rpk K H ((k,x)::xs) ((kD k,d)::ds)
inductive Rpf (K:W.Frag) (H:Hp):List (Str×V)->List (Str×D)->Prop
 | nil:Rpf K H [] []
 | cons {k:Str}{x:V}{d:D}{xs:List (Str×V)}{ds:List (Str×D)}:Rp K H x d->Rpf K H xs ds->Rpf K H ((k,x)::xs) ((k,d)::ds)
inductive Rpn (K:W.Frag) (H:Hp):List (List DK×Addr×Value)->List (List DK×D)->Prop
 | nil:Rpn K H [] []
 | cons {k:List DK}{q:Addr}{u:Value}{x:V}{d:D}{xs:List (List DK×Addr×Value)}{ds:List (List DK×D)}:okK k=true->Rp K H (.ref q) (DK.t k).toD->RelV x u->Rp K H x d->Rpn K H xs ds->Rpn K H ((k,q,u)::xs) ((k,d)::ds)
end
section
variable {K:W.Frag}{H H':Hp}
def Rd.same (e:Same H H') {a:Addr}{u:HO} (h:Rd H a u):Rd H' a u:=by
 rcases h with h|⟨o,h⟩
 ·exact .inl (e _ _ h)
 ·exact .inr ⟨o,e _ _ h⟩
mutual
theorem Rp.same (e:Same H H'):∀{x:V}{d:D},Rp K H x d->Rp K H' x d
 | _,_,.non=>.non
 | _,_,.bl b=>.bl b
 | _,_,.int i=>.int i
 | _,_,.str h=>.str h
 | _,_,.ty T=>.ty T
 | _,_,.lst hq hs=>.lst (hq.same e) (Rps.same e hs)
 | _,_,.tup hq hs=>.tup (e.seqT hq) (Rps.same e hs)
 | _,_,.dK hq hs=>.dK (e _ _ hq) (Rpk.same e hs)
 | _,_,.ins hq hs=>.ins (e _ _ hq) (Rpf.same e hs)
 | _,_,.exc hq hr hs=>.exc (e _ _ hq) (e _ _ hr) (Rpf.same e hs)
 | _,_,.dn hq hs=>.dn (e _ _ hq) (Rpn.same e hs)
 | _,_,.hdl a=>.hdl a
theorem Rps.same (e:Same H H'):∀{x:List V}{d:List D},Rps K H x d->Rps K H' x d
 | _,_,.nil=>.nil
 | _,_,.cons h hs=>.cons (Rp.same e h) (Rps.same e hs)
theorem Rpk.same (e:Same H H'):∀{x:List (Key×V)}{d:List (D×D)},Rpk K H x d->Rpk K H' x d
 | _,_,.nil=>.nil
 | _,_,.cons h hs=>.cons (Rp.same e h) (Rpk.same e hs)
theorem Rpf.same (e:Same H H'):∀{x:List (Str×V)}{d:List (Str×D)},Rpf K H x d->Rpf K H' x d
 | _,_,.nil=>.nil
 | _,_,.cons h hs=>.cons (Rp.same e h) (Rpf.same e hs)
theorem Rpn.same (e:Same H H'):∀{x:List (List DK×Addr×Value)}{d:List (List DK×D)},Rpn K H x d->Rpn K H' x d
 | _,_,.nil=>.nil
 | _,_,.cons o h r h2 hs=>.cons o (Rp.same e h) r (Rp.same e h2) (Rpn.same e hs)
end
theorem Rps.length:∀{xs:List V}{ds:List D},Rps K H xs ds->xs.length=ds.length
 | _,_,.nil=>rfl
 | _,_,.cons _ hs=>congrArg (·+1) hs.length
theorem Rps.get:∀{xs:List V}{ds:List D}{i:Nat}{d:D},Rps K H xs ds->ds[i]?=some d->∃x,xs[i]?=some x/\Rp K H x d
 | _,_,0,_,.cons h _,e=>by cases e;exact⟨_,rfl,h⟩
 | _,_,i+1,_,.cons _ hs,e=>hs.get (i:=i) (by simpa using e)
theorem Rps.append:∀{xs ys:List V}{ds es:List D},Rps K H xs ds->Rps K H ys es->Rps K H (xs++ys) (ds++es)
 | _,_,_,_,.nil,h=>h
 | _,_,_,_,.cons h hs,h'=>.cons h (hs.append h')
theorem Rps.take:∀{xs:List V}{ds:List D} (n:Nat),Rps K H xs ds->Rps K H (xs.take n) (ds.take n)
 | _,_,0,_=>by simpa using Rps.nil
 | _,_,_+1,.nil=>by simpa using Rps.nil
 | _,_,n+1,.cons h hs=>by simpa using Rps.cons h (hs.take n)
theorem Rps.drop:∀{xs:List V}{ds:List D} (n:Nat),Rps K H xs ds->Rps K H (xs.drop n) (ds.drop n)
 | _,_,0,h=>h
 | _,_,_+1,.nil=>by simpa using Rps.nil
 | _,_,n+1,.cons _ hs=>by simpa using hs.drop n
theorem Rps.rep {xs:List V}{ds:List D} (h:Rps K H xs ds):∀n:Nat,Rps K H (List.replicate n xs).flatten (List.replicate n ds).flatten
 | 0=>.nil
 | n+1=>by simpa[List.replicate_succ] using h.append (h.rep n)
theorem Rpf.lookup:∀{fs:List (Str×V)}{gs:List (Str×D)}{f:Str}{d:D},Rpf K H fs gs->gs.lookup f=some d->∃v,fs.lookup f=some v/\Rp K H v d
 | _,_,f,d,.cons (k:=k) h hs,e=>by
  rw[t9] at e |-
  cases q:f==k with
  | true=>rw[q] at e;cases e;exact⟨_,rfl,h⟩
  | false=>rw[q] at e;exact hs.lookup e
end
structure Stp (F H F' H':Hp):Prop where
 ff:Same F F'
 fh:Same F' H'
 hh:Same H H'
 no:∀a,F a=none->H a≠none->F' a=none
section
variable {F H F' H' F'' H'':Hp}{a:Addr}{o:HO}
theorem Stp.refl (h:Same F H):Stp F H F H:=⟨Same.refl F,h,Same.refl H,λ_ q _=>q⟩
def u3d (e:Same H H') {a:Addr} (h:H a≠none):H' a≠none:=by
 intro q;cases z:H a with
 | none=>exact h z
 | some o=>rw[e a o z] at q;cases q
theorem Stp.trans (x:Stp F H F' H') (y:Stp F' H' F'' H''):Stp F H F'' H'' :=
 ⟨x.ff.trans y.ff,y.fh,x.hh.trans y.hh,λa q r=>y.no a (x.no a q r) (u3d x.hh r)⟩
def v2a (h:Same F H):Same (upd F a o) (upd H a o):=λb u e=>by
 unfold upd at e |-
 by_cases q:b=a
 ·rw[if_pos q] at e |-;exact e
 ·rw[if_neg q] at e |-;exact h b u e
def u0i (h:F a=none):Same F (upd F a o):=λb u e=>by
 unfold upd;by_cases q:b=a
 ·subst q;rw[h] at e;cases e
 ·rw[if_neg q];exact e
def Stp.new (h:Same F H) (n:H a=none):Stp F H (upd F a o) (upd H a o) :=
 ⟨u0i (h.free n),v2a h,u0i n,λb q r=>by
  unfold upd;by_cases z:b=a
  ·subst z;exact absurd n r
  ·rw[if_neg z];exact q⟩
def Stp.only (h:Same F H) (e:Same H H'):Stp F H F H':=⟨Same.refl F,h.trans e,e,λ_ q _=>q⟩
end
inductive OD where
 | l (ds:List D)|d (kvs:List (D×D))|i (a C:Addr) (gs:List (Str×D))|n (hs:List DK->Int) (kvs:List (List DK×D))|p (a:Addr) (o:OD)
noncomputable def OD.toD:OD->D
 | .l ds=>.lst ds
 | .d kvs=>.dct kvs
 | .i _ C gs=>.ins C gs
 | .n hs kvs=>.dn hs kvs
 | .p _ o=>o.toD
inductive Ro (K:W.Frag) (F:Hp) (a:Addr):HO->OD->Prop
 | l {xs:List V}{ds:List D}:Rps K F xs ds->Ro K F a (.lst xs) (.l ds)
 | d {kvs:List (Key×V)}{ps:List (D×D)}:Rpk K F kvs ps->Ro K F a (.dK kvs) (.d ps)
 | i {C dx:Addr}{fs:List (Str×V)}{gs:List (Str×D)}:Rpf K F fs gs->Ro K F a (.ins C dx fs) (.i a C gs)
 | n {hs:List DK->Int}{xs:List (List DK×Addr×Value)}{kvs:List (List DK×D)}:Rpn K F xs kvs->Ro K F a (NDO a hs xs) (.n hs kvs)
 | p {h:HO}{o:OD}:Ro K F a h o->Ro K F a h (.p a o)
theorem Ro.same {K:W.Frag}{F F':Hp}{a:Addr} (e:Same F F') {h:HO}{o:OD} (r:Ro K F a h o):Ro K F' a h o:=by
 induction r with
 | l r=>exact .l (Rps.same e r)
 | d r=>exact .d (Rpk.same e r)
 | i r=>exact .i (Rpf.same e r)
 | n r=>exact .n (Rpn.same e r)
 | p _ ih=>exact .p ih
def Ro.rp {K:W.Frag}{F:Hp}{a:Addr}{h:HO}{o:OD} (r:Ro K F a h o) (e:F a=some h):Rp K F (.ref a) o.toD:=by
 induction r with
 | l r=>exact .lst (.inl e) r
 | d r=>exact .dK e r
 | i r=>exact .ins e r
 | n r=>exact .dn e r
 | p _ ih=>exact ih e
inductive Sl where
 | val (d:D)|own (o:OD)
abbrev Rho:=List (Option Sl)
structure Rel (K:W.Frag) (B:Hp×Hp) (ρ:Rho) (σ:St) (F H:Hp):Prop where
 st:Stp B.1 B.2 F H
 len:σ.length=ρ.length
 val:∀(i:Nat) d,ρ[i]?=some (some (.val d))->∃v,σ[i]?=some (some v)/\Rp K F v d
 own:∀(i:Nat) o,ρ[i]?=some (some (.own o))->∃a h,σ[i]?=some (some (.ref a))/\F a=none/\B.2 a=none/\H a=some h/\Ro K F a h o
 dis:∀(i j:Nat) o u a,ρ[i]?=some (some (.own o))->ρ[j]?=some (some (.own u))->σ[i]?=some (some (.ref a))->σ[j]?=some (some (.ref a))->i=j
noncomputable def frzS:Sl->Sl
 | .val d=>.val d
 | .own o=>.val o.toD
noncomputable def frz (ρ:Rho):Rho:=ρ.map (Option.map frzS)
section
variable {K:W.Frag}{B:Hp×Hp}{ρ:Rho}{σ:St}{F H F' H':Hp}
theorem Rel.fh (r:Rel K B ρ σ F H):Same F H:=r.st.fh
def Rel.step (r:Rel K B ρ σ F H) (s:Stp F H F' H'):Rel K B ρ σ F' H' where
 st:=r.st.trans s
 len:=r.len
 val i d e:=let ⟨v,h1,h2⟩:=r.val i d e;⟨v,h1,h2.same s.ff⟩
 own i o e:=let ⟨a,h,h1,h2,h3,h4,h5⟩:=r.own i o e;⟨a,h,h1,s.no a h2 (by rw[h4];simp),h3,s.hh a h h4,Ro.same s.ff h5⟩
 dis:=r.dis
def u5r {i:Nat}{x:Sl} (h:(frz ρ)[i]?=some (some x)):∃y,ρ[i]?=some (some y)/\x=frzS y:=by
 unfold frz at h;rw[w9] at h;cases q:ρ[i]? with
 | none=>rw[q] at h;cases h
 | some z =>
  rw[q] at h;cases z with
  | none=>simp at h
  | some y=>simp at h;exact⟨y,rfl,h.symm⟩
open Classical in
theorem Rel.frz (r:Rel K B ρ σ F H):∃F',Same F F'/\Rel K B (frz ρ) σ F' H:=by
 let T:Addr->Prop:=λa=>∃(i:Nat) (o:OD),ρ[i]?=some (some (.own o))/\σ[i]?=some (some (.ref a))
 let F':Hp:=λa=>if T a then H a else F a
 have hT:∀a,T a->F a=none/\B.2 a=none:=λa ⟨i,o,e,q⟩=>by
  obtain⟨b,h,h1,h2,h3,_⟩:=r.own i o e;rw[q] at h1;cases h1;exact⟨h2,h3⟩
 have e1:Same F F':=λa o e=>by
  show(if T a then H a else F a)=some o
  by_cases q:T a
  ·rw[(hT a q).1] at e;cases e
  ·rw[if_neg q];exact e
 have e2:Same F' H:=λa o e=>by
  have e':(if T a then H a else F a)=some o:=e
  by_cases q:T a
  ·rw[if_pos q] at e';exact e'
  ·rw[if_neg q] at e';exact r.fh a o e'
 refine⟨F',e1,⟨⟨r.st.ff.trans e1,e2,r.st.hh,λa q z=>?_⟩,?_,?_,?_,?_⟩⟩
 ·show (if T a then H a else F a)=none
  by_cases t:T a
  ·exact absurd (hT a t).2 z
  ·rw[if_neg t];exact r.st.no a q z
 ·rw[r.len];unfold L2.frz;simp
 ·intro i d e
  obtain⟨y,h1,h2⟩:=u5r e;cases y with
  | val d'=>cases h2;obtain⟨v,q1,q2⟩:=r.val i d h1;exact⟨v,q1,q2.same e1⟩
  | own o =>
   cases h2;obtain⟨a,h,q1,q2,q3,q4,q5⟩:=r.own i o h1;have t:T a:=⟨i,o,h1,q1⟩;exact⟨.ref a,q1,Ro.rp (Ro.same e1 q5) (show(if T a then H a else F a)=some h by rw[if_pos t];exact q4)⟩
 ·intro i o e
  obtain⟨y,h1,h2⟩:=u5r e;cases y<;>cases h2
 ·intro i j o u a e
  obtain⟨y,h1,h2⟩:=u5r e;cases y<;>cases h2
def u0H {α:Type}{l:List α}{i j:Nat}{x y:α} (h:(l.set i x)[j]?=some y):(j=i/\i<l.length/\y=x)\/(j≠i/\l[j]?=some y):=by
 rw[List.getElem?_set] at h;by_cases q:i=j
 ·rw [if_pos q] at h
  by_cases z:i<l.length
  ·rw[if_pos z] at h;exact .inl ⟨q.symm,z,(Option.some.inj h).symm⟩
  ·rw[if_neg z] at h;cases h
 ·rw[if_neg q] at h;exact .inr ⟨λe=>q e.symm,h⟩
def u5K {α:Type}{l:List α}{i:Nat}{x:α} (h:i<l.length):(l.set i x)[i]?=some x:=by simp[h]
def u0G {α:Type}{l:List α}{i j:Nat}{x:α} (h:j≠i):(l.set i x)[j]?=l[j]?:=by rw[List.getElem?_set,if_neg (λe=>h e.symm)]
theorem Rel.set {i:Nat}{v:V}{d:D} (r:Rel K B ρ σ F H) (h:Rp K F v d):Rel K B (ρ.set i (some (.val d))) (σ.set i (some v)) F H where
 st:=r.st
 len:=by simp[r.len]
 val j d' e:=by
  rcases u0H e with⟨rfl,q,z⟩|⟨q,z⟩
  ·cases z;exact⟨v,u5K (r.len ▸ q),h⟩
  ·rw[u0G q];exact r.val j d' z
 own j o e:=by
  rcases u0H e with⟨rfl,q,z⟩|⟨q,z⟩
  ·cases z
  ·rw[u0G q];exact r.own j o z
 dis j k o u a e e':=by
  rcases u0H e with⟨rfl,q,z⟩|⟨q,z⟩
  ·cases z
  ·rcases u0H e' with ⟨rfl,q',z'⟩ | ⟨q',z'⟩
   ·cases z'
   ·rw[u0G q,u0G q'];exact r.dis j k o u a z z'
def Rel.setOwn {i:Nat}{a:Addr}{h:HO}{o:OD} (r:Rel K B ρ σ F H) (h1:F a=none) (h2:B.2 a=none) (h3:H a=some h) (h4:Ro K F a h o)
  (hd:∀(j:Nat) u,ρ[j]?=some (some (.own u))->σ[j]?≠some (some (.ref a))):Rel K B (ρ.set i (some (.own o))) (σ.set i (some (.ref a))) F H where
 st:=r.st
 len:=by simp[r.len]
 val j d' e:=by
  rcases u0H e with⟨rfl,q,z⟩|⟨q,z⟩
  ·cases z
  ·rw[u0G q];exact r.val j d' z
 own j u e:=by
  rcases u0H e with⟨rfl,q,z⟩|⟨q,z⟩
  ·cases z;exact⟨a,h,u5K (r.len ▸ q),h1,h2,h3,h4⟩
  ·rw[u0G q];exact r.own j u z
 dis j k u u' b e e':=by
  rcases u0H e with⟨rfl,q,z⟩|⟨q,z⟩
  ·rcases u0H e' with ⟨rfl,q',z'⟩ | ⟨q',z'⟩
   ·intro _ _;rfl
   ·rw [u0G q',u5K (r.len ▸ q)]
    intro x y;cases x;exact absurd y (hd k u' z')
  ·rcases u0H e' with ⟨rfl,q',z'⟩ | ⟨q',z'⟩
   ·rw [u0G q,u5K (r.len ▸ q')]
    intro x y;cases y;exact absurd x (hd j u z)
   ·rw[u0G q,u0G q'];exact r.dis j k u u' b z z'
def Rel.write {i:Nat}{a:Addr}{h':HO}{o o':OD} (r:Rel K B ρ σ F H) (e:ρ[i]?=some (some (.own o))) (hs:σ[i]?=some (some (.ref a))) (h4:Ro K F a h' o') :
  Rel K B (ρ.set i (some (.own o'))) σ F (upd H a h'):=by
 obtain⟨b,h,q1,q2,q3,q4,q5⟩:=r.own i o e;rw[hs] at q1;cases q1;have e1:∀G:Hp,G a=none->Same G H->Same G (upd H a h'):=λG n s b u x=>by
  unfold upd;by_cases z:b=a
  ·subst z;rw[n] at x;cases x
  ·rw[if_neg z];exact s b u x
 refine⟨⟨r.st.ff,e1 F q2 r.fh,e1 B.2 q3 r.st.hh,r.st.no⟩,by simp[r.len],?_,?_,?_⟩
 ·intro j d x
  rcases u0H x with⟨rfl,q,z⟩|⟨q,z⟩
  ·cases z
  ·exact r.val j d z
 ·intro j u x
  rcases u0H x with⟨rfl,q,z⟩|⟨q,z⟩
  ·cases z;exact⟨a,h',hs,q2,q3,u0d,h4⟩
  ·obtain ⟨c,g,p1,p2,p3,p4,p5⟩:=r.own j u z
   have ne:c≠a:=λw=>q (by subst w;exact r.dis j i u o c z e p1 hs)
   exact⟨c,g,p1,p2,p3,by rw[u0f ne];exact p4,p5⟩
 ·intro j k u u' c x y
  have f:∀(m:Nat) w,(ρ.set i (some (Sl.own o')))[m]?=some (some (.own w))->∃w',ρ[m]?=some (some (.own w')):=λm w p=>by
   rcases u0H p with⟨rfl,_,_⟩|⟨_,z⟩
   ·exact⟨o,e⟩
   ·exact⟨w,z⟩
  obtain⟨w1,z1⟩:=f j u x;obtain⟨w2,z2⟩:=f k u' y;exact r.dis j k w1 w2 c z1 z2
end
abbrev XQ:=V->St->Hp->Prop
def frz_frz (ρ:Rho):frz (frz ρ)=frz ρ:=by
 unfold frz;rw[z1C];congr 1;funext x;cases x with
 | none=>rfl
 | some y=>cases y<;>rfl
def ErrK (K:W.Frag) (xq:XQ) (B:Hp×Hp) (ρ:Rho) (σ:St) (x:D):Prop:=∀v F' H',Rel K B (frz ρ) σ F' H'->Rp K F' v x->xq v σ H'
def liftE (K:W.Frag) (xq:XQ) (f:Rho->Res D):TE:=λσ H Q=>∃B F ρ,Rel K B ρ σ F H /\
 (f ρ).all (λd=>∀v F' H',Stp F H F' H'->Rp K F' v d->Q v H') (ErrK K xq B ρ σ)
def liftA (K:W.Frag) (xq:XQ) (f:Rho->Res (List D)):TA:=λσ H Q=>∃B F ρ,Rel K B ρ σ F H /\
 (f ρ).all (λds=>∀vs F' H',Stp F H F' H'->Rps K F' vs ds->Q vs H') (ErrK K xq B ρ σ)
def liftT (K:W.Frag) (xq:XQ) (f:Rho->Res Bool):TT:=λσ H Q=>∃B F ρ,Rel K B ρ σ F H /\
 (f (frz ρ)).all (λb=>∀H',Stp F H F H'->Q b H') (ErrK K xq B ρ σ)
def liftN (K:W.Frag) (xq:XQ) (f:Rho->Res OD):TE:=λσ H Q=>∃B F ρ,Rel K B ρ σ F H /\
 (f ρ).all (λo=>∀a h F' H',Stp F H F' H'->F' a=none->H a=none->H' a=some h->Ro K F' a h o->Q (.ref a) H') (ErrK K xq B ρ σ)
abbrev FD:=List D->Res D
structure DE (X:Cx) (xq:XQ) (e:Expr) (f:Rho->Res D):Prop where
 out:PE X e (liftE X.K xq f)
structure DN (X:Cx) (xq:XQ) (e:Expr) (f:Rho->Res OD):Prop where
 out:PE X e (liftN X.K xq f)
structure DT (X:Cx) (xq:XQ) (e:Expr) (f:Rho->Res Bool):Prop where
 out:PT X e (liftT X.K xq f)
structure DW (X:Cx) (xq:XQ) (e:Expr) (f:Rho->Res Bool):Prop where
 out:PW X e (liftT X.K xq f)
structure DA (X:Cx) (xq:XQ) (es:List Expr) (f:Rho->Res (List D)):Prop where
 out:PA X es (liftA X.K xq f)
 ns:es.all notStar=true
def rD (K:W.Frag) (g:D->D->Res D):R2:=λx y H Q=>∃F dx dy,Same F H/\Rp K F x dx/\Rp K F y dy/\(g dx dy).all (λd=>∀v F' H',Stp F H F' H'->Rp K F' v d->Q v H') (λ_=>False)
def rDs (K:W.Frag) (g:FD):List V->Hp->VK->Prop:=λxs H Q=>∃F ds,Same F H/\Rps K F xs ds/\(g ds).all (λd=>∀v F' H',Stp F H F' H'->Rp K F' v d->Q v H') (λ_=>False)
section
variable {K:W.Frag}{xq:XQ}{B:Hp×Hp}{ρ:Rho}{σ:St}{F H F' H':Hp}{x:D}
def seqE {α:Type}{fa:Rho->Res D}{g:D->Res α}{P:α->Prop}{T:VK} (R:Rel K B ρ σ F H) (h:((fa ρ).bind g).all P (ErrK K xq B ρ σ))
  (k:∀d v F' H',Stp F H F' H'->Rel K B ρ σ F' H'->Rp K F' v d->(g d).all P (ErrK K xq B ρ σ)->T v H'):liftE K xq fa σ H T :=
 ⟨B,F,ρ,R,Res.all_mono (Res.all_bind.mp h) (λd h' v F' H' s p=>k d v F' H' s (R.step s) p h') (λ_ e=>e)⟩
def seqA {α:Type}{fa:Rho->Res (List D)}{g:List D->Res α}{P:α->Prop}{T:List V->Hp->Prop} (R:Rel K B ρ σ F H) (h:((fa ρ).bind g).all P (ErrK K xq B ρ σ))
  (k:∀d v F' H',Stp F H F' H'->Rel K B ρ σ F' H'->Rps K F' v d->(g d).all P (ErrK K xq B ρ σ)->T v H'):liftA K xq fa σ H T :=
 ⟨B,F,ρ,R,Res.all_mono (Res.all_bind.mp h) (λd h' v F' H' s p=>k d v F' H' s (R.step s) p h') (λ_ e=>e)⟩
end
noncomputable def noE {α:Type}:Res α->Res α
 | .err _=>.bad
 | r=>r
section
variable {K:W.Frag}{xq:XQ}{B:Hp×Hp}{ρ:Rho}{σ:St}{F H F' H':Hp}{x:D}
def doneN {r:Res D}{Q:VK}{E:D->Prop}{F0 H0:Hp} (s:Stp F0 H0 F H) (h:(noE r).all (λd=>∀v F' H',Stp F0 H0 F' H'->Rp K F' v d->Q v H') E) :
  r.all (λd=>∀v F' H',Stp F H F' H'->Rp K F' v d->Q v H') (λ_=>False):=by
 cases r with
 | ok d=>exact λv F' H' s' p=>h v F' H' (s.trans s') p
 | err x=>exact h
 | bad=>exact h
end
noncomputable def getV (ρ:Rho) (i:Nat):Res D:=match ρ[i]? with
 | some (some (.val d))=>.ok d
 | _=>.bad
set_option tactic.hygienic true in
def getV_ok {ρ:Rho}{i:Nat}{P:D->Prop}{E:D->Prop} (h:(getV ρ i).all P E):∃d,ρ[i]?=some (some (.val d))/\P d:=by
 unfold getV at h;split at h
 ·rename_i d e;exact⟨d,e,h⟩
 ·exact h.elim
section
variable {X:Cx}{xq:XQ}{a b c e o:Expr}{es rest:List Expr}{fa fb fc fe:Rho->Res D}{fA fB:Rho->Res Bool}{fs:Rho->Res (List D)}{pos pos' p apos cpos:Pos}{x name:Str}
def DE.of {t:TE} (h:PE X e t) (k:∀B F ρ σ H Q,Rel X.K B ρ σ F H->(fe ρ).all (λd=>∀v F' H',Stp F H F' H'->Rp X.K F' v d->Q v H') (ErrK X.K xq B ρ σ)->t σ H Q):DE X xq e fe :=
 ⟨λpins s σ H Q I z9=>un5 z9 λB F ρ R q=>h pins s σ H Q I (k B F ρ σ H Q R q)⟩
def DT.of {t:TT} (h:PT X e t) (k:∀B F ρ σ H Q,Rel X.K B ρ σ F H->(fA (frz ρ)).all (λb=>∀H',Stp F H F H'->Q b H') (ErrK X.K xq B ρ σ)->t σ H Q):DT X xq e fA :=
 ⟨λpins s σ H Q I z9=>un5 z9 λB F ρ R q=>h pins s σ H Q I (k B F ρ σ H Q R q)⟩
def d_C {v:V}{d:D} (h:PE X e (tC v)) (p:∀F,Rp X.K F v d):DE X xq e (λ_=>.ok d):=DE.of h λB F ρ σ H Q R q=>q v F H (Stp.refl R.fh) (p F)
def u0g {i j pos}:DE X xq (.Constant (.int i) j pos) (λ_=>.ok (.int i)):=d_C pe_int λ_=>.int i
def d_bl {i j pos}:DE X xq (.Constant (.bool i) j pos) (λ_=>.ok (.bl i)):=d_C v2z λ_=>.bl i
def u6s {j pos}:DE X xq (.Constant .none j pos) (λ_=>.ok .non):=d_C v0l λ_=>.non
def u0s {z:Str}{j pos} (h:z.length<=sizeLine:=by decide):DE X xq (.Constant (.str z) j pos) (λ_=>.ok (.str z)):=d_C pe_str λ_=>.str h
def dv (i:Nat) {x:Str}{pos:Pos} (hN:X.N[i]?=some x:=by rfl) (hv:Vis X.env.scope x:=by first|exact Or.inl rfl|exact Or.inr (Or.inl rfl)|exact Or.inr (Or.inr rfl)) (hd:(x==("__debug__":Str))=false:=by decide)
  (hcd:(x==("__classdict__":Str))=false:=by decide):DE X xq (.Name x pos) (λρ=>getV ρ i) :=
 DE.of (u0v hN hv hd hcd) λB F ρ σ H Q R q=>by
  obtain⟨d,e,h⟩:=getV_ok q;obtain⟨v,h1,h2⟩:=R.val i d e;exact⟨v,h1,h v F H (Stp.refl R.fh) h2⟩
def GloD (K:W.Frag) (mg:MG) (x:Str) (d:D):Prop:=∃v,Glo mg x v/\∀F,Rp K F v d
def u3u {mg:MG}{K:W.Frag}{d:D} (h:GloD K mg x d) (hg:Gl X x:=by rfl) (em:X.mg=mg:=by rfl) (eK:X.K=K:=by rfl) (hd:(x==("__debug__":Str))=false:=by decide):DE X xq (.Name x pos) (λ_=>.ok d):=by
 obtain⟨v,h1,h2⟩:=h;subst eK;exact d_C (v3E h1 hg em hd) h2
def d_ty {T:String} (hm:X.mg x=none) (hv:bootBuiltins x=some (.type T)) (hg:Gl X x:=by rfl) (hn:x≠"__name__":=by decide) (hd:(x==("__debug__":Str))=false:=by decide):DE X xq (.Name x pos) (λ_=>.ok (.ty T)) :=
 d_C (v:=.ty T) (v0p hg hm hv rfl hn hd) λ_=>.ty T
def d_op {op:Operator}{g:D->D->Res D} (ho:OpR X (binaryOp op) (rD X.K g)) (ha:DE X xq a fa) (hb:DE X xq b fb):DE X xq (.BinOp a op b pos) (λρ=>(fa ρ).bind λx=>(fb ρ).bind λy=>noE (g x y)) :=
 DE.of (pe_op ho ha.out hb.out) λB F ρ σ H Q R q=>seqE R q λd v F1 H1 s1 R1 p1 q1=>seqE R1 q1 λd2 v2 F2 H2 s2 R2 p2 q2 =>
  ⟨F2,d,d2,R2.fh,p1.same s2.ff,p2,doneN (s1.trans s2) q2⟩
def u2y {op:CmpOp}{g:D->D->Res D} (ho:OpR X (compareOp op) (rD X.K g)) (ha:DE X xq a fa) (hb:DE X xq b fb) (hm:behindInMarks op b=false:=by first|exact nomark _|with_unfolding_all rfl) :
  DE X xq (.Compare a [op] [b] pos) (λρ=>(fa ρ).bind λx=>(fb ρ).bind λy=>noE (g x y)) :=
 DE.of (pe_cmpR ho ha.out hb.out hm) λB F ρ σ H Q R q=>seqE R q λd v F1 H1 s1 R1 p1 q1=>seqE R1 q1 λd2 v2 F2 H2 s2 R2 p2 q2 =>
  ⟨F2,d,d2,R2.fh,p1.same s2.ff,p2,doneN (s1.trans s2) q2⟩
def d_ix {g:D->D->Res D} (ho:IxR X (rD X.K g)) (ha:DE X xq a fa) (hb:DE X xq b fb) (hs:PlainIx b:=by intro _ _;rfl):DE X xq (.Subscript a b pos) (λρ=>(fa ρ).bind λx=>(fb ρ).bind λy=>noE (g x y)) :=
 DE.of (pe_ix ho ha.out hb.out hs) λB F ρ σ H Q R q=>seqE R q λd v F1 H1 s1 R1 p1 q1=>seqE R1 q1 λd2 v2 F2 H2 s2 R2 p2 q2 =>
  ⟨F2,d,d2,R2.fh,p1.same s2.ff,p2,doneN (s1.trans s2) q2⟩
noncomputable def asB:D->Res Bool
 | .bl b=>.ok b
 | _=>.bad
def u4l {d:D}{P:Bool->Prop}{E:D->Prop} (h:(asB d).all P E):∃b,d=.bl b/\P b:=by
 cases d<;>first|exact h.elim|exact⟨_,rfl,h⟩
def Rp.blI {K:W.Frag}{F:Hp}{v:V}{b:Bool} (h:Rp K F v (.bl b)):v=.bl b:=by cases h;rfl
noncomputable def fChain (g g':D->D->Res D) (x y:D) (z:Res D):Res D:=(noE (g x y)).bind λw=>(asB w).bind λc=>if c=true then z.bind λz=>noE (g' y z) else .ok (.bl false)
def v1t {op op':CmpOp}{g g':D->D->Res D} (ho:OpR X (compareOp op) (rD X.K g)) (ho':OpR X (compareOp op') (rD X.K g')) (ha:DE X xq a fa) (hb:DE X xq b fb) (hc:DE X xq c fc)
  (hm:lastMarks [op,op'] [b,c]=false:=by with_unfolding_all rfl):DE X xq (.Compare a [op,op'] [b,c] pos) (λρ=>(fa ρ).bind λx=>(fb ρ).bind λy=>fChain g g' x y (fc ρ)) :=
 DE.of (v2x ho ho' ha.out hb.out hc.out hm) λB F ρ σ H Q R q=>seqE R q λd v F1 H1 s1 R1 p1 q1=>seqE R1 q1 λd2 v2 F2 H2 s2 R2 p2 q2=>by
  refine⟨F2,d,d2,R2.fh,p1.same s2.ff,p2,?_⟩;unfold fChain at q2;have q3:=Res.all_bind.mp q2;generalize g d d2=r at q3;cases r with
  | err x=>exact q3
  | bad=>exact q3
  | ok w =>
   obtain⟨k,rfl,q4⟩:=u4l (Res.all_bind.mp (show((asB w).bind _).all _ _ from q3))
   intro v3 F3 H3 s3 p3;refine⟨k,p3.blI,?_⟩;have s03:=(s1.trans s2).trans s3;cases k with
   | false=>exact q4 (.bl false) F3 H3 s03 (.bl false)
   | true=>exact seqE (R2.step s3) q4 λd4 v4 F4 H4 s4 R4 p4 q5=>⟨F4,d2,d4,R4.fh,(p2.same s3.ff).same s4.ff,p4,doneN (s03.trans s4) q5⟩
def u2q {op} (h:DE X xq a fa):DE X xq (.BoolOp op [a] pos) fa:=⟨pe_one h.out⟩
def u1t (ha:DE X xq a fa) (hb:DE X xq (.BoolOp .And (b::rest) pos) fb):DE X xq (.BoolOp .And (a::b::rest) pos) (λρ=>(fa ρ).bind λx=>(asB x).bind λk=>if k=true then fb ρ else .ok (.bl false)) :=
 DE.of (pe_and ha.out hb.out) λB F ρ σ H Q R q=>seqE R q λd v F1 H1 s1 R1 p1 q1=>by
  obtain⟨k,rfl,q2⟩:=u4l (Res.all_bind.mp q1);refine⟨k,p1.blI,?_⟩;cases k with
  | false=>exact q2 _ F1 H1 s1 (.bl false)
  | true=>exact⟨B,F1,ρ,R1,Res.all_mono q2 (λd k v F' H' s p=>k v F' H' (s1.trans s) p) λ_ e=>e⟩
def d_or (ha:DE X xq a fa) (hb:DE X xq (.BoolOp .Or (b::rest) pos) fb):DE X xq (.BoolOp .Or (a::b::rest) pos) (λρ=>(fa ρ).bind λx=>(asB x).bind λk=>if k=true then .ok (.bl true) else fb ρ) :=
 DE.of (pe_or ha.out hb.out) λB F ρ σ H Q R q=>seqE R q λd v F1 H1 s1 R1 p1 q1=>by
  obtain⟨k,rfl,q2⟩:=u4l (Res.all_bind.mp q1);refine⟨k,p1.blI,?_⟩;cases k with
  | true=>exact q2 _ F1 H1 s1 (.bl true)
  | false=>exact⟨B,F1,ρ,R1,Res.all_mono q2 (λd k v F' H' s p=>k v F' H' (s1.trans s) p) λ_ e=>e⟩
def d_not (ha:DE X xq a fa):DE X xq (.UnaryOp .Not a pos) (λρ=>(fa ρ).bind λx=>(asB x).bind λk=>.ok (.bl (!k))) :=
 DE.of (pe_not ha.out) λB F ρ σ H Q R q=>seqE R q λd v F1 H1 s1 R1 p1 q1=>by
  obtain⟨k,rfl,q2⟩:=u4l (Res.all_bind.mp q1);exact⟨k,p1.blI,q2 _ F1 H1 s1 (.bl _)⟩
theorem ErrK.frz {K:W.Frag}{B:Hp×Hp}{ρ:Rho}{σ:St}{x:D} (h:ErrK K xq B ρ σ x):ErrK K xq B (frz ρ) σ x:=λv F' H' R p=>h v F' H' (frz_frz ρ ▸ R) p
def d_ife (hc:DT X xq c fA) (ha:DE X xq a fa) (hb:DE X xq b fb):DE X xq (.IfExp c a b pos) (λρ=>(fA (frz ρ)).bind λk=>if k=true then fa ρ else fb ρ) :=
 DE.of (v2v hc.out ha.out hb.out) λB F ρ σ H Q R q=>⟨B,F,ρ,R,Res.all_mono (Res.all_bind.mp q) (λk q1 H1 s1=>by
  cases k with
  | true=>exact⟨B,F,ρ,R.step s1,Res.all_mono q1 (λd k v F' H' s p=>k v F' H' (s1.trans s) p) λ_ e=>e⟩
  | false=>exact⟨B,F,ρ,R.step s1,Res.all_mono q1 (λd k v F' H' s p=>k v F' H' (s1.trans s) p) λ_ e=>e⟩) λ_ e=>e⟩
def tfrz {P:Bool->Prop}{K:W.Frag}{B:Hp×Hp}{ρ:Rho}{σ:St}{F H:Hp}{Q:Bool->Hp->Prop} (R:Rel K B ρ σ F H) (h:((fe (frz ρ)).bind asB).all (λb=>∀H',Stp F H F H'->Q b H') (ErrK K xq B ρ σ)) :
  liftE K xq fe σ H (λx H'=>∃k,x=.bl k/\Q k H'):=by
 obtain⟨F1,e1,R1⟩:=R.frz;refine⟨B,F1,L2.frz ρ,R1,Res.all_mono (Res.all_bind.mp h) (λd q v F' H' s p=>?_) λ_ e=>e.frz⟩
 obtain⟨k,rfl,q⟩:=u4l q;exact⟨k,p.blI,q H' (Stp.only R.fh s.hh)⟩
def u1x (h:DE X xq e fe) (he:∀whole,isTrue e X.env whole=(do let v <- whole;standAt e.pos;holding [v] (truthy v)):=by intro _;rfl):DT X xq e (λρ=>(fe ρ).bind asB) :=
 DT.of (v0d h.out he) λB F ρ σ H Q R q=>tfrz (P:=λ_=>True) R q
def u0A {op:CmpOp}{g:D->D->Res D} (ho:OpR X (compareOp op) (rD X.K g)) (ha:DE X xq a fa) (hb:DE X xq b fb) (hm:behindInMarks op b=false:=by first|exact nomark _|with_unfolding_all rfl) :
  DT X xq (.Compare a [op] [b] pos) (λρ=>(fa ρ).bind λx=>(fb ρ).bind λy=>(noE (g x y)).bind asB) :=
 DT.of (v0f ho ha.out hb.out hm) λB F ρ σ H Q R q=>by
  obtain⟨F0,e0,R0⟩:=R.frz;have q':=Res.all_mono q (λ_ k=>k) (λx (e:ErrK X.K xq B ρ σ x)=>e.frz)
  refine seqE R0 q' λd v F1 H1 s1 R1 p1 q1=>seqE R1 q1 λd2 v2 F2 H2 s2 R2 p2 q2=>⟨F2,d,d2,R2.fh,p1.same s2.ff,p2,?_⟩
  have q3:=Res.all_bind.mp q2;generalize g d d2=r at q3;cases r with
  | err x=>exact q3
  | bad=>exact q3
  | ok w =>
   obtain⟨k,rfl,q4⟩:=u4l (show(asB w).all _ _ from q3)
   exact λv3 F3 H3 s3 p3=>⟨k,p3.blI,q4 H3 (Stp.only R.fh ((s1.hh.trans s2.hh).trans s3.hh))⟩
def seqT {α:Type}{K:W.Frag}{B:Hp×Hp}{ρ:Rho}{σ:St}{F H:Hp}{g:Bool->Res α}{P:α->Prop}{T:Bool->Hp->Prop} (R:Rel K B ρ σ F H) (h:((fA (frz ρ)).bind g).all P (ErrK K xq B ρ σ))
  (k:∀b H',Stp F H F H'->Rel K B ρ σ F H'->(g b).all P (ErrK K xq B ρ σ)->T b H'):liftT K xq fA σ H T :=
 ⟨B,F,ρ,R,Res.all_mono (Res.all_bind.mp h) (λd h' H' s=>k d H' s (R.step s) h') (λ_ e=>e)⟩
def u1W (ha:DT X xq a fA):DT X xq (.UnaryOp .Not a pos) (λρ=>(fA ρ).bind λk=>.ok (!k)) :=
 DT.of (v0e ha.out) λB F ρ σ H Q R q=>seqT R q λk H1 s1 R1 q1=>q1 H1 s1
def dt_w (h:DW X xq e fA):DT X xq e fA:=⟨h.out.pt⟩
def v1k (ha:DT X xq a fA):DW X xq (.BoolOp .And [a] pos) fA:=⟨pw_and1 ha.out⟩
def v1j (ha:DT X xq a fA):DW X xq (.BoolOp .Or [a] pos) fA:=⟨v3B ha.out⟩
def v3M (ha:DT X xq a fA) (hb:DW X xq (.BoolOp .And (b::rest) pos) fB):DW X xq (.BoolOp .And (a::b::rest) pos) (λρ=>(fA ρ).bind λk=>if k=true then fB ρ else .ok false) :=
 ⟨λwh pins s σ H Q I z9=>un5 z9 λB F ρ R q=>pw_and ha.out hb.out wh pins s σ H Q I (seqT R q λk H1 s1 R1 q1=>by
  cases k with
  | false=>exact q1 H1 s1
  | true=>exact⟨B,F,ρ,R1,Res.all_mono q1 (λk q H2 s2=>q H2 (s1.trans s2)) λ_ e=>e⟩)⟩
def dw_or (ha:DT X xq a fA) (hb:DW X xq (.BoolOp .Or (b::rest) pos) fB):DW X xq (.BoolOp .Or (a::b::rest) pos) (λρ=>(fA ρ).bind λk=>if k=true then .ok true else fB ρ) :=
 ⟨λwh pins s σ H Q I z9=>un5 z9 λB F ρ R q=>pw_or ha.out hb.out wh pins s σ H Q I (seqT R q λk H1 s1 R1 q1=>by
  cases k with
  | true=>exact q1 H1 s1
  | false=>exact⟨B,F,ρ,R1,Res.all_mono q1 (λk q H2 s2=>q H2 (s1.trans s2)) λ_ e=>e⟩)⟩
def u0b:DA X xq [] (λ_=>.ok []):=⟨λpos pins s σ H Q I z9=>un5 z9 λB F ρ R q=>u1o pos pins s σ H Q I (q [] F H (Stp.refl R.fh) .nil),rfl⟩
def u0a (ha:DE X xq e fe) (hr:DA X xq es fs) (hs:notStar e=true:=by rfl):DA X xq (e::es) (λρ=>(fe ρ).bind λd=>(fs ρ).bind λds=>.ok (d::ds)) :=
 ⟨λpos pins s σ H Q I z9=>un5 z9 λB F ρ R q=>pac ha.out hr.out hs pos pins s σ H Q I (seqE R q λd v F1 H1 s1 R1 p1 q1=>seqA R1 q1 λds vs F2 H2 s2 R2 p2 q2 =>
  q2 (v::vs) F2 H2 (s1.trans s2) (.cons (p1.same s2.ff) p2)),by rw[z1E,hs,hr.ns];rfl⟩
noncomputable def szD {α:Type} (ds:List D) (k:Res α):Res α:=if ds.length<=sizeLine then k else .bad
def u9H {α:Type}{ds:List D}{k:Res α}{P:α->Prop}{E:D->Prop} (h:(szD ds k).all P E):ds.length<=sizeLine/\k.all P E:=by
 unfold szD at h;by_cases q:ds.length<=sizeLine
 ·rw[if_pos q] at h;exact⟨q,h⟩
 ·rw[if_neg q] at h;exact h.elim
def u1a {x1} (h:DA X xq es fs):DE X xq (.Tuple es x1 pos) (λρ=>(fs ρ).bind λds=>szD ds (.ok (.tup ds))) :=
 DE.of (pe_tup h.out) λB F ρ σ H Q R q=>seqA R q λds vs F1 H1 s1 R1 p1 q1=>by
  obtain⟨hz,q2⟩:=u9H q1;exact⟨p1.length ▸ hz,λp n=>q2 _ _ _ (s1.trans (Stp.new R1.fh n)) (.tup (.inl (.inl u0d)) (p1.same (Stp.new R1.fh n).ff))⟩
def u1n (h:DA X xq es fs):DE X xq (.List es pos) (λρ=>(fs ρ).bind λds=>szD ds (.ok (.lst ds))) :=
 DE.of (u7O h.out) λB F ρ σ H Q R q=>seqA R q λds vs F1 H1 s1 R1 p1 q1=>by
  obtain⟨hz,q2⟩:=u9H q1;exact⟨p1.length ▸ hz,λp n=>q2 _ _ _ (s1.trans (Stp.new R1.fh n)) (.lst (.inl u0d) (p1.same (Stp.new R1.fh n).ff))⟩
def u8o (h:DA X xq es fs):DN X xq (.List es pos) (λρ=>(fs ρ).bind λds=>szD ds (.ok (.l ds))) :=
 ⟨λpins s σ H Q I z9=>un5 z9 λB F ρ R q=>u7O h.out pins s σ H Q I (seqA R q λds vs F1 H1 s1 R1 p1 q1=>by
  obtain⟨hz,q2⟩:=u9H q1;refine⟨p1.length ▸ hz,λp n=>q2 p _ F1 _ (s1.trans (Stp.only R1.fh (u0i n))) (R1.fh.free n) (s1.hh.free n) u0d (.l p1)⟩)⟩
def DN.de {f:Rho->Res OD} (h:DN X xq e f):DE X xq e (λρ=>(f ρ).bind λo=>.ok o.toD) :=
 ⟨λpins s σ H Q I z9=>un5 z9 λB F ρ R q=>h.out pins s σ H Q I ⟨B,F,ρ,R,Res.all_mono (Res.all_bind.mp q) (λo q1 a hh F' H' s1 n1 n2 e1 r1=>by
  have s2:Stp F H (upd F' a hh) H':=⟨s1.ff.trans (u0i n1),λb u x=>by
   unfold upd at x;by_cases z:b=a
   ·rw[if_pos z] at x;cases x;subst z;exact e1
   ·rw[if_neg z] at x;exact s1.fh b u x,s1.hh,λb x y=>by
   unfold upd;by_cases z:b=a
   ·subst z;exact absurd n2 y
   ·rw[if_neg z];exact s1.no b x y⟩
  exact q1 _ _ _ s2 ((Ro.same (u0i n1) r1).rp u0d)) λ_ e=>e⟩⟩
end
inductive Out where
 | nx (ρ:Rho)|rt (d:D)|bk (ρ:Rho)|ct (ρ:Rho)|er (x:D) (ρ:Rho)|bad
namespace Out
def all (o:Out) (N:Rho->Prop) (R:D->Prop) (B C:Rho->Prop) (E:Rho->D->Prop):Prop:=match o with
 | .nx ρ=>N ρ
 | .rt d=>R d
 | .bk ρ=>B ρ
 | .ct ρ=>C ρ
 | .er x ρ=>E ρ x
 | .bad=>False
noncomputable def andThen (o:Out) (f:Rho->Out):Out:=match o with
 | .nx ρ=>f ρ
 | o=>o
@[simp] theorem then_nx (ρ:Rho) (f:Rho->Out):(Out.nx ρ).andThen f=f ρ:=rfl
@[simp] theorem then_rt (d:D) (f:Rho->Out):(Out.rt d).andThen f=.rt d:=rfl
@[simp] theorem then_bk (ρ:Rho) (f:Rho->Out):(Out.bk ρ).andThen f=.bk ρ:=rfl
@[simp] theorem then_ct (ρ:Rho) (f:Rho->Out):(Out.ct ρ).andThen f=.ct ρ:=rfl
@[simp] theorem then_er (x:D) (ρ:Rho) (f:Rho->Out):(Out.er x ρ).andThen f=.er x ρ:=rfl
@[simp] theorem then_bad (f:Rho->Out):Out.bad.andThen f=.bad:=rfl
end Out
noncomputable def Res.go {α:Type} (r:Res α) (ρ:Rho) (k:α->Out):Out:=match r with
 | .ok a=>k a
 | .err x=>.er x (frz ρ)
 | .bad=>.bad
@[simp] theorem go_ok {α:Type} (a:α) (ρ:Rho) (k:α->Out):(Res.ok a).go ρ k=k a:=rfl
@[simp] theorem go_err {α:Type} (x:D) (ρ:Rho) (k:α->Out):(Res.err x).go ρ k=.er x (frz ρ):=rfl
@[simp] theorem go_bad {α:Type} (ρ:Rho) (k:α->Out):Res.bad.go ρ k=.bad:=rfl
def u0u {α:Type}{r:Res α}{ρ:Rho}{k:α->Out}{N:Rho->Prop}{R:D->Prop}{B C:Rho->Prop}{E:Rho->D->Prop} (h:(r.go ρ k).all N R B C E):r.all (λa=>(k a).all N R B C E) (E (frz ρ)):=by
 cases r<;>exact h
def v1O {o:Out}{f:Rho->Out}{N:Rho->Prop}{R:D->Prop}{B C:Rho->Prop}{E:Rho->D->Prop} (h:(o.andThen f).all N R B C E):o.all (λρ=>(f ρ).all N R B C E) R B C E:=by
 cases o<;>exact h
structure OkS (K:W.Frag) (xq:XQ) (B:Hp×Hp) (T:Ends) (o:Out):Prop where
 out:o.all (λρ=>∀σ F H,Rel K B ρ σ F H->T.nx σ H) (λd=>∀v F H,Stp B.1 B.2 F H->Rp K F v d->T.rt v H)
  (λρ=>∀σ F H,Rel K B ρ σ F H->T.bk σ H) (λρ=>∀σ F H,Rel K B ρ σ F H->T.ct σ H) (λρ x=>∀v σ F H,Rel K B ρ σ F H->Rp K F v x->xq v σ H)
def liftS (K:W.Frag) (xq:XQ) (f:Rho->Out):TS:=λT σ H=>∃B F ρ,Rel K B ρ σ F H/\OkS K xq B T (f ρ)
structure DS (X:Cx) (xq:XQ) (st:Stmt) (f:Rho->Out):Prop where
 out:PS X st (liftS X.K xq f)
structure DB (X:Cx) (xq:XQ) (sts:List Stmt) (f:Rho->Out):Prop where
 out:PSs X sts (liftS X.K xq f)
def liftG (K:W.Frag) (ix:List Nat) (g:D->Rho->Res Rho):TG:=λv σ H Q=>∃B F ρ d,Rel K B ρ σ F H/\Rp K F v d /\
 (g d ρ).all (λρ'=>∀σ',Rel K B ρ' σ' F H->σ'.length=σ.length->(∀j,j∉ix->σ'[j]?=σ[j]?)->Q σ' H) (λ_=>False)
def liftGs (K:W.Frag) (ix:List Nat) (g:List D->Rho->Res Rho):TGs:=λvs σ H Q=>∃B F ρ ds,Rel K B ρ σ F H/\Rps K F vs ds /\
 (g ds ρ).all (λρ'=>∀σ',Rel K B ρ' σ' F H->σ'.length=σ.length->(∀j,j∉ix->σ'[j]?=σ[j]?)->Q σ' H) (λ_=>False)
structure DG (X:Cx) (tg:Expr) (ix:List Nat) (g:D->Rho->Res Rho):Prop where
 out:PG X tg (liftG X.K ix g)
structure DGs (X:Cx) (tgs:List Expr) (ix:List Nat) (g:List D->Rho->Res Rho):Prop where
 out:PGs X tgs (liftGs X.K ix g)
structure Feed (K:W.Frag) (F:Hp) (J:It) (ds:List D):Prop where
 go:∀i H,Same F H->i<ds.length->J.go i H
 yld:∀i F1 H x H' d,Same F F1->Same F1 H->ds[i]?=some d->J.yld i H x H'->∃F',Stp F1 H F' H'/\Rp K F' x d
 stop:∀i H,Same F H->ds.length<=i->J.stop i H
def liftI (K:W.Frag) (xq:XQ) (f:Rho->Res (List D)):TI:=λσ H R=>∃B F ρ,Rel K B ρ σ F H /\
 (f ρ).all (λds=>∀J F' H',Stp F H F' H'->Feed K F' J ds->R J H') (ErrK K xq B ρ σ)
structure DI (X:Cx) (xq:XQ) (tg iter:Expr) (f:Rho->Res (List D)):Prop where
 out:PI X tg iter (liftI X.K xq f)
def Feed.list {K:W.Frag}{F:Hp}{a:Addr}{xs:List V}{ds:List D} (h:SqL K F a xs) (r:Rps K F xs ds):Feed K F (Itl K a) ds where
 go i H e hi:=⟨xs,xs[i]'(r.length ▸ hi),e.seq h,by simp[r.length ▸ hi]⟩
 yld i F1 H x H' d e1 e2 hd y:=by
  obtain⟨rfl,y⟩:=y;obtain⟨v,hv,p⟩:=r.get hd
  have:xs[i]?=some x:=y xs ((e1.trans e2).seq h)
  rw[hv] at this;cases this;exact⟨F1,Stp.refl e2,p.same e1⟩
 stop i H e hi:=⟨xs,e.seq h,r.length ▸ hi⟩
def Feed.tup {K:W.Frag}{F:Hp}{a:Addr}{xs:List V}{ds:List D} (h:SqT K F a xs) (r:Rps K F xs ds):Feed K F (Itt K a) ds where
 go i H e hi:=⟨xs,xs[i]'(r.length ▸ hi),e.seqT h,by simp[r.length ▸ hi]⟩
 yld i F1 H x H' d e1 e2 hd y:=by
  obtain⟨rfl,y⟩:=y;obtain⟨v,hv,p⟩:=r.get hd
  have:xs[i]?=some x:=y xs ((e1.trans e2).seqT h)
  rw[hv] at this;cases this;exact⟨F1,Stp.refl e2,p.same e1⟩
 stop i H e hi:=⟨xs,e.seqT h,r.length ▸ hi⟩
def u1i:(1:Nat)<=sizeLine:=by decide
noncomputable def chars (z:Str):List D:=z.cps.toList.map λc=>.str ⟨#[c]⟩
theorem Feed.str {K:W.Frag}{F:Hp} (z:Str):Feed K F (Its z) (chars z) where
 go i H e hi:=by
  show i<z.cps.size;simpa[chars] using hi
 yld i F1 H x H' d e1 e2 hd y:=by
  obtain⟨rfl,c,hc,rfl⟩:=y;have e3:z.cps.toList[i]?=some c:=by simpa using hc
  unfold chars at hd;rw[w9,e3] at hd;cases hd;exact⟨F1,Stp.refl e2,.str (by show(#[c]:Array Nat).size<=sizeLine;exact u1i)⟩
 stop i H e hi:=by
  show z.cps.size<=i;simpa[chars] using hi
noncomputable def intL (lo:Int) (n:Nat):List D:=(List.range n).map λ(i:Nat)=>.int (lo+(i:Int))
def Feed.rng {K:W.Frag}{F:Hp} (lo:Int) (n:Nat):Feed K F (Itr lo n) (intL lo n) where
 go i H e hi:=by
  show i<n;simpa[intL] using hi
 yld i F1 H x H' d e1 e2 hd y:=by
  obtain⟨rfl,rfl⟩:=y;have hi:i<n:=by
   have:=(w6.mp hd).1
   simpa[intL] using this
  unfold intL at hd;rw[w9,List.getElem?_range hi] at hd;cases hd;exact⟨F1,Stp.refl e2,.int _⟩
 stop i H e hi:=by
  show n<=i;simpa[intL] using hi
section
variable {X:Cx}{xq:XQ}{st:Stmt}{sts:List Stmt}{e c tg:Expr}{fe:Rho->Res D}{fT:Rho->Res Bool}{f g:Rho->Out}{pos pos':Pos}{x:Str}
def DS.of {t:TS} (h:PS X st t) (k:∀B F ρ σ H T,Rel X.K B ρ σ F H->OkS X.K xq B T (f ρ)->t T σ H):DS X xq st f :=
 ⟨λpins s σ H T I z9=>un5 z9 λB F ρ R q=>h pins s σ H T I (k B F ρ σ H T R q)⟩
def u0D:DB X xq [] (λρ=>.nx ρ):=⟨λpins s σ H T I z9=>un5 z9 λB F ρ R q=>u2J pins s σ H T I (q.out σ F H R)⟩
def u0e (h:DS X xq st f):DB X xq [st] f:=⟨u1h h.out⟩
def u0c (h1:DS X xq st f) (h2:DB X xq sts g):DB X xq (st::sts) (λρ=>(f ρ).andThen g) :=
 ⟨λpins s σ H T I z9=>un5 z9 λB F ρ R q=>u0x h1.out h2.out pins s σ H T I ⟨B,F,ρ,R,⟨by
  have q1:=v1O q.out;generalize f ρ=o at q1;cases o with
  | nx ρ1=>exact λσ1 F1 H1 R1=>⟨B,F1,ρ1,R1,⟨q1⟩⟩
  | rt d=>exact q1
  | bk r=>exact q1
  | ct r=>exact q1
  | er x r=>exact q1
  | bad=>exact q1⟩⟩⟩
def errOf {K:W.Frag}{B:Hp×Hp}{ρ:Rho}{σ:St}{x:D} (h:∀v σ F H,Rel K B (frz ρ) σ F H->Rp K F v x->xq v σ H):ErrK K xq B ρ σ x:=λv F H R p=>h v σ F H R p
def u0o (he:DE X xq e fe):DS X xq (.Return (some e) pos) (λρ=>(fe (frz ρ)).go ρ λd=>.rt d) :=
 DS.of (u4E he.out) λB F ρ σ H T R q=>by
  obtain⟨F1,e1,R1⟩:=R.frz;exact⟨B,F1,frz ρ,R1,Res.all_mono (u0u q.out) (λd q v F' H' s p=>q v F' H' (R1.st.trans s) p) λx q=>(errOf q).frz⟩
def u2o (he:DE X xq e fe) (hs:swapsWith e none pos.line X.env=pure false:=by rfl):DS X xq (.Expr e pos) (λρ=>(fe (frz ρ)).go ρ λ_=>.nx ρ) :=
 DS.of (u2K he.out hs) λB F ρ σ H T R q=>by
  obtain⟨F1,e1,R1⟩:=R.frz;exact⟨B,F1,frz ρ,R1,Res.all_mono (u0u q.out) (λd q v F' H' s p=>q σ F H' (R.step (Stp.only R.fh s.hh))) λx q=>(errOf q).frz⟩
def u0W {a b:List Stmt} (hc:DT X xq c fT) (ha:DB X xq a f) (hb:DB X xq b g):DS X xq (.If c a b pos) (λρ=>(fT (frz ρ)).go ρ λk=>if k=true then f ρ else g ρ) :=
 DS.of (u7a hc.out ha.out hb.out) λB F ρ σ H T R q=>⟨B,F,ρ,R,Res.all_mono (u0u q.out) (λk q H' s=>by
  cases k with
  | true=>exact⟨B,F,ρ,R.step s,⟨q⟩⟩
  | false=>exact⟨B,F,ρ,R.step s,⟨q⟩⟩) λx q=>errOf q⟩
def ds_n {i:Nat} (hN:X.N.Nodup) (he:DE X xq e fe) (hi:X.N.findIdx? (λy=>y==x)=some i:=by rfl) (hx:Loc X.env.scope x:=by first|exact Or.inl rfl|exact Or.inr rfl) (hs:swapsWith e (some (.Name x pos')) pos.line X.env=pure false:=by rfl)
  (hf:X.fn x=true\/X.env.scope.names.lookup x=some .local:=by first|exact .inl rfl|exact .inr rfl):DS X xq (.Assign [.Name x pos'] e pos) (λρ=>(fe ρ).go ρ λd=>.nx (ρ.set i (some (.val d)))) :=
 DS.of (ps_n hN he.out hi hx hs hf) λB F ρ σ H T R q=>⟨B,F,ρ,R,Res.all_mono (u0u q.out) (λd q v F' H' s p=>q _ F' H' ((R.step s).set p)) λx q=>errOf q⟩
def u1X {i:Nat}{fn:Rho->Res OD} (hN:X.N.Nodup) (he:DN X xq e fn) (hi:X.N.findIdx? (λy=>y==x)=some i:=by rfl) (hx:Loc X.env.scope x:=by first|exact Or.inl rfl|exact Or.inr rfl) (hs:swapsWith e (some (.Name x pos')) pos.line X.env=pure false:=by rfl)
  (hf:X.fn x=true\/X.env.scope.names.lookup x=some .local:=by first|exact .inl rfl|exact .inr rfl):DS X xq (.Assign [.Name x pos'] e pos) (λρ=>(fn ρ).go ρ λo=>.nx (ρ.set i (some (.own o)))) :=
 DS.of (ps_n hN he.out hi hx hs hf) λB F ρ σ H T R q=>⟨B,F,ρ,R,Res.all_mono (u0u q.out) (λo q a h F' H' s n1 n2 e1 r1=>q _ F' H' ((R.step s).setOwn n1 (R.st.hh.free n2) e1 r1 λj u w z=>by
   obtain⟨b,hh,p1,p2,p3,p4,p5⟩:=R.own j u w;rw[p1] at z;cases z;rw[p4] at n2;cases n2)) λx q=>errOf q⟩
noncomputable def flatD:D->Bool
 | .non | .bl _ | .int _ | .str _ | .ty _=>true
 | _=>false
noncomputable def flatC (d:D):Res D:=if flatD d=true then .ok d else .bad
def Rp.flat {K:W.Frag}{F F':Hp}{v:V}{d:D} (h:Rp K F v d) (f:flatD d=true):Rp K F' v d:=by
 cases h<;>first|(cases f;done)|exact .non|exact .bl _|exact .int _|exact .ty _|(exact .str (by assumption))|exact absurd f (by simp[flatD])
theorem DE.flat (h:DE X xq e fe):DE X xq e (λρ=>(fe (frz ρ)).bind flatC) :=
 DE.of h.out λB F ρ σ H Q R q=>by
  obtain⟨F1,e1,R1⟩:=R.frz;refine⟨B,F1,frz ρ,R1,Res.all_mono (Res.all_bind.mp q) (λd q v F' H' s p=>?_) λ_ e=>e.frz⟩
  unfold flatC at q;by_cases z:flatD d=true
  ·rw [if_pos z] at q
   exact q v F H' (Stp.only R.fh s.hh) (p.flat z)
  ·rw[if_neg z] at q;exact q.elim
def DB.fix (h:DB X xq sts f):DB X xq sts (λρ=>f (frz ρ)) :=
 ⟨λpins s σ H T I z9=>un5 z9 λB F ρ R q=>by obtain⟨F1,_,R1⟩:=R.frz;exact h.out pins s σ H T I ⟨B,F1,frz ρ,R1,q⟩⟩
def dg_n {i:Nat} (hN:X.N.Nodup) (hi:X.N.findIdx? (λy=>y==x)=some i:=by rfl) (hx:Loc X.env.scope x:=by first|exact Or.inl rfl|exact Or.inr rfl) (hf:X.fn x=true\/X.env.scope.names.lookup x=some .local:=by first|exact .inl rfl|exact .inr rfl) :
  DG X (.Name x pos) [i] (λd ρ=>.ok (ρ.set i (some (.val d)))) :=
 ⟨λpins s σ H v u Q I rv ⟨B,F,ρ,d,R,p,q⟩=>pg_n hN hi hx hf pins s σ H v u Q I rv (q (σ.set i (some v)) (R.set p) (by simp) λj hj=>by
  rw[u0G (λz=>hj (by simp[z]))])⟩
def u2p:DGs X [] [] (λds ρ=>match ds with | []=>.ok ρ|_=>.bad) :=
 ⟨λpins s σ H vs us Q I rv ⟨B,F,ρ,ds,R,p,q⟩=>pgs_nil pins s σ H vs us Q I rv (by
  cases p with
  | nil=>exact⟨rfl,q σ R rfl λ_ _=>rfl⟩
  | cons _ _=>exact q.elim)⟩
def u0y {ix jx:List Nat}{tgs:List Expr}{g:D->Rho->Res Rho}{gs:List D->Rho->Res Rho} (h1:DG X e ix g) (h2:DGs X tgs jx gs) (hs:(assignEach (e::tgs) X.env).map (·.2)=assign e X.env::(assignEach tgs X.env).map (·.2):=by rfl) :
  DGs X (e::tgs) (ix++jx) (λds ρ=>match ds with|d::r=>(g d ρ).bind (gs r)|_=>.bad) :=
 ⟨λpins s σ H vs us Q I rv ⟨B,F,ρ,ds,R,p,q⟩=>v2t h1.out h2.out hs pins s σ H vs us Q I rv (by
  cases p with
  | nil=>exact q.elim
  | cons p1 p2 =>
   refine⟨_,_,rfl,B,F,ρ,_,R,p1,Res.all_mono (Res.all_bind.mp q) (λρ1 q1 σ1 R1 l1 k1=>⟨B,F,ρ1,_,R1,p2,Res.all_mono q1 (λρ2 q2 σ2 R2 l2 k2=>q2 σ2 R2 (l2.trans l1) λj hj=>?_) λ_ e=>e⟩) λ_ e=>e⟩
   rw[k2 j λz=>hj (t0 _ z),k1 j λz=>hj (z0D _ z)])⟩
noncomputable def asT (n:Nat):D->Res (List D)
 | .tup ds=>if ds.length=n then .ok ds else .bad
 | _=>.bad
def u4h {k n:Nat}{ix:List Nat}{tgs:List Expr}{gs:List D->Rho->Res Rho} (hc:X.calm=true) (h:DGs X tgs ix gs) (hn:(assignEach tgs X.env).length=n:=by rfl) (hst:(assignEach tgs X.env).findIdx? (·.1)=none:=by rfl) :
  DG X (.Tuple tgs k pos) ix (λd ρ=>(asT n d).bind λds=>gs ds ρ) :=
 ⟨λpins s σ H v u Q I rv ⟨B,F,ρ,d,R,p,q⟩=>pg_tup hc h.out hn hst pins s σ H v u Q I rv (by
  have q1:=Res.all_bind.mp q;cases p with
  | @tup a xs ds hq hs =>
   unfold asT at q1;dsimp only at q1;by_cases z:ds.length=n
   ·rw [if_pos z] at q1
    exact⟨a,xs,rfl,R.fh.seqT hq,hs.length.trans z,B,F,ρ,ds,R,hs,q1⟩
   ·rw[if_neg z] at q1;exact q1.elim
  | _=>exact q1.elim)⟩
def ds_unp {k:Nat}{tgs:List Expr}{ix:List Nat}{g:D->Rho->Res Rho} (he:DE X xq e fe) (hg:DG X (.Tuple tgs k pos') ix g) (hs:swapsWithSole [Expr.Tuple tgs k pos'] e pos.line X.env=pure false:=by rfl) (hw:swappedStores [Expr.Tuple tgs k pos'] e X.env=pure none:=by rfl) :
  DS X xq (.Assign [.Tuple tgs k pos'] e pos) (λρ=>(fe ρ).go ρ λd=>(noE (g d ρ)).go ρ λρ'=>.nx ρ') :=
 DS.of (ps_asg he.out hg.out hs hw) λB F ρ σ H T R q=>⟨B,F,ρ,R,Res.all_mono (u0u q.out) (λd q v F' H' s p=>⟨B,F',ρ,d,R.step s,p,by
  have q1:=u0u q;generalize g d ρ=r at q1;cases r with
  | ok ρ'=>exact λσ' R' l k=>q1 σ' F' H' R'
  | err x=>exact q1
  | bad=>exact q1⟩) λx q=>errOf q⟩
def Stp.rebase {B:Hp×Hp}{F H F' H':Hp} (st:Stp B.1 B.2 F H) (s:Stp F B.2 F' H'):Stp B.1 B.2 F' H' :=
 ⟨st.ff.trans s.ff,s.fh,s.hh,λa n z=>s.no a (st.no a n z) z⟩
def Rel.rebase {K:W.Frag}{B:Hp×Hp}{ρ:Rho}{σ:St}{F H:Hp} (R:Rel K B ρ σ F H):Rel K (F,B.2) ρ σ F H :=
 ⟨⟨Same.refl F,R.st.fh,R.st.hh,λ_ n _=>n⟩,R.len,R.val,R.own,R.dis⟩
def Rel.unbase {K:W.Frag}{B:Hp×Hp}{ρ:Rho}{σ:St}{F H F' H':Hp} (st:Stp B.1 B.2 F H) (R:Rel K (F,B.2) ρ σ F' H'):Rel K B ρ σ F' H' :=
 ⟨st.rebase R.st,R.len,R.val,R.own,R.dis⟩
theorem OkS.rebase {K:W.Frag}{B:Hp×Hp}{F H:Hp}{T:Ends}{o:Out} (st:Stp B.1 B.2 F H) (q:OkS K xq B T o):OkS K xq (F,B.2) T o:=⟨by
 have q:=q.out;cases o with
 | nx ρ=>exact λσ F' H' R=>q σ F' H' (R.unbase st)
 | rt d=>exact λv F' H' s p=>q v F' H' (st.rebase s) p
 | bk ρ=>exact λσ F' H' R=>q σ F' H' (R.unbase st)
 | ct ρ=>exact λσ F' H' R=>q σ F' H' (R.unbase st)
 | er x ρ=>exact λv σ F' H' R p=>q v σ F' H' (R.unbase st) p
 | bad=>exact q⟩
noncomputable def forD (g:D->Rho->Res Rho) (tb:Rho->Out):List D->Rho->Out
 | [],ρ=>.nx ρ
 | d::ds,ρ=>(noE (g d ρ)).go ρ λρ1=>match tb ρ1 with
  | .nx ρ2=>forD g tb ds ρ2
  | .ct ρ2=>forD g tb ds ρ2
  | .bk ρ2=>.nx ρ2
  | o=>o
def u1j {iter:Expr}{body:List Stmt}{fi:Rho->Res (List D)}{ix:List Nat}{g:D->Rho->Res Rho}{tb:Rho->Out} (hc:X.calm=true) (hi:DI X xq tg iter fi) (hg:DG X tg ix g) (hb:DB X xq body tb)
  (hp:PassesOwn (model X.prog X.w) X.A X.env X.xe:=by exact PassesOwn.never) (hs:∀x,foldedSetIterable iter X.env x=pure x:=by intro _;rfl) :
  DS X xq (.For tg iter body [] pos) (λρ=>(fi ρ).go ρ λds=>forD g tb ds ρ) :=
 DS.of (v3D hp hc hi.out hg.out hb.out hs) λB F ρ σ H T R q=>⟨B,F,ρ,R,Res.all_mono (u0u q.out) (λds q J F0 H0 s0 fd=>by
  have R0:=R.step s0;obtain⟨C,hC⟩:∃C:Hp×Hp,C=(F0,B.2):=⟨_,rfl⟩;refine⟨λi m σ' H'=>m=ds.length - i/\i<=ds.length/\∃ρ' F',Rel X.K C ρ' σ' F' H'/\OkS X.K xq C T (forD g tb (ds.drop i) ρ'),
   ⟨ds.length,rfl,z1A _,ρ,F0,hC ▸ R0.rebase,hC ▸ OkS.rebase R0.st ⟨q⟩⟩,?_⟩
  rintro i m σ' H' ⟨rfl,hi,ρ',F',R',q'⟩;have e0:Same F0 F':=by have:=R'.st.ff;rw[hC] at this;exact this
  by_cases hlt:i<ds.length
  ·right
   refine⟨fd.go i H' (e0.trans R'.fh) hlt,λσ2 H2=>i+1<=ds.length/\∃ρ2 F2,Rel X.K C ρ2 σ2 F2 H2/\OkS X.K xq C T (forD g tb (ds.drop (i+1)) ρ2),
    λσ2 H2 p=>⟨ds.length - (i+1),by omega,rfl,p.1,p.2⟩,λx H2 y=>?_⟩
   have hd:ds[i]?=some ds[i]:=by simp[hlt]
   obtain⟨F2,s2,p2⟩:=fd.yld i F' H' x H2 _ e0 R'.fh hd y;have eqn:ds.drop i=ds[i]::ds.drop (i+1):=by rw[List.drop_eq_getElem_cons hlt]
   rw[eqn] at q';have q2:=u0u q'.out;refine⟨C,F2,ρ',_,R'.step s2,p2,?_⟩;generalize g ds[i] ρ'=r at q2;cases r with
   | err x=>exact q2
   | bad=>exact q2
   | ok ρ1 =>
    intro σ3 R3 l3 k3;refine⟨C,F2,ρ1,R3,⟨?_⟩⟩;have q3:(match tb ρ1 with | .nx ρ2=>forD g tb (ds.drop (i+1)) ρ2 | .ct ρ2=>forD g tb (ds.drop (i+1)) ρ2 | .bk ρ2=>.nx ρ2|o=>o).all _ _ _ _ _:=q2
    generalize tb ρ1=o at q3;cases o with
    | nx ρ2=>exact λσ4 F4 H4 R4=>⟨hlt,ρ2,F4,R4,⟨q3⟩⟩
    | ct ρ2=>exact λσ4 F4 H4 R4=>⟨hlt,ρ2,F4,R4,⟨q3⟩⟩
    | bk ρ2=>exact q3
    | rt d=>exact q3
    | er x r=>exact q3
    | bad=>exact q3
  ·left
   have e:i=ds.length:=by omega
   subst e;rw[List.drop_length] at q';exact⟨fd.stop _ H' (e0.trans R'.fh) (y0 _),q'.out σ' F' H' R'⟩) λx q=>errOf q⟩
end
section
variable {X:Cx}
def Inv.lstR {pins:LO}{σ:St}{H:Hp}{s:Shared}{l:Addr}{xs:List V} (I:Inv X pins σ H s) (h:Rd H l (.lst xs)) :
  xs.length<=sizeLine/\∃(its:List Value) (n:Nat),Vals xs its/\xs.length=its.length/\s.heap.get? l=some { cls:=.type "list",data:=.seq its.toArray n }:=by
 obtain⟨z,its,n,r,e⟩:=h.ok I.hok;exact⟨z,its,n,r,r.length,e⟩
def rCatR:R2:=λx y H Q=>∃l b xs zs,x=.ref l/\y=.ref b/\Rd H l (.lst xs)/\Rd H b (.lst zs)/\xs.length+zs.length<=sizeLine/\∀p,H p=none->Q (.ref p) (upd H p (.lst (xs++zs)))
def v0r:OpR X (binaryOp .Add) rCatR:=by
 intro pins s σ H x y v u Q I rx ry h;obtain⟨l,b,xs,zs,rfl,rfl,hH,hB,hz,q⟩:=h;cases rx;cases ry;obtain⟨z,its,n,r,hl,e⟩:=I.lstR hH;obtain⟨z2,its2,n2,r2,hl2,e2⟩:=I.lstR hB;refine PySem.P.add_list e e2 ?_ (by rw[y9,y9,<- hl,<- hl2];exact hz)
 rw[show its.toArray++its2.toArray=(its++its2).toArray by simp]
 exact⟨.ref _,_,I.lnew (t':=s.toks) (r.append r2) (by rw[z0F];exact hz),rfl,q _ I.fresh⟩
noncomputable def gd {α:Type} (c:Prop) [Decidable c] (r:Res α):Res α:=if c then r else .bad
def u3t {α:Type}{c:Prop} [Decidable c] {r:Res α}{P:α->Prop}{E:D->Prop} (h:(gd c r).all P E):c/\r.all P E:=by
 unfold gd at h;by_cases q:c
 ·rw[if_pos q] at h;exact⟨q,h⟩
 ·rw[if_neg q] at h;exact h.elim
@[simp] theorem u0r {α:Type}{c:Prop} [Decidable c] {r:Res α} (h:c):gd c r=r:=if_pos h
noncomputable def dAdd:D->D->Res D
 | .int i,.int j=>.ok (.int (i+j))
 | .str x,.str y=>gd (x.length+y.length<=sizeLine) (.ok (.str (x++y)))
 | .lst xs,.lst ys=>gd (xs.length+ys.length<=sizeLine) (.ok (.lst (xs++ys)))
 | _,_=>.bad
def u4n (x y:Str):(x++y).length=x.length+y.length:=by
 show(x.cps++y.cps).size=_;rw[Array.size_append];rfl
def u3r:OpR X (binaryOp .Add) (rD X.K dAdd):=by
 intro pins s σ H x y v u Q I rx ry z986;obtain⟨F,dx,dy,fh,px,py,q⟩:=z986;cases px with
 | int i =>
  cases py with
  | int j=>exact op_add pins s σ H _ _ v u Q I rx ry ⟨i,j,rfl,rfl,q _ F H (Stp.refl fh) (.int _)⟩
  | _=>exact q.elim
 | str hx =>
  cases py with
  | str hy =>
   obtain⟨hz,q⟩:=u3t q;exact u9j pins s σ H _ _ v u Q I rx ry ⟨_,_,rfl,rfl,hz,q _ F H (Stp.refl fh) (.str (by rw[u4n];exact hz))⟩
  | _=>exact q.elim
 | lst hx rx' =>
  cases py with
  | lst hy ry' =>
   obtain⟨hz,q⟩:=u3t q;exact v0r pins s σ H _ _ v u Q I rx ry ⟨_,_,_,_,rfl,rfl,hx.same fh,hy.same fh,by rw[rx'.length,ry'.length];exact hz,λp n =>
    q _ _ _ (Stp.new fh n) (.lst (.inl u0d) ((rx'.append ry').same (Stp.new fh n).ff))⟩
  | _=>exact q.elim
 | _=>exact q.elim
noncomputable def dI (C:Int->Int->Prop) [∀i j,Decidable (C i j)] (g:Int->Int->D):D->D->Res D
 | .int i,.int j=>gd (C i j) (.ok (g i j))
 | _,_=>.bad
def v2C {f:Value->Value->Sem Value}{C:Int->Int->Prop} [∀i j,Decidable (C i j)] {g:Int->Int->V}{g':Int->Int->D} (h:OpR X f (rI C g)) (hg:∀F i j,Rp X.K F (g i j) (g' i j)):OpR X f (rD X.K (dI C g')):=by
 intro pins s σ H x y v u Q I rx ry z987;obtain⟨F,dx,dy,fh,px,py,q⟩:=z987;cases px with
 | int i =>
  cases py with
  | int j =>
   obtain⟨hz,q⟩:=u3t q;exact h pins s σ H _ _ v u Q I rx ry ⟨i,j,rfl,rfl,hz,q _ F H (Stp.refl fh) (hg F i j)⟩
  | _=>exact q.elim
 | _=>exact q.elim
noncomputable def dI0 (g:Int->Int->D):D->D->Res D
 | .int i,.int j=>.ok (g i j)
 | _,_=>.bad
def u5Y {f:Value->Value->Sem Value}{g:Int->Int->V}{g':Int->Int->D} (h:OpR X f (rI0 g)) (hg:∀F i j,Rp X.K F (g i j) (g' i j)):OpR X f (rD X.K (dI0 g')):=by
 intro pins s σ H x y v u Q I rx ry z988;obtain⟨F,dx,dy,fh,px,py,q⟩:=z988;cases px with
 | int i =>
  cases py with
  | int j=>exact h pins s σ H _ _ v u Q I rx ry ⟨i,j,rfl,rfl,q _ F H (Stp.refl fh) (hg F i j)⟩
  | _=>exact q.elim
 | _=>exact q.elim
noncomputable instance (i j:Int):Decidable (CMul i j):=by unfold CMul;infer_instance
noncomputable instance (i j:Int):Decidable (CDivB i j):=by unfold CDivB;infer_instance
noncomputable instance (i j:Int):Decidable (CPow i j):=by unfold CPow;infer_instance
noncomputable abbrev dSub:=dI0 λi j=>.int (i - j)
noncomputable abbrev dMul:=dI CMul λi j=>.int (i*j)
noncomputable abbrev dDiv:=dI CDivB λi j=>.int (i / j)
noncomputable abbrev dMod:=dI (λ_ j=>0<j) λi j=>.int (i%j)
noncomputable abbrev dPow:=dI CPow λi j=>.int (i^j.toNat)
noncomputable abbrev dLt:=dI0 λi j=>.bl (decide (i<j))
noncomputable abbrev dLe:=dI0 λi j=>.bl (decide (i<=j))
noncomputable abbrev dGt:=dI0 λi j=>.bl (decide (j<i))
noncomputable abbrev dGe:=dI0 λi j=>.bl (decide (j<=i))
def o_sub:OpR X (binaryOp .Sub) (rD X.K dSub):=u5Y op_sub λ_ _ _=>.int _
def o_mul:OpR X (binaryOp .Mult) (rD X.K dMul):=v2C op_mul λ_ _ _=>.int _
def u7k:OpR X (binaryOp .FloorDiv) (rD X.K dDiv):=v2C v2A λ_ _ _=>.int _
def u2j:OpR X (binaryOp .Mod) (rD X.K dMod):=v2C op_mod λ_ _ _=>.int _
def o_pow:OpR X (binaryOp .Pow) (rD X.K dPow):=v2C op_pow λ_ _ _=>.int _
def o_lt:OpR X (compareOp .Lt) (rD X.K dLt):=u5Y op_lt λ_ _ _=>.bl _
def o_le:OpR X (compareOp .LtE) (rD X.K dLe):=u5Y op_le λ_ _ _=>.bl _
def o_gt:OpR X (compareOp .Gt) (rD X.K dGt):=u5Y op_gt λ_ _ _=>.bl _
def o_ge:OpR X (compareOp .GtE) (rD X.K dGe):=u5Y op_ge λ_ _ _=>.bl _
noncomputable def isN:D->Bool
 | .non=>true
 | _=>false
noncomputable def dIs:D->D->Res D
 | d,.non=>.ok (.bl (isN d))
 | _,_=>.bad
noncomputable def dIsNot:D->D->Res D
 | d,.non=>.ok (.bl (!isN d))
 | _,_=>.bad
theorem Rp.isN {K:W.Frag}{F:Hp}{v:V}{d:D} (h:Rp K F v d):decide (v=.non)=L2.isN d:=by
 cases h<;>first|rfl|exact decide_eq_false λe=>nomatch e
def o_is:OpR X (compareOp .Is) (rD X.K dIs):=by
 intro pins s σ H x y v u Q I rx ry z989;obtain⟨F,dx,dy,fh,px,py,q⟩:=z989;cases py with
 | non =>
  have q':∀v F' H',Stp F H F' H'->Rp X.K F' v (.bl (isN dx))->Q v H':=by cases dx<;>exact q
  exact op_isN pins s σ H _ _ v u Q I rx ry ⟨rfl,q' _ F H (Stp.refl fh) (by rw[px.isN];exact .bl _)⟩
 | _=>cases dx<;>exact q.elim
def o_isnot:OpR X (compareOp .IsNot) (rD X.K dIsNot):=by
 intro pins s σ H x y v u Q I rx ry z990;obtain⟨F,dx,dy,fh,px,py,q⟩:=z990;cases py with
 | non =>
  have q':∀v F' H',Stp F H F' H'->Rp X.K F' v (.bl (!isN dx))->Q v H':=by cases dx<;>exact q
  exact op_notN pins s σ H _ _ v u Q I rx ry ⟨rfl,q' _ F H (Stp.refl fh) (by rw[px.isN];exact .bl _)⟩
 | _=>cases dx<;>exact q.elim
mutual
noncomputable def D.py:D->Option PyData
 | .non=>some .none
 | .bl b=>some (.bool b)
 | .int i=>some (.int i)
 | .str z=>some (.str z)
 | .lst ds=>(D.pys ds).map .list
 | .tup ds=>(D.pys ds).map .tuple
 | _=>none
noncomputable def D.pys:List D->Option (List PyData)
 | []=>some []
 | d::ds=>match D.py d,D.pys ds with
  | some a,some as=>some (a::as)
  | _,_=>none
end
mutual
theorem Rp.rd {K:W.Frag}{H:Hp}:∀{v:V}{d:D}{a:PyData},Rp K H v d->d.py=some a->RdV K H v a
 | _,_,_,.non,e=>by simp only[D.py] at e;cases e;exact .non
 | _,_,_,.bl b,e=>by simp only[D.py] at e;cases e;exact .bl b
 | _,_,_,.int i,e=>by simp only[D.py] at e;cases e;exact .int i
 | _,_,_,.str _,e=>by simp only[D.py] at e;cases e;exact .str _
 | _,_,_,.ty _,e=>by simp only[D.py] at e;cases e
 | _,_,_,.lst (ds:=ds) hq hs,e=>by
  simp only[D.py] at e;cases q:D.pys ds with
  | none=>rw[q] at e;cases e
  | some as=>rw[q] at e;cases e;exact .lst (.inl hq) (Rps.rd hs q)
 | _,_,_,.tup (ds:=ds) hq hs,e=>by
  simp only[D.py] at e;cases q:D.pys ds with
  | none=>rw[q] at e;cases e
  | some as=>rw[q] at e;cases e;exact .tup hq (Rps.rd hs q)
 | _,_,_,.dK _ _,e=>by simp only[D.py] at e;cases e
 | _,_,_,.ins _ _,e=>by simp only[D.py] at e;cases e
 | _,_,_,.exc _ _ _,e=>by simp only[D.py] at e;cases e
 | _,_,_,.dn _ _,e=>by simp only[D.py] at e;cases e
 | _,_,_,.hdl _,e=>by simp only[D.py] at e;cases e
theorem Rps.rd {K:W.Frag}{H:Hp}:∀{vs:List V}{ds:List D}{as:List PyData},Rps K H vs ds->D.pys ds=some as->RdVs K H vs as
 | _,_,_,.nil,e=>by simp only[D.pys] at e;cases e;exact .nil
 | _,_,_,.cons (d:=d) (ds:=ds) h hs,e=>by
  simp only[D.pys] at e;cases q:d.py with
  | none=>rw[q] at e;cases e
  | some a =>
   cases q2:D.pys ds with
   | none=>rw[q,q2] at e;cases e
   | some as=>rw[q,q2] at e;cases e;exact .cons (Rp.rd h q) (Rps.rd hs q2)
end
noncomputable def cmpD (d:D):Res PyData:=match d.py with
 | some a=>gd (SeqAt.shaped a=true) (.ok a)
 | none=>.bad
set_option tactic.hygienic true in
def u2X {d:D}{P:PyData->Prop}{E:D->Prop} (h:(cmpD d).all P E):∃a,d.py=some a/\SeqAt.shaped a=true/\P a:=by
 unfold cmpD at h;split at h
 ·rename_i a q;obtain⟨hz,h⟩:=u3t h;exact⟨a,q,hz,h⟩
 ·exact h.elim
noncomputable def dEq (x y:D):Res D:=(cmpD x).bind λa=>(cmpD y).bind λb=>.ok (.bl (PyData.eqv a b))
noncomputable def dNe (x y:D):Res D:=(cmpD x).bind λa=>(cmpD y).bind λb=>.ok (.bl (!PyData.eqv a b))
def o_eq (hu:X.A.units+64<cLine):OpR X (compareOp .Eq) (rD X.K dEq):=by
 intro pins s σ H x y v u Q I rx ry z991;obtain⟨F,dx,dy,fh,px,py,q⟩:=z991;obtain⟨a,ea,sa,q⟩:=u2X (Res.all_bind.mp q);obtain⟨b,eb,sb,q⟩:=u2X (Res.all_bind.mp q);exact op_eqD hu pins s σ H _ _ v u Q I rx ry ⟨a,b,(px.rd ea).same fh,(py.rd eb).same fh,sa,sb,q _ F H (Stp.refl fh) (.bl _)⟩
def o_ne (hu:X.A.units+64<cLine):OpR X (compareOp .NotEq) (rD X.K dNe):=by
 intro pins s σ H x y v u Q I rx ry z992;obtain⟨F,dx,dy,fh,px,py,q⟩:=z992;obtain⟨a,ea,sa,q⟩:=u2X (Res.all_bind.mp q);obtain⟨b,eb,sb,q⟩:=u2X (Res.all_bind.mp q);exact op_neD hu pins s σ H _ _ v u Q I rx ry ⟨a,b,(px.rd ea).same fh,(py.rd eb).same fh,sa,sb,q _ F H (Stp.refl fh) (.bl _)⟩
noncomputable def dIx:D->D->Res D
 | .lst ds,.int i=>match atI ds i with
  | some d=>.ok d
  | none=>.bad
 | .tup ds,.int i=>match atI ds i with
  | some d=>.ok d
  | none=>.bad
 | .str z,.int i=>match atI z.cps.toList i with
  | some c=>.ok (.str ⟨#[c]⟩)
  | none=>.bad
 | _,_=>.bad
def v3V {K:W.Frag}{F:Hp}{xs:List V}{ds:List D}{i:Int}{d:D} (r:Rps K F xs ds) (h:atI ds i=some d):∃v,atI xs i=some v/\Rp K F v d:=by
 unfold atI at h |-
 rw[r.length];cases q:ixN ds.length i with
 | none=>rw[q] at h;cases h
 | some j=>rw[q] at h;exact r.get h
set_option tactic.hygienic true in
def x_ix:IxR X (rD X.K dIx):=by
 intro value slice pins s σ H x y v u Q I rx ry z993 hsub;obtain⟨F,dx,dy,fh,px,py,q⟩:=z993;cases py with
 | int i =>
  cases px with
  | lst hx rs =>
   rename_i ds;cases e:atI ds i with
   | none=>simp only[dIx,e] at q;exact q.elim
   | some d =>
    simp only[dIx,e] at q;obtain⟨w,h1,h2⟩:=v3V rs e;exact ix_list value slice pins s σ H _ _ v u Q I rx ry ⟨_,_,i,w,rfl,rfl,.inl (hx.same fh),h1,q _ F H (Stp.refl fh) h2⟩ hsub
  | tup hx rs =>
   rename_i ds;cases e:atI ds i with
   | none=>simp only[dIx,e] at q;exact q.elim
   | some d =>
    simp only[dIx,e] at q;obtain⟨w,h1,h2⟩:=v3V rs e;exact ix_tup value slice pins s σ H _ _ v u Q I rx ry ⟨_,_,i,w,rfl,rfl,fh.seqT hx,h1,q _ F H (Stp.refl fh) h2⟩ hsub
  | str hz =>
   rename_i z;cases e:atI z.cps.toList i with
   | none=>simp only[dIx,e] at q;exact q.elim
   | some c =>
    simp only[dIx,e] at q;exact ix_str value slice pins s σ H _ _ v u Q I rx ry ⟨_,i,c,rfl,rfl,hz,e,q _ F H (Stp.refl fh) (.str u1i)⟩ hsub
  | _=>exact q.elim
 | _=>cases px<;>exact q.elim
end
noncomputable def items:D->Res (List D)
 | .lst ds=>.ok ds
 | .tup ds=>.ok ds
 | .str z=>.ok (chars z)
 | _=>.bad
section
variable {X:Cx}{xq:XQ}{tg l:Expr}{fl:Rho->Res D}{fa:Rho->Res (List D)}{pos p:Pos}
def u0B (hl:DE X xq l fl):DI X xq tg l (λρ=>(fl ρ).bind items):=⟨λpins s σ H R I z9=>un5 z9 λB F ρ R' q=>by
 have q0:=Res.all_bind.mp q;cases e:fl ρ with
 | bad=>rw[e] at q0;exact q0.elim
 | err x =>
  rw[e] at q0;exact v0k hl.out pins s σ H R I ⟨B,F,ρ,R',by rw[e];exact q0⟩
 | ok d =>
  rw[e] at q0;have go:∀{T:VK},(∀v F' H',Stp F H F' H'->Rp X.K F' v d->T v H')->liftE X.K xq fl σ H T:=λk=>⟨B,F,ρ,R',by rw[e];exact k⟩
  cases d with
  | lst ds =>
   refine v0k hl.out pins s σ H R I (go λv F' H' st p=>?_)
   cases p with
   | lst hq hs=>exact⟨_,rfl,⟨_,.inl (hq.same st.fh)⟩,q0 _ F' H' st (Feed.list (.inl hq) hs)⟩
  | tup ds =>
   refine pi_tup hl.out pins s σ H R I (go λv F' H' st p=>?_)
   cases p with
   | tup hq hs=>exact⟨_,rfl,⟨_,st.fh.seqT hq⟩,q0 _ F' H' st (Feed.tup hq hs)⟩
  | str z =>
   refine pi_str hl.out pins s σ H R I (go λv F' H' st p=>?_)
   cases p with
   | str hz=>exact⟨z,rfl,q0 _ F' H' st (Feed.str z)⟩
  | _=>exact q0.elim⟩
noncomputable def rng1:List D->Res (List D)
 | [.int j]=>gd (-(2^62)<=j/\j<2^62) (.ok (intL 0 j.toNat))
 | _=>.bad
def rps1 {K:W.Frag}{F:Hp}{vs:List V}{d:D} (h:Rps K F vs [d]):∃v,vs=[v]/\Rp K F v d:=by
 cases h with
 | cons h hs=>cases hs;exact⟨_,rfl,h⟩
def rps2 {K:W.Frag}{F:Hp}{vs:List V}{d e:D} (h:Rps K F vs [d,e]):∃v w,vs=[v,w]/\Rp K F v d/\Rp K F w e:=by
 cases h with
 | cons h hs=>obtain⟨w,rfl,q⟩:=rps1 hs;exact⟨_,w,rfl,h,q⟩
set_option tactic.hygienic true in
def u2x {a:Expr} (hm:X.mg "range"=none) (ha:DA X xq [a] fa) (hg:Gl X "range":=by rfl):DI X xq tg (.Call (.Name "range" p) [a] [] pos) (λρ=>(fa ρ).bind rng1) :=
 ⟨λpins s σ H R I z9=>un5 z9 λB F ρ R' q=>v0j hg hm ha.out (u0k (u0j ha.ns).1) pins s σ H R I (seqA R' q λds vs F1 H1 s1 R1 p1 q1=>by
  unfold rng1 at q1;split at q1
  ·rename_i j
   obtain⟨⟨h1,h2⟩,q2⟩:=u3t q1;obtain⟨v,rfl,pv⟩:=rps1 p1;cases pv;exact⟨j,rfl,h1,h2,q2 _ F1 H1 s1 (Feed.rng 0 _)⟩
  ·exact q1.elim)⟩
noncomputable def enumL (ds:List D):List D:=ds.zipIdx.map λp=>.tup [.int (p.2:Nat),p.1]
def Feed.enum {K:W.Frag}{F:Hp}{a:Addr}{xs:List V}{ds:List D} (h:SqL K F a xs) (r:Rps K F xs ds):Feed K F (Ite K a) (enumL ds) where
 go i H e hi:=by
  have hi':i<xs.length:=by rw[r.length];simpa[enumL] using hi
  exact⟨xs,xs[i],e.seq h,by simp[hi']⟩
 yld i F1 H x H' d e1 e2 hd y:=by
  obtain⟨p,v,hp,rfl,rfl,y⟩:=y;have hv:xs[i]?=some v:=y xs ((e1.trans e2).seq h);have hd2:∃d0,ds[i]?=some d0/\d=.tup [.int (i:Nat),d0]:=by
   unfold enumL at hd;rw[w9,List.getElem?_zipIdx] at hd;cases q:ds[i]? with
   | none=>rw[q] at hd;cases hd
   | some d0=>rw[q] at hd;simp at hd;exact⟨d0,rfl,hd.symm⟩
  obtain⟨d0,q0,rfl⟩:=hd2;obtain⟨w,hw,pw⟩:=r.get q0;rw[hv] at hw;cases hw;have s:=Stp.new (o:=.tup [.int (i:Nat),v]) e2 hp;exact⟨_,s,.tup (.inl (.inl u0d)) (.cons (.int _) (.cons (pw.same (e1.trans s.ff)) .nil))⟩
 stop i H e hi:=⟨xs,e.seq h,by rw[r.length];simpa[enumL] using hi⟩
noncomputable def enum1:List D->Res (List D)
 | [.lst ds]=>.ok (enumL ds)
 | _=>.bad
def v1p {es:List Expr}{k:Nat}{tp:Pos}{a:Expr} (hm:X.mg "enumerate"=none) (ha:DA X xq [a] fa) (hg:Gl X "enumerate":=by rfl):DI X xq (.Tuple es k tp) (.Call (.Name "enumerate" p) [a] [] pos) (λρ=>(fa ρ).bind enum1) :=
 ⟨λpins s σ H R I z9=>un5 z9 λB F ρ R' q=>pi_enum hg hm ha.out (u0k (u0j ha.ns).1) pins s σ H R I (seqA R' q λds vs F1 H1 s1 R1 p1 q1=>by
  unfold enum1 at q1;split at q1
  ·obtain ⟨v,rfl,pv⟩:=rps1 p1
   cases pv with
   | lst hq hs=>exact⟨_,_,rfl,.inl (hq.same R1.fh),q1 _ F1 H1 s1 (Feed.enum (.inl hq) hs)⟩
  ·exact q1.elim)⟩
end
noncomputable def rhoC (k:Nat) (outs:List Nat) (ρ:Rho):Rho:=List.replicate k none++outs.map λj=>(ρ[j]?).join
set_option tactic.hygienic true in
def getC {α:Type}{k:Nat}{outs:List Nat}{l:List (Option α)}{i:Nat}{x:α} (h:(List.replicate k none++outs.map λj=>(l[j]?).join)[i]?=some (some x)):k<=i/\∃j,outs[i - k]?=some j/\l[j]?=some (some x):=by
 rw[z2A] at h;split at h
 ·rename_i q
  rw[z0I] at h;split at h<;>simp at h
 ·rename_i q
  simp only[z1B] at h q;refine⟨by omega,?_⟩
  rw[w9] at h;cases e:outs[i - k]? with
  | none=>rw[e] at h;cases h
  | some j =>
   rw[e] at h;refine⟨j,rfl,?_⟩;simp only[Option.map_some,Option.some.injEq] at h;cases e2:l[j]? with
   | none=>rw[e2] at h;cases h
   | some y=>rw[e2] at h;simpa using h
def atC {α:Type}{k:Nat}{outs:List Nat}{l:List (Option α)}{i j:Nat} (hi:k<=i) (h:outs[i - k]?=some j):(List.replicate k none++outs.map λj=>(l[j]?).join)[i]?=some ((l[j]?).join):=by
 rw[z1D (by simpa using hi),z1B,w9,h];rfl
def Rel.comp {K:W.Frag}{B:Hp×Hp}{ρ:Rho}{σ:St}{F H:Hp}{k:Nat}{outs:List Nat} (R:Rel K B ρ σ F H) (nd:outs.Nodup):Rel K B (rhoC k outs ρ) (stC k outs σ) F H where
 st:=R.st
 len:=by unfold stC rhoC;simp
 val i d e:=by
  obtain⟨hi,j,h1,h2⟩:=getC e;obtain⟨v,q1,q2⟩:=R.val j d h2;exact⟨v,by unfold stC;rw[atC hi h1,q1];rfl,q2⟩
 own i o e:=by
  obtain⟨hi,j,h1,h2⟩:=getC e;obtain⟨a,h,q1,q2⟩:=R.own j o h2;exact⟨a,h,by unfold stC;rw[atC hi h1,q1];rfl,q2⟩
 dis i i' o u a e e' x y:=by
  obtain⟨hi,j,h1,h2⟩:=getC e;obtain⟨hi',j',h1',h2'⟩:=getC e';obtain⟨_,jx,g1,g2⟩:=getC (l:=σ) x;obtain⟨_,jy,g1',g2'⟩:=getC (l:=σ) y;rw[h1] at g1;cases g1;rw[h1'] at g1';cases g1';have ej:=R.dis j j' o u a h2 h2' g2 g2';subst ej
  have:=(List.getElem?_inj (w6.mp h1).1 nd).mp (h1.trans h1'.symm)
  omega
noncomputable def compD (g:D->Rho->Res Rho) (fT:Rho->Res Bool) (fe:Rho->Res D) (ρ:Rho):List D->Res (List D)
 | []=>.ok []
 | d::ds=>(noE (g d ρ)).bind λρ1=>(noE (fT (frz ρ1))).bind λb=>if b=true then (noE (fe ρ1)).bind λy=>(compD g fT fe ρ ds).bind λys=>.ok (y::ys) else compD g fT fe ρ ds
def xqF:XQ:=λ_ _ _=>False
structure DF (X:Cx) (xq:XQ) (es:List Expr) (f:Rho->Res Bool):Prop where
 out:PIf X es (liftT X.K xq f)
def u2N {α:Type}{r:Res α}{P:α->Prop}{E E':D->Prop} (h:(noE r).all P E):r.all P E':=by
 cases r with
 | ok a=>exact h
 | err x=>exact h.elim
 | bad=>exact h.elim
section
variable {X:Cx}{xq:XQ}{tg iter elt c:Expr}{fA:Rho->Res Bool}{fe:Rho->Res D}{fi:Rho->Res (List D)}{g:D->Rho->Res Rho}{ifs:List Expr}{scope:Scope}{pos:Pos}{ix:List Nat}
def u1k:DF X xq [] (λ_=>.ok true):=⟨λpins s σ H Q I z9=>un5 z9 λB F ρ R q=>pif_nil pins s σ H Q I (q H (Stp.refl R.fh))⟩
def u8r (h:DT X xq c fA):DF X xq [c] fA:=⟨pif_one h.out⟩
def u4k {K:W.Frag}{k:Nat}{outs:List Nat} (nd:outs.Nodup) (hix:∀j∈ix,j<k) {σ:St}{H:Hp}{Q:VK} (h:liftN K xq (λρ=>(fi ρ).bind λds=>gd (ds.length<=sizeLine) ((compD g fA fe (rhoC k outs ρ) ds).bind λys=>.ok (.l ys))) σ H Q) :
  tComp k outs (liftI K xq fi) (liftG K ix g) (liftT K xqF fA) (liftE K xqF fe) σ H Q:=by
 obtain⟨B,F,ρ,R,q⟩:=h;exact
  ⟨B,F,ρ,R,Res.all_mono (Res.all_bind.mp q) (λds q1 J F0 H0 s0 fd=>by
   obtain⟨hz,q1⟩:=u3t q1
   let T:List D->Prop:=λys=>∀a h F' H',Stp F H F' H'->F' a=none->H a=none->H' a=some h->Ro K F' a h (.l ys)->Q (.ref a) H'
   have q2:(compD g fA fe (rhoC k outs ρ) ds).all T (ErrK K xq B ρ σ):=Res.all_mono (Res.all_bind.mp q1) (λ_ z=>z) λ_ z=>z
   clear q1;refine⟨λi m ys H'=>m=ds.length - i/\i<=ds.length/\∃F' es,Stp F H F' H'/\Same F0 F'/\Rps K F' ys es/\es.length<=i/\(compD g fA fe (rhoC k outs ρ) (ds.drop i)).all (λr=>T (es++r)) (ErrK K xq B ρ σ),
    ⟨ds.length,rfl,z1A _,F0,[],s0,Same.refl _,.nil,y0 _,q2⟩,?_⟩
   rintro i m ys H' ⟨rfl,hi',F',es,st,e0,rs,hl,q3⟩;refine⟨by rw[rs.length];omega,?_⟩
   by_cases hlt:i<ds.length
   ·right
    refine⟨fd.go i H' (e0.trans st.fh) hlt,λys' H2=>i+1<=ds.length/\∃F2 es',Stp F H F2 H2/\Same F0 F2/\Rps K F2 ys' es'/\es'.length<=i+1/\(compD g fA fe (rhoC k outs ρ) (ds.drop (i+1))).all (λr=>T (es'++r)) (ErrK K xq B ρ σ),
     λys' H2 p=>⟨ds.length - (i+1),by omega,rfl,p.1,p.2⟩,λx H2 y=>?_⟩
    have hd:ds[i]?=some ds[i]:=by simp[hlt]
    obtain⟨F2,s2,p2⟩:=fd.yld i F' H' x H2 _ e0 st.fh hd y;rw[List.drop_eq_getElem_cons hlt] at q3;have R2:Rel K B (rhoC k outs ρ) (stC k outs σ) F2 H2:=((R.step st).step s2).comp nd;have q4:=Res.all_bind.mp (show((noE (g ds[i] (rhoC k outs ρ))).bind _).all _ _ from q3)
    refine⟨B,F2,_,_,R2,p2,u2N (Res.all_mono q4 (λρ1 q5 σ3 R3 l3 k3=>⟨?_,?_⟩) λ_ z=>z)⟩
    ·apply List.ext_getElem?
     intro j;rw[List.getElem?_drop,k3 (k+j) λz=>by have:=hix _ z;omega]
     unfold stC;rw[z1D (by simp),z1B,Nat.add_sub_cancel_left]
    ·refine ⟨B,F2,ρ1,R3,u2N (Res.all_mono (Res.all_bind.mp q5) (fun b q6 H3 s3=>?_) fun _ z=>z)⟩
     have R4:=R3.step s3;cases b with
     | false=>exact⟨hlt,F2,es,(st.trans s2).trans s3,e0.trans s2.ff,rs.same s2.ff,by omega,q6⟩
     | true =>
      refine⟨B,F2,ρ1,R4,u2N (Res.all_mono (Res.all_bind.mp (show((noE (fe ρ1)).bind _).all _ _ from q6)) (λd q7 v F4 H4 s4 p4=>?_) λ_ z=>z)⟩
      refine⟨hlt,F4,es++[d],((st.trans s2).trans s3).trans s4,(e0.trans s2.ff).trans s4.ff,((rs.same s2.ff).same s4.ff).append (.cons p4 .nil),by simp;omega,?_⟩
      exact Res.all_mono (Res.all_bind.mp q7) (λr z=>by
       have z':T (es++d::r):=z;simpa using z') λ_ z=>z
   ·left
    have e:i=ds.length:=by omega
    subst e;rw[List.drop_length] at q3;have q4:T es:=by simpa using(show T (es++[]) from q3)
    exact⟨fd.stop _ H' (e0.trans st.fh) (y0 _),λp n=>q4 p _ F' _ (st.trans (Stp.only st.fh (u0i n))) (st.fh.free n) (st.hh.free n) u0d (.l rs)⟩) λ_ e=>e⟩
def u0I (own:List Str) (outs:List Nat) (hc:X.calm=true) (ok:CompOk X.env.scope X.N own outs scope) (hi:DI X xq tg iter fi) (hg:∀{cl C s H fp},DG (cxC X own outs scope cl C s H fp) tg ix g) (hf:∀{cl C s H fp},DF (cxC X own outs scope cl C s H fp) xqF ifs fA) (he:∀{cl C s H fp},DE (cxC X own outs scope cl C s H fp) xqF elt fe)
  (nd:outs.Nodup:=by decide) (hix:∀j∈ix,j<own.length:=by decide) (hs:∀x,foldedSetIterable iter X.env x=pure x:=by intro _;rfl) :
  DN X xq (.ListComp elt [⟨tg,iter,ifs,0⟩] scope pos) (λρ=>(fi ρ).bind λds=>gd (ds.length<=sizeLine) ((compD g fA fe (rhoC own.length outs ρ) ds).bind λys=>.ok (.l ys))) :=
 ⟨λpins s σ H Q I h=>pe_comp own outs hc ok hi.out (g:=liftG X.K ix g) (ti:=liftT X.K xqF fA) (te:=liftE X.K xqF fe) (λ{cl C s H fp}=>hg.out) (λ{cl C s H fp}=>hf.out) (λ{cl C s H fp}=>he.out) hs pins s σ H Q I (u4k nd hix h)⟩
def ds_comp {x:Str}{i:Nat}{py spos:Pos} (own:List Str) (outs:List Nat) (hc:X.calm=true) (ok:CompOk X.env.scope X.N own outs scope) (hN:X.N.Nodup) (hi:DI X xq tg iter fi) (hg:∀{cl C s H fp},DG (cxC X own outs scope cl C s H fp) tg ix g) (hf:∀{cl C s H fp},DF (cxC X own outs scope cl C s H fp) xqF ifs fA) (he:∀{cl C s H fp},DE (cxC X own outs scope cl C s H fp) xqF elt fe)
  (nd:outs.Nodup:=by decide) (hix:∀j∈ix,j<own.length:=by decide) (hy:X.N.findIdx? (λy=>y==x)=some i:=by rfl) (hx:X.env.scope.names.lookup x=some .local:=by rfl)
  (hsw:swapsWith (.ListComp elt [⟨tg,iter,ifs,0⟩] scope pos) (some (.Name x py)) spos.line X.env=pure true:=by rfl) (hs:∀x,foldedSetIterable iter X.env x=pure x:=by intro _;rfl) :
  DS X xq (.Assign [.Name x py] (.ListComp elt [⟨tg,iter,ifs,0⟩] scope pos) spos) (λρ=>((fi ρ).bind λds=>gd (ds.length<=sizeLine) ((compD g fA fe (rhoC own.length outs ρ) ds).bind λys=>.ok (OD.l ys))).go ρ λo=>.nx (ρ.set i (some (.own o)))) :=
 DS.of (u4D own outs hc ok hN (u4X hy) hx hi.out (g:=liftG X.K ix g) (ti:=liftT X.K xqF fA) (te:=liftE X.K xqF fe) (λ{cl C s H fp}=>hg.out) (λ{cl C s H fp}=>hf.out) (λ{cl C s H fp}=>he.out) hsw hs) λB F ρ σ H T R q =>
  u4k nd hix ⟨B,F,ρ,R,Res.all_mono (u0u q.out) (λo q a h F' H' s n1 n2 e1 r1=>q _ F' H' ((R.step s).setOwn n1 (R.st.hh.free n2) e1 r1 λj u w z=>by
   obtain⟨b,hh,p1,p2,p3,p4,p5⟩:=R.own j u w;rw[p1] at z;cases z;rw[p4] at n2;cases n2)) λx q=>errOf q⟩
end
section
variable {X:Cx}{xq:XQ}{a b e o:Expr}{es:List Expr}{fe:Rho->Res D}{fs:Rho->Res (List D)}{x:Str}{p pos pos' apos cpos:Pos}
def d_B {id:String}{g:FD} (hc:CallR X (.builtin id) (rDs X.K g)) (hm:X.mg x=none) (hv:bootBuiltins x=some (.builtin id)) (ha:DA X xq (e::es) fs) (hg:Gl X x:=by rfl) (hn:x≠"__name__":=by decide) (hdb:(x==("__debug__":Str))=false:=by decide) :
  DE X xq (.Call (.Name x p) (e::es) [] pos) (λρ=>(fs ρ).bind λds=>noE (g ds)) :=
 DE.of (pcB hc hg hm hv ha.out hn hdb ha.ns) λB F ρ σ H Q R q=>seqA R q λds vs F1 H1 s1 R1 p1 q1=>⟨F1,ds,R1.fh,p1,doneN s1 q1⟩
def d_T {T:String}{g:FD} (hc:CallR X (.type T) (rDs X.K g)) (hm:X.mg x=none) (hv:bootBuiltins x=some (.type T)) (ha:DA X xq (e::es) fs) (hg:Gl X x:=by rfl) (hn:x≠"__name__":=by decide) (hdb:(x==("__debug__":Str))=false:=by decide) :
  DE X xq (.Call (.Name x p) (e::es) [] pos) (λρ=>(fs ρ).bind λds=>noE (g ds)) :=
 DE.of (pcT hc hg hm hv ha.out hn hdb ha.ns) λB F ρ σ H Q R q=>seqA R q λds vs F1 H1 s1 R1 p1 q1=>⟨F1,ds,R1.fh,p1,doneN s1 q1⟩
noncomputable def gLen:List D->Res D
 | [.str z]=>.ok (.int z.length)
 | [.lst ds]=>.ok (.int ds.length)
 | [.tup ds]=>.ok (.int ds.length)
 | _=>.bad
def u1G:CallR X (.builtin "len") (rDs X.K gLen):=by
 intro pins s σ H xs us Q I r z994;obtain⟨F,ds,fh,ps,q⟩:=z994;unfold gLen at q;split at q
 ·obtain ⟨v,rfl,pv⟩:=rps1 ps
  cases pv with
  | str hz=>exact u5x pins s σ H _ us Q I r ⟨_,_,rfl,⟨hz,rfl⟩,q _ F H (Stp.refl fh) (.int _)⟩
 ·obtain ⟨v,rfl,pv⟩:=rps1 ps
  cases pv with
  | lst hq hs=>exact u5x pins s σ H _ us Q I r ⟨_,_,rfl,.inl ⟨_,.inl (hq.same fh),rfl⟩,q _ F H (Stp.refl fh) (by rw[hs.length];exact .int _)⟩
 ·obtain ⟨v,rfl,pv⟩:=rps1 ps
  cases pv with
  | tup hq hs=>exact u5x pins s σ H _ us Q I r ⟨_,_,rfl,.inr ⟨_,fh.seqT hq,rfl⟩,q _ F H (Stp.refl fh) (by rw[hs.length];exact .int _)⟩
 ·exact q.elim
noncomputable def tyN:D->Option String
 | .non=>some "NoneType"
 | .bl _=>some "bool"
 | .int _=>some "int"
 | .str _=>some "str"
 | .lst _=>some "list"
 | .tup _=>some "tuple"
 | .dct _=>some "dict"
 | _=>none
noncomputable def isT (t T:String):Option Bool:=if T∈["bool","int","str","list","tuple","dict"] then some (t==T||(t=="bool"&&T=="int")) else none
set_option tactic.hygienic true in
def v0K (K:W.Frag) {d:D}{t T:String}{b:Bool} (ht:tyN d=some t) (h:isT t T=some b):W.kitOne K (.type t) (.type T)=some b:=by
 unfold isT at h;split at h
 ·rename_i hT
  simp only[y7,r6,or_false] at hT;cases h;cases d<;>simp only[tyN,Option.some.injEq,reduceCtorEq] at ht<;>subst ht<;>rcases hT with rfl|rfl|rfl|rfl|rfl|rfl<;>rfl
 ·cases h
def v2W {pins:LO}{σ:St}{H:Hp}{s:Shared}{A:Around}{E:VP}{Q:VP}{c:Value}{bb:Bool}{F:Hp}{v:V}{u:Value}{d:D}{t:String} (I:Inv X pins σ H s) (rx:RelV v u) (fh:Same F H) (pv:Rp X.K F v d) (ht:tyN d=some t)
  (e:W.kitOne X.K (.type t) c=some bb) (h:∀tk,Q (.bool bb) { s with toks:=tk }):wpAny (model X.prog X.w) A (call (.builtin "isinstance") [u,c]) Q E s:=by
 cases pv with
 | non=>cases ht;exact u0T I rx .non e h
 | bl y=>cases ht;exact u0T I rx (.bl y) e h
 | int i=>cases ht;exact u0T I rx (.int i) e h
 | str hz=>cases ht;exact u0T I rx (.str _) e h
 | ty T=>cases ht
 | lst hq hs =>
  cases ht;rcases hq with hq|⟨ob,hq⟩
  ·exact u0T I rx (.lst (fh _ _ hq)) e h
  ·exact u0T I rx (.frz (fh _ _ hq)) e h
 | tup hq hs =>
  cases ht;obtain⟨its,r,p,hz⟩:=I.tuple (fh.seqT hq);obtain⟨ob,h1,h2,_⟩:=p;cases (show u=Value.ref _ from rx)
  exact W.kia_one W.kitx_tuple I.kIn ⟨ob,h1,h2⟩ e (λz=>nomatch z) h
 | dK hq hs=>cases ht;exact u0T I rx (.dK (fh _ _ hq)) e h
 | ins hq hs=>cases ht
 | exc hq hr hs=>cases ht
 | dn hq hs=>cases ht
 | hdl a=>cases ht
noncomputable def gIs:List D->Res D
 | [d,.ty T]=>match tyN d with
  | some t=>match isT t T with
   | some b=>.ok (.bl b)
   | none=>.bad
  | none=>.bad
 | _=>.bad
set_option tactic.hygienic true in
def v3r:CallR X (.builtin "isinstance") (rDs X.K gIs):=by
 intro pins s σ H xs us Q I r z995;obtain⟨F,ds,fh,ps,q⟩:=z995;unfold gIs at q;split at q
 ·rename_i d T
  obtain⟨v,w,rfl,pv,pw⟩:=rps2 ps;cases pw;cases ht:tyN d with
  | none=>rw[ht] at q;exact q.elim
  | some t =>
   rw[ht] at q;cases hb:isT t T with
   | none=>simp only[hb] at q;exact q.elim
   | some bb =>
    simp only[hb] at q;cases r with
    | cons r1 r2 =>
     cases r2 with
     | cons r2 r3 =>
      cases r3;cases r2;exact v2W I r1 fh pv ht (v0K X.K ht hb) λtk=>⟨.bl bb,H,I.tok _,rfl,q _ F H (Stp.refl fh) (.bl bb)⟩
 ·exact q.elim
noncomputable def blsOf:List D->Option (List Bool)
 | []=>some []
 | .bl b::r=>(blsOf r).map (b::·)
 | _=>none
theorem u3A {K:W.Frag}{F:Hp}:∀{xs:List V}{ds:List D}{bs:List Bool},Rps K F xs ds->blsOf ds=some bs->xs=bs.map V.bl
 | _,_,_,.nil,e=>by cases e;rfl
 | _,_,_,.cons (d:=d) (ds:=ds) h hs,e=>by
  cases d<;>simp only[blsOf,reduceCtorEq] at e
  cases h;cases q:blsOf ds with
  | none=>rw[q] at e;cases e
  | some bs=>rw[q] at e;cases e;rw[u3A hs q];rfl
noncomputable def gAll:List D->Res D
 | [.lst ds]=>match blsOf ds with
  | some bs=>.ok (.bl (bs.all id))
  | none=>.bad
 | _=>.bad
set_option tactic.hygienic true in
def v1B (hc:X.calm=true):CallR X (.builtin "all") (rDs X.K gAll):=by
 intro pins s σ H xs us Q I r z996;obtain⟨F,ds,fh,ps,q⟩:=z996;unfold gAll at q;split at q
 ·rename_i ds
  obtain⟨v,rfl,pv⟩:=rps1 ps;cases pv with
  | lst hq hs =>
   cases hb:blsOf ds with
   | none=>rw[hb] at q;exact q.elim
   | some bs =>
    rw[hb] at q;exact v3q hc pins s σ H _ us Q I r ⟨_,bs,rfl,.inl (u3A hs hb ▸ hq.same fh),q _ F H (Stp.refl fh) (.bl _)⟩
 ·exact q.elim
noncomputable def gTuple:List D->Res D
 | [.lst ds]=>.ok (.tup ds)
 | [.tup ds]=>.ok (.tup ds)
 | _=>.bad
def u2r:CallR X (.type "tuple") (rDs X.K gTuple):=by
 intro pins s σ H xs us Q I r z997;obtain⟨F,ds,fh,ps,q⟩:=z997;unfold gTuple at q;split at q
 ·obtain ⟨v,rfl,pv⟩:=rps1 ps
  cases pv with
  | lst hq hs=>exact u2z pins s σ H _ us Q I r ⟨_,_,rfl,.inl ⟨.inl (hq.same fh),λl n=>q _ _ _ (Stp.new fh n) (.tup (.inl (.inl u0d)) (hs.same (Stp.new fh n).ff))⟩⟩
 ·obtain ⟨v,rfl,pv⟩:=rps1 ps
  cases pv with
  | tup hq hs=>exact u2z pins s σ H _ us Q I r ⟨_,_,rfl,.inr ⟨fh.seqT hq,q _ F H (Stp.refl fh) (.tup hq hs)⟩⟩
 ·exact q.elim
noncomputable def seqOf:List D->Res OD
 | [.lst ds]=>.ok (.l ds)
 | [.tup ds]=>.ok (.l ds)
 | _=>.bad
def u5w (hm:X.mg "list"=none) (ha:DA X xq [e] fs) (hg:Gl X "list":=by rfl):DN X xq (.Call (.Name "list" p) [e] [] pos) (λρ=>(fs ρ).bind seqOf) :=
 ⟨λpins s σ H Q I z9=>un5 z9 λB F ρ R q=>pcT (u6x) hg hm rfl ha.out (by decide) (by decide) ha.ns pins s σ H Q I (seqA R q λds vs F1 H1 s1 R1 p1 q1=>by
  unfold seqOf at q1;split at q1
  ·obtain ⟨v,rfl,pv⟩:=rps1 p1
   cases pv with
   | lst hq hs=>exact⟨_,_,rfl,.inl (.inl (hq.same R1.fh)),λl n=>q1 l _ F1 _ (s1.trans (Stp.only R1.fh (u0i n))) (R1.fh.free n) (s1.hh.free n) u0d (.l hs)⟩
  ·obtain ⟨v,rfl,pv⟩:=rps1 p1
   cases pv with
   | tup hq hs=>exact⟨_,_,rfl,.inr (R1.fh.seqT hq),λl n=>q1 l _ F1 _ (s1.trans (Stp.only R1.fh (u0i n))) (R1.fh.free n) (s1.hh.free n) u0d (.l hs)⟩
  ·exact q1.elim)⟩
noncomputable def getL (ρ:Rho) (i:Nat):Res (List D):=match ρ[i]? with
 | some (some (.own (.l ds)))=>.ok ds
 | _=>.bad
set_option tactic.hygienic true in
def v0V {ρ:Rho}{i:Nat}{P:List D->Prop}{E:D->Prop} (h:(getL ρ i).all P E):∃ds,ρ[i]?=some (some (.own (.l ds)))/\P ds:=by
 unfold getL at h;split at h
 ·rename_i d e;exact⟨d,e,h⟩
 ·exact h.elim
def u8n (i:Nat) (he:DE X xq e fe) (hN:X.N[i]?=some x:=by rfl) (hv:Vis X.env.scope x:=by first|exact Or.inl rfl|exact Or.inr (Or.inl rfl)|exact Or.inr (Or.inr rfl)) (hd:(x==("__debug__":Str))=false:=by decide) (hcd:(x==("__classdict__":Str))=false:=by decide)
  (hs:notStar e=true:=by rfl) (hbase:attributeBase (.Name x p) "append" X.env (eval (.Name x p) X.env)=eval (.Name x p) X.env:=by rfl) (hline:(apos.endLine==cpos.line)=true:=by rfl)
  (hsw:swapsWith (.Call (.Attribute (.Name x p) "append" apos) [e] [] cpos) none pos.line X.env=pure false:=by rfl) :
  DS X xq (.Expr (.Call (.Attribute (.Name x p) "append" apos) [e] [] cpos) pos) (λρ=>(getL ρ i).go ρ λds=>(fe ρ).go ρ λd=>if ds.length<sizeLine then .nx (ρ.set i (some (.own (.l (ds++[d]))))) else .bad) :=
 DS.of (u2K (pbm PySem.F.plainAttrs_list PySem.F.slot_list_append PySem.F.type_list_append u6b (u0v hN hv hd hcd) (pac he.out u1o hs) (by rw[z1E,hs];rfl) rfl hbase hline) hsw) λB F ρ σ H T R q=>by
  obtain⟨ds,e1,q1⟩:=v0V (u0u q.out);obtain⟨l,h,h1,h2,h3,h4,h5⟩:=R.own i _ e1;cases h5 with
  | l hs =>
   refine⟨.ref l,h1,.inl ⟨rfl,_,.inl (.inl h4)⟩,B,F,ρ,R,Res.all_mono (u0u q1) (λd q2 v F' H' st pv=>?_) λ_ z=>errOf z⟩
   by_cases hz:ds.length<sizeLine
   ·rw [if_pos hz] at q2
    have R':=R.step st;refine⟨l,_,v,rfl,rfl,st.hh _ _ h4,by rw[hs.length];exact hz,q2 σ F' _ (R'.write (e:=e1) h1 (.l ((hs.same st.ff).append (.cons pv .nil))))⟩
   ·rw[if_neg hz] at q2;exact q2.elim
def spF (K:W.Frag) (f:FD):Sp:=λvs H Q _=>∃F ds,Same F H/\Rps K F vs ds/\(noE (f ds)).all (λd=>∀v F' H',Stp F H F' H'->Rp K F' v d->Q v H') (λ_=>False)
def d_fn {P:Program}{w:World}{K:W.Frag}{mg:MG}{base:Heap}{k k':Nat}{ps:List Str}{f:FD} (h:Callee P w K mg base k x ps (spF K f)) (hr:Room k' X.A) (ha:DA X xq (e::es) fs) (hk:k<=k':=by decide) (hg:Gl X x:=by rfl)
  (eP:X.prog=P:=by rfl) (ew:X.w=w:=by rfl) (eK:X.K=K:=by rfl) (em:X.mg=mg:=by rfl) (eb:X.base=base:=by rfl) (hdb:(x==("__debug__":Str))=false:=by decide):DE X xq (.Call (.Name x p) (e::es) [] pos) (λρ=>(fs ρ).bind λds=>noE (f ds)) :=
 DE.of (pe_fn h hr hk ha.out hg eP ew eK em eb hdb ha.ns) λB F ρ σ H Q R q=>seqA R q λds vs F1 H1 s1 R1 p1 q1=>by
  subst eK;refine⟨F1,ds,R1.fh,by rw[List.append_nil];exact p1,?_⟩
  cases e:f ds with
  | ok d=>rw[e] at q1;exact λv F' H' st pv=>q1 v F' H' (s1.trans st) pv
  | err x=>rw[e] at q1;exact q1.elim
  | bad=>rw[e] at q1;exact q1.elim
noncomputable def outR:Out->Res D
 | .nx _=>.ok .non
 | .rt d=>.ok d
 | .er x _=>.err x
 | _=>.bad
noncomputable def startD (n:Nat) (ds:List D):Rho:=ds.map (λd=>some (.val d))++List.replicate (n - ds.length) none
set_option tactic.hygienic true in
def Rps.begin {K:W.Frag}{F H:Hp}{N:List Str}{vs:List V}{ds:List D} (fh:Same F H) (r:Rps K F vs ds):Rel K (F,H) (startD N.length ds) (start N vs) F H where
 st:=Stp.refl fh
 len:=by unfold startD L2.start;simp[r.length]
 val i d e:=by
  unfold startD at e;unfold L2.start;rw[z2A] at e;split at e
  ·rename_i hi
   rw[w9] at e;cases q:ds[i]? with
   | none=>rw[q] at e;cases e
   | some d' =>
    rw[q] at e;cases e;obtain⟨v,hv,p⟩:=r.get q;exact⟨v,by rw[z2D (by have:=(w6.mp hv).1;simpa using this),w9,hv];rfl,p⟩
  ·rw [z0I] at e
   split at e<;>simp at e
 own i o e:=by
  unfold startD at e;rw[z2A] at e;split at e
  ·rw [w9] at e
   cases q:ds[i]? with
   | none=>rw[q] at e;cases e
   | some d'=>rw[q] at e;cases e
  ·rw [z0I] at e
   split at e<;>simp at e
 dis i j o u a e:=by
  exfalso;unfold startD at e
  rw[z2A] at e;split at e
  ·rw [w9] at e
   cases q:ds[i]? with
   | none=>rw[q] at e;cases e
   | some d'=>rw[q] at e;cases e
  ·rw [z0I] at e
   split at e<;>simp at e
end
section
variable {P:Program}{w:World}{K:W.Frag}{mg:MG}{base:Heap}
def Fun.okD {x qual:Str}{st:Stmt}{f:Addr}{fd:FuncData}{N ps:List Str}{k:Nat}{g:FD} (F:Fun K x qual st f fd) (S:FnScope N ps (defScope st)) (len:∀ds d,g ds=.ok d->ds.length=ps.length)
  (hbody:∀ (cdv:Value) (A:Around) (outer:List Env) (s:Shared) (H:Hp) (E:XK),Room k (A.deeper (envOfC qual (defScope st) s.heap.objs.size f cdv)) ->
   ∃t,DB (cxOf CX0 P w K mg base N qual (defScope st) f cdv A outer s H E).nox xqF (defBody st) t/\∀ds d,g ds=.ok d->outR (t (startD N.length ds))=.ok d):FnOk P w K mg base CX0 (k+1) f fd ps (spF K g) :=
 F.ok S (λvs H Q E ⟨G,ds,fh,r,q⟩=>by
  rw[r.length];cases e:g ds with
  | ok d=>exact len ds d e
  | err x=>rw[e] at q;exact q.elim
  | bad=>rw[e] at q;exact q.elim) λcdv A outer s H vs Q E hr ⟨G,ds,fh,r,q⟩=>by
  obtain⟨t,h1,h2⟩:=hbody cdv A outer s H E hr;refine⟨_,h1.out,(G,H),G,_,r.begin fh,⟨?_⟩⟩;cases e:g ds with
  | err x=>rw[e] at q;exact q.elim
  | bad=>rw[e] at q;exact q.elim
  | ok d =>
   rw[e] at q;have z:=h2 ds d e;generalize t (startD N.length ds)=o at z;cases o with
   | nx ρ=>cases z;exact λσ F' H' R=>q .non F' H' R.st .non
   | rt d'=>cases z;exact λv F' H' st pv=>q v F' H' st pv
   | bk ρ=>cases z
   | ct ρ=>cases z
   | er x ρ=>cases z
   | bad=>cases z
end
section
variable {M:Model}{A:Around}{E:VP}{s:Shared}
def v1h {base:Heap}{env:Env}{outer:List Env}{L e:Addr}{oe:Obj}{vs:Array Value}{head:Value}{nx:Bool}{Q:Unit->Shared->Prop} (c1:A.frames=some (env::outer)) (c2:s.heap.FunFrames base (env::outer)) (c3:env.frame=some L)
  (c4:s.heap.get? e=some oe) (c5:oe.data=.fields vs) (c6:1<vs.size) (c7:e∉frs (env::outer))
  (k:∀ h' oT ts,(∀ b o,b∉frs (env::outer)->b≠e->s.heap.get? b=some o->h'.get? b=some o)->(∀ b o,b≠e->s.heap.get? b=some o->∃ sl,h'.get? b=some { o with slots:=sl }) ->
   h'.get? e=some (oe.mapFields (·.setIfInBounds 1 (.ref s.heap.objs.size)))->h'.get? s.heap.objs.size=some oT->oT.data=.fields ts->ts[3]?=some (rawInt L)->Q () { s with heap:=h' }) :
  wpAny M A (do setField (.ref e) 1 (<- EntryCells.newEntry head (<- frameOf env) .none (rawInt L) .none (<- entryPlaceOf L nx))) Q E s:=by
 refine wpAny_bind (wpAny_frameOf_fun c1 c2 c3 λg hg=>?_)
 refine wpAny_bind (wpAny_entryPlaceOf λpl hp=>?_)
 unfold EntryCells.newEntry newFields;refine wpAny_bind (wpAny_newObj_type ?_ (hp.sizeOk5 _ _ _ _ _));obtain⟨g1,g2,g3⟩:=hg;have ge:g.get? e=some oe:=(g2 e c7).trans c4;have lt:e<g.objs.size:=z7 ge;generalize hnt:({ cls:=.type "traceback",dict:=none,data:=.fields ([head,.ref L,.none,rawInt L,.none]++(if pl.isEmpty then List.replicate 6 Value.none else pl)).toArray }:Obj)=nt
 have ge2:(g.push nt).get? e=some oe:=z5 nt ge;refine wpAny_setField ge2 c5 c6 ?_;have nf:nt.isFreed=false:=by subst hnt;rfl
 have at_T:(g.push nt).get? g.objs.size=some nt:=z6 g nf;have ne:e≠g.objs.size:=v5 lt;rw[g1];refine k _ nt ([head,.ref L,.none,rawInt L,.none]++(if pl.isEmpty then List.replicate 6 Value.none else pl)).toArray (λb o b1 b2 b3=>?_) (λb o b2 b4=>?_) ?_ ?_ (by subst hnt;rfl) (by first|(simp;done)|(rcases hp with rfl|⟨_,_,_,_,_,_,_,rfl⟩<;>simp))
 ·rw[u0 _ _ (Ne.symm b2)];exact z5 nt ((g2 b b1).trans b3)
 ·obtain ⟨sl,q⟩:=g3 b o b4
  exact⟨sl,by rw[u0 _ _ (Ne.symm b2)];exact z5 nt q⟩
 ·exact r9 _ ge2 (Obj.isFreed_of_fields (Obj.data_mapFields c5 _))
 ·rw[<- g1,u0 _ _ ne];exact at_T
end
def Tb (n:Nat) (h:Heap) (H:Hp) (e:Addr) (fl:Value):Prop:=n<=e/\∃oe vs,h.get? e=some oe/\oe.data=.fields vs/\1<vs.size /\
 ((vs[1]?=some .none/\fl=.none)\/∃T oT ts,vs[1]?=some (.ref T)/\T≠e/\n<=T/\H T=none/\h.get? T=some oT/\oT.data=.fields ts/\ts[3]?=some fl)
def Tr (n:Nat) (h:Heap) (H:Hp) (e:Addr) (fl:Value):Prop:=n<=e/\∃oe vs,h.get? e=some oe/\oe.data=.fields vs/\1<vs.size /\
 ∃T oT ts,vs[1]?=some (.ref T)/\T≠e/\n<=T/\H T=none/\h.get? T=some oT/\oT.data=.fields ts/\ts[3]?=some fl
def Tr.tb {n:Nat}{h:Heap}{H:Hp}{e:Addr}{fl:Value} (x:Tr n h H e fl):Tb n h H e fl:=by obtain⟨a,oe,vs,b,c,d,f⟩:=x;exact⟨a,oe,vs,b,c,d,.inr f⟩
def Tb.mono {m n:Nat}{h:Heap}{H:Hp}{e:Addr}{fl:Value} (x:Tb n h H e fl) (q:m<=n):Tb m h H e fl:=by
 obtain⟨a,oe,vs,b,c,d,f⟩:=x;refine⟨v7 q a,oe,vs,b,c,d,?_⟩;rcases f with f|⟨T,oT,ts,f1,f2,f3,f4⟩
 ·exact .inl f
 ·exact .inr ⟨T,oT,ts,f1,f2,v7 q f3,f4⟩
structure Old (X:Cx) (pins:LO) (n:Nat):Prop where
 s0:X.s₀.heap.objs.size<=n
 loc:X.env.locals<n
 cel:∀x c,X.env.cells.lookup x=some c->c<n
 pin:∀p∈X.pn++pins,p.1<n
def Inv.old {X:Cx}{pins:LO}{σ:St}{H:Hp}{s:Shared} (I:Inv X pins σ H s):Old X pins s.heap.objs.size :=
 ⟨I.sz,I.lt,λx c e=>by obtain⟨_,q⟩:=I.cell x c e;exact q.lt,λp hp=>z7 (I.pin p hp).1⟩
section
variable {X:Cx}{pins:LO}{σ:St}{H:Hp}{s:Shared}{n:Nat}{e C:Addr}{d:Option Addr}{h':Heap}
def Inv.flown {ch:List Addr}{t':Nat} (I:Inv X pins σ H s) (hst:X.stack=X.env::X.outer/\X.env.frame=some X.env.locals) (o:Old X pins n) (hch:∀b∈ch,n<=b) (hx:H e=some (XO C d e)) (hxe:ExAt h' e C d)
  (k1:∀b u,b∉frs X.stack->b≠e->b∉ch->s.heap.get? b=some u->h'.get? b=some u) (k2:∀b u,b≠e->b∉ch->s.heap.get? b=some u->∃sl,h'.get? b=some { u with slots:=sl })
  (k3:∀b∈ch,H b=none) (k4:∃u,h'.get? e=some u):Inv X pins σ H { s with heap:=h',toks:=t' }:=by
 have hfr:frs X.stack=X.env.locals::X.fs:=by
  rw[hst.1];unfold frs;rw[List.filterMap_cons,hst.2];rfl
 have ne:∀b,H b=none->b≠e:=λb hb z=>by subst z;rw[hx] at hb;cases hb
 refine I.step (ch:=ch) (h':=h') (H':=H) (g':=s.gens) (d':=s.drawn) (t':=t') (λb hb=>⟨.inr (v7 o.s0 (hch b hb)),λz=>?_,λx c q z=>?_,λp hp z=>?_⟩)
  (λb u b1 b2 b3 b4 b5=>k1 b u (by rw[hfr];simp[b1,b2]) (ne b b5) b3 b4) (λb u b1 b2 b3 b4 b5=>k2 b u (ne b b5) b3 b4) (λ_ _ _ _ z=>z) (λb u b3 b4=>?_) (λ_ _ z=>z) (λ_ _ _ z=>z) (λb ps z=>⟨#[],by simpa using z⟩) (λm hm=>?_) ?_ I.bare
 ·have w1:=o.loc;have w2:=hch b hb;subst z;exact absurd (w5 w1 w2) (z0B _)
 ·have w1:=o.cel x c q;have w2:=hch b hb;subst z;exact absurd (w5 w1 w2) (z0B _)
 ·have w1:=o.pin p hp;have w2:=hch b hb;rw[z] at w1;exact absurd (w5 w1 w2) (z0B _)
 ·by_cases z:b=e
  ·subst z;exact k4
  ·obtain⟨sl,q⟩:=k2 b u z b3 b4;exact⟨_,q⟩
 ·obtain ⟨u,es,ep,hu,hd,rr⟩:=hm
  have l1:X.env.locals≠e:=ne _ I.free;have l2:X.env.locals∉ch:=λz=>absurd (w5 o.loc (hch _ z)) (z0B _)
  obtain⟨sl,q⟩:=k2 _ u l1 l2 hu;exact⟨_,es,ep,q,hd,rr⟩
 ·intro a u q
  by_cases z:a=e
  ·subst z
   rw[hx] at q;cases q;exact xo_ok hxe
  ·refine ObjOk.stay (I.hok a u q) (fun b v hb hv=>k1 b v (fun y=>?_) (fun y=>?_) (fun y=>?_) hv) (fun _ y=>y) (fun _ _ y=>y)
   ·rcases hb with rfl | hb
    ·rw[I.stkFree _ y] at q;cases q
    ·rw[I.stkFree _ y] at hb;cases hb
   ·rcases hb with rfl | hb
    ·exact z y
    ·subst y;rw[hx] at hb;unfold XO at hb;cases hb
   ·rcases hb with rfl | hb
    ·rw[k3 _ y] at q;cases q
    ·rw[k3 _ y] at hb;cases hb
end
def v3j {h h':Heap}{e C:Addr}{d:Option Addr}{oe:Obj}{v:Value} (x:ExAt h e C d) (q:h.get? e=some oe) (q':h'.get? e=some (oe.mapFields (·.setIfInBounds 1 v))):ExAt h' e C d:=by
 obtain⟨t,f1,f2,f3,f4,f5,sl,z⟩:=x;rw[q] at z;cases z;exact⟨t,v,f2,f3,f4,f5,sl,q'⟩
def v1e {h h':Heap}{e C:Addr}{d:Option Addr}{oe:Obj} (x:ExAt h e C d) (q:h.get? e=some oe) (q':h'.get? e=some oe):ExAt h' e C d:=by
 obtain⟨t,f1,f2,f3,f4,f5,sl,z⟩:=x;rw[q] at z;cases z;exact⟨t,f1,f2,f3,f4,f5,sl,q'⟩
def u4N {o:Obj}{vs:Array Value}{i:Nat}{v:Value} (h:o.data=.fields vs) (hi:i<vs.size):∃ws:Array Value,(o.mapFields (·.setIfInBounds i v)).data=.fields ws/\ws.size=vs.size/\ws[i]?=some v/\∀j,j≠i->ws[j]?=vs[j]?:=by
 refine⟨vs.setIfInBounds i v,Obj.data_mapFields h _,by simp,by simp[hi],λj hj=>?_⟩
 rw[Array.getElem?_setIfInBounds_ne (Ne.symm hj)]
section
variable {X:Cx}{pins:LO}{σ:St}{H:Hp}{s:Shared}{n:Nat}{e C:Addr}{d:Option Addr}{E:VP}{M:Model}
def rawne (L:Addr):((Value.none==rawInt L)=true)=False:=by simp[rawInt]
def u4M {fl w:Value}{T:Addr}{Q:Unit->Shared->Prop}{oe oT:Obj}{vs ts:Array Value} (I:Inv X pins σ H s) (hst:X.stack=X.env::X.outer/\X.env.frame=some X.env.locals) (o:Old X pins n) (hx:H e=some (XO C d e))
  (a0:n<=e) (a1:s.heap.get? e=some oe) (a2:oe.data=.fields vs) (a3:1<vs.size) (a4:vs[1]?=some (.ref T)) (a5:T≠e) (a6:n<=T) (a7:H T=none) (a8:s.heap.get? T=some oT) (a9:oT.data=.fields ts) (a10:ts[3]?=some fl)
  (k:∀s',Inv X pins σ H s'->Tr n s'.heap H e w->s'.heap.get? e=some oe->Q () s'):wpAny M X.A (setField (.ref T) 3 w) Q E s:=by
 have hz:3<ts.size:=(Array.getElem?_eq_some_iff.mp a10).1;refine wpAny_setField a8 a9 hz ?_;obtain⟨ws,w1,w2,w3,w4⟩:=u4N (v:=w) a9 hz;have kT:=r9 (Obj.mapFields (·.setIfInBounds 3 w)) a8 (Obj.isFreed_of_fields w1)
 have ko:∀b u,b≠T->s.heap.get? b=some u->(s.heap.update T (Obj.mapFields (·.setIfInBounds 3 w))).get? b=some u:=λb u hb q=>by
  rw[u0 _ _ (Ne.symm hb)];exact q
 have ke:=ko e oe (Ne.symm a5) a1;refine k _ (I.flown (ch:=[T]) (t':=s.toks) hst o (λb hb=>by rw[v9.mp hb];exact a6) hx (v1e (v1I I.hok hx) a1 ke) (λb u _ _ hb q=>ko b u (λz=>hb (by simp[z])) q)
  (λb u _ hb q=>⟨u.slots,ko b u (λz=>hb (by simp[z])) q⟩) (λb hb=>by rw[v9.mp hb];exact a7) ⟨_,ke⟩) ⟨a0,oe,vs,ke,a2,a3,T,_,ws,a4,a5,a6,a7,kT,w1,w3⟩ ke
def u7Q {head:Value}{nx:Bool}{Q:Unit->Shared->Prop}{oe:Obj}{vs:Array Value} (I:Inv X pins σ H s) (hst:X.stack=X.env::X.outer/\X.env.frame=some X.env.locals) (o:Old X pins n) (hx:H e=some (XO C d e))
  (a0:n<=e) (a1:s.heap.get? e=some oe) (a2:oe.data=.fields vs) (a3:1<vs.size) (k:∀s',Inv X pins σ H s'->Tr n s'.heap H e (rawInt X.env.locals)->Q () s') :
  wpAny M X.A (do setField (.ref e) 1 (<- EntryCells.newEntry head (<- frameOf X.env) .none (rawInt X.env.locals) .none (<- entryPlaceOf X.env.locals nx))) Q E s:=by
 have fr:X.A.frames=some (X.env::X.outer):=by rw[I.ok.frames,hst.1]
 have ff:s.heap.FunFrames X.base (X.env::X.outer):=hst.1 ▸ I.stack;have nm:e∉frs (X.env::X.outer):=λz=>by
  have:=I.stkFree e (by rw[hst.1];exact z)
  rw[hx] at this;cases this
 refine v1h fr ff hst.2 a1 a2 a3 nm λh' oT ts k1 k2 k3 k4 k5 k6=>?_
 have lt:e<s.heap.objs.size:=z7 a1;have fz:=I.hok.fresh (y0 s.heap.objs.size);obtain⟨ws,w1,w2,w3,w4⟩:=u4N (v:=.ref s.heap.objs.size) a2 a3;refine k _ (I.flown (ch:=[]) (t':=s.toks) hst o (λb hb=>by cases hb) hx (v3j (v1I I.hok hx) a1 k3) (λb u hb he _ q=>k1 b u (by rw[<- hst.1];exact hb) he q) (λb u he _ q=>k2 b u he q) (λb hb=>by cases hb) ⟨_,k3⟩)
  ⟨a0,_,ws,k3,w1,by omega,s.heap.objs.size,oT,ts,w3,Nat.ne_of_gt lt,v7 a0 (Nat.le_of_lt lt),fz,k4,k5,k6⟩
def u7l {fl:Value}{Q:Unit->Shared->Prop} (I:Inv X pins σ H s) (hst:X.stack=X.env::X.outer/\X.env.frame=some X.env.locals) (o:Old X pins n) (hx:H e=some (XO C d e)) (tb:Tb n s.heap H e fl) (hfl:fl=.none\/fl=rawInt X.env.locals)
  (k:∀s',Inv X pins σ H s'->Tr n s'.heap H e (rawInt X.env.locals)->Q () s'):wpAny M X.A (noteFrame (.ref e) X.env) Q E s:=by
 obtain⟨a0,oe,vs,a1,a2,a3,tb⟩:=tb;unfold noteFrame;simp only[hst.2];rcases tb with⟨t1,t2⟩|⟨T,oT,ts,a4,a5,a6,a7,a8,a9,a10⟩
 ·refine wpAny_bind (wpAny_field a1 a2 t1 ?_)
  rw[if_neg (by decide)]
  exact u7Q I hst o hx a0 a1 a2 a3 k
 ·refine wpAny_bind (wpAny_field a1 a2 a4 ?_)
  rw[if_pos (show(Value.ref T != Value.none)=true by simp)]
  refine wpAny_bind (wpAny_field a8 a9 a10 ?_);rcases hfl with rfl|rfl
  ·rw [if_neg (by rw [rawne];exact id)]
   refine wpAny_bind (u4M I hst o hx a0 a1 a2 a3 a4 a5 a6 a7 a8 a9 a10 λs' I' _ ke=>?_)
   exact u7Q I' hst o hx a0 ke a2 a3 k
  ·rw [if_pos (by simp)]
   exact wpAny_pure (k s I ⟨a0,oe,vs,a1,a2,a3,T,oT,ts,a4,a5,a6,a7,a8,a9,a10⟩)
def u1N {fl:Value}{f:Option Addr}{Q:Unit->Shared->Prop} (I:Inv X pins σ H s) (hst:X.stack=X.env::X.outer/\X.env.frame=some X.env.locals) (o:Old X pins n) (hx:H e=some (XO C d e)) (tr:Tr n s.heap H e fl)
  (k:∀s',Inv X pins σ H s'->Tr n s'.heap H e (f.elim .none λf=>rawInt f)->Q () s'):wpAny M X.A (setFlight (.ref e) f) Q E s:=by
 obtain⟨a0,oe,vs,a1,a2,a3,T,oT,ts,a4,a5,a6,a7,a8,a9,a10⟩:=tr;unfold setFlight;refine wpAny_bind (wpAny_field a1 a2 a4 ?_);rw[if_pos (show(Value.ref T != Value.none)=true by simp)]
 exact u4M I hst o hx a0 a1 a2 a3 a4 a5 a6 a7 a8 a9 a10 λs' I' t _=>k s' I' t
def v2R {fl:Value}{Q:Unit->Shared->Prop} (I:Inv X pins σ H s) (hst:X.stack=X.env::X.outer/\X.env.frame=some X.env.locals) (o:Old X pins n) (hx:H e=some (XO C d e)) (tb:Tb n s.heap H e fl) (hfl:fl=.none\/fl=rawInt X.env.locals)
  (k:∀s',Inv X pins σ H s'->Tr n s'.heap H e .none->Q () s'):wpAny M X.A (leaving X.env (.ref e)) Q E s:=by
 unfold leaving;exact wpAny_bind (u7l I hst o hx tb hfl λs' I' tr=>u1N (f:=none) I' hst o hx tr k)
end
noncomputable def CXe (P:Program) (w:World):CXT:=λouter H s E u s'=>∃(e C:Addr) (d:Option Addr) (H':Hp),u=.ref e/\s'.os=s.os/\AllBare s'.gens/\Un (frs outer) [] H H' s.heap s'.heap/\HOk P w H' s'.heap/\H' e=some (XO C d e) /\
 Tb s.heap.objs.size s'.heap H' e .none/\E (.ref e) none H'
def Fly (X:Cx) (xq:XQ) (u:Value) (s':Shared):Prop:=∃(n:Nat) (e C:Addr) (d:Option Addr) (σ:St) (H:Hp) (fl:Value),Old X [] n/\u=.ref e/\Inv X [] σ H s'/\H e=some (XO C d e)/\Tb n s'.heap H e fl/\(fl=.none\/fl=rawInt X.env.locals)/\xq (.ref e) σ H
structure XqOk (X:Cx) (xq:XQ):Prop where
 st:X.stack=X.env::X.outer/\X.env.frame=some X.env.locals
 xe:∀u s',Fly X xq u s'->X.xe u s'
 ps:PassesOwn (model X.prog X.w) X.A X.env X.xe
section
variable {X:Cx}{xq:XQ}{M:Model}
def u9s (hst:X.stack=X.env::X.outer/\X.env.frame=some X.env.locals):PassesOwn M X.A X.env (Fly X xq):=by
 rintro u s' ⟨n,e,C,d,σ,H,fl,o,rfl,I,hx,tb,hfl,q⟩;refine u7l I hst o hx tb hfl λs2 I2 tr=>?_
 have tr':=tr;obtain⟨a0,oe,vs,a1,a2,a3,T,oT,ts,a4,a5,a6,a7,a8,a9,a10⟩:=tr';unfold cameBackBy;refine wpAny_bind (wpAny_field a1 a2 a4 ?_);rw[if_neg (show ¬ ((Value.ref T==Value.none)=true) by simp),hst.2]
 exact u1N (f:=some X.env.locals) I2 hst o hx tr λs3 I3 tr3=>⟨n,e,C,d,σ,H,_,o,rfl,I3,hx,tr3.tb,.inr rfl,q⟩
def Old.unwish {E:VP}{pins:LO}{n:Nat} (o:Old (X.wish E) pins n):Old X pins n:=⟨o.s0,o.loc,o.cel,o.pin⟩
theorem Fly.unwish {E:VP}{u:Value}{s':Shared} (h:Fly (X.wish E) xq u s'):Fly X xq u s':=by
 obtain⟨n,e,C,d,σ,H,fl,o,rfl,I,hx,tb,hfl,q⟩:=h;exact⟨n,e,C,d,σ,H,fl,o.unwish,rfl,I.unwish,hx,tb,hfl,q⟩
def u5A (hst:X.stack=X.env::X.outer/\X.env.frame=some X.env.locals):XqOk (X.wish (Fly X xq)) xq:=⟨hst,λ_ _ h=>h.unwish,u9s (X:=X) hst⟩
def Inv.bare0 {pins:LO}{σ:St}{H:Hp}{s:Shared} (I:Inv X pins σ H s):Inv X [] σ H s:=I.pins_of λp hp=>absurd hp (by simp)
def Old.bare0 {pins:LO}{n:Nat} (o:Old X pins n):Old X [] n:=⟨o.s0,o.loc,o.cel,λp hp=>o.pin p (by simp at hp;exact z0D _ hp)⟩
def v3h {pins:LO}{σ:St}{H:Hp}{s s':Shared}{u:Value} (I:Inv X pins σ H s) (h:CXe X.prog X.w X.stack H s (λu _ H'=>∃a,u=.ref a/\xq (.ref a) σ H') u s'):Fly X xq u s':=by
 obtain⟨e,C,d,H',rfl,os,bare,un,hok,hx,tb,a,ha,q⟩:=h;cases ha;have I':Inv X pins σ H' s':=I.call' (ch:=[]) os un hok bare λb z=>absurd z (by simp)
 exact⟨_,e,C,d,σ,H',.none,I.old.bare0,rfl,I'.bare0,hx,tb,.inl rfl,q⟩
end
def spX (K:W.Frag) (f:FD):Sp:=λvs H Q E=>∃F ds,Same F H/\Rps K F vs ds/\(f ds).all (λd=>∀v F' H',Stp F H F' H'->Rp K F' v d->Q v H') (λx=>∀a F' H',Stp F H F' H'->Rp K F' (.ref a) x->E (.ref a) none H')
def CalleeX (P:Program) (w:World) (K:W.Frag) (mg:MG) (base:Heap) (k:Nat) (x:Str) (ps:List Str) (f:FD):Prop :=
 ∃a fd,FnOk P w K mg base (CXe P w) k a fd ps (spX K f)/\Binds K fd ps []/\W.keepIn K (.ref a)=true/\mg x=some (.ref a)
section
variable {X:Cx}{xq:XQ}{e:Expr}{es:List Expr}{fs:Rho->Res (List D)}{x:Str}{p pos:Pos}
def run_fnX {k:Nat}{f:Addr}{fd:FuncData}{ps:List Str}{sp:Sp}{ds:List Value}{dvs:List V}{pins:LO}{σ:St}{H:Hp}{s:Shared}{Q:VK}{us:List Value}{vs:List V} (hq:XqOk X xq) (F:FnOk X.prog X.w X.K X.mg X.base (CXe X.prog X.w) k f fd ps sp) (hr:Room k X.A)
  (hb:Binds X.K fd ps ds) (hd:Vals dvs ds) (I:Inv X pins σ H s) (r:Vals vs us) (h:sp (vs++dvs) H Q (λu _ H'=>∃a,u=.ref a/\xq (.ref a) σ H')):wpAny (model X.prog X.w) X.A (call (.ref f) us) (EP X pins σ Q) X.xe s:=by
 have r2:Vals (vs++dvs) (us++ds):=r.append hd;have hl:(us++ds).length=ps.length:=by rw[<- r2.length];exact F.len _ _ _ _ h
 refine wpAny_call (codeAny_mono (F.run X.A X.stack s H ⟨us,[]⟩ (us++ds) (vs++dvs) Q _ hr I.env0 (hb s us I.kIn hl) r2 h) λr s' hc=>?_)
 cases r with
 | error e=>exact hq.xe _ _ (v3h I hc)
 | ok fl =>
  cases fl with
  | ret u=>exact I.after hc
  | next=>exact False.elim hc
  | brk=>exact False.elim hc
  | cont=>exact False.elim hc
def errR {K:W.Frag}{B:Hp×Hp}{ρ:Rho}{σ:St}{F H F' H':Hp}{d:D}{v:V} (R:Rel K B ρ σ F H) (s:Stp F H F' H') (p:Rp K F' v d) (q:ErrK K xq B ρ σ d):xq v σ H':=by
 obtain⟨F1,e1,R1⟩:=(R.step s).frz;exact q v F1 H' R1 (p.same e1)
def spX_of {K:W.Frag}{B:Hp×Hp}{ρ:Rho}{σ:St}{F H F0 H0:Hp}{f:FD}{ds:List D}{vs:List V}{Q:VK} (R:Rel K B ρ σ F H) (pv:Rps K F vs ds) (s0:Stp F0 H0 F H) (q:(f ds).all (λd=>∀v F' H',Stp F0 H0 F' H'->Rp K F' v d->Q v H') (ErrK K xq B ρ σ)) :
  spX K f vs H Q (λu _ H'=>∃a,u=.ref a/\xq (.ref a) σ H') :=
 ⟨F,ds,R.fh,pv,Res.all_mono q (λd k v F' H' st p=>k v F' H' (s0.trans st) p) λx k a F' H' st p=>⟨a,rfl,errR R st p k⟩⟩
def u6t {P:Program}{w:World}{K:W.Frag}{mg:MG}{base:Heap}{k k':Nat}{ps:List Str}{f:FD} (hq:XqOk X xq) (h:CalleeX P w K mg base k x ps f) (hr:Room k' X.A) (ha:DA X xq (e::es) fs) (hk:k<=k':=by decide) (hg:Gl X x:=by rfl)
  (eP:X.prog=P:=by rfl) (ew:X.w=w:=by rfl) (eK:X.K=K:=by rfl) (em:X.mg=mg:=by rfl) (eb:X.base=base:=by rfl) (hdb:(x==("__debug__":Str))=false:=by decide):DE X xq (.Call (.Name x p) (e::es) [] pos) (λρ=>(fs ρ).bind f) :=
 ⟨λpins s σ H Q I z9=>un5 z9 λB F ρ R q=>by
  subst eP ew eK em eb;obtain⟨a,fd,G,hb,hkp,hm⟩:=h;refine wpAny_Call_Name_kw (u2P I hg hm ?_ hdb);refine W.callWith_K (h₀:=X.base) I.ok.mod.kin hkp (thn (ha.out pos pins s σ H _ I (seqA R q λds vs F1 H1 s1 R1 p1 q1=>show spX X.K f (vs++[]) H1 Q (λu _ H'=>∃a,u=.ref a/\xq (.ref a) σ H') from by rw[List.append_nil];exact spX_of R1 p1 s1 q1)) λus s1 ⟨vs,H1,I1,r,q⟩=>⟨I1.kIn,?_⟩) (u0k (u0j ha.ns).1) (u0O (u0j ha.ns).2)
  exact run_fnX hq G (hr.mono hk) hb .nil I1 r q⟩
end
section
variable {P:Program}{w:World}{K:W.Frag}{mg:MG}{base:Heap}
abbrev xq0 (E:XK):XQ:=λv _ H'=>∀a,v=.ref a->E (.ref a) none H'
noncomputable abbrev cxR (P:Program) (w:World) (K:W.Frag) (mg:MG) (base:Heap) (N:List Str) (qual:Str) (scope:Scope) (f:Addr) (cdv:Value) (A:Around) (outer:List Env) (s:Shared) (H:Hp) (E:XK):Cx :=
 (cxOf (CXe P w) P w K mg base N qual scope f cdv A outer s H E).wish (Fly (cxOf (CXe P w) P w K mg base N qual scope f cdv A outer s H E) (xq0 E))
def PSs.wishTo {X:Cx}{E:VP}{sts:List Stmt}{t:TS} (h:PSs (X.wish E) sts t) (k:∀u s',E u s'->X.xe u s'):PSs X sts t:=λpins s σ H T I hw =>
 wpAny_mono (h pins s σ H T (I.wish _) hw) (λ_ _ q=>q.unwish) k
def Fun.okX {x qual:Str}{st:Stmt}{f:Addr}{fd:FuncData}{N ps:List Str}{k:Nat}{g:FD} (F:Fun K x qual st f fd) (S:FnScope N ps (defScope st)) (len:∀ds,g ds≠.bad->ds.length=ps.length)
  (hbody:∀ (cdv:Value) (A:Around) (outer:List Env) (s:Shared) (H:Hp) (E:XK),Room k (A.deeper (envOfC qual (defScope st) s.heap.objs.size f cdv))->XqOk (cxR P w K mg base N qual (defScope st) f cdv A outer s H E) (xq0 E) ->
   ∃t,DB (cxR P w K mg base N qual (defScope st) f cdv A outer s H E) (xq0 E) (defBody st) t/\∀ds,g ds≠.bad->outR (t (startD N.length ds))=g ds):FnOk P w K mg base (CXe P w) (k+1) f fd ps (spX K g):=by
 obtain⟨oc,od,kV,doc,pm,an,cdv,ct,osl,rfl,lk,hcd⟩:=F.ex;have nb:∀vs H Q E,spX K g vs H Q E->∃G ds,Same G H/\Rps K G vs ds/\g ds≠.bad/\(g ds).all (λd=>∀v F' H',Stp G H F' H'->Rp K F' v d->Q v H') (λx=>∀a F' H',Stp G H F' H'->Rp K F' (.ref a) x->E (.ref a) none H'):=λvs H Q E ⟨G,ds,fh,r,q⟩ =>
  ⟨G,ds,fh,r,λz=>by rw[z] at q;exact q,q⟩
 refine fn_of lk hcd S (λvs H Q E h=>?_) λA outer s H vs Q E hr hsp=>?_
 ·obtain ⟨G,ds,fh,r,z,q⟩:=nb vs H Q E h
  rw[r.length];exact len ds z
 ·obtain ⟨G,ds,fh,r,z,q⟩:=nb vs H Q E hsp
  have hst:(cxOf (CXe P w) P w K mg base N qual (defScope st) f cdv A outer s H E).stack=(cxOf (CXe P w) P w K mg base N qual (defScope st) f cdv A outer s H E).env::(cxOf (CXe P w) P w K mg base N qual (defScope st) f cdv A outer s H E).outer/\(cxOf (CXe P w) P w K mg base N qual (defScope st) f cdv A outer s H E).env.frame=some (cxOf (CXe P w) P w K mg base N qual (defScope st) f cdv A outer s H E).env.locals:=⟨rfl,rfl⟩;obtain⟨t,h1,h2⟩:=hbody cdv A outer s H E hr (u5A hst);refine⟨_,PSs.wishTo h1.out ?_,(G,H),G,_,r.begin fh,⟨?_⟩⟩
  ·rintro u s' ⟨n,e,C,d,σ,H',fl,o,rfl,I,hx,tb,hfl,q⟩
   refine v2R I hst o hx tb hfl λs2 I2 tr=>?_
   exact⟨e,C,d,H',rfl,I2.os,I2.bare,I2.base,I2.hok,hx,tr.tb.mono o.s0,q e rfl⟩
  ·have y:=h2 ds z
   rw[<- y] at q;generalize t (startD N.length ds)=o at q;cases o with
   | nx ρ=>exact λσ F' H' R=>q .non F' H' R.st .non
   | rt d'=>exact λv F' H' st pv=>q v F' H' st pv
   | bk ρ=>exact q.elim
   | ct ρ=>exact q.elim
   | er x ρ=>exact λv σ F' H' R pv a ea=>by subst ea;exact q a F' H' R.st pv
   | bad=>exact q.elim
end
def ExFr (h:Heap) (e C:Addr) (dx:Option Addr):Prop:=∃t sl,h.get? e=some { cls:=.ref C,dict:=dx,data:=.fields #[.ref t,.none,.none,.none,.bool false,.none],slots:=sl }
def ExFr.at {h:Heap}{e C:Addr}{dx:Option Addr} (x:ExFr h e C dx):ExAt h e C dx:=by obtain⟨t,sl,q⟩:=x;exact⟨t,_,_,_,_,_,sl,q⟩
noncomputable def XF (C:Addr) (dx:Option Addr) (e:Addr) (n:Nat):HO:=.ext λh=>ExFr h e C dx/\n<=e
section
variable {P:Program}{w:World}{H:Hp}{h:Heap}{e C dx:Addr}{d:Option Addr}{n:Nat}
def xf_ok (x:ExFr h e C d) (hn:n<=e):ObjOk P w H h e (XF C d e n) :=
 ⟨⟨x,hn⟩,by obtain⟨_,_,q⟩:=x;exact⟨_,q⟩,λh1 h2 z9102 k=>by obtain⟨⟨t,sl,q⟩,z⟩:=z9102;exact⟨⟨t,sl,k _ q⟩,z⟩⟩
def xf_at (x:HOk P w H h) (q:H e=some (XF C d e n)):ExFr h e C d/\n<=e:=(show ObjOk P w H h e (XF C d e n) from x e _ q).1
def HOk.xo (x:HOk P w H h) (q:H e=some (XF C d e n)):HOk P w (upd H e (XO C d e)) h:=λb u z=>by
 by_cases y:b=e
 ·subst y
  rw[u0d] at z;cases z;exact xo_ok (xf_at x q).1.at
 ·rw [u0f y] at z
  exact ObjOk.stay (x b u z) (λ_ _ _ v=>v) (λc v=>by
   rw[u0f (λt=>by subst t;rw[q] at v;unfold XF at v;cases v)];exact v) (λc xs v=>by
   rw[u0f (λt=>by subst t;rw[q] at v;unfold XF at v;cases v)];exact v)
end
section
variable {X:Cx}{pins:LO}{σ:St}{H:Hp}{s:Shared}{a C dx fI:Addr}{fs:List (Str×V)}{f:Str}{v:V}{A:Around}{E:VP}{n:Nat}{d:Option Addr}
theorem Inv.xo (I:Inv X pins σ H s) (q:H a=some (XF C d a n)):Inv X pins σ (upd H a (XO C d a)) s:=by
 have hok:=I.hok.xo q;have nn:∀b,H b=none->upd H a (XO C d a) b=none:=λb z=>by
  rw[u0f (λt=>by subst t;rw[q] at z;cases z)];exact z
 have st:∀b u,H b=some u->(∀φ,u≠.ext φ)->upd H a (XO C d a) b=some u:=λb u z y=>by
  rw[u0f (λt=>by subst t;rw[q] at z;cases z;exact y _ rfl)];exact z
 exact I.un (h':=s.heap) (t':=s.toks) ⟨λ_ _ x _ _ _=>x,λ_ o x _ _ _=>⟨o.slots,x⟩,λb _ _ z _=>nn b z,λ_ o x _=>⟨o,x⟩,λb xs z=>st b _ z (λ_ y=>nomatch y),λb o u z=>st b _ z (λ_ y=>nomatch y),λb ps z=>⟨#[],by rw[Array.append_empty];exact st b _ z (λ_ y=>nomatch y)⟩⟩ hok
def v1d {prog:Program}{w:World}{K:W.Frag}{e:Addr}{name:Str}{v:Value}{Q:Unit->Shared->Prop} (X:K.In s.heap) (c:XCls K C fI) (he:ExFr s.heap e C none) (hn:W.findIn K (.ref C) name=some none)
  (h:∀h1 h',ExFr h1 e C (some s.heap.objs.size)->(∀b o,b≠e->(s.heap.push W.emptyDict).get? b=some o->h1.get? b=some o)->h'.Ns1 s.heap.objs.size (λy=>if y=name then some v else none)->Heap.SameBut s.heap.objs.size h1 h'->Q () { s with heap:=h',toks:=s.toks+2 }) :
  wpAny (model prog w) A (setAttr (.ref e) name v) Q E s:=by
 obtain⟨t,sl,he⟩:=he;have I:W.InstAt s.heap e _ C none:=⟨he,rfl,rfl,True.intro⟩;refine W.set_plain X I c.sa (exc_osa (s:={ s with toks:=s.toks+1 }) X c I hn λb=>?_)
 obtain⟨cd,hc,_,hd⟩:=c.ov;have hlt:e<s.heap.objs.size:=z7 he;refine wpAny_bind (wpAny_pure (wpAny_bind (wpAny_bind (wpAny_loadPart he (wpAny_bind (W.Looks.here (s:={ s with toks:=s.toks+1 }) (W.looks_clsIn X hc) ?_))))))
 rw[hd];refine wpAny_bind (wpAny_alloc (wpAny_bind (wpAny_update (s:={ s with heap:=s.heap.push W.emptyDict,toks:=s.toks+1 }) (z5 _ he) ?_)))
 have hne:e≠s.heap.objs.size:=v5 hlt;have hd0:((s.heap.push W.emptyDict).update e λo=>{ o with dict:=some s.heap.objs.size }).get? s.heap.objs.size=some W.emptyDict:=by
  rw[u0 _ _ hne];exact z6 _ rfl
 have he1:((s.heap.push W.emptyDict).update e λo=>{ o with dict:=some s.heap.objs.size }).get? e=some { cls:=.ref C,dict:=some s.heap.objs.size,data:=.fields #[.ref t,.none,.none,.none,.bool false,.none],slots:=sl } :=
  r9 _ (z5 _ he) rfl
 have hk1:∀b o,b≠e->(s.heap.push W.emptyDict).get? b=some o->((s.heap.push W.emptyDict).update e λo=>{ o with dict:=some s.heap.objs.size }).get? b=some o:=λb o hb q=>by
  rw[u0 _ _ (Ne.symm hb)];exact q
 have hns:((s.heap.push W.emptyDict).update e λo=>{ o with dict:=some s.heap.objs.size }).Ns1 s.heap.objs.size (λ_=>none) :=
  Heap.Ns1.of_empty ⟨_,#[],_,hd0,rfl,λx hx=>absurd hx (by simp),λ_=>rfl⟩
 generalize (s.heap.push W.emptyDict).update e (λo=>{ o with dict:=some s.heap.objs.size })=h1 at hd0 he1 hk1 hns |-
 refine wpAny_pure (a:=some s.heap.objs.size) (wpAny_bind (wpAny_pure (wpAny_bind ?_)));refine wpAny_nsSet1 (s:={ s with heap:=h1,toks:=s.toks+1 }) hns λh' hn2 hs2=>?_
 obtain⟨oD,esD,epD,hoD,hdD,hcD⟩:=hn2.count (PySem.Within.cons name v (ns:=[]) (λy u=>absurd rfl u))
 refine wpAny_bind (wpAny_lookBehind hoD (by rw[hdD];exact pastItsLine_dict (v7 hcD (by rw[List.length_singleton,sizeLine_eq];decide))) ?_)
 exact wpAny_pure (h h1 _ ⟨t,sl,he1⟩ hk1 hn2 hs2)
def u9z {y:V}{u:Value}{Q:Unit->Shared->Prop} (I:Inv X pins σ H s) (e:H a=some (XF C none a n)) (c:XCls X.K C fI) (na:NoAttr X.K C f) (ry:RelV y u)
  (h:∀dx s',H dx=none->dx≠a->Inv X pins σ (upd (upd H dx (DXO dx [(f,y)])) a (XF C (some dx) a n)) s'->Q () s'):wpAny (model X.prog X.w) A (setAttr (.ref a) f u) Q E s:=by
 obtain⟨hx,hn⟩:=xf_at I.hok e;have hfr:H s.heap.objs.size=none:=I.hok.fresh (y0 _);have hne:s.heap.objs.size≠a:=(u0m e hfr).symm;refine v1d I.kIn c hx na λh1 h' x1 k1 n2 sb=>h s.heap.objs.size _ hfr hne ?_
 have e0:(s.heap.push W.emptyDict).get? s.heap.objs.size=some W.emptyDict:=z6 s.heap rfl;have n0:(s.heap.push W.emptyDict).Ns1 s.heap.objs.size (λ_=>none):=Heap.Ns1.of_empty ⟨_,#[],_,e0,rfl,λx hx=>absurd hx (by simp),λ_=>rfl⟩
 have I1:=I.laid (a:=s.heap.objs.size) (o:=DXO s.heap.objs.size []) (h':=s.heap.push W.emptyDict) (t':=s.toks) (λb u q=>z5 _ q) (y0 _) (v3L n0 (λ_=>True.intro) (λy hy=>absurd rfl hy))
 have ea:upd H s.heap.objs.size (DXO s.heap.objs.size []) a=some (XF C none a n):=by rw[u0f hne.symm];exact e
 have I2:=I1.write (x:=a) (e:=a) (o:=XF C (some s.heap.objs.size) a n) (h':=h1) (t':=s.toks) (by rw[ea];exact True.intro) (.inl rfl) (λb q hb z=>k1 b q hb z) (by obtain⟨_,_,q⟩:=x1;exact⟨_,q⟩) (xf_ok x1 hn)
 have ed:upd (upd H s.heap.objs.size (DXO s.heap.objs.size [])) a (XF C (some s.heap.objs.size) a n) s.heap.objs.size=some (DXO s.heap.objs.size []):=by rw[u0f hne,u0d]
 have I3:=I2.write (x:=s.heap.objs.size) (e:=s.heap.objs.size) (o:=DXO s.heap.objs.size [(f,y)]) (h':=h') (t':=s.toks+2) (by rw[ed];exact True.intro) (.inl rfl) (λb q hb z=>(sb.2 b hb).trans z) (by obtain⟨o,_,_,q,_⟩:=n2;exact⟨o,q⟩) (v3L n2 (λg=>by
  show RelO (List.lookup g [(f,y)]) (if g=f then some u else none)
  by_cases q:g=f
  ·subst q;rw[if_pos rfl];simp only[List.lookup,beq_self_eq_true];exact ry
  ·rw[if_neg q];simp only[List.lookup,beq_eq_false_iff_ne.mpr q];exact True.intro) (λg hg=>by
  by_cases q:g=f
  ·rw[q];exact z8
  ·exact absurd (if_neg q) hg))
 have eq:upd (upd (upd H s.heap.objs.size (DXO s.heap.objs.size [])) a (XF C (some s.heap.objs.size) a n)) s.heap.objs.size (DXO s.heap.objs.size [(f,y)])=upd (upd H s.heap.objs.size (DXO s.heap.objs.size [(f,y)])) a (XF C (some s.heap.objs.size) a n):=by
  funext b;unfold upd;by_cases q1:b=s.heap.objs.size
  ·rw[if_pos q1,if_neg (by rw[q1];exact hne),if_pos q1]
  ·rw [if_neg q1]
   by_cases q2:b=a
   ·rw[if_pos q2,if_pos q2]
   ·rw[if_neg q2,if_neg q2,if_neg q1,if_neg q1]
 rw[eq] at I3;exact I3
def Inv.xfmade (I:Inv X pins σ H s) (us:List Value):Inv X pins σ (upd H (s.heap.objs.size+1) (XF C none (s.heap.objs.size+1) s.heap.objs.size)) { s with heap:=(s.heap.push (tupO us)).push (excO C s.heap.objs.size none) }:=by
 have I1:=I.kept (t':=s.toks) (h':=s.heap.push (tupO us)) (λb u q=>z5 _ q)
 refine I1.laid (a:=s.heap.objs.size+1) (o:=XF C none (s.heap.objs.size+1) s.heap.objs.size) (t':=s.toks) (λb u q=>z5 _ q) (Nat.le_of_eq (Heap.size_push _ _)) ?_
 have:=z6 (s.heap.push (tupO us)) (o:=excO C s.heap.objs.size none) rfl
 rw[Heap.size_push] at this;exact xf_ok ⟨_,_,this⟩ (Nat.le_succ _)
end
section
variable {M:Model}{A:Around}{E:VP}{env:Env}{K:W.Frag}{C f:Addr}
def XCls.base (c:XCls K C f):∃bm N nm q bs sn sub ab col dd k0 k1 k2 k3 k5,K.lookup C=some (excClassObj nm q C N bs bm true sn sub ab col dd k0 k1 k2 k3 k5 "ValueError.__new__")/\(Value.ref C::bm).contains (.type "BaseException")=true:=by
 obtain⟨bm,N,nm,q,bs,sn,sub,ab,col,dd,k0,k1,k2,k3,k5,hK,ht⟩:=c.obj;obtain⟨cd,hc,ho,_⟩:=c.ov;refine⟨bm,N,nm,q,bs,sn,sub,ab,col,dd,k0,k1,k2,k3,k5,hK,?_⟩;unfold W.clsIn at hc;rw[hK] at hc;cases hc;exact u1w ho
def u8U {s:Shared}{x:Sem Value}{Q:Flow->Shared->Prop} (hh:A.handled=none)
  (h:wpAny M A x (fun v s₁=>∃ (e t C f:Addr) (dx:Option Addr) (sl:Array (Option Value)) (K:W.Frag),v=.ref e/\K.In s₁.heap/\XCls K C f /\
   s₁.heap.get? e=some { cls:=.ref C,dict:=dx,data:=.fields #[.ref t,.none,.none,.none,.bool false,.none],slots:=sl }/\E (.ref e) s₁) E s):wpAny M A (raiseStmt env (some x) none) Q E s:=by
 unfold raiseStmt;refine wpAny_bind (wpAny_mono h (λv s₁ h₁=>?_) λ_ _ x=>x)
 obtain⟨e,t,C,f,dx,sl,K,rfl,KI,c,he,hE⟩:=h₁;obtain⟨bm,N,nm,q,bs,sn,sub,ab,col,dd,k0,k1,k2,k3,k5,hK,hb⟩:=c.base;have hC:=KI _ _ hK;obtain⟨hp,g,d,tk,os⟩:=s₁
 repeat (first|(with_reducible refine wpAny_loadPart_at he ?_)|(with_reducible refine wpAny_loadPart_at hC ?_)|((with_reducible refine wpAny_isSubtype_exc hC ?_);rw[hb])|wp_step)
 exact wpAny_raiseNew_none hh hE
end
def spXI (C:Addr) (fls:List Str):Sp:=λvs H Q _=>∃a args n,vs=.ref a::args/\args.length=fls.length/\H a=some (XF C none a n)/\∀dx,H dx=none->dx≠a->Q .non (upd (upd H dx (DXO dx (fls.zip args))) a (XF C (some dx) a n))
section
variable {X:Cx}{e o value:Expr}{es:List Expr}{ta tv:TE}{f x:Str}{p pos pos' cpos:Pos}{C fI:Addr}{fd:FuncData}{ps fls:List Str}{k:Nat}
def sXF (K:W.Frag) (ta tv:TE) (f:Str):TS:=λT σ H=>tv σ H λy H1=>ta σ H1 λx H2=>∃a C fI n,x=.ref a/\XCls K C fI/\NoAttr K C f/\H2 a=some (XF C none a n)/\∀dx,H2 dx=none->dx≠a->T.nx σ (upd (upd H2 dx (DXO dx [(f,y)])) a (XF C (some dx) a n))
def ps_xf (ha:PE X o ta) (hv:PE X value tv) (hs:swapsWith value (some (.Attribute o f pos')) pos.line X.env=pure false:=by rfl):PS X (.Assign [.Attribute o f pos'] value pos) (sXF X.K ta tv f):=by
 intro pins s σ H T I h;refine plainObj_wpAny_Assign_Attribute (thn (hv pins s σ H _ I h) λu s1 ⟨y,H1,I1,ry,q⟩=>thn (ha pins s1 σ H1 _ I1 q) λov s2 z9104=>?_) hs
 obtain⟨x,H2,I2,rx,a,C,fI,n,ex,c,na,ea,q2⟩:=z9104;subst ex;obtain rfl:ov=Value.ref a:=rx;exact u9z I2 ea c na ry λdx s3 h1 h2 I3=>⟨σ,_,I3,q2 dx h1 h2⟩
def run_xf {pins:LO}{σ:St}{H:Hp}{s:Shared}{Q:VP}{us:List Value}{vs:List V} (c:XCls X.K C fI) (F:FnOk X.prog X.w X.K X.mg X.base CX0 k fI fd ps (spXI C fls)) (hr:Room (k+1) X.A) (hb:Binds X.K fd ps [])
  (I:Inv X pins σ H s) (r:Vals vs us) (hz:vs.length<=1000) (hn:vs.length=fls.length)
  (h:∀a dx s',H a=none->H dx=none->dx≠a->Inv X pins σ (upd (upd H dx (DXO dx (fls.zip vs))) a (XF C (some dx) a s.heap.objs.size)) s'->Q (.ref a) s'):wpAny (model X.prog X.w) X.A (call (.ref C) us) Q X.xe s:=by
 have h1:H (s.heap.objs.size+1)=none:=I.hok.fresh (Nat.le_succ _);have I2:=Inv.xfmade (C:=C) I us;have r2:Vals (V.ref (s.heap.objs.size+1)::vs) (Value.ref (s.heap.objs.size+1)::us):=.cons rfl r;have hq:spXI C fls (.ref (s.heap.objs.size+1)::vs) (upd H (s.heap.objs.size+1) (XF C none (s.heap.objs.size+1) s.heap.objs.size)) (λv H2=>v=.non/\∃dx,H dx=none/\dx≠s.heap.objs.size+1/\H2=upd (upd H dx (DXO dx (fls.zip vs))) (s.heap.objs.size+1) (XF C (some dx) (s.heap.objs.size+1) s.heap.objs.size)) E0:=by
  refine⟨_,_,_,rfl,hn,u0d,λdx d1 d2=>⟨rfl,dx,?_,d2,?_⟩⟩
  ·rw[u0f d2] at d1;exact d1
  ·funext b
   unfold upd;by_cases q1:b=s.heap.objs.size+1
   ·rw[if_pos q1,if_pos q1]
   ·rw[if_neg q1,if_neg q1,if_neg q1]
 have hl:(Value.ref (s.heap.objs.size+1)::us++[]).length=ps.length:=by
  have e:=r2.length;rw[F.len _ _ _ _ hq] at e;rw[List.append_nil];exact e.symm
 refine wpAny_call ?_;obtain⟨hh,g,d,tt,os⟩:=s;refine v3i (f:=fI) I.kIn c (by rw[<- r.length,sizeLine_eq];omega) ?_
 refine codeAny_mono (F.run _ X.stack _ _ ⟨Value.ref (hh.objs.size+1)::us,[]⟩ (Value.ref (hh.objs.size+1)::us) _ _ E0 (hr.make C us []) (I2.env0.make C us []) (by have:=hb _ (Value.ref (hh.objs.size+1)::us) I2.kIn hl;rwa [List.append_nil] at this) r2 hq) λr s' hq'=>?_
 cases r with
 | error e=>exact False.elim hq'
 | ok fl =>
  cases fl with
  | ret u =>
   obtain⟨v,H',I3,rv,ev,dx,q1,q2,q3⟩:=I2.after hq';subst ev q3;exact⟨rv,h _ dx s' h1 q1 q2 I3⟩
  | next=>exact False.elim hq'
  | brk=>exact False.elim hq'
  | cont=>exact False.elim hq'
def XCalleeF (P:Program) (w:World) (K:W.Frag) (mg:MG) (base:Heap) (k:Nat) (x:Str) (C:Addr) (ps fls:List Str):Prop :=
 ∃f fd,XCls K C f/\FnOk P w K mg base CX0 k f fd ps (spXI C fls)/\Binds K fd ps []/\mg x=some (.ref C)
theorem Rps.zip {K:W.Frag}{F:Hp}:∀{vs:List V}{ds:List D} (fls:List Str),Rps K F vs ds->Rpf K F (fls.zip vs) (fls.zip ds)
 | _,_,[],_=>by simpa using Rpf.nil
 | _,_,_::_,.nil=>by simpa using Rpf.nil
 | _,_,f::fls,.cons h hs=>.cons h (hs.zip fls)
def u8l {xq:XQ}{fs:Rho->Res (List D)}{P:Program}{w:World}{K:W.Frag}{mg:MG}{base:Heap}{k':Nat} (hq:XqOk X xq) (hc:X.calm=true) (h:XCalleeF P w K mg base k x C ps fls) (hr:Room k' X.A) (ha:DA X xq (e::es) fs) (hk:k+1<=k':=by decide) (hg:Gl X x:=by rfl)
  (eP:X.prog=P:=by rfl) (ew:X.w=w:=by rfl) (eK:X.K=K:=by rfl) (em:X.mg=mg:=by rfl) (eb:X.base=base:=by rfl) (hdb:(x==("__debug__":Str))=false:=by decide) :
  DS X xq (.Raise (some (.Call (.Name x p) (e::es) [] cpos)) none pos) (λρ=>(fs ρ).go ρ λds=>if ds.length=fls.length/\ds.length<=1000 then .er (.exc C (fls.zip ds)) (frz ρ) else .bad):=by
 subst eP ew eK em eb;obtain⟨f,fd,c,F,hb,hm⟩:=h;refine⟨λpins s σ H T I z9105=>?_⟩
 obtain⟨B,G,ρ,R,q⟩:=z9105;rw[arm_exec_Raise];refine wpAny_bind (wpAny_standAt ?_);refine u8U (I.ok.hd hc) ?_;refine wpAny_bind (m:=eval (.Call (.Name x p) (e::es) [] cpos) X.env) (wpAny_Call_Name_kw (u2P I hg hm ?_ hdb));refine W.callWith_K (h₀:=X.base) I.ok.mod.kin c.kp (thn (ha.out cpos pins s σ H (λvs H1=>∃G1 ds,Rel X.K B ρ σ G1 H1/\Rps X.K G1 vs ds/\ds.length=fls.length/\ds.length<=1000/\∀v σ F H,Rel X.K B (frz ρ) σ F H->Rp X.K F v (.exc C (fls.zip ds))->xq v σ H) I ?_) λus s1 ⟨vs,H1,I1,r,G1,ds,R1,p1,l1,l2,q1⟩=>⟨I1.kIn,?_⟩) (u0k (u0j ha.ns).1) (u0O (u0j ha.ns).2)
 ·refine ⟨B,G,ρ,R,Res.all_mono (u0u q.out) (fun ds z vs G1 H1 st p1=>?_) fun _ z=>errOf z⟩
  by_cases hz:ds.length=fls.length/\ds.length<=1000
  ·rw [if_pos hz] at z
   exact⟨G1,ds,R.step st,p1,hz.1,hz.2,z⟩
  ·rw[if_neg hz] at z;exact z.elim
 ·refine run_xf c F (hr.mono hk) hb I1 r (by rw [p1.length];exact l2) (p1.length.trans l1) fun a dx s2 n1 n2 n3 I2=>wpAny_bind (wpAny_standAt (wpAny_pure ?_))
  have xa:=xf_at I2.hok u0d;obtain⟨⟨t,sl,z⟩,hn⟩:=xa;refine⟨a,t,C,f,some dx,sl,X.K,rfl,I2.kIn,c,z,hq.xe _ _ ?_⟩;have I3:=I2.xo u0d;rw[upd_upd] at I3;refine⟨_,a,C,some dx,σ,_,.none,I1.old.bare0,rfl,I3.bare0,u0d,⟨hn,_,_,z,rfl,by show 1<6;decide,.inl ⟨rfl,rfl⟩⟩,.inl rfl,?_⟩
  have s1:=Stp.new (o:=DXO dx (fls.zip vs)) R1.fh n2;have n1':upd H1 dx (DXO dx (fls.zip vs)) a=none:=by rw[u0f (Ne.symm n3)];exact n1
  have s2:=s1.trans (Stp.new (o:=XO C (some dx) a) s1.fh n1');obtain⟨G3,e3,R3⟩:=(R1.step s2).frz;refine q1 _ σ G3 _ R3 (Rp.same e3 (.exc u0d (by rw[u0f n3];exact u0d) ((p1.zip fls).same s2.ff)))
end
def XBase (K:W.Frag) (C:Addr):Prop:=∃bm N nm q bs sn sub ab col dd k0 k1 k2 k3 k5,K.lookup C=some (excClassObj nm q C N bs bm true sn sub ab col dd k0 k1 k2 k3 k5 "ValueError.__new__")/\(Value.ref C::bm).contains (.type "BaseException")=true
noncomputable def xbB (K:W.Frag) (C:Addr):Bool:=match K.lookup C with
 | some ⟨.type "type",_,.cls cd,sl⟩=>(match cd.mro,sl.toList with
  | .ref C'::bm,[_,_,_,_,some (.builtin n),_]=>C'==C&&n=="ValueError.__new__"&&!cd.hasDel&&cd.hasDict&&(Value.ref C::bm).contains (.type "BaseException")
  | _,_=>false)
 | _=>false
set_option tactic.hygienic true in
def u3w {K:W.Frag}{C:Addr} (e:xbB K C=true):XBase K C:=by
 unfold xbB at e;split at e
 ·rename_i dd cd sl ho
  split at e
  ·rename_i C' bm k0 k1 k2 k3 n k5 hm hs
   simp only[z0A,beq_iff_eq,Bool.not_eq_true'] at e;obtain⟨⟨⟨⟨rfl,rfl⟩,hdel⟩,hdi⟩,hb⟩:=e;obtain⟨nm,bs,mro,ns,qn,hd,sn,sub,ab,col,del⟩:=cd;dsimp only at hm hdel hdi;subst hm hdel hdi;have hsl:sl=#[k0,k1,k2,k3,some (.builtin "ValueError.__new__"),k5]:=by
    obtain⟨l⟩:=sl;simp only at hs;rw[hs]
   subst hsl;exact⟨bm,ns,nm,qn,bs,sn,sub,ab,col,dd,k0,k1,k2,k3,k5,ho,hb⟩
  ·cases e
 ·cases e
noncomputable def subK (K:W.Frag) (C C':Addr):Bool:=match W.clsIn K C with
 | some cd=>cd.mro.contains (.ref C')
 | none=>false
section
variable {M:Model}{A:Around}{E:VP}{s:Shared}{K:W.Frag}{C C' e:Addr}
def v1b {Q:Bool->Shared->Prop}{oe:Obj} (KI:K.In s.heap) (c:XBase K C) (c':XBase K C') (he:s.heap.get? e=some oe) (hcls:oe.cls=.ref C) (hq:Q (subK K C C') s):wpAny M A (excMatches (.ref e) (.ref C')) Q E s:=by
 obtain⟨bm,N,nm,q,bs,sn,sub,ab,col,dd,k0,k1,k2,k3,k5,hK,hb⟩:=c;obtain⟨bm',N',nm',q',bs',sn',sub',ab',col',dd',j0,j1,j2,j3,j5,hK',hb'⟩:=c';have hC:=KI _ _ hK;have hC':=KI _ _ hK';have hs:subK K C C'=(Value.ref C::bm).contains (.ref C'):=by
  unfold subK W.clsIn;rw[hK]
 rw[hs] at hq;have f:=tc_notTuple;obtain⟨hp,g,d,tk,os⟩:=s;unfold excMatches
 repeat (first|((with_reducible refine wpAny_loadPart_at he ?_);rw[hcls])|(with_reducible refine wpAny_loadPart_at hC' ?_)|((with_reducible refine wpAny_isSubtype_exc hC' ?_);rw[hb'])|((with_reducible refine wpAny_isSubtype_exc hC ?_);generalize hz:(Value.ref C::bm).contains (.ref C')=z at hq |-;cases z)|wp_step)
 all_goals (wp_walk;exact hq)
end
section
variable {X:Cx}{pins:LO}{σ:St}{H:Hp}{s:Shared}{M:Model}{A:Around}{E:VP}
def Inv.gone {i:Nat}{n:Str}{m:MG}{w:Option Value}{h':Heap}{t':Nat} (I:Inv X pins σ H s) (hN:X.N.Nodup) (hi:X.N[i]?=some n) (hl:∀(j:Nat) (x:Str) (v:V),X.N[j]?=some x->σ[j]?=some (some v)->Vis X.env.scope x->∃u,RelV v u/\Look X.env s.heap m x u)
  (hn':h'.Ns X.env.locals (λx=>if x=n then w else m x)) (hs:Heap.SameBut X.env.locals s.heap h'):Inv X pins (σ.set i none) H { s with heap:=h',toks:=t' }:=by
 have ne:∀b,b≠X.env.locals->h'.get? b=s.heap.get? b:=hs.2;have old:∀b o,X.s₀.heap.get? b=some o->b≠X.env.locals:=λb o e=>v5 (w5 (z7 e) I.ok.above)
 refine⟨I.ok,I.os,I.bare,⟨λb o e z hb hx=>(ne b (old b o e)).trans (I.base.keep b o e z hb hx),λb o e z hb hx=>?_,I.base.free,λb o e hx=>?_,I.base.tups,I.base.frzs,I.base.tbls⟩,⟨_,hn',λj x v e1 e2 e3=>?_⟩,λx c e=>?_,I.free,I.freeC,λp hp=>?_,λa o e=>?_,by simp[I.len]⟩
 ·obtain ⟨sl,q⟩:=I.base.slot b o e z hb hx
  exact⟨sl,(ne b (old b o e)).trans q⟩
 ·obtain ⟨o',q⟩:=I.base.there b o e hx
  exact⟨o',(ne b (old b o e)).trans q⟩
 ·by_cases hj:j=i
  ·subst hj
   rw[z2F (by rw[I.len];exact(w6.mp hi).1)] at e2
   cases e2
  ·rw [List.getElem?_set_ne (Ne.symm hj)] at e2
   obtain⟨u,r,q⟩:=hl j x v e1 e2 e3;refine⟨u,r,?_⟩;rcases q with⟨k,q⟩|⟨k,c,q,z⟩
   ·have nx:x≠n:=fun y=>hj (u5j hN e1 (y ▸ hi))
    exact .inl ⟨k,by show(if x=n then w else m x)=some u;rw[if_neg nx];exact q⟩
   ·exact .inr ⟨k,c,q,z.sameBut hs (I.cne x c q)⟩
 ·obtain ⟨v,z⟩:=I.cell x c e
  exact⟨v,z.sameBut hs (I.cne x c e)⟩
 ·obtain ⟨q,z,nl,nf,d⟩:=I.pin p hp
  exact⟨(ne p.1 nl).trans q,z,nl,nf,d⟩
 ·refine (I.hok a o e).stay (fun c u hc q=>(ne c ?_).trans q) (fun _ q=>q) fun _ _ q=>q
  rintro rfl;rcases hc with rfl|hc
  ·rw[I.free] at e;cases e
  ·rw[I.free] at hc;cases hc
def u5p {i:Nat}{n:Str}{pos:Pos}{Q:Unit->Shared->Prop} (I:Inv X pins σ H s) (hN:X.N.Nodup) (hi:X.N[i]?=some n) (hl:X.env.scope.names.lookup n=some .local) (hk:X.env.kindOf n=some .local)
  (h:∀s',Inv X pins (σ.set i none) H s'->Q () s'):wpAny M A (do bindName X.env n .none;unbindBehindTheSuite X.env n pos) Q E s:=by
 have hp:(X.env.scope.kind==.class||(X.env.scope.kind==.module&&X.env.locals != X.env.globals))=false:=by rw[I.ok.kind];rfl
 refine wpAny_bind (wpAny_bindName (u3x (v:=.non) I hN hi (.inl hl) rfl (λs1 I1=>?_) (.inr hl)))
 obtain⟨m,hn,hlo⟩:=id I1.loc;have hiσ:i<σ.length:=by rw[I.len];exact(w6.mp hi).1
 obtain⟨u,ru,lk⟩:=hlo i n .non hi (by rw[z2F hiσ]) (.inl hl)
 have hm:m n=some .none:=by
  cases ru;rcases lk with⟨_,q⟩|⟨k,_⟩
  ·exact q
  ·rw[hk] at k;rcases k with k|k<;>cases k
 unfold unbindBehindTheSuite;refine wpAny_onRaise ?_;unfold unbindName;refine wpAny_bind (wpAny_point (wpAny_bind ?_));unfold deleteName;simp only[hk,hp];rw[if_neg (by decide)]
 refine wpAny_bind (wpAny_nsDel_keeps hn λh2 w hn2 hs2=>?_)
 rw[hm];simp only[if_true,Option.isSome_some,Bool.not_true,t8,if_false];refine wpAny_pure (wpAny_point ?_);have I2:=I1.gone (t':=s1.toks) hN hi hlo hn2 hs2;rw[List.set_set] at I2;exact h _ I2
end
abbrev cxH (X:Cx) (e:Addr):Cx:={ X with A:=X.A.mark (some (.ref e)),calm:=false,xe:=λ_ _=>False }
section
variable {X:Cx}{xq:XQ}{pins:LO}{σ:St}{H:Hp}{s:Shared}{e:Addr}
def Inv.toH (I:Inv X pins σ H s) (e:Addr):Inv (cxH X e) pins σ H s :=
 ⟨⟨I.ok.mod,I.ok.kind,I.ok.glob,I.ok.blt,I.ok.above,I.ok.inj,I.ok.has,I.ok.cab,(λz=>nomatch z),I.ok.frames,I.ok.stk,I.ok.exf,I.ok.bs,I.ok.bsz,I.ok.noex,I.ok.exfs,I.ok.funs,I.ok.frf⟩,I.os,I.bare,I.base,I.loc,I.cell,I.free,I.freeC,I.pin,I.hok,I.len⟩
def Inv.ofH (J:X.Ok) (I:Inv (cxH X e) pins σ H s):Inv X pins σ H s:=⟨J,I.os,I.bare,I.base,I.loc,I.cell,I.free,I.freeC,I.pin,I.hok,I.len⟩
def Rel.unset {K:W.Frag}{B:Hp×Hp}{ρ:Rho}{F:Hp}{i:Nat} (r:Rel K B ρ σ F H):Rel K B (ρ.set i none) (σ.set i none) F H where
 st:=r.st
 len:=by simp[r.len]
 val j d e:=by
  rcases u0H e with⟨rfl,q,z⟩|⟨q,z⟩
  ·cases z
  ·rw[u0G q];exact r.val j d z
 own j o e:=by
  rcases u0H e with⟨rfl,q,z⟩|⟨q,z⟩
  ·cases z
  ·rw[u0G q];exact r.own j o z
 dis j k o u a x y:=by
  rcases u0H x with⟨rfl,q,z⟩|⟨q,z⟩
  ·cases z
  ·rcases u0H y with ⟨rfl,q',z'⟩ | ⟨q',z'⟩
   ·cases z'
   ·rw[u0G q,u0G q'];exact r.dis j k o u a z z'
def PH (X:Cx) (xq:XQ) (hs:List ExceptHandler) (hd:D->Rho->Out):Prop:=∀(pins:LO) (s:Shared) (σ:St) (H:Hp) (B:Hp×Hp) (F:Hp) (ρ:Rho) (x:D) (e:Addr) (n:Nat) (T:Ends),Inv X pins σ H s->Old X pins n->Tr n s.heap H e .none ->
 Rel X.K B ρ σ F H->Rp X.K F (.ref e) x->OkS X.K xq B T (hd x ρ)->wpAny (model X.prog X.w) X.A (handleBy (.ref e) X.env hs) (SP X pins T) X.xe s
structure DH (X:Cx) (xq:XQ) (hs:List ExceptHandler) (hd:D->Rho->Out):Prop where
 out:PH X xq hs hd
noncomputable def isE:D->Bool
 | .exc _ _=>true
 | _=>false
set_option tactic.hygienic true in
def dh_nil (hq:XqOk X xq):DH X xq [] (λx ρ=>if isE x=true then .er x (frz ρ) else .bad):=⟨λpins s σ H B F ρ x e n T I o tr R p q=>by
 cases p with
 | exc h1 h2 h3 =>
  rename_i C dx fs gs;have q':∀v σ F H,Rel X.K B (frz ρ) σ F H->Rp X.K F v (.exc C gs)->xq v σ H:=q.out;have hx:=R.fh _ _ h1;refine wpAny_handleBy_nil ?_;unfold PySem.passOn;have tr':=tr;obtain⟨a0,oe,vs,a1,a2,a3,t,oT,ts,a4,a5,a6,a7,a8,a9,a10⟩:=tr';refine wpAny_bind (wpAny_field a1 a2 a4 ?_);rw[if_neg (show ¬ ((Value.ref t==Value.none)=true) by simp),hq.st.2]
  refine wpAny_bind (u1N (f:=some X.env.locals) I hq.st o hx tr λs3 I3 tr3=>wpAny_throw (hq.xe _ _ ?_))
  obtain⟨F1,e1,R1⟩:=R.frz;exact⟨n,e,C,some dx,σ,H,_,o.bare0,rfl,I3.bare0,hx,tr3.tb,.inr rfl,q' _ σ F1 H R1 (Rp.same e1 (.exc h1 h2 h3))⟩
 | _=>exact q.out.elim⟩
noncomputable def unset (i:Nat):Out->Out
 | .nx ρ=>.nx (ρ.set i none)
 | .rt d=>.rt d
 | .bk ρ=>.bk (ρ.set i none)
 | .ct ρ=>.ct (ρ.set i none)
 | _=>.bad
noncomputable def hdAs (K:W.Frag) (C':Addr) (i:Nat) (fb:Rho->Out) (rest:D->Rho->Out) (x:D) (ρ:Rho):Out:=match x with
 | .exc C gs=>if xbB K C=true then (if subK K C C'=true then unset i (fb (ρ.set i (some (.val (.exc C gs))))) else rest (.exc C gs) ρ) else .bad
 | _=>.bad
set_option tactic.hygienic true in
def dh_as {cn nm:Str}{C':Addr}{i:Nat}{p pos:Pos}{b0:Stmt}{bs:List Stmt}{rest:List ExceptHandler}{fb:Rho->Out}{hr:D->Rho->Out} (hst:X.stack=X.env::X.outer/\X.env.frame=some X.env.locals) (hN:X.N.Nodup) (hm:X.mg cn=some (.ref C')) (hb:XBase X.K C')
  (hsu:∀e,DB (cxH X e) xqF (b0::bs) fb) (hrs:DH X xq rest hr) (hi:X.N[i]?=some nm:=by rfl) (hl:X.env.scope.names.lookup nm=some .local:=by rfl) (hk:X.env.kindOf nm=some .local:=by rfl) (hg:Gl X cn:=by rfl) (hdb:(cn==("__debug__":Str))=false:=by decide) :
  DH X xq (.ExceptHandler (some (.Name cn p)) (some nm) (b0::bs) pos::rest) (hdAs X.K C' i fb hr):=⟨λpins s σ H B F ρ x e n T I o tr R pe q=>by
 cases pe with
 | exc h1 h2 h3 =>
  rename_i C dx fs gs;have hx:=R.fh _ _ h1;have q:=q.out;unfold hdAs at q;dsimp only at q;by_cases hc:xbB X.K C=true
  ·rw [if_pos hc] at q
   obtain⟨oe,he,hcls⟩:∃oe,s.heap.get? e=some oe/\oe.cls=.ref C:=by
    obtain⟨t,f1,f2,f3,f4,f5,sl,z⟩:=v1I I.hok hx;exact⟨_,z,rfl⟩
   have IH:=I.toH e;refine wpAny_handleBy_cons (codeAny_handlers_test (u2P IH hg hm (v1b I.kIn (u3w hc) hb he hcls ?_) hdb)) (by intro z;cases z)
   cases hsb:subK X.K C C' with
   | false =>
    rw[hsb] at q;exact hrs.out pins s σ H B F ρ _ e n T I o tr R (.exc h1 h2 h3) ⟨q⟩
   | true =>
    rw[hsb] at q;refine codeAny_handlers_suite_as (u1N (X:=cxH X e) (f:=none) IH hst ⟨o.s0,o.loc,o.cel,o.pin⟩ hx tr λs2 I2 tr2=>?_)
    refine u3x (X:=cxH X e) (v:=.ref e) I2 hN hi (.inl hl) rfl (λs3 I3=>?_) (.inr hl)
    have R3:Rel X.K B (ρ.set i (some (.val (.exc C gs)))) (σ.set i (some (.ref e))) F H:=R.set (.exc h1 h2 h3);refine wpAny_mono ((hsu e).out pins s3 _ H { nx:=λσ' H'=>T.nx (σ'.set i none) H',rt:=T.rt,bk:=λσ' H'=>T.bk (σ'.set i none) H',ct:=λσ' H'=>T.ct (σ'.set i none) H' } I3 ⟨B,F,_,R3,⟨?_⟩⟩) (λf s4 z=>?_) λ_ _ z=>False.elim z
    ·generalize fb (ρ.set i (some (Sl.val (D.exc C gs))))=out at q
     cases out with
     | nx r=>exact λσ' F' H' R'=>q _ F' H' R'.unset
     | rt d=>exact q
     | bk r=>exact λσ' F' H' R'=>q _ F' H' R'.unset
     | ct r=>exact λσ' F' H' R'=>q _ F' H' R'.unset
     | er y r=>exact q.elim
     | bad=>exact q.elim
    ·cases f with
     | next=>obtain⟨σ',H',I4,z⟩:=z;exact u5p (Inv.ofH I.ok I4) hN hi hl hk λs5 I5=>⟨_,H',I5,z⟩
     | brk=>obtain⟨σ',H',I4,z⟩:=z;exact u5p (Inv.ofH I.ok I4) hN hi hl hk λs5 I5=>⟨_,H',I5,z⟩
     | cont=>obtain⟨σ',H',I4,z⟩:=z;exact u5p (Inv.ofH I.ok I4) hN hi hl hk λs5 I5=>⟨_,H',I5,z⟩
     | ret u=>obtain⟨v,σ',H',I4,r,z⟩:=z;exact u5p (Inv.ofH I.ok I4) hN hi hl hk λs5 I5=>⟨v,_,H',I5,r,z⟩
  ·rw[if_neg hc] at q;exact q.elim
 | _=>exact q.out.elim⟩
noncomputable def hdNo (K:W.Frag) (C':Addr) (fb:Rho->Out) (rest:D->Rho->Out) (x:D) (ρ:Rho):Out:=match x with
 | .exc C gs=>if xbB K C=true then (if subK K C C'=true then (match fb ρ with | .er _ _=>.bad|o=>o) else rest (.exc C gs) ρ) else .bad
 | _=>.bad
abbrev cxP (X:Cx) (pn:LO):Cx:={ X with pn:=X.pn++pn }
abbrev cxT (X:Cx) (pn:LO) (xq:XQ):Cx:=(cxP X pn).wish (Fly (cxP X pn) xq)
def Inv.toP (I:Inv X pins σ H s):Inv (cxP X pins) [] σ H s :=
 ⟨⟨I.ok.mod,I.ok.kind,I.ok.glob,I.ok.blt,I.ok.above,I.ok.inj,I.ok.has,I.ok.cab,I.ok.hd,I.ok.frames,I.ok.stk,I.ok.exf,I.ok.bs,I.ok.bsz,I.ok.noex,I.ok.exfs,I.ok.funs,I.ok.frf⟩,I.os,I.bare,I.base,I.loc,I.cell,I.free,I.freeC,λp hp=>I.pin p (by simpa using hp),I.hok,I.len⟩
def Inv.ofP (I:Inv (cxP X pins) [] σ H s):Inv X pins σ H s :=
 ⟨⟨I.ok.mod,I.ok.kind,I.ok.glob,I.ok.blt,I.ok.above,I.ok.inj,I.ok.has,I.ok.cab,I.ok.hd,I.ok.frames,I.ok.stk,I.ok.exf,I.ok.bs,I.ok.bsz,I.ok.noex,I.ok.exfs,I.ok.funs,I.ok.frf⟩,I.os,I.bare,I.base,I.loc,I.cell,I.free,I.freeC,λp hp=>I.pin p (by simpa using hp),I.hok,I.len⟩
def Old.ofP {n:Nat} (o:Old (cxP X pins) [] n):Old X pins n:=⟨o.s0,o.loc,o.cel,λp hp=>o.pin p (by simpa using hp)⟩
noncomputable def catchD (hd:D->Rho->Out):Out->Out
 | .er x ρ=>hd x ρ
 | o=>o
def ds_try {body:List Stmt}{h0:ExceptHandler}{hs:List ExceptHandler}{pos:Pos}{fb:Rho->Out}{hd:D->Rho->Out} (hst:X.stack=X.env::X.outer/\X.env.frame=some X.env.locals)
  (hb:∀pn xq',XqOk (cxT X pn xq') xq'->DB (cxT X pn xq') xq' body fb) (hh:DH X xq (h0::hs) hd) :
  DS X xq (.Try body (h0::hs) [] [] pos) (λρ=>catchD hd (fb ρ)):=⟨λpins s σ H T I z9=>un5 z9 λB F ρ R q=>by
 rw[arm_exec_Try];refine wpAny_bind (wpAny_standAt (wpAny_tryStmt_except ?_))
 let xq':XQ:=λv σ' H'=>∃ρ' F' x,Rel X.K B ρ' σ' F' H'/\Rp X.K F' v x/\OkS X.K xq B T (hd x ρ')
 have hq':XqOk (cxT X pins xq') xq':=u5A (X:=cxP X pins) hst;refine wpAny_mono ((hb pins xq' hq').out [] s σ H T (I.toP.wish _) ⟨B,F,ρ,R,⟨?_⟩⟩) (λf s1 z=>?_) λu s1 z=>?_
 ·have q:=q.out
  dsimp only at q;generalize fb ρ=out at q;cases out with
  | nx r=>exact q
  | rt d=>exact q
  | bk r=>exact q
  | ct r=>exact q
  | er x r=>exact λv σ' F' H' R' p'=>⟨r,F',x,R',p',⟨q⟩⟩
  | bad=>exact q.elim
 ·cases f with
  | next=>obtain⟨σ',H',I4,z⟩:=z;exact wpAny_execs_nil ⟨σ',H',I4.unwish.ofP,z⟩
  | brk=>obtain⟨σ',H',I4,z⟩:=z;exact⟨σ',H',I4.unwish.ofP,z⟩
  | cont=>obtain⟨σ',H',I4,z⟩:=z;exact⟨σ',H',I4.unwish.ofP,z⟩
  | ret u=>obtain⟨v,σ',H',I4,r,z⟩:=z;exact⟨v,σ',H',I4.unwish.ofP,r,z⟩
 ·obtain ⟨n,e,C,d,σ',H',fl,o,rfl,I1,hx,tb,hfl,ρ',F',x,R',p',q'⟩:=z
  refine u7l (X:=cxP X pins) I1 hst o hx tb hfl λs2 I2 tr2=>?_
  refine u1N (X:=cxP X pins) (f:=none) I2 hst o hx tr2 λs3 I3 tr3=>?_
  exact hh.out pins s3 σ' H' B F' ρ' x e n T I3.ofP o.ofP tr3 R' p' q'⟩
noncomputable def dXf (K:W.Frag) (f:Str):D->Res D
 | .exc _ gs=>match gs.lookup f with
  | some d=>.ok d
  | none=>.bad
 | _=>.bad
def XRead (K:W.Frag) (f:Str) (Cs:List Addr):Prop:=∀C∈Cs,(∃fI,XCls K C fI)/\NoAttr K C f
set_option tactic.hygienic true in
def v3S {o:Expr}{f:Str}{fo:Rho->Res D}{pos:Pos}{Cs:List Addr}{K:W.Frag} (hr:XRead K f Cs) (ho:DE X xq o fo) (eK:X.K=K:=by rfl) (hb:attributeBase o f X.env (eval o X.env)=eval o X.env:=by rfl) :
  DE X xq (.Attribute o f pos) (λρ=>(fo ρ).bind λx=>match x with | .exc C gs=>if C∈Cs then (match gs.lookup f with|some d=>.ok d|none=>.bad) else .bad|_=>.bad):=by
 subst eK;refine DE.of (pe_xfld ho.out hb) λB F ρ σ H Q R q=>seqE R q λd v F1 H1 s1 R1 p1 q1=>?_
 cases p1 with
 | exc h1 h2 h3 =>
  rename_i C dx fs gs;have q1:(if C∈Cs then (match gs.lookup f with|some d=>Res.ok d|none=>.bad) else .bad).all _ _:=q1
  by_cases hc:C∈Cs
  ·rw [if_pos hc] at q1
   cases hl:gs.lookup f with
   | none=>rw[hl] at q1;exact q1.elim
   | some d =>
    rw[hl] at q1;obtain⟨v,hv,pv⟩:=h3.lookup hl;obtain⟨⟨fI,c⟩,na⟩:=hr C hc;exact⟨_,C,fI,dx,fs,v,rfl,R1.fh _ _ h1,R1.fh _ _ h2,c,na,hv,q1 v F1 H1 s1 pv⟩
  ·rw[if_neg hc] at q1;exact q1.elim
 | _=>exact q1.elim
end
mutual
noncomputable def DK.hash (w:World):DK->Int
 | .i n=>keyH w (.inl n)
 | .s z=>keyH w (.inr z)
 | .t ks=>reduceHash (Builtin.Tuple.tupleHashOf (DK.hashes w ks))
noncomputable def DK.hashes (w:World):List DK->List Int
 | []=>[]
 | k::ks=>k.hash w::DK.hashes w ks
end
mutual
noncomputable def DK.drw:DK->Nat
 | .i _=>1
 | .s _=>1
 | .t ks=>DK.drws ks+1
noncomputable def DK.drws:List DK->Nat
 | []=>0
 | k::ks=>k.drw+DK.drws ks
end
mutual
inductive KAt (h:Heap):DK->Value->Prop
 | i (n:Int) (t:Tok):KAt h (.i n) (.int n t)
 | s (z:Str) (t:Tok):KAt h (.s z) (.str z t)
 | t {a:Addr}{o:Obj}{its:Array Value}{n:Nat}{ks:List DK}:h.get? a=some o->o.cls=.type "tuple"->o.data=.seq its n->KAts h ks its.toList->KAt h (.t ks) (.ref a)
inductive KAts (h:Heap):List DK->List Value->Prop
 | nil:KAts h [] []
 | cons {k:DK}{v:Value}{ks:List DK}{vs:List Value}:KAt h k v->KAts h ks vs->KAts h (k::ks) (v::vs)
end
mutual
theorem KAt.inj {h:Heap}:∀{x y:DK}{v:Value},KAt h x v->KAt h y v->x=y
 | _,_,_,.i _ _,.i _ _=>rfl
 | _,_,_,.s _ _,.s _ _=>rfl
 | _,_,_,.t p1 _ p2 p3,.t q1 _ q2 q3=>by
  rw[p1] at q1;cases q1;rw[p2] at q2;cases q2;rw[KAts.inj p3 q3]
theorem KAts.inj {h:Heap}:∀{x y:List DK}{v:List Value},KAts h x v->KAts h y v->x=y
 | _,_,_,.nil,.nil=>rfl
 | _,_,_,.cons p ps,.cons q qs=>by rw[KAt.inj p q,KAts.inj ps qs]
end
mutual
theorem KAt.moved {h h':Heap} (k:∀b o its n,h.get? b=some o->o.data=.seq its n->h'.get? b=some o):∀{x:DK}{v:Value},KAt h x v->KAt h' x v
 | _,_,.i n t=>.i n t
 | _,_,.s n t=>.s n t
 | _,_,.t p1 pc p2 p3=>.t (k _ _ _ _ p1 p2) pc p2 (KAts.moved k p3)
theorem KAts.moved {h h':Heap} (k:∀b o its n,h.get? b=some o->o.data=.seq its n->h'.get? b=some o):∀{x:List DK}{v:List Value},KAts h x v->KAts h' x v
 | _,_,.nil=>.nil
 | _,_,.cons p ps=>.cons (KAt.moved k p) (KAts.moved k ps)
end
mutual
theorem KAt.reads {h:Heap}:∀{x:DK}{v:Value},KAt h x v->∃as,Reads h v x.py as
 | _,_,.i n t=>⟨_,.int n t⟩
 | _,_,.s z t=>⟨_,.str z t⟩
 | _,_,.t p1 pc p2 p3=>let ⟨_,q⟩:=KAts.reads p3;⟨_,by rw[DK.py];exact .tuple p1 pc p2 q⟩
theorem KAts.reads {h:Heap}:∀{x:List DK}{v:List Value},KAts h x v->∃as,ReadsAll h v (DK.pys x) as
 | _,_,.nil=>⟨_,.nil⟩
 | _,_,.cons p ps=>let ⟨_,q⟩:=KAt.reads p;by obtain⟨_,qs⟩:=KAts.reads ps;exact⟨_,.cons q qs⟩
end
mutual
theorem DK.eqv_iff:∀x y:DK,PyData.eqv x.py y.py=true↔x=y
 | .i n,.i m=>by simp[DK.py,PyData.eqv]
 | .s n,.s m=>by simp[DK.py,PyData.eqv]
 | .t n,.t m=>by simp only[DK.py,PyData.eqv,DK.t.injEq];exact DK.eqvs_iff n m
 | .i _,.s _=>by simp[DK.py,PyData.eqv]
 | .i _,.t _=>by simp[DK.py,PyData.eqv]
 | .s _,.i _=>by simp[DK.py,PyData.eqv]
 | .s _,.t _=>by simp[DK.py,PyData.eqv]
 | .t _,.i _=>by simp[DK.py,PyData.eqv]
 | .t _,.s _=>by simp[DK.py,PyData.eqv]
theorem DK.eqvs_iff:∀x y:List DK,PyData.eqvAll (DK.pys x) (DK.pys y)=true↔x=y
 | [],[]=>by simp[DK.pys,PyData.eqvAll]
 | a::x,b::y=>by simp only[DK.pys,PyData.eqvAll,z0A,List.cons.injEq];rw[DK.eqv_iff a b,DK.eqvs_iff x y]
 | [],_::_=>by simp[DK.pys,PyData.eqvAll]
 | _::_,[]=>by simp[DK.pys,PyData.eqvAll]
end
def DK.eqv_dec (x y:DK):PyData.eqv x.py y.py=decide (x=y):=by
 rw[z2E,DK.eqv_iff];simp
section
variable {prog:Program}{w:World}
set_option maxHeartbeats 1000000 in
def v2V (d:Nat):∀{k:DK}{v:Value}{A:Around}{E:VP}{s:Shared}{Q:Int->Shared->Prop},k.dep<=d->A.units+d<cLine->KAt s.heap k v->Q (k.hash w) { s with toks:=s.toks+k.drw }->wpAny (model prog w) A (PySem.pyHash v) Q E s:=by
 induction d with
 | zero =>
  intro k v A E s Q hd hu p q;cases p with
  | i n t=>exact(mixKind prog w).pyHash (k:=.inl n) (u2l prog w n t) q
  | s z t=>exact(mixKind prog w).pyHash (k:=.inr z) (u2k prog w z t) q
  | t p1 pc p2 p3=>simp[DK.dep] at hd
 | succ d ih =>
  intro k v A E s Q hd hu p q;cases p with
  | i n t=>exact(mixKind prog w).pyHash (k:=.inl n) (u2l prog w n t) q
  | s z t=>exact(mixKind prog w).pyHash (k:=.inr z) (u2k prog w z t) q
  | @t a o its n ks p1 pc p2 p3 =>
   have ty:s.TypeIs (.ref a) "tuple":=⟨o,p1,pc⟩;have hds:DK.deps ks<=d:=by simpa[DK.dep] using hd
   unfold PySem.pyHash
   first|unfold pyHashByItsType|skip
   first|refine wpAny_bind (wpAny_cRoomFor_or (.inr (by omega)) ?_)|skip
   refine wpAny_bind (wpAny_specialOf ty F.slot_tuple_hash.lookup ?_);show wpAny _ _ (if (some (Value.builtin "tuple.__hash__")==some Value.none)=true then _ else _) _ _ _
   rw[if_neg (by rw[beq_builtin_none];simp)]
   refine wpAny_bind (wpAny_specialOf ty F.slot_tuple_hash.lookup ?_);show wpAny _ _ (callSpecialIfBoundUnlessNone? (.ref a) "__hash__" _ >>= _) _ _ _;refine wpAny_bind (wpAny_callSpecialIfBoundUnlessNone?_slot ty F.slot_tuple_hash (wpAny_call_entry F.slot_tuple_hash ty F.entry_tuple_hash ?_ (F.args_tuple_hash_1 _)));show wpAny _ _ (Builtin.Tuple.tupleItemsOf (.ref a) >>= _) _ _ _;refine wpAny_bind (wpAny_tupleItemsOf p1 p2 ?_);refine wpAny_bind ?_;rw[<- Array.forIn_toList];refine wpAny_forIn_list _ (λrest (b:Array Int) s'=>∃l r,DK.hashes w ks=l++DK.hashes w r/\KAts s.heap r rest/\DK.deps r<=d/\b.toList=l/\∃c,c+DK.drws r=DK.drws ks/\s'={ s with toks:=s.toks+c }) _ ?_ ?_ _ _ ⟨[],ks,rfl,p3,hds,rfl,0,Nat.zero_add _,rfl⟩
   ·rintro x rest b s' ⟨l,r,e1,e2,e3,e4,c,e5,rfl⟩
    cases e2 with
    | @cons k _ r' _ f1 f2 =>
     simp only[DK.deps] at e3;refine wpAny_bind (ih (k:=k) (by omega) (by show A.units+1+d<cLine;omega) f1 ?_)
     first
      | exact wpAny_pure ⟨l++[k.hash w],r',by rw[e1];simp[DK.hashes],f2,by omega,by simp[e4],c+k.drw,by rw[<- e5];simp[DK.drws,Nat.add_assoc],by simp[Nat.add_assoc]⟩
      | exact wpAny_bind (wpAny_pure (wpAny_pure ⟨l++[k.hash w],r',by rw[e1];simp[DK.hashes],f2,by omega,by simp[e4],c+k.drw,by rw[<- e5];simp[DK.drws,Nat.add_assoc],by simp[Nat.add_assoc]⟩))
   ·rintro b s' ⟨l,r,e1,e2,e3,e4,c,e5,rfl⟩
    cases e2;have e6:DK.hashes w ks=b.toList:=by rw[e1,e4];simp[DK.hashes]
    have e7:c=DK.drws ks:=by rw[<- e5];simp[DK.drws]
    subst e7;simp only[DK.hash,DK.drw] at q;rw[e6] at q;show wpAny _ _ (retInt (Builtin.Tuple.tupleHashOf b.toList)) _ _ _;refine wpAny_ret_mkInt ?_;show wpAny _ _ (if (decide (-(2:Int)^63<=Builtin.Tuple.tupleHashOf b.toList)&&decide (Builtin.Tuple.tupleHashOf b.toList<2^63))=true then _ else _) _ _ _
    unfold reduceHash at q;by_cases hr:(decide (-(2:Int)^63<=Builtin.Tuple.tupleHashOf b.toList)&&decide (Builtin.Tuple.tupleHashOf b.toList<2^63))=true
    ·rw [if_pos hr] at q |-
     exact wpAny_pure (by simpa[Nat.add_assoc] using q)
    ·rw [if_neg hr] at q |-
     exact wpAny_bind (wpAny_rule (wpAny_pure (by simpa[Nat.add_assoc] using q)))
def v0H (d:Nat):∀{k:DK}{v:Value}{A:Around}{E:VP}{s:Shared}{Q:Bool->Shared->Prop},k.dep<=d->KAt s.heap k v->Q true s->wpAny (model prog w) A (eqIsQuiet d v) Q E s:=by
 induction d with
 | zero =>
  intro k v A E s Q hd p q;cases p with
  | i n t=>rw[eqIsQuiet_byValue _ rfl];exact wpAny_pure q
  | s z t=>rw[eqIsQuiet_byValue _ rfl];exact wpAny_pure q
  | t p1 pc p2 p3=>simp[DK.dep] at hd
 | succ d ih =>
  intro k v A E s Q hd p q;cases p with
  | i n t=>rw[eqIsQuiet_byValue _ rfl];exact wpAny_pure q
  | s z t=>rw[eqIsQuiet_byValue _ rfl];exact wpAny_pure q
  | @t a o its n ks p1 pc p2 p3 =>
   have ty:s.TypeIs (.ref a) "tuple":=⟨o,p1,pc⟩;have hds:DK.deps ks<=d:=by simpa[DK.dep] using hd
   unfold eqIsQuiet;refine wpAny_bind (wpAny_specialOf ty F.slot_tuple_eq.lookup ?_);show wpAny _ _ (isInstance (.ref a) (.type "tuple") >>= _) _ _ _;refine wpAny_bind (wpAny_isInstance ty isSubtype_tuple_tuple ?_);simp only[Bool.not_true,t8,if_false];refine wpAny_bind (wpAny_seqItems p1 p2 ?_);refine wpAny_bind ?_;show wpAny _ _ (forIn its _ _) _ _ _;rw[<- Array.forIn_toList];refine wpAny_forIn_list _ (λrest r s'=>r.1=none/\s'=s/\∃l,KAts s.heap l rest/\DK.deps l<=d) _ ?_ ?_ _ _ ⟨rfl,rfl,ks,p3,hds⟩
   ·rintro v rest r s' ⟨hr,rfl,l,e1,e2⟩
    cases e1 with
    | cons f1 f2 =>
     simp only[DK.deps] at e2;refine wpAny_bind (ih (by omega) f1 ?_)
     simp only[Bool.not_true,t8,if_false];exact wpAny_pure ⟨rfl,rfl,_,f2,by omega⟩
   ·rintro ⟨r1,r2⟩ s' ⟨hr,rfl,_⟩
    simp only at hr;subst hr;exact wpAny_pure q
noncomputable def nestKind (prog:Program) (w:World):HeapKind prog w (List DK) where
 is h ks a:=KAt h (.t ks) (.ref a)/\(DK.t ks).dep<=8/\SeqAt.shaped (DK.t ks).py=true
 hash ks:=(DK.t ks).hash w
 draws ks:=(DK.t ks).drw
 room A:=A.units+80<cLine
 inj p q:=by have:=p.1.inj q.1;cases this;rfl
 keeps p hd he sb:=⟨p.1.moved (λb o its n q1 q2=>(sb.2 b (λz=>by
  subst z;rw[q1] at hd;cases hd;rw[q2] at he;cases he)).trans q1),p.2⟩
 pyHash hu p q:=v2V 8 p.2.1 (by omega) p.1 q
 eqBool:=λ{A E s x y a b Q} hu p r q=>by
  obtain⟨as,ra⟩:=p.1.reads;obtain⟨bs,rb⟩:=r.1.reads;refine SeqAt.eqBoolOverData _ _ _ _ _ _ _ _ _ _ _ _ ra rb (SeqAt.canLay_of_shaped p.2.2) (SeqAt.canLay_of_shaped r.2.2) ?_ ?_
  ·have:=SeqAt.depth_of_shaped p.2.2
   have h2:min (DK.t x).py.depth (DK.t y).py.depth<=(DK.t x).py.depth:=Nat.min_le_left _ _;omega
  ·rw[DK.eqv_dec];simpa using q
 quiet p q:=v0H 8 p.2.1 p.1 q
end
noncomputable def cmpDs:List D->Res (List PyData)
 | []=>.ok []
 | d::ds=>(cmpD d).bind λa=>(cmpDs ds).bind λas=>.ok (a::as)
noncomputable def inS (i j:Str):Bool:=!(Builtin.Str.occurrences j i 0 j.length 1).isEmpty
noncomputable def inD (x:D) (ds:List D) (neg:Bool):Res D:=(cmpD x).bind λa=>(cmpDs ds).bind λas=>.ok (.bl (if neg=true then !(as.any λb=>PyData.eqv b a) else as.any λb=>PyData.eqv b a))
noncomputable def dInG (neg:Bool):D->D->Res D
 | x,.lst ds=>inD x ds neg
 | x,.tup ds=>inD x ds neg
 | .str i,.str j=>.ok (.bl (if neg=true then !inS i j else inS i j))
 | _,_=>.bad
def u7y (neg:Bool) (x:D) (ds:List D):dInG neg x (.lst ds)=inD x ds neg:=by cases x<;>rfl
def v1u (neg:Bool) (x:D) (ds:List D):dInG neg x (.tup ds)=inD x ds neg:=by cases x<;>rfl
noncomputable abbrev dIn:=dInG false
noncomputable abbrev dNotIn:=dInG true
section
variable {X:Cx}{pins:LO}{σ:St}{H:Hp}{s:Shared}
noncomputable def eqR (h:Heap) (a:PyData) (u:Value):Bool:=@decide (∃d as,Reads h u d as/\PyData.eqv d a=true) (_root_.Classical.propDecidable _)
def v3K {h:Heap}{a d:PyData}{u:Value}{as:List Addr} (r:Reads h u d as):eqR h a u=PyData.eqv d a:=by
 unfold eqR;rw[z2E,@decide_eq_true_iff _ (_root_.Classical.propDecidable _)];constructor
 ·rintro ⟨d',as',r',q⟩
  rw[(r.unique d' as' r').1];exact q
 ·exact λq=>⟨d,as,r,q⟩
def u9t {d:D}{ds:List D}{bs:List PyData} (h:cmpDs (d::ds)=.ok bs):∃b r,d.py=some b/\SeqAt.shaped b=true/\cmpDs ds=.ok r/\bs=b::r:=by
 unfold cmpDs at h;cases e:cmpD d with
 | err x=>rw[e] at h;cases h
 | bad=>rw[e] at h;cases h
 | ok b =>
  rw[e] at h;obtain⟨b',q1,q2,q3⟩:=u2X (P:=λz=>z=b) (E:=λ_=>False) (by rw[e];exact rfl)
  subst q3;cases e2:cmpDs ds with
  | err x=>rw[e2] at h;cases h
  | bad=>rw[e2] at h;cases h
  | ok r=>rw[e2] at h;cases h;exact⟨_,r,q1,q2,rfl,rfl⟩
theorem u6F {F:Hp}{a:PyData}{v:Value}{vs:List Addr}{A:Around} (I:Inv X pins σ H s) (fh:Same F H) (rv:Reads s.heap v a vs) (sa:SeqAt.shaped a=true) (hu:A.units+64<cLine):∀{xs:List V}{ds:List D}{its:List Value}{bs:List PyData},Rps X.K F xs ds->Vals xs its->cmpDs ds=.ok bs ->
  (∀u∈its,SeqAt.EqAt A s u v (eqR s.heap a u))/\its.any (eqR s.heap a)=bs.any λb=>PyData.eqv b a
 | _,_,_,_,.nil,.nil,e=>by cases e;exact⟨(λu hu=>by cases hu),rfl⟩
 | _,_,_,_,.cons h hs,.cons r rs,e=>by
  obtain⟨b,r',q1,q2,q3,rfl⟩:=u9t e;obtain⟨i1,i2⟩:=u6F I fh rv sa hu hs rs q3;obtain⟨as,ru⟩:=((h.rd q1).same fh).reads I r;refine⟨λu hu'=>?_,by rw[List.any_cons,List.any_cons,i2,v3K ru]⟩
  rcases y7.mp hu' with rfl|hu'
  ·rw [v3K ru]
   refine SeqAt.eqAt_reads _ _ _ _ _ _ _ _ ru rv (SeqAt.canLay_of_shaped q2) (SeqAt.canLay_of_shaped sa) ?_
   have:=SeqAt.depth_of_shaped q2
   have h2:min b.depth a.depth<=b.depth:=Nat.min_le_left _ _;omega
  ·exact i1 u hu'
def u8b {x:D}{ds:List D}{neg:Bool}{P:D->Prop}{E:D->Prop} (h:(inD x ds neg).all P E):∃a bs,x.py=some a/\SeqAt.shaped a=true/\cmpDs ds=.ok bs/\P (.bl (if neg=true then !(bs.any λb=>PyData.eqv b a) else bs.any λb=>PyData.eqv b a))\/∃y,cmpDs ds=.err y:=by
 unfold inD at h;obtain⟨a,q1,q2,q⟩:=u2X (Res.all_bind.mp h);cases e:cmpDs ds with
 | ok bs=>rw[e] at q;exact⟨a,bs,.inl ⟨q1,q2,rfl,q⟩⟩
 | err y=>exact⟨a,[],.inr ⟨y,rfl⟩⟩
 | bad=>rw[e] at q;exact q.elim
theorem u1m:∀(ds:List D) (y:D),cmpDs ds≠.err y
 | [],_,h=>by cases h
 | d::ds,y,h=>by
  unfold cmpDs at h;cases e:cmpD d with
  | err x =>
   unfold cmpD at e;split at e
   ·unfold gd at e;split at e<;>cases e
   ·cases e
  | bad=>rw[e] at h;cases h
  | ok b =>
   rw[e] at h;cases e2:cmpDs ds with
   | err x=>exact u1m ds x e2
   | bad=>rw[e2] at h;cases h
   | ok r=>rw[e2] at h;cases h
def o_in (hu:X.A.units+100<cLine):OpR X (compareOp .In) (rD X.K dIn):=by
 intro pins s σ H x y v u Q I rx ry z9107;obtain⟨F,dx,dy,fh,px,py,q⟩:=z9107;have hu':X.A.in1.units+64<cLine:=by show X.A.units+1+64<cLine;omega
 cases py with
 | lst hq hs =>
  unfold dIn at q;rw[u7y] at q;obtain⟨a,bs,⟨q1,q2,q3,q4⟩|⟨y,q3⟩⟩:=u8b q
  ·obtain ⟨its,r,pl,hz⟩:=I.list (.inl (hq.same fh))
   obtain⟨as,rv⟩:=((px.rd q1).same fh).reads I rx;obtain⟨h1,h2⟩:=u6F I fh rv q2 hu' hs r q3;cases ry;refine SeqAt.in_listAt (eqR s.heap a) pl.isList (λw hw=>h1 w (by simpa using hw)) ⟨.bl _,H,I,rfl,?_⟩
   rw[show its.toArray.any (eqR s.heap a)=its.any (eqR s.heap a) by simp,h2]
   exact q4 _ F H (Stp.refl fh) (.bl _)
  ·exact absurd q3 (u1m _ _)
 | tup hq hs =>
  unfold dIn at q;rw[v1u] at q;obtain⟨a,bs,⟨q1,q2,q3,q4⟩|⟨y,q3⟩⟩:=u8b q
  ·obtain ⟨its,r,pl,hz⟩:=I.tuple (fh.seqT hq)
   obtain⟨as,rv⟩:=((px.rd q1).same fh).reads I rx;obtain⟨h1,h2⟩:=u6F I fh rv q2 hu' hs r q3;cases ry;refine SeqAt.in_tupleAt (eqR s.heap a) pl (λw hw=>h1 w (by simpa using hw)) ⟨.bl _,H,I,rfl,?_⟩
   rw[show its.toArray.any (eqR s.heap a)=its.any (eqR s.heap a) by simp,h2]
   exact q4 _ F H (Stp.refl fh) (.bl _)
  ·exact absurd q3 (u1m _ _)
 | str hz =>
  cases px with
  | str hz'=>exact v0q pins s σ H _ _ v u Q I rx ry ⟨_,_,rfl,rfl,q _ F H (Stp.refl fh) (.bl _)⟩
  | _=>exact q.elim
 | _=>cases dx<;>exact q.elim
def v0t (hu:X.A.units+100<cLine):OpR X (compareOp .NotIn) (rD X.K dNotIn):=by
 intro pins s σ H x y v u Q I rx ry z9108;obtain⟨F,dx,dy,fh,px,py,q⟩:=z9108;have hu':X.A.in1.units+64<cLine:=by show X.A.units+1+64<cLine;omega
 cases py with
 | lst hq hs =>
  unfold dNotIn at q;rw[u7y] at q;obtain⟨a,bs,⟨q1,q2,q3,q4⟩|⟨y,q3⟩⟩:=u8b q
  ·obtain ⟨its,r,pl,hz⟩:=I.list (.inl (hq.same fh))
   obtain⟨as,rv⟩:=((px.rd q1).same fh).reads I rx;obtain⟨h1,h2⟩:=u6F I fh rv q2 hu' hs r q3;cases ry;refine SeqAt.notIn_listAt (eqR s.heap a) pl.isList (λw hw=>h1 w (by simpa using hw)) ⟨.bl _,H,I,rfl,?_⟩
   rw[show its.toArray.any (eqR s.heap a)=its.any (eqR s.heap a) by simp,h2]
   exact q4 _ F H (Stp.refl fh) (.bl _)
  ·exact absurd q3 (u1m _ _)
 | tup hq hs =>
  unfold dNotIn at q;rw[v1u] at q;obtain⟨a,bs,⟨q1,q2,q3,q4⟩|⟨y,q3⟩⟩:=u8b q
  ·obtain ⟨its,r,pl,hz⟩:=I.tuple (fh.seqT hq)
   obtain⟨as,rv⟩:=((px.rd q1).same fh).reads I rx;obtain⟨h1,h2⟩:=u6F I fh rv q2 hu' hs r q3;cases ry;refine SeqAt.notIn_tupleAt (eqR s.heap a) pl (λw hw=>h1 w (by simpa using hw)) ⟨.bl _,H,I,rfl,?_⟩
   rw[show its.toArray.any (eqR s.heap a)=its.any (eqR s.heap a) by simp,h2]
   exact q4 _ F H (Stp.refl fh) (.bl _)
  ·exact absurd q3 (u1m _ _)
 | str hz =>
  cases px with
  | str hz'=>exact u5X pins s σ H _ _ v u Q I rx ry ⟨_,_,rfl,rfl,q _ F H (Stp.refl fh) (.bl _)⟩
  | _=>exact q.elim
 | _=>cases dx<;>exact q.elim
end
noncomputable def liftO (K:W.Frag) (xq:XQ) (f:Rho->Res (Option Int)):TO:=λσ H Q=>∃B F ρ,Rel K B ρ σ F H /\
 (f ρ).all (λo=>∀F' H',Stp F H F' H'->Q o H') (ErrK K xq B ρ σ)
structure DO (X:Cx) (xq:XQ) (e:Option Expr) (f:Rho->Res (Option Int)):Prop where
 out:PO X e (liftO X.K xq f)
noncomputable def asI:D->Res (Option Int)
 | .int i=>.ok (some i)
 | _=>.bad
noncomputable def dSl (d:D) (lo hi:Option Int):Res D:=match d with
 | .lst ds=>.ok (.lst (cutC ds lo hi))
 | .tup ds=>if HT.sIx ds.length 0 lo=0/\HT.sIx ds.length ds.length hi=ds.length then .bad else .ok (.tup (cutC ds lo hi))
 | .str z=>.ok (.str (Txt.slice z lo hi))
 | _=>.bad
section
variable {X:Cx}{xq:XQ}{e:Expr}{lo hi:Option Expr}{fe:Rho->Res D}{fl fh:Rho->Res (Option Int)}{p2 pos:Pos}
def v1m:DO X xq none (λ_=>.ok none):=⟨λpins s σ H Q I z9=>un5 z9 λB F ρ R q=>po_none pins s σ H Q I (q F H (Stp.refl R.fh))⟩
def u2W (h:DE X xq e fe):DO X xq (some e) (λρ=>(fe ρ).bind asI):=⟨λpins s σ H Q I z9=>un5 z9 λB F ρ R q=>po_some h.out pins s σ H Q I (seqE R q λd v F1 H1 s1 R1 p1 q1=>by
 cases p1 with
 | int i=>exact⟨i,rfl,q1 F1 H1 s1⟩
 | _=>exact q1.elim)⟩
def rSlD (K:W.Frag):V->Option Int->Option Int->Hp->VK->Prop:=λx lo hi H Q=>∃F d,Same F H/\Rp K F x d/\(dSl d lo hi).all (λd'=>∀v F' H',Stp F H F' H'->Rp K F' v d'->Q v H') (λ_=>False)
def Rps.cut {K:W.Frag}{F:Hp}{xs:List V}{ds:List D} (r:Rps K F xs ds) (lo hi:Option Int):Rps K F (cutV xs lo hi) (cutC ds lo hi):=by
 unfold cutV cutC;rw[r.length];exact(r.drop _).take _
set_option tactic.hygienic true in
def sl_D:SlR X (rSlD X.K):=by
 intro pins s σ H x v vl vu lo hi sl Q I rx hs pl pu z9109;obtain⟨F,d,fh,px,q⟩:=z9109;cases px with
 | lst hq rs=>exact sl_list pins s σ H _ v vl vu lo hi sl Q I rx hs pl pu ⟨_,_,rfl,.inl (hq.same fh),λp n=>q _ _ _ (Stp.new fh n) (.lst (.inl u0d) ((rs.cut lo hi).same (Stp.new fh n).ff))⟩
 | tup hq rs =>
  unfold dSl at q;dsimp only at q;split at q
  ·exact q.elim
  ·rename_i nw
   exact sl_tup pins s σ H _ v vl vu lo hi sl Q I rx hs pl pu ⟨_,_,rfl,fh.seqT hq,by rw[rs.length];exact nw,λp n=>q _ _ _ (Stp.new fh n) (.tup (.inl (.inl u0d)) ((rs.cut lo hi).same (Stp.new fh n).ff))⟩
 | str hz=>exact sl_str pins s σ H _ v vl vu lo hi sl Q I rx hs pl pu ⟨_,rfl,hz,q _ F H (Stp.refl fh) (.str (v7 (Txt.slice_le _ _ _) hz))⟩
 | _=>exact q.elim
def d_sl (he:DE X xq e fe) (hl:DO X xq lo fl) (hu:DO X xq hi fh):DE X xq (.Subscript e (.Slice lo hi none p2) pos) (λρ=>(fe ρ).bind λd=>(fl ρ).bind λl=>(fh ρ).bind λu=>dSl d l u) :=
 DE.of (v2u sl_D he.out hl.out hu.out) λB F ρ σ H Q R q=>seqE R q λd v F1 H1 s1 R1 p1 q1 =>
  ⟨B,F1,ρ,R1,Res.all_mono (Res.all_bind.mp q1) (λl q2 F2 H2 s2=>⟨B,F2,ρ,R1.step s2,Res.all_mono (Res.all_bind.mp q2) (λu q3 F3 H3 s3=>by
   refine⟨F3,d,((R1.step s2).step s3).fh,(p1.same s2.ff).same s3.ff,?_⟩;cases hd:dSl d l u with
   | ok d'=>rw[hd] at q3;exact λv' F' H' st pv=>q3 v' F' H' (((s1.trans s2).trans s3).trans st) pv
   | err x=>unfold dSl at hd;split at hd<;>first|cases hd|(split at hd<;>cases hd)
   | bad=>rw[hd] at q3;exact q3) λ_ z=>z⟩) λ_ z=>z⟩
def u8m {tg iter elt:Expr}{ifs:List Expr}{scope:Scope}{fi:Rho->Res (List D)}{g:D->Rho->Res Rho}{fA:Rho->Res Bool}{ix:List Nat}{x:Str}{i:Nat}{py spos:Pos} (own:List Str) (outs:List Nat) (hc:X.calm=true) (ok:CompOk X.env.scope X.N own outs scope) (hN:X.N.Nodup) (hi:DI X xq tg iter fi) (hg:∀{cl C s H fp},DG (cxC X own outs scope cl C s H fp) tg ix g) (hf:∀{cl C s H fp},DF (cxC X own outs scope cl C s H fp) xqF ifs fA) (he:∀{cl C s H fp},DE (cxC X own outs scope cl C s H fp) xqF elt fe)
  (nd:outs.Nodup:=by decide) (hix:∀j∈ix,j<own.length:=by decide) (hy:X.N.findIdx? (λy=>y==x)=some i:=by rfl) (hx:X.env.scope.names.lookup x=some .local:=by rfl)
  (hsw:swapsWith (.ListComp elt [⟨tg,iter,ifs,0⟩] scope pos) (some (.Name x py)) spos.line X.env=pure true:=by rfl) (hs:∀x,foldedSetIterable iter X.env x=pure x:=by intro _;rfl) :
  DS X xq (.Assign [.Name x py] (.ListComp elt [⟨tg,iter,ifs,0⟩] scope pos) spos) (λρ=>((fi ρ).bind λds=>gd (ds.length<=sizeLine) ((compD g fA fe (rhoC own.length outs ρ) ds).bind λys=>.ok (OD.l ys))).go ρ λo=>.nx (ρ.set i (some (.val o.toD)))) :=
 DS.of (u4D own outs hc ok hN (u4X hy) hx hi.out (g:=liftG X.K ix g) (ti:=liftT X.K xqF fA) (te:=liftE X.K xqF fe) (λ{cl C s H fp}=>hg.out) (λ{cl C s H fp}=>hf.out) (λ{cl C s H fp}=>he.out) hsw hs) λB F ρ σ H T R q =>
  u4k nd hix ⟨B,F,ρ,R,Res.all_mono (u0u q.out) (λo q a hh F' H' s1 n1 n2 e1 r1=>by
   have s2:Stp F H (upd F' a hh) H':=⟨s1.ff.trans (u0i n1),λb u x=>by
    unfold upd at x;by_cases z:b=a
    ·rw[if_pos z] at x;cases x;subst z;exact e1
    ·rw[if_neg z] at x;exact s1.fh b u x,s1.hh,λb x y=>by
    unfold upd;by_cases z:b=a
    ·subst z;exact absurd n2 y
    ·rw[if_neg z];exact s1.no b x y⟩
   exact q _ _ _ ((R.step s2).set ((Ro.same (u0i n1) r1).rp u0d))) λx q=>errOf q⟩
def rExtR:V->List V->Hp->VK->Prop:=λx vs H Q=>∃l b xs zs,x=.ref l/\vs=[.ref b]/\H l=some (.lst xs)/\Rd H b (.lst zs)/\xs.length+zs.length<=sizeLine/\Q .non (upd H l (.lst (xs++zs)))
def mt_extR:MtM X "list.extend" rExtR:=by
 intro pins s σ H x vs v us Q I rx rv h;obtain⟨l,b,xs,zs,rfl,rfl,hH,hB,hz,q⟩:=h;cases rx;obtain⟨u,rfl,ru⟩:=rv.one;cases ru;obtain⟨z,its,n,r,hl,e⟩:=I.lstM hH;obtain⟨z2,its2,n2,r2,hl2,e2⟩:=I.lstR hB;have hsz:its.toArray.size+its2.toArray.size<=sizeLine:=by rw[y9,y9];omega
 have hlong:¬ (!its.toArray.isEmpty&&Builtin.List.listTooLong (its.toArray.size+its2.toArray.size))=true:=by
  rw[notLongL hsz,Bool.and_false];exact q9
 refine call_meets F.slot_list_extend ⟨_,e,rfl⟩ F.entry_list_extend (F.args_list_extend_2 _ _)
  (AutoSeq1.list_extend_list_list_0 l its.toArray n b its2.toArray n2 hlong (by rw[y9];omega) (by omega)) ⟨e,e2,?_⟩
 refine⟨.non,_,I.lset (its':=its++its2) hH e (by simp) (r.append r2) ?_,rfl,q⟩
 rw[z0F];omega
def ds_ext {x:Str}{p apos cpos:Pos} (i:Nat) (he:DE X xq e fe) (hN:X.N[i]?=some x:=by rfl) (hv:Vis X.env.scope x:=by first|exact Or.inl rfl|exact Or.inr (Or.inl rfl)|exact Or.inr (Or.inr rfl)) (hd:(x==("__debug__":Str))=false:=by decide) (hcd:(x==("__classdict__":Str))=false:=by decide)
  (hs:notStar e=true:=by rfl) (hbase:attributeBase (.Name x p) "extend" X.env (eval (.Name x p) X.env)=eval (.Name x p) X.env:=by rfl) (hline:(apos.endLine==cpos.line)=true:=by rfl)
  (hsw:swapsWith (.Call (.Attribute (.Name x p) "extend" apos) [e] [] cpos) none pos.line X.env=pure false:=by rfl) :
  DS X xq (.Expr (.Call (.Attribute (.Name x p) "extend" apos) [e] [] cpos) pos) (λρ=>(getL ρ i).go ρ λds=>(fe ρ).go ρ λd=>match d with | .lst es=>if ds.length+es.length<=sizeLine then .nx (ρ.set i (some (.own (.l (ds++es))))) else .bad|_=>.bad) :=
 DS.of (u2K (pbm PySem.F.plainAttrs_list PySem.F.slot_list_extend PySem.F.type_list_extend mt_extR (u0v hN hv hd hcd) (pac he.out u1o hs) (by rw[z1E,hs];rfl) rfl hbase hline) hsw) λB F ρ σ H T R q=>by
  obtain⟨ds,e1,q1⟩:=v0V (u0u q.out);obtain⟨l,h,h1,h2,h3,h4,h5⟩:=R.own i _ e1;cases h5 with
  | l hs =>
   refine⟨.ref l,h1,.inl ⟨rfl,_,.inl (.inl h4)⟩,B,F,ρ,R,Res.all_mono (u0u q1) (λd q2 v F' H' st pv=>?_) λ_ z=>errOf z⟩
   cases pv with
   | @lst b zs es hq rs =>
    have q2:(if ds.length+es.length<=sizeLine then Out.nx (ρ.set i (some (.own (.l (ds++es))))) else .bad).all _ _ _ _ _:=q2
    by_cases hz:ds.length+es.length<=sizeLine
    ·rw [if_pos hz] at q2
     have R':=R.step st;exact⟨l,b,_,zs,rfl,rfl,st.hh _ _ h4,hq.same st.fh,by rw[hs.length,rs.length];exact hz,q2 σ F' _ (R'.write (e:=e1) h1 (.l ((hs.same st.ff).append rs)))⟩
    ·rw[if_neg hz] at q2;exact q2.elim
   | _=>exact q2.elim
end
@[simp] theorem u0S {α:Type} (a:α):noE (Res.ok a)=.ok a:=rfl
@[simp] theorem noE_bad {α:Type}:noE (Res.bad:Res α)=.bad:=rfl
@[simp] theorem asB_bl (b:Bool):asB (.bl b)=.ok b:=rfl
@[simp] theorem dI0_ii (g:Int->Int->D) (i j:Int):dI0 g (.int i) (.int j)=.ok (g i j):=rfl
@[simp] theorem u3v (C:Int->Int->Prop) [∀i j,Decidable (C i j)] (g:Int->Int->D) (i j:Int):dI C g (.int i) (.int j)=gd (C i j) (.ok (g i j)):=rfl
@[simp] theorem outR_nx (ρ:Rho):outR (.nx ρ)=.ok .non:=rfl
@[simp] theorem outR_rt (d:D):outR (.rt d)=.ok d:=rfl
@[simp] theorem outR_er (x:D) (ρ:Rho):outR (.er x ρ)=.err x:=rfl
@[simp] theorem frz_nil:frz []=[]:=rfl
@[simp] theorem frz_val (d:D) (ρ:Rho):frz (some (.val d)::ρ)=some (.val d)::frz ρ:=rfl
@[simp] theorem frz_own (o:OD) (ρ:Rho):frz (some (.own o)::ρ)=some (.val o.toD)::frz ρ:=rfl
@[simp] theorem frz_none (ρ:Rho):frz (none::ρ)=none::frz ρ:=rfl
@[simp] theorem frz_rep (n:Nat):frz (List.replicate n none)=List.replicate n none:=by unfold frz;simp
@[simp] theorem getV_zero (d:D) (ρ:Rho):getV (some (.val d)::ρ) 0=.ok d:=rfl
@[simp] theorem getV_succ (x:Option Sl) (ρ:Rho) (i:Nat):getV (x::ρ) (i+1)=getV ρ i:=rfl
@[simp] theorem getL_zero (ds:List D) (ρ:Rho):getL (some (.own (.l ds))::ρ) 0=.ok ds:=rfl
@[simp] theorem getL_succ (x:Option Sl) (ρ:Rho) (i:Nat):getL (x::ρ) (i+1)=getL ρ i:=rfl
@[simp] theorem u3h (ds:List D):(OD.l ds).toD=.lst ds:=rfl
@[simp] theorem szD_pos {α:Type}{ds:List D}{k:Res α} (h:ds.length<=sizeLine):szD ds k=k:=if_pos h
@[simp] theorem unset_nx (i:Nat) (ρ:Rho):unset i (.nx ρ)=.nx (ρ.set i none):=rfl
@[simp] theorem catch_nx (hd:D->Rho->Out) (ρ:Rho):catchD hd (.nx ρ)=.nx ρ:=rfl
@[simp] theorem catch_rt (hd:D->Rho->Out) (d:D):catchD hd (.rt d)=.rt d:=rfl
@[simp] theorem catch_er (hd:D->Rho->Out) (x:D) (ρ:Rho):catchD hd (.er x ρ)=hd x ρ:=rfl
@[simp] theorem chain_eq (g g':D->D->Res D) (x y:D) (z:Res D):fChain g g' x y z=(noE (g x y)).bind λw=>(asB w).bind λc=>if c=true then z.bind λz=>noE (g' y z) else .ok (.bl false):=rfl
theorem u1l {g:D->Rho->Res Rho}{fT:Rho->Res Bool}{fe:Rho->Res D}{ρ:Rho} (h:D->D):∀{ds:List D},(∀d∈ds,∃ρ1,g d ρ=.ok ρ1/\fT (frz ρ1)=.ok true/\fe ρ1=.ok (h d))->compD g fT fe ρ ds=.ok (ds.map h)
 | [],_=>rfl
 | d::ds,k=>by
  obtain⟨ρ1,k1,k2,k3⟩:=k d z8;simp[compD,k1,k2,k3,u1l h λx hx=>k x (y1 _ hx)]
noncomputable def hashW (w:World) (k:List DK):Int:=(DK.t k).hash w
mutual
noncomputable def dkOf:D->Option DK
 | .int n=>some (.i n)
 | .str z=>some (.s z)
 | .tup ds=>(dksOf ds).map .t
 | _=>none
noncomputable def dksOf:List D->Option (List DK)
 | []=>some []
 | d::ds=>match dkOf d,dksOf ds with
  | some k,some ks=>some (k::ks)
  | _,_=>none
end
mutual
theorem v3l:∀(d:D) (k:DK),dkOf d=some k->k.toD=d
 | .int n,k,e=>by simp only[dkOf] at e;cases e;rfl
 | .str n,k,e=>by simp only[dkOf] at e;cases e;rfl
 | .tup ds,k,e=>by
  simp only[dkOf] at e;cases q:dksOf ds with
  | none=>rw[q] at e;cases e
  | some ks=>rw[q] at e;cases e;simp only[DK.toD];rw[u4g ds ks q]
 | .non,_,e | .bl _,_,e | .ty _,_,e | .lst _,_,e | .dct _,_,e | .ins _ _,_,e | .exc _ _,_,e | .dn _ _,_,e | .hdl _,_,e=>by simp only[dkOf] at e;cases e
theorem u4g:∀(ds:List D) (ks:List DK),dksOf ds=some ks->DK.toDs ks=ds
 | [],_,e=>by simp only[dksOf] at e;cases e;rfl
 | d::ds,_,e=>by
  simp only[dksOf] at e;cases q:dkOf d with
  | none=>rw[q] at e;cases e
  | some k =>
   cases q2:dksOf ds with
   | none=>rw[q,q2] at e;cases e
   | some ks=>rw[q,q2] at e;cases e;simp only[DK.toDs];rw[v3l d k q,u4g ds ks q2]
end
noncomputable def keyOf:D->Res (List DK)
 | .tup ds=>match dksOf ds with
  | some ks=>gd (okK ks=true) (.ok ks)
  | none=>.bad
 | _=>.bad
def u7X {d:D}{P:List DK->Prop}{E:D->Prop} (h:(keyOf d).all P E):∃ks,(DK.t ks).toD=d/\okK ks=true/\P ks:=by
 cases d with
 | tup ds =>
  simp only[keyOf] at h;cases q:dksOf ds with
  | none=>rw[q] at h;exact h.elim
  | some ks =>
   rw[q] at h;obtain⟨h1,h2⟩:=u3t h;exact⟨ks,by simp only[DK.toD];rw[u4g ds ks q],h1,h2⟩
 | _=>exact h.elim
section
variable {X:Cx}{pins:LO}{σ:St}{H:Hp}{s:Shared}{F:Hp}
mutual
theorem v3I (I:Inv X pins σ H s) (fh:Same F H):∀(k:DK) {v:V}{u:Value},Rp X.K F v k.toD->RelV v u->KAt s.heap k u
 | .i n,_,_,p,r=>by simp only[DK.toD] at p;cases p;obtain⟨t,rfl⟩:=r;exact .i n t
 | .s n,_,_,p,r=>by simp only[DK.toD] at p;cases p;obtain⟨t,rfl⟩:=r;exact .s n t
 | .t ks,_,_,p,r=>by
  simp only[DK.toD] at p;cases p with
  | tup hq hs =>
   cases r;obtain⟨its,rv,pl,_⟩:=I.tuple (fh.seqT hq);obtain⟨o,ho,hc,n,hd⟩:=pl;exact .t ho hc hd (by simpa using v0G I fh ks hs rv)
theorem v0G (I:Inv X pins σ H s) (fh:Same F H):∀(ks:List DK) {vs:List V}{us:List Value},Rps X.K F vs (DK.toDs ks)->Vals vs us->KAts s.heap ks us
 | [],_,_,p,r=>by simp only[DK.toDs] at p;cases p;cases r;exact .nil
 | k::ks,_,_,p,r=>by
  simp only[DK.toDs] at p;cases p with
  | cons p1 p2 =>
   cases r with
   | cons r1 r2=>exact .cons (v3I I fh k p1 r1) (v0G I fh ks p2 r2)
end
def nk_is (I:Inv X pins σ H s) (fh:Same F H) {k:List DK}{q:Addr} (o:okK k=true) (p:Rp X.K F (.ref q) (DK.t k).toD):(nestKind X.prog X.w).is s.heap k q:=by
 unfold okK at o;rw[z0A] at o;exact⟨v3I I fh _ p rfl,of_decide_eq_true o.1,o.2⟩
theorem Rpn.each (I:Inv X pins σ H s) (fh:Same F H):∀{xs:List (List DK×Addr×Value)}{kvs:List (List DK×D)},Rpn X.K F xs kvs->∀x∈xs,(nestKind X.prog X.w).is s.heap x.1 x.2.1
 | _,_,.nil,x,hx=>by cases hx
 | _,_,.cons o h r h2 hs,x,hx=>by
  rcases y7.mp hx with rfl|hx
  ·exact nk_is I fh o h
  ·exact hs.each I fh x hx
def nd_of {a:Addr}{xs:List (List DK×Addr×Value)}{kvs:List (List DK×D)} (I:Inv X pins σ H s) (fh:Same F H) (e:H a=some (NDO a (hashW X.w) xs)) (r:Rpn X.K F xs kvs):s.heap.DictOfH (nestKind X.prog X.w) a xs/\xs.length<=sizeLine/\(a==sysModules)=false:=by
 obtain⟨o,es,ep,h1,h2,h3,h4,h5,h6,h7⟩:=(show ObjOk X.prog X.w H s.heap a (NDO a (hashW X.w) xs) from I.hok a _ e).1
 exact⟨⟨o,es,ep,h1,h2,h3,h4,r.each I fh,h5⟩,h6,h7⟩
theorem Rpn.at {k:List DK}:∀{xs:List (List DK×Addr×Value)}{kvs:List (List DK×D)},Rpn X.K F xs kvs->((atKey xs k).isSome=true↔k∈kvs.map (·.1))
 | _,_,.nil=>by simp[atKey]
 | _,_,.cons (k:=k') o h r h2 hs=>by
  have ih:=hs.at (k:=k);by_cases e:k'=k
  ·subst e;simp[atKey]
  ·have e':¬ k=k':=fun z=>e z.symm
   simp only[atKey,z0E,e,decide_false,u9,y7,e',false_or] at ih |-
   exact ih
def Rpn.atB {k:List DK}{xs:List (List DK×Addr×Value)}{kvs:List (List DK×D)} (r:Rpn X.K F xs kvs):(atKey xs k).isSome=decide (k∈kvs.map (·.1)):=by
 rw[z2E,decide_eq_true_iff];exact r.at
noncomputable def inN (w:World) (neg:Bool) (x:D) (hs:List DK->Int) (kvs:List (List DK×D)):Res D:=(keyOf x).bind λk=>@ite _ (hs=hashW w) (_root_.Classical.propDecidable _) (.ok (.bl (if neg=true then !decide (k∈kvs.map (·.1)) else decide (k∈kvs.map (·.1))))) .bad
noncomputable def dInN (w:World) (neg:Bool):D->D->Res D
 | x,.dn hs kvs=>inN w neg x hs kvs
 | x,y=>dInG neg x y
def v1v (w:World) (neg:Bool) (x:D) (hs:List DK->Int) (kvs:List (List DK×D)):dInN w neg x (.dn hs kvs)=inN w neg x hs kvs:=by unfold dInN;rfl
set_option tactic.hygienic true in
def v2D (hu:X.A.units+200<cLine):OpR X (compareOp .In) (rD X.K (dInN X.w false)):=by
 intro pins s σ H x y v u Q I rx ry z9110;obtain⟨F,dx,dy,fh,px,py,q⟩:=z9110;cases py with
 | dn hq hr =>
  rw[v1v] at q;unfold inN at q;obtain⟨k,e,ok,q2⟩:=u7X (Res.all_bind.mp q);clear q;split at q2
  ·rename_i hh
   subst hh;subst e;have px':=px;simp only[DK.toD] at px';cases px' with
   | tup _ _ =>
    cases rx;cases ry;obtain⟨dd,hz,hd⟩:=nd_of I fh (fh _ _ hq) hr;refine wpAny_in_heap (knd:=nestKind X.prog X.w) (by show X.A.units+1+80<cLine;omega) (nk_is I fh ok px) hd dd ?_
    rw[hr.atB];exact⟨.bl _,H,I.tok _,rfl,q2 _ F H (Stp.refl fh) (.bl _)⟩
  ·exact q2.elim
 | lst hq hs=>exact o_in (by omega) pins s σ H x _ v u Q I rx ry ⟨F,dx,_,fh,px,.lst hq hs,q⟩
 | tup hq hs=>exact o_in (by omega) pins s σ H x _ v u Q I rx ry ⟨F,dx,_,fh,px,.tup hq hs,q⟩
 | str hz=>exact o_in (by omega) pins s σ H x _ v u Q I rx ry ⟨F,dx,_,fh,px,.str hz,q⟩
 | _=>cases dx<;>exact q.elim
noncomputable def putN (kvs:List (List DK×D)) (k:List DK) (d:D):List (List DK×D):=if k∈kvs.map (·.1) then kvs.map (λp=>if p.1=k then (p.1,d) else p) else kvs++[(k,d)]
theorem Rpn.length:∀{xs:List (List DK×Addr×Value)}{kvs:List (List DK×D)},Rpn X.K F xs kvs->xs.length=kvs.length
 | _,_,.nil=>rfl
 | _,_,.cons _ _ _ _ hs=>congrArg (·+1) hs.length
theorem Rpn.mapped {k:List DK}{d:D}{v:V}{u:Value} (ru:RelV v u) (pd:Rp X.K F v d):∀{xs:List (List DK×Addr×Value)}{kvs:List (List DK×D)},Rpn X.K F xs kvs->Rpn X.K F (xs.map (putAt k u)) (kvs.map (λp=>if p.1=k then (p.1,d) else p))
 | _,_,.nil=>.nil
 | _,_,.cons (k:=k') o h r h2 hs=>by
  by_cases e:k'=k
  ·subst e
   simp only[u9,putAt,if_true];exact .cons o h ru pd (hs.mapped ru pd)
  ·simp only [u9,putAt,if_neg e]
   exact .cons o h r h2 (hs.mapped ru pd)
theorem Rpn.snoc {k:List DK}{q:Addr}{d:D}{v:V}{u:Value} (o:okK k=true) (pk:Rp X.K F (.ref q) (DK.t k).toD) (ru:RelV v u) (pd:Rp X.K F v d):∀{xs:List (List DK×Addr×Value)}{kvs:List (List DK×D)},Rpn X.K F xs kvs->Rpn X.K F (xs++[(k,q,u)]) (kvs++[(k,d)])
 | _,_,.nil=>.cons o pk ru pd .nil
 | _,_,.cons o' h r h2 hs=>.cons o' h r h2 (hs.snoc o pk ru pd)
def Rpn.put {k:List DK}{q:Addr}{d:D}{v:V}{u:Value}{xs:List (List DK×Addr×Value)}{kvs:List (List DK×D)} (o:okK k=true) (pk:Rp X.K F (.ref q) (DK.t k).toD) (ru:RelV v u) (pd:Rp X.K F v d) (r:Rpn X.K F xs kvs):Rpn X.K F (storedH xs k q u) (putN kvs k d):=by
 unfold storedH putN;by_cases e:k∈kvs.map (·.1)
 ·rw[if_pos e,if_pos (r.at.mpr e)];exact r.mapped ru pd
 ·rw[if_neg e,if_neg (λz=>e (r.at.mp z))];exact r.snoc o pk ru pd
def dn_new {xq:XQ}{pos:Pos}:DN X xq (.Dict [] [] pos) (λ_=>.ok (.n (hashW X.w) [])):=⟨λpins s σ H Q I z9=>un5 z9 λB F ρ R q=>by
 refine wpAny_Dict_empty ⟨.ref s.heap.objs.size,_,I.laid (a:=s.heap.objs.size) (o:=NDO s.heap.objs.size (hashW X.w) []) (t':=s.toks) (λ_ _ z=>z5 _ z) (y0 _) ?_,rfl,?_⟩
 ·refine ⟨⟨_,#[],_,z6 _ rfl,⟨rfl,rfl,rfl⟩,rfl,rfl,List.nodup_nil,z1A _,?_⟩,⟨_,z6 _ rfl⟩,fun h1 h2 z9111 k=>by obtain ⟨o,es,ep,e1,e2⟩:=z9111;exact ⟨o,es,ep,k _ e1,e2⟩⟩
  exact(u8q (P:=X.prog) (w:=X.w) (H:=H) s.heap I.big).2.1
 ·have n:=I.hok.fresh (y0 s.heap.objs.size)
  exact q _ _ F _ (Stp.only R.fh (u0i n)) (R.fh.free n) n u0d (.n .nil)⟩
def u8u {xq:XQ}{pos:Pos}:DN X xq (.Dict [] [] pos) (λ_=>.ok (.d [])):=⟨λpins s σ H Q I z9=>un5 z9 λB F ρ R q=>v2w pins s σ H Q I λd n=>q d _ F _ (Stp.only R.fh (u0i n)) (R.fh.free n) n u0d (.d .nil)⟩
end
noncomputable def getN (ρ:Rho) (i:Nat):Res ((List DK->Int)×List (List DK×D)):=match ρ[i]? with
 | some (some (.own (.n hs kvs)))=>.ok (hs,kvs)
 | _=>.bad
set_option tactic.hygienic true in
def getN_ok {ρ:Rho}{i:Nat}{P:(List DK->Int)×List (List DK×D)->Prop}{E:D->Prop} (h:(getN ρ i).all P E):∃hs kvs,ρ[i]?=some (some (.own (.n hs kvs)))/\P (hs,kvs):=by
 unfold getN at h;split at h
 ·rename_i hs kvs e;exact⟨hs,kvs,e,h⟩
 ·exact h.elim
def u8F {xs:List (List DK×Addr×Value)}{k:List DK}{a:Addr}{u:Value}:(storedH xs k a u).length<=xs.length+1:=by
 unfold storedH;split
 ·simp
 ·simp
section
variable {X:Cx}{xq:XQ}{i value:Expr}{fi fv:Rho->Res D}{x:Str}{p pos pos':Pos}
noncomputable def fPutN (w:World) (j:Nat) (fi fv:Rho->Res D) (ρ:Rho):Out:=(fv ρ).go ρ λd=>(getN ρ j).go ρ λo=>(fi ρ).go ρ λkd=>(keyOf kd).go ρ λk =>
 @ite _ (o.1=hashW w/\o.2.length<sizeLine) (_root_.Classical.propDecidable _) (.nx (ρ.set j (some (.own (.n o.1 (putN o.2 k d)))))) .bad
set_option tactic.hygienic true in
def ds_putN (j:Nat) (hu:X.A.units+200<cLine) (hi:DE X xq i fi) (hv:DE X xq value fv) (hN:X.N[j]?=some x:=by rfl) (hvs:Vis X.env.scope x:=by first|exact Or.inl rfl|exact Or.inr (Or.inl rfl)|exact Or.inr (Or.inr rfl)) (hd:(x==("__debug__":Str))=false:=by decide) (hcd:(x==("__classdict__":Str))=false:=by decide)
  (hs:swapsWith value (some (.Subscript (.Name x p) i pos')) pos.line X.env=pure false:=by rfl):DS X xq (.Assign [.Subscript (.Name x p) i pos'] value pos) (fPutN X.w j fi fv):=⟨λpins s σ H T I z9=>un5 z9 λB F ρ R q=>by
 have q:=q.out;unfold fPutN at q;refine wpAny_Assign_Subscript (thn (hv.out pins s σ H (λv H1=>∃d F1 a,σ[j]?=some (some (.ref a))/\Stp F H F1 H1/\Rp X.K F1 v d/\∃hs kvs,ρ[j]?=some (some (.own (.n hs kvs)))/\((fi ρ).go ρ λkd=>(keyOf kd).go ρ λk=>@ite _ (hs=hashW X.w/\kvs.length<sizeLine) (_root_.Classical.propDecidable _) (.nx (ρ.set j (some (.own (.n hs (putN kvs k d)))))) .bad).all
  (λρ=>∀σ F H,Rel X.K B ρ σ F H->T.nx σ H) (λd=>∀v F H,Stp B.1 B.2 F H->Rp X.K F v d->T.rt v H) (λρ=>∀σ F H,Rel X.K B ρ σ F H->T.bk σ H) (λρ=>∀σ F H,Rel X.K B ρ σ F H->T.ct σ H) (λρ x=>∀v σ F H,Rel X.K B ρ σ F H->Rp X.K F v x->xq v σ H)) I ?_) λr s1 ⟨v,H1,I1,rv,d,F1,a,ha,st1,pv,hh,kvs,eo,q1⟩ =>
  thn (u0v hN hvs hd hcd pins s1 σ H1 (λx H2=>x=.ref a/\H2=H1) I1 ⟨.ref a,ha,rfl,rfl⟩) λu s2 ⟨y,H2,I2,ry,ey,eH⟩=>?_) hs
 ·refine ⟨B,F,ρ,R,Res.all_mono (u0u q) (fun d q1 v F1 H1 st pv=>?_) fun _ z=>errOf z⟩
  obtain⟨hh,kvs,eo,q2⟩:=getN_ok (u0u q1);obtain⟨a,h,h1,_⟩:=R.own j _ eo;exact⟨d,F1,a,h1,st,pv,hh,kvs,eo,q2⟩
 ·subst ey eH
  cases ry;have R1:=R.step st1;refine thn (hi.out pins s2 σ H2 (λy H3=>∃F3 k,Stp F1 H2 F3 H3/\Rp X.K F3 y (DK.t k).toD/\okK k=true/\hh=hashW X.w/\kvs.length<sizeLine/\∀σ F H,Rel X.K B (ρ.set j (some (.own (.n hh (putN kvs k d))))) σ F H->T.nx σ H) I2 ?_) λiv s3 ⟨y,H3,I3,ry,F3,k,st3,pk,ok,eh,hl,q3⟩=>?_
  ·refine ⟨B,F1,ρ,R1,Res.all_mono (u0u q1) (fun kd q2 y F3 H3 st3 py=>?_) fun _ z=>errOf z⟩
   obtain⟨k,ek,ok,q3⟩:=u7X (u0u q2);subst ek;split at q3
   ·rename_i c;exact⟨F3,k,st3,py,ok,c.1,c.2,q3⟩
   ·exact q3.elim
  ·subst eh
   have R3:=R1.step st3;obtain⟨a',h,h1,h2,h3,h4,h5⟩:=R3.own j _ eo;rw[ha] at h1;cases h1;cases h5 with
   | n hr =>
    have pk':=pk;simp only[DK.toD] at pk';cases pk' with
    | @tup b _ _ _ _ =>
     cases ry;obtain⟨dd,hz,hsy⟩:=nd_of I3 R3.fh h4 hr;refine wpAny_setItem_heap (knd:=nestKind X.prog X.w) (hsz:=hz) (by show X.A.units+1+80<cLine;omega) (nk_is I3 R3.fh ok pk) dd λh' dd' sb=>?_
     obtain⟨o,es,ep,e1,e2,e3,e4,_,e5⟩:=dd';have pv3:=pv.same st3.ff;refine⟨σ,_,u7x (ob:=NDO a (hashW X.w) (storedH _ k b r)) I3 (by rw[h4];exact True.intro) sb ⟨o,e1⟩ ⟨⟨o,es,ep,e1,e2,e3,e4,e5,?_,hsy⟩,⟨o,e1⟩,λg1 g2 z9115 kk=>by obtain⟨o,es,ep,f1,f2⟩:=z9115;exact⟨o,es,ep,kk _ f1,f2⟩⟩,q3 σ F3 _ (R3.write (e:=eo) ha (.n (hr.put ok pk rv pv3)))⟩
     exact v7 u8F (by rw[hr.length];omega)⟩
end
noncomputable def keyK:D->Res Key
 | .int i=>.ok (.inl i)
 | .str z=>.ok (.inr z)
 | _=>.bad
def u5l {K:W.Frag}{F:Hp}{v:V}{d:D}{P:Key->Prop}{E:D->Prop} (p:Rp K F v d) (h:(keyK d).all P E):∃k,v=kV k/\P k:=by
 cases p with
 | int i=>exact⟨.inl i,rfl,h⟩
 | str _=>exact⟨.inr _,rfl,h⟩
 | _=>exact h.elim
noncomputable def eqK:D->Key->Bool
 | .int i,.inl j=>decide (i=j)
 | .str a,.inr b=>decide (a=b)
 | _,_=>false
def u4P (k' k:Key):eqK (kD k') k=decide (k'=k):=by
 cases k'<;>cases k<;>simp[eqK,kD]
noncomputable def putD (ps:List (D×D)) (k:Key) (d:D):List (D×D):=if ps.any (λp=>eqK p.1 k)=true then ps.map (λp=>if eqK p.1 k=true then (p.1,d) else p) else ps++[(kD k,d)]
noncomputable def valD (ps:List (D×D)) (k:Key):Option D:=(ps.find? λp=>eqK p.1 k).map (·.2)
section
variable {K:W.Frag}{F:Hp}
theorem Rpk.length:∀{kvs:List (Key×V)}{ps:List (D×D)},Rpk K F kvs ps->kvs.length=ps.length
 | _,_,.nil=>rfl
 | _,_,.cons _ hs=>congrArg (·+1) hs.length
theorem Rpk.any {k:Key}:∀{kvs:List (Key×V)}{ps:List (D×D)},Rpk K F kvs ps->(kvs.any λkv=>decide (kv.1=k))=ps.any (λp=>eqK p.1 k)
 | _,_,.nil=>rfl
 | _,_,.cons h hs=>by simp only[List.any_cons,u4P,hs.any]
theorem Rpk.mapped {k:Key}{d:D}{v:V} (pd:Rp K F v d):∀{kvs:List (Key×V)}{ps:List (D×D)},Rpk K F kvs ps->Rpk K F (kvs.map (λkv=>if kv.1=k then (kv.1,v) else kv)) (ps.map (λp=>if eqK p.1 k=true then (p.1,d) else p))
 | _,_,.nil=>.nil
 | _,_,.cons (k:=k') h hs=>by
  by_cases e:k'=k
  ·simp only[u9,u4P,e,decide_true,if_true];exact .cons pd (hs.mapped pd)
  ·simp only[u9,u4P,e,decide_false,if_false];exact .cons h (hs.mapped pd)
theorem Rpk.snoc {k:Key}{d:D}{v:V} (pd:Rp K F v d):∀{kvs:List (Key×V)}{ps:List (D×D)},Rpk K F kvs ps->Rpk K F (kvs++[(k,v)]) (ps++[(kD k,d)])
 | _,_,.nil=>.cons pd .nil
 | _,_,.cons h hs=>.cons h (hs.snoc pd)
def Rpk.put {k:Key}{d:D}{v:V}{kvs:List (Key×V)}{ps:List (D×D)} (pd:Rp K F v d) (r:Rpk K F kvs ps):Rpk K F (putK kvs k v) (putD ps k d):=by
 unfold putK putD;rw[r.any (k:=k)];split
 ·exact r.mapped pd
 ·exact r.snoc pd
theorem Rpk.val {k:Key}:∀{kvs:List (Key×V)}{ps:List (D×D)},Rpk K F kvs ps->(match valD ps k with|some d=>∃v,valV kvs k=some v/\Rp K F v d|none=>valV kvs k=none)
 | _,_,.nil=>rfl
 | _,_,.cons (k:=k') h hs=>by
  have ih:=hs.val (k:=k);by_cases e:k'=k
  ·subst e;simp only[valD,valV,z0E,u4P,decide_true,Option.map_some];exact⟨_,rfl,h⟩
  ·simp only[valD,valV,z0E,u4P,e,decide_false] at ih |-;exact ih
end
noncomputable def getD' (ρ:Rho) (i:Nat):Res (List (D×D)):=match ρ[i]? with
 | some (some (.own (.d kvs)))=>.ok kvs
 | _=>.bad
set_option tactic.hygienic true in
def getD'_ok {ρ:Rho}{i:Nat}{P:List (D×D)->Prop}{E:D->Prop} (h:(getD' ρ i).all P E):∃kvs,ρ[i]?=some (some (.own (.d kvs)))/\P kvs:=by
 unfold getD' at h;split at h
 ·rename_i kvs e;exact⟨kvs,e,h⟩
 ·exact h.elim
section
variable {X:Cx}{xq:XQ}{i value:Expr}{fi fv:Rho->Res D}{x:Str}{p pos pos':Pos}
noncomputable def fPutD (j:Nat) (fi fv:Rho->Res D) (ρ:Rho):Out:=(fv ρ).go ρ λd=>(getD' ρ j).go ρ λps=>(fi ρ).go ρ λkd=>(keyK kd).go ρ λk=>if ps.length<sizeLine then .nx (ρ.set j (some (.own (.d (putD ps k d))))) else .bad
def u7v (j:Nat) (hu:X.A.units+200<cLine) (hi:DE X xq i fi) (hv:DE X xq value fv) (hN:X.N[j]?=some x:=by rfl) (hvs:Vis X.env.scope x:=by first|exact Or.inl rfl|exact Or.inr (Or.inl rfl)|exact Or.inr (Or.inr rfl)) (hd:(x==("__debug__":Str))=false:=by decide) (hcd:(x==("__classdict__":Str))=false:=by decide)
  (hs:swapsWith value (some (.Subscript (.Name x p) i pos')) pos.line X.env=pure false:=by rfl):DS X xq (.Assign [.Subscript (.Name x p) i pos'] value pos) (fPutD j fi fv) :=
 DS.of (ps_dput (by omega) (u0v hN hvs hd hcd) hi.out hv.out hs) λB F ρ σ H T R q=>by
  have q:=q.out;unfold fPutD at q;refine⟨B,F,ρ,R,Res.all_mono (u0u q) (λd q1 v F1 H1 st pv=>?_) λ_ z=>errOf z⟩
  obtain⟨ps,eo,q2⟩:=getD'_ok (u0u q1);have R1:=R.step st;obtain⟨a,h,h1,h2,h3,h4,h5⟩:=R1.own j _ eo;refine⟨.ref a,h1,B,F1,ρ,R1,Res.all_mono (u0u q2) (λkd q3 y F3 H3 st3 py=>?_) λ_ z=>errOf z⟩
  have R3:=R1.step st3;obtain⟨k,ek,q4⟩:=u5l py (u0u q3);subst ek;obtain⟨a',h',g1,g2,g3,g4,g5⟩:=R3.own j _ eo;rw[h1] at g1;cases g1;cases g5 with
  | d hr =>
   by_cases hz:ps.length<sizeLine
   ·rw [if_pos hz] at q4
    exact⟨a,_,rfl,DPut.k g4 (by rw[hr.length];exact hz),q4 σ F3 _ (R3.write (e:=eo) h1 (.d (hr.put (pv.same st3.ff))))⟩
   ·rw[if_neg hz] at q4;exact q4.elim
noncomputable def dInA (w:World) (neg:Bool):D->D->Res D
 | x,.dct ps=>(keyK x).bind λk=>.ok (.bl (if neg=true then !(valD ps k).isSome else (valD ps k).isSome))
 | x,y=>dInN w neg x y
def u8v (w:World) (neg:Bool) (x:D) (ps:List (D×D)):dInA w neg x (.dct ps)=(keyK x).bind λk=>.ok (.bl (if neg=true then !(valD ps k).isSome else (valD ps k).isSome)):=by unfold dInA;rfl
def o_inA (hu:X.A.units+200<cLine):OpR X (compareOp .In) (rD X.K (dInA X.w false)):=by
 intro pins s σ H x y v u Q I rx ry z9116;obtain⟨F,dx,dy,fh,px,py,q⟩:=z9116;cases py with
 | @dK a kvs ps hq hr =>
  rw[u8v] at q;obtain⟨k,ek,q2⟩:=u5l px (Res.all_bind.mp q);subst ek;cases ry;refine d_in (by omega) I (DGet.k (fh _ _ hq)) rx λs' I'=>⟨.bl _,H,I',rfl,?_⟩
  have:=hr.val (k:=k)
  cases e:valD ps k with
  | none=>rw[e] at this q2;rw[this];exact q2 _ F H (Stp.refl fh) (.bl _)
  | some d=>rw[e] at this q2;obtain⟨z,hz,_⟩:=this;rw[hz];exact q2 _ F H (Stp.refl fh) (.bl _)
 | lst hq hs=>exact v2D hu pins s σ H x _ v u Q I rx ry ⟨F,dx,_,fh,px,.lst hq hs,q⟩
 | tup hq hs=>exact v2D hu pins s σ H x _ v u Q I rx ry ⟨F,dx,_,fh,px,.tup hq hs,q⟩
 | str hz=>exact v2D hu pins s σ H x _ v u Q I rx ry ⟨F,dx,_,fh,px,.str hz,q⟩
 | dn hq hs=>exact v2D hu pins s σ H x _ v u Q I rx ry ⟨F,dx,_,fh,px,.dn hq hs,q⟩
 | _=>cases dx<;>exact q.elim
end
noncomputable def fldD (C0:Addr) (f:Str):D->Res D
 | .ins C gs=>if C=C0 then (match gs.lookup f with|some d=>.ok d|none=>.bad) else .bad
 | _=>.bad
noncomputable def getI (ρ:Rho) (j:Nat):Res (Addr×Addr×List (Str×D)):=match ρ[j]? with
 | some (some (.own (.i a C gs)))=>.ok (a,C,gs)
 | _=>.bad
set_option tactic.hygienic true in
def v0W {ρ:Rho}{i:Nat}{P:Addr×Addr×List (Str×D)->Prop}{E:D->Prop} (h:(getI ρ i).all P E):∃a C gs,ρ[i]?=some (some (.own (.i a C gs)))/\P (a,C,gs):=by
 unfold getI at h;split at h
 ·rename_i a C gs e;exact⟨a,C,gs,e,h⟩
 ·exact h.elim
section
variable {X:Cx}{xq:XQ}{o e value:Expr}{es:List Expr}{fo fv:Rho->Res D}{fs:Rho->Res (List D)}{f x m:Str}{p pos pos' apos:Pos}{C0:Addr}
def u4s {K:W.Frag} (c:Cls K C0) (n:NoAttr K C0 f) (ho:DE X xq o fo) (eK:X.K=K:=by rfl) (hb:attributeBase o f X.env (eval o X.env)=eval o X.env:=by rfl):DE X xq (.Attribute o f pos) (λρ=>(fo ρ).bind (fldD C0 f)):=by
 subst eK;refine DE.of (u4G ho.out hb) λB F ρ σ H Q R q=>seqE R q λd v F1 H1 s1 R1 p1 q1=>?_
 cases p1 with
 | @ins a C dx gs0 gs h1 h2 =>
  unfold fldD at q1;dsimp only at q1;by_cases hc:C=C0
  ·rw [if_pos hc] at q1
   subst hc;cases hl:gs.lookup f with
   | none=>rw[hl] at q1;exact q1.elim
   | some d =>
    rw[hl] at q1;obtain⟨v,hv,pv⟩:=h2.lookup hl;exact⟨a,C,dx,gs0,v,rfl,R1.fh _ _ h1,c,n,hv,q1 v F1 H1 s1 pv⟩
  ·rw[if_neg hc] at q1;exact q1.elim
 | _=>exact q1.elim
def v3T {K:W.Frag} (j:Nat) (c:Cls K C0) (n:NoAttr K C0 f) (eK:X.K=K:=by rfl) (hN:X.N[j]?=some x:=by rfl) (hvs:Vis X.env.scope x:=by first|exact Or.inl rfl|exact Or.inr (Or.inl rfl)|exact Or.inr (Or.inr rfl)) (hd:(x==("__debug__":Str))=false:=by decide) (hcd:(x==("__classdict__":Str))=false:=by decide)
  (hb:attributeBase (.Name x p) f X.env (eval (.Name x p) X.env)=eval (.Name x p) X.env:=by rfl):DE X xq (.Attribute (.Name x p) f pos) (λρ=>(getI ρ j).bind λt=>if t.2.1=C0 then (match t.2.2.lookup f with|some d=>.ok d|none=>.bad) else .bad):=by
 subst eK;refine DE.of (u4G (u0v hN hvs hd hcd) hb) λB F ρ σ H Q R q=>?_
 obtain⟨a,C,gs,e1,q1⟩:=v0W (Res.all_bind.mp q);obtain⟨a',h,h1,h2,h3,h4,h5⟩:=R.own j _ e1;cases h5 with
 | @i _ dx fs0 _ hr =>
  dsimp only at q1;by_cases hc:C=C0
  ·rw [if_pos hc] at q1
   subst hc;cases hl:gs.lookup f with
   | none=>rw[hl] at q1;exact q1.elim
   | some d =>
    rw[hl] at q1;obtain⟨v,hv,pv⟩:=hr.lookup hl;exact⟨.ref a,h1,a,C,dx,fs0,v,rfl,h4,c,n,hv,q1 v F H (Stp.refl R.fh) pv⟩
  ·rw[if_neg hc] at q1;exact q1.elim
theorem Rpf.length {K:W.Frag}{F:Hp}:∀{fs:List (Str×V)}{gs:List (Str×D)},Rpf K F fs gs->fs.length=gs.length
 | _,_,.nil=>rfl
 | _,_,.cons _ hs=>congrArg (·+1) hs.length
noncomputable def putG (f:Str) (d:D):List (Str×D)->List (Str×D)
 | []=>[(f,d)]
 | (g,x)::r=>if g=f then (g,d)::r else (g,x)::putG f d r
theorem Rpf.put {K:W.Frag}{F:Hp}{f:Str}{v:V}{d:D} (pd:Rp K F v d):∀{fs:List (Str×V)}{gs:List (Str×D)},Rpf K F fs gs->Rpf K F (putF f v fs) (putG f d gs)
 | _,_,.nil=>.cons pd .nil
 | _,_,.cons (k:=k) h hs=>by
  unfold putF putG;by_cases e:k=f
  ·rw[if_pos e,if_pos e];exact .cons pd hs
  ·rw[if_neg e,if_neg e];exact .cons h (hs.put pd)
def u1Y {K:W.Frag} (j:Nat) (c:Cls K C0) (n:NoAttr K C0 f) (hv:DE X xq value fv) (eK:X.K=K:=by rfl) (hN:X.N[j]?=some x:=by rfl) (hvs:Vis X.env.scope x:=by first|exact Or.inl rfl|exact Or.inr (Or.inl rfl)|exact Or.inr (Or.inr rfl)) (hd:(x==("__debug__":Str))=false:=by decide) (hcd:(x==("__classdict__":Str))=false:=by decide)
  (hs:swapsWith value (some (.Attribute (.Name x p) f pos')) pos.line X.env=pure false:=by rfl) :
  DS X xq (.Assign [.Attribute (.Name x p) f pos'] value pos) (λρ=>(fv ρ).go ρ λd=>(getI ρ j).go ρ λt=>if t.2.1=C0/\t.2.2.length<1000 then .nx (ρ.set j (some (.own (.i t.1 t.2.1 (putG f d t.2.2))))) else .bad):=by
 subst eK;refine DS.of (u4F (u0v hN hvs hd hcd) hv.out hs) λB F ρ σ H T R q=>⟨B,F,ρ,R,Res.all_mono (u0u q.out) (λd q1 v F1 H1 st pv=>?_) λ_ z=>errOf z⟩
 obtain⟨a,C,gs,e1,q2⟩:=v0W (u0u q1);have R1:=R.step st;obtain⟨a',h,h1,h2,h3,h4,h5⟩:=R1.own j _ e1;cases h5 with
 | @i _ dx fs0 _ hr =>
  dsimp only at q2;by_cases hc:C=C0/\gs.length<1000
  ·rw [if_pos hc] at q2
   obtain⟨rfl,hl⟩:=hc;exact⟨.ref a,h1,a,C,dx,fs0,rfl,h4,c,n,by rw[hr.length];exact hl,q2 σ F1 _ (R1.write (e:=e1) h1 (.i (hr.put pv)))⟩
  ·rw[if_neg hc] at q2;exact q2.elim
noncomputable def isI (C0:Addr) (m:Str) (x:D):Res D:=match x with
 | .ins C gs=>if C=C0/\gs.lookup m=none then .ok x else .bad
 | _=>.bad
theorem u3V {K:W.Frag}{F:Hp}{m:Str}:∀{fs:List (Str×V)}{gs:List (Str×D)},Rpf K F fs gs->gs.lookup m=none->fs.lookup m=none
 | _,_,.nil,_=>rfl
 | _,_,.cons (k:=k) h hs,e=>by
  rw[t9] at e |-
  cases q:m==k with
  | true=>rw[q] at e;cases e
  | false=>rw[q] at e;exact u3V hs e
def v0L {K:W.Frag}{F:Hp}{v:V}{d:D}{m:Str}{P:D->Prop}{E:D->Prop} (p:Rp K F v d) (h:(isI C0 m d).all P E):∃a dx fs,v=.ref a/\F a=some (.ins C0 dx fs)/\fs.lookup m=none/\P d:=by
 cases p with
 | @ins a C dx fs gs h1 h2 =>
  unfold isI at h;dsimp only at h;by_cases hc:C=C0/\gs.lookup m=none
  ·rw [if_pos hc] at h
   obtain⟨rfl,hl⟩:=hc;exact⟨a,dx,fs,rfl,h1,u3V h2 hl,h⟩
  ·rw[if_neg hc] at h;exact h.elim
 | _=>exact h.elim
end
noncomputable def wo (H:Hp) (a:Addr):Hp:=λb=>if b=a then none else H b
def wo_at (H:Hp) (a:Addr):wo H a a=none:=if_pos rfl
def wo_ne {H:Hp}{a b:Addr} (h:b≠a):wo H a b=H b:=if_neg h
def u9B (H:Hp) (a:Addr):Same (wo H a) H:=λb o e=>by
 by_cases z:b=a
 ·subst z;rw[wo_at] at e;cases e
 ·rw[wo_ne z] at e;exact e
noncomputable def startI (n:Nat) (a C:Addr) (ds:List D):Rho:=some (.own (.i a C []))::startD (n - 1) ds
noncomputable def outI (a C:Addr):Out->Res (List (Str×D))
 | .nx ρ=>match ρ[(0:Nat)]? with
  | some (some (.own (.i a' C' gs)))=>if a'=a/\C'=C then .ok gs else .bad
  | _=>.bad
 | .er x _=>.err x
 | _=>.bad
def u2A {n:Nat}{ds:List D}{i:Nat}{o:OD}:(startD n ds)[i]?≠some (some (.own o)):=λe=>by
 unfold startD at e;rw[z2A] at e;split at e
 ·rw [w9] at e
  cases q:ds[i]? with
  | none=>rw[q] at e;cases e
  | some d'=>rw[q] at e;cases e
 ·rw [z0I] at e
  split at e<;>simp at e
def v1C {K:W.Frag}{F H:Hp}{N:List Str}{a C dx:Addr}{rest:List V}{ds:List D} (fh:Same F H) (fa:F a=none) (ha:H a=some (.ins C dx [])) (r:Rps K F rest ds) :
  Rel K (F,wo H a) (startI N.length a C ds) (start N (.ref a::rest)) F H:=by
 have e:start N (.ref a::rest)=some (.ref a)::start N.tail rest:=by
  unfold start;rw[u9,List.cons_append,s9,List.length_tail,Nat.sub_sub,Nat.add_comm 1]
 have R0:Rel K (F,H) (startD (N.length - 1) ds) (start N.tail rest) F H:=by
  have:=r.begin (N:=N.tail) fh
  rwa [List.length_tail] at this
 rw[e];unfold startI;refine⟨⟨Same.refl F,fh,u9B H a,λ_ n _=>n⟩,by simp[R0.len],λi d q=>?_,λi o q=>?_,λi j o u b q1 q2 x y=>?_⟩
 ·cases i with
  | zero=>cases q
  | succ i=>exact R0.val i d q
 ·cases i with
  | zero=>cases q;exact⟨a,_,rfl,fa,wo_at H a,ha,.i .nil⟩
  | succ i=>exact absurd q u2A
 ·cases i with
  | zero =>
   cases j with
   | zero=>rfl
   | succ j=>exact absurd q2 u2A
  | succ i=>exact absurd q1 u2A
section
variable {X:Cx}{pins:LO}{σ:St}{H:Hp}{s:Shared}{F:Hp}
def v3H {v:V}{u:Value}{d:D}{t:String} (I:Inv X pins σ H s) (rx:RelV v u) (fh:Same F H) (pv:Rp X.K F v d) (ht:tyN d=some t):∃Hh:Heap->Prop,W.KitX X.K u (.type t) Hh/\Hh s.heap/\u≠.builtin "__main__.__loader__#opaque":=by
 cases pv with
 | non=>cases ht;cases (show u=Value.none from rx);exact⟨_,W.kitx_none,True.intro,λz=>nomatch z⟩
 | bl y=>cases ht;cases (show u=Value.bool y from rx);exact⟨_,W.kitx_bool,True.intro,λz=>nomatch z⟩
 | int i=>cases ht;obtain⟨t,q⟩:=(show ∃t,u=Value.int i t from rx);cases q;exact⟨_,W.kitx_int,True.intro,λz=>nomatch z⟩
 | @str z hz=>cases ht;obtain⟨t,q⟩:=(show ∃t,u=Value.str z t from rx);cases q;exact⟨_,W.kitx_str,True.intro,λz=>nomatch z⟩
 | ty T=>cases ht
 | @lst a xs ds hq hs =>
  cases ht;cases (show u=Value.ref a from rx)
  obtain⟨z,its,n,r,hl,e⟩:=I.lstR (hq.same fh);exact⟨_,W.kitx_list,⟨_,e,rfl⟩,λz=>nomatch z⟩
 | @tup a xs ds hq hs =>
  cases ht;cases (show u=Value.ref a from rx)
  obtain⟨its,r,p,hz⟩:=I.tuple (fh.seqT hq);obtain⟨ob,h1,h2,_⟩:=p;exact⟨_,W.kitx_tuple,⟨ob,h1,h2⟩,λz=>nomatch z⟩
 | @dK a kvs ps hq hs =>
  cases ht;cases (show u=Value.ref a from rx)
  obtain⟨_,_,vs,_,p⟩:=(show ObjOk X.prog X.w H s.heap a (.dK kvs) from I.hok a _ (fh _ _ hq))
  obtain⟨ob,es,ep,h1,h2,_⟩:=p;exact⟨_,W.kitx_dict,⟨ob,h1,h2.1⟩,λz=>nomatch z⟩
 | ins hq hs=>cases ht
 | exc hq hr hs=>cases ht
 | dn hq hs=>cases ht
 | hdl a=>cases ht
noncomputable def isTs (t:String):List String->Option Bool
 | []=>some false
 | T::r=>match isT t T with
  | some true=>some true
  | some false=>isTs t r
  | none=>none
theorem u7Z (K:W.Frag) {d:D}{t:String} (ht:tyN d=some t):∀{Ts:List String}{b:Bool},isTs t Ts=some b->W.kitAny K (.type t) (Ts.map Value.type)=some b
 | [],_,e=>by cases e;rfl
 | T::r,b,e=>by
  simp only[isTs] at e;cases q:isT t T with
  | none=>rw[q] at e;cases e
  | some c =>
   rw[q] at e;simp only[u9,W.kitAny,v0K K ht q];cases c with
   | true=>exact e
   | false=>exact u7Z K ht e
noncomputable def tysOf:List D->Option (List String)
 | []=>some []
 | .ty T::r=>(tysOf r).map (T::·)
 | _=>none
theorem u4v {K:W.Frag}:∀{ts:List D}{Ts:List String}{xs:List V}{us:List Value},tysOf ts=some Ts->Rps K F xs ts->Vals xs us->us=Ts.map Value.type
 | [],_,_,_,e,p,r=>by cases e;cases p;cases r;rfl
 | d::ts,Ts,_,_,e,p,r=>by
  cases d<;>simp only[tysOf,reduceCtorEq] at e
  cases q:tysOf ts with
  | none=>rw[q] at e;cases e
  | some Ts' =>
   rw[q] at e;cases e;cases p with
   | cons p1 p2 =>
    cases p1;cases r with
    | cons r1 r2=>cases r1;rw[u4v q p2 r2];rfl
noncomputable def isAny (d:D) (ts:List D):Res D:=match tyN d with
 | some t=>match tysOf ts with
  | some Ts=>match isTs t Ts with
   | some b=>.ok (.bl b)
   | none=>.bad
  | none=>.bad
 | none=>.bad
noncomputable def gIsA:List D->Res D
 | [d,.tup ts]=>isAny d ts
 | ds=>gIs ds
set_option tactic.hygienic true in
def u4u:CallR X (.builtin "isinstance") (rDs X.K gIsA):=by
 intro pins s σ H xs us Q I r z9117;obtain⟨F,ds,fh,ps,q⟩:=z9117;unfold gIsA at q;split at q
 ·rename_i d ts
  obtain⟨v,w,rfl,pv,pw⟩:=rps2 ps;unfold isAny at q;cases ht:tyN d with
  | none=>rw[ht] at q;exact q.elim
  | some t =>
   rw[ht] at q;cases hT:tysOf ts with
   | none=>simp only[hT] at q;exact q.elim
   | some Ts =>
    simp only[hT] at q;cases hb:isTs t Ts with
    | none=>simp only[hb] at q;exact q.elim
    | some bb =>
     simp only[hb] at q;cases pw with
     | @tup a zs _ hq hs =>
      obtain⟨u,u',rfl,ru,ru'⟩:=vals2 r;cases ru';obtain⟨its,rv,p,hz⟩:=I.tuple (fh.seqT hq);obtain⟨⟨cls,dd,data,sl⟩,ho,hc,n,hd⟩:=p;dsimp only at hc hd;subst hc hd;obtain⟨Hh,Z,hh,ne⟩:=v3H I ru fh pv ht;have ei:=u4v hT hs rv;exact W.kia_tup Z I.kIn hh ho (by rw[ei];exact u7Z X.K ht hb) ne λtk=>⟨.bl bb,H,I.tok _,rfl,q _ F H (Stp.refl fh) (.bl bb)⟩
 ·exact v3r pins s σ H xs us Q I r ⟨F,ds,fh,ps,q⟩
end
section
variable {X:Cx}{xq:XQ}{a b c:Expr}{fa fb fc:Rho->Res D}{pos:Pos}
def u9v {K:W.Frag}{g g':D->D->Res D}{σ:St}{H:Hp}{Q:VK} (h:liftE K xq (λρ=>(fa ρ).bind λx=>(fb ρ).bind λy=>fChain g g' x y (fc ρ)) σ H Q):tChain (rD K g) (rD K g') (liftE K xq fa) (liftE K xq fb) (liftE K xq fc) σ H Q:=by
 obtain⟨B,F,ρ,R,q⟩:=h;exact seqE R q λd v F1 H1 s1 R1 p1 q1=>seqE R1 q1 λd2 v2 F2 H2 s2 R2 p2 q2=>by
  refine⟨F2,d,d2,R2.fh,p1.same s2.ff,p2,?_⟩;unfold fChain at q2;have q3:=Res.all_bind.mp q2;generalize g d d2=r at q3;cases r with
  | err x=>exact q3
  | bad=>exact q3
  | ok w =>
   obtain⟨k,rfl,q4⟩:=u4l (Res.all_bind.mp (show((asB w).bind _).all _ _ from q3))
   intro v3 F3 H3 s3 p3;refine⟨k,p3.blI,?_⟩;have s03:=(s1.trans s2).trans s3;cases k with
   | false=>exact q4 (.bl false) F3 H3 s03 (.bl false)
   | true=>exact seqE (R2.step s3) q4 λd4 v4 F4 H4 s4 R4 p4 q5=>⟨F4,d2,d4,R4.fh,(p2.same s3.ff).same s4.ff,p4,doneN (s03.trans s4) q5⟩
def u8k {op op':CmpOp}{g g':D->D->Res D} (ho:OpR X (compareOp op) (rD X.K g)) (ho':OpR X (compareOp op') (rD X.K g')) (ha:DE X xq a fa) (hb:DE X xq b fb) (hc:DE X xq c fc) (hm:lastMarks [op,op'] [b,c]=false:=by with_unfolding_all rfl) :
  DT X xq (.Compare a [op,op'] [b,c] pos) (λρ=>((fa ρ).bind λx=>(fb ρ).bind λy=>fChain g g' x y (fc ρ)).bind asB) :=
 DT.of (v2m ho ho' ha.out hb.out hc.out hm) λB F ρ σ H Q R q=>u9v (tfrz (P:=λ_=>True) R q)
end
def u5h (t:SetTable) (n:Nat):(t.orStandIn n).led=t.led:=by
 unfold SetTable.orStandIn
 split<;>rfl
def u9n (t:SetTable) (es:Array (Int×Value)) (h:Int) (x:Value):(layNew t es h x).2.1.led=t.led:=by
 unfold layNew;split
 ·exact u5h _ _
 ·rfl
def u3c {t t':SetTable}{hs:Array Int}{n:Nat}{o:Array Nat} (e:t.relaid hs n=some (t',o)):t'.led=t.led/\t'.plain=t.plain:=by
 unfold SetTable.relaid SetTable.laid at e;cases q:SetTable.layClean (SetTable.sizeAbove n - 1) hs with
 | none=>rw[q] at e;cases e
 | some ow=>rw[q] at e;cases e;exact⟨rfl,rfl⟩
set_option tactic.hygienic true in
def u5R (t:SetTable) (es:Array (Int×Value)) (n:Nat):(relayAll t es n).2.1.led=t.led:=by
 unfold relayAll;split
 ·rename_i t' order e
  dsimp only;split
  ·exact(u3c e).1
  ·rfl
 ·rfl
set_option tactic.hygienic true in
def u4p (t:SetTable) (es:Array (Int×Value)) (n:Nat) (q:t.plain=false):(relayAll t es n).2.1.plain=false:=by
 unfold relayAll;split
 ·rename_i t' order e
  dsimp only;split
  ·exact(u3c e).2.trans q
  ·rfl
 ·rfl
noncomputable def addT (ss:List Str) (x:Str):List Str:=if x∈ss then ss else ss++[x]
def SetT (P:Program) (w:World) (h:Heap) (a:Addr) (ss:List Str):Prop :=
 ∃o es ep t,h.get? a=some o/\o.ExactSet/\o.data=.set es ep t/\ElemsOf (PySem.strKind P w) es.toList/\(es.toList.map λe=>strOf e.2).Perm ss/\ss.Nodup/\es.size<scanBound/\t.fits es.size=true /\
  t.led=(!w.params.followText "set-order")/\(0<es.size->t.plain=false)
section
variable {P:Program}{w:World}{A:Around}{E:VP}{s:Shared}
def u8j {es:List (Int×Value)} (h:ElemsOf (PySem.strKind P w) es) {e:Int×Value} (he:e∈es):∃x t,e.2=.str x t:=by
 obtain⟨⟨k,hk,_⟩,_⟩:=h e he;obtain⟨t,q⟩:=Value.isStrOf_shape hk;exact⟨k,t,q⟩
def v1i {es:List (Int×Value)} (h:ElemsOf (PySem.strKind P w) es) {e:Int×Value} (he:e∈es) (x:Str):(PySem.strKind P w).is x e.2=decide (strOf e.2=x):=by
 obtain⟨y,t,q⟩:=u8j h he;rw[q];show Value.isStrOf x (.str y t)=_;show(y==x)=decide (y=x);by_cases q:y=x
 ·subst q;simp
 ·rw[decide_eq_false q];exact beq_eq_false_iff_ne.mpr q
def v0Y {es:List (Int×Value)}{x:Str}{ss:List Str} (h:ElemsOf (PySem.strKind P w) es) (p:(es.map λe=>strOf e.2).Perm ss) (q:es.findIdx? (λe=>(PySem.strKind P w).is x e.2)=none):x∉ss:=λm=>by
 obtain⟨e,he,ee⟩:=z0C.mp (p.mem_iff.mpr m)
 have:=List.findIdx?_eq_none_iff.mp q e he
 rw[v1i h he,decide_eq_false_iff_not] at this;exact this ee
def v0X {es:List (Int×Value)}{x:Str}{ss:List Str}{j:Nat} (h:ElemsOf (PySem.strKind P w) es) (p:(es.map λe=>strOf e.2).Perm ss) (q:es.findIdx? (λe=>(PySem.strKind P w).is x e.2)=some j):x∈ss:=by
 obtain⟨hj,hp,_⟩:=List.findIdx?_eq_some_iff_getElem.mp q;have he:es[j]∈es:=z2B hj;rw[v1i h he,decide_eq_true_eq] at hp;exact p.mem_iff.mp (z0C.mpr ⟨_,he,hp⟩)
def storeT {a:Addr}{o:Obj}{es es':Array (Int×Value)}{ep:Nat}{t t':SetTable}{ss:List Str} (ho:s.heap.get? a=some o) (hex:o.ExactSet) (hd:o.data=.set es ep t) (el:ElemsOf (PySem.strKind P w) es'.toList)
  (p:(es'.toList.map λe=>strOf e.2).Perm ss) (nd:ss.Nodup) (hb:es'.size<scanBound) (hf:t'.fits es'.size=true) (hl:t'.led=(!w.params.followText "set-order")) (hp:t'.plain=false) :
  (s.heap.update a (Obj.putSet es' t')).get? a=some { o with data:=.set es' (ep+1) t' }/\SetT P w (s.heap.update a (Obj.putSet es' t')) a ss:=by
 obtain⟨g,_⟩:=SetOf_store (knd:=PySem.strKind P w) (S':=λk=>es'.toList.any λe=>(PySem.strKind P w).is k e.2) ho hex hd el (λk=>List.any_eq_true) hb hf
 exact⟨g,_,es',ep+1,t',g,hex,rfl,el,p,nd,hb,hf,hl,λ_=>hp⟩
def u6G {g:Bool->Sem Unit} (hg:∀(b:Bool) (s₁:Shared) (Q':Unit->Shared->Prop),Q' () s₁->wpAny (model P w) A (g b) Q' E s₁) {a:Addr}{o:Obj}{es es1:Array (Int×Value)}{ep:Nat}{t t2:SetTable}{ss:List Str}
  (ho:s.heap.get? a=some o) (hex:o.ExactSet) (hd:o.data=.set es ep t) (el:ElemsOf (PySem.strKind P w) es1.toList) (p:(es1.toList.map λe=>strOf e.2).Perm ss) (nd:ss.Nodup) (hb:es1.size<scanBound)
  (hf:t2.fits es1.size=true) (hl:t2.led=(!w.params.followText "set-order")) (hp:t2.plain=false) {wd:Bool}{R:Option Bool->Shared->Prop} (h:∀h',Heap.SameBut a s.heap h'->SetT P w h' a ss->R (some true) { s with heap:=h' }) :
  wpAny (model P w) A (do
    storeSet a es1 t2
    if (!wd&&t2.tooFull)=true then do
        g (relayAll t2 es1 (SetTable.grown es1.size)).2.2
        storeSet a (relayAll t2 es1 (SetTable.grown es1.size)).1 (relayAll t2 es1 (SetTable.grown es1.size)).2.1
        pure (some true)
     else pure (some true)) R E s:=by
 refine wpAny_bind (wpAny_storeSet_of ho hd ?_ (fits_of_scanBound hb));obtain⟨o1,S1⟩:=storeT ho hex hd el p nd hb hf hl hp;have sb:=Heap.SameBut.update s.heap a (Obj.putSet es1 t2);split
 ·have q1:=relayAll_perm t2 es1 (SetTable.grown es1.size)
  have q2:=relayAll_fits t2 es1 (SetTable.grown es1.size);have q3:=u5R t2 es1 (SetTable.grown es1.size);have q4:=u4p t2 es1 (SetTable.grown es1.size) hp;generalize relayAll t2 es1 (SetTable.grown es1.size)=Z at q1 q2 q3 q4 |-
  obtain⟨es2,t3,gv⟩:=Z;dsimp only at q1 q2 q3 q4 |-
  have z:es2.size=es1.size:=by have:=q1.length_eq;simpa using this
  refine wpAny_bind (hg _ _ _ ?_);refine wpAny_bind (wpAny_storeSet_of o1 rfl ?_ (fits_of_scanBound (z ▸ hb)));obtain⟨_,S2⟩:=storeT (s:={ s with heap:=s.heap.update a (Obj.putSet es1 t2) }) o1 hex rfl (el.perm q1) ((q1.map _).trans p) nd (z ▸ hb) q2 (q3.trans hl) q4
  exact wpAny_pure (h _ (sb.trans (Heap.SameBut.update _ a _)) S2)
 ·exact wpAny_pure (h _ sb S1)
set_option tactic.hygienic true in
def setAddT {a:Addr}{ss:List Str}{x:Str}{tk:Tok}{Q:Bool->Shared->Prop} (hS:SetT P w s.heap a ss) (hr:ss.length+1<scanBound)
  (h:∀r h',Heap.SameBut a s.heap h'->SetT P w h' a (addT ss x)->Q r { s with heap:=h' }):wpAny (model P w) A (setAddHashed a (.str x tk) ((PySem.strKind P w).hash x)) Q E s:=by
 obtain⟨o,es,ep,t,ho,hex,hd,el,p,nd,hb,hf,hl,hp⟩:=id hS;have hn:es.size=ss.length:=by have:=p.length_eq;simpa using this
 have hk:(PySem.strKind P w).is x (.str x tk)=true:=strKind_is P w x tk;unfold setAddHashed setAddHashedIn;refine wpAny_holding (wpAny_bind (wpAny_setState_of ho hd hf ?_));dsimp only;rw[byScan_of (knd:=PySem.strKind P w) (x:=.str x tk) rfl hb el];simp only[↓reduceIte];unfold setAddByScan;refine wpAny_bind ?_;refine wpAny_bind (wpAny_rule ?_);refine wpAny_bind (wpAny_setScan_of hk ho hd hf el ?_);cases hr':List.findIdx? (λe=>(PySem.strKind P w).is x e.2) es.toList with
 | some j =>
  dsimp only;refine wpAny_pure (wpAny_pure ?_);have m:=v0X el p hr'
  have:=h false s.heap (Heap.SameBut.refl a s.heap) (by unfold addT;rw[if_pos m];exact hS)
  exact this
 | none =>
  dsimp only;have m:=v0Y el p hr';have q1:=layNew_perm t es ((PySem.strKind P w).hash x) (.str x tk);have q2:=layNew_fits t es ((PySem.strKind P w).hash x) (.str x tk);have q3:=u9n t es ((PySem.strKind P w).hash x) (.str x tk);generalize layNew t es ((PySem.strKind P w).hash x) (.str x tk)=Z at q1 q2 q3 |-
  obtain⟨es1,t1,wd,gv⟩:=Z;dsimp only at q1 q2 q3 |-
  rw[Array.toList_push] at q1;have el1:ElemsOf (PySem.strKind P w) es1.toList:=(el.push hk rfl).perm q1;have p1:(es1.toList.map λe=>strOf e.2).Perm (addT ss x):=by
   unfold addT;rw[if_neg m];refine(q1.map _).trans ?_;rw[z0J];exact p.append (List.Perm.refl _)
  have nd1:(addT ss x).Nodup:=by
   unfold addT;rw[if_neg m,List.nodup_append];exact⟨nd,by simp,λy hy z hz e=>by rw[v9] at hz;subst hz;subst e;exact m hy⟩
  have hb1:es1.size<scanBound:=by
   have:=q1.length_eq
   simp at this;omega
  have hg:∀(b:Bool) (s₁:Shared) (Q':Unit->Shared->Prop),Q' () s₁->wpAny (model P w) A (match b with|true=>rule "set.scan.the-table-gave-way" | false=>pure ()) Q' E s₁:=λb s₁ Q' hq=>by
   cases b<;>first|exact wpAny_pure hq|exact wpAny_rule hq
  refine wpAny_bind (hg _ _ _ ?_);split
  ·refine wpAny_bind ?_
   rw[hashByValue_scannable 8 (x:=.str x tk) rfl];refine wpAny_pure ?_;refine u6G hg ho hex hd el1 p1 nd1 hb1 ?_ ?_ ?_ λh' sb S'=>wpAny_pure (h true h' sb S')
   ·exact SetTable.fits_plain_off q2
   ·exact q3.trans hl
   ·rfl
  ·rename_i hpl
   refine wpAny_bind (wpAny_pure ?_);simp only[↓reduceIte];exact u6G hg ho hex hd el1 p1 nd1 hb1 q2 (q3.trans hl) (by simpa using hpl) λh' sb S'=>wpAny_pure (h true h' sb S')
end
noncomputable def setOfT (ss:List Str):List Str:=ss.foldl addT []
def u8A (ss:List Str) (x:Str):(addT ss x).length<=ss.length+1:=by unfold addT;split<;>simp
theorem u4e:∀(xs ss:List Str),(xs.foldl addT ss).length<=ss.length+xs.length
 | [],ss=>by simp
 | x::xs,ss=>by
  have:=u4e xs (addT ss x)
  have:=u8A ss x
  simp only[z2J,s9];omega
theorem u6o:∀(xs ss:List Str) (y:Str),y∈xs.foldl addT ss↔y∈ss\/y∈xs
 | [],ss,y=>by simp
 | x::xs,ss,y=>by
  rw[z2J,u6o xs,y7];unfold addT;by_cases q:x∈ss
  ·rw [if_pos q]
   constructor
   ·rintro (h | h)
    ·exact .inl h
    ·exact .inr (.inr h)
   ·rintro (h | rfl | h)
    ·exact .inl h
    ·exact .inl q
    ·exact .inr h
  ·rw[if_neg q,z0G,v9,or_assoc]
def u0P {ss:List Str}{y:Str}:y∈setOfT ss↔y∈ss:=by unfold setOfT;rw[u6o];simp
set_option tactic.hygienic true in
def u4S {ss:List Str}{x:Str} (h:ss.Nodup):(addT ss x).Nodup:=by
 unfold addT;split
 ·exact h
 ·rename_i m
  rw[List.nodup_append];exact⟨h,by simp,λy hy z hz e=>by rw[v9] at hz;subst hz;subst e;exact m hy⟩
theorem u4d:∀(xs ss:List Str),ss.Nodup->(xs.foldl addT ss).Nodup
 | [],_,h=>h
 | _::xs,_,h=>u4d xs _ (u4S h)
def u3a (ss:List Str):(setOfT ss).Nodup:=u4d ss [] List.nodup_nil
theorem u4x:∀{vs:List Value}{ss:List Str},StrsAre vs ss->∀(i:Nat) (v:Value),vs[i]?=some v->∃x t,ss[i]?=some x/\v=.str x t
 | _,_,.cons x t h,0,v,e=>by cases e;exact⟨x,t,rfl,rfl⟩
 | _,_,.cons x t h,i+1,v,e=>u4x h i v (by simpa using e)
section
variable {P:Program}{w:World}{A:Around}{E:VP}{s:Shared}
def SetT.keep {h h':Heap}{a:Addr}{ss:List Str} (x:SetT P w h a ss) (k:∀o,h.get? a=some o->h'.get? a=some o):SetT P w h' a ss:=by
 obtain⟨o,es,ep,t,ho,r⟩:=x;exact⟨o,es,ep,t,k _ ho,r⟩
theorem SetT.fresh {h:Heap}{a:Addr} (e:h.get? a=some { cls:=.type "set",dict:=none,data:=.set #[] 0 (.fresh 0 0 (!w.params.followText "set-order")) }):SetT P w h a [] :=
 ⟨_,#[],0,_,e,⟨rfl,rfl,rfl⟩,rfl,λe he=>by simp at he,List.Perm.refl _,List.nodup_nil,by decide,by rfl,rfl,λq=>absurd q (by decide)⟩
def v1Y {I:Addr}{fp wr:List Addr}{G:Array GenState->Array GenState->Prop}{n:Nat}{Pp:Nat->Value->Prop}{St:Nat->Shared->Prop}{R:Result->Shared->Prop}{ss:List Str}
  (W:WalksS P w A.in1 I fp wr G n Pp St) (S:Addr) (hSf:S∉fp) (hn:ss.length=n) (hv:∀i v,Pp i v->∃x t,ss[i]?=some x/\v=.str x t) (hb:n+1<scanBound) :
  ∀(k i:Nat) (s:Shared),n - i=k->i<=n->St i s->SetT P w s.heap S (setOfT (ss.take i))->(∀s',Moved (S::wr) G s s'->SetT P w s'.heap S (setOfT ss)->R (.ok (.ret .none)) s') ->
   codeAny (model P w) A (.builtin "set.update.loop" ⟨[.ref S,.ref I],[]⟩) R s:=by
 have hSw:S∉wr:=λh=>hSf (W.sub _ h)
 have up:∀b∈wr,b∈S::wr:=λb hb=>y1 _ hb
 intro k;induction k with
 | zero =>
  intro i s hk hi st hS hR;have e:i=n:=by omega
  subst e;refine codeAny_builtin F.entry_set_update_loop ?_;rw[Around.under_plainId F.plain_set_update_loop _];refine wpAny_bind (m:=pyNext (.ref I)) (W.done s _ _ st λs' hm=>?_)
  refine wpAny_pure (hR s' (hm.mono up) ?_);have q:=hS.keep (h':=s'.heap) λo=>hm.heap S o hSw
  rwa [List.take_of_length_le (by omega)] at q
 | succ k ih =>
  intro i s hk hi st hS hR;have lt:i<n:=by omega
  refine codeAny_builtin F.entry_set_update_loop ?_;rw[Around.under_plainId F.plain_set_update_loop _];refine wpAny_bind (m:=pyNext (.ref I)) (W.item i s _ _ lt st λv s' pv st' hm=>?_)
  obtain⟨x,t,hx,rfl⟩:=hv i v pv;have S1:=hS.keep (h':=s'.heap) λo=>hm.heap S o hSw
  show wpAny _ A.in1 (holding [Value.str x t] (setAdd S (.str x t)) >>= _) _ _ s';refine wpAny_bind (wpAny_holding ?_);unfold setAdd;refine wpAny_holding (wpAny_bind ((PySem.strKind P w).pyHash (k:=x) (strKind_is P w x t) ?_));have room:(setOfT (ss.take i)).length+1<scanBound:=by
   have:=u4e (ss.take i) []
   have:(ss.take i).length<=i:=by simp;omega
   unfold setOfT;simp only[List.length_nil,Nat.zero_add] at *
   omega
  refine setAddT (s:={ s' with toks:=s'.toks+1 }) S1 room λr h' sb S2=>?_
  have e2:addT (setOfT (ss.take i)) x=setOfT (ss.take (i+1)):=by
   unfold setOfT;rw[List.take_add_one,hx];simp
  rw[e2] at S2;refine wpAny_pure ⟨plainId_quiet F.plain_set_update_loop _,ih (i+1) _ (by omega) lt (W.frame _ s' _ _ st' (Nat.le_succ _) λb hb o e=>?_) S2 λs'' hm2 S3=>?_⟩
  ·rw[sb.2 b (λh:b=S=>hSf (h ▸ hb))];exact e
  ·exact hR s'' (Moved.trans W.gtrans ((hm.mono up).then_heap (Nat.le_succ _) λb o hb e=>by rw[sb.2 b (λh:b=S=>hb (h ▸ z8))];exact e) hm2) S3
def set_new {a:Value}{Q₁:VP}
  (h:Q₁ (.ref s.heap.objs.size) { s with heap:=s.heap.push { cls:=.type "set",dict:=none,data:=.set #[] 0 (.fresh 0 0 (!w.params.followText "set-order")) } }) :
  codeAny (model P w) A (.call (.builtin "set.__new__") ⟨[.type "set",a],[]⟩) (wants Q₁ E) s:=by
 refine codeAny_of_tree (wpAny_bind (m:=checkBuiltinCall "set.__new__" ⟨[.type "set",a],[]⟩) (wpAny_of_eq (F.newCall_set_1 a) (wpAny_pure ⟨plainId_quiet F.plain_set_new _,codeAny_builtin F.entry_set_new ?_⟩)));rw[Around.under_plainId F.plain_set_new _];unfold Builtin.«set.__new__» Builtin.Frozenset.newClass;have hsub:=sub_set_self;obtain⟨hp,g,d,tk,os⟩:=s;dsimp only
 wp_walk
 refine wpAny_askSetting (wpAny_pure ?_);simp only[newObj];exact wpAny_bind (wpAny_alloc (wpAny_pure (wpAny_pure h)))
abbrev eSet (w:World):Obj:={ cls:=.type "set",dict:=none,data:=.set #[] 0 (.fresh 0 0 (!w.params.followText "set-order")) }
def SetMade (P:Program) (w:World) (s:Shared) (ss:List Str) (s₂:Shared):Prop:=∃h' tk,s₂={ s with heap:=h',toks:=tk }/\SetT P w h' s.heap.objs.size (setOfT ss)/\∀b o,b<s.heap.objs.size->s.heap.get? b=some o->h'.get? b=some o
set_option maxHeartbeats 3200000 in
def v1W {l:Addr}{items:Array Value}{ss:List Str} (hh:A.handled=none) (hl:s.heap.IsList l items) (hi:StrsAre items.toList ss) (hb:items.size+1<scanBound) :
  wpAny (model P w) A.in1 (Builtin.«set.__init__» ⟨[.ref s.heap.objs.size,.ref l],[]⟩)
   (λfin s'=>match fin with | .done f=>wants (λr s₂=>r=.none/\SetMade P w s ss s₂) E (.ok f) s' | .again c'=>c'.quiet=true/\codeAny (model P w) A c' (wants (λr s₂=>r=.none/\SetMade P w s ss s₂) E) s')
   (λe s'=>wants (λr s₂=>r=.none/\SetMade P w s ss s₂) E (.error e) s') { s with heap:=s.heap.push (eSet w) }:=by
 have hS:(s.heap.push (eSet w)).get? s.heap.objs.size=some (eSet w):=z6 _ rfl;have hT:Shared.TypeIs { s with heap:=s.heap.push (eSet w) } (.ref s.heap.objs.size) "set":=⟨_,hS,rfl⟩
 obtain⟨⟨oc,od,odt,osl⟩,hol,hcl,nl,hdl⟩:=hl;simp only at hcl hdl;subst hcl;subst hdl;have hol':(s.heap.push (eSet w)).get? l=some { cls:=.type "list",dict:=od,data:=.seq items nl,slots:=osl }:=z5 _ hol;have k1:=F.sub_list_set;have k2:=F.sub_list_frozenset;have k3:(Value.type "list"==Value.type "dict")=false:=by decide
 have hl1:(s.heap.push (eSet w)).IsList l items:=⟨_,hol',rfl,nl,rfl⟩;unfold Builtin.«set.__init__» noKeywords Builtin.Frozenset.updateFrom;generalize hPI:pyIter=PI
 wp_walk
 subst hPI;refine wpAny_pyIter_list hl1 (wpAny_bind (wpAny_runValue ?_));have lS:l<s.heap.objs.size:=z7 hol;have h3:A.in1.in1.handled=none:=by simp[hh]
 have z:(s.heap.push (eSet w)).objs.size=s.heap.objs.size+1:=Heap.size_push ..;have nI:l≠(s.heap.push (eSet w)).objs.size:=by rw[z];exact v5 (Nat.lt_succ_of_lt lS)
 have nS:s.heap.objs.size∉[(s.heap.push (eSet w)).objs.size,l]:=by
  rw[z];simp only[y7,r6,or_false,not_or];exact⟨v5 (Nat.lt_succ_self _),Nat.ne_of_gt lS⟩
 have hlen:ss.length=items.size:=by
  have e:=hi.strs
  have:(items.toList.map strOf).length=ss.length:=by rw[e]
  simpa using this.symm
 refine v1Y (ss:=ss) ((Walks.list h3 _ l nI items).toS) s.heap.objs.size nS hlen (λi v hv=>u4x hi i v (by rw[z1H];exact hv)) hb (items.size - 0) 0 _ (by omega) (z1A _)
  ⟨⟨_,z6 _ rfl,rfl,rfl⟩,hl1.push _⟩ (SetT.fresh (z5 _ hS)) ?_
 intro s' hm hS';obtain⟨h',g',d',tk',os'⟩:=s';have eg:g'=s.gens:=hm.gens;have ed:d'=s.drawn:=hm.drawn;have eo:os'=s.os:=hm.os;subst eg;subst ed;subst eo;refine wpAny_pure ?_;show wpAny _ _ (ret Value.none) _ _ _;refine wpAny_pure ⟨rfl,h',tk',rfl,hS',λb o hb e=>hm.heap b o ?_ (z5 _ (z5 _ e))⟩
 simp only[y7,r6,or_false,not_or,z];exact⟨v5 hb,v5 (Nat.lt_succ_of_lt hb)⟩
set_option maxHeartbeats 3200000 in
def v1Z {l:Addr}{items:Array Value}{ss:List Str}{Q:VP} (hh:A.handled=none) (hl:s.heap.IsList l items) (hi:StrsAre items.toList ss) (hb:items.size+1<scanBound)
  (h:∀s₂,SetMade P w s ss s₂->Q (.ref s.heap.objs.size) s₂):wpAny (model P w) A (call (.type "set") [.ref l]) Q E s:=by
 obtain⟨c,tl,hmro⟩:=F.called_set.mro;have hmade:=F.called_set.made;have hsub:=F.called_set.sub;refine wpAny_call (codeAny_of_tree (show wpAny _ _ (callAny (.type "set") _) _ _ _ from wpAny_pure ⟨Code.quiet_builtin _ (by decide +kernel),codeAny_builtin F.entry_type_call ?_⟩))
 rw[Around.under_plain (weight_type_call_type "set" [.ref l] []) rfl];have h1:=F.called_set.notType;have h2:=F.called_set.canCreate;have hct:=F.typeCall_set_1 (.ref l)
 repeat (any_goals (first|assumption|wp_step))
 refine codeAny_mono (set_new (a:=.ref l) (E:=E) (Q₁:=λobj s₁=>obj=.ref s.heap.objs.size/\s₁={ s with heap:=s.heap.push (eSet w) }) ⟨rfl,rfl⟩) λr s₁ hr=>?_
 cases r with
 | error e=>exact hr
 | ok fl =>
  cases fl with
  | ret obj =>
   obtain⟨rfl,rfl⟩:=hr;have hT:Shared.TypeIs { s with heap:=s.heap.push (eSet w) } (.ref s.heap.objs.size) "set":=⟨_,z6 _ rfl,rfl⟩
   have hli:=F.called_set.init.lookup;have hbi:=F.called_set.init.bind (.ref s.heap.objs.size)
   repeat (any_goals (first|assumption|wp_step))
   refine codeAny_mono (codeAny_call_builtin (R:=wants (λr s₂=>r=.none/\SetMade P w s ss s₂) E) F.called_set.init.plain F.entry_set_init (check_set_init_1 hT (v1W (by simp[hh]) hl hi hb))) λr₂ s₂ hr₂=>?_
   cases r₂ with
   | error e=>exact hr₂
   | ok fl₂ =>
    cases fl₂ with
    | ret r =>
     obtain⟨rfl,m⟩:=hr₂
     repeat (any_goals (first|assumption|wp_step))
     exact h _ m
    | _=>exact hr₂.elim
  | _=>exact hr.elim
end
def u6q:entryFor table "set.__iter__"=some Builtin.«frozenset.__iter__»:=entryFor_alias (id':="frozenset.__iter__") (by kernel_rfl) rfl (by decide +kernel) (by kernel_rfl)
def u0n:Slot "set_iterator" "__next__" "set_iterator.__next__":=.of (owner:="set_iterator") (n:="__next__") (by rw[typeLookup_type,builtinLookup_eq_fast];kernel_rfl) (by decide +kernel) (by decide +kernel)
 (by decide +kernel) (by first|exact .inl (by decide +kernel)|exact .inr (by decide +kernel)) (by rw[isSubtype_type];kernel_rfl)
def u2Z:Slot "set_iterator" "__iter__" "set_iterator.__iter__":=.of (owner:="set_iterator") (n:="__iter__") (by rw[typeLookup_type,builtinLookup_eq_fast];kernel_rfl) (by decide +kernel) (by decide +kernel)
 (by decide +kernel) (by first|exact .inl (by decide +kernel)|exact .inr (by decide +kernel)) (by rw[isSubtype_type];kernel_rfl)
def u0Z:entryFor table "set_iterator.__next__"=some Builtin.«set_iterator.__next__»:=entryFor_of_tree (by kernel_rfl)
def u5v:entryFor table "set_iterator.__iter__"=some Builtin.«dict_keyiterator.__iter__»:=entryFor_alias (id':="dict_keyiterator.__iter__") (by kernel_rfl) rfl (by decide +kernel) (by kernel_rfl)
def u7P:Manifest.owners.lookup (String.ofList ['r','o','t','a','r','e','t','i','_','t','e','s'].reverse)=some Manifest.sig_set_iterator:=by kernel_rfl
def u1q (a:Value):argsOk "set_iterator.__next__" ⟨[a],[]⟩:=by
 unfold argsOk;rw[signature?_of (id:="set_iterator.__next__") (n:=['_','_','t','x','e','n','_','_']) (o:=['r','o','t','a','r','e','t','i','_','t','e','s']) (by kernel_rfl) u7P]
 kernel_rfl
def u6E (a:Value):argsOk "set_iterator.__iter__" ⟨[a],[]⟩:=by
 unfold argsOk;rw[signature?_of (id:="set_iterator.__iter__") (n:=['_','_','r','e','t','i','_','_']) (o:=['r','o','t','a','r','e','t','i','_','t','e','s']) (by kernel_rfl) u7P]
 kernel_rfl
def SIt (h:Heap) (I:Addr) (first:Value) (i:Nat) (a:Addr) (n ep:Nat):Prop:=∃o,h.get? I=some o/\o.cls=.type "set_iterator"/\o.data=.fields #[first,.int i 0,.ref a,.int n 0,.int ep 0]
def SAt (h:Heap) (a:Addr) (es:Array (Int×Value)) (ep:Nat) (t:SetTable):Prop:=∃o,h.get? a=some o/\o.data=.set es ep t/\t.fits es.size=true
def SIt.at {h h':Heap}{I:Addr}{first:Value}{i:Nat}{a:Addr}{n ep:Nat} (x:SIt h I first i a n ep) (k:∀o,h.get? I=some o->h'.get? I=some o):SIt h' I first i a n ep:=by obtain⟨o,ho,r⟩:=x;exact⟨o,k _ ho,r⟩
def SAt.at {h h':Heap}{a:Addr}{es:Array (Int×Value)}{ep:Nat}{t:SetTable} (x:SAt h a es ep t) (k:∀o,h.get? a=some o->h'.get? a=some o):SAt h' a es ep t:=by obtain⟨o,ho,r⟩:=x;exact⟨o,k _ ho,r⟩
section
variable {P:Program}{w:World}{A:Around}{E:VP}{s:Shared}{I a:Addr}{first:Value}{i ep:Nat}{es:Array (Int×Value)}{t:SetTable}
def SIt.ty (x:SIt s.heap I first i a n ep):s.TypeIs (.ref I) "set_iterator":=by obtain⟨o,ho,hc,_⟩:=x;exact⟨o,ho,hc⟩
def u6O {Q:VP} (x:SIt s.heap I first i a n ep) (h:Q (.ref I) s):wpAny (model P w) A (pyIter (.ref I)) Q E s:=by
 refine wpAny_pyIter_slot x.ty u2Z (wpAny_call_entry u2Z x.ty u5v ?_ (u6E _));exact(show wpAny _ _ (ret (.ref I)) _ _ s from wpAny_pure ⟨_,rfl,"set_iterator",_,x.ty,u0n.lookup,h⟩)
def u4z {k:Nat}{v:Value}{vs:Array Value}{Q:Unit->Shared->Prop}{o:Obj} (ho:s.heap.get? I=some o) (hc:o.cls=.type "set_iterator") (hd:o.data=.fields vs) (hk:k<vs.size)
  (h:∀h' o',h'.get? I=some o'->o'.cls=.type "set_iterator"->o'.data=.fields (vs.setIfInBounds k v)->Heap.SameBut I s.heap h'->Q () { s with heap:=h' }):wpAny (model P w) A (setField (.ref I) k v) Q E s :=
 wpAny_setField ho hd hk (h _ _ (r9 _ ho (Obj.isFreed_of_fields (Obj.data_mapFields hd _))) ((Obj.cls_mapFields ..).trans hc) (Obj.data_mapFields hd _) (Heap.SameBut.update ..))
def Kept (I:Addr) (h h':Heap):Prop:=∀b o,b≠I->h.get? b=some o->h'.get? b=some o
def u9N {slot nx:Nat}{x:Value}{Q:Option Value->Shared->Prop} (X:SIt s.heap I (.int slot 0) i a es.size ep) (S:SAt s.heap a es ep t)
  (hn:∀(B:Around) (R:Option (Value×Nat)->Shared->Prop) (E':VP),R (some (x,nx)) s->wpAny (model P w) B (setNext a slot i ep) R E' s)
  (hQ:∀h',SIt h' I (.int nx 0) (i+1) a es.size ep->Kept I s.heap h'->Q (some x) { s with heap:=h' }):wpAny (model P w) A (pyNext (.ref I)) Q E s:=by
 obtain⟨o,ho,hc,hd⟩:=id X;obtain⟨os,hos,hds,hf⟩:=id S;unfold pyNext;refine wpAny_bind (wpAny_attempt (wpAny_callSpecial?_slot (name:=Str.ofString "__next__") X.ty u0n (wpAny_call_entry u0n X.ty u0Z ?_ (u1q _))));unfold Builtin.«set_iterator.__next__»;refine wpAny_bind (wpAny_pure ?_);refine wpAny_bind (wpAny_fieldsOf ho hd ?_);refine wpAny_bind (m:=setEntries a) (wpAny_setEntries_of hos hds hf ?_);rw[if_neg (by simp)]
 refine wpAny_bind (m:=setNext a slot i ep) (hn _ _ _ ?_);refine wpAny_bind (u4z ho hc hd (by simp) λh1 o1 g1 c1 d1 b1=>?_)
 refine wpAny_bind (u4z (s:={ s with heap:=h1 }) g1 c1 d1 (by simp) λh2 o2 g2 c2 d2 b2=>?_)
 exact wpAny_pure ⟨x,rfl,wpAny_pure (hQ h2 ⟨o2,g2,c2,by rw[d2];simp[rawInt]⟩ λb ob nb e=>(b2.extBut b ob nb (b1.extBut b ob nb e)))⟩
def u9O {slot:Nat}{Q:Option Value->Shared->Prop} (hh:A.handled=none) (X:SIt s.heap I (.int slot 0) i a es.size ep) (S:SAt s.heap a es ep t)
  (hn:∀(B:Around) (R:Option (Value×Nat)->Shared->Prop) (E':VP),R none s->wpAny (model P w) B (setNext a slot i ep) R E' s)
  (hQ:∀h',Kept I s.heap h'->Q none { s with heap:=h' }):wpAny (model P w) A (pyNext (.ref I)) Q E s:=by
 obtain⟨o,ho,hc,hd⟩:=id X;obtain⟨os,hos,hds,hf⟩:=id S;unfold pyNext;refine wpAny_bind (wpAny_attempt (wpAny_callSpecial?_slot (name:=Str.ofString "__next__") X.ty u0n (wpAny_call_entry u0n X.ty u0Z ?_ (u1q _))));unfold Builtin.«set_iterator.__next__»;refine wpAny_bind (wpAny_pure ?_);refine wpAny_bind (wpAny_fieldsOf ho hd ?_);refine wpAny_bind (m:=setEntries a) (wpAny_setEntries_of hos hds hf ?_);rw[if_neg (by simp)]
 refine wpAny_bind (m:=setNext a slot i ep) (hn _ _ _ ?_);refine wpAny_bind (u4z ho hc hd (by simp) λh1 o1 g1 c1 d1 b1=>?_)
 refine wpAny_bind (m:=newExc (.type "StopIteration") []) ?_;simp only[newExc,newTuple];refine wpAny_bind (wpAny_newObj_type (Q:=_) ?_ (by size_fits));refine wpAny_bind (m:=firstArgMember _ _) (wpAny_of_eq (a:=Value.none) (by first|rfl|(simp only[firstArgMember];rfl)) (wpAny_newObj_type ?_ (by size_fits)))
 simp only[raiseNew];refine wpAny_bind (wpAny_handled ?_);rw[show A.in1.handled=none from hh]
 refine wpAny_bind (wpAny_pure (wpAny_throw ?_));refine wpAny_bind (wpAny_isInstance (T:="StopIteration") (b:=true) ⟨_,z6 _ rfl,rfl⟩ isSubtype_stop ?_);exact wpAny_pure (hQ _ λb ob nb e=>z5 _ (z5 _ (b1.extBut b ob nb e)))
def v1T {tp:Addr}{pl:Array Value}{place m:Nat}{tk:Tok}{e:Int×Value}{ot:Obj}{Q:Option Value->Shared->Prop} (X:SIt s.heap I (.ref tp) i a es.size ep) (S:SAt s.heap a es ep t) (hot:s.heap.get? tp=some ot) (hpt:ot.data=.seq pl m)
  (hp:pl[i]?=some (.int place tk)) (he:es[place]?=some e) (hQ:∀h',SIt h' I (.ref tp) (i+1) a es.size ep->Kept I s.heap h'->Q (some e.2) { s with heap:=h' }):wpAny (model P w) A (pyNext (.ref I)) Q E s:=by
 obtain⟨o,ho,hc,hd⟩:=id X;obtain⟨os,hos,hds,hf⟩:=id S;unfold pyNext;refine wpAny_bind (wpAny_attempt (wpAny_callSpecial?_slot (name:=Str.ofString "__next__") X.ty u0n (wpAny_call_entry u0n X.ty u0Z ?_ (u1q _))));unfold Builtin.«set_iterator.__next__»;refine wpAny_bind (wpAny_pure ?_);refine wpAny_bind (wpAny_fieldsOf ho hd ?_);refine wpAny_bind (m:=setEntries a) (wpAny_setEntries_of hos hds hf ?_);rw[if_neg (by simp)]
 refine wpAny_bind (m:=seqItems? (.ref tp)) (wpAny_seqItems hot hpt ?_);simp only[Int.toNat_natCast,hp];refine wpAny_bind ?_;unfold setNextDrawn;refine wpAny_bind (wpAny_setState_of hos hds hf ?_);simp only[bne_self_eq_false,t8,if_false,he];refine wpAny_pure (wpAny_bind (u4z ho hc hd (by simp) λh1 o1 g1 c1 d1 b1=>?_))
 exact wpAny_pure ⟨e.2,rfl,wpAny_pure (hQ h1 ⟨o1,g1,c1,by rw[d1];simp[rawInt]⟩ λb ob nb e=>b1.extBut b ob nb e)⟩
def v1U {tp:Addr}{pl:Array Value}{m:Nat}{ot:Obj}{Q:Option Value->Shared->Prop} (hh:A.handled=none) (X:SIt s.heap I (.ref tp) i a es.size ep) (S:SAt s.heap a es ep t) (hot:s.heap.get? tp=some ot) (hpt:ot.data=.seq pl m)
  (hp:pl[i]?=none) (hQ:∀h',Kept I s.heap h'->Q none { s with heap:=h' }):wpAny (model P w) A (pyNext (.ref I)) Q E s:=by
 obtain⟨o,ho,hc,hd⟩:=id X;obtain⟨os,hos,hds,hf⟩:=id S;unfold pyNext;refine wpAny_bind (wpAny_attempt (wpAny_callSpecial?_slot (name:=Str.ofString "__next__") X.ty u0n (wpAny_call_entry u0n X.ty u0Z ?_ (u1q _))));unfold Builtin.«set_iterator.__next__»;refine wpAny_bind (wpAny_pure ?_);refine wpAny_bind (wpAny_fieldsOf ho hd ?_);refine wpAny_bind (m:=setEntries a) (wpAny_setEntries_of hos hds hf ?_);rw[if_neg (by simp)]
 refine wpAny_bind (m:=seqItems? (.ref tp)) (wpAny_seqItems hot hpt ?_);simp only[Int.toNat_natCast,hp];refine wpAny_bind (u4z ho hc hd (by simp) λh1 o1 g1 c1 d1 b1=>?_)
 refine wpAny_bind (u4z (s:={ s with heap:=h1 }) g1 c1 d1 (by simp) λh2 o2 g2 c2 d2 b2=>?_)
 refine wpAny_bind (m:=newExc (.type "StopIteration") []) ?_;simp only[newExc,newTuple];refine wpAny_bind (wpAny_newObj_type (Q:=_) ?_ (by size_fits));refine wpAny_bind (m:=firstArgMember _ _) (wpAny_of_eq (a:=Value.none) (by first|rfl|(simp only[firstArgMember];rfl)) (wpAny_newObj_type ?_ (by size_fits)))
 simp only[raiseNew];refine wpAny_bind (wpAny_handled ?_);rw[show A.in1.handled=none from hh]
 refine wpAny_bind (wpAny_pure (wpAny_throw ?_));refine wpAny_bind (wpAny_isInstance (T:="StopIteration") (b:=true) ⟨_,z6 _ rfl,rfl⟩ isSubtype_stop ?_);exact wpAny_pure (hQ _ λb ob nb e=>z5 _ (z5 _ (b2.extBut b ob nb (b1.extBut b ob nb e))))
end
theorem u4V {α:Type}:∀(l:List α) (i:Nat) (h:i<l.length),(l[i]::l.eraseIdx i).Perm l
 | x::l,0,_=>List.Perm.refl _
 | x::l,i+1,h=>(List.Perm.swap x _ _).trans ((u4V l i (by simpa using h)).cons x)
theorem u5W {α:Type} (f:Nat->Nat):∀(n k:Nat) (l:List α) (out:Array α),l.length=n->(pickOrder.go f n k l out).toList.Perm (out.toList++l)
 | 0,k,l,out,h=>by
  have:l=[]:=List.eq_nil_of_length_eq_zero h
  subst this;simp[pickOrder.go]
 | n+1,k,l,out,h=>by
  have lt:f k%l.length<l.length:=Nat.mod_lt _ (by omega)
  unfold pickOrder.go;rw[y2 lt];refine(u5W f n (k+1) _ _ (by rw[List.length_eraseIdx,if_pos lt];omega)).trans ?_
  rw[Array.toList_push,List.append_assoc];exact List.Perm.append_left _ (u4V l _ lt)
def u4r {α:Type} (f:Nat->Nat) (xs:Array α):(pickOrder f xs).toList.Perm xs.toList:=by
 have:=u5W f xs.size 0 xs.toList #[] (by simp)
 simpa[pickOrder] using this
section
variable {P:Program}{w:World}{A:Around}{E:VP}{s:Shared}
def u9A {src:Source}{n:Nat}{Q:Nat->Shared->Prop} (hn:n≠0) (h:∀i d,i<n->Q i { s with drawn:=d }):wpAny (model P w) A (choose src n) Q E s :=
 λ_ _ _=>⟨hn,h _ _ (Nat.mod_lt _ (Nat.pos_of_ne_zero hn))⟩
theorem u3f {α:Type}:∀(n:Nat) (xs:List α) (s:Shared) (Q:List α->Shared->Prop),xs.length=n->(∀ys d,ys.Perm xs->Q ys { s with drawn:=d })->wpAny (model P w) A (drawOrder n xs) Q E s
 | 0,xs,s,Q,e,h=>by
  have:xs=[]:=List.eq_nil_of_length_eq_zero e
  subst this;exact wpAny_pure (h [] s.drawn (List.Perm.refl _))
 | n+1,[],s,Q,e,h=>by cases e
 | n+1,x::xs,s,Q,e,h=>by
  show wpAny _ _ (choose .order (x::xs).length >>= _) _ _ s;refine wpAny_bind (u9A (by simp) λi d hi=>?_)
  rw[y2 hi];refine wpAny_bind (u3f n _ _ _ (by rw[List.length_eraseIdx,if_pos hi];omega) λys d' p=>?_)
  exact wpAny_pure (h _ d' ((p.cons _).trans (u4V _ _ hi)))
variable {a I:Addr}{ep:Nat}{es:Array (Int×Value)}{t:SetTable}
def u9C (hh:A.handled=none) (ne:a≠I) (ht:w.params.followText "set-order"=true):Walks P w A I [I,a] [I] (pickOrder (w.params.setOrder a ep) es).toList.length
  (λi v=>(((pickOrder (w.params.setOrder a ep) es).toList.map (·.2)))[i]?=some v) (λi h=>SIt h I (.int 0 0) i a es.size ep/\SAt h a es ep t) where
 sub:=λb hb=>by simp at hb;simp[hb]
 frame:=λi h h' st k=>⟨st.1.at λo=>k I (by simp) o,st.2.at λo=>k a (by simp) o⟩
 item:=λi s Q E hi st hQ=>by
  obtain⟨os,hos,hds,hf⟩:=id st.2;refine u9N (slot:=0) (nx:=0) (x:=(pickOrder (w.params.setOrder a ep) es).toList[i].2) st.1 st.2 (λB R E' r=>?_) λh' X' k=>?_
  ·unfold setNext
   refine wpAny_bind (wpAny_setState_of hos hds hf ?_);unfold setsByText;refine wpAny_bind (wpAny_bind (wpAny_askSetting (wpAny_pure ?_)));dsimp only;simp only[show((model P w).w.params.followText "set-order")=true from ht,if_true,bne_self_eq_false,t8,if_false]
   refine wpAny_bind ?_;unfold setWalk setsByText;refine wpAny_bind (wpAny_setState_of hos hds hf ?_);refine wpAny_bind (wpAny_bind (wpAny_askSetting (wpAny_pure ?_)));simp only[show((model P w).w.params.followText "set-order")=true from ht,if_true]
   refine wpAny_bind (wpAny_askSetting (wpAny_pure (wpAny_pure ?_)));have q:(pickOrder ((model P w).w.params.setOrder a ep) es)[i]?=some ((pickOrder (w.params.setOrder a ep) es).toList[i]):=by
    rw[<- z1H];exact y2 hi
   rw[q];exact r
  ·exact hQ _ h' s.toks (by rw[w9,y2 hi];rfl) ⟨X',st.2.at λo e=>k a o ne e⟩ λb o hb e=>k b o (λq=>hb (by simp[q])) e
 done:=λs Q E st hQ=>by
  obtain⟨os,hos,hds,hf⟩:=id st.2;refine u9O (slot:=0) hh st.1 st.2 (λB R E' r=>?_) λh' k=>hQ h' s.toks λb o hb e=>k b o (λq=>hb (by simp[q])) e
  unfold setNext;refine wpAny_bind (wpAny_setState_of hos hds hf ?_);unfold setsByText;refine wpAny_bind (wpAny_bind (wpAny_askSetting (wpAny_pure ?_)));dsimp only;simp only[show((model P w).w.params.followText "set-order")=true from ht,if_true,bne_self_eq_false,t8,if_false]
  refine wpAny_bind ?_;unfold setWalk setsByText;refine wpAny_bind (wpAny_setState_of hos hds hf ?_);refine wpAny_bind (wpAny_bind (wpAny_askSetting (wpAny_pure ?_)));simp only[show((model P w).w.params.followText "set-order")=true from ht,if_true]
  refine wpAny_bind (wpAny_askSetting (wpAny_pure (wpAny_pure ?_)));have q:(pickOrder ((model P w).w.params.setOrder a ep) es)[(pickOrder (w.params.setOrder a ep) es).toList.length]?=none:=by
   rw[Array.getElem?_eq_none (by rw[z0H];exact y0 _)]
  rw[q];exact r
 self:=λ_ _ _ _ st h=>u6O st.1 h
def u5i {α:Type}{xs:Array α} (h:xs.size=1):∃x,xs=#[x]:=by
 obtain⟨l⟩:=xs
 match l,h with
 | [x],_=>exact⟨x,rfl⟩
def u6D (p j:Nat):SetTable.below #[p] j=if p<j then 1 else 0:=by
 unfold SetTable.below;simp[SetTable.below.go]
def u7S (hds:SAt s.heap a es ep t) (h1:es.size<=1) (ht:w.params.followText "set-order"=false) (hl:t.led=true) {slot i:Nat}{R:Option (Value×Nat)->Shared->Prop}
  (r:R (match es[SetTable.below t.place slot]?,t.place[SetTable.below t.place slot]? with|some (_,x),some j=>some (x,j+1)|_,_=>none) s):wpAny (model P w) A (setNext a slot i ep) R E s:=by
 obtain⟨os,hos,hd,hf⟩:=hds;unfold setNext;refine wpAny_bind (wpAny_setState_of hos hd hf ?_);unfold setsByText;refine wpAny_bind (wpAny_bind (wpAny_askSetting (wpAny_pure ?_)));dsimp only;simp only[show((model P w).w.params.followText "set-order")=false from ht,t8,if_false]
 have z:(!t.plain&&decide (es.size > 1))=false:=by rw[decide_eq_false (by omega),Bool.and_false]
 show wpAny _ _ (if (!t.plain&&decide (es.size > 1))=true then _ else _) _ _ s
 rw[z];simp only[t8,if_false];have z2:(!t.led&&!es.isEmpty)=false:=by rw[hl];rfl
 show wpAny _ _ ((if (!t.led&&!es.isEmpty)=true then _ else _) >>= _) _ _ s
 rw[z2];exact wpAny_bind (wpAny_pure (wpAny_pure r))
def v1L (hh:A.handled=none) (ne:a≠I) (ht:w.params.followText "set-order"=false) (h1:es.size<=1) (hl:t.led=true) (hf:t.fits es.size=true):Walks P w A I [I,a] [I] es.toList.length (λi v=>(es.toList.map (·.2))[i]?=some v)
  (λi h=>SIt h I (.int ((if i=0 then 0 else t.place.getD 0 0+1:Nat):Nat) 0) i a es.size ep/\SAt h a es ep t) where
 sub:=λb hb=>by simp at hb;simp[hb]
 frame:=λi h h' st k=>⟨st.1.at λo=>k I (by simp) o,st.2.at λo=>k a (by simp) o⟩
 item:=λi s Q E hi st hQ=>by
  have hz:es.size=1:=by have:es.toList.length=es.size:=z0H;omega
  have i0:i=0:=by have:es.toList.length=es.size:=z0H;omega
  subst i0;obtain⟨p,hp⟩:∃p,t.place=#[p]:=by
   have:t.place.size=1:=by have:=(z1F.mp hf).1;rw[hz] at this;simpa using this
   exact u5i this
  obtain⟨e,he⟩:∃e,es=#[e]:=u5i hz;subst he;refine u9N (slot:=0) (nx:=p+1) (x:=e.2) st.1 st.2 (λB R E' r=>u7S st.2 h1 ht hl ?_) λh' X' k=>?_
  ·rw[hp,u6D];simpa using r
  ·refine hQ _ h' s.toks (by simp) ⟨?_,st.2.at fun o e=>k a o ne e⟩ fun b o hb e=>k b o (fun q=>hb (by simp [q])) e
   rw[hp];simpa using X'
 done:=λs Q E st hQ=>by
  refine u9O hh st.1 st.2 (λB R E' r=>u7S st.2 h1 ht hl ?_) λh' k=>hQ h' s.toks λb o hb e=>k b o (λq=>hb (by simp[q])) e
  by_cases hz:es.size=0
  ·have:es=#[]:=Array.eq_empty_of_size_eq_zero hz
   subst this;simpa using r
  ·have hz:es.size=1:=by omega
   obtain⟨p,hp⟩:∃p,t.place=#[p]:=by
    have:t.place.size=1:=by have:=(z1F.mp hf).1;rw[hz] at this;simpa using this
    exact u5i this
   obtain⟨e,he⟩:∃e,es=#[e]:=u5i hz;subst he;rw[hp];simpa[u6D] using r
 self:=λ_ _ _ _ st h=>u6O st.1 h
def u8B {tp:Addr}{ys:List Nat} (hh:A.handled=none) (ne:a≠I) (nt:tp≠I) (hy:∀j∈ys,j<es.size):Walks P w A I [I,a,tp] [I] ys.length (λi v=>(ys.map λj=>(es.getD j default).2)[i]?=some v)
  (λi h=>SIt h I (.ref tp) i a es.size ep/\SAt h a es ep t/\∃o m,h.get? tp=some o/\o.data=.seq (ys.map λ(j:Nat)=>rawInt j).toArray m) where
 sub:=λb hb=>by simp at hb;simp[hb]
 frame:=λi h h' st k=>⟨st.1.at λo=>k I (by simp) o,st.2.1.at λo=>k a (by simp) o,by obtain⟨o,m,x,y⟩:=st.2.2;exact⟨o,m,k tp (by simp) o x,y⟩⟩
 item:=λi s Q E hi st hQ=>by
  obtain⟨o,m,ho,hd⟩:=st.2.2;have lt:=hy ys[i] (z2B hi);refine v1T (place:=ys[i]) (tk:=0) (e:=es[ys[i]]) st.1 st.2.1 ho hd (by simp[hi,rawInt]) (z3B lt) λh' X' k=>?_
  refine hQ _ h' s.toks ?_ ⟨X',st.2.1.at λo e=>k a o ne e,o,m,k tp o nt ho,hd⟩ λb o hb e=>k b o (λq=>hb (by simp[q])) e
  rw[w9,y2 hi];simp[Array.getD,lt]
 done:=λs Q E st hQ=>by
  obtain⟨o,m,ho,hd⟩:=st.2.2;exact v1U hh st.1 st.2.1 ho hd (by simp) λh' k=>hQ h' s.toks λb o hb e=>k b o (λq=>hb (by simp[q])) e
 self:=λ_ _ _ _ st h=>u6O st.1 h
end
def Fwd (s s':Shared):Prop:=(∀b o,s.heap.get? b=some o->s'.heap.get? b=some o)/\s'.os=s.os/\s'.gens=s.gens
section
variable {P:Program}{w:World}{A:Around}{E:VP}{s:Shared}
def u6I {es l:List (Int×Value)}{ss:List Str} (el:ElemsOf (PySem.strKind P w) es) (p:(es.map λe=>strOf e.2).Perm ss) (q:l.Perm es):∃ss',StrsAre (l.map (·.2)) ss'/\ss'.Perm ss :=
 ⟨_,strsAre_map _ λv hv=>by
  obtain⟨e,he,rfl⟩:=z0C.mp hv;exact u8j el (q.mem_iff.mp he),by
  rw[z1C];exact(q.map _).trans p⟩
def u8T {es:Array (Int×Value)}{ys:List Nat} (p:ys.Perm (List.range es.size)):(ys.map λj=>es.getD j default).Perm es.toList:=by
 refine(p.map _).trans (List.Perm.of_eq ?_);apply List.ext_getElem
 ·simp
 ·intro i h1 h2
  simp at h1;simp[Array.getD,h1]
def v1V {a:Addr}{ss:List Str}{Q:VP} (S:SetT P w s.heap a ss) (hh:A.handled=none)
  (h:∀s₁ I fp vs St,Fwd s s₁->(∀b∈fp,b=a\/s.heap.objs.size<=b)->s.heap.objs.size<=I->Walks P w A I fp [I] vs.length (λi v=>vs[i]?=some v) St->St 0 s₁.heap->(∃ss',StrsAre vs ss'/\ss'.Perm ss)->Q (.ref I) s₁) :
  wpAny (model P w) A (pyIter (.ref a)) Q E s:=by
 obtain⟨o,es,ep,t,ho,hex,hd,el,p,nd,hb,hf,hl,hp⟩:=id S;have hT:s.TypeIs (.ref a) "set":=⟨o,ho,hex.1⟩;have la:a<s.heap.objs.size:=z7 ho;refine wpAny_pyIter_slot hT F.slot_set_iter (wpAny_call_entry F.slot_set_iter hT u6q ?_ (F.args_set_iter_1 _));unfold Builtin.«frozenset.__iter__»;refine wpAny_bind (m:=Builtin.Frozenset.slot0 "__iter__" _) (wpAny_pure ?_);refine wpAny_bind ?_;unfold Builtin.Frozenset.sizeOf;refine wpAny_bind (wpAny_setEntries_of ho hd hf (wpAny_pure ?_));refine wpAny_bind ?_;unfold setDrawn setsByText;refine wpAny_bind (wpAny_setState_of ho hd hf (wpAny_bind (wpAny_bind (wpAny_askSetting (wpAny_pure (wpAny_pure ?_))))));dsimp only;by_cases ht:w.params.followText "set-order"=true
 ·simp only [show ((model P w).w.params.followText "set-order")=true from ht,Bool.not_true,Bool.false_and,t8,if_false]
  refine wpAny_bind (wpAny_pure (wpAny_bind ?_));unfold setEpoch;refine wpAny_bind (wpAny_setState_of ho hd hf (wpAny_pure (wpAny_bind (wpAny_newObj_type (wpAny_pure ⟨_,rfl,"set_iterator",_,⟨_,z6 _ rfl,rfl⟩,u0n.lookup,?_⟩)))));refine h _ s.heap.objs.size _ _ _ ⟨λb o e=>z5 _ e,rfl,rfl⟩ ?_ (y0 _) ((v8 (f:=λe:Int×Value=>e.2) (as:=(pickOrder (w.params.setOrder a ep) es).toList)).symm ▸ u9C (t:=t) hh (v5 la) ht)
   ⟨⟨_,z6 _ rfl,rfl,rfl⟩,⟨o,z5 _ ho,hd,hf⟩⟩ (u6I el p (u4r _ _))
  intro b hb;simp at hb;rcases hb with rfl|rfl
  ·exact .inr (y0 _)
  ·exact .inl rfl
 ·have ht:w.params.followText "set-order"=false:=by simpa using ht
  have hl:t.led=true:=by rw[hl,ht];rfl
  by_cases h1:es.size<=1
  ·have z:(!false&&(!t.plain&&decide (es.size > 1)))=false:=by rw [decide_eq_false (by omega),Bool.and_false];rfl
   simp only[show((model P w).w.params.followText "set-order")=false from ht]
   show wpAny _ _ (if (!false&&(!t.plain&&decide (es.size > 1)))=true then _ else _) _ _ _
   rw[z];simp only[t8,if_false];refine wpAny_bind (wpAny_pure (wpAny_bind ?_));unfold setEpoch;refine wpAny_bind (wpAny_setState_of ho hd hf (wpAny_pure (wpAny_bind (wpAny_newObj_type (wpAny_pure ⟨_,rfl,"set_iterator",_,⟨_,z6 _ rfl,rfl⟩,u0n.lookup,?_⟩)))));refine h _ s.heap.objs.size _ _ _ ⟨λb o e=>z5 _ e,rfl,rfl⟩ ?_ (y0 _) ((v8 (f:=λe:Int×Value=>e.2) (as:=es.toList)).symm ▸ v1L (t:=t) (ep:=ep) hh (v5 la) ht h1 hl hf)
    ⟨⟨_,z6 _ rfl,rfl,rfl⟩,⟨o,z5 _ ho,hd,hf⟩⟩ (u6I el p (List.Perm.refl _))
   intro b hb;simp at hb;rcases hb with rfl|rfl
   ·exact .inr (y0 _)
   ·exact .inl rfl
  ·have z:(!false&&(!t.plain&&decide (es.size > 1)))=true:=by rw [hp (by omega),decide_eq_true (by omega)];rfl
   simp only[show((model P w).w.params.followText "set-order")=false from ht]
   show wpAny _ _ (if (!false&&(!t.plain&&decide (es.size > 1)))=true then _ else _) _ _ _
   rw[z];simp only[if_true];refine wpAny_bind (u3f _ _ _ _ (by simp) λys d py=>?_)
   have hy:ys.length=es.size:=by rw[py.length_eq];simp
   have hs:es.size<=sizeLine:=fits_of_scanBound hb;unfold newTuple;refine wpAny_bind (wpAny_newObj_type (wpAny_bind ?_) (show(ys.map λ(j:Nat)=>rawInt j).toArray.size<=sizeLine by simpa[hy] using hs))
   unfold setEpoch;refine wpAny_bind (wpAny_setState_of (o:=o) (z5 _ ho) hd hf (wpAny_pure (wpAny_bind (wpAny_newObj_type (wpAny_pure ⟨_,rfl,"set_iterator",_,⟨_,z6 _ rfl,rfl⟩,u0n.lookup,?_⟩)))));have zz:(s.heap.push { cls:=.type "tuple",data:=.seq (ys.map λ(j:Nat)=>rawInt j).toArray }).objs.size=s.heap.objs.size+1:=Heap.size_push ..
   have em:(ys.map λj=>(es.getD j default).2)=(ys.map λj=>es.getD j default).map (·.2):=by rw[z1C];rfl
   refine h _ _ _ (ys.map λj=>(es.getD j default).2) _ ⟨λb o e=>z5 _ (z5 _ e),rfl,rfl⟩ ?_ (by rw[zz];exact Nat.le_succ _)
    ((v8 (f:=λj=>(es.getD j default).2) (as:=ys)).symm ▸ u8B (t:=t) (ep:=ep) (tp:=s.heap.objs.size) hh (by rw[zz];exact v5 (Nat.lt_succ_of_lt la)) (by rw[zz];exact v5 (Nat.lt_succ_self _)) λj hj=>by simpa using py.mem_iff.mp hj)
    ⟨⟨_,z6 _ rfl,rfl,rfl⟩,⟨o,z5 _ (z5 _ ho),hd,hf⟩,_,_,z5 _ (z6 _ rfl),rfl⟩ (em ▸ u6I el p (u8T py))
   intro b hb;simp[zz] at hb;rcases hb with rfl|rfl|rfl
   ·exact .inr (Nat.le_succ _)
   ·exact .inl rfl
   ·exact .inr (y0 _)
end
end L2
namespace L2
open PySem PySem.Spec PyProof.Rows PySem.W PySem.Calls
section
variable {P:Program}{w:World}{A:Around}{E:VP}{s:Shared}
def v1X {r:Addr}{Q:Bool->Shared->Prop} (hT:s.TypeIs (.ref r) "set") (h:Q false s):wpAny (model P w) A (Builtin.List.listLengthHint (.ref r)) Q E s:=by
 unfold Builtin.List.listLengthHint;refine wpAny_bind (wpAny_specialOf hT PySem.F.slot_set_len.lookup ?_);generalize hid:("set.__len__":String)=id0
 wp_delta
 rw[show splitId id0=some ("set","__len__") from by subst hid;decide +kernel]
 subst hid;refine wpAny_bind (wpAny_isInstance (T:="set") (b:=true) hT (by rw[isSubtype_type];kernel_rfl) ?_)
 refine wpAny_ite_split (λq=>absurd q (by decide)) (λ_=>wpAny_ite_split (λ_=>?_) (λq=>absurd (by decide +kernel) q))
 exact wpAny_bind (wpAny_typeOf hT (wpAny_pure h))
def u8I {a S:Addr}{ss:List Str}{res:Value}{c₀:Nat}{R:Result->Shared->Prop} (T:SetT P w s.heap a ss) (hh:A.handled=none) (ne:S≠a) (hS:s.heap.get? S=some { cls:=.type "list",data:=.seq #[] c₀ }) (hz:ss.length<=sizeLine)
  (hR:∀s' acc c',(∀b o,b≠S->s.heap.get? b=some o->s'.heap.get? b=some o)->s'.os=s.os->s'.gens=s.gens->s'.heap.get? S=some { cls:=.type "list",dict:=none,data:=.seq acc c',slots:=#[] }->(∃ss',StrsAre acc.toList ss'/\ss'.Perm ss)->R (.ok (.ret res)) s') :
  wpAny (model P w) A.in1 (Builtin.List.listExtendWith (.ref S) (.ref a) res)
   (λfin s'=>match fin with | .done f=>R (.ok f) s' | .again c'=>c'.quiet=true/\codeAny (model P w) A c' R s') (λe s'=>R (.error e) s') s:=by
 obtain⟨o,es,ep,t,ho,hex,_⟩:=id T;have hT:s.TypeIs (.ref a) "set":=⟨o,ho,hex.1⟩;unfold Builtin.List.listExtendWith;refine wpAny_bind (wpAny_typeOf (T:="set") hT ?_);have k1:Builtin.List.listSameRef (.ref S) (.ref a)=false:=by simp[Builtin.List.listSameRef,ne]
 simp only[k1,show(Value.type "set"==Value.type "list")=false by decide,show(Value.type "set"==Value.type "tuple")=false by decide,Bool.or_false,t8,if_false]
 refine wpAny_bind (v1V T hh λs₁ I fp vs St fw hfp hI W st sv=>?_)
 have hS₁:=fw.1 _ _ hS;have lS:S<s.heap.objs.size:=z7 hS;have nf:S∉fp:=λm=>by
  rcases hfp S m with e|e
  ·exact ne e
  ·exact z0B _ (w5 lS e)
 obtain⟨ss',hv,hp⟩:=sv;have hn:vs.length<=sizeLine:=by
  have e1:(vs.map strOf).length=ss'.length:=by rw[hv.strs]
  have e2:=hp.length_eq;simp at e1;omega
 have key:∀(h:Heap) (c₁:Nat),St 0 h->(∀b o,b≠S->s.heap.get? b=some o->h.get? b=some o)->h.get? S=some { cls:=.type "list",data:=.seq #[] c₁ } ->
   codeAny (model P w) A (.builtin "list.extend.loop" ⟨[.ref S,.ref I,res],[]⟩) R { s₁ with heap:=h }:=λh c₁ st hk hS=>by
  refine codeAny_extend_loopS W.toS hn S nf res vs.length 0 _ #[] c₁ rfl (z1A _) st hS (ItemsOf.nil _) λs' acc c' hm hS' hacc=>?_
  refine hR s' acc c' (λb o hb e=>hm.heap b o (λm=>?_) (hk b o hb e)) (hm.os.trans fw.2.1) (hm.gens.trans fw.2.2) hS' ⟨ss',?_,hp⟩
  ·rcases y7.mp m with e' | m
   ·exact hb e'
   ·rw [v9] at m
    subst m;exact z0B _ (w5 (z7 e) hI)
  ·have:acc.toList=vs:=List.ext_getElem? λj=>by
    by_cases lt:j<acc.toList.length
    ·rw [y2 lt]
     have:=hacc.2 j acc.toList[j] (by rw[<- z1H];exact y2 lt)
     exact this.symm
    ·rw[List.getElem?_eq_none (by omega),List.getElem?_eq_none (by have:=hacc.1;simp at lt;omega)]
   rw[this];exact hv
 refine wpAny_bind (wpAny_holding (v1X ⟨o,fw.1 _ _ ho,hex.1⟩ ?_));refine wpAny_ite_split (λ_=>?_) (λ_=>wpAny_pure ⟨plainId_quiet PySem.F.plain_extend_loop _,key _ c₀ st (λb o _ e=>fw.1 b o e) hS₁⟩)
 refine wpAny_bind (wpAny_rule (wpAny_bind (m:=updateSeq S (·.push .none) >>= λ_=>updateSeq S (·.pop)) ?_))
 refine wpAny_bind (wpAny_updateSeq hS₁ rfl ?_);have hS₂:=r9 (Obj.mapSeq (·.push Value.none)) hS₁ rfl
 refine wpAny_updateSeq (hz:=by seq_fits) hS₂ rfl ?_
 have hS₃:=r9 (Obj.mapSeq (·.pop)) hS₂ rfl
 have oth:∀b o,b≠S->s₁.heap.get? b=some o->((s₁.heap.update S (Obj.mapSeq (·.push Value.none))).update S (Obj.mapSeq (·.pop))).get? b=some o:=λb o hb e=>(u0 _ _ (Ne.symm hb)).trans ((u0 _ _ (Ne.symm hb)).trans e)
 exact wpAny_pure ⟨plainId_quiet PySem.F.plain_extend_loop _,key _ _ (W.frame 0 _ _ st λb hb o e=>oth b o (λq=>nf (q ▸ hb)) e) (λb o hb e=>oth b o hb (fw.1 b o e)) hS₃⟩
def u6R {a:Addr}{ss:List Str}{R:List Value->Shared->Prop} (T:SetT P w s.heap a ss) (hh:A.handled=none) (hz:ss.length<=sizeLine) (h:∀s' vs ss',Fwd s s'->StrsAre vs ss'->ss'.Perm ss->R vs s'):wpAny (model P w) A (collect (.ref a)) R E s:=by
 obtain⟨o,es,ep,t,ho,_⟩:=id T;have la:a<s.heap.objs.size:=z7 ho;unfold collect;refine wpAny_bind (wpAny_runValue (codeAny_builtin entry_proto_collect' ?_));rw[Around.under_plainId PySem.F.plain_proto_collect _];refine wpAny_bind (m:=newList []) (wpAny_newObj_type (wpAny_pure ⟨plainId_quiet PySem.F.plain_list_iadd _,codeAny_builtin entry_list_iadd' ?_⟩));rw[Around.under_plainId PySem.F.plain_list_iadd _];have hS₁:(s.heap.push { cls:=.type "list",data:=.seq ([]:List Value).toArray }).get? s.heap.objs.size=some { cls:=.type "list",data:=.seq #[] }:=z6 _ rfl;have key:=u8I (A:=A) (s:={ s with heap:=s.heap.push { cls:=.type "list",data:=.seq ([]:List Value).toArray } }) (res:=.ref s.heap.objs.size)
  (R:=λ(q:Result) (s':Shared)=>∃acc c' ss',q=.ok (.ret (.ref s.heap.objs.size))/\Fwd s s'/\s'.heap.get? s.heap.objs.size=some { cls:=.type "list",dict:=none,data:=.seq acc c',slots:=#[] }/\StrsAre acc.toList ss'/\ss'.Perm ss)
  (T.keep λo e=>z5 _ e) hh (Nat.ne_of_gt la) hS₁ hz
  (λs' acc c' hk h1 h2 hS' hv=>⟨acc,c',hv.choose,rfl,⟨λb o e=>hk b o (v5 (z7 e)) (z5 _ e),h1,h2⟩,hS',hv.choose_spec.1,hv.choose_spec.2⟩)
 refine wpAny_mono key (λfin s' x=>?_) λe s' x=>?_
 ·cases fin with
  | done f =>
   obtain⟨acc,c',ss',e,fw,hS',hv,hp⟩:=x;cases e;exact wpAny_bind (m:=load s.heap.objs.size) (wpAny_load hS' (wpAny_pure (h s' _ ss' fw hv hp)))
  | again c₁ =>
   refine⟨x.1,codeAny_mono x.2 λq s₂ y=>?_⟩
   obtain⟨acc,c',ss',rfl,fw,hS',hv,hp⟩:=y;exact wpAny_bind (m:=load s.heap.objs.size) (wpAny_load hS' (wpAny_pure (h s₂ _ ss' fw hv hp)))
 ·obtain ⟨_,_,_,e',_⟩:=x
  cases e'
end
end L2
namespace L2
open PySem PySem.Spec PyProof.Rows PySem.W PySem.Calls
def leS (a b:Str):Prop:=ltCps b.cps.toList a.cps.toList=false
def u2m {a b:Str}:leS a b↔a.cps.toList<=b.cps.toList:=by
 unfold leS;rw[ltCps_eq,decide_eq_false_iff_not];exact List.not_lt
def u6g {a b c:Str} (h:leS a b) (k:leS b c):leS a c:=u2m.mpr (List.le_trans (u2m.mp h) (u2m.mp k))
def v2S {a b:Str} (h:leS a b) (k:leS b a):a=b:=by
 have e:=List.le_antisymm (u2m.mp h) (u2m.mp k);obtain⟨⟨l⟩⟩:=a;obtain⟨⟨m⟩⟩:=b;simp only at e;rw[e]
def v0D (a b:Str):leS a b\/leS b a:=by
 rw[u2m,u2m];exact List.le_total _ _
theorem u4C:∀(l:List Str) (p:Str),risingS p l=true->(∀x∈l,leS p x)/\l.Pairwise leS
 | [],_,_=>⟨λx h=>(r6 h).elim,.nil⟩
 | y::l,p,h=>by
  unfold risingS at h;rw[z0A,Bool.not_eq_true'] at h;obtain⟨h1,h2⟩:=u4C l y h.2;exact⟨λx hx=>by
   rcases y7.mp hx with rfl|hx
   ·exact h.1
   ·exact u6g h.1 (h1 x hx),.cons h1 h2⟩
def u9K {l:List Str} (h:sortedS l=true):l.Pairwise leS:=by
 cases l with
 | nil=>exact .nil
 | cons x l=>obtain⟨h1,h2⟩:=u4C l x h;exact .cons h1 h2
theorem u3E:∀{l m:List Str},l.Perm m->l.Pairwise leS->m.Pairwise leS->l=m
 | [],m,p,_,_=>(List.Perm.nil_eq p)
 | x::l,m,p,hl,hm=>by
  cases m with
  | nil=>exact absurd p.length_eq (by simp)
  | cons y m =>
   have e:x=y:=by
    have hx:x∈y::m:=p.mem_iff.mp z8;have hy:y∈x::l:=p.mem_iff.mpr z8;rcases y7.mp hx with e|hx
    ·exact e
    ·rcases y7.mp hy with e | hy
     ·exact e.symm
     ·exact v2S ((List.pairwise_cons.mp hl).1 y hy) ((List.pairwise_cons.mp hm).1 x hx)
   subst e;rw[u3E p.cons_inv (List.pairwise_cons.mp hl).2 (List.pairwise_cons.mp hm).2]
noncomputable def insT (x:Str):List Str->List Str
 | []=>[x]
 | y::l=>if ltCps y.cps.toList x.cps.toList=true then y::insT x l else x::y::l
noncomputable def sortT:List Str->List Str
 | []=>[]
 | x::l=>insT x (sortT l)
theorem u4a (x:Str):∀l:List Str,(insT x l).Perm (x::l)
 | []=>List.Perm.refl _
 | y::l=>by
  unfold insT;split
  ·exact((u4a x l).cons y).trans (List.Perm.swap x y l)
  ·exact List.Perm.refl _
theorem u1P:∀l:List Str,(sortT l).Perm l
 | []=>List.Perm.refl _
 | x::l=>(u4a x _).trans ((u1P l).cons x)
set_option tactic.hygienic true in
theorem v0Q (x:Str):∀{l:List Str},l.Pairwise leS->(insT x l).Pairwise leS
 | [],_=>List.pairwise_singleton ..
 | y::l,h=>by
  unfold insT;obtain⟨h1,h2⟩:=List.pairwise_cons.mp h;split
  ·rename_i q
   refine .cons (λz hz=>?_) (v0Q x h2)
   rcases y7.mp ((u4a x l).mem_iff.mp hz) with rfl|hz
   ·rcases v0D y z with t | t
    ·exact t
    ·unfold leS at t;rw[q] at t;cases t
   ·exact h1 z hz
  ·rename_i q
   have q':leS x y:=by unfold leS;simpa using q
   exact .cons (λz hz=>by
    rcases y7.mp hz with rfl|hz
    ·exact q'
    ·exact u6g q' (h1 z hz)) h
theorem u7E:∀l:List Str,(sortT l).Pairwise leS
 | []=>.nil
 | x::l=>v0Q x (u7E l)
def v1S {l ss:List Str} (p:l.Perm ss) (h:sortedS l=true):l=sortT ss:=u3E (p.trans (u1P ss).symm) (u9K h) (u7E ss)
def u2s {ss:List Str}{x:Str}:x∈sortT ss↔x∈ss:=(u1P ss).mem_iff
def u1v (ss:List Str):(sortT ss).length=ss.length:=(u1P ss).length_eq
section
variable {P:Program}{w:World}{A:Around}{E:VP}{s:Shared}
def u5I {a:Addr}{ss:List Str}{Q:VP} (h64:ss.length<64)
  (hc:∀(B:Around) (E':VP) (R:List Value->Shared->Prop),B.handled=A.handled->(∀s' vs ss',Fwd s s'->StrsAre vs ss'->ss'.Perm ss->R vs s')->wpAny (model P w) B (collect (.ref a)) R E' s)
  (h:∀s' s'' D out n,Fwd s s'->Fwd s' s''->s'.heap.objs.size<=D->s''.heap.get? D=some (seqObj "list" out n)->StrsAre out.toList (sortT ss)->Q (.ref D) s''):wpAny (model P w) A (call (.builtin "sorted") [.ref a]) Q E s:=by
 refine Calls.call_function_entry kind_sorted plain_sorted entry_sorted (args_sorted1 _) ?_;unfold Builtin.«sorted»;refine wpAny_bind (m:=checkCount "sorted" 1 1 _) (wpAny_pure (wpAny_bind (hc _ _ _ rfl λs' vs ss' fw hv hp=>?_)))
 have hn:vs.length=ss.length:=by
  have:(vs.map strOf).length=ss'.length:=by rw[hv.strs]
  rw[<- hp.length_eq,<- this,v8]
 refine wpAny_bind (wpAny_newList ?_ (by rw[hn,sizeLine_eq];omega))
 have ho:(s'.heap.push (seqObj "list" vs.toArray 0)).get? s'.heap.objs.size=some (seqObj "list" vs.toArray 0):=z6 _ rfl;have z:(s'.heap.push (seqObj "list" vs.toArray 0)).objs.size=s'.heap.objs.size+1:=Heap.size_push ..;refine wpAny_bind (wpAny_holding (wpAny_call_entry slot_list_sort ⟨_,ho,rfl⟩ entry_list_sort (list_sort_treeK strKind_oneLt ho hv.keysOf (λv₁ v₂ rest e=>keyKind_strs (by rw[<- e];exact hv)) (by omega) λst' a1 a2=>⟨_,rfl,?_⟩) (args_list_sort _)))
 refine wpAny_pure ⟨_,rfl,?_⟩;obtain⟨ss2,h1,h2,h3⟩:=sorted_out_str hv a1 a2;obtain⟨n,hD⟩:=sortedHeap_at (out:=(arrOf st').map (·.2)) ho
 refine h s' _ s'.heap.objs.size _ n fw ⟨λb o e=>?_,rfl,rfl⟩ (y0 _) hD ?_
 ·have lt:=z7 e
  have k:=sortedHeap_old (h:=s'.heap.push (seqObj "list" vs.toArray 0)) (a:=s'.heap.objs.size) (b:=b) (vs:=vs) (out:=(arrOf st').map (·.2)) (v5 lt) (by rw[z];exact Nat.lt_succ_of_lt lt)
  rw[z5 _ e] at k;exact k
 ·rw [<- v1S (h2.trans hp) h3]
  exact h1
end
end L2
namespace L2
open PySem PySem.Spec PyProof.Rows PySem.W PySem.Calls
noncomputable def STO (P:Program) (w:World) (a:Addr) (ss:List Str):HO:=.ext λh=>SetT P w h a ss
theorem u5F:∀{vs:List Value}{ss:List Str},StrsAre vs ss->Vals (ss.map V.str) vs
 | _,_,.nil=>.nil
 | _,_,.cons x t h=>.cons ⟨t,rfl⟩ (u5F h)
theorem u5B:∀{vs:List Value}{ss:List Str},Vals (ss.map V.str) vs->StrsAre vs ss
 | _,[],.nil=>.nil
 | _,_::_,.cons ⟨t,e⟩ h=>by subst e;exact .cons _ t (u5B h)
section
variable {X:Cx}{pins:LO}{σ:St}{H:Hp}{s:Shared}
def Inv.alike {s':Shared} (I:Inv X pins σ H s) (e1:s'.heap=s.heap) (e2:s'.os=s.os) (e3:s'.gens=s.gens):Inv X pins σ H s' :=
 ⟨I.ok,e2.trans I.os,e3 ▸ I.bare,e1 ▸ I.base,e1 ▸ I.loc,e1 ▸ I.cell,I.free,I.freeC,e1 ▸ I.pin,e1 ▸ I.hok,I.len⟩
def Inv.fwd {s':Shared} (I:Inv X pins σ H s) (f:Fwd s s'):Inv X pins σ H s':=(I.kept (h':=s'.heap) (t':=s'.toks) f.1).alike rfl f.2.1 f.2.2
def Inv.laidF {s':Shared}{a:Addr}{o:HO} (I:Inv X pins σ H s) (f:Fwd s s') (hp:s.heap.objs.size<=a) (new:ObjOk X.prog X.w (upd H a o) s'.heap a o):Inv X pins σ (upd H a o) s' :=
 (I.laid (h':=s'.heap) (t':=s'.toks) f.1 hp new).alike rfl f.2.1 f.2.2
def v1z (hc:X.calm=true):CallR X (.type "set") (λxs H Q=>∃l ss,xs=[.ref l]/\SqL X.K H l (ss.map V.str)/\ss.length+1<scanBound/\∀p,H p=none->Q (.ref p) (upd H p (STO X.prog X.w p (setOfT ss)))):=by
 intro pins s σ H xs us Q I r z9119;obtain⟨l,ss,e,hq,hb,q⟩:=z9119;subst e;obtain⟨u,rfl,ru⟩:=vals1 r;cases ru;obtain⟨its,rv,hl,hz⟩:=I.list hq;have hv:=u5B rv;have hn:its.length=ss.length:=by have:=rv.length;simpa using this.symm
 refine v1Z (ss:=ss) (items:=its.toArray) (I.ok.hd hc) hl.isList (by simpa using hv) (by simpa[hn] using hb) λs₂ ⟨h',tk,e,S,k⟩=>?_
 subst e;have kk:∀b u,s.heap.get? b=some u->h'.get? b=some u:=λb u e=>k b u (z7 e) e
 obtain⟨o,es,ep,t,ho,rest⟩:=id S;exact⟨.ref s.heap.objs.size,_,I.laid (a:=s.heap.objs.size) (o:=STO X.prog X.w s.heap.objs.size (setOfT ss)) kk (y0 _) ⟨S,⟨o,ho⟩,λh1 h2 x y=>x.keep y⟩,rfl,q _ (I.hok.fresh (y0 _))⟩
def u6c {s' s'':Shared}{D:Addr}{out:Array Value}{n:Nat}{ss:List Str}{Q:VK} (I:Inv X pins σ H s) (f1:Fwd s s') (f2:Fwd s' s'') (hD:s'.heap.objs.size<=D) (g:s''.heap.get? D=some (seqObj "list" out n)) (hv:StrsAre out.toList ss) (hz:ss.length<=sizeLine)
  (q:∀p,H p=none->Q (.ref p) (upd H p (.lst (ss.map V.str)))):EP X pins σ Q (.ref D) s'' :=
 ⟨.ref D,_,(I.fwd f1).laidF (o:=.lst (ss.map V.str)) f2 hD ⟨by simpa using hz,out.toList,n,u5F hv,by simpa using g⟩,rfl,q D ((I.fwd f1).hok.fresh hD)⟩
def u6w (hc:X.calm=true):CallR X (.builtin "sorted") (λxs H Q=>∃a ss,xs=[.ref a]/\H a=some (STO X.prog X.w a ss)/\ss.length<64/\∀p,H p=none->Q (.ref p) (upd H p (.lst ((sortT ss).map V.str)))):=by
 intro pins s σ H xs us Q I r z9120;obtain⟨a,ss,e,ha,h64,q⟩:=z9120;subst e;obtain⟨u,rfl,ru⟩:=vals1 r;cases ru;have S:SetT X.prog X.w s.heap a ss:=(show ObjOk X.prog X.w H s.heap a (STO X.prog X.w a ss) from I.hok a _ ha).1
 have hz:ss.length<=sizeLine:=by rw[sizeLine_eq];omega
 refine u5I h64 (λB E' R hB k=>u6R S (hB.trans (I.ok.hd hc)) hz k) λs' s'' D out n f1 f2 hD g hv=>u6c I f1 f2 hD g hv (by rw[u1v];exact hz) q
def u9w (hc:X.calm=true):CallR X (.builtin "sorted") (λxs H Q=>∃a kvs ss,xs=[.ref a]/\H a=some (.dK kvs)/\kvs.map (·.1)=ss.map Sum.inr/\ss.length<64/\∀p,H p=none->Q (.ref p) (upd H p (.lst ((sortT ss).map V.str)))):=by
 intro pins s σ H xs us Q I r z9121;obtain⟨a,kvs,ss,e,ha,hk,h64,q⟩:=z9121;subst e;obtain⟨u,rfl,ru⟩:=vals1 r;cases ru;obtain⟨_,hS,vs,rk,m⟩:kvs.length<=sizeLine/\(a==sysModules)=false/\∃vs,KV kvs vs/\s.heap.DictOf (mixKind X.prog X.w) a vs:=I.hok a _ ha;obtain⟨ep,m⟩:=m.dictAt;have hz:ss.length<=sizeLine:=by rw[sizeLine_eq];omega
 have ek:vs.map (·.1)=ss.map Sum.inr:=rk.keys.symm.trans hk
 have hn:vs.length=ss.length:=by have:=congrArg List.length ek;simpa using this
 refine u5I h64 (λB E' R hB k=>kdu_collect (kdl_dict (kvs:=vs) hS) (hB.trans (I.ok.hd hc)) m (hn ▸ hz) λh' tk acc hkeep hacc=>k _ _ ss ⟨hkeep,rfl,rfl⟩ ?_ (List.Perm.refl _)) λs' s'' D out n f1 f2 hD g hv=>u6c I f1 f2 hD g hv (by rw[u1v];exact hz) q
 have hl:acc.toList.length=ss.length:=by rw[z0H,hacc.1,hn]
 have key:∀(j:Nat) (v:Value),acc.toList[j]?=some v->∃x t,ss[j]?=some x/\v=.str x t:=λj v e=>by
  obtain⟨k,y,e1,e2⟩:=hacc.2 j v (by rw[<- z1H];exact e)
  have e3:(vs.map (·.1))[j]?=some k:=by rw[w9,e1];rfl
  rw[ek,w9] at e3;cases e4:ss[j]? with
  | none=>rw[e4] at e3;cases e3
  | some x =>
   rw[e4] at e3;cases e3;rcases u0t ((u9k X.prog X.w _ _).symm.trans e2) with⟨_,_,e5,_⟩|⟨z,t,e5,e6⟩
   ·cases e5
   ·cases e5;exact⟨_,t,rfl,e6⟩
 have go:∀(vs:List Value) (ss:List Str),vs.length=ss.length->(∀(j:Nat) (v:Value),vs[j]?=some v->∃x t,ss[j]?=some x/\v=.str x t)->StrsAre vs ss:=by
  intro vs;induction vs with
  | nil=>intro ss e _;cases ss with|nil=>exact .nil|cons _ _=>cases e
  | cons v vs ih =>
   intro ss e h;cases ss with
   | nil=>cases e
   | cons x ss =>
    obtain⟨z,t,e1,e2⟩:=h 0 v rfl;cases e1;subst e2;exact .cons _ t (ih ss (by simpa using e) λj v q=>h (j+1) v (by simpa using q))
 exact go _ _ hl key
end
noncomputable def strsOf:List D->Option (List Str)
 | []=>some []
 | .str z::ds=>(strsOf ds).map (z::·)
 | _=>none
theorem u5G {K:W.Frag}{F:Hp}:∀{xs:List V}{ds:List D}{ss:List Str},Rps K F xs ds->strsOf ds=some ss->xs=ss.map V.str/\∀z∈ss,z.length<=sizeLine
 | _,_,_,.nil,e=>by cases e;exact⟨rfl,λ_ h=>(r6 h).elim⟩
 | _,d::ds,ss,.cons h hs,e=>by
  cases h with
  | str hz =>
   unfold strsOf at e;cases q:strsOf ds with
   | none=>rw[q] at e;cases e
   | some ts =>
    rw[q] at e;cases e;obtain⟨e1,e2⟩:=u5G hs q;rw[e1];exact⟨rfl,λz hz'=>by
     rcases y7.mp hz' with rfl|h
     ·exact hz
     ·exact e2 z h⟩
  | _=>cases e
theorem u5b {K:W.Frag}{F:Hp}:∀{ss:List Str},(∀z∈ss,z.length<=sizeLine)->Rps K F (ss.map V.str) (ss.map D.str)
 | [],_=>.nil
 | z::ss,h=>.cons (.str (h z z8)) (u5b λy hy=>h y (y1 _ hy))
noncomputable def gSS:D->Res D
 | .lst ds=>match strsOf ds with
  | some ss=>gd (ss.length<64) (.ok (.lst ((sortT (setOfT ss)).map D.str)))
  | none=>.bad
 | _=>.bad
noncomputable def keyStrs:List (D×D)->Option (List Str)
 | []=>some []
 | (.str z,_)::ps=>(keyStrs ps).map (z::·)
 | _=>none
noncomputable def gSD:List D->Res D
 | [.dct ps]=>match keyStrs ps with
  | some ss=>gd (ss.length<64/\∀z∈ss,z.length<=sizeLine) (.ok (.lst ((sortT ss).map D.str)))
  | none=>.bad
 | _=>.bad
theorem u4I {K:W.Frag}{F:Hp}:∀{kvs:List (Key×V)}{ps:List (D×D)}{ss:List Str},Rpk K F kvs ps->keyStrs ps=some ss->kvs.map (·.1)=ss.map Sum.inr
 | _,_,_,.nil,e=>by cases e;rfl
 | _,_,ss,.cons (k:=k) (ds:=ds) h hs,e=>by
  cases k with
  | inl i=>cases e
  | inr z =>
   unfold keyStrs kD at e;cases q:keyStrs ds with
   | none=>simp only[q] at e;cases e
   | some ts =>
    simp only[q] at e;cases e;rw[u9,u4I hs q];rfl
section
variable {X:Cx}{xq:XQ}{e:Expr}{fs:Rho->Res (List D)}{p p2 pos pos2:Pos}
noncomputable def one1 {α:Type} (g:D->Res α):List D->Res α
 | [d]=>g d
 | _=>.bad
set_option tactic.hygienic true in
def d_sset (hc:X.calm=true) (hm:X.mg "sorted"=none) (hm2:X.mg "set"=none) (ha:DA X xq [e] fs) (hg:Gl X "sorted":=by rfl) (hg2:Gl X "set":=by rfl) :
  DE X xq (.Call (.Name "sorted" p) [.Call (.Name "set" p2) [e] [] pos2] [] pos) (λρ=>(fs ρ).bind λds=>noE (one1 gSS ds)) :=
 DE.of (pcB (u6w hc) hg hm (by decide +kernel) (pac (pcT (v1z hc) hg2 hm2 (by decide +kernel) ha.out (by decide) (by decide) ha.ns) u1o) (by decide) (by decide) rfl) λB F ρ σ H Q R q=>seqA R q λds vs F1 H1 s1 R1 p1 q1=>by
  unfold one1 at q1;split at q1
  ·rename_i d
   obtain⟨v,rfl,pv⟩:=rps1 p1;unfold gSS at q1;split at q1
   ·rename_i dl
    split at q1
    ·rename_i ss hs
     have q2:(gd (ss.length<64) (Res.ok (D.lst ((sortT (setOfT ss)).map D.str)))).all _ (λ_=>True):=u2N q1
     obtain⟨h64,q3⟩:=u3t q2;cases pv with
     | lst hq hr =>
      obtain⟨e1,e2⟩:=u5G hr hs;subst e1;have hl:(setOfT ss).length<=ss.length:=by have:=u4e ss [];simpa[setOfT] using this
      have em:∀z∈sortT (setOfT ss),z.length<=sizeLine:=λz hz=>e2 z (u0P.mp (u2s.mp hz))
      refine⟨_,ss,rfl,.inl (hq.same R1.fh),by unfold scanBound;omega,λa na=>?_⟩
      refine⟨a,setOfT ss,rfl,u0d,by omega,λb nb=>?_⟩
      have f1:=Stp.new (o:=STO X.prog X.w a (setOfT ss)) R1.fh na;have f2:=Stp.new (o:=.lst ((sortT (setOfT ss)).map V.str)) f1.fh nb;exact q3 _ _ _ ((s1.trans f1).trans f2) (.lst (.inl u0d) (u5b em))
    ·exact q1.elim
   ·exact q1.elim
  ·exact q1.elim
set_option tactic.hygienic true in
def c_sortD (hc:X.calm=true):CallR X (.builtin "sorted") (rDs X.K gSD):=by
 intro pins s σ H xs us Q I r z9122;obtain⟨F,ds,fh,ps,q⟩:=z9122;unfold gSD at q;split at q
 ·rename_i kd
  obtain⟨v,rfl,pv⟩:=rps1 ps;cases hk:keyStrs kd with
  | none=>simp only[hk] at q;exact q.elim
  | some ss =>
   simp only[hk] at q;obtain⟨⟨h64,hz⟩,q⟩:=u3t q;cases pv with
   | dK ha hr=>exact u9w hc pins s σ H _ us Q I r ⟨_,_,ss,rfl,fh _ _ ha,u4I hr hk,h64,λb nb=>q _ _ _ (Stp.new fh nb) (.lst (.inl u0d) (u5b λz h=>hz z (u2s.mp h)))⟩
 ·exact q.elim
end
mutual
noncomputable def selfD:D->Bool
 | .non | .bl _ | .int _ | .str _=>true
 | .lst ds | .tup ds=>selfDs ds
 | .dct ps=>ps.isEmpty
 | _=>false
noncomputable def selfDs:List D->Bool
 | []=>true
 | d::ds=>selfD d&&selfDs ds
end
mutual
noncomputable def depD:D->Nat
 | .lst ds | .tup ds=>depDs ds+1
 | .dct _=>1
 | _=>0
noncomputable def depDs:List D->Nat
 | []=>0
 | d::ds=>max (depD d) (depDs ds)
end
section
variable {X:Cx}{pins:LO}{σ:St}{H F:Hp}{s:Shared}
def u5u {A:Around}{us vs:List Value}{l b:Addr} (n:us.length=vs.length) (he:∀j (h1:j<us.length) (h2:j<vs.length),SeqAt.EqAt A s us[j] vs[j] true) :
  ∀j (h1:j<us.toArray.size) (h2:j<vs.toArray.size),SeqAt.EqAt A s us.toArray[j] vs.toArray[j] ((λ_=>true) j):=λj h1 h2=>by
 have:=he j (by simpa using h1) (by simpa using h2)
 simpa using this
def u5z (n:Nat):(List.range n).all (λ_=>true)=true:=by simp
def v0c {A:Around}{a b:Addr} (h:SeqAt.RcAt A s (.ref a) (.ref b) true):SeqAt.EqAt A s (.ref a) (.ref b) true:=by
 by_cases q:a=b
 ·subst q;exact SeqAt.EqAt.same _
 ·exact SeqAt.EqAt.of_refs q h
def u4Q {P P':Program}{w w':World}{h:Heap}{a:Addr} (m:h.DictOf (mixKind P w) a []):h.DictOf (mixKind P' w') a []:=by
 obtain⟨o,es,ep,ho,hex,hd,hk,hp,hn⟩:=m;have e:es=#[]:=by
  obtain⟨l⟩:=es;cases l with
  | nil=>rfl
  | cons x l=>cases hp
 subst e;exact⟨o,#[],ep,ho,hex,hd,λe he=>by simp at he,.nil,hn⟩
mutual
theorem Rp.eqS (I:Inv X pins σ H s) (fh:Same F H):∀{x:V}{d:D},Rp X.K F x d->∀{A:Around}{y:V}{u v:Value},Rp X.K F y d->RelV x u->RelV y v->selfD d=true->A.units+depD d<cLine->SeqAt.RcAt A s u v true/\SeqAt.EqAt A s u v true
 | _,_,.non,A,y,u,v,py,ru,rv,_,_=>by
  cases py;cases ru;cases rv;exact⟨SeqAt.RcAt.none_none,SeqAt.EqAt.same _⟩
 | _,_,.bl b,A,y,u,v,py,ru,rv,_,_=>by
  cases py;cases ru;cases rv
  have:=SeqAt.RcAt.bool_bool (A:=A) (s:=s) b b
  rw[beq_self_eq_true] at this;exact⟨this,SeqAt.EqAt.same _⟩
 | _,_,.int i,A,y,u,v,py,ru,rv,_,_=>by
  cases py;obtain⟨t,rfl⟩:=ru;obtain⟨t',rfl⟩:=rv;have h1:=SeqAt.RcAt.int_int (A:=A) (s:=s) i t i t';have h2:=SeqAt.EqAt.int_int (A:=A) (s:=s) i t i t';rw[beq_self_eq_true] at h1 h2;exact⟨h1,h2⟩
 | _,_,.str (z:=z) _,A,y,u,v,py,ru,rv,_,_=>by
  cases py;obtain⟨t,rfl⟩:=ru;obtain⟨t',rfl⟩:=rv;have h1:=SeqAt.RcAt.str_str (A:=A) (s:=s) z t z t';have h2:=SeqAt.EqAt.str_str (A:=A) (s:=s) z t z t';rw[beq_self_eq_true] at h1 h2;exact⟨h1,h2⟩
 | _,_,.ty _,A,y,u,v,py,ru,rv,h,_=>by simp[selfD] at h
 | _,_,.lst (ds:=ds) hq hs,A,y,u,v,py,ru,rv,h,hu=>by
  cases py with
  | lst hq' hs' =>
   cases ru;cases rv;obtain⟨its,r1,l1,_⟩:=I.list (.inl (hq.same fh));obtain⟨its',r2,l2,_⟩:=I.list (.inl (hq'.same fh));have n:its.length=its'.length:=by rw[<- r1.length,<- r2.length,hs.length,hs'.length]
   have hu1:A.units+(depDs ds+1)<cLine:=hu;have q:=SeqAt.RcAt.lists l1.isList l2.isList (by simpa using n) (by omega) (u5u (l:=0) (b:=0) n (Rps.eqS I fh hs (A:=A.in1) hs' r1 r2 (by simpa[selfD] using h) (by show A.units+1+depDs ds<cLine;omega)))
   rw[u5z] at q;exact⟨q,v0c q⟩
 | _,_,.tup (ds:=ds) hq hs,A,y,u,v,py,ru,rv,h,hu=>by
  cases py with
  | tup hq' hs' =>
   cases ru;cases rv;obtain⟨its,r1,l1,_⟩:=I.tuple (fh.seqT hq);obtain⟨its',r2,l2,_⟩:=I.tuple (fh.seqT hq');obtain⟨o1,g1,c1,m1,d1⟩:=l1;obtain⟨o2,g2,c2,m2,d2⟩:=l2;have n:its.length=its'.length:=by rw[<- r1.length,<- r2.length,hs.length,hs'.length]
   have hu1:A.units+(depDs ds+1)<cLine:=hu;have q:=SeqAt.RcAt.tuples (A:=A) (s:=s) (l:=_) (b:=_) ⟨o1,g1,c1,m1,d1⟩ ⟨o2,g2,c2,m2,d2⟩ (by omega) (u5u (l:=0) (b:=0) n (Rps.eqS I fh hs (A:=A.in1) hs' r1 r2 (by simpa[selfD] using h) (by show A.units+1+depDs ds<cLine;omega)))
   rw[u5z,show(its.toArray.size==its'.toArray.size)=true by simp[n]] at q
   exact⟨q,v0c q⟩
 | _,_,  .dK (a:=a) (ps:=ps) ha hr,A,y,u,v,py,ru,rv,h,hu=>by
  cases py with
  | @dK b _ _ hb hr' =>
   cases ru;cases rv;have e:ps=[]:=by simpa[selfD] using h
   subst e;cases hr;cases hr';have hu1:A.units+1<cLine:=hu;obtain⟨_,k1,vs,r1,m1⟩:_/\_/\∃vs,KV ([]:List (Key×V)) vs/\_:=I.hok _ _ (fh _ _ ha);obtain⟨_,k2,vs',r2,m2⟩:_/\_/\∃vs,KV ([]:List (Key×V)) vs/\_:=I.hok _ _ (fh _ _ hb);cases r1;cases r2;have q:SeqAt.RcAt A s (.ref a) (.ref b) true:=λprog w E Q hQ=>W.keq_eq (knd:=mixKind prog w) k1 k2 (u4Q m1) (u4Q m2) (by omega) (λ_=>.nil) hQ
   exact⟨q,v0c q⟩
 | _,_,.ins _ _,A,y,u,v,py,ru,rv,h,_=>by simp[selfD] at h
 | _,_,.exc _ _ _,A,y,u,v,py,ru,rv,h,_=>by simp[selfD] at h
 | _,_,.dn _ _,A,y,u,v,py,ru,rv,h,_=>by simp[selfD] at h
 | _,_,.hdl _,A,y,u,v,py,ru,rv,h,_=>by simp[selfD] at h
theorem Rps.eqS (I:Inv X pins σ H s) (fh:Same F H):∀{xs:List V}{ds:List D},Rps X.K F xs ds->∀{A:Around}{ys:List V}{us vs:List Value},Rps X.K F ys ds->Vals xs us->Vals ys vs->selfDs ds=true->A.units+depDs ds<cLine ->
  ∀j (h1:j<us.length) (h2:j<vs.length),SeqAt.EqAt A s us[j] vs[j] true
 | _,_,.nil,A,ys,us,vs,py,ru,rv,_,_,j,h1,h2=>by cases ru;cases h1
 | _,_,.cons (d:=d) (ds:=ds) p ps,A,ys,us,vs,py,ru,rv,h,hu,j,h1,h2=>by
  cases py with
  | cons p' ps' =>
   cases ru with
   | cons ru rus =>
    cases rv with
    | cons rv rvs =>
     have h':selfD d=true/\selfDs ds=true:=by simpa[selfDs] using h
     have hu':A.units+max (depD d) (depDs ds)<cLine:=hu;cases j with
     | zero=>exact(Rp.eqS I fh p p' ru rv h'.1 (by omega)).2
     | succ j=>exact Rps.eqS I fh ps ps' rus rvs h'.2 (by omega) j (by simpa using h1) (by simpa using h2)
end
noncomputable def lenNe:D->D->Bool
 | .lst (_::_),.lst []=>true
 | .lst [],.lst (_::_)=>true
 | _,_=>false
def u6f {x y:D} (h:lenNe x y=true):∃ds es,x=.lst ds/\y=.lst es/\ds.length≠es.length:=by
 unfold lenNe at h;split at h
 ·exact⟨_,_,rfl,rfl,by simp⟩
 ·exact⟨_,_,rfl,rfl,by simp⟩
 ·cases h
open Classical in
noncomputable def dEqX (x y:D):Res D:=if lenNe x y=true then .ok (.bl false) else if x=y/\selfD x=true/\depD x<=60 then .ok (.bl true) else dEq x y
noncomputable def dNeX (x y:D):Res D:=if lenNe x y=true then .ok (.bl true) else dNe x y
set_option tactic.hygienic true in
def o_eqX (hu:X.A.units+64<cLine):OpR X (compareOp .Eq) (rD X.K dEqX):=by
 intro pins s σ H x y v u Q I rx ry z9123;obtain⟨F,dx,dy,fh,px,py,q⟩:=z9123;unfold dEqX at q;split at q
 ·rename_i hl
  obtain⟨ds,es,rfl,rfl,ne⟩:=u6f hl;cases px with
  | lst hq hs =>
   cases py with
   | lst hq' hs' =>
    cases rx;cases ry;obtain⟨its,r1,l1,_⟩:=I.list (.inl (hq.same fh));obtain⟨its',r2,l2,_⟩:=I.list (.inl (hq'.same fh));have n:its.length≠its'.length:=by rw[<- r1.length,<- r2.length,hs.length,hs'.length];exact ne
    exact SeqAt.RcAt.lists_lengths l1.isList l2.isList (by simpa using n) (by omega) _ _ _ _ ⟨.bl false,H,I,rfl,q _ F H (Stp.refl fh) (.bl _)⟩
 ·split at q
  ·rename_i h
   obtain⟨rfl,h1,h2⟩:=h;exact(Rp.eqS I fh px (A:=X.A) py rx ry h1 (by omega)).1 _ _ _ _ ⟨.bl true,H,I,rfl,q _ F H (Stp.refl fh) (.bl _)⟩
  ·exact o_eq hu pins s σ H x y v u Q I rx ry ⟨F,dx,dy,fh,px,py,q⟩
set_option tactic.hygienic true in
def o_neX (hu:X.A.units+64<cLine):OpR X (compareOp .NotEq) (rD X.K dNeX):=by
 intro pins s σ H x y v u Q I rx ry z9124;obtain⟨F,dx,dy,fh,px,py,q⟩:=z9124;unfold dNeX at q;split at q
 ·rename_i hl
  obtain⟨ds,es,rfl,rfl,ne⟩:=u6f hl;cases px with
  | lst hq hs =>
   cases py with
   | lst hq' hs' =>
    cases rx;cases ry;obtain⟨its,r1,l1,_⟩:=I.list (.inl (hq.same fh));obtain⟨its',r2,l2,_⟩:=I.list (.inl (hq'.same fh));have n:its.length≠its'.length:=by rw[<- r1.length,<- r2.length,hs.length,hs'.length];exact ne
    exact SeqAt.RcNeAt.lists_lengths l1.isList l2.isList (by simpa using n) (by omega) _ _ _ _ ⟨.bl true,H,I,rfl,q _ F H (Stp.refl fh) (.bl _)⟩
 ·exact o_ne hu pins s σ H x y v u Q I rx ry ⟨F,dx,dy,fh,px,py,q⟩
end
def u3s:fillsNumberSlot (.type "tuple") "mul"=pure false:=PySem.fillsNumberSlot_seq (id:="tuple.__mul__") (r:=some (.builtin "tuple.__rmul__")) F.slot_tuple_mul.lookup (by decide +kernel) F.slot_tuple_rmul.lookup (by decide +kernel)
def u5Q:seqRepeat? (.type "tuple")=pure (some (.builtin "tuple.__mul__")):=by
 unfold seqRepeat?;rw[PySem.seqSlot_of (T:="tuple") (name:="__mul__") (id:="tuple.__mul__") F.slot_tuple_mul.lookup (by decide +kernel),PySem.seqSlot_of (T:="tuple") (name:="__rmul__") (id:="tuple.__rmul__") F.slot_tuple_rmul.lookup (by decide +kernel)]
 rfl
section
variable {P:Program}{w:World}{A:Around}{E:VP}{s:Shared}{X:Cx}
def u8S {k:Int}{t:Tok}{l:Addr}{o:Obj}{items:Array Value}{n:Nat}{Q:VP} (ho:s.heap.get? l=some o) (hc:o.cls=.type "tuple") (hd:o.data=.seq items n) (h:Q .notImplemented s) :
  wpAny (model P w) A (call (.builtin "int.__rmul__") [.int k t,.ref l]) Q E s:=by
 refine wpAny_call_entry F.slot_int_rmul (typeIs_int s k t) F.entry_int_rmul ?_ (F.args_int_rmul_2 _ _);obtain⟨hp,g,d,tk,os⟩:=s;obtain⟨oc,od,odt,osl⟩:=o;simp only at hc hd;subst hc;subst hd
 wp_walk
 exact⟨_,rfl,h⟩
def v0u {k:Int}{t:Tok}{l:Addr}{o:Obj}{items:Array Value}{n:Nat}{Q:VP} (ho:s.heap.get? l=some o) (hc:o.cls=.type "tuple") (hd:o.data=.seq items n) (hk:2<=k) (hk2:k<=1000) (hi:items.isEmpty=false) (hz:items.size*k.toNat<=sizeLine)
  (h:Q (.ref s.heap.objs.size) { s with heap:=s.heap.push { cls:=.type "tuple",data:=.seq ((List.replicate k.toNat items).foldl (λx1 x2=>x1++x2) #[]) } }):wpAny (model P w) A (call (.builtin "tuple.__mul__") [.ref l,.int k t]) Q E s:=by
 refine wpAny_call_entry F.slot_tuple_mul ⟨o,ho,hc⟩ F.entry_tuple_mul ?_ (F.args_tuple_mul_2 _ _);obtain⟨hp,g,d,tk,os⟩:=s;obtain⟨oc,od,odt,osl⟩:=o;simp only at hc hd;subst hc;subst hd;unfold Builtin.«tuple.__mul__»
 wp_walk
 have z1:(k.toNat:Int)=k:=Int.toNat_of_nonneg (by omega)
 have z2:((items.size:Nat):Int)*k<=sizeLine:=by
  rw[<- z1]
  exact_mod_cast hz
 have z3:(sizeLine:Int)=16777216:=by rw[sizeLine_eq];rfl
 rw[if_neg (by rw[decide_eq_false (by omega),decide_eq_false (by omega)];decide)]
 dsimp only;refine wpAny_bind ?_;unfold Builtin.Tuple.tupleItemsOf;refine wpAny_bind (wpAny_seqItems ho rfl (wpAny_pure ?_));rw[if_neg (by rw[hi,show(k==1)=false from beq_eq_false_iff_ne.mpr (by omega)];decide),if_neg (by rw[hi,decide_eq_false (by omega)];decide),if_neg (by rw[z3] at z2;omega),if_neg (by unfold Builtin.Tuple.tupleTooMany;rw[decide_eq_true_eq];omega)]
 have sz:((List.replicate k.toNat items).foldl (λx1 x2=>x1++x2) #[]).size<=sizeLine:=by
  have g:∀(n:Nat) (a:Array Value),((List.replicate n items).foldl (λx1 x2=>x1++x2) a).size=a.size+n*items.size:=by
   intro n;induction n with
   | zero=>simp
   | succ n ih =>
    intro a;rw[List.replicate_succ,z2J,ih,Array.size_append,Nat.succ_mul];omega
  rw[g,Nat.mul_comm];simpa using hz
 unfold Builtin.Tuple.tupleExact;exact wpAny_bind (wpAny_newObj_type (wpAny_pure ⟨_,rfl,h⟩) sz)
def rRepT (K:W.Frag):R2:=λx y H Q=>∃l k xs,x=.ref l/\y=.int k/\SqT K H l xs/\2<=k/\k<=1000/\xs≠[]/\xs.length*k.toNat<=sizeLine/\∀p,H p=none->Q (.ref p) (upd H p (.tup (List.replicate k.toNat xs).flatten))
def op_repT:OpR X (binaryOp .Mult) (rRepT X.K):=by
 intro pins s σ H x y v u Q I rx ry h;obtain⟨l,k,xs,rfl,rfl,hq,h1,h2,hn,hz,q⟩:=h;cases rx;obtain⟨t,rfl⟩:=ry;obtain⟨its,r,hT,_⟩:=I.tuple hq;obtain⟨o,ho,hc,n,hd⟩:=hT;have hl:=r.length;have hlen:its.toArray.size*k.toNat<=sizeLine:=by rw[y9,<- hl];exact hz
 have hne:its.toArray.isEmpty=false:=by
  cases its with
  | nil=>cases xs with|nil=>exact absurd rfl hn|cons _ _=>cases hl
  | cons a b=>rfl
 have hnew:List.foldl (λx1 x2=>x1++x2) #[] (List.replicate k.toNat its.toArray)=(List.replicate k.toNat its).flatten.toArray:=by
  have:=u4c its k.toNat []
  rwa [List.nil_append] at this
 refine wpAny_binaryOp_repeat_ref (T:="tuple") (U:="int") (by decide) ⟨o,ho,hc⟩ (λs'=>typeIs_int s' k t) u3s F.fills_int_mul F.slot_int_rmul u5Q F.slot_int_index.lookup
  (u8S ho hc hd ⟨rfl,⟨o,ho,hc⟩,v0u ho hc hd h1 h2 hne hlen ?_⟩)
 rw[hnew];exact⟨.ref _,_,I.laid (a:=s.heap.objs.size) (o:=.tup (List.replicate k.toNat xs).flatten) (t':=s.toks) (λ_ _ e=>z5 _ e) (y0 _) ⟨by rw[v0C,Nat.mul_comm];exact hz,_,r.rep k.toNat,_,z6 _ rfl,rfl,_,rfl⟩,rfl,q _ (I.hok.fresh (y0 _))⟩
def rRepR:R2:=λx y H Q=>∃l k xs,x=.ref l/\y=.int k/\Rd H l (.lst xs)/\-(2^63)<=k/\k<2^63/\xs.length*k.toNat<=sizeLine /\
 ∀p,H p=none->Q (.ref p) (upd H p (.lst (List.replicate k.toNat xs).flatten))
def op_repR:OpR X (binaryOp .Mult) rRepR:=by
 intro pins s σ H x y v u Q I rx ry h;obtain⟨l,k,xs,rfl,rfl,hH,h1,h2,hz,q⟩:=h;cases rx;obtain⟨t,rfl⟩:=ry;obtain⟨z,its,n,r,hl,e⟩:=I.lstR hH;have hlen:its.toArray.size*k.toNat<=sizeLine:=by rw[y9,<- hl];exact hz
 have hcap:¬ its.toArray.size*k.toNat > (2^63 - 1) / 8:=by
  have:(sizeLine:Nat)<=(2^63 - 1) / 8:=by decide
  omega
 have hfit:¬ (!Builtin.List.listFitsIndex k)=true:=by
  rw[fitsIndex_both h1 h2];exact q9
 have hlong:¬ Builtin.List.listTooLong (its.toArray.size*k.toNat)=true:=by
  rw[notLongL hlen];exact q9
 have hnew:List.foldl (λx1 x2=>x1++x2) #[] (List.replicate (if its.toArray.isEmpty=true then 0 else k.toNat) its.toArray)=(List.replicate k.toNat its).flatten.toArray:=by
  have f0:∀m:Nat,List.foldl (λx1 x2=>x1++x2) #[] (List.replicate m its.toArray)=(List.replicate m its).flatten.toArray:=λm=>by
   have:=u4c its m []
   rw[List.nil_append] at this;exact this
  rw[f0];cases its with
  | nil=>simp
  | cons a r'=>rw[if_neg (by simp)]
 refine wpAny_binaryOp_repeat_ref (T:="list") (U:="int") (by decide) ⟨_,e,rfl⟩ (λs'=>typeIs_int s' k t) noFill_list_mul F.fills_int_mul F.slot_int_rmul repeat_list F.slot_int_index.lookup
  (call_meets F.slot_int_rmul (typeIs_int s k t) F.entry_int_rmul (F.args_int_rmul_2 _ _) (int___rmul___int_list k t l its.toArray n)
   ⟨e,rfl,⟨_,e,rfl⟩,call_meets F.slot_list_mul ⟨_,e,rfl⟩ F.entry_list_mul (F.args_list_mul_2 _ _) (AutoListH.list___mul___list_int_3 l its.toArray n k t hfit hcap hlong) ⟨e,?_⟩⟩)
 rw[hnew];exact⟨.ref _,_,I.lnew (t':=s.toks) (r.rep k.toNat) (by rw[v0C,Nat.mul_comm];exact hz),rfl,q _ I.fresh⟩
noncomputable def dMulX:D->D->Res D
 | .int i,.int j=>dMul (.int i) (.int j)
 | .lst ds,.int k=>gd (-(2^63)<=k/\k<2^63/\ds.length*k.toNat<=sizeLine) (.ok (.lst (List.replicate k.toNat ds).flatten))
 | .tup ds,.int k=>gd (2<=k/\k<=1000/\ds.isEmpty=false/\ds.length*k.toNat<=sizeLine) (.ok (.tup (List.replicate k.toNat ds).flatten))
 | _,_=>.bad
def u1D:OpR X (binaryOp .Mult) (rD X.K dMulX):=by
 intro pins s σ H x y v u Q I rx ry z9125;obtain⟨F,dx,dy,fh,px,py,q⟩:=z9125;unfold dMulX at q;split at q
 ·exact o_mul pins s σ H x y v u Q I rx ry ⟨F,_,_,fh,px,py,q⟩
 ·obtain ⟨⟨h1,h2,h3⟩,q⟩:=u3t q
  cases py;cases px with
  | lst hq hs=>exact op_repR pins s σ H _ _ v u Q I rx ry ⟨_,_,_,rfl,rfl,hq.same fh,h1,h2,by rw[hs.length];exact h3,λp n=>q _ _ _ (Stp.new fh n) (.lst (.inl u0d) ((hs.rep _).same (Stp.new fh n).ff))⟩
 ·obtain ⟨⟨h1,h2,h3,h4⟩,q⟩:=u3t q
  cases py;cases px with
  | tup hq hs=>exact op_repT pins s σ H _ _ v u Q I rx ry ⟨_,_,_,rfl,rfl,fh.seqT hq,h1,h2,(λe=>by subst e;cases hs;cases h3),by rw[hs.length];exact h4,λp n=>q _ _ _ (Stp.new fh n) (.tup (.inl (.inl u0d)) ((hs.rep _).same (Stp.new fh n).ff))⟩
 ·exact q.elim
end
noncomputable def runT (n m:Nat) (t:Rho->Out) (ds:List D):Res D:=if ds.length=m then noE (outR (t (startD n ds))) else .bad
noncomputable def runX (n m:Nat) (t:Rho->Out) (ds:List D):Res D:=if ds.length=m then outR (t (startD n ds)) else .bad
section
variable {P:Program}{w:World}{K:W.Frag}{mg:MG}{base:Heap}
def Fun.okT {x qual:Str}{st:Stmt}{f:Addr}{fd:FuncData}{N ps:List Str}{k:Nat}{t:Rho->Out} (F:Fun K x qual st f fd) (S:FnScope N ps (defScope st))
  (hbody:∀(cdv:Value) (A:Around) (outer:List Env) (s:Shared) (H:Hp) (E:XK),Room k (A.deeper (envOfC qual (defScope st) s.heap.objs.size f cdv))->DB (cxOf CX0 P w K mg base N qual (defScope st) f cdv A outer s H E).nox xqF (defBody st) t) :
  FnOk P w K mg base CX0 (k+1) f fd ps (spF K (runT N.length ps.length t)):=by
 refine F.okD S (λds d h=>?_) λcdv A outer s H E hr=>⟨t,hbody cdv A outer s H E hr,λds d h=>?_⟩
 ·unfold runT at h
  split at h
  ·assumption
  ·cases h
 ·unfold runT at h
  split at h
  ·cases q:outR (t (startD N.length ds)) with
   | ok d'=>rw[q] at h;exact h
   | err x=>rw[q] at h;cases h
   | bad=>rw[q] at h;cases h
  ·cases h
set_option tactic.hygienic true in
def Fun.okTX {x qual:Str}{st:Stmt}{f:Addr}{fd:FuncData}{N ps:List Str}{k:Nat}{t:Rho->Out} (F:Fun K x qual st f fd) (S:FnScope N ps (defScope st))
  (hbody:∀ (cdv:Value) (A:Around) (outer:List Env) (s:Shared) (H:Hp) (E:XK),Room k (A.deeper (envOfC qual (defScope st) s.heap.objs.size f cdv))->XqOk (cxR P w K mg base N qual (defScope st) f cdv A outer s H E) (xq0 E) ->
   DB (cxR P w K mg base N qual (defScope st) f cdv A outer s H E) (xq0 E) (defBody st) t):FnOk P w K mg base (CXe P w) (k+1) f fd ps (spX K (runX N.length ps.length t)):=by
 refine F.okX S (λds h=>?_) λcdv A outer s H E hr hq=>⟨t,hbody cdv A outer s H E hr hq,λds h=>?_⟩
 ·unfold runX at h
  split at h
  ·assumption
  ·exact absurd rfl h
 ·unfold runX at h |-
  split at h
  ·rename_i q;rw[if_pos q]
  ·exact absurd rfl h
end
section
variable {X:Cx}{w:World}{K:W.Frag}
def o_inW (hu:X.A.units+200<cLine) (ew:X.w=w:=by rfl):OpR X (compareOp .In) (rD X.K (dInA w false)):=by subst ew;exact o_inA hu
def dn_newW {xq:XQ}{pos:Pos} (ew:X.w=w:=by rfl):DN X xq (.Dict [] [] pos) (λ_=>.ok (.n (hashW w) [])):=by subst ew;exact dn_new
def v3Q {xq:XQ}{cn nm:Str}{C':Addr}{i:Nat}{p pos:Pos}{b0:Stmt}{bs:List Stmt}{rest:List ExceptHandler}{fb:Rho->Out}{hr:D->Rho->Out} (hst:X.stack=X.env::X.outer/\X.env.frame=some X.env.locals) (hN:X.N.Nodup) (hm:X.mg cn=some (.ref C')) (hb:XBase K C')
  (hsu:∀e,DB (cxH X e) xqF (b0::bs) fb) (hrs:DH X xq rest hr) (eK:X.K=K:=by rfl) (hi:X.N[i]?=some nm:=by rfl) (hl:X.env.scope.names.lookup nm=some .local:=by rfl) (hk:X.env.kindOf nm=some .local:=by rfl) (hg:Gl X cn:=by rfl) (hdb:(cn==("__debug__":Str))=false:=by decide) :
  DH X xq (.ExceptHandler (some (.Name cn p)) (some nm) (b0::bs) pos::rest) (hdAs K C' i fb hr):=by subst eK;exact dh_as hst hN hm hb hsu hrs hi hl hk hg hdb
end
section
variable {X:Cx}{xq:XQ}{i value:Expr}{fi fv:Rho->Res D}{x:Str}{p pos pos':Pos}{w:World}
def ds_putW (j:Nat) (hu:X.A.units+200<cLine) (hi:DE X xq i fi) (hv:DE X xq value fv) (ew:X.w=w:=by rfl) (hN:X.N[j]?=some x:=by rfl) (hvs:Vis X.env.scope x:=by first|exact Or.inl rfl|exact Or.inr (Or.inl rfl)|exact Or.inr (Or.inr rfl)) (hd:(x==("__debug__":Str))=false:=by decide) (hcd:(x==("__classdict__":Str))=false:=by decide)
  (hs:swapsWith value (some (.Subscript (.Name x p) i pos')) pos.line X.env=pure false:=by rfl):DS X xq (.Assign [.Subscript (.Name x p) i pos'] value pos) (fPutN w j fi fv):=by subst ew;exact ds_putN j hu hi hv hN hvs hd hcd hs
end
structure FunD (K:W.Frag) (x qual:Str) (st:Stmt) (f:Addr) (fd:FuncData):Prop where
 ex:∃(oc:Value) (od:Option Addr) (dV kV doc pm:Value) (an:Option Addr) (cdv ct:Value) (osl:Array (Option Value)),
  fd=W.fnOf x qual (defArgs st) (defBody st) (defScope st) dV kV doc pm an cdv ct/\K.lookup f=some ⟨oc,od,.func fd,osl⟩/\W.codeIn K cdv qual=true
noncomputable def gIxK (x y:D):Res D:=match x with
 | .dct ps=>(keyK y).bind λk=>match valD ps k with
  | some d=>.ok d
  | none=>.bad
 | _=>.bad
section
variable {X:Cx}{xq:XQ}{o i e f:Expr}{fo fi ff:Rho->Res D}{pos apos cpos:Pos}
def d_ixK (hu:X.A.units+1<cLine) (ho:DE X xq o fo) (hi:DE X xq i fi) (hs:NoSl i:=by intro _ _;rfl):DE X xq (.Subscript o i pos) (λρ=>(fo ρ).bind λx=>(fi ρ).bind λy=>gIxK x y) :=
 DE.of (pe_dget hu ho.out hi.out hs) λB F ρ σ H Q R q=>seqE R q λd v F1 H1 s1 R1 p1 q1=>seqE R1 q1 λd2 v2 F2 H2 s2 R2 p2 q2=>by
  have p1':=p1.same s2.ff;cases p1' with
  | @dK a kvs ps hq hr =>
   obtain⟨k,ek,q3⟩:=u5l p2 (Res.all_bind.mp q2);subst ek
   have:=hr.val (k:=k)
   cases e:valD ps k with
   | none=>rw[e] at q3;exact q3.elim
   | some d3 =>
    rw[e] at this q3;obtain⟨z,hz,pz⟩:=this;refine⟨a,z,rfl,?_,q3 z F2 H2 (s1.trans s2) pz⟩;have g:=DGet.k (k:=k) (R2.fh _ _ hq);rw[hz] at g;exact g
  | _=>exact q2.elim
end
section
variable {P:Program}{w:World}{A:Around}{E:VP}{s:Shared}
def v3G {j q:Addr}{i:Nat}{ys:Array Value}{x:Value}{Q:VP} (hj:s.heap.IsTupleIter j q i) (hq:s.heap.IsTuple q ys) (hx:ys[i]?=some x)
  (k:∀h',h'.IsTupleIter j q (i+1)->Heap.SameBut j s.heap h'->Q x { s with heap:=h' }):wpAny (model P w) A (Builtin.SmallTypes.nextOf (.ref j)) Q E s:=by
 obtain⟨oj,e1,e2,e3⟩:=id hj;obtain⟨oq,e4,-,n,e5⟩:=hq;unfold Builtin.SmallTypes.nextOf;refine wpAny_bind (wpAny_callSpecial?_slot (name:=Str.ofString "__next__") hj.typeIs F.slot_tuple_iterator_next (wpAny_call_entry F.slot_tuple_iterator_next hj.typeIs F.entry_tuple_iterator_next ?_ (F.args_tuple_iterator_next_1 _)));show wpAny _ _ (field (.ref j) 0 >>= _) _ _ s;refine wpAny_bind (wpAny_field e1 e3 (x:=.ref q) rfl ?_);show wpAny _ _ (if (Value.ref q==Value.none)=true then _ else _) _ _ s
 rw[if_neg (show ¬ ((Value.ref q==Value.none)=true) from q9)]
 show wpAny _ _ (field (.ref j) 1 >>= _) _ _ s;refine wpAny_bind (wpAny_field e1 e3 (x:=.int i 0) rfl ?_);show wpAny _ _ (seqItems? (.ref q) >>= _) _ _ s;refine wpAny_bind (wpAny_seqItems e4 e5 ?_);simp only[Int.toNat_natCast,hx];exact wpAny_bind (wpAny_setField e1 e3 (by simp) (wpAny_pure ⟨x,rfl,wpAny_pure (k _ ⟨_,r9 _ e1 (Obj.isFreed_of_fields (Obj.data_mapFields e3 _)),(Obj.cls_mapFields ..).trans e2,by rw[Obj.data_mapFields e3];simp[rawInt]⟩ (Heap.SameBut.update ..))⟩))
def u2M {j q:Addr}{i:Nat}{ys:Array Value}{Q:VP} (hn:A.handled=none) (hj:s.heap.IsTupleIter j q i) (hq:s.heap.IsTuple q ys) (hx:ys[i]?=none)
  (k:∀h' u,Heap.ExtBut j s.heap h'->(∃o,h'.get? u=some o/\o.cls=.type "StopIteration")->E (.ref u) { s with heap:=h' }):wpAny (model P w) A (Builtin.SmallTypes.nextOf (.ref j)) Q E s:=by
 obtain⟨oj,e1,e2,e3⟩:=id hj;obtain⟨oq,e4,-,n,e5⟩:=hq;unfold Builtin.SmallTypes.nextOf;refine wpAny_bind (wpAny_callSpecial?_slot (name:=Str.ofString "__next__") hj.typeIs F.slot_tuple_iterator_next (wpAny_call_entry F.slot_tuple_iterator_next hj.typeIs F.entry_tuple_iterator_next ?_ (F.args_tuple_iterator_next_1 _)));show wpAny _ _ (field (.ref j) 0 >>= _) _ _ s;refine wpAny_bind (wpAny_field e1 e3 (x:=.ref q) rfl ?_);show wpAny _ _ (if (Value.ref q==Value.none)=true then _ else _) _ _ s
 rw[if_neg (show ¬ ((Value.ref q==Value.none)=true) from q9)]
 show wpAny _ _ (field (.ref j) 1 >>= _) _ _ s;refine wpAny_bind (wpAny_field e1 e3 (x:=.int i 0) rfl ?_);show wpAny _ _ (seqItems? (.ref q) >>= _) _ _ s;refine wpAny_bind (wpAny_seqItems e4 e5 ?_);simp only[Int.toNat_natCast,hx];refine wpAny_bind (wpAny_rule (wpAny_bind (wpAny_setField e1 e3 (by simp) ?_)))
 show wpAny _ _ (newExc (.type "StopIteration") [] >>= _) _ _ _;refine wpAny_bind ?_;simp only[newExc,newTuple];refine wpAny_bind (wpAny_newObj_type (wpAny_bind (m:=firstArgMember _ _) (wpAny_of_eq (a:=Value.none) (by first|rfl|(simp only[firstArgMember];rfl)) (wpAny_newObj_type ?_ (by size_fits)))) (by size_fits))
 simp only[raiseNew];refine wpAny_bind (wpAny_handled ?_)
 first|rw[show A.in1.handled=none from hn] | rw[hn]
 exact wpAny_bind (wpAny_pure (wpAny_throw (k _ _ (((Heap.SameBut.update ..).extBut.push _).push _) ⟨_,z6 _ rfl,rfl⟩)))
def drawT (hn:A.handled=none) (j q:Addr) (hne:q≠j) (ys:Array Value):Draws P w A j [j,q] ys.size (λi v=>ys[i]?=some v) (λi h=>h.IsTupleIter j q i/\h.IsTuple q ys) where
 live:=λ_ _ st=>let ⟨o,ho,_⟩:=st.1;⟨o,ho⟩
 frame:=λ_ _ _ st k=>⟨by obtain⟨o,a,b⟩:=st.1;exact⟨o,k j (by simp) o a,b⟩,by obtain⟨o,a,b⟩:=st.2;exact⟨o,k q (by simp) o a,b⟩⟩
 item:=λi s Q E hi st k=>v3G st.1 st.2 (x:=ys[i]) (by simp[hi]) λh' a b=>k _ h' s.toks (by simp[hi]) ⟨a,st.2.extBut b.extBut hne⟩ b
 done:=λs Q E st k=>u2M hn st.1 st.2 (by simp) k
abbrev tIt (l:Addr):Obj:={ cls:=.type "tuple_iterator",data:=.fields #[.ref l,.int 0 0] }
abbrev eOb (j:Addr):Obj:={ cls:=.type "enumerate",data:=.fields #[.none,.bool false,.ref j,rawInt 0,.none,.none] }
set_option tactic.hygienic true in
def v0z (l:Addr) (ys:Array Value) (n:Nat) (dct:Option Addr) (sl:Array (Option Value)) :
  Meets (Builtin.«enumerate.__new__» ⟨[.type "enumerate",.ref l],[]⟩) (λ_ R s=>s.heap.get? l=some { cls:=.type "tuple",dict:=dct,data:=.seq ys n,slots:=sl } /\
   R (.ok (.ret (.ref (s.heap.push (tIt l)).objs.size))) { s with heap:=(s.heap.push (tIt l)).push (eOb s.heap.objs.size) }) :=
 .of_wp λprog w A R s h=>by
  obtain⟨hp,g,d,tk,os⟩:=s;obtain⟨hl,h⟩:=h;have z1:=sub_enumerate;have hL:Heap.IsTuple (Shared.heap ⟨hp,g,d,tk,os⟩) l ys:=⟨_,hl,rfl,n,rfl⟩
  wp_walk using AutoSeq1.wpAny_loadPart' hl
  refine wpAny_stack_any λst=>wpAny_pure ?_
  split
  ·rename_i c _ _ _ _ _
   cases (c==Value.type "enumerate")<;>(wp_walk using AutoSeq1.wpAny_loadPart' hl,wpAny_pyIter_tuple hL;exact⟨_,rfl,h⟩)
  ·wp_walk using AutoSeq1.wpAny_loadPart' hl,wpAny_pyIter_tuple hL
   exact⟨_,rfl,h⟩
def v3o {l:Addr}{ys:Array Value}{Q:VP} (hL:s.heap.IsTuple l ys)
  (h:∀h',IsEnum h' (s.heap.objs.size+1) s.heap.objs.size 0 .none->h'.IsTupleIter s.heap.objs.size l 0->(∀b o,s.heap.get? b=some o->h'.get? b=some o)->Q (.ref (s.heap.objs.size+1)) { s with heap:=h' }) :
  wpAny (model P w) A (call (.type "enumerate") [.ref l]) Q E s:=by
 obtain⟨⟨c,dct,dt,sl⟩,hl,hc,n,hd⟩:=hL;obtain rfl:c=.type "tuple":=hc;obtain rfl:dt=.seq ys n:=hd;refine callType_new F.called_enumerate (by decide) (F.typeCall_enumerate_1 _) (F.newCall_enumerate_1 _) (λobj=>F.args_object_init_2 obj _) F.entry_enumerate_new (v0z l ys n dct sl) ⟨hl,?_⟩
 have hz:(s.heap.push (tIt l)).objs.size=s.heap.objs.size+1:=Heap.size_push ..;show _/\_;rw[hz];have he:IsEnum ((s.heap.push (tIt l)).push (eOb s.heap.objs.size)) (s.heap.objs.size+1) s.heap.objs.size 0 .none:=by
  have:=z6 (s.heap.push (tIt l)) (o:=eOb s.heap.objs.size) rfl
  rw[hz] at this;exact this
 exact⟨⟨_,he,rfl⟩,h _ he ⟨_,z5 _ (z6 _ rfl),rfl,rfl⟩ λb o x=>z5 _ (z5 _ x)⟩
end
def IteT (K:W.Frag) (a:Addr):It :=
 ⟨λi H=>∃xs x,SqT K H a xs/\xs[i]?=some x,λi H y H'=>∃p x,H p=none/\y=.ref p/\H'=upd H p (.tup [.int i,x])/\∀xs,SqT K H a xs->xs[i]?=some x,λi H=>∃xs,SqT K H a xs/\xs.length<=i⟩
def v1N {P:Program}{w:World}{K:W.Frag}{es:List Expr}{k:Nat}{pos:Pos} (a e it:Addr) (hne:e≠it) :
  Turn P w K (.Tuple es k pos) (IteT K a) [e,it] e (λi h=>(∃old,IsEnum h e it (i:Int) old)/\h.IsTupleIter it a i) where
 mem:=by simp
 obj:=λi h st b hb=>by
  obtain⟨⟨old,q⟩,o,e2,c,d⟩:=st;rcases y7.mp hb with rfl|hb
  ·exact⟨_,q,λv z=>by cases z⟩
  ·obtain rfl:b=it:=by simpa using hb
   exact⟨o,e2,λv z=>by rw[d] at z;cases z⟩
 keep:=λi h h' st k=>⟨by obtain⟨old,q⟩:=st.1;exact⟨old,k e (by simp) _ q⟩,by obtain⟨o,a,b⟩:=st.2;exact⟨o,k it (by simp) o a,b⟩⟩
 item:=by
  intro X hP hw hK hc i pins s σ H E I hf st hg;subst hP hw hK;obtain⟨xs,x,hq,hx⟩:=hg;obtain⟨its,rv,p,hz⟩:=I.tuple hq;have p:s.heap.IsTuple a its.toArray:=p;obtain⟨u,hu,ru⟩:=rv.get hx;obtain⟨⟨old,he⟩,hl⟩:=st;have f1:=hf e (by simp)
  have f2:=hf it (by simp)
  have hel:e<s.heap.objs.size:=z7 he;have hae:a≠e:=by
   rintro rfl;obtain⟨o,e1,e2,_⟩:=p;rw[he] at e1;cases e1;injection e2 with e2;exact absurd e2 (by decide)
  have hai:a≠it:=by
   rintro rfl;obtain⟨o,e1,e2,_⟩:=p;obtain⟨o',e3,e4,_⟩:=hl;rw[e1] at e3;cases e3;rw[e2] at e4;injection e4 with e4;exact absurd e4 (by decide)
  have hil:i<its.toArray.size:=by
   have:=(w6.mp hu).1
   simpa using this
  refine wpAny_pyNext_enum_itemD (drawT (A:=X.A.in1) (I.ok.hd hc) it a hai its.toArray) he ⟨hl,p⟩ hil hne (λz=>by
   rcases y7.mp z with z|z
   ·exact hne z
   ·exact hae (v9.mp z).symm) λy h1 tk hy eo li ht hsz kk=>⟨_,rfl,?_⟩
  obtain rfl:y=u:=by
   have:its[i]?=some y:=by simpa using hy
   rw[hu] at this;cases this;rfl
  refine wpAny_letOwnedTupleGo_enum (s:={ s with heap:=h1,toks:=tk+1 }) eo λh2 en sb=>?_
  have hpe:s.heap.objs.size≠e:=Nat.ne_of_gt hel;have hfr:H s.heap.objs.size=none:=I.hok.fresh (y0 _);have k2:∀b o,b≠e->b≠it->s.heap.get? b=some o->h2.get? b=some o:=λb o hb hi q=>(sb.2 b hb).trans (kk b o hb hi q)
  have ht2:h2.get? s.heap.objs.size=some { cls:=.type "tuple",data:=.seq #[.int i tk,y] }:=(sb.2 _ hpe).trans ht;have I2:=I.turned2 (t':=tk+1) (p:=s.heap.objs.size) (ys:=[.int i,x]) k2 f1 f2 (y0 _) ⟨by show 2<=sizeLine;decide,[.int i tk,y],.cons ⟨_,rfl⟩ (.cons ru .nil),⟨_,ht2,rfl,_,rfl⟩⟩
  have en':IsEnum h2 e it (((i+1:Nat):Int)) y:=by
   have:((i+1:Nat):Int)=(i:Int)+1:=by omega
   rw[this];exact en
  refine⟨.ref s.heap.objs.size,_,I2,rfl,⟨s.heap.objs.size,x,hfr,rfl,rfl,λys hy=>by rw[I.tuple_inj hy hq];exact hx⟩,⟨⟨y,en'⟩,?_⟩,λb hb=>?_⟩
  ·obtain ⟨o,q,r⟩:=li.1
   exact⟨o,(sb.2 it (Ne.symm hne)).trans q,r⟩
  ·have hb':b<s.heap.objs.size:=by
    rcases y7.mp hb with rfl|hb
    ·exact hel
    ·obtain rfl:b=it:=by simpa using hb
     obtain⟨o,q,_⟩:=hl;exact z7 q
   rw[u0f (v5 hb')];exact(hf b hb).1
 done:=by
  intro X hP hw hK hc i pins s σ H E I hf st hg;subst hP hw hK;obtain⟨xs,hq,hx⟩:=hg;obtain⟨its,rv,p,hz⟩:=I.tuple hq;have p:s.heap.IsTuple a its.toArray:=p;obtain⟨⟨old,he⟩,hl⟩:=st;obtain⟨f0,f1,f2,f3,f4,f5⟩:=hf it (by simp)
  have hlen:=rv.length;unfold pyNext;have hT:s.TypeIs (.ref e) "enumerate":=⟨_,he,rfl⟩;refine wpAny_bind (wpAny_attempt (wpAny_callSpecial?_slot (name:=Str.ofString "__next__") hT F.slot_enumerate_next (wpAny_call_entry F.slot_enumerate_next hT F.entry_enumerate_next ?_ (F.args_enumerate_next_1 _))));show wpAny _ _ (field (.ref e) 2 >>= _) _ _ _;refine wpAny_bind (wpAny_field he rfl (x:=.ref it) rfl (wpAny_bind (u2M (by first|exact I.ok.hd hc|exact(I.ok.hd hc)) hl p (by simp;omega) λh' u eb hu=>?_)))
  obtain⟨o,ho,hcl⟩:=hu;exact wpAny_bind (wpAny_isInstance (T:="StopIteration") (b:=true) ⟨o,ho,hcl⟩ isSubtype_stop (wpAny_pure ⟨rfl,I.turned (t':=s.toks) (λb o hb q=>eb b o hb q) f0 f1 f3 f4 f5⟩))
 self:=λ_ _ _ _ _ st h=>by
  obtain⟨⟨old,he⟩,_⟩:=st;exact wpAny_pyIter_enum he h
def iEnT (K:W.Frag) (ta:TA):TI:=λσ H R=>ta σ H λvs H1=>(∃a xs,vs=[.ref a]/\SqL K H1 a xs/\R (Ite K a) H1)\/∃a xs,vs=[.ref a]/\SqT K H1 a xs/\R (IteT K a) H1
section
variable {X:Cx}{xq:XQ}{a:Expr}{ta:TA}{p pos tp:Pos}{es:List Expr}{k:Nat}{fa:Rho->Res (List D)}
def pi_enT (hg:Gl X "enumerate") (hm:X.mg "enumerate"=none) (ha:PA X [a] ta) (hs:starEach [a] X.env=[(false,eval a X.env)]:=by rfl):PI X (.Tuple es k tp) (.Call (.Name "enumerate" p) [a] [] pos) (iEnT X.K ta):=by
 intro pins s σ H R I h;refine Call_ (u1M I hg hm (show bootBuiltins "enumerate"=some (.type "enumerate") by decide +kernel) (PyProof.Rows.callWith_type1 (thn (ha pos pins s σ H _ I h) λus s1 ⟨vs,H1,I1,r1,q1⟩=>?_) hs rfl))
 have hne:s1.heap.objs.size+1≠s1.heap.objs.size:=Nat.succ_ne_self _;have hfp:∀b∈[s1.heap.objs.size+1,s1.heap.objs.size],s1.heap.objs.size<=b:=λb hb=>by
  rcases y7.mp hb with rfl|hb
  ·exact Nat.le_succ _
  ·have e:b=s1.heap.objs.size:=by simpa using hb
   rw[e];exact y0 _
 rcases q1 with⟨a',xs,e,hq,q⟩|⟨a',xs,e,hq,q⟩
 ·subst e
  obtain⟨u,rfl,ru⟩:=vals1 r1;cases ru;obtain⟨its,rv,pl,hz⟩:=I1.list hq;refine call_enumerate_list pl.isList λh' en li hsz kk=>wpAny_pyIter_enum en ?_
  exact⟨s1.heap.objs.size+1,[s1.heap.objs.size+1,s1.heap.objs.size],_,Ite X.K a',H1,rfl,I1.kept (t':=s1.toks) kk,u5D a' _ _ hne,⟨⟨_,en⟩,li⟩,λb hb=>I1.fpOk (hfp b hb) (I1.hok.fresh (hfp b hb)),q⟩
 ·subst e
  obtain⟨u,rfl,ru⟩:=vals1 r1;cases ru;obtain⟨its,rv,pl,hz⟩:=I1.tuple hq;refine v3o (show s1.heap.IsTuple a' its.toArray from pl) λh' en li kk=>wpAny_pyIter_enum en ?_
  exact⟨s1.heap.objs.size+1,[s1.heap.objs.size+1,s1.heap.objs.size],_,IteT X.K a',H1,rfl,I1.kept (t':=s1.toks) kk,v1N a' _ _ hne,⟨⟨_,en⟩,li⟩,λb hb=>I1.fpOk (hfp b hb) (I1.hok.fresh (hfp b hb)),q⟩
def Feed.enT {K:W.Frag}{F:Hp}{a:Addr}{xs:List V}{ds:List D} (h:SqT K F a xs) (r:Rps K F xs ds):Feed K F (IteT K a) (enumL ds) where
 go i H e hi:=by
  have hi':i<xs.length:=by rw[r.length];simpa[enumL] using hi
  exact⟨xs,xs[i],e.seqT h,by simp[hi']⟩
 yld i F1 H x H' d e1 e2 hd y:=by
  obtain⟨p,v,hp,rfl,rfl,y⟩:=y;have hv:xs[i]?=some v:=y xs ((e1.trans e2).seqT h);have hd2:∃d0,ds[i]?=some d0/\d=.tup [.int (i:Nat),d0]:=by
   unfold enumL at hd;rw[w9,List.getElem?_zipIdx] at hd;cases q:ds[i]? with
   | none=>rw[q] at hd;cases hd
   | some d0=>rw[q] at hd;simp at hd;exact⟨d0,rfl,hd.symm⟩
  obtain⟨d0,q0,rfl⟩:=hd2;obtain⟨w,hw,pw⟩:=r.get q0;rw[hv] at hw;cases hw;have s:=Stp.new (o:=.tup [.int (i:Nat),v]) e2 hp;exact⟨_,s,.tup (.inl (.inl u0d)) (.cons (.int _) (.cons (pw.same (e1.trans s.ff)) .nil))⟩
 stop i H e hi:=⟨xs,e.seqT h,by rw[r.length];simpa[enumL] using hi⟩
noncomputable def enum2:List D->Res (List D)
 | [.lst ds]=>.ok (enumL ds)
 | [.tup ds]=>.ok (enumL ds)
 | _=>.bad
def v3P {tp:Pos} (hm:X.mg "enumerate"=none) (ha:DA X xq [a] fa) (hg:Gl X "enumerate":=by rfl):DI X xq (.Tuple es k tp) (.Call (.Name "enumerate" p) [a] [] pos) (λρ=>(fa ρ).bind enum2) :=
 ⟨λpins s σ H R I z9=>un5 z9 λB F ρ R' q=>pi_enT hg hm ha.out (u0k (u0j ha.ns).1) pins s σ H R I (seqA R' q λds vs F1 H1 s1 R1 p1 q1=>by
  unfold enum2 at q1;split at q1
  ·obtain ⟨v,rfl,pv⟩:=rps1 p1
   cases pv with
   | lst hq hs=>exact .inl ⟨_,_,rfl,.inl (hq.same R1.fh),q1 _ F1 H1 s1 (Feed.enum (.inl hq) hs)⟩
  ·obtain ⟨v,rfl,pv⟩:=rps1 p1
   cases pv with
   | tup hq hs=>exact .inr ⟨_,_,rfl,R1.fh.seqT hq,q1 _ F1 H1 s1 (Feed.enT hq hs)⟩
  ·exact q1.elim)⟩
end
def u9U:Manifest.owners.lookup (String.ofList ['d','e','s','r','e','v','e','r'].reverse)=some Manifest.sig_reversed:=by kernel_rfl
def u3R:Slot "reversed" "__next__" "reversed.__next__":=.of (owner:="reversed") (n:="__next__") (by rw[typeLookup_type,builtinLookup_eq_fast];kernel_rfl) (by decide +kernel) (by decide +kernel) (by decide +kernel) (by first|exact .inl (by decide +kernel)|exact .inr (by decide +kernel)) (by rw[isSubtype_type];kernel_rfl)
def u9V:Slot "reversed" "__iter__" "reversed.__iter__":=.of (owner:="reversed") (n:="__iter__") (by rw[typeLookup_type,builtinLookup_eq_fast];kernel_rfl) (by decide +kernel) (by decide +kernel) (by decide +kernel) (by first|exact .inl (by decide +kernel)|exact .inr (by decide +kernel)) (by rw[isSubtype_type];kernel_rfl)
def rv_init:Slot "reversed" "__init__" "object.__init__":=.of (owner:="object") (n:="__init__") (by rw[typeLookup_type,builtinLookup_eq_fast];kernel_rfl) (by decide +kernel) (by decide +kernel) (by decide +kernel) (by first|exact .inl (by decide +kernel)|exact .inr (by decide +kernel)) (by rw[isSubtype_type];kernel_rfl)
def u7G:entryFor table "reversed.__next__"=some Builtin.«reversed.__next__»:=entryFor_of_tree (by kernel_rfl)
def u7H (a:Value):argsOk "reversed.__next__" ⟨[a],[]⟩:=by
 unfold argsOk;rw[signature?_of (id:="reversed.__next__") (n:=['_','_','t','x','e','n','_','_']) (o:=['d','e','s','r','e','v','e','r']) (by kernel_rfl) u9U];kernel_rfl
def v2g (a:Value):argsOk "reversed.__iter__" ⟨[a],[]⟩:=by
 unfold argsOk;rw[signature?_of (id:="reversed.__iter__") (n:=['_','_','r','e','t','i','_','_']) (o:=['d','e','s','r','e','v','e','r']) (by kernel_rfl) u9U];kernel_rfl
def v2e:entryFor table "reversed.__iter__"=some Builtin.«dict_keyiterator.__iter__» :=
 entryFor_alias (id':="dict_keyiterator.__iter__") (by kernel_rfl) (by first|rfl|decide +kernel|(unfold String.splitOn;simp +decide [String.splitOnAux])) (by decide +kernel) (by kernel_rfl)
def u9W:TypeCalled "reversed" "reversed.__new__" "object.__init__" :=
 ⟨by decide +kernel,by decide +kernel,⟨_,_,F.mro_reversed⟩,F.made_reversed,by decide +kernel,F.sub_reversed_self,rv_init⟩
def u6a:typeLookup (.type "tuple") "__reversed__"=pure none:=by rw[typeLookup_type,builtinLookup_eq_fast];kernel_rfl
def u5E:isSubtype (.type "tuple") (.type "dict")=pure false:=by rw[isSubtype_type];kernel_rfl
abbrev rvO (l:Addr) (i:Int):Obj:={ cls:=.type "reversed",data:=.fields #[.ref l,rawInt i] }
def IsRv (h:Heap) (a l:Addr) (i:Int):Prop:=h.get? a=some (rvO l i)
section
variable {P:Program}{w:World}{A:Around}{E:VP}{s:Shared}
def IsRv.ty {a l:Addr}{i:Int} (x:IsRv s.heap a l i):s.TypeIs (.ref a) "reversed":=⟨_,x,rfl⟩
def rv_new {l:Addr}{ys:Array Value}{Q:VP} (hL:s.heap.IsTuple l ys) (hz:(ys.size:Int)<2^63)
  (h:∀t,Q (.ref s.heap.objs.size) { s with heap:=s.heap.push (rvO l ((ys.size:Int) - 1)),toks:=t }):wpAny (model P w) A (Builtin.«reversed.__new__» ⟨[.type "reversed",.ref l],[]⟩) (λfin s'=>∃v,fin=.done (.ret v)/\Q v s') E s:=by
 unfold Builtin.«reversed.__new__»;refine wpAny_bind (wpAny_of_eq (newClass_reversed _) ?_)
 try dsimp only
 refine wpAny_bind (wpAny_of_eq (a:=()) (by first|rfl|kernel_rfl) (wpAny_bind (wpAny_of_eq (a:=()) (by first|rfl|kernel_rfl) ?_)))
 try dsimp only
 refine wpAny_bind (wpAny_specialOf hL.typeIs u6a ?_)
 try dsimp only
 refine wpAny_bind ?_;show wpAny _ _ (isInstance (.ref l) (.type "dict") >>= _) _ _ _;refine wpAny_bind (wpAny_isInstance (T:="tuple") (b:=false) hL.typeIs u5E ?_)
 try dsimp only
 rw[if_neg q9];refine wpAny_bind (wpAny_specialOf hL.typeIs slot_tuple_getitem.lookup ?_);dsimp only;rw[if_pos (by decide)]
 refine wpAny_pure ?_;rw[if_neg (by decide)]
 refine wpAny_bind (len_tuple (show IsTup s.heap l ys from hL) hz (wpAny_bind (wpAny_of_eq (a:=some (ys.size:Int)) rfl ?_)))
 dsimp only;exact wpAny_bind (m:=Builtin.SmallTypes.newRecord _ _) (show wpAny _ _ (newObj (.type "reversed") (.fields #[.ref l,rawInt ((ys.size:Int) - 1)])) _ _ _ from wpAny_newObj_type (wpAny_pure ⟨_,rfl,h _⟩))
def v2K (l:Addr) (ys:Array Value):Meets (Builtin.«reversed.__new__» ⟨[.type "reversed",.ref l],[]⟩) (λ_ R s=>s.heap.IsTuple l ys/\(ys.size:Int)<2^63/\∀t,R (.ok (.ret (.ref s.heap.objs.size))) { s with heap:=s.heap.push (rvO l ((ys.size:Int) - 1)),toks:=t }) :=
 .of_wp λprog w A R s h=>rv_new (Q:=λv s'=>R (.ok (.ret v)) s') h.1 h.2.1 h.2.2
def v1A {l:Addr}{ys:Array Value}{Q:VP} (hL:s.heap.IsTuple l ys) (hz:(ys.size:Int)<2^63)
  (h:∀t,Q (.ref s.heap.objs.size) { s with heap:=s.heap.push (rvO l ((ys.size:Int) - 1)),toks:=t }):wpAny (model P w) A (call (.type "reversed") [.ref l]) Q E s:=by
 refine callType_new u9W (by decide) (F.typeCall_reversed_1 _) (F.newCall_reversed_1 _) (λobj=>F.args_object_init_2 obj _) F.entry_reversed_new (v2K l ys) ⟨hL,hz,λt=>?_⟩
 show _/\_;exact⟨⟨_,z6 _ rfl,rfl⟩,h t⟩
def nx_rv {j l:Addr}{i:Nat}{ys:Array Value}{x:Value}{Q:Option Value->Shared->Prop} (hj:IsRv s.heap j l (i:Int)) (hl:s.heap.IsTuple l ys) (hz:(ys.size:Int)<2^63) (hx:ys[i]?=some x)
  (k:∀h' t,IsRv h' j l ((i:Int) - 1)->Heap.SameBut j s.heap h'->Q (some x) { s with heap:=h',toks:=t }):wpAny (model P w) A (pyNext (.ref j)) Q E s:=by
 have hi:i<ys.size:=(Array.getElem?_eq_some_iff.mp hx).1;unfold pyNext;refine wpAny_bind (wpAny_attempt (wpAny_callSpecial?_slot (name:=Str.ofString "__next__") hj.ty u3R (wpAny_call_entry u3R hj.ty u7G ?_ (u7H _))));unfold Builtin.«reversed.__next__»;refine wpAny_bind (wpAny_of_eq (a:=(Value.ref j,[])) rfl ?_)
 try dsimp only
 refine wpAny_bind (wpAny_field hj rfl (x:=.ref l) rfl (wpAny_bind (wpAny_field hj rfl (x:=rawInt (i:Int)) rfl ?_)));show wpAny _ _ (if (i:Int)<0 then _ else _) _ _ s
 rw[if_neg (by omega)]
 refine wpAny_bind (wpAny_specialOf hl.typeIs slot_tuple_getitem.lookup ?_);simp only[Option.isNone_some,t8,if_false];refine wpAny_bind (wpAny_mkInt (wpAny_bind (wpAny_attempt (getItem_tuple (j:=i) (show IsTup s.heap l ys from hl) (by omega) (by omega) (by simp[seqIndex?];omega) hx ?_))))
 dsimp only;refine wpAny_bind (wpAny_field hj rfl (x:=rawInt (i:Int)) rfl ?_);show wpAny _ _ (setField (.ref j) 1 (rawInt ((i:Int) - 1)) >>= _) _ _ _;exact wpAny_bind (wpAny_setField_rec hj (by simp) λh2 e2 s2=>wpAny_pure ⟨x,rfl,wpAny_pure (k h2 _ e2 s2)⟩)
def u5Z {j l:Addr}{Q:Option Value->Shared->Prop} (hn:A.handled=none) (hj:IsRv s.heap j l (-1))
  (k:∀h',Heap.ExtBut j s.heap h'->Q none { s with heap:=h' }):wpAny (model P w) A (pyNext (.ref j)) Q E s:=by
 unfold pyNext;refine wpAny_bind (wpAny_attempt (wpAny_callSpecial?_slot (name:=Str.ofString "__next__") hj.ty u3R (wpAny_call_entry u3R hj.ty u7G ?_ (u7H _))));unfold Builtin.«reversed.__next__»;refine wpAny_bind (wpAny_of_eq (a:=(Value.ref j,[])) rfl ?_)
 try dsimp only
 refine wpAny_bind (wpAny_field hj rfl (x:=.ref l) rfl (wpAny_bind (wpAny_field hj rfl (x:=rawInt (-1)) rfl ?_)));show wpAny _ _ (if (-1:Int)<0 then _ else _) _ _ s
 rw[if_pos (by decide)]
 refine wpAny_bind (wpAny_rule (wpAny_bind ?_));show wpAny _ _ (setField (.ref j) 1 (rawInt (-1)) >>= λ_=>setField (.ref j) 0 .none) _ _ _
 refine wpAny_bind (wpAny_setField_rec hj (by simp) λh2 e2 s2=>wpAny_setField_rec e2 (by simp) λh3 e3 s3=>?_)
 refine wpAny_bind ?_;show wpAny _ A.in1 (newExc (.type "StopIteration") [] >>= _) _ _ _;refine wpAny_bind ?_;simp only[newExc,newTuple];refine wpAny_bind (wpAny_newObj_type (wpAny_bind (m:=firstArgMember _ _) (wpAny_of_eq (a:=Value.none) (by first|rfl|(simp only[firstArgMember];rfl)) (wpAny_newObj_type ?_ (by size_fits)))) (by size_fits))
 simp only[raiseNew];refine wpAny_bind (wpAny_handled ?_)
 first|rw[show A.in1.handled=none from hn] | rw[hn]
 have x3:Heap.ExtBut j s.heap h3:=λb o hb e=>s3.extBut b o hb (s2.extBut b o hb e)
 refine wpAny_bind (wpAny_pure (wpAny_throw ?_));exact wpAny_bind (wpAny_isInstance (T:="StopIteration") (b:=true) ⟨_,z6 _ rfl,rfl⟩ isSubtype_stop (wpAny_pure (k _ ((x3.push _).push _))))
def it_rv {j l:Addr}{i:Int}{Q:VP} (hj:IsRv s.heap j l i) (h:Q (.ref j) s):wpAny (model P w) A (pyIter (.ref j)) Q E s:=by
 refine wpAny_pyIter_slot hj.ty u9V (wpAny_call_entry u9V hj.ty v2e ?_ (v2g _));show wpAny _ _ (ret (.ref j)) _ _ s;exact wpAny_pure ⟨_,rfl,"reversed",_,hj.ty,u3R.lookup,h⟩
end
def ItR (K:W.Frag) (a:Addr) (n:Nat):It :=
 ⟨λi H=>∃xs,SqT K H a xs/\xs.length=n/\i<n,λi H x H'=>H'=H/\∀xs,SqT K H a xs->xs.reverse[i]?=some x,λi H=>∃xs,SqT K H a xs/\xs.length=n/\n<=i⟩
def turn_rv {P:Program}{w:World}{K:W.Frag}{tg:Expr} (a it:Addr) (n:Nat) (hz:(n:Int)<2^63):Turn P w K tg (ItR K a n) [it] it (λi h=>i<=n/\IsRv h it a ((n:Int) - 1 - (i:Int))) where
 mem:=by simp
 obj:=λi h st b hb=>by
  have e:b=it:=by simpa using hb
  subst e;exact⟨_,st.2,λv z=>by cases z⟩
 keep:=λi h h' st k=>⟨st.1,k it (by simp) _ st.2⟩
 item:=by
  intro X hP hw hK hc i pins s σ H E I hf st hg;subst hP hw hK;obtain⟨xs,hq,hn,hi⟩:=hg;obtain⟨its,rv,p,hl⟩:=I.tuple hq;have p:s.heap.IsTuple a its.toArray:=p;have hlen:=rv.length;have hxi:xs[n - 1 - i]?=some (xs[n - 1 - i]'(by omega)):=y2 (by omega)
  generalize xs[n - 1 - i]'(by omega)=x at hxi
  obtain⟨u,hu,ru⟩:=rv.get hxi;obtain⟨f0,f1,f2,f3,f4,f5⟩:=hf it (by simp)
  have st2:IsRv s.heap it a ((n - 1 - i:Nat):Int):=by
   have e:(n:Int) - 1 - (i:Int)=((n - 1 - i:Nat):Int):=by omega
   rw[<- e];exact st.2
  have hs:its.toArray.size=n:=by rw[y9];omega
  refine nx_rv st2 p (by rw[hs];exact hz) (x:=u) (by simpa using hu) λh' t st' sb=>?_
  have I1:Inv X pins σ H { s with heap:=h',toks:=t }:=I.turned (t':=t) (λb o hb e=>(sb.2 b hb).trans e) f0 f1 f3 f4 f5
  have e2:((n - 1 - i:Nat):Int) - 1=(n:Int) - 1 - ((i+1:Nat):Int):=by omega
  rw[e2] at st';refine⟨u,rfl,u9q (s:={ s with heap:=h',toks:=t }) (n:="reversed") st' rfl rfl (by decide) ⟨x,H,I1,ru,⟨rfl,λys hy=>?_⟩,⟨by omega,st'⟩,λb hb=>(hf b hb).1⟩⟩
  rw[I.tuple_inj hy hq,z2G (by omega),hn]
  exact hxi
 done:=by
  intro X hP hw hK hc i pins s σ H E I hf st hg;subst hP hw hK;obtain⟨xs,hq,hn,hi⟩:=hg;obtain⟨f0,f1,f2,f3,f4,f5⟩:=hf it (by simp)
  have e:(n:Int) - 1 - (i:Int)=-1:=by have:=st.1;omega
  have st2:=st.2;rw[e] at st2;exact u5Z (I.ok.hd hc) st2 λh' eb=>⟨rfl,I.turned (t':=s.toks) (λb o hb e=>eb b o hb e) f0 f1 f3 f4 f5⟩
 self:=λ_ _ _ _ _ st h=>it_rv st.2 h
def Feed.rev {K:W.Frag}{F:Hp}{a:Addr}{xs:List V}{ds:List D} (h:SqT K F a xs) (r:Rps K F xs ds):Feed K F (ItR K a xs.length) ds.reverse where
 go i H e hi:=⟨xs,e.seqT h,rfl,by rw[r.length];simpa using hi⟩
 yld i F1 H x H' d e1 e2 hd y:=by
  obtain⟨rfl,y⟩:=y;have hx:=y xs ((e1.trans e2).seqT h);have hi:i<ds.length:=by have:=(w6.mp hd).1;simpa using this
  rw[z2G hi] at hd;have hi2:i<xs.length:=by rw[r.length];exact hi
  rw[z2G hi2] at hx;obtain⟨v,hv,p⟩:=r.get hd;rw[r.length] at hx;rw[hv] at hx;cases hx;exact⟨F1,Stp.refl e2,p.same e1⟩
 stop i H e hi:=⟨xs,e.seqT h,rfl,by rw[r.length];simpa using hi⟩
def iRev (K:W.Frag) (ta:TA):TI:=λσ H R=>ta σ H λvs H1=>∃a xs,vs=[.ref a]/\SqT K H1 a xs/\R (ItR K a xs.length) H1
noncomputable def revT:List D->Res (List D)
 | [.tup ds]=>.ok ds.reverse
 | _=>.bad
section
variable {X:Cx}{xq:XQ}{a tg:Expr}{ta:TA}{p pos:Pos}{fa:Rho->Res (List D)}
def pi_rev (hg:Gl X "reversed") (hm:X.mg "reversed"=none) (ha:PA X [a] ta) (hs:starEach [a] X.env=[(false,eval a X.env)]:=by rfl):PI X tg (.Call (.Name "reversed" p) [a] [] pos) (iRev X.K ta):=by
 intro pins s σ H R I h;refine Call_ (u1M I hg hm (show bootBuiltins "reversed"=some (.type "reversed") by decide +kernel) (PyProof.Rows.callWith_type1 (thn (ha pos pins s σ H _ I h) λus s1 ⟨vs,H1,I1,r1,q1⟩=>?_) hs rfl))
 obtain⟨a',xs,e,hq,q⟩:=q1;subst e;obtain⟨u,rfl,ru⟩:=vals1 r1;cases ru;obtain⟨its,rv,pl,hl⟩:=I1.tuple hq;have hlen:=rv.length;have hs2:its.toArray.size=xs.length:=by rw[y9];omega
 have hz:(xs.length:Int)<2^63:=by have:=line63;omega
 refine v1A (show s1.heap.IsTuple a' its.toArray from pl) (by rw[hs2];exact hz) λt=>?_
 rw[hs2];have st:IsRv (s1.heap.push (rvO a' ((xs.length:Int) - 1))) s1.heap.objs.size a' ((xs.length:Int) - 1):=z6 _ rfl;refine it_rv st ?_;exact⟨s1.heap.objs.size,[s1.heap.objs.size],_,ItR X.K a' xs.length,H1,rfl,I1.kept (t':=t) (λb o e=>z5 _ e),turn_rv a' _ _ hz,⟨z1A _,by simpa using st⟩,λb hb=>by
  have e:b=s1.heap.objs.size:=by simpa using hb
  subst e;exact I1.fpOk (y0 _) (I1.hok.fresh (y0 _)),q⟩
def di_rev (hm:X.mg "reversed"=none) (ha:DA X xq [a] fa) (hg:Gl X "reversed":=by rfl):DI X xq tg (.Call (.Name "reversed" p) [a] [] pos) (λρ=>(fa ρ).bind revT) :=
 ⟨λpins s σ H R I z9=>un5 z9 λB F ρ R' q=>pi_rev hg hm ha.out (u0k (u0j ha.ns).1) pins s σ H R I (seqA R' q λds vs F1 H1 s1 R1 p1 q1=>by
  unfold revT at q1;split at q1
  ·obtain ⟨v,rfl,pv⟩:=rps1 p1
   cases pv with
   | tup hq hs=>exact⟨_,_,rfl,R1.fh.seqT hq,q1 _ F1 H1 s1 (Feed.rev hq hs)⟩
  ·exact q1.elim)⟩
end
end L2
namespace L2
open PySem PySem.Spec PyProof.Rows
noncomputable def catD:D->D->Res OD
 | .lst xs,.lst ys=>gd (xs.length+ys.length<=sizeLine) (.ok (.l (xs++ys)))
 | _,_=>.bad
section
variable {X:Cx}{xq:XQ}{a b e:Expr}{fa fb fe:Rho->Res D}{pos:Pos}
def v3N (ha:DE X xq a fa) (hb:DE X xq b fb):DN X xq (.BinOp a .Add b pos) (λρ=>(fa ρ).bind λx=>(fb ρ).bind λy=>catD x y) :=
 ⟨λpins s σ H Q I z9=>un5 z9 λB F ρ R q=>pe_op v0r ha.out hb.out pins s σ H Q I (seqE R q λd v F1 H1 s1 R1 p1 q1=>seqE R1 q1 λd2 v2 F2 H2 s2 R2 p2 q2=>by
  have p1':=p1.same s2.ff;cases p1' with
  | lst hx rx' =>
   cases p2 with
   | lst hy ry' =>
    obtain⟨hz,q3⟩:=u3t q2;exact⟨_,_,_,_,rfl,rfl,hx.same R2.fh,hy.same R2.fh,by rw[rx'.length,ry'.length];exact hz,λp n=>q3 p _ F2 _ ((s1.trans s2).trans (Stp.only R2.fh (u0i n))) (R2.fh.free n) ((s1.trans s2).hh.free n) u0d (.l (rx'.append ry'))⟩
   | _=>exact q2.elim
  | _=>exact q2.elim)⟩
end
variable {X:Cx}{xq:XQ}
variable {X:Cx}{xq:XQ}
noncomputable def shS:Sl->Option D
 | .val d=>some d
 | .own _=>none
noncomputable def shp (ρ:Rho):List (Option (Option D)):=ρ.map (Option.map shS)
def u4Z (ρ:Rho) (i:Nat):(shp ρ)[i]?=(ρ[i]?).map (Option.map shS):=by unfold shp;rw[w9]
def u6P {ρ ρ':Rho} (h:shp ρ'=shp ρ) {i:Nat}{o:OD} (e:ρ[i]?=some (some (.own o))):∃o',ρ'[i]?=some (some (.own o')):=by
 have z:(shp ρ')[i]?=(shp ρ)[i]?:=by rw[h]
 rw[u4Z,u4Z,e] at z;cases q:ρ'[i]? with
 | none=>rw[q] at z;cases z
 | some y =>
  rw[q] at z;cases y with
  | none=>cases z
  | some s =>
   cases s with
   | val d=>cases z
   | own o'=>exact⟨o',rfl⟩
def NotOwn (ρ:Rho) (σ:St) (b:Addr):Prop:=∀(i:Nat) o,ρ[i]?=some (some (.own o))->σ[i]?≠some (some (.ref b))
def NotOwn.of {ρ ρ':Rho}{σ:St}{b:Addr} (h:shp ρ'=shp ρ) (n:NotOwn ρ σ b):NotOwn ρ' σ b:=λi o e=>by obtain⟨o',e'⟩:=u6P h.symm e;exact n i o' e'
structure Mv (K:W.Frag) (B:Hp×Hp) (ρ:Rho) (σ:St) (F H:Hp) (ρ':Rho) (F' H':Hp):Prop where
 rel:Rel K B ρ' σ F' H'
 sh:shp ρ'=shp ρ
 ff:Same F F'
 hh:∀b o,NotOwn ρ σ b->H b=some o->H' b=some o
 no:∀b,F b=none->H b≠none->F' b=none
section
variable {K:W.Frag}{B:Hp×Hp}{ρ ρ' ρ1 ρ2:Rho}{σ:St}{F H F' H' F1 H1 F2 H2:Hp}
theorem Mv.refl (R:Rel K B ρ σ F H):Mv K B ρ σ F H ρ F H:=⟨R,rfl,Same.refl F,λ_ _ _ e=>e,λ_ n _=>n⟩
theorem Mv.step (m:Mv K B ρ σ F H ρ1 F1 H1) (s:Stp F1 H1 F2 H2):Mv K B ρ σ F H ρ1 F2 H2 where
 rel:=m.rel.step s
 sh:=m.sh
 ff:=m.ff.trans s.ff
 hh b o n e:=s.hh b o (m.hh b o n e)
 no b n e:=by
  refine s.no b (m.no b n e) ?_;by_cases q:NotOwn ρ σ b
  ·cases z:H b with
   | none=>exact absurd z e
   | some o=>rw[m.hh b o q z];simp
  ·unfold NotOwn at q
   simp only[Classical.not_forall] at q;obtain⟨i,o,e1,e2⟩:=q;obtain⟨o',e3⟩:=u6P m.sh e1;obtain⟨a,h,p1,p2,p3,p4,p5⟩:=m.rel.own i o' e3;have e2:σ[i]?=some (some (.ref b)):=Classical.not_not.mp e2;rw[e2] at p1;cases p1;rw[p4];simp
def Mv.of (R:Rel K B ρ σ F H) (s:Stp F H F' H'):Mv K B ρ σ F H ρ F' H':=(Mv.refl R).step s
def Mv.dom (m:Mv K B ρ σ F H ρ1 F1 H1) {b:Addr} (e:H b≠none):H1 b≠none:=by
 by_cases q:NotOwn ρ σ b
 ·cases z:H b with
  | none=>exact absurd z e
  | some o=>rw[m.hh b o q z];simp
 ·unfold NotOwn at q
  simp only[Classical.not_forall] at q;obtain⟨i,o,e1,e2⟩:=q;obtain⟨o',e3⟩:=u6P m.sh e1;obtain⟨a,h,p1,p2,p3,p4,p5⟩:=m.rel.own i o' e3;have e2:σ[i]?=some (some (.ref b)):=Classical.not_not.mp e2;rw[e2] at p1;cases p1;rw[p4];simp
theorem Mv.trans (x:Mv K B ρ σ F H ρ1 F1 H1) (y:Mv K B ρ1 σ F1 H1 ρ2 F2 H2):Mv K B ρ σ F H ρ2 F2 H2 :=
 ⟨y.rel,y.sh.trans x.sh,x.ff.trans y.ff,λb o n e=>y.hh b o (n.of x.sh) (x.hh b o n e),λb n e=>y.no b (x.no b n e) (x.dom e)⟩
end
def liftX (K:W.Frag) (f:Rho->Res (D×Rho)):TE:=λσ H Q=>∃B F ρ,Rel K B ρ σ F H /\
 (f ρ).all (λr=>∀v F' H',Mv K B ρ σ F H r.2 F' H'->Rp K F' v r.1->Q v H') (λ_=>False)
inductive Ag where
 | v (d:D)|o (j:Nat)
inductive Agr (K:W.Frag) (F:Hp) (σ:St):List V->List Ag->Prop
 | nil:Agr K F σ [] []
 | v {x:V}{d:D}{xs:List V}{as:List Ag}:Rp K F x d->Agr K F σ xs as->Agr K F σ (x::xs) (.v d::as)
 | o {x:V}{j:Nat}{xs:List V}{as:List Ag}:σ[j]?=some (some x)->Agr K F σ xs as->Agr K F σ (x::xs) (.o j::as)
def liftXA (K:W.Frag) (f:Rho->Res (List Ag×Rho)):TA:=λσ H Q=>∃B F ρ,Rel K B ρ σ F H /\
 (f ρ).all (λr=>∀vs F' H',Mv K B ρ σ F H r.2 F' H'->Agr K F' σ vs r.1->Q vs H') (λ_=>False)
structure DX (X:Cx) (e:Expr) (f:Rho->Res (D×Rho)):Prop where
 out:PE X e (liftX X.K f)
structure DXA (X:Cx) (es:List Expr) (f:Rho->Res (List Ag×Rho)):Prop where
 out:PA X es (liftXA X.K f)
 ns:es.all notStar=true
section
variable {K:W.Frag}{B:Hp×Hp}{ρ ρ2:Rho}{σ:St}{F H F' H' F2 H2:Hp}
def seqX {α:Type}{fa:Rho->Res (D×Rho)}{g:D×Rho->Res α}{P:α->Prop}{T:VK} (R:Rel K B ρ σ F H) (h:((fa ρ).bind g).all P (λ_=>False))
  (k:∀r v F' H',Mv K B ρ σ F H r.2 F' H'->Rp K F' v r.1->(g r).all P (λ_=>False)->T v H'):liftX K fa σ H T :=
 ⟨B,F,ρ,R,Res.all_mono (Res.all_bind.mp h) (λr h' v F' H' m p=>k r v F' H' m p h') (λ_ e=>e)⟩
def seqXA {α:Type}{fa:Rho->Res (List Ag×Rho)}{g:List Ag×Rho->Res α}{P:α->Prop}{T:List V->Hp->Prop} (R:Rel K B ρ σ F H) (h:((fa ρ).bind g).all P (λ_=>False))
  (k:∀r v F' H',Mv K B ρ σ F H r.2 F' H'->Agr K F' σ v r.1->(g r).all P (λ_=>False)->T v H'):liftXA K fa σ H T :=
 ⟨B,F,ρ,R,Res.all_mono (Res.all_bind.mp h) (λr h' v F' H' m p=>k r v F' H' m p h') (λ_ e=>e)⟩
end
section
variable {X:Cx}{xq:XQ}{a b c e:Expr}{es:List Expr}{fa fb fx:Rho->Res (D×Rho)}{fe:Rho->Res D}{fs:Rho->Res (List Ag×Rho)}{pos pos' p apos cpos:Pos}{x:Str}
def DX.of {t:TE} (h:PE X e t) (k:∀B F ρ σ H Q,Rel X.K B ρ σ F H->(fx ρ).all (λr=>∀v F' H',Mv X.K B ρ σ F H r.2 F' H'->Rp X.K F' v r.1->Q v H') (λ_=>False)->t σ H Q):DX X e fx :=
 ⟨λpins s σ H Q I z9=>un5 z9 λB F ρ R q=>h pins s σ H Q I (k B F ρ σ H Q R q)⟩
def v3w (h:DE X xq e fe):DX X e (λρ=>(noE (fe ρ)).bind λd=>.ok (d,ρ)) :=
 DX.of h.out λB F ρ σ H Q R q=>⟨B,F,ρ,R,u2N (Res.all_mono (Res.all_bind.mp q) (λd q v F' H' s p=>q v F' H' (Mv.of R s) p) λ_ z=>z)⟩
def v3v:DXA X [] (λρ=>.ok ([],ρ)):=⟨λpos pins s σ H Q I z9=>un5 z9 λB F ρ R q=>u1o pos pins s σ H Q I (q [] F H (Mv.refl R) .nil),rfl⟩
def u6H (ha:DX X e fx) (hr:DXA X es fs) (hs:notStar e=true:=by rfl):DXA X (e::es) (λρ=>(fx ρ).bind λd=>(fs d.2).bind λr=>.ok (.v d.1::r.1,r.2)) :=
 ⟨λpos pins s σ H Q I z9=>un5 z9 λB F ρ R q=>pac ha.out hr.out hs pos pins s σ H Q I (seqX R q λd v F1 H1 m1 p1 q1=>seqXA m1.rel q1 λr vs F2 H2 m2 p2 q2 =>
  q2 (v::vs) F2 H2 (m1.trans m2) (.v (p1.same m2.ff) p2)),by rw[z1E,hs,hr.ns];rfl⟩
noncomputable def agv:List Ag->Res (List D)
 | []=>.ok []
 | .v d::as=>(agv as).bind λds=>.ok (d::ds)
 | _=>.bad
theorem u7C {K:W.Frag}{F:Hp}{σ:St}:∀{vs:List V}{as:List Ag}{ds:List D},Agr K F σ vs as->agv as=.ok ds->Rps K F vs ds
 | _,_,_,.nil,e=>by cases e;exact .nil
 | _,_,_,.v (as:=as) h hs,e=>by
  rw[agv] at e;cases q:agv as with
  | ok es=>rw[q] at e;cases e;exact .cons h (u7C hs q)
  | err x=>rw[q] at e;cases e
  | bad=>rw[q] at e;cases e
 | _,_,_,.o _ _,e=>by cases e
end
section
variable {X:Cx}{xq:XQ}{a b c e:Expr}{es:List Expr}{fx:Rho->Res (D×Rho)}{fs:Rho->Res (List Ag×Rho)}{pos pos' p apos cpos:Pos}{x:Str}
def v3k (he:DX X e fx) (hs:swapsWith e none pos.line X.env=pure false:=by rfl):DS X xq (.Expr e pos) (λρ=>(noE (fx ρ)).go ρ λr=>.nx r.2) :=
 DS.of (u2K he.out hs) λB F ρ σ H T R q=>⟨B,F,ρ,R,u2N (Res.all_mono (u0u q.out) (λr q v F' H' m p=>q σ F' H' m.rel) λ_ z=>z)⟩
end
noncomputable def getW (ρ:Rho) (i:Nat):Res ((List D->OD)×List D):=match ρ[i]? with
 | some (some (.own (.l ds)))=>.ok (OD.l,ds)
 | some (some (.own (.p a (.l ds))))=>.ok (λes=>.p a (.l es),ds)
 | _=>.bad
set_option tactic.hygienic true in
def u5q {K:W.Frag}{B:Hp×Hp}{ρ:Rho}{σ:St}{F H:Hp}{i:Nat}{P:(List D->OD)×List D->Prop}{E:D->Prop} (R:Rel K B ρ σ F H) (h:(getW ρ i).all P E) :
  ∃o a xs ds mk,ρ[i]?=some (some (.own o))/\σ[i]?=some (some (.ref a))/\H a=some (.lst xs)/\Rps K F xs ds/\(∀ys es F',Rps K F' ys es->Ro K F' a (.lst ys) (mk es))/\P (mk,ds):=by
 unfold getW at h;split at h
 ·rename_i ds e
  obtain⟨a,h',p1,p2,p3,p4,p5⟩:=R.own i _ e;cases p5 with
  | l r=>exact⟨_,a,_,ds,_,e,p1,p4,r,λys es F' q=>.l q,h⟩
 ·rename_i a0 ds e
  obtain⟨a,h',p1,p2,p3,p4,p5⟩:=R.own i _ e;cases p5 with
  | p p5 =>
   cases p5 with
   | l r=>exact⟨_,_,_,ds,_,e,p1,p4,r,λys es F' q=>.p (.l q),h⟩
 ·exact h.elim
theorem Mv.write {K:W.Frag}{B:Hp×Hp}{ρ:Rho}{σ:St}{F H:Hp}{i:Nat}{a:Addr}{h':HO}{o o':OD} (R:Rel K B ρ σ F H) (e:ρ[i]?=some (some (.own o))) (hs:σ[i]?=some (some (.ref a))) (h4:Ro K F a h' o') :
  Mv K B ρ σ F H (ρ.set i (some (.own o'))) F (upd H a h'):=by
 refine⟨R.write e hs h4,?_,Same.refl F,λb u n q=>?_,λb n _=>n⟩
 ·apply List.ext_getElem?
  intro j;rw[u4Z,u4Z];by_cases c:j=i
  ·subst c;rw[u5K (w6.mp e).1,e];rfl
  ·rw[u0G c]
 ·rw[u0f (λz=>by subst z;exact n i o e hs)];exact q
def tyN_mem {d:D}{t:String} (h:tyN d=some t):t∈["NoneType","bool","int","str","list","tuple","dict"]:=by
 cases d<;>simp only[tyN,Option.some.injEq,reduceCtorEq] at h<;>subst h<;>decide
structure InK (K:W.Frag) (C:Addr):Prop where
 cl:Cls K C
 ha:W.findIn K (.ref C) "__class__"=some (some (.builtin "object.__class__"))
 hn:W.specialIn K (.builtin "object.__class__") "__get__"=some (some (.builtin "getset_descriptor.__get__"))
 ht:W.takesIn K (.builtin "object.__class__")=some true
 hm:W.mroIn K C (.type "object")=some true
structure IsO (K:W.Frag) (C:Addr) (ti tx:List (Addr×Bool)):Prop where
 i:∀p∈ti,InK K p.1/\W.kitOne K (.ref p.1) (.ref C)=some p.2
 x:∀p∈tx,(∃f,XCls K p.1 f)/\W.kitOne K (.ref p.1) (.ref C)=some p.2
 b:∀T∈["NoneType","bool","int","str","list","tuple","dict"],W.kitOne K (.type T) (.ref C)=some false
noncomputable def lookB (t:List (Addr×Bool)) (C:Addr):Res D:=match t.lookup C with
 | some b=>.ok (.bl b)
 | none=>.bad
noncomputable def isO (ti tx:List (Addr×Bool)) (d:D):Res D:=match d with
 | .ins C _=>lookB ti C
 | .exc C _=>lookB tx C
 | d=>match tyN d with
  | some _=>.ok (.bl false)
  | none=>.bad
def u7n {t:List (Addr×Bool)}{C:Addr}{b:Bool} (h:t.lookup C=some b):(C,b)∈t:=by
 induction t with
 | nil=>cases h
 | cons p r ih =>
  obtain⟨k,v⟩:=p;rw[t9] at h;by_cases q:(C==k)=true
  ·rw [q] at h
   cases h;rw[beq_iff_eq.mp q];exact z8
  ·rw [Bool.eq_false_iff.mpr q] at h
   exact y1 _ (ih h)
def rIsO (K:W.Frag) (C:Addr) (ti tx:List (Addr×Bool)):List V->Hp->VK->Prop:=λxs H Q=>∃v F d b,xs=[v,.ref C]/\Same F H/\Rp K F v d/\isO ti tx d=.ok (.bl b)/\Q (.bl b) H
section
variable {X:Cx}{xq:XQ}{e:Expr}{fe:Rho->Res D}{x c:Str}{p pc pos:Pos}{C:Addr}{ti tx:List (Addr×Bool)}
def isO_bl {d y:D} (h:isO ti tx d=.ok y):∃b,y=.bl b:=by
 unfold isO lookB at h;split at h
 ·split at h<;>cases h;exact⟨_,rfl⟩
 ·split at h<;>cases h;exact⟨_,rfl⟩
 ·split at h<;>cases h;exact⟨_,rfl⟩
def isO_err {d y:D}:isO ti tx d≠.err y:=by
 intro h;unfold isO lookB at h;split at h
 ·split at h<;>cases h
 ·split at h<;>cases h
 ·split at h<;>cases h
def u5k {t:List (Addr×Bool)}{C:Addr}{b:Bool} (h:lookB t C=.ok (.bl b)):(C,b)∈t:=by
 unfold lookB at h;cases q:t.lookup C with
 | none=>rw[q] at h;cases h
 | some b'=>rw[q] at h;cases h;exact u7n q
set_option tactic.hygienic true in
def c_isO (h:IsO X.K C ti tx):CallR X (.builtin "isinstance") (rIsO X.K C ti tx):=by
 intro pins s σ H xs us Q I r z9128;obtain⟨v,F,d,b,exs,fh,pv,hd,q⟩:=z9128;subst exs;obtain⟨u,u',rfl,ru,ru'⟩:=vals2 r;cases (show u'=Value.ref C from ru')
 have fin:∀tk,∃v H',Inv X pins σ H' { s with toks:=tk }/\RelV v (.bool b)/\Q v H':=λtk=>⟨.bl b,H,I.tok _,rfl,q⟩
 cases ht:tyN d with
 | some t =>
  obtain⟨Hh,Z,hh,ne⟩:=v3H I ru fh pv ht;have eb:b=false:=by
   cases d<;>simp only[tyN,reduceCtorEq] at ht<;>(unfold isO at hd;simp only[tyN] at hd;cases hd;rfl)
  subst eb;exact W.kia_one Z I.kIn hh (h.b t (tyN_mem ht)) ne λtk=>fin tk
 | none =>
  cases pv with
  | @ins a C' dx fs gs h1 h2 =>
   cases (show u=Value.ref a from ru)
   obtain⟨K1,e⟩:=h.i _ (u5k (show lookB ti C'=.ok (.bl b) from hd))
   exact u0T I (show RelV (.ref a) (.ref a) from rfl) (.ins (fh _ _ h1) K1.cl K1.ha K1.hn K1.ht K1.hm) e fin
  | @exc a C' dx fs gs h1 h2 h3 =>
   cases (show u=Value.ref a from ru)
   obtain⟨⟨f,K1⟩,e⟩:=h.x _ (u5k (show lookB tx C'=.ok (.bl b) from hd))
   obtain⟨xa,_⟩:=(show ObjOk X.prog X.w H s.heap a (XO C' (some dx) a) from I.hok a _ (fh _ _ h1))
   obtain⟨⟨mA,n,_⟩,_⟩:=(show ObjOk X.prog X.w H s.heap dx (DXO dx fs) from I.hok dx _ (fh _ _ h2))
   obtain⟨od,_,_,qd,_⟩:=n;obtain⟨ox,J⟩:=xa.inst qd;exact W.kia_one (u7U (dx:=none) (od:=none) K1) I.kIn ⟨ox,_,J⟩ e (λz=>nomatch z) fin
  | ty T=>simp only[isO,tyN] at hd;cases hd
  | dn _ _=>simp only[isO,tyN] at hd;cases hd
  | hdl _=>simp only[isO,tyN] at hd;cases hd
  | _=>cases ht
def v1r {K:W.Frag}{mg:MG} (h:IsO K C ti tx) (hC:mg c=some (.ref C)) (hm:mg x=none) (hv:bootBuiltins x=some (.builtin "isinstance")) (ha:DE X xq e fe) (eK:X.K=K:=by rfl) (em:X.mg=mg:=by rfl) (hs:notStar e=true:=by rfl) (hg:Gl X x:=by rfl) (hgc:Gl X c:=by rfl)
  (hn:x≠"__name__":=by decide) (hdb:(x==("__debug__":Str))=false:=by decide) (hdc:(c==("__debug__":Str))=false:=by decide) :
  DE X xq (.Call (.Name x p) [e,.Name c pc] [] pos) (λρ=>(fe ρ).bind (isO ti tx)):=by
 subst eK em;refine DE.of (pcB (c_isO h) hg hm hv (pac ha.out (pac (v0n hgc hC (show RelV (.ref C) (.ref C) from rfl) hdc) u1o) hs) hn hdb (by simp only[z1E,hs];rfl)) λB F ρ σ H Q R q=>seqE R q λd v F1 H1 s1 R1 p1 q1=>?_
 cases hd:isO ti tx d with
 | bad=>rw[hd] at q1;exact q1.elim
 | err y=>exact absurd hd isO_err
 | ok y =>
  rw[hd] at q1;obtain⟨b,rfl⟩:=isO_bl hd;exact⟨v,F1,d,b,rfl,R1.fh,p1,hd,q1 _ _ _ s1 (.bl b)⟩
end
noncomputable def intsOf:List D->Option (List Int)
 | []=>some []
 | .int i::r=>(intsOf r).map (i::·)
 | _=>none
noncomputable def gSum:List D->Res D
 | [.lst ds]=>match intsOf ds with
  | some is=>.ok (.int is.sum)
  | none=>.bad
 | _=>.bad
section
variable {X:Cx}{F:Hp}{K:W.Frag}
set_option tactic.hygienic true in
theorem u2n:∀{ds:List D}{is:List Int}{xs:List V}{us:List Value},intsOf ds=some is->Rps K F xs ds->Vals xs us->us.length=is.length/\∀(i:Nat) (v:Value),us[i]?=some v->∃t,v=Value.int (is.getD i 0) t
 | [],_,_,_,e,p,r=>by cases e;cases p;cases r;exact⟨rfl,λi v h=>by simp at h⟩
 | d::ds,is,_,_,e,p,r=>by
  cases d<;>simp only[intsOf,reduceCtorEq] at e
  rename_i n;cases q:intsOf ds with
  | none=>rw[q] at e;cases e
  | some is' =>
   rw[q] at e;cases e;cases p with
   | cons p1 p2 =>
    cases p1;cases r with
    | cons r1 r2 =>
     obtain⟨t,rfl⟩:=r1;obtain⟨l1,l2⟩:=u2n q p2 r2;refine⟨by simp[l1],λi v h=>?_⟩
     cases i with
     | zero=>simp only[List.getElem?_cons_zero,Option.some.injEq] at h;exact⟨t,by rw[<- h];rfl⟩
     | succ i=>rw[List.getElem?_cons_succ] at h;obtain⟨t,ht⟩:=l2 i v h;exact⟨t,by rw[ht];rfl⟩
theorem u5S (is:List Int):∀n,n<=is.length->preSum (λi=>is.getD i 0) n=(is.take n).sum
 | 0,_=>by simp[preSum]
 | n+1,h=>by
  rw[preSum,u5S is n (by omega),List.take_add_one,List.sum_append]
  congr 1;rw[List.getD_eq_getElem?_getD,y2 (by omega)]
  simp
set_option tactic.hygienic true in
def c_sum (hc:X.calm=true):CallR X (.builtin "sum") (rDs X.K gSum):=by
 intro pins s σ H xs us Q I r z9129;obtain⟨F,ds,fh,ps,q⟩:=z9129;unfold gSum at q;split at q
 ·rename_i ds
  obtain⟨v,rfl,pv⟩:=rps1 ps;cases pv with
  | @lst l zs _ hq hs =>
   cases hb:intsOf ds with
   | none=>simp only[hb] at q;exact q.elim
   | some is =>
    simp only[hb] at q;obtain⟨u,rfl,ru⟩:=vals1 r;cases (show u=Value.ref l from ru)
    obtain⟨z,its,n,rv,hl,e⟩:=I.lstR (hq.same fh);obtain⟨l1,l2⟩:=u2n hb hs rv;have hL:s.heap.IsList l its.toArray:=⟨_,e,rfl,n,rfl⟩;have hlt:l<s.heap.objs.size:=z7 e;refine call_sum_walkAnyS (wpAny_pyIter_list hL ⟨_,_,_,_,_,_,_,λi=>is.getD i 0,rfl,(Walks.list (A:=X.A.in1) (I.ok.hd hc) s.heap.objs.size l (v5 hlt) its.toArray).toS,⟨⟨_,z6 _ rfl,rfl,rfl⟩,hL.push _⟩,λb hb=>?_,λi v h=>l2 i v (by simpa using h),λs' t' m=>?_⟩)
    ·show b<(s.heap.push _).objs.size
     rw[Heap.size_push];rcases y7.mp hb with rfl|hb
     ·exact Nat.lt_succ_self _
     ·rcases y7.mp hb with rfl | hb
      ·exact Nat.lt_succ_of_lt hlt
      ·cases hb
    ·obtain ⟨h',g',d',tk',os'⟩:=s'
     obtain⟨m1,m2,m3,m4,m5⟩:=m;cases m2;cases m3;cases m4;have I2:Inv X pins σ H { s with heap:=h',toks:=tk' }:=I.kept λb o eb=>m1 b o (λhm=>by
      rcases y7.mp hm with e1|hm
      ·exact absurd (e1 ▸ z7 eb) (z0B _)
      ·cases hm) (z5 _ eb)
     refine⟨.int is.sum,H,I2,⟨t',?_⟩,q _ F H (Stp.refl fh) (.int _)⟩;rw[u5S is _ (by simp[l1])]
     simp[l1]
 ·exact q.elim
end
def md_args (a v:Value):argsOk "max" ⟨[a],[(Str.ofString "default",v)]⟩:=by unfold argsOk;kernel_rfl
section
variable {prog:Program}{w:World}{A:Around}{R:Result->Shared->Prop}{I:Addr}{fp wr:List Addr}{n:Nat}{P:Nat->Value->Prop}{St:Nat->Heap->Prop}{kw:List (Str×Value)}
def md_loop (W:Walks prog w A.in1 I fp wr n P St) (bt:Nat->Nat->Bool) (hcmp:CmpOf prog w A.in1 .Gt P bt) (S:Addr) (hSf:S∉fp) :
  ∀(k j:Nat) (s:Shared) (vb:Value) (c:Nat),n - (j+1)=k->j+1<=n->St (j+1) s.heap->P (argBest bt j) vb ->
  s.heap.get? S=some { cls:=.type "list",dict:=none,data:=.seq #[vb,vb] c,slots:=#[] } ->
  (∀v h' tk,P (argBest bt (n - 1)) v->(∀b o,b∉wr->b≠S->s.heap.get? b=some o->h'.get? b=some o)->R (.ok (.ret v)) { s with heap:=h',toks:=tk }) ->
  codeAny (model prog w) A (.builtin "max.loop" ⟨[.ref I,.none,.ref S],kw⟩) R s:=by
 have hSw:S∉wr:=λh=>hSf (W.sub _ h)
 have hname:(toString "max"++toString ".loop":String)="max.loop":=by decide
 intro k;induction k with
 | zero =>
  intro j s vb c hk hj hst hPb hS hR;have hin:j+1=n:=by omega
  refine codeAny_builtin F.entry_max_loop ?_;rw[Around.under_plainId F.plain_max_loop _];show wpAny _ A.in1 (seqItems? (.ref S) >>= _) _ _ s;refine wpAny_bind (wpAny_seqItems hS rfl ?_);show wpAny _ A.in1 (tryCatch (pyNext (.ref I)) _ >>= _) _ _ s;refine wpAny_bind (wpAny_tryCatch (W.done s _ _ (hin ▸ hst) λh' tk hk'=>?_))
  have hS':=hk' S _ hSw hS;show wpAny _ A.in1 (updateSeq S (λ_=>#[]) >>= _) _ _ _
  refine wpAny_bind ?_;refine wpAny_updateSeq hS' rfl (wpAny_bind (wpAny_letGo (wpAny_pure ?_)));refine hR vb _ tk (by rw[<- hin];exact hPb) λb o hbw hbS e=>(u0 _ _ (Ne.symm hbS)).trans (hk' b o hbw e)
 | succ k ih =>
  intro j s vb c hk hj hst hPb hS hR;have hlt:j+1<n:=by omega
  refine codeAny_builtin F.entry_max_loop ?_;rw[Around.under_plainId F.plain_max_loop _];show wpAny _ A.in1 (seqItems? (.ref S) >>= _) _ _ s;refine wpAny_bind (wpAny_seqItems hS rfl ?_);show wpAny _ A.in1 (tryCatch (pyNext (.ref I)) _ >>= _) _ _ s;refine wpAny_bind (wpAny_tryCatch (W.item (j+1) s _ _ hlt hst λv h' tk hP hst' hk'=>?_))
  have hS':=hk' S _ hSw hS;show wpAny _ A.in1 (tryCatch (holding [v,v] (richCompare .Gt v vb >>= _)) _ >>= _) _ _ _;refine wpAny_bind (wpAny_tryCatch (wpAny_holding (wpAny_bind (hcmp (j+1) (argBest bt j) v vb _ _ _ hP hPb ?_))));refine wpAny_bind (wpAny_holding (wpAny_truthy_bool ?_));refine wpAny_bind (wpAny_letGo (wpAny_pure ?_));cases hb:bt (j+1) (argBest bt j) with
  | true =>
   simp only[if_true];refine wpAny_bind ?_;refine wpAny_updateSeq hS' rfl (wpAny_bind (wpAny_letGo ?_));rw[hname];refine wpAny_pure ⟨plainId_quiet F.plain_max_loop _,ih (j+1) _ v _ (by omega) hlt (W.frame _ _ _ hst' λb hbf o e=>?_) (by simp only[argBest,hb,if_true];exact hP) (r9 _ hS' rfl)
    λv' h'' tk'' hP' hk''=>?_⟩
   ·exact(u0 _ _ (λh:S=b=>hSf (by rw[h];exact hbf))).trans e
   ·exact hR v' h'' tk'' hP' λb o hbw hbS e=>hk'' b o hbw hbS ((u0 _ _ (Ne.symm hbS)).trans (hk' b o hbw e))
  | false =>
   simp only[t8,if_false];refine wpAny_bind (wpAny_letGo ?_);rw[hname];refine wpAny_pure ⟨plainId_quiet F.plain_max_loop _,ih (j+1) _ vb c (by omega) hlt hst' (by simp only[argBest,hb,t8,if_false];exact hPb) hS' λv' h'' tk'' hP' hk''=>?_⟩
   exact hR v' h'' tk'' hP' λb o hbw hbS e=>hk'' b o hbw hbS (hk' b o hbw e)
def v2L (W:Walks prog w A.in1 I fp wr n P St) (bt:Nat->Nat->Bool) (hcmp:CmpOf prog w A.in1 .Gt P bt) (S:Addr) (hSf:S∉fp) {s:Shared}{c:Nat}{nm:Str}{dv:Value} (hst:St 0 s.heap)
  (hS:s.heap.get? S=some { cls:=.type "list",dict:=none,data:=.seq #[] c,slots:=#[] })
  (hR:∀v h' tk,(if n=0 then v=dv else P (argBest bt (n - 1)) v)->(∀b o,b∉wr->b≠S->s.heap.get? b=some o->h'.get? b=some o)->R (.ok (.ret v)) { s with heap:=h',toks:=tk }) :
  codeAny (model prog w) A (.builtin "max.loop" ⟨[.ref I,.none,.ref S],[(nm,dv)]⟩) R s:=by
 have hSw:S∉wr:=λh=>hSf (W.sub _ h)
 have hname:(toString "max"++toString ".loop":String)="max.loop":=by decide
 refine codeAny_builtin F.entry_max_loop ?_;rw[Around.under_plainId F.plain_max_loop _];show wpAny _ A.in1 (seqItems? (.ref S) >>= _) _ _ s;refine wpAny_bind (wpAny_seqItems hS rfl ?_);show wpAny _ A.in1 (tryCatch (pyNext (.ref I)) _ >>= _) _ _ s;by_cases hn:n=0
 ·refine wpAny_bind (wpAny_tryCatch (W.done s _ _ (by rw [hn];exact hst) fun h' tk hk'=>?_))
  refine wpAny_bind (wpAny_rule (wpAny_pure ?_));exact hR dv h' tk (by rw[if_pos hn]) λb o hbw _ e=>hk' b o hbw e
 ·refine wpAny_bind (wpAny_tryCatch (W.item 0 s _ _ (by omega) hst fun v h' tk hP hst' hk'=>?_))
  have hS':=hk' S _ hSw hS;show wpAny _ A.in1 (updateSeq S (λ_=>#[v,v]) >>= _) _ _ _
  refine wpAny_bind ?_;refine wpAny_updateSeq hS' rfl ?_;rw[hname];refine wpAny_pure ⟨plainId_quiet F.plain_max_loop _,md_loop W bt hcmp S hSf _ 0 _ v _ rfl (by omega) (W.frame _ _ _ hst' λb hbf o e=>?_) hP (r9 _ hS' rfl) λv' h'' tk'' hP' hk''=>?_⟩
  ·exact(u0 _ _ (λh:S=b=>hSf (by rw[h];exact hbf))).trans e
  ·exact hR v' h'' tk'' (by rw[if_neg hn];exact hP') λb o hbw hbS e=>hk'' b o hbw hbS ((u0 _ _ (Ne.symm hbS)).trans (hk' b o hbw e))
end
section
variable {prog:Program}{w:World}{A:Around}{E:VP}{s:Shared}
def md_call {l:Addr}{its:List Value}{c:Nat}{is:List Int}{dv:Value}{Q:VP} (hh:A.handled=none) (e:s.heap.get? l=some { cls:=.type "list",data:=.seq its.toArray c }) (l1:its.length=is.length)
  (l2:∀(i:Nat) (v:Value),its[i]?=some v->∃t,v=Value.int (is.getD i 0) t)
  (h:∀v h' tk,(if is.length=0 then v=dv else ∃t,v=.int (is.getD (argBest (λi j=>decide (is.getD i 0 > is.getD j 0)) (is.length - 1)) 0) t)->(∀b o,s.heap.get? b=some o->h'.get? b=some o)->Q v { s with heap:=h',toks:=tk }) :
  wpAny (model prog w) A (call (.builtin "max") [.ref l] [(Str.ofString "default",dv)]) Q E s:=by
 have hname:(toString "max"++toString ".loop":String)="max.loop":=by decide
 have hL:s.heap.IsList l its.toArray:=⟨_,e,rfl,c,rfl⟩;have hlt:l<s.heap.objs.size:=z7 e;refine PyProof.Rows.kmk_tree PySem.F.kind_max PySem.F.plain_max PySem.F.entry_max (md_args _ _) ?_;show wpAny _ A.in1 (Builtin.Builtins.bindParams "max" ["key","default"] 0 ⟨[],[(Str.ofString "default",dv)]⟩ >>= _) _ _ s;refine wpAny_bind (wpAny_of_eq (show Builtin.Builtins.bindParams "max" ["key","default"] 0 ⟨[],[(Str.ofString "default",dv)]⟩=pure [none,some dv] from rfl) ?_)
 refine wpAny_bind (wpAny_pure ?_);refine wpAny_bind (wpAny_pyIter_list hL ?_);refine wpAny_bind (wpAny_newObj_type ?_);have hS:(s.heap.push { cls:=.type "list_iterator",data:=.fields #[.ref l,.int 0 0] }).objs.size=s.heap.objs.size+1:=Heap.size_push ..;rw[hname];have W:=Walks.list (prog:=prog) (w:=w) (A:=A.in1) hh s.heap.objs.size l (v5 hlt) its.toArray;refine wpAny_pure ⟨plainId_quiet F.plain_max_loop _,v2L W (λi j=>decide (is.getD i 0 > is.getD j 0)) (CmpOf.ints_gt _ λi v h=>l2 i v (by simpa using h)) _ (λhm=>?_) (W.frame _ _ _ ⟨⟨_,z6 _ rfl,rfl,rfl⟩,hL.push _⟩ λb _ o e=>z5 _ e) (z6 _ rfl) λv h' tk hv hk=>?_⟩
 ·rw [hS] at hm
  rcases y7.mp hm with q|hm
  ·exact absurd q (Nat.ne_of_gt (Nat.lt_succ_self _))
  ·rcases y7.mp hm with q | hm
   ·exact absurd q (Nat.ne_of_gt (Nat.lt_succ_of_lt hlt))
   ·cases hm
 ·refine h v h' tk ?_ fun b o eb=>hk b o (fun hm=>?_) ?_ (z5 _ (z5 _ eb))
  ·have hz:its.toArray.size=is.length:=by simp [l1]
   rw[hz] at hv;by_cases q:is.length=0
   ·rw[if_pos q] at hv |-;exact hv
   ·rw[if_neg q] at hv |-;exact l2 _ _ (by simpa using hv)
  ·rcases y7.mp hm with q | hm
   ·exact absurd (q ▸ z7 eb) (z0B _)
   ·cases hm
  ·rw [hS]
   exact v5 (Nat.lt_succ_of_lt (z7 eb))
end
noncomputable def mx2 (a b:Int):Int:=if b > a then b else a
noncomputable def gMaxD:D->D->Res D
 | .lst ds,d=>match intsOf ds with
  | some []=>.ok d
  | some (i::r)=>.ok (.int (r.foldl mx2 i))
  | none=>.bad
 | _,_=>.bad
theorem u6C (i:Int) (r:List Int):∀k,k<=r.length->(i::r).getD (argBest (λa b=>decide ((i::r).getD a 0 > (i::r).getD b 0)) k) 0=(r.take k).foldl mx2 i
 | 0,_=>by simp[argBest]
 | k+1,h=>by
  have ih:=u6C i r k (by omega)
  have e:r.take (k+1)=r.take k++[r.getD k 0]:=by
   rw[List.take_add_one,List.getD_eq_getElem?_getD,y2 (by omega)]
   rfl
  rw[e,List.foldl_append];generalize (r.take k).foldl mx2 i=m at ih |-
  show _=mx2 m (r.getD k 0);unfold argBest;have e2:(i::r).getD (k+1) 0=r.getD k 0:=rfl;by_cases q:r.getD k 0 > m
  ·rw[if_pos (by rw[decide_eq_true_eq,ih,e2];exact q),e2,mx2,if_pos q]
  ·rw[if_neg (by rw[decide_eq_true_eq,ih,e2];exact q),ih,mx2,if_neg q]
section
variable {X:Cx}{xq:XQ}{e de:Expr}{fe fd:Rho->Res D}{x:Str}{p kp pos:Pos}
def d_maxD (hc:X.calm=true) (hm:X.mg x=none) (hv:bootBuiltins x=some (.builtin "max")) (ha:DE X xq e fe) (hd:DE X xq de fd) (hs:notStar e=true:=by rfl) (hg:Gl X x:=by rfl) (hn:x≠"__name__":=by decide) (hdb:(x==("__debug__":Str))=false:=by decide) :
  DE X xq (.Call (.Name x p) [e] [⟨some "default",de,kp⟩] pos) (λρ=>(fe ρ).bind λa=>(fd ρ).bind λb=>noE (gMaxD a b)):=⟨λpins s σ H Q I z9=>un5 z9 λB F ρ R q=>by
 refine wpAny_Call_Name_kw (u1M I hg hm hv ?_ hn hdb);have PA1:=pac ha.out (u1o (X:=X)) hs;refine callWith_kw (thn (PA1 pos pins s σ H (λvs H1=>∃v F1 d1,vs=[v]/\Stp F H F1 H1/\Rel X.K B ρ σ F1 H1/\Rp X.K F1 v d1/\((fd ρ).bind λb=>noE (gMaxD d1 b)).all (λd=>∀v F' H',Stp F H F' H'->Rp X.K F' v d->Q v H') (ErrK X.K xq B ρ σ)) I (seqE R q λd v F1 H1 s1 R1 p1 q1=>⟨v,F1,d,rfl,s1,R1,p1,q1⟩)) λus s1 ⟨vs,H1,I1,r1,v,F1,d1,ev,st1,R1,p1,q1⟩=>?_) ?_ ?_
 ·subst ev
  obtain⟨u,rfl,ru⟩:=vals1 r1;refine kws_cons (thn (hd.out pins s1 σ H1 (λv2 H2=>∃F2 d2,Stp F1 H1 F2 H2/\Rp X.K F2 v2 d2/\(noE (gMaxD d1 d2)).all (λd=>∀v F' H',Stp F H F' H'->Rp X.K F' v d->Q v H') (ErrK X.K xq B ρ σ)) I1 (seqE R1 q1 λd v F2 H2 s2 R2 p2 q2=>⟨F2,d,s2,p2,q2⟩)) λu2 s2 ⟨v2,H2,I2,r2,F2,d2,st2,p2,q2⟩=>kws_nil ?_)
  show wpAny _ _ (call (.builtin "max") [u] [(Str.ofString "default",u2)]) _ _ _;have st:=st1.trans st2;cases d1 with
  | lst ds =>
   cases p1 with
   | @lst l zs _ hq hs =>
    cases (show u=Value.ref l from ru)
    obtain⟨z,its,n,rv,hl,el⟩:=I2.lstR ((hq.same st2.ff).same st2.fh);cases hb:intsOf ds with
    | none=>simp only[gMaxD,hb,noE] at q2;exact q2.elim
    | some is =>
     obtain⟨l1,l2⟩:=u2n hb hs rv;refine md_call (I2.ok.hd hc) el l1 l2 λw h' tk hw k=>?_
     cases is with
     | nil =>
      simp only[gMaxD,hb,noE] at q2;cases (show w=u2 from by simpa using hw)
      exact⟨v2,H2,I2.kept k,r2,q2 _ _ _ st p2⟩
     | cons i r =>
      simp only[gMaxD,hb,noE] at q2;rw[if_neg (by simp)] at hw
      obtain⟨t,rfl⟩:=hw;have eb:=u6C i r r.length (y0 _);rw[List.take_length] at eb;refine⟨.int (r.foldl mx2 i),H2,I2.kept k,⟨t,?_⟩,q2 _ F2 H2 st (.int _)⟩;rw[<- eb];rfl
  | _=>simp only[gMaxD,noE] at q2;exact q2.elim
 ·rw [u0k hs]
  rfl
 ·rw [u0k hs]
  rfl⟩
end
def ZIt (b:Bool) (h:Heap) (i l:Addr) (k:Nat):Prop:=if b then h.IsTupleIter i l k else h.IsListIter i l k
def ZSq (b:Bool) (h:Heap) (l:Addr) (xs:Array Value):Prop:=if b then h.IsTuple l xs else h.IsList l xs
section
variable {b:Bool}{h h':Heap}{i l c:Addr}{k:Nat}{xs:Array Value}
theorem ZIt.at (x:ZIt b h i l k) (e:∀o,h.get? i=some o->h'.get? i=some o):ZIt b h' i l k:=by
 cases b
 ·exact Heap.IsListIter.at x e
 ·exact Heap.IsTupleIter.at x e
theorem ZSq.at (x:ZSq b h l xs) (e:∀o,h.get? l=some o->h'.get? l=some o):ZSq b h' l xs:=by
 cases b
 ·exact Heap.IsList.at x e
 ·obtain⟨o,a,r⟩:=(show h.IsTuple l xs from x);exact⟨o,e o a,r⟩
def ZIt.extBut (x:ZIt b h i l k) (hs:Heap.ExtBut c h h') (n:i≠c):ZIt b h' i l k:=x.at λo e=>hs _ _ n e
def ZSq.extBut (x:ZSq b h l xs) (hs:Heap.ExtBut c h h') (n:l≠c):ZSq b h' l xs:=x.at λo e=>hs _ _ n e
def ZIt.lt (x:ZIt b h i l k):i<h.objs.size:=by
 cases b
 ·obtain⟨_,e,_⟩:=(show h.IsListIter i l k from x);exact z7 e
 ·obtain⟨_,e,_⟩:=(show h.IsTupleIter i l k from x);exact z7 e
def ZSq.lt (x:ZSq b h l xs):l<h.objs.size:=by
 cases b
 ·obtain⟨_,e,_⟩:=(show h.IsList l xs from x);exact z7 e
 ·obtain⟨_,e,_⟩:=(show h.IsTuple l xs from x);exact z7 e
end
abbrev ZG (h:Heap) (z TI TO:Addr) (f0 f1:Value):Prop :=
 h.get? z=some { cls:=.type "zip",dict:=none,data:=.fields #[f0,f1,.bool false,.ref TI,.ref TO],slots:=#[] }
def Fr0 (f:Value):Prop:=f=.none\/∃a,f=rawInt a
section
variable {prog:Program}{w:World}{A:Around}{E:VP}{s:Shared}
def v1J {a:Addr}{Q:Option Obj->Shared->Prop}{M:Model} (h:Q (s.heap.get? a) s):wpAny M A (loadIfAlive a) Q E s:=λΓ p _=>by
 unfold loadIfAlive;rw[Sem.wp_loadIfAlive];exact wpAny_pure (M:=M) (A:=A) (E:=E) h Γ p ‹_›
def u4B {b:Bool}{it l:Addr}{i:Nat}{items:Array Value}{x:Value}{Q:VP} (hit:ZIt b s.heap it l i) (hl:ZSq b s.heap l items) (hx:items[i]?=some x)
  (hQ:∀h',ZIt b h' it l (i+1)->Heap.SameBut it s.heap h'->Q x { s with heap:=h' }):wpAny (model prog w) A (Builtin.SmallTypes.nextOf (.ref it)) Q E s:=by
 cases b
 ·exact wpAny_nextOf_list_item hit hl hx hQ
 ·exact v3G hit hl hx hQ
def v2b {b:Bool}{it l:Addr}{i:Nat}{items:Array Value}{Q:VP} (hh:A.handled=none) (hit:ZIt b s.heap it l i) (hl:ZSq b s.heap l items) (hx:items[i]?=none)
  (hE:∀h' e,Heap.ExtBut it s.heap h'->(∃o,h'.get? e=some o/\o.cls=.type "StopIteration")->E (.ref e) { s with heap:=h' }):wpAny (model prog w) A (Builtin.SmallTypes.nextOf (.ref it)) Q E s:=by
 cases b
 ·exact wpAny_nextOf_list_end hh hit hl hx hE
 ·exact u2M hh hit hl hx hE
def v3u {z TI TO:Addr}{f0 f1:Value}{Q:Bool->Shared->Prop} (hz:ZG s.heap z TI TO f0 f1) (hf:Fr0 f0)
  (hQ:∀b h' f1',ZG h' z TI TO f0 f1'->Heap.SameBut z s.heap h'->Q b { s with heap:=h' }):wpAny (model prog w) A (Builtin.SmallTypes.ownedTupleIsFree (.ref z)) Q E s:=by
 have hr:Heap.SameBut z s.heap s.heap:=⟨rfl,λ_ _=>rfl⟩
 unfold Builtin.SmallTypes.ownedTupleIsFree;refine wpAny_bind (wpAny_field hz rfl (x:=f0) rfl ?_);rcases hf with rfl|⟨a,rfl⟩
 ·exact wpAny_pure (hQ true s.heap f1 hz hr)
 ·show wpAny _ _ (loadIfAlive _ >>= _) _ _ _
  refine wpAny_bind (v1J ?_);cases hg:s.heap.get? (Int.toNat a) with
  | none=>exact wpAny_pure (hQ true s.heap f1 hz hr)
  | some o =>
   show wpAny _ _ (field (.ref z) 1 >>= _) _ _ _;refine wpAny_bind (wpAny_field hz rfl (x:=f1) rfl ?_);by_cases q:(f1 != .bool true)=true
   ·rw [if_pos q]
    refine wpAny_bind (wpAny_setField_rec hz (by simp) λh₁ hz₁ hs₁=>wpAny_pure (hQ false h₁ _ hz₁ hs₁))
   ·rw [if_neg q]
    exact wpAny_bind (wpAny_pure (wpAny_pure (hQ false s.heap f1 hz hr)))
def zg_item {b1 b2:Bool}{z TI TO i1 i2 l1 l2:Addr}{k1 k2:Nat}{xs ys:Array Value}{x y a b f0 f1:Value}{Q:VP} (D:ZipApart z TI TO i1 i2 l1 l2)
  (hz:ZG s.heap z TI TO f0 f1) (hf:Fr0 f0) (hTI:IsPair s.heap TI (.ref i1) (.ref i2)) (hTO:IsPair s.heap TO a b)
  (h1:ZIt b1 s.heap i1 l1 k1) (h2:ZIt b2 s.heap i2 l2 k2) (hl1:ZSq b1 s.heap l1 xs) (hl2:ZSq b2 s.heap l2 ys) (hx:xs[k1]?=some x) (hy:ys[k2]?=some y)
  (hQ:∀ h' f0' f1',ZG h' z TI TO f0' f1'->Fr0 f0'->(∃ a b,IsPair h' TO a b)->ZIt b1 h' i1 l1 (k1+1)->ZIt b2 h' i2 l2 (k2+1)->IsPair h' s.heap.objs.size x y->h'.objs.size=s.heap.objs.size+1 ->
   (∀c o,c≠z->c≠TO->c≠i1->c≠i2->s.heap.get? c=some o->h'.get? c=some o)->Q (.ref s.heap.objs.size) { s with heap:=h' }) :
  wpAny (model prog w) A (Builtin.«zip.__next__» ⟨[.ref z],[]⟩) (λfin s'=>∃v,fin=.done (.ret v)/\Q v s') E s:=by
 show wpAny _ _ (field (.ref z) 2 >>= _) _ _ _;refine wpAny_bind (wpAny_field hz rfl (x:=.bool false) rfl ?_);show wpAny _ _ (field (.ref z) 3 >>= _) _ _ _;refine wpAny_bind (wpAny_field hz rfl (x:=.ref TI) rfl ?_);refine wpAny_bind (wpAny_seqItems hTI rfl ?_);show wpAny _ _ (Builtin.SmallTypes.ownedTupleIsFree (.ref z) >>= _) _ _ _;refine wpAny_bind (v3u hz hf λfb h₀ f1' hz₀ hs₀=>?_)
 cases fb with
 | true =>
  simp only[if_true];refine wpAny_bind (wpAny_rule ?_);refine wpAny_bind (wpAny_field hz₀ rfl (x:=.ref TO) rfl ?_);refine wpAny_bind (wpAny_setField_rec hz₀ (by simp) λh₁ hz₁ hs₁'=>?_)
  replace hz₁:ZG h₁ z TI TO .ellipsis f1':=hz₁
  have hs₁:Heap.SameBut z s.heap h₁:=⟨hs₁'.1.trans hs₀.1,λb hb=>(hs₁'.2 b hb).trans (hs₀.2 b hb)⟩
  refine wpAny_bind ?_;simp only[List.zipIdx_cons,List.zipIdx_nil,List.forIn_cons,List.forIn_nil];refine wpAny_bind (wpAny_bind (wpAny_onRaise ?_));show wpAny _ _ (Builtin.SmallTypes.nextOf (.ref i1) >>= _) _ _ _;refine wpAny_bind (u4B (h1.extBut hs₁.extBut D.i1z) (hl1.extBut hs₁.extBut D.l1z) hx λh₂ h1₂ hs₂=>wpAny_pure ?_)
  have hTO₂:IsPair h₂ TO a b:=hs₂.extBut _ _ D.TOi1 (hs₁.extBut _ _ D.TOz hTO);refine wpAny_bind (wpAny_seqItems hTO₂ rfl ?_);refine wpAny_bind (wpAny_updateSeq_pair hTO₂ λh₃ hTO₃ hs₃=>?_)
  replace hTO₃:IsPair h₃ TO x b:=hTO₃
  refine wpAny_bind (wpAny_letGo (wpAny_pure ?_));refine wpAny_bind (wpAny_bind (wpAny_onRaise ?_));show wpAny _ _ (Builtin.SmallTypes.nextOf (.ref i2) >>= _) _ _ _;refine wpAny_bind (u4B (((h2.extBut hs₁.extBut D.i2z).extBut hs₂.extBut D.i12.symm).extBut hs₃.extBut D.TOi2.symm)
   (((hl2.extBut hs₁.extBut D.l2z).extBut hs₂.extBut D.l2i1).extBut hs₃.extBut D.l2TO) hy λh₄ h2₄ hs₄=>wpAny_pure ?_)
  have hTO₄:IsPair h₄ TO x b:=hs₄.extBut _ _ D.TOi2 hTO₃;refine wpAny_bind (wpAny_seqItems hTO₄ rfl ?_);refine wpAny_bind (wpAny_updateSeq_pair hTO₄ λh₅ hTO₅ hs₅=>?_)
  replace hTO₅:IsPair h₅ TO x y:=hTO₅
  refine wpAny_bind (wpAny_letGo (wpAny_pure (wpAny_pure ?_)));refine wpAny_bind (wpAny_seqItems hTO₅ rfl ?_);refine wpAny_bind (wpAny_newTuple ?_);have hsz:h₅.objs.size=s.heap.objs.size:=by rw[hs₅.1,hs₄.1,hs₃.1,hs₂.1,hs₁.1]
  have hz₅:ZG h₅ z TI TO .ellipsis f1':=hs₅.extBut _ _ D.TOz.symm (hs₄.extBut _ _ D.i2z.symm (hs₃.extBut _ _ D.TOz.symm (hs₂.extBut _ _ D.i1z.symm hz₁)));have hk₅:∀c o,c≠z->c≠TO->c≠i1->c≠i2->s.heap.get? c=some o->h₅.get? c=some o:=λc o c1 c2 c3 c4 e =>
   hs₅.extBut _ _ c2 (hs₄.extBut _ _ c4 (hs₃.extBut _ _ c2 (hs₂.extBut _ _ c3 (hs₁.extBut _ _ c1 e))))
  have h1₅:ZIt b1 h₅ i1 l1 (k1+1):=((h1₂.extBut hs₃.extBut D.TOi1.symm).extBut hs₄.extBut D.i12).extBut hs₅.extBut D.TOi1.symm;have h2₅:ZIt b2 h₅ i2 l2 (k2+1):=h2₄.extBut hs₅.extBut D.TOi2.symm;have hzlt:z<h₅.objs.size:=z7 hz₅;show wpAny _ _ (Builtin.SmallTypes.ownedTupleHandOut (.ref z) (.ref h₅.objs.size) >>= _) _ _ _;refine wpAny_bind ?_;unfold Builtin.SmallTypes.ownedTupleHandOut;have hz₆:ZG (h₅.push { cls:=.type "tuple",data:=.seq #[x,y] }) z TI TO .ellipsis f1':=z5 _ hz₅;refine wpAny_bind (wpAny_setField_rec hz₆ (by simp) λh₇ hz₇ hs₇=>?_)
  replace hz₇:ZG h₇ z TI TO (rawInt h₅.objs.size) f1':=hz₇
  refine wpAny_setField_rec hz₇ (by simp) λh₈ hz₈ hs₈=>?_
  replace hz₈:ZG h₈ z TI TO (rawInt h₅.objs.size) (.bool false):=hz₈
  have up:∀c o,c≠z->h₅.get? c=some o->h₈.get? c=some o:=λc o c1 e=>hs₈.extBut _ _ c1 (hs₇.extBut _ _ c1 (z5 _ e))
  have hT₈:IsPair h₈ h₅.objs.size x y:=hs₈.extBut _ _ (Nat.ne_of_gt hzlt) (hs₇.extBut _ _ (Nat.ne_of_gt hzlt) (z6 _ rfl));have hz8:h₈.objs.size=h₅.objs.size+1:=by rw[hs₈.1,hs₇.1,Heap.size_push]
  rw[hsz] at hz₈ hT₈ hz8;refine wpAny_pure ⟨_,rfl,?_⟩;show Q (.ref h₅.objs.size) _;rw[hsz];exact hQ h₈ _ _ hz₈ (.inr ⟨_,rfl⟩) ⟨_,_,up _ _ D.TOz hTO₅⟩ (h1₅.at λo e=>up _ o D.i1z e) (h2₅.at λo e=>up _ o D.i2z e) hT₈ hz8 λc o c1 c2 c3 c4 e=>up c o c1 (hk₅ c o c1 c2 c3 c4 e)
 | false =>
  simp only[t8,if_false];refine wpAny_bind ?_;rw[<- Array.forIn_toList];simp only[List.forIn_cons,List.forIn_nil];refine wpAny_bind (wpAny_bind (wpAny_holding ?_));show wpAny _ _ (Builtin.SmallTypes.nextOf (.ref i1) >>= _) _ _ _;refine wpAny_bind (u4B (h1.extBut hs₀.extBut D.i1z) (hl1.extBut hs₀.extBut D.l1z) hx λh₂ h1₂ hs₂=>wpAny_pure (wpAny_pure ?_))
  refine wpAny_bind (wpAny_bind (wpAny_holding ?_));show wpAny _ _ (Builtin.SmallTypes.nextOf (.ref i2) >>= _) _ _ _;refine wpAny_bind (u4B ((h2.extBut hs₀.extBut D.i2z).extBut hs₂.extBut D.i12.symm) ((hl2.extBut hs₀.extBut D.l2z).extBut hs₂.extBut D.l2i1) hy λh₄ h2₄ hs₄=>wpAny_pure (wpAny_pure ?_))
  refine wpAny_pure ?_;have hsz:h₄.objs.size=s.heap.objs.size:=by rw[hs₄.1,hs₂.1,hs₀.1]
  have hz₄:ZG h₄ z TI TO f0 f1':=hs₄.extBut _ _ D.i2z.symm (hs₂.extBut _ _ D.i1z.symm hz₀);have hTO₄:IsPair h₄ TO a b:=hs₄.extBut _ _ D.TOi2 (hs₂.extBut _ _ D.TOi1 (hs₀.extBut _ _ D.TOz hTO));show wpAny _ _ (newTuple [x,y] >>= _) _ _ _;refine wpAny_bind (wpAny_newTuple (wpAny_pure ⟨_,rfl,?_⟩));show Q (.ref h₄.objs.size) _;have up:∀c o,h₄.get? c=some o->(h₄.push { cls:=.type "tuple",data:=.seq #[x,y] }).get? c=some o:=λc o e=>z5 _ e
  have hT₈:IsPair (h₄.push { cls:=.type "tuple",data:=.seq #[x,y] }) h₄.objs.size x y:=z6 _ rfl;have hz8:(h₄.push { cls:=.type "tuple",data:=.seq #[x,y] }).objs.size=h₄.objs.size+1:=Heap.size_push ..;rw[hsz] at hT₈ hz8 |-
  exact hQ _ _ _ (up _ _ hz₄) hf ⟨_,_,up _ _ hTO₄⟩ (((h1₂.extBut hs₄.extBut D.i12)).at λo e=>up _ o e) (h2₄.at λo e=>up _ o e) hT₈ hz8 λc o c1 c2 c3 c4 e=>up c o (hs₄.extBut _ _ c4 (hs₂.extBut _ _ c3 (hs₀.extBut _ _ c1 e)))
def zg_end {b1 b2:Bool}{z TI TO i1 i2 l1 l2:Addr}{k1 k2:Nat}{xs ys:Array Value}{a b f0 f1:Value}{Q:Fin->Shared->Prop} (hh:A.handled=none) (D:ZipApart z TI TO i1 i2 l1 l2)
  (hz:ZG s.heap z TI TO f0 f1) (hf:Fr0 f0) (hTI:IsPair s.heap TI (.ref i1) (.ref i2)) (hTO:IsPair s.heap TO a b)
  (h1:ZIt b1 s.heap i1 l1 k1) (h2:ZIt b2 s.heap i2 l2 k2) (hl1:ZSq b1 s.heap l1 xs) (hl2:ZSq b2 s.heap l2 ys) (hend:xs[k1]?=none\/ys[k2]?=none)
  (hE:∀h' e,(∀c o,c≠z->c≠TO->c≠i1->c≠i2->s.heap.get? c=some o->h'.get? c=some o)->(∃o,h'.get? e=some o/\o.cls=.type "StopIteration")->E (.ref e) { s with heap:=h' }) :
  wpAny (model prog w) A (Builtin.«zip.__next__» ⟨[.ref z],[]⟩) Q E s:=by
 show wpAny _ _ (field (.ref z) 2 >>= _) _ _ _;refine wpAny_bind (wpAny_field hz rfl (x:=.bool false) rfl ?_);show wpAny _ _ (field (.ref z) 3 >>= _) _ _ _;refine wpAny_bind (wpAny_field hz rfl (x:=.ref TI) rfl ?_);refine wpAny_bind (wpAny_seqItems hTI rfl ?_);show wpAny _ _ (Builtin.SmallTypes.ownedTupleIsFree (.ref z) >>= _) _ _ _;refine wpAny_bind (v3u hz hf λfb h₀ f1' hz₀ hs₀=>?_)
 cases fb with
 | true =>
  simp only[if_true];refine wpAny_bind (wpAny_rule ?_);refine wpAny_bind (wpAny_field hz₀ rfl (x:=.ref TO) rfl ?_);refine wpAny_bind (wpAny_setField_rec hz₀ (by simp) λh₁ hz₁ hs₁'=>?_)
  replace hz₁:ZG h₁ z TI TO .ellipsis f1':=hz₁
  have hs₁:Heap.SameBut z s.heap h₁:=⟨hs₁'.1.trans hs₀.1,λb hb=>(hs₁'.2 b hb).trans (hs₀.2 b hb)⟩
  refine wpAny_bind ?_;simp only[List.zipIdx_cons,List.zipIdx_nil,List.forIn_cons,List.forIn_nil];refine wpAny_bind (wpAny_bind (wpAny_onRaise ?_));show wpAny _ _ (Builtin.SmallTypes.nextOf (.ref i1) >>= _) _ _ _;cases hx:xs[k1]? with
  | none =>
   refine wpAny_bind (v2b hh (h1.extBut hs₁.extBut D.i1z) (hl1.extBut hs₁.extBut D.l1z) hx λh₂ e hs₂ he=>?_)
   obtain⟨oe,hoe,hce⟩:=he;have hz₂:ZG h₂ z TI TO .ellipsis f1':=hs₂ _ _ D.i1z.symm hz₁;have hez:e≠z:=λx=>by subst x;rw[hz₂] at hoe;cases hoe;simp at hce
   refine wpAny_setField_rec hz₂ (by simp) λh₃ _ hs₃=>hE h₃ e (λc o c1 _ c3 _ x=>hs₃.extBut _ _ c1 (hs₂ _ _ c3 (hs₁.extBut _ _ c1 x))) ⟨oe,hs₃.extBut _ _ hez hoe,hce⟩
  | some x =>
   have hy:ys[k2]?=none:=by rcases hend with h|h;rw[hx] at h;cases h;exact h
   refine wpAny_bind (u4B (h1.extBut hs₁.extBut D.i1z) (hl1.extBut hs₁.extBut D.l1z) hx λh₂ h1₂ hs₂=>wpAny_pure ?_)
   have hTO₂:IsPair h₂ TO a b:=hs₂.extBut _ _ D.TOi1 (hs₁.extBut _ _ D.TOz hTO);refine wpAny_bind (wpAny_seqItems hTO₂ rfl ?_);refine wpAny_bind (wpAny_updateSeq_pair hTO₂ λh₃ hTO₃ hs₃=>?_)
   refine wpAny_bind (wpAny_letGo (wpAny_pure ?_));refine wpAny_bind (wpAny_bind (wpAny_onRaise ?_));show wpAny _ _ (Builtin.SmallTypes.nextOf (.ref i2) >>= _) _ _ _;refine wpAny_bind (v2b hh (((h2.extBut hs₁.extBut D.i2z).extBut hs₂.extBut D.i12.symm).extBut hs₃.extBut D.TOi2.symm)
    (((hl2.extBut hs₁.extBut D.l2z).extBut hs₂.extBut D.l2i1).extBut hs₃.extBut D.l2TO) hy λh₄ e hs₄ he=>?_)
   obtain⟨oe,hoe,hce⟩:=he;have hz₄:ZG h₄ z TI TO .ellipsis f1':=hs₄ _ _ D.i2z.symm (hs₃.extBut _ _ D.TOz.symm (hs₂.extBut _ _ D.i1z.symm hz₁));have hez:e≠z:=λx=>by subst x;rw[hz₄] at hoe;cases hoe;simp at hce
   refine wpAny_setField_rec hz₄ (by simp) λh₅ _ hs₅=>hE h₅ e (λc o c1 c2 c3 c4 x=>hs₅.extBut _ _ c1 (hs₄ _ _ c4 (hs₃.extBut _ _ c2 (hs₂.extBut _ _ c3 (hs₁.extBut _ _ c1 x))))) ⟨oe,hs₅.extBut _ _ hez hoe,hce⟩
 | false =>
  simp only[t8,if_false];refine wpAny_bind ?_;rw[<- Array.forIn_toList];simp only[List.forIn_cons,List.forIn_nil];refine wpAny_bind (wpAny_bind (wpAny_holding ?_));show wpAny _ _ (Builtin.SmallTypes.nextOf (.ref i1) >>= _) _ _ _;cases hx:xs[k1]? with
  | none =>
   exact wpAny_bind (v2b hh (h1.extBut hs₀.extBut D.i1z) (hl1.extBut hs₀.extBut D.l1z) hx λh₂ e hs₂ he=>hE h₂ e (λc o c1 _ c3 _ x=>hs₂ _ _ c3 (hs₀.extBut _ _ c1 x)) he)
  | some x =>
   have hy:ys[k2]?=none:=by rcases hend with h|h;rw[hx] at h;cases h;exact h
   refine wpAny_bind (u4B (h1.extBut hs₀.extBut D.i1z) (hl1.extBut hs₀.extBut D.l1z) hx λh₂ h1₂ hs₂=>wpAny_pure (wpAny_pure ?_))
   refine wpAny_bind (wpAny_bind (wpAny_holding ?_));show wpAny _ _ (Builtin.SmallTypes.nextOf (.ref i2) >>= _) _ _ _;exact wpAny_bind (v2b hh ((h2.extBut hs₀.extBut D.i2z).extBut hs₂.extBut D.i12.symm) ((hl2.extBut hs₀.extBut D.l2z).extBut hs₂.extBut D.l2i1) hy λh₄ e hs₄ he=>hE h₄ e (λc o c1 _ c3 c4 x=>hs₄ _ _ c4 (hs₂.extBut _ _ c3 (hs₀.extBut _ _ c1 x))) he)
end
section
variable {X:Cx}{pins:LO}{σ:St}{H H':Hp}{s:Shared}{h':Heap}{fp:List Addr}
def Inv.grow {t':Nat} (I:Inv X pins σ H s) (hf:∀b∈fp,FpOk X pins H b) (k:∀b o,b∉fp->s.heap.get? b=some o->h'.get? b=some o) (e1:Same H H')
  (e2:∀b o,s.heap.get? b=some o->H b=none->H' b=none) (e3:∀b u,H b=none->H' b=some u->ObjOk X.prog X.w H' h' b u):Inv X pins σ H' { s with heap:=h',toks:=t' }:=by
 have nin:∀b u,H b=some u->b∉fp:=λb u q z=>by rw[(hf b z).1] at q;cases q
 refine I.call' (ch:=fp) rfl ⟨λb o q n _ hx=>k b o hx q,λb o q n _ hx=>⟨o.slots,k b o hx q⟩,λb o q n _=>e2 b o q n,λb o q hx=>⟨o,k b o hx q⟩,λb xs q=>e1 _ _ q,λb o u q=>e1 _ _ q,λb ps q=>⟨#[],?_⟩⟩ ?_ I.bare λb hb=>?_
 ·rw[e1 _ _ q];simp
 ·intro b u q
  cases hb:H b with
  | none=>exact e3 b u hb q
  | some u' =>
   obtain rfl:u'=u:=by rw[e1 _ _ hb] at q;exact Option.some.inj q
   refine(I.hok b u' hb).stay (λc v hc z=>?_) (λc z=>e1 _ _ z) λc xs z=>e1 _ _ z
   rcases hc with rfl|hc
   ·exact k c v (nin c _ hb) z
   ·exact k c v (nin c _ hc) z
 ·obtain ⟨_,f1,_,f3,f4,f5⟩:=hf b hb
  exact⟨f3,f1,f4,f5⟩
end
section
variable {prog:Program}{w:World}{A:Around}{E:VP}{s:Shared}
structure ZSt (b1 b2:Bool) (z TI TO i1 i2 l1 l2:Addr) (k:Nat) (h:Heap):Prop where
 zp:∃f0 f1,ZG h z TI TO f0 f1/\Fr0 f0
 ti:IsPair h TI (.ref i1) (.ref i2)
 to:∃a b,IsPair h TO a b
 a:ZIt b1 h i1 l1 k
 b:ZIt b2 h i2 l2 k
def ZSt.keep {b1 b2:Bool}{z TI TO i1 i2 l1 l2:Addr}{k:Nat}{h h':Heap} (x:ZSt b1 b2 z TI TO i1 i2 l1 l2 k h) (e:∀b∈[z,TI,TO,i1,i2],∀o,h.get? b=some o->h'.get? b=some o):ZSt b1 b2 z TI TO i1 i2 l1 l2 k h' :=
 ⟨by obtain⟨f0,f1,p,q⟩:=x.zp;exact⟨f0,f1,e _ (by simp) _ p,q⟩,e _ (by simp) _ x.ti,by obtain⟨a,b,p⟩:=x.to;exact⟨a,b,e _ (by simp) _ p⟩,x.a.at λo q=>e _ (by simp) o q,x.b.at λo q=>e _ (by simp) o q⟩
def zn_item {b1 b2:Bool}{z TI TO i1 i2 l1 l2:Addr}{k:Nat}{xs ys:Array Value}{x y:Value}{Q:Option Value->Shared->Prop} (D:ZipApart z TI TO i1 i2 l1 l2) (st:ZSt b1 b2 z TI TO i1 i2 l1 l2 k s.heap)
  (hl1:ZSq b1 s.heap l1 xs) (hl2:ZSq b2 s.heap l2 ys) (hx:xs[k]?=some x) (hy:ys[k]?=some y)
  (hQ:∀h',ZSt b1 b2 z TI TO i1 i2 l1 l2 (k+1) h'->IsPair h' s.heap.objs.size x y->(∀c o,c∉[z,TI,TO,i1,i2]->s.heap.get? c=some o->h'.get? c=some o)->Q (some (.ref s.heap.objs.size)) { s with heap:=h' }) :
  wpAny (model prog w) A (pyNext (.ref z)) Q E s:=by
 obtain⟨⟨f0,f1,hz,hf⟩,hTI,⟨a,b,hTO⟩,h1,h2⟩:=st;have hT:s.TypeIs (.ref z) "zip":=⟨_,hz,rfl⟩;unfold pyNext;exact wpAny_bind (wpAny_attempt (wpAny_callSpecial?_slot (name:=Str.ofString "__next__") hT F.slot_zip_next
  (wpAny_call_entry F.slot_zip_next hT F.entry_zip_next
   (zg_item D hz hf hTI hTO h1 h2 hl1 hl2 hx hy λh' f0' f1' a1 a2 a3 a4 a5 a6 a7 a8=>wpAny_pure (hQ h' ⟨⟨f0',f1',a1,a2⟩,a8 _ _ D.TIz D.TITO D.TIi1 D.TIi2 hTI,a3,a4,a5⟩ a6 λc o hc e=>a8 c o (λq=>hc (by simp[q])) (λq=>hc (by simp[q])) (λq=>hc (by simp[q])) (λq=>hc (by simp[q])) e)) (F.args_zip_next_1 _))))
def zn_end {b1 b2:Bool}{z TI TO i1 i2 l1 l2:Addr}{k:Nat}{xs ys:Array Value}{Q:Option Value->Shared->Prop} (hh:A.handled=none) (D:ZipApart z TI TO i1 i2 l1 l2) (st:ZSt b1 b2 z TI TO i1 i2 l1 l2 k s.heap)
  (hl1:ZSq b1 s.heap l1 xs) (hl2:ZSq b2 s.heap l2 ys) (hend:xs[k]?=none\/ys[k]?=none)
  (hQ:∀h',(∀c o,c∉[z,TI,TO,i1,i2]->s.heap.get? c=some o->h'.get? c=some o)->Q none { s with heap:=h' }):wpAny (model prog w) A (pyNext (.ref z)) Q E s:=by
 obtain⟨⟨f0,f1,hz,hf⟩,hTI,⟨a,b,hTO⟩,h1,h2⟩:=st;have hT:s.TypeIs (.ref z) "zip":=⟨_,hz,rfl⟩;unfold pyNext;refine wpAny_bind (wpAny_attempt (wpAny_callSpecial?_slot (name:=Str.ofString "__next__") hT F.slot_zip_next
  (wpAny_call_entry F.slot_zip_next hT F.entry_zip_next (zg_end hh D hz hf hTI hTO h1 h2 hl1 hl2 hend λh' e hk he=>?_) (F.args_zip_next_1 _))))
 obtain⟨o,ho,hc⟩:=he;refine wpAny_bind (wpAny_isInstance (T:="StopIteration") (b:=true) ⟨o,ho,hc⟩ isSubtype_stop ?_);exact wpAny_pure (hQ _ λc o hc e=>hk c o (λq=>hc (by simp[q])) (λq=>hc (by simp[q])) (λq=>hc (by simp[q])) (λq=>hc (by simp[q])) e)
def zn_go {b1 b2:Bool}{es:List Expr}{x1}{pos:Pos}{z TI TO i1 i2 l1 l2 T:Addr}{k:Nat}{Q:Unit->Shared->Prop} (D:ZipApart z TI TO i1 i2 l1 l2) (st:ZSt b1 b2 z TI TO i1 i2 l1 l2 k s.heap)
  (hQ:∀h',ZSt b1 b2 z TI TO i1 i2 l1 l2 k h'->Heap.SameBut z s.heap h'->Q () { s with heap:=h' }):wpAny (model prog w) A (letOwnedTupleGo (.Tuple es x1 pos) (.ref z) (.ref T)) Q E s:=by
 obtain⟨⟨f0,f1,hz,hf⟩,hTI,⟨a,b,hTO⟩,h1,h2⟩:=st;unfold letOwnedTupleGo;refine wpAny_bind (wpAny_load hz ?_);show wpAny _ _ (if (["enumerate","zip","dict_itemiterator","dict_reverseitemiterator","odict_iterator","itertools.zip_longest","itertools.pairwise"].contains "zip" &&
   (#[f0,f1,.bool false,.ref TI,.ref TO]:Array Value)[0]?==some (rawInt T))=true then _ else _) Q E s
 split
 ·refine wpAny_bind (wpAny_rule ?_)
  show wpAny _ _ (setField (.ref z) 0 .none) Q E s;exact wpAny_setField_rec hz (by simp) λh' hz' hs'=>hQ h' ⟨⟨_,_,hz',.inl rfl⟩,hs'.extBut _ _ D.TIz hTI,⟨a,b,hs'.extBut _ _ D.TOz hTO⟩,h1.extBut hs'.extBut D.i1z,h2.extBut hs'.extBut D.i2z⟩ hs'
 ·exact wpAny_pure (hQ s.heap ⟨⟨f0,f1,hz,hf⟩,hTI,⟨a,b,hTO⟩,h1,h2⟩ ⟨rfl,λ_ _=>rfl⟩)
def u9y {b1 b2:Bool}{z TI TO i1 i2 l1 l2:Addr}{k:Nat}{Q:VP} (st:ZSt b1 b2 z TI TO i1 i2 l1 l2 k s.heap) (h:Q (.ref z) s):wpAny (model prog w) A (pyIter (.ref z)) Q E s:=by
 obtain⟨⟨f0,f1,hz,hf⟩,_⟩:=st;have hT:s.TypeIs (.ref z) "zip":=⟨_,hz,rfl⟩;refine wpAny_pyIter_slot hT F.slot_zip_iter (wpAny_call_entry F.slot_zip_iter hT F.entry_zip_iter ?_ (F.args_zip_iter_1 _));show wpAny _ _ (ret (.ref z)) _ _ s;exact wpAny_pure ⟨_,rfl,"zip",_,hT,F.slot_zip_next.lookup,h⟩
end
abbrev itO (b:Bool) (l:Addr):Obj:={ cls:=.type (if b then "tuple_iterator" else "list_iterator"),data:=.fields #[.ref l,.int 0 0] }
abbrev zg1 (b1:Bool) (h:Heap) (l1:Addr):Heap:=h.push (itO b1 l1)
abbrev zg2 (b1 b2:Bool) (h:Heap) (l1 l2:Addr):Heap:=(zg1 b1 h l1).push (itO b2 l2)
abbrev zg3 (b1 b2:Bool) (h:Heap) (l1 l2:Addr):Heap:=(zg2 b1 b2 h l1 l2).push { cls:=.type "tuple",data:=.seq #[.ref h.objs.size,.ref (zg1 b1 h l1).objs.size] }
abbrev zg4 (b1 b2:Bool) (h:Heap) (l1 l2:Addr):Heap:=(zg3 b1 b2 h l1 l2).push { cls:=.type "tuple",data:=.seq #[.none,.none] }
abbrev zg5 (b1 b2:Bool) (h:Heap) (l1 l2:Addr):Heap:=(zg4 b1 b2 h l1 l2).push { cls:=.type "zip",data:=.fields #[.none,.bool false,.bool false,.ref (zg2 b1 b2 h l1 l2).objs.size,.ref (zg3 b1 b2 h l1 l2).objs.size] }
def v3z {prog:Program}{w:World}{A:Around}{E:VP}{s:Shared}{b:Bool}{l:Addr}{xs:Array Value}{Q:VP} (hl:ZSq b s.heap l xs) (h:Q (.ref s.heap.objs.size) { s with heap:=s.heap.push (itO b l) }):wpAny (model prog w) A (pyIter (.ref l)) Q E s:=by
 cases b
 ·exact wpAny_pyIter_list hl h
 ·exact wpAny_pyIter_tuple hl h
def v2J (b1 b2:Bool) (l1 l2:Addr) (xs ys:Array Value) :
  Meets (Builtin.«zip.__new__» ⟨[.type "zip",.ref l1,.ref l2],[]⟩) (λ_ R s=>ZSq b1 s.heap l1 xs/\ZSq b2 s.heap l2 ys /\
   R (.ok (.ret (.ref (zg4 b1 b2 s.heap l1 l2).objs.size))) { s with heap:=zg5 b1 b2 s.heap l1 l2 }) :=
 .of_wp λprog w A R s h=>by
  obtain⟨hp,g,d,tk,os⟩:=s;obtain⟨hl1,hl2,h⟩:=h;have hsub:=sub_zip;have hL1:ZSq b1 (Shared.heap ⟨hp,g,d,tk,os⟩) l1 xs:=hl1;have hL2:ZSq b2 (Shared.heap ⟨hp.push (itO b1 l1),g,d,tk,os⟩) l2 ys:=hl2.at λo e=>z5 _ e
  wp_walk using v3z hL1,v3z hL2
  exact⟨_,rfl,h⟩
section
variable {prog:Program}{w:World}{A:Around}{E:VP}{s:Shared}
def call_zg {b1 b2:Bool}{l1 l2:Addr}{xs ys:Array Value}{Q:VP} (hl1:ZSq b1 s.heap l1 xs) (hl2:ZSq b2 s.heap l2 ys)
  (h:∀ h',ZSt b1 b2 (s.heap.objs.size+4) (s.heap.objs.size+2) (s.heap.objs.size+3) s.heap.objs.size (s.heap.objs.size+1) l1 l2 0 h' ->
   (∀c o,s.heap.get? c=some o->h'.get? c=some o)->Q (.ref (s.heap.objs.size+4)) { s with heap:=h' }) :
  wpAny (model prog w) A (call (.type "zip") [.ref l1,.ref l2]) Q E s:=by
 refine callType_new F.called_zip (by decide) (F.typeCall_zip_2 _ _) (F.newCall_zip_2 _ _) (λobj=>F.args_object_init_3 obj _ _) F.entry_zip_new
  (v2J b1 b2 l1 l2 xs ys) ⟨hl1,hl2,?_⟩
 have z1:(zg1 b1 s.heap l1).objs.size=s.heap.objs.size+1:=Heap.size_push ..;have z2:(zg2 b1 b2 s.heap l1 l2).objs.size=s.heap.objs.size+2:=by rw[Heap.size_push,z1]
 have z3:(zg3 b1 b2 s.heap l1 l2).objs.size=s.heap.objs.size+3:=by rw[Heap.size_push,z2]
 have z4:(zg4 b1 b2 s.heap l1 l2).objs.size=s.heap.objs.size+4:=by rw[Heap.size_push,z3]
 have g5:(zg5 b1 b2 s.heap l1 l2).get? (zg4 b1 b2 s.heap l1 l2).objs.size=some _:=z6 _ rfl;have g4:(zg5 b1 b2 s.heap l1 l2).get? (zg3 b1 b2 s.heap l1 l2).objs.size=some _:=z5 _ (z6 _ rfl);have g3:(zg5 b1 b2 s.heap l1 l2).get? (zg2 b1 b2 s.heap l1 l2).objs.size=some _:=z5 _ (z5 _ (z6 _ rfl));have g2:(zg5 b1 b2 s.heap l1 l2).get? (zg1 b1 s.heap l1).objs.size=some _:=z5 _ (z5 _ (z5 _ (z6 _ rfl)));have g1:(zg5 b1 b2 s.heap l1 l2).get? s.heap.objs.size=some _:=z5 _ (z5 _ (z5 _ (z5 _ (z6 _ rfl))));show _/\_;rw[z2,z3,z4] at g5;rw[z1,z2] at g3;rw[z3] at g4;rw[z1] at g2;rw[z4];have mk:∀(b:Bool) (h:Heap) (i l:Addr),h.get? i=some (itO b l)->ZIt b h i l 0:=λb h i l e=>by
  cases b
  ·exact⟨_,e,rfl,rfl⟩
  ·exact⟨_,e,rfl,rfl⟩
 exact⟨⟨_,g5,rfl⟩,h _ ⟨⟨_,_,g5,.inl rfl⟩,g3,⟨_,_,g4⟩,mk _ _ _ _ g1,mk _ _ _ _ g2⟩ λc o x =>
  z5 _ (z5 _ (z5 _ (z5 _ (z5 _ x))))⟩
end
def SqB (b:Bool) (K:W.Frag) (H:Hp) (a:Addr) (xs:List V):Prop:=if b then SqT K H a xs else SqL K H a xs
section
variable {X:Cx}{pins:LO}{σ:St}{H H':Hp}{s:Shared}{b:Bool}{a:Addr}{xs ys:List V}
def Inv.sqB (I:Inv X pins σ H s) (h:SqB b X.K H a xs):∃its,Vals xs its/\ZSq b s.heap a its.toArray:=by
 cases b
 ·obtain ⟨its,rv,pl,hz⟩:=I.list h
  exact⟨its,rv,pl.isList⟩
 ·obtain ⟨its,rv,pl,hz⟩:=I.tuple h
  exact⟨its,rv,pl⟩
def Inv.sqB_inj (I:Inv X pins σ H s) (h:SqB b X.K H a xs) (h':SqB b X.K H a ys):xs=ys:=by
 cases b
 ·exact I.list_inj h h'
 ·exact I.tuple_inj h h'
end
def ItZ (K:W.Frag) (b1 b2:Bool) (a1 a2:Addr):It :=
 ⟨λi H=>∃xs ys x y,SqB b1 K H a1 xs/\SqB b2 K H a2 ys/\xs[i]?=some x/\ys[i]?=some y,
  λi H v H'=>∃p x y,H p=none/\v=.ref p/\H'=upd H p (.tup [x,y])/\∀xs ys,SqB b1 K H a1 xs->SqB b2 K H a2 ys->xs[i]?=some x/\ys[i]?=some y,
  λi H=>∃xs ys,SqB b1 K H a1 xs/\SqB b2 K H a2 ys/\(xs.length<=i\/ys.length<=i)⟩
def v1M {P:Program}{w:World}{K:W.Frag}{es:List Expr}{k:Nat}{pos:Pos}{b1 b2:Bool}{z TI TO i1 i2 a1 a2:Addr} (D:ZipApart z TI TO i1 i2 a1 a2) :
  Turn P w K (.Tuple es k pos) (ItZ K b1 b2 a1 a2) [z,TI,TO,i1,i2] z (λi h=>ZSt b1 b2 z TI TO i1 i2 a1 a2 i h) where
 mem:=by simp
 obj:=λi h st b hb=>by
  obtain⟨⟨f0,f1,hz,hf⟩,hTI,⟨x,y,hTO⟩,h1,h2⟩:=st;have it:∀(b:Bool) (i l:Addr) (k:Nat),ZIt b h i l k->∃o,h.get? i=some o/\∀v,o.data≠.cell v:=λb i l k e=>by
   cases b
   ·obtain⟨o,a,_,c⟩:=(show h.IsListIter i l k from e);exact⟨o,a,λv z=>by rw[c] at z;cases z⟩
   ·obtain⟨o,a,_,c⟩:=(show h.IsTupleIter i l k from e);exact⟨o,a,λv z=>by rw[c] at z;cases z⟩
  simp only[y7,r6,or_false] at hb;rcases hb with rfl|rfl|rfl|rfl|rfl
  ·exact⟨_,hz,λv z=>by cases z⟩
  ·exact⟨_,hTI,λv z=>by cases z⟩
  ·exact⟨_,hTO,λv z=>by cases z⟩
  ·exact it _ _ _ _ h1
  ·exact it _ _ _ _ h2
 keep:=λi h h' st k=>st.keep k
 item:=by
  intro X hP hw hK hc i pins s σ H E I hf st hg;subst hP hw hK;obtain⟨xs,ys,x,y,q1,q2,hx,hy⟩:=hg;obtain⟨us,rv1,p1⟩:=I.sqB q1;obtain⟨ws,rv2,p2⟩:=I.sqB q2;obtain⟨u,hu,ru⟩:=rv1.get hx;obtain⟨v,hv,rw⟩:=rv2.get hy;refine zn_item D st p1 p2 (x:=u) (y:=v) (by simpa using hu) (by simpa using hv) λh1 st1 pr k1=>⟨_,rfl,?_⟩
  refine zn_go (s:={ s with heap:=h1 }) D st1 λh2 st2 sb=>?_
  have hfr:H s.heap.objs.size=none:=I.hok.fresh (y0 _);have hzl:z<s.heap.objs.size:=by obtain⟨_,_,e,_⟩:=st.zp;exact z7 e
  have pr2:IsPair h2 s.heap.objs.size u v:=sb.extBut _ _ (Nat.ne_of_gt hzl) pr;have kk:∀c o,c∉[z,TI,TO,i1,i2]->s.heap.get? c=some o->h2.get? c=some o:=λc o hc e=>sb.extBut _ _ (λq=>hc (by simp[q])) (k1 c o hc e)
  have lt:∀b∈[z,TI,TO,i1,i2],b<s.heap.objs.size:=λb hb=>by
   simp only[y7,r6,or_false] at hb;rcases hb with rfl|rfl|rfl|rfl|rfl
   ·exact hzl
   ·exact z7 st.ti
   ·obtain⟨_,_,e⟩:=st.to;exact z7 e
   ·exact st.a.lt
   ·exact st.b.lt
  have I2:Inv X pins σ (upd H s.heap.objs.size (.tup [x,y])) { s with heap:=h2,toks:=s.toks }:=I.grow (fp:=[z,TI,TO,i1,i2]) hf kk (u0i hfr) (λb o e n=>by rw[u0f (v5 (z7 e))];exact n) λb w n e=>by
   by_cases hb:b=s.heap.objs.size
   ·subst hb
    rw[u0d] at e;cases e;exact⟨by show 2<=sizeLine;decide,[u,v],.cons ru (.cons rw .nil),⟨_,pr2,rfl,_,rfl⟩⟩
   ·rw[u0f hb,n] at e;cases e
  refine⟨.ref s.heap.objs.size,_,I2,rfl,⟨s.heap.objs.size,x,y,hfr,rfl,rfl,λxs' ys' e1 e2=>?_⟩,st2,λb hb=>?_⟩
  ·rw[I.sqB_inj e1 q1,I.sqB_inj e2 q2];exact⟨hx,hy⟩
  ·rw[u0f (v5 (lt b hb))];exact(hf b hb).1
 done:=by
  intro X hP hw hK hc i pins s σ H E I hf st hg;subst hP hw hK;obtain⟨xs,ys,q1,q2,hx⟩:=hg;obtain⟨us,rv1,p1⟩:=I.sqB q1;obtain⟨ws,rv2,p2⟩:=I.sqB q2;have n1:=rv1.length;have n2:=rv2.length;refine zn_end (I.ok.hd hc) D st p1 p2 (by
   rcases hx with h|h
   ·exact .inl (by simp;omega)
   ·exact .inr (by simp;omega)) λh' kk=>⟨rfl,I.grow (t':=s.toks) (fp:=[z,TI,TO,i1,i2]) hf kk (Same.refl H) (λb o e n=>n) λb w n e=>by rw[n] at e;cases e⟩
 self:=λ_ _ _ _ _ st h=>u9y st h
def iZip (K:W.Frag) (ta:TA):TI:=λσ H R=>ta σ H λvs H1=>∃b1 b2 a1 a2 xs ys,vs=[.ref a1,.ref a2]/\SqB b1 K H1 a1 xs/\SqB b2 K H1 a2 ys/\R (ItZ K b1 b2 a1 a2) H1
noncomputable def zipL (ds es:List D):List D:=(ds.zip es).map λp=>.tup [p.1,p.2]
noncomputable def rowOf:D->Option (List D)
 | .lst ds=>some ds
 | .tup ds=>some ds
 | _=>none
noncomputable def zip2:List D->Res (List D)
 | [a,b]=>match rowOf a,rowOf b with
  | some x,some y=>.ok (zipL x y)
  | _,_=>.bad
 | _=>.bad
def u2B {b:Bool}{K:W.Frag}{H H':Hp}{a:Addr}{xs:List V} (e:Same H H') (h:SqB b K H a xs):SqB b K H' a xs:=by
 cases b
 ·exact e.seq h
 ·exact e.seqT h
def Feed.zip {K:W.Frag}{F:Hp}{b1 b2:Bool}{a1 a2:Addr}{xs ys:List V}{ds es:List D} (h1:SqB b1 K F a1 xs) (h2:SqB b2 K F a2 ys) (r1:Rps K F xs ds) (r2:Rps K F ys es):Feed K F (ItZ K b1 b2 a1 a2) (zipL ds es) where
 go i H e hi:=by
  have hi':i<xs.length/\i<ys.length:=by
   rw[r1.length,r2.length];unfold zipL at hi;rw[v8,List.length_zip] at hi;omega
  exact⟨xs,ys,xs[i]'hi'.1,ys[i]'hi'.2,u2B e h1,u2B e h2,by simp,by simp⟩
 yld i F1 H x H' d e1 e2 hd y:=by
  obtain⟨p,u,v,hp,rfl,rfl,y⟩:=y;obtain⟨hu,hv⟩:=y xs ys (u2B (e1.trans e2) h1) (u2B (e1.trans e2) h2);have hd2:∃d1 d2,ds[i]?=some d1/\es[i]?=some d2/\d=.tup [d1,d2]:=by
   unfold zipL at hd;rw[w9,Option.map_eq_some_iff] at hd;obtain⟨⟨d1,d2⟩,hz,rfl⟩:=hd;rw[List.getElem?_zip_eq_some] at hz;exact⟨d1,d2,hz.1,hz.2,rfl⟩
  obtain⟨d1,d2,q1,q2,rfl⟩:=hd2;obtain⟨w1,hw1,pw1⟩:=r1.get q1;obtain⟨w2,hw2,pw2⟩:=r2.get q2;rw[hu] at hw1;cases hw1;rw[hv] at hw2;cases hw2;have s:=Stp.new (o:=.tup [u,v]) e2 hp;exact⟨_,s,.tup (.inl (.inl u0d)) (.cons (pw1.same (e1.trans s.ff)) (.cons (pw2.same (e1.trans s.ff)) .nil))⟩
 stop i H e hi:=⟨xs,ys,u2B e h1,u2B e h2,by
  rw[r1.length,r2.length];unfold zipL at hi;rw[v8,List.length_zip] at hi
  omega⟩
def v0a {K:W.Frag}{F:Hp}{v:V}{d:D}{ds:List D} (p:Rp K F v d) (h:rowOf d=some ds):∃b a xs,v=.ref a/\(∀H,Same F H->SqB b K H a xs)/\SqB b K F a xs/\Rps K F xs ds:=by
 cases p with
 | @lst a xs _ hq hs=>cases h;exact⟨false,a,xs,rfl,λH e=>.inl (hq.same e),.inl hq,hs⟩
 | @tup a xs _ hq hs=>cases h;exact⟨true,a,xs,rfl,λH e=>e.seqT hq,hq,hs⟩
 | _=>cases h
section
variable {X:Cx}{xq:XQ}{a b:Expr}{ta:TA}{p pos tp:Pos}{es:List Expr}{k:Nat}{fa:Rho->Res (List D)}
def pi_zip (hg:Gl X "zip") (hm:X.mg "zip"=none) (ha:PA X [a,b] ta) (hs:([a,b]:List Expr).all notStar=true:=by rfl):PI X (.Tuple es k tp) (.Call (.Name "zip" p) [a,b] [] pos) (iZip X.K ta):=by
 intro pins s σ H R I h;refine Call_ (u1M I hg hm (show bootBuiltins "zip"=some (.type "zip") by decide +kernel) (PyProof.Rows.callWith_type1 (thn (ha pos pins s σ H _ I h) λus s1 ⟨vs,H1,I1,r1,q1⟩=>?_) (u0k (u0j hs).1) (u0O (u0j hs).2)))
 obtain⟨b1,b2,a1,a2,xs,ys,e,h1,h2,q⟩:=q1;subst e;obtain⟨u1,u2,rfl,ru1,ru2⟩:=vals2 r1;cases (show u1=Value.ref a1 from ru1)
 cases (show u2=Value.ref a2 from ru2)
 obtain⟨us,rv1,p1⟩:=I1.sqB h1;obtain⟨ws,rv2,p2⟩:=I1.sqB h2;refine call_zg p1 p2 λh' st kk=>u9y st ?_
 have D:=zipApart_new p1.lt p2.lt;refine⟨s1.heap.objs.size+4,_,_,ItZ X.K b1 b2 a1 a2,H1,rfl,I1.kept (t':=s1.toks) kk,v1M D,st,λc hc=>?_,q⟩
 have hb:s1.heap.objs.size<=c:=by
  simp only[y7,r6,or_false] at hc;rcases hc with rfl|rfl|rfl|rfl|rfl
  ·exact Nat.le_add_right _ _
  ·exact Nat.le_add_right _ _
  ·exact Nat.le_add_right _ _
  ·exact y0 _
  ·exact Nat.le_add_right _ _
 exact I1.fpOk hb (I1.hok.fresh hb)
set_option tactic.hygienic true in
def di_zip (hm:X.mg "zip"=none) (ha:DA X xq [a,b] fa) (hg:Gl X "zip":=by rfl):DI X xq (.Tuple es k tp) (.Call (.Name "zip" p) [a,b] [] pos) (λρ=>(fa ρ).bind zip2) :=
 ⟨λpins s σ H R I z9=>un5 z9 λB F ρ R' q=>pi_zip hg hm ha.out ha.ns pins s σ H R I (seqA R' q λds vs F1 H1 s1 R1 p1 q1=>by
  unfold zip2 at q1;split at q1
  ·rename_i d e
   obtain⟨v,w,rfl,pv,pw⟩:=rps2 p1;cases hx:rowOf d with
   | none=>rw[hx] at q1;exact q1.elim
   | some x =>
    cases hy:rowOf e with
    | none=>rw[hx,hy] at q1;exact q1.elim
    | some y =>
     rw[hx,hy] at q1;obtain⟨b1,a1,xs,rfl,g1,g1',t1⟩:=v0a pv hx;obtain⟨b2,a2,ys,rfl,g2,g2',t2⟩:=v0a pw hy;exact⟨b1,b2,a1,a2,xs,ys,rfl,g1 _ R1.fh,g2 _ R1.fh,q1 _ F1 H1 s1 (Feed.zip g1' g2' t1 t2)⟩
  ·exact q1.elim)⟩
end
section
variable {X:Cx}
def v3p (hc:X.calm=true):CallR X (.builtin "any") (λxs H Q=>∃(p:Addr) (bs:List Bool),xs=[.ref p]/\SqL X.K H p (bs.map V.bl)/\Q (.bl (bs.any id)) H):=by
 intro pins s σ H xs us Q I r h;obtain⟨p,bs,rfl,hq,q⟩:=h;obtain⟨u,rfl,ru⟩:=vals1 r;cases ru;obtain⟨its,rv,hl,hz⟩:=I.list hq;have hlen:=rv.length;rw[v8] at hlen;have hlt:p<s.heap.objs.size:=let ⟨o,ho,_⟩:=hl.isList;z7 ho
 refine call_any_walk (wpAny_pyIter_list hl.isList ?_);refine⟨s.heap.objs.size,_,_,_,_,_,λi=>bs.getD i false,rfl,Walks.list (show X.A.in1.handled=none from I.ok.hd hc) s.heap.objs.size p (v5 hlt) its.toArray,⟨⟨_,z6 _ rfl,rfl,rfl⟩,hl.isList.at λo e=>z5 _ e⟩,?_,?_⟩
 ·intro i v s' Q' E' hv hQ
  have hv':its[i]?=some v:=by simpa using hv
  have hi:i<bs.length:=by
   have:=(w6.mp hv').1
   omega
  have hx:(bs.map V.bl)[i]?=some (V.bl bs[i]):=by rw[w9,y2 hi];rfl
  obtain⟨u,hu,ru⟩:=rv.get hx;rw[hv'] at hu;cases hu;cases ru;have e:bs.getD i false=bs[i]:=by rw[List.getD_eq_getElem?_getD,y2 hi];rfl
  have hQ':Q' (bs.getD i false) s':=hQ;rw[e] at hQ';exact wpAny_truthy_bool hQ'
 ·intro h' tk hk
  have hw:∀b o,s.heap.get? b=some o->h'.get? b=some o:=λb o e=>hk b o (by
   intro z
   have:b=s.heap.objs.size:=by simpa using z
   subst this;exact absurd (z7 e) (z0B _)) (z5 _ e)
  have e:(List.range its.toArray.size).any (λi=>bs.getD i false)=bs.any id:=by
   rw[y9,<- hlen];clear hlen hq rv q hz;induction bs with
   | nil=>rfl
   | cons b bs ih =>
    rw[s9,List.range_succ_eq_map,List.any_cons,List.any_map,List.any_cons];simp only[List.getD_cons_zero,id];congr 1
  rw[e];exact⟨.bl _,H,I.kept hw,rfl,q⟩
noncomputable def gAny:List D->Res D
 | [.lst ds]=>match blsOf ds with
  | some bs=>.ok (.bl (bs.any id))
  | none=>.bad
 | _=>.bad
set_option tactic.hygienic true in
def c_any (hc:X.calm=true):CallR X (.builtin "any") (rDs X.K gAny):=by
 intro pins s σ H xs us Q I r z9133;obtain⟨F,ds,fh,ps,q⟩:=z9133;unfold gAny at q;split at q
 ·rename_i ds
  obtain⟨v,rfl,pv⟩:=rps1 ps;cases pv with
  | lst hq hs =>
   cases hb:blsOf ds with
   | none=>rw[hb] at q;exact q.elim
   | some bs =>
    rw[hb] at q;exact v3p hc pins s σ H _ us Q I r ⟨_,bs,rfl,.inl (u3A hs hb ▸ hq.same fh),q _ F H (Stp.refl fh) (.bl _)⟩
 ·exact q.elim
end
section
variable {P:Program}{w:World}{A:Around}{E:VP}{s:Shared}
noncomputable def b01 (b:Bool):Int:=if b then 1 else 0
def v0U {b:Bool}{Q:Int->Shared->Prop} (h:Q (b01 b) { s with toks:=s.toks+1 }):wpAny (model P w) A (PySem.pyHash (.bool b)) Q E s:=by
 have ty:s.TypeIs (.bool b) "bool":=rfl;unfold PySem.pyHash;have hv:[Value.bool b].any Value.onHeap=false:=rfl;refine wpAny_bind ?_;rw[cRoomFor,if_neg (by rw[hv];exact q9)];refine wpAny_pure ?_
 refine wpAny_bind (wpAny_specialOf ty F.slot_bool_hash.lookup ?_);show wpAny _ _ (if (some (Value.builtin "int.__hash__")==some Value.none)=true then _ else _) Q E s
 rw[if_neg (by rw[beq_builtin_none];exact q9)]
 refine wpAny_bind (wpAny_specialOf ty F.slot_bool_hash.lookup ?_);show wpAny _ _ (callSpecialIfBoundUnlessNone? (.bool b) "__hash__" _ >>= _) Q E s;refine wpAny_bind (wpAny_callSpecialIfBoundUnlessNone?_slot ty F.slot_bool_hash
  (wpAny_call_entry F.slot_bool_hash ty entry_int_hash ?_ (args_int_hash _)))
 cases b
 ·exact(show wpAny _ _ (do ret (<- mkInt 0)) _ _ s from wpAny_ret_mkInt (wpAny_pure h))
 ·exact(show wpAny _ _ (do ret (<- mkInt 1)) _ _ s from wpAny_ret_mkInt (wpAny_pure h))
def eq_bool {a b:Bool}{Q:Bool->Shared->Prop} (h:Q (decide (a=b)) s):wpAny (model P w) A (PySem.eqBool (.bool a) (.bool b)) Q E s:=by
 unfold PySem.eqBool;show wpAny _ _ (if (Value.bool a==Value.bool b)=true then _ else _) Q E s
 by_cases hab:(Value.bool a==Value.bool b)=true
 ·rw [if_pos hab]
  have e:a=b:=by have:=eq_of_beq hab;injection this
  subst e;exact wpAny_bind (wpAny_rule (wpAny_pure (by simpa using h)))
 ·rw [if_neg hab]
  have e:decide (a=b)=false:=decide_eq_false λe=>hab (by rw[e];exact beq_self_eq_true _)
  rw[e] at h;refine wpAny_bind (wpAny_richCompare_same (op:=.Eq) (T:="bool") rfl rfl F.slot_bool_eq
   (wpAny_call_entry F.slot_bool_eq rfl entry_int_eq ?_ (args_int_eq _ _)))
  cases a<;>cases b
  ·exact absurd e (by decide)
  ·exact(show wpAny _ _ (ret (.bool false)) _ _ s from wpAny_pure ⟨_,rfl,by simp,wpAny_truthy_bool h⟩)
  ·exact(show wpAny _ _ (ret (.bool false)) _ _ s from wpAny_pure ⟨_,rfl,by simp,wpAny_truthy_bool h⟩)
  ·exact absurd e (by decide)
end
noncomputable def isBl:Bool->Value->Bool
 | b,.bool c=>b==c
 | _,_=>false
def u2Q {b:Bool}{v:Value} (h:isBl b v=true):v=.bool b:=by
 cases v<;>simp[isBl] at h
 rw[h]
noncomputable def boolKind (P:Program) (w:World):KeyKind P w Bool where
 is:=isBl
 hash:=b01
 inj:=λv a b ha hb=>by have:=(u2Q ha).symm.trans (u2Q hb);injection this
 byValue:=λk v h=>by rw[u2Q h];rfl
 pyHash:=λhv h=>by rw[u2Q hv];exact v0U h
 eqBool:=λhu hv h=>by rw[u2Q hu,u2Q hv];exact eq_bool h
 «strs»:=λk x t v h=>by simp[isBl] at h
abbrev LB:=List Bool×Addr×Value
noncomputable def lkB (kds:List (List Bool×D)) (k:List Bool):Option D:=(kds.find? λp=>decide (p.1=k)).map (·.2)
def ValB (K:W.Frag) (o:Option Value) (d:Option D):Prop:=match o,d with
 | none,none=>True
 | some v,some d=>∃x,RelV x v/\∀F,Rp K F x d
 | _,_=>False
def DctB (P:Program) (w:World) (K:W.Frag) (mg:MG) (x:Str) (kds:List (List Bool×D)):Prop :=
 ∃a,mg x=some (.ref a)/\(a==sysModules)=false/\∃xs:List LB,(∀h:Heap,K.In h->h.DictOfH (tupleKind (boolKind P w)) a xs)/\∀k,ValB K ((atKey xs k).map (·.2)) (lkB kds k)
noncomputable def blsT:D->Res (List Bool)
 | .tup ds=>match blsOf ds with
  | some bs=>.ok bs
  | none=>.bad
 | _=>.bad
noncomputable def gGetB (kds:List (List Bool×D)) (y z:D):Res D:=(blsT y).bind λk=>.ok ((lkB kds k).getD z)
theorem u7Y {P:Program}{w:World}:∀{bs:List Bool}{us:List Value},Vals (bs.map V.bl) us->ItemsAre (boolKind P w) bs us
 | [],_,.nil=>.nil
 | b::bs,_,.cons h hs=>by
  cases h;exact .cons (show isBl b (.bool b)=true by simp[isBl]) (u7Y hs)
section
variable {X:Cx}{xq:XQ}{o e f:Expr}{fi ff:Rho->Res D}{pos apos cpos:Pos}{x:Str}
set_option tactic.hygienic true in
def d_getB {P:Program}{w:World}{K:W.Frag}{mg:MG}{kds:List (List Bool×D)}{p:Pos} (hu:X.A.units+1<cLine) (hd:DctB P w K mg x kds) (he:DE X xq e fi) (hf:DE X xq f ff) (m:M2 X (.Name x p) "get" apos e f cpos:=by exact⟨rfl,rfl,rfl,rfl⟩) (hg:Gl X x:=by rfl)
  (eP:X.prog=P:=by rfl) (ew:X.w=w:=by rfl) (eK:X.K=K:=by rfl) (em:X.mg=mg:=by rfl) (hdb:(x==("__debug__":Str))=false:=by decide):DE X xq (.Call (.Attribute (.Name x p) "get" apos) [e,f] [] cpos) (λρ=>(fi ρ).bind λy=>(ff ρ).bind λz=>gGetB kds y z) :=
 ⟨λpins s σ H Q I z9=>un5 z9 λB F ρ R q=>by
  subst eP ew eK em;obtain⟨a,hm,hsm,xs,hD,hV⟩:=hd;have ho:PE X (.Name x p) (tC (.ref a)):=v3E (v:=.ref a) ⟨.ref a,hm,rfl⟩ hg rfl hdb;refine wpAny_Call_method m.base m.few m.line PySem.F.plainAttrs_dict PySem.F.slot_dict_get PySem.F.type_dict_get (thn (ho pins s σ H (λv H1=>v=.ref a/\H1=H) I ⟨rfl,rfl⟩) λu s1 z9134=>?_)
  obtain⟨x1,H1,I1,rx,ex,eH⟩:=z9134;subst ex eH;obtain rfl:u=Value.ref a:=rx;have dd:=hD s1.heap I1.kIn;refine⟨dd.typeIs,λb q=>?_,?_⟩
  ·cases q
   obtain⟨ob,_,_,h1,h2,_⟩:=dd;exact⟨ob,h1,h2.2.1⟩
  rw[m.trees];refine wpAny_dict_get2_heap (knd:=tupleKind (boolKind X.prog X.w)) (tupleKind_room_in1 hu) hsm (thn (he.out pins s1 σ H1 (λv2 H2=>liftE X.K xq ff σ H2 λv3 H3=>∃b bs,v2=.ref b/\SqT X.K H3 b (bs.map V.bl)/\∀y,(∃d,lkB kds bs=some d/\∀F,Rp X.K F y d)\/lkB kds bs=none/\y=v3->Q y H3) I1 (seqE R q λd2 v2 F2 H2 s2 R2 p2 q2=>seqE R2 q2 λd3 v3 F3 H3 s3 R3 p3 q3=>?_)) λiv s2 ⟨y,H2,I2,ry,q2⟩ =>
   thn (hf.out pins s2 σ H2 _ I2 q2) λfv s3 ⟨z,H3,I3,rz,b,bs,ey,hq,q3⟩=>?_)
  ·unfold gGetB blsT at q3
   cases p2 with
   | tup hq hs =>
    rename_i aa vs ds;simp only at q3;cases hb:blsOf ds with
    | none=>rw[hb] at q3;exact q3.elim
    | some bs =>
     rw[hb] at q3;refine⟨aa,bs,rfl,u3A hs hb ▸ s3.ff.seqT hq |> λh=>?_,λy hy=>?_⟩
     ·exact R3.fh.seqT h
     ·have q3:∀ (v:V) (F' H':Hp),Stp F H1 F' H'->Rp X.K F' v ((lkB kds bs).getD d3)->Q v H':=q3
      rcases hy with⟨d,e,hr⟩|⟨e,rfl⟩
      ·rw [e] at q3
       exact q3 y F3 H3 (s2.trans s3) (hr F3)
      ·rw [e] at q3
       exact q3 _ F3 H3 (s2.trans s3) p3
   | _=>exact q3.elim
  ·subst ey
   cases ry;obtain⟨its,rv,⟨ob,h1,h2,n,h3⟩,_⟩:=I3.tuple hq;refine⟨_,bs,xs,rfl,⟨ob,its.toArray,n,h1,h2,h3,by simpa using u7Y rv⟩,hD s3.heap I3.kIn,?_⟩
   have hv:=hV bs;cases ev:(atKey xs bs).map (·.2) with
   | none =>
    rw[ev] at hv;cases el:lkB kds bs with
    | some d=>rw[el] at hv;exact hv.elim
    | none=>exact⟨_,H3,I3.tok _,rz,q3 _ (.inr ⟨el,rfl⟩)⟩
   | some v =>
    rw[ev] at hv;cases el:lkB kds bs with
    | none=>rw[el] at hv;exact hv.elim
    | some d =>
     rw[el] at hv;obtain⟨y,hy,hr⟩:=hv;exact⟨y,H3,I3.tok _,hy,q3 y (.inl ⟨d,el,hr⟩)⟩⟩
end
section
variable {X:Cx}
def rInsert:V->List V->Hp->VK->Prop:=λx vs H Q=>∃(l:Addr) (xs:List V) (i:Int) (k:Nat) (y:V),x=.ref l/\vs=[.int i,y]/\i=(k:Int)/\H l=some (.lst xs)/\k<=xs.length/\xs.length<sizeLine/\k<2^63/\Q .non (upd H l (.lst (xs.take k++y::xs.drop k)))
def u9D {xs:List V}{us:List Value} (h:Vals xs us) (k:Nat):Vals (xs.take k) (us.take k):=by
 induction h generalizing k with
 | nil=>simp;exact .nil
 | cons a b ih=>cases k with
  | zero=>exact .nil
  | succ k=>exact .cons a (ih k)
def u9E {xs:List V}{us:List Value} (h:Vals xs us) (k:Nat):Vals (xs.drop k) (us.drop k):=by
 induction h generalizing k with
 | nil=>simp;exact .nil
 | cons a b ih=>cases k with
  | zero=>exact .cons a b
  | succ k=>exact ih k
def v0w:MtM X "list.insert" rInsert:=by
 intro pins s σ H x vs v us Q I rx rv h;obtain⟨l,xs,i,k,y,rfl,rfl,hi,hH,hk,hz,h63,q⟩:=h;cases rx;obtain⟨u,w,rfl,ru,rw'⟩:∃u w,us=[u,w]/\RelV (.int i) u/\RelV y w:=by
  cases rv with
  | cons a b=>cases b with
   | cons c d=>cases d;exact⟨_,_,rfl,a,c⟩
 obtain⟨t,rfl⟩:=ru;obtain⟨z,its,n,r,hl,e⟩:=I.lstM hH;have hf:Builtin.List.listFitsIndex i=true:=fitsIndex_both (by omega) (by omega)
 have hf2:¬(!Builtin.List.listFitsIndex i)=true:=by rw[hf];exact q9
 have hsz:its.toArray.size<=sizeLine:=by rw[y9];omega
 refine call_meets F.slot_list_insert ⟨_,e,rfl⟩ F.entry_list_insert (F.args_list_insert_3 _ _ _)
  (AutoSeq1.list_insert_list_int_val_1 l its.toArray n i t w hf2 hsz) ⟨e,?_⟩
 refine⟨.non,_,I.lset (its':=its.take k++w::its.drop k) hH e ?_ ((u9D r k).append (.cons rw' (u9E r k))) ?_,rfl,q⟩
 ·have e1:(if i<0 then (i+((its.toArray.size:Nat):Int)).toNat else min i.toNat its.toArray.size)=k:=by
   rw[if_neg (by omega),y9];omega
  show((its.toArray.extract 0 (if i<0 then (i+((its.toArray.size:Nat):Int)).toNat else min i.toNat its.toArray.size)).push w++its.toArray.extract (if i<0 then (i+((its.toArray.size:Nat):Int)).toNat else min i.toNat its.toArray.size))=_
  rw[e1];apply Array.toList_inj.mp;simp;rw[List.take_of_length_le (by simp)]
 ·simp
  omega
end
noncomputable def popAtW (ρ:Rho) (i:Nat) (y:D) (w:(List D->OD)×List D):Res (D×Rho):=match y with
 | .int (.ofNat k)=>if k<2^63 then (match w.2[k]? with
  | some d=>.ok (d,ρ.set i (some (.own (w.1 (w.2.eraseIdx k)))))
  | none=>.bad) else .bad
 | _=>.bad
noncomputable def insW (ρ:Rho) (i:Nat) (y:D) (d:D) (w:(List D->OD)×List D):Res (D×Rho):=match y with
 | .int (.ofNat k)=>if k<=w.2.length/\w.2.length<sizeLine/\k<2^63 then .ok (.non,ρ.set i (some (.own (w.1 (w.2.take k++d::w.2.drop k))))) else .bad
 | _=>.bad
theorem v3A {K:W.Frag}{F:Hp}:∀{xs:List V}{ds:List D}{k:Nat}{d:D},Rps K F xs ds->ds[k]?=some d->∃y,xs[k]?=some y/\Rp K F y d
 | _,_,0,_,.cons h _,e=>by simp at e;subst e;exact⟨_,rfl,h⟩
 | _,_,k+1,_,.cons _ hs,e=>by simp at e;obtain⟨y,h1,h2⟩:=v3A hs e;exact⟨y,by simpa using h1,h2⟩
theorem u5P {K:W.Frag}{F:Hp}:∀{xs:List V}{ds:List D} (k:Nat),Rps K F xs ds->Rps K F (xs.eraseIdx k) (ds.eraseIdx k)
 | _,_,_,.nil=>by simp;exact .nil
 | _,_,0,.cons _ hs=>by simpa using hs
 | _,_,k+1,.cons h hs=>by simpa using .cons h (u5P k hs)
theorem u7I {K:W.Frag}{F:Hp}:∀{xs:List V}{ds:List D} (k:Nat),Rps K F xs ds->Rps K F (xs.take k) (ds.take k)
 | _,_,_,.nil=>by simp;exact .nil
 | _,_,0,.cons _ hs=>.nil
 | _,_,k+1,.cons h hs=>.cons h (u7I k hs)
theorem u7K {K:W.Frag}{F:Hp}:∀{xs:List V}{ds:List D} (k:Nat),Rps K F xs ds->Rps K F (xs.drop k) (ds.drop k)
 | _,_,_,.nil=>by simp;exact .nil
 | _,_,0,.cons h hs=>.cons h hs
 | _,_,k+1,.cons h hs=>u7K k hs
theorem u9Z {K:W.Frag}{F:Hp}:∀{xs ys:List V}{ds es:List D},Rps K F xs ds->Rps K F ys es->Rps K F (xs++ys) (ds++es)
 | _,_,_,_,.nil,h=>h
 | _,_,_,_,.cons a b,h=>.cons a (u9Z b h)
theorem u9Y {K:W.Frag}{F:Hp}:∀{xs:List V}{ds:List D},Rps K F xs ds->xs.length=ds.length
 | _,_,.nil=>rfl
 | _,_,.cons _ b=>by simp[u9Y b]
noncomputable def popL (ρ:Rho) (i:Nat):List D->Res (D×Rho)
 | [y]=>(getW ρ i).bind (popAtW ρ i y)
 | _=>.bad
noncomputable def insL (ρ:Rho) (i:Nat):List D->Res (D×Rho)
 | [y,d]=>(getW ρ i).bind (insW ρ i y d)
 | _=>.bad
section
variable {X:Cx}{xq:XQ}{x:Str}{p apos cpos:Pos}{a b e:Expr}{es:List Expr}{fs:Rho->Res (List Ag×Rho)}
set_option tactic.hygienic true in
def x_popAt (i:Nat) (ha:DXA X [e] fs) (hN:X.N[i]?=some x:=by rfl) (hv:Vis X.env.scope x:=by first|exact Or.inl rfl|exact Or.inr (Or.inl rfl)|exact Or.inr (Or.inr rfl)) (hd:(x==("__debug__":Str))=false:=by decide) (hcd:(x==("__classdict__":Str))=false:=by decide)
  (hbase:attributeBase (.Name x p) "pop" X.env (eval (.Name x p) X.env)=eval (.Name x p) X.env:=by rfl) (hline:(apos.endLine==cpos.line)=true:=by rfl) :
  DX X (.Call (.Attribute (.Name x p) "pop" apos) [e] [] cpos) (λρ=>(getW ρ i).bind λ_=>(fs ρ).bind λr=>(noE (agv r.1)).bind λds=>popL r.2 i ds) :=
 DX.of (pbm PySem.F.plainAttrs_list PySem.F.slot_list_pop PySem.F.type_list_pop v2I (u0v hN hv hd hcd) ha.out (hbase:=hbase) (hline:=hline) (hs:=ha.ns)) λB F ρ σ H Q R q=>by
  obtain⟨o0,l0,xs0,ds0,mk0,_,e0,h0,_,_,q⟩:=u5q R (Res.all_bind.mp q);refine⟨.ref l0,e0,.inl ⟨rfl,_,.inl (.inl h0)⟩,seqXA R q λr vs F1 H1 m1 p1 q1=>?_⟩
  cases w:agv r.1 with
  | err x=>rw[w] at q1;exact q1.elim
  | bad=>rw[w] at q1;exact q1.elim
  | ok ds =>
   rw[w] at q1;have rp:=u7C p1 w
   replace q1:(popL r.2 i ds).all _ _:=q1
   match ds,rp,q1 with
   | [y],.cons py .nil,q1 =>
    obtain⟨o,l,xs,es,mk,e1,e2,e3,rr,hmk,q2⟩:=u5q m1.rel (Res.all_bind.mp q1);obtain rfl:l0=l:=by
     have:=Option.some.inj (Option.some.inj (e0.symm.trans e2))
     injection this
    unfold popAtW at q2;dsimp only at q2;split at q2
    ·rename_i k
     cases py;split at q2
     ·rename_i h63
      split at q2
      ·rename_i d hd
       obtain⟨z,hz,pz⟩:=v3A rr hd;have hk:k<xs.length:=(w6.mp hz).1;have hk:@LT.lt Int _ (k:Int) (2^63):=by omega
       refine⟨l0,xs,(k:Int),k,z,rfl,rfl,e3,by omega,hk,?_,hz,q2 z F1 _ (m1.trans (Mv.write m1.rel e1 e2 (hmk _ _ F1 (u5P k rr)))) pz⟩
       unfold seqIndex?;simp;omega
      ·exact q2.elim
     ·exact q2.elim
    ·exact q2.elim
   | [],_,q1=>exact q1.elim
   | _::_::_,_,q1=>exact q1.elim
set_option tactic.hygienic true in
def x_ins (i:Nat) (ha:DXA X [a,b] fs) (hN:X.N[i]?=some x:=by rfl) (hv:Vis X.env.scope x:=by first|exact Or.inl rfl|exact Or.inr (Or.inl rfl)|exact Or.inr (Or.inr rfl)) (hd:(x==("__debug__":Str))=false:=by decide) (hcd:(x==("__classdict__":Str))=false:=by decide)
  (hbase:attributeBase (.Name x p) "insert" X.env (eval (.Name x p) X.env)=eval (.Name x p) X.env:=by rfl) (hline:(apos.endLine==cpos.line)=true:=by rfl) :
  DX X (.Call (.Attribute (.Name x p) "insert" apos) [a,b] [] cpos) (λρ=>(getW ρ i).bind λ_=>(fs ρ).bind λr=>(noE (agv r.1)).bind λds=>insL r.2 i ds) :=
 DX.of (pbm PySem.F.plainAttrs_list PySem.F.slot_list_insert PySem.F.type_list_insert v0w (u0v hN hv hd hcd) ha.out (hbase:=hbase) (hline:=hline) (hs:=ha.ns)) λB F ρ σ H Q R q=>by
  obtain⟨o0,l0,xs0,ds0,mk0,_,e0,h0,_,_,q⟩:=u5q R (Res.all_bind.mp q);refine⟨.ref l0,e0,.inl ⟨rfl,_,.inl (.inl h0)⟩,seqXA R q λr vs F1 H1 m1 p1 q1=>?_⟩
  cases w:agv r.1 with
  | err x=>rw[w] at q1;exact q1.elim
  | bad=>rw[w] at q1;exact q1.elim
  | ok ds =>
   rw[w] at q1;have rp:=u7C p1 w
   replace q1:(insL r.2 i ds).all _ _:=q1
   match ds,rp,q1 with
   | [y,d],.cons py (.cons pd .nil),q1 =>
    obtain⟨o,l,xs,es,mk,e1,e2,e3,rr,hmk,q2⟩:=u5q m1.rel (Res.all_bind.mp q1);obtain rfl:l0=l:=by
     have:=Option.some.inj (Option.some.inj (e0.symm.trans e2))
     injection this
    unfold insW at q2;dsimp only at q2;split at q2
    ·rename_i k
     cases py;split at q2
     ·rename_i hh
      have hl:=u9Y rr;exact⟨l0,xs,(k:Int),k,_,rfl,rfl,rfl,e3,by omega,by omega,hh.2.2,q2 .non F1 _ (m1.trans (Mv.write m1.rel e1 e2 (hmk _ _ F1 (u9Z (u7I k rr) (.cons pd (u7K k rr)))))) .non⟩
     ·exact q2.elim
    ·exact q2.elim
   | [],_,q1=>exact q1.elim
   | [_],_,q1=>exact q1.elim
   | _::_::_::_,_,q1=>exact q1.elim
end
section
variable {prog:Program}{w:World}{A:Around}{E:VP}{s:Shared}{R:Result->Shared->Prop}
variable {I:Addr}{fp wr:List Addr}{G:Array GenState->Array GenState->Prop}{n:Nat}{P:Nat->Value->Prop}{St:Nat->Shared->Prop}{T:String}
def Hints (prog:Program) (w:World) (A:Around) (I:Addr) (St:Nat->Shared->Prop):Prop:=∀(s:Shared) (Q:Bool->Shared->Prop) (E:VP),St 0 s->(∀b tk,s.toks<=tk->Q b { s with toks:=tk })->wpAny (model prog w) A (Builtin.List.listLengthHint (.ref I)) Q E s
def ext_it (W:WalksS prog w A.in1 I fp wr G n P St) (hH:Hints prog w A.in1 I St) (hT:∀i s,St i s->s.TypeIs (.ref I) T) (n1:(Value.type T==Value.type "list")=false) (n2:(Value.type T==Value.type "tuple")=false) (S:Addr) (res:Value) (c₀:Nat) (hst:St 0 s) (hSf:S∉fp) (hI:I∈fp)
  (hS:s.heap.get? S=some { cls:=.type "list",data:=.seq #[] c₀ }) (hn:n<=sizeLine)
  (hR:∀s' acc' c',Moved (S::wr) G s s'->s'.heap.get? S=some { cls:=.type "list",dict:=none,data:=.seq acc' c',slots:=#[] }->ItemsOf P acc' n->R (.ok (.ret res)) s') :
  wpAny (model prog w) A.in1 (Builtin.List.listExtendWith (.ref S) (.ref I) res)
   (λfin s'=>match fin with | .done f=>R (.ok f) s' | .again c'=>c'.quiet=true/\codeAny (model prog w) A c' R s') (λe s'=>R (.error e) s') s:=by
 have hSI:S≠I:=λe=>hSf (e ▸ hI)
 unfold Builtin.List.listExtendWith;refine wpAny_bind (wpAny_typeOf (hT 0 _ hst) ?_);have h1:Builtin.List.listSameRef (.ref S) (.ref I)=false:=by simp[Builtin.List.listSameRef,hSI]
 simp only[h1,n1,n2,Bool.or_false,t8,if_false];refine wpAny_bind (W.self 0 _ _ _ hst ?_);refine wpAny_bind (wpAny_holding (hH s _ _ hst λb tk htk=>?_))
 have hst2:St 0 { s with toks:=tk }:=W.frame 0 s s.heap tk hst htk λb _ o e=>e
 have m0:Moved (S::wr) G s { s with toks:=tk }:=(Moved.refl W.grefl).then_heap htk λb o _ e=>e
 split
 ·refine wpAny_bind (wpAny_rule ?_)
  refine wpAny_bind ?_;show wpAny _ A.in1 (updateSeq S (·.push .none) >>= λ_=>updateSeq S (·.pop)) _ _ _
  refine wpAny_bind (wpAny_updateSeq hS rfl ?_);have hS₂:=r9 (Obj.mapSeq (·.push Value.none)) hS rfl
  refine wpAny_updateSeq (hz:=by seq_fits) hS₂ rfl ?_
  have hS₃:=r9 (Obj.mapSeq (·.pop)) hS₂ rfl
  have oth:∀b o,b≠S->s.heap.get? b=some o->((s.heap.update S (Obj.mapSeq (·.push Value.none))).update S (Obj.mapSeq (·.pop))).get? b=some o :=
   λb o hb e=>(u0 _ _ (Ne.symm hb)).trans ((u0 _ _ (Ne.symm hb)).trans e)
  refine wpAny_pure ⟨plainId_quiet F.plain_extend_loop _,codeAny_extend_loopS W hn _ hSf _ n 0 _ _ _ rfl (z1A _)
   (W.frame 0 s _ tk hst htk λb hb o e=>oth b o (λh=>hSf (h ▸ hb)) e) hS₃ (ItemsOf.nil P) λs' acc' c' hm hS' hacc=>?_⟩
  exact hR s' acc' c' (Moved.trans W.gtrans ((Moved.refl W.grefl).then_heap htk λb o hb e=>oth b o (λh=>hb (h ▸ z8)) e) hm) hS' hacc
 ·exact wpAny_pure ⟨plainId_quiet F.plain_extend_loop _,codeAny_extend_loopS W hn _ hSf _ n 0 _ _ _ rfl (z1A _) hst2 hS (ItemsOf.nil P) λs' acc' c' hm hS' hacc=>hR s' acc' c' (Moved.trans W.gtrans m0 hm) hS' hacc⟩
def u3g {Q:VP} (W:WalksS prog w A.in1.in1 I fp wr G n P St) (hH:Hints prog w A.in1.in1 I St) (hT:∀i s,St i s->s.TypeIs (.ref I) T) (n1:(Value.type T==Value.type "list")=false) (n2:(Value.type T==Value.type "tuple")=false) (hst:St 0 s) (hfp:∀b∈fp,b<s.heap.objs.size) (hI:I∈fp) (hn:n<=sizeLine)
  (hQ:∀ s' acc' c',Moved (s.heap.objs.size::wr) G { s with heap:=s.heap.push { cls:=.type "list",data:=.seq #[] } } s' ->
   s'.heap.get? s.heap.objs.size=some { cls:=.type "list",dict:=none,data:=.seq acc' c',slots:=#[] }->ItemsOf P acc' n->Q (.ref s.heap.objs.size) s') :
  wpAny (model prog w) A (call (.type "list") [.ref I]) Q E s:=by
 have hSf:s.heap.objs.size∉fp:=λhm=>z0B _ (hfp _ hm)
 refine callType_codes (Q₁:=λobj s₁=>obj=.ref s.heap.objs.size/\s₁={ s with heap:=s.heap.push { cls:=.type "list",data:=.seq #[] } }) F.called_list (F.typeCall_list_1 _) F.entry_list_init
  (code_list_new _ ⟨rfl,rfl⟩) λobj s₁ h₁=>?_
 obtain⟨rfl,rfl⟩:=h₁;have hS:(s.heap.push { cls:=.type "list",data:=.seq #[] }).get? s.heap.objs.size=some { cls:=.type "list",data:=.seq #[] }:=z6 _ rfl;have st1:=W.frame 0 s _ s.toks hst (y0 _) λb _ o e=>z5 { cls:=.type "list",data:=.seq #[] } e
 refine⟨⟨_,hS,rfl⟩,F.args_list_init_2 _ _,?_⟩;show wpAny _ A.in1.in1 (do let old <- Builtin.List.listItems (.ref s.heap.objs.size);Builtin.List.listUpdate (.ref s.heap.objs.size) (λ_=>#[]);letGo old.toList.reverse;Builtin.List.listExtendWith (.ref s.heap.objs.size) (.ref I) .none) _ _ _
 refine wpAny_bind ?_;unfold Builtin.List.listItems;refine wpAny_bind (wpAny_seqItems hS rfl (wpAny_pure ?_));show wpAny _ A.in1.in1 (updateSeq s.heap.objs.size (λ_=>#[]) >>= λ_=>letGo (#[]:Array Value).toList.reverse >>= λ_=>Builtin.List.listExtendWith (.ref s.heap.objs.size) (.ref I) .none) _ _ _
 refine wpAny_bind (wpAny_updateSeq hS rfl ?_);have hS₂:=r9 (Obj.mapSeq (λ_=>(#[]:Array Value))) hS rfl
 have oth:∀b o,b≠s.heap.objs.size->(s.heap.push { cls:=.type "list",data:=.seq #[] }).get? b=some o->((s.heap.push { cls:=.type "list",data:=.seq #[] }).update s.heap.objs.size (Obj.mapSeq (λ_=>(#[]:Array Value)))).get? b=some o :=
  λb o hb e=>(u0 _ _ (Ne.symm hb)).trans e
 refine wpAny_bind (wpAny_letGo ?_);refine ext_it W hH hT n1 n2 _ .none _ (W.frame 0 _ _ _ st1 (y0 _) λb hb o e=>oth b o (λh=>hSf (h ▸ hb)) e) hSf hI hS₂ hn λs' acc' c' hm hS' hacc=>?_
 exact⟨rfl,hQ s' acc' c' (Moved.trans W.gtrans ((Moved.refl W.grefl).then_heap (y0 _) λb o hb e=>oth b o (λh=>hb (h ▸ z8)) e) hm) hS' hacc⟩
end
def v2d:typeLookup (.type "reversed") "__len__"=pure none:=by rw[typeLookup_type,builtinLookup_eq_fast];kernel_rfl
def u6Y:Slot "reversed" "__length_hint__" "reversed.__length_hint__":=.of (owner:="reversed") (n:="__length_hint__") (by rw[typeLookup_type,builtinLookup_eq_fast];kernel_rfl) (by decide +kernel) (by decide +kernel) (by decide +kernel) (by first|exact .inl (by decide +kernel)|exact .inr (by decide +kernel)) (by rw[isSubtype_type];kernel_rfl)
def v2f:entryFor table "reversed.__length_hint__"=some Builtin.«reversed.__length_hint__»:=entryFor_of_tree (by kernel_rfl)
def v2h (a:Value):argsOk "reversed.__length_hint__" ⟨[a],[]⟩:=by
 unfold argsOk;rw[signature?_of (id:="reversed.__length_hint__") (n:=['_','_','t','n','i','h','_','h','t','g','n','e','l','_','_']) (o:=['d','e','s','r','e','v','e','r']) (by kernel_rfl) u9U];kernel_rfl
def v2c:splitId "reversed.__length_hint__"=some ("reversed","__length_hint__"):=by decide +kernel
section
variable {P:Program}{w:World}{A:Around}{E:VP}{s:Shared}
def v1K (hh:A.handled=none) (I l:Addr) (hne:l≠I) (items:Array Value) (hz:(items.size:Int)<2^63) :
  Walks P w A I [I,l] [I] items.size (λi v=>items[items.size - 1 - i]?=some v) (λi h=>i<=items.size/\IsRv h I l ((items.size:Int) - 1 - (i:Int))/\h.IsTuple l items) where
 sub:=λb hb=>by simp at hb;simp[hb]
 frame:=λ_ _ _ x hk=>⟨x.1,hk I (by simp) _ x.2.1,x.2.2.at λo e=>hk l (by simp) o e⟩
 item:=λi s Q E hi x hQ=>by
  have e:(items.size:Int) - 1 - (i:Int)=((items.size - 1 - i:Nat):Int):=by omega
  have hit:=x.2.1;rw[e] at hit;have hx:items[items.size - 1 - i]?=some (items[items.size - 1 - i]'(by omega)):=z3B (by omega)
  refine nx_rv hit x.2.2 hz hx λh' t hit' hs'=>?_
  have e2:((items.size - 1 - i:Nat):Int) - 1=(items.size:Int) - 1 - ((i+1:Nat):Int):=by omega
  rw[e2] at hit';exact hQ _ h' t hx ⟨hi,hit',x.2.2.at λo eo=>(hs'.2 l hne).trans eo⟩ λb o hb eo=>hs'.extBut b o (λh=>hb (by simp[h])) eo
 done:=λs Q E x hQ=>by
  have e:(items.size:Int) - 1 - (items.size:Int)=-1:=by omega
  have hit:=x.2.1;rw[e] at hit;exact u5Z hh hit λh' he'=>hQ h' s.toks λb o hb eo=>he' b o (λh=>hb (by simp[h])) eo
 self:=λ_ _ _ _ x hQ=>it_rv x.2.1 hQ
def hint_rv {I l:Addr}{items:Array Value}{Q:Bool->Shared->Prop} (hz:items.size<=sizeLine) (hI:IsRv s.heap I l ((items.size:Int) - 1)) (hl:s.heap.IsTuple l items) (h:∀b tk,s.toks<=tk->Q b { s with toks:=tk }) :
  wpAny (model P w) A (Builtin.List.listLengthHint (.ref I)) Q E s:=by
 unfold Builtin.List.listLengthHint;refine wpAny_bind (wpAny_specialOf hI.ty v2d ?_);dsimp only;rw[if_neg (by decide)]
 rw[if_neg (by decide)]
 refine wpAny_bind (wpAny_specialOf hI.ty u6Y.lookup ?_);dsimp only;rw[v2c];dsimp only;refine wpAny_bind (wpAny_isInstance (T:="reversed") (b:=true) hI.ty F.sub_reversed_self ?_);rw[if_neg (by decide)]
 rw[if_neg (by decide +kernel)]
 refine wpAny_bind (wpAny_rule ?_);refine wpAny_bind (wpAny_of_eq (u6Y.bind (.ref I)) ?_);refine wpAny_bind (wpAny_attempt (wpAny_call_entry u6Y hI.ty v2f ?_ (v2h _)));unfold Builtin.«reversed.__length_hint__»;have hzi:(items.size:Int)<2^63:=Int.lt_of_le_of_lt (Int.ofNat_le.mpr hz) (by decide +kernel)
 refine wpAny_bind (wpAny_of_eq (a:=Value.ref I) rfl ?_);refine wpAny_bind (wpAny_field hI rfl (x:=.ref l) rfl ?_);rw[if_neg (by simp)]
 refine wpAny_bind (len_tuple (show IsTup s.heap l items from hl) hzi (wpAny_bind (wpAny_of_eq (a:=some (items.size:Int)) rfl ?_)))
 dsimp only;refine wpAny_bind (wpAny_field hI rfl (x:=rawInt ((items.size:Int) - 1)) rfl ?_);show wpAny _ _ (if (items.size:Int)<(items.size:Int) - 1+1 then _ else _) _ _ _
 rw[if_neg (by omega)]
 have e:(items.size:Int) - 1+1=(items.size:Int):=by omega
 rw[e];refine wpAny_ret_mkInt ?_;dsimp only;generalize hN:(items.size:Int)=N at hzi |-
 have ea:∀(k:Int) (t:Tok),asInt? (.int k t)=pure (some k):=λ_ _=>rfl
 rw[ea,pure_bind];dsimp only;have f1:Builtin.List.listFitsIndex N=true:=fitsIndex_both (Int.le_trans (by decide +kernel) (hN ▸ Int.natCast_nonneg _)) hzi
 rw[f1,if_neg (by decide),if_neg (by omega),<- hN,Int.toNat_natCast,notLongL hz,if_neg (by decide)]
 refine wpAny_pure ?_;generalize ((items.size:Int) != 0)=bb;exact h bb _ (by omega)
end
def v2O:typeLookup (.type "list_reverseiterator") "__len__"=pure none:=by rw[typeLookup_type,builtinLookup_eq_fast];kernel_rfl
def lr_hint:Slot "list_reverseiterator" "__length_hint__" "list_reverseiterator.__length_hint__":=.of (owner:="list_reverseiterator") (n:="__length_hint__") (by rw[typeLookup_type,builtinLookup_eq_fast];kernel_rfl) (by decide +kernel) (by decide +kernel) (by decide +kernel) (by first|exact .inl (by decide +kernel)|exact .inr (by decide +kernel)) (by rw[isSubtype_type];kernel_rfl)
def v2N:splitId "list_reverseiterator.__length_hint__"=some ("list_reverseiterator","__length_hint__"):=by decide +kernel
def sub_lr:isSubtype (.type "list_reverseiterator") (.type "list_reverseiterator")=pure true:=by rw[isSubtype_type];kernel_rfl
section
variable {P:Program}{w:World}{A:Around}{E:VP}{s:Shared}
def hint_lr {I:Addr}{Q:Bool->Shared->Prop} (hT:s.TypeIs (.ref I) "list_reverseiterator") (h:Q false s) :
  wpAny (model P w) A (Builtin.List.listLengthHint (.ref I)) Q E s:=by
 unfold Builtin.List.listLengthHint;refine wpAny_bind (wpAny_specialOf hT v2O ?_);dsimp only;rw[if_neg (by decide)]
 rw[if_neg (by decide)]
 refine wpAny_bind (wpAny_specialOf hT lr_hint.lookup ?_);dsimp only;rw[v2N];dsimp only;refine wpAny_bind (wpAny_isInstance (T:="list_reverseiterator") (b:=true) hT sub_lr ?_);rw[if_neg (by decide)]
 rw[if_pos (by decide +kernel)]
 rw[if_neg (by decide +kernel)]
 exact wpAny_pure h
def rev_acc {us:List Value}{acc:Array Value} (h:ItemsOf (λi v=>us.toArray[us.toArray.size - 1 - i]?=some v) acc us.toArray.size):acc=us.reverse.toArray:=by
 apply Array.ext_getElem?;intro j;by_cases hj:j<acc.size
 ·have e:acc[j]?=some (acc[j]'hj):=z3B hj
  have q:=h.2 j _ e;have hs:acc.size=us.length:=by have:=h.1;simpa using this
  rw[y9] at q;rw[e,<- q];simp;rw[z2G (by omega)]
 ·have hs:acc.size=us.length:=by have:=h.1;simpa using this
  rw[Array.getElem?_eq_none (by omega)]
  simp;omega
def v2Q {b:Bool}{l:Addr}{us:List Value}{Q:VP} (hh:A.handled=none) (hz:us.length<=sizeLine) (hl:ZSq b s.heap l us.toArray)
  (hQ:∀h' c tk,(∀b o,s.heap.get? b=some o->h'.get? b=some o)->h'.get? (s.heap.objs.size+1)=some { cls:=.type "list",dict:=none,data:=.seq us.reverse.toArray c,slots:=#[] }->Q (.ref (s.heap.objs.size+1)) { s with heap:=h',toks:=tk }) :
  wpAny (model P w) A (call (.type "reversed") [.ref l]) (λv s2=>wpAny (model P w) A (call (.type "list") [v]) Q E s2) E s:=by
 have hzi:(us.toArray.size:Int)<2^63:=by rw[y9];exact Int.lt_of_le_of_lt (Int.ofNat_le.mpr hz) (by decide +kernel)
 have hz2:us.toArray.size<=sizeLine:=by rw[y9];exact hz
 have lt:=hl.lt;have ne:l≠s.heap.objs.size:=v5 lt;have e0:(us.toArray.size:Int) - 1 - ((0:Nat):Int)=(us.toArray.size:Int) - 1:=by omega
 have fin:∀(O:Obj) (t:Nat) (s':Shared) (acc:Array Value) (c:Nat),Moved ((s.heap.push O).objs.size::[s.heap.objs.size]) (λa b=>b=a) { s with heap:=(s.heap.push O).push { cls:=.type "list",data:=.seq #[] },toks:=t } s' ->
   s'.heap.get? (s.heap.push O).objs.size=some { cls:=.type "list",dict:=none,data:=.seq acc c,slots:=#[] }->ItemsOf (λi v=>us.toArray[us.toArray.size - 1 - i]?=some v) acc us.toArray.size->Q (.ref (s.heap.push O).objs.size) s':=by
  intro O t s' acc c hm hS hacc;obtain⟨h',g',d',tk',os'⟩:=s';have eg:g'=s.gens:=hm.gens;have ed:d'=s.drawn:=hm.drawn;have eo:os'=s.os:=hm.os;subst eg ed eo;have ez:(s.heap.push O).objs.size=s.heap.objs.size+1:=Heap.size_push ..;rw[rev_acc hacc] at hS;rw[ez] at hS hm |-
  refine hQ h' c tk' (λb o e=>hm.heap b o (λhb=>?_) (z5 _ (z5 _ e))) hS
  have:=z7 e
  simp only[y7,r6,or_false] at hb;rcases hb with rfl|rfl
  ·exact absurd this (Nat.not_lt.mpr (Nat.le_succ _))
  ·exact absurd this (z0B _)
 cases b
 ·have hl:s.heap.IsList l us.toArray:=hl
  refine call_reversed_list hl ?_;have st0:(0:Nat)<=us.toArray.size/\(s.heap.push (revObj l ((us.toArray.size:Int) - 1))).IsRevIter s.heap.objs.size l ((us.toArray.size:Int) - 1 - ((0:Nat):Int))/\(s.heap.push (revObj l ((us.toArray.size:Int) - 1))).IsList l us.toArray :=
   ⟨z1A _,⟨_,z6 _ rfl,rfl,by rw[e0];rfl⟩,hl.at λo e=>z5 _ e⟩
  refine u3g (T:="list_reverseiterator") ((Walks.listRev (show A.in1.in1.handled=none by simp[hh]) s.heap.objs.size l ne us.toArray).toS) (λs' Q' E' st h=>hint_lr st.2.1.typeIs (h false s'.toks (y0 _))) (λi s' st=>st.2.1.typeIs) (by decide) (by decide) st0 ?_ (by simp) hz2 λs' acc c hm hS hacc=>fin _ _ s' acc c hm hS hacc
  intro b hb;simp only[y7,r6,or_false] at hb;rcases hb with rfl|rfl
  ·exact z7 (z6 _ rfl)
  ·exact w5 lt (by show _<=(s.heap.push _).objs.size;rw[Heap.size_push];exact Nat.le_succ _)
 ·have hl:s.heap.IsTuple l us.toArray:=hl
  refine v1A hl hzi λt=>?_
  have st0:(0:Nat)<=us.toArray.size/\IsRv (s.heap.push (rvO l ((us.toArray.size:Int) - 1))) s.heap.objs.size l ((us.toArray.size:Int) - 1 - ((0:Nat):Int))/\(s.heap.push (rvO l ((us.toArray.size:Int) - 1))).IsTuple l us.toArray :=
   ⟨z1A _,by rw[e0];exact z6 _ rfl,hl.at λo e=>z5 _ e⟩
  refine u3g (T:="reversed") ((v1K (show A.in1.in1.handled=none by simp[hh]) s.heap.objs.size l ne us.toArray hzi).toS) (λs' Q' E' st h=>hint_rv hz2 (by rw[<- e0];exact st.2.1) st.2.2 h) (λi s' st=>st.2.1.ty) (by decide) (by decide) st0 ?_ (by simp) hz2 λs' acc c hm hS hacc=>fin _ _ s' acc c hm hS hacc
  intro b hb;simp only[y7,r6,or_false] at hb;rcases hb with rfl|rfl
  ·exact z7 (z6 _ rfl)
  ·exact w5 lt (by show _<=(s.heap.push _).objs.size;rw[Heap.size_push];exact Nat.le_succ _)
end
noncomputable def revN:List D->Res OD
 | [d]=>match rowOf d with
  | some x=>.ok (.l x.reverse)
  | none=>.bad
 | _=>.bad
def Vals.rev {xs:List V}{us:List Value} (h:Vals xs us):Vals xs.reverse us.reverse:=by
 induction h with
 | nil=>exact .nil
 | cons a b ih =>
  rw[List.reverse_cons,List.reverse_cons];exact ih.append (.cons a .nil)
theorem Rps.rev {K:W.Frag}{F:Hp}:∀{xs:List V}{ds:List D},Rps K F xs ds->Rps K F xs.reverse ds.reverse
 | _,_,.nil=>.nil
 | _,_,.cons a b=>by
  rw[List.reverse_cons,List.reverse_cons];exact rps_appR (Rps.rev b) (.cons a .nil)
where rps_appR {K:W.Frag}{F:Hp}:∀{xs ys:List V}{ds es:List D},Rps K F xs ds->Rps K F ys es->Rps K F (xs++ys) (ds++es)
 | _,_,_,_,.nil,h=>h
 | _,_,_,_,.cons a b,h=>.cons a (rps_appR b h)
section
variable {X:Cx}{xq:XQ}{a:Expr}{p pos p2 pos2:Pos}{fa:Rho->Res (List D)}
set_option tactic.hygienic true in
def dn_rev (hc:X.calm=true) (hm:X.mg "list"=none) (hm2:X.mg "reversed"=none) (ha:DA X xq [a] fa) (hg:Gl X "list":=by rfl) (hg2:Gl X "reversed":=by rfl) :
  DN X xq (.Call (.Name "list" p) [.Call (.Name "reversed" p2) [a] [] pos2] [] pos) (λρ=>(fa ρ).bind revN):=⟨λpins s σ H Q I z9=>un5 z9 λB F ρ R q=>by
 refine Call_ (u1M I hg hm (show bootBuiltins "list"=some (.type "list") by decide +kernel) (PyProof.Rows.callWith_type1 ?_ rfl rfl))
 show wpAny _ _ (spliced ((false,eval (.Call (.Name "reversed" p2) [a] [] pos2) X.env)::[])) _ _ s;refine Calls.spliced_cons ?_;refine Call_ (u1M I hg2 hm2 (show bootBuiltins "reversed"=some (.type "reversed") by decide +kernel) (PyProof.Rows.callWith_type1 (thn (ha.out pos2 pins s σ H (λvs H1=>∃b1 a1 xs ds F1,vs=[.ref a1]/\SqB b1 X.K H1 a1 xs/\Rps X.K F1 xs ds/\Stp F H F1 H1 /\
   (∀a h F' H',Stp F H F' H'->F' a=none->H a=none->H' a=some h->Ro X.K F' a h (.l ds.reverse)->Q (.ref a) H')) I (seqA R q λds vs F1 H1 s1 R1 p1 q1=>?_)) λus s1 ⟨vs,H1,I1,r1,q1⟩=>?_) (u0k (u0j ha.ns).1) (u0O (u0j ha.ns).2)))
 ·unfold revN at q1
  split at q1
  ·rename_i d
   obtain⟨v,rfl,pv⟩:=rps1 p1;cases hx:rowOf d with
   | none=>rw[hx] at q1;exact q1.elim
   | some x =>
    rw[hx] at q1;obtain⟨b1,a1,xs,rfl,g1,g1',t1⟩:=v0a pv hx;exact⟨b1,a1,xs,x,F1,rfl,g1 _ R1.fh,t1,s1,q1⟩
  ·exact q1.elim
 ·obtain ⟨b1,a1,xs,ds,F1,e,h1,t1,st1,q⟩:=q1
  subst e;obtain⟨u1,rfl,ru1⟩:=vals1 r1;cases (show u1=Value.ref a1 from ru1)
  obtain⟨us,rv1,p1⟩:=I1.sqB h1;have hh:X.A.handled=none:=I1.ok.hd hc;have l1:=rv1.length;have z1:xs.length<=sizeLine:=by
   cases b1
   ·obtain⟨_,_,_,z⟩:=I1.list h1;exact z
   ·obtain⟨_,_,_,z⟩:=I1.tuple h1;exact z
  refine thn (v2Q hh (by omega) p1 λh' c tk kk eS=>?_) λv s2 h2=>Calls.spliced_nil h2
  have lA:s1.heap.objs.size<=s1.heap.objs.size+1:=Nat.le_succ _;have fS:H1 (s1.heap.objs.size+1)=none:=I1.hok.fresh lA;have I2:=I1.laid (t':=tk) (a:=s1.heap.objs.size+1) (o:=.lst xs.reverse) kk lA ⟨by rw[List.length_reverse];exact z1,us.reverse,c,rv1.rev,eS⟩
  exact⟨.ref (s1.heap.objs.size+1),_,I2,rfl,q _ (.lst xs.reverse) F1 _ (st1.trans ⟨Same.refl _,st1.fh.trans (u0i fS),u0i fS,λb f1 hb=>f1⟩) (st1.fh.free fS) (st1.hh.free fS) u0d (.l t1.rev)⟩⟩
end
def MCalleeF (P:Program) (w:World) (K:W.Frag) (mg:MG) (base:Heap) (k:Nat) (C:Addr) (m:Str) (ps:List Str) (f:FD):Prop :=
 ∃a fd,Cls K C/\Meth K C m a/\FnOk P w K mg base CX0 k a fd ps (spF K f)/\Binds K fd ps []
def spIni (K:W.Frag) (C:Addr) (g:List D->Res (List (Str×D))):Sp:=λvs H Q _=>∃F a dx rest ds,vs=.ref a::rest/\Same F H/\F a=none/\H a=some (.ins C dx [])/\Rps K F rest ds /\
 (g ds).all (λgs=>∀dx' fs F' H',Stp F (wo H a) F' H'->F' a=none->H' a=some (.ins C dx' fs)->Rpf K F' fs gs->Q .non H') (λ_=>False)
section
variable {X:Cx}{xq:XQ}{o e:Expr}{es:List Expr}{fo:Rho->Res D}{fs:Rho->Res (List D)}{f m:Str}{p pos apos:Pos}{C0:Addr}
def v3x {K:W.Frag}{f:FD}{vs:List V}{ds:List D}{F F1 H H1:Hp}{Q:VK}{E:D->Prop} (fh:Same F1 H1) (p:Rps K F1 vs ds) (s1:Stp F H F1 H1) (q:(noE (f ds)).all (λd=>∀v F' H',Stp F H F' H'->Rp K F' v d->Q v H') E):spF K f vs H1 Q E0:=by
 refine⟨F1,ds,fh,p,?_⟩;cases e:f ds with
 | ok d=>rw[e] at q;exact λv F' H' st pv=>q v F' H' (s1.trans st) pv
 | err x=>rw[e] at q;exact q.elim
 | bad=>rw[e] at q;exact q.elim
end
section
variable {X:Cx}{xq:XQ}{e:Expr}{st:Stmt}{sts:List Stmt}
def de_bad:DE X xq e (λ_=>.bad):=⟨λpins s σ H Q I z9=>un5 z9 λB F ρ R q=>False.elim q⟩
def u1E:DS X xq st (λ_=>.bad):=⟨λpins s σ H T I z9=>un5 z9 λB F ρ R q=>False.elim q.out⟩
end
def IsE (K:W.Frag) (T:String) (tx:List (Addr×Bool)):Prop:=∀p∈tx,(∃f,XCls K p.1 f)/\W.kitOne K (.ref p.1) (.type T)=some p.2
noncomputable def isXT (tx:List (Addr×Bool)) (d:D):Res D:=match d with
 | .exc C _=>lookB tx C
 | _=>.bad
def rIsE (K:W.Frag) (T:String) (tx:List (Addr×Bool)):List V->Hp->VK->Prop:=λxs H Q=>∃v F d b,xs=[v,.ty T]/\Same F H/\Rp K F v d/\isXT tx d=.ok (.bl b)/\Q (.bl b) H
section
variable {X:Cx}{xq:XQ}{e:Expr}{fe:Rho->Res D}{x c:Str}{p pc pos:Pos}{T:String}{tx:List (Addr×Bool)}
set_option tactic.hygienic true in
def c_isE (h:IsE X.K T tx):CallR X (.builtin "isinstance") (rIsE X.K T tx):=by
 intro pins s σ H xs us Q I r z9138;obtain⟨v,F,d,b,exs,fh,pv,hd,q⟩:=z9138;subst exs;obtain⟨u,u',rfl,ru,ru'⟩:=vals2 r;cases (show u'=Value.type T from ru')
 have fin:∀tk,∃v H',Inv X pins σ H' { s with toks:=tk }/\RelV v (.bool b)/\Q v H':=λtk=>⟨.bl b,H,I.tok _,rfl,q⟩
 cases pv with
 | @exc a C' dx fs gs h1 h2 h3 =>
  cases (show u=Value.ref a from ru)
  obtain⟨⟨f,K1⟩,e⟩:=h _ (u5k (show lookB tx C'=.ok (.bl b) from hd))
  obtain⟨xa,_⟩:=(show ObjOk X.prog X.w H s.heap a (XO C' (some dx) a) from I.hok a _ (fh _ _ h1))
  obtain⟨⟨mA,n,_⟩,_⟩:=(show ObjOk X.prog X.w H s.heap dx (DXO dx fs) from I.hok dx _ (fh _ _ h2))
  obtain⟨od,_,_,qd,_⟩:=n;obtain⟨ox,J⟩:=xa.inst qd;exact W.kia_one (u7U (dx:=none) (od:=none) K1) I.kIn ⟨ox,_,J⟩ e (λz=>nomatch z) fin
 | _=>cases hd
def d_isE {K:W.Frag}{mg:MG} (h:IsE K T tx) (hc:mg c=none) (hT:bootBuiltins c=some (.type T)) (hm:mg x=none) (hv:bootBuiltins x=some (.builtin "isinstance")) (ha:DE X xq e fe) (eK:X.K=K:=by rfl) (em:X.mg=mg:=by rfl) (hs:notStar e=true:=by rfl) (hg:Gl X x:=by rfl) (hgc:Gl X c:=by rfl)
  (hn:x≠"__name__":=by decide) (hdb:(x==("__debug__":Str))=false:=by decide) (hnc:c≠"__name__":=by decide) (hdc:(c==("__debug__":Str))=false:=by decide) :
  DE X xq (.Call (.Name x p) [e,.Name c pc] [] pos) (λρ=>(fe ρ).bind (isXT tx)):=by
 subst eK em;refine DE.of (pcB (c_isE h) hg hm hv (pac ha.out (pac (v0p hgc hc hT (show RelV (.ty T) (.type T) from rfl) hnc hdc) u1o) hs) hn hdb (by simp only[z1E,hs];rfl)) λB F ρ σ H Q R q=>seqE R q λd v F1 H1 s1 R1 p1 q1=>?_
 cases hd:isXT tx d with
 | bad=>rw[hd] at q1;exact False.elim q1
 | err y =>
  unfold isXT lookB at hd;split at hd
  ·split at hd<;>cases hd
  ·cases hd
 | ok y =>
  rw[hd] at q1;obtain⟨b,rfl⟩:∃b,y=.bl b:=by
   unfold isXT lookB at hd;split at hd
   ·split at hd<;>cases hd;exact⟨_,rfl⟩
   ·cases hd
  exact⟨v,F1,d,b,rfl,R1.fh,p1,hd,q1 _ _ _ s1 (.bl b)⟩
end
def KCal (P:Program) (w:World) (K:W.Frag) (mg:MG) (base:Heap) (k:Nat) (x:Str) (C:Addr) (ps:List Str) (dds:List D) (g:List D->Res (List (Str×D))):Prop :=
 ∃f fd dvs ds0,Mk K C f/\FnOk P w K mg base CX0 k f fd ps (spIni K C g)/\Binds K fd ps ds0/\Vals dvs ds0/\(∀F,Rps K F dvs dds)/\mg x=some (.ref C)
section
variable {P:Program}{w:World}{K:W.Frag}{mg:MG}{base:Heap}
set_option tactic.hygienic true in
def FunD.okI0 {x qual:Str}{st:Stmt}{f C:Addr}{fd:FuncData}{N ps:List Str}{k:Nat}{g:List D->Res (List (Str×D))} (F:FunD K x qual st f fd) (S:FnScope N ps (defScope st)) (len:∀ds gs,g ds=.ok gs->ds.length+1=ps.length)
  (hbody:∀ (cdv:Value) (A:Around) (outer:List Env) (s:Shared) (H:Hp) (E:XK),Room k (A.deeper (envOfC qual (defScope st) s.heap.objs.size f cdv)) ->
   ∃t,DB (cxOf CX0 P w K mg base N qual (defScope st) f cdv A outer s H E).nox xqF (defBody st) t/\∀a ds gs,g ds=.ok gs->outI a C (t (startI N.length a C ds))=.ok gs):FnOk P w K mg base CX0 (k+1) f fd ps (spIni K C g):=by
 obtain⟨oc,od,dV,kV,doc,pm,an,cdv,ct,osl,rfl,lk,hcd⟩:=F.ex;refine fn_of lk hcd S (λvs H Q E ⟨G,a,dx,rest,ds,e1,fh,fa,ha,r,q⟩=>by
  subst e1;rw[s9,r.length];cases e:g ds with
  | ok d=>exact len ds d e
  | err x=>rw[e] at q;exact q.elim
  | bad=>rw[e] at q;exact q.elim) λA outer s H vs Q E hr ⟨G,a,dx,rest,ds,e1,fh,fa,ha,r,q⟩=>?_
 subst e1;obtain⟨t,h1,h2⟩:=hbody cdv A outer s H E hr;refine⟨_,h1.out.nox,(G,wo H a),G,_,v1C fh fa ha r,⟨?_⟩⟩;cases e:g ds with
 | err x=>rw[e] at q;exact q.elim
 | bad=>rw[e] at q;exact q.elim
 | ok gs =>
  rw[e] at q;have z:=h2 a ds gs e;generalize t (startI N.length a C ds)=o at z;cases o with
  | nx ρ =>
   intro σ F' H' R;unfold outI at z;dsimp only at z;split at z
   ·rename_i a' C' gs' e
    split at z
    ·rename_i c
     obtain⟨rfl,rfl⟩:=c;cases z;obtain⟨b,h,p1,p2,p3,p4,p5⟩:=R.own 0 _ e;cases p5 with
     | i hr=>exact q _ _ F' H' R.st p2 p4 hr
    ·cases z
   ·cases z
  | _=>cases z
def Fun.d {x qual:Str}{st:Stmt}{f:Addr}{fd:FuncData} (F:Fun K x qual st f fd):FunD K x qual st f fd:=by
 obtain⟨oc,od,kV,doc,pm,an,cdv,ct,osl,h⟩:=F.ex;exact⟨oc,od,_,kV,doc,pm,an,cdv,ct,osl,h⟩
end
section
variable {X:Cx}{xq:XQ}{o e:Expr}{es:List Expr}{fo:Rho->Res D}{fs:Rho->Res (List D)}{x m:Str}{p pos apos:Pos}{C C0:Addr}
def u4i {P:Program}{w:World}{K:W.Frag}{mg:MG}{base:Heap}{k k':Nat}{ps:List Str}{dds:List D}{g:List D->Res (List (Str×D))} (h:KCal P w K mg base k x C ps dds g) (hr:Room k' X.A) (ha:DA X xq (e::es) fs) (hk:k+1<=k':=by decide) (hg:Gl X x:=by rfl)
  (eP:X.prog=P:=by rfl) (ew:X.w=w:=by rfl) (eK:X.K=K:=by rfl) (em:X.mg=mg:=by rfl) (eb:X.base=base:=by rfl) (hdb:(x==("__debug__":Str))=false:=by decide) :
  DE X xq (.Call (.Name x p) (e::es) [] pos) (λρ=>(fs ρ).bind λds=>(noE (g (ds++dds))).bind λgs=>.ok (.ins C gs)):=by
 subst eP ew eK em eb;obtain⟨fi,fd,dvs,ds0,M,G,hb,hd,pd,hm⟩:=h;refine DE.of (v0m M G (hr.mono hk) hg hm hb hd pass0 ha.out hdb (u0k (u0j ha.ns).1) (u0O (u0j ha.ns).2)) λB F ρ σ H Q R q=>seqA R q λds vs F1 H1 s1 R1 p1 q1 y dx n1 n2 n3=>?_
 have sH:Same H1 (wo (upd (upd H1 dx (.own y)) y (.ins C dx [])) y):=λb o e=>by
  have b1:b≠y:=λz=>by subst z;rw[n1] at e;cases e
  have b2:b≠dx:=λz=>by subst z;rw[n2] at e;cases e
  rw[wo_ne b1,u0f b1,u0f b2];exact e
 refine⟨F1,y,dx,_,ds++dds,rfl,R1.fh.trans (sH.trans (u9B _ _)),R1.fh.free n1,u0d,p1.append (pd F1),?_⟩;cases eg:g (ds++dds) with
 | bad=>rw[eg] at q1;exact q1.elim
 | err z=>rw[eg] at q1;exact q1.elim
 | ok gs =>
  rw[eg] at q1;intro dx' fs0 F' H' st fa ha' pf;refine⟨rfl,?_⟩;have st2:Stp F1 H1 (upd F' y (.ins C dx' fs0)) H':=⟨st.ff.trans (u0i fa),λb u z=>by
   unfold upd at z;by_cases zz:b=y
   ·rw[if_pos zz] at z;cases z;subst zz;exact ha'
   ·rw[if_neg zz] at z;exact st.fh b u z,sH.trans st.hh,λb z1 z2=>by
   unfold upd;by_cases zz:b=y
   ·subst zz;exact absurd n1 z2
   ·rw[if_neg zz];exact st.no b z1 (u3d sH z2)⟩
  exact q1 _ _ _ (s1.trans st2) (.ins u0d (pf.same (u0i fa)))
def d_mG {P:Program}{w:World}{K:W.Frag}{mg:MG}{base:Heap}{k k':Nat}{ps:List Str}{f:FD}{pl:Sem Bool} (h:MCalleeF P w K mg base k C0 m ps f) (hr:Room k' X.A) (ho:DE X xq o fo) (ha:DA X xq (e::es) fs) (hk:k<=k':=by decide)
  (eP:X.prog=P:=by rfl) (ew:X.w=w:=by rfl) (eK:X.K=K:=by rfl) (em:X.mg=mg:=by rfl) (eb:X.base=base:=by rfl)
  (ht:eval (.Call (.Attribute o m apos) (e::es) [] pos) X.env=(do
   let ov <- eval o X.env
   standAt apos.atName
   let (f,first) <- holding [ov] (getMethod ov m pl)
   callWith pos f first (backTo pos (starEach (e::es) X.env)) (backToKw pos (keywordEach [] X.env))):=by rfl) :
  DE X xq (.Call (.Attribute o m apos) (e::es) [] pos) (λρ=>(fo ρ).bind λx=>(isI C0 m x).bind λx=>(fs ρ).bind λds=>noE (f (x::ds))):=by
 subst eP ew eK em eb;obtain⟨fa,fd,c,hm,G,hb⟩:=h;refine DE.of (u5g ho.out c hm G (hr.mono hk) hb .nil pass0 ha.out (u0k (u0j ha.ns).1) (u0O (u0j ha.ns).2) ht) λB F ρ σ H Q R q=>seqE R q λd v F1 H1 s1 R1 p1 q1=>?_
 obtain⟨a,dx,fs0,rfl,e1,e2,q2⟩:=v0L p1 (Res.all_bind.mp q1);exact⟨a,dx,fs0,rfl,R1.fh _ _ e1,e2,seqA R1 q2 λds vs F2 H2 s2 R2 p2 q3=>by rw[List.append_nil];exact v3x R2.fh (.cons (p1.same s2.ff) p2) (s1.trans s2) q3⟩
def v3m {P:Program}{w:World}{K:W.Frag}{mg:MG}{base:Heap}{k k':Nat}{ps:List Str}{f:FD}{pl:Sem Bool} (h:MCalleeF P w K mg base k C0 m ps f) (hr:Room k' X.A) (ho:DE X xq o fo) (hk:k<=k':=by decide)
  (eP:X.prog=P:=by rfl) (ew:X.w=w:=by rfl) (eK:X.K=K:=by rfl) (em:X.mg=mg:=by rfl) (eb:X.base=base:=by rfl)
  (ht:eval (.Call (.Attribute o m apos) [] [] pos) X.env=(do
   let ov <- eval o X.env
   standAt apos.atName
   let (f,first) <- holding [ov] (getMethod ov m pl)
   callWith pos f first (backTo pos (starEach [] X.env)) (backToKw pos (keywordEach [] X.env))):=by rfl) :
  DE X xq (.Call (.Attribute o m apos) [] [] pos) (λρ=>(fo ρ).bind λx=>(isI C0 m x).bind λx=>noE (f [x])):=by
 subst eP ew eK em eb;obtain⟨fa,fd,c,hm,G,hb⟩:=h;refine DE.of (u7N ho.out c hm G (hr.mono hk) hb .nil pass0 ht) λB F ρ σ H Q R q=>seqE R q λd v F1 H1 s1 R1 p1 q1=>?_
 obtain⟨a,dx,fs0,rfl,e1,e2,q2⟩:=v0L p1 (Res.all_bind.mp q1);exact⟨a,dx,fs0,rfl,R1.fh _ _ e1,e2,v3x R1.fh (.cons p1 .nil) s1 q2⟩
end
end L2
namespace K55
open PySem L2 KW PySem.Spec PyProof.Rows
def bc {a:Prop} (h:¬a->False):a:=Classical.byContradiction h
def top (i:Nat):Stmt:=PySem.Challenge.pw_rulestable_k55_rows_not_climbed.main.body.getD i (.Pass ⟨0,0,0,0⟩)
def meth (i j:Nat):Stmt:=match top i with
 | .ClassDef (body:=b) ..=>b.getD j (.Pass ⟨0,0,0,0⟩)
 | _=>.Pass ⟨0,0,0,0⟩
def hu1 {A:Around}{k:Nat} (hr:Room k A):A.units+1<cLine:=by have:=hr.un;omega
def hu64 {A:Around}{k:Nat} (hr:Room k A):A.units+64<cLine:=by have:=hr.un;omega
def hu100 {A:Around}{k:Nat} (hr:Room k A):A.units+100<cLine:=by have:=hr.un;omega
def hu200 {A:Around}{k:Nat} (hr:Room k A):A.units+200<cLine:=by have:=hr.un;omega
noncomputable def rolesL:List (List Bool×D):=[([true,false,true],.tup [.str "head",.str "op",.str "head"]),([false,true,false],.tup [.str "left",.str "head",.str "right"]),([false],.tup [.str "atom"])]
structure Adr where
 NoRanks:Addr
 NoRow:Addr
 TableError:Addr
 NoTree:Addr
 Grammar:Addr
 Tree:Addr
 Leaf:Addr
 Node:Addr
 Climber:Addr
structure Txt (P:Program) (w:World) (K:W.Frag) (mg:MG) (A:Adr):Prop where
 z_isinstance:mg "isinstance"=none
 z_str:mg "str"=none
 z_int:mg "int"=none
 z_bool:mg "bool"=none
 z_list:mg "list"=none
 z_tuple:mg "tuple"=none
 z_dict:mg "dict"=none
 z_len:mg "len"=none
 z_all:mg "all"=none
 z_any:mg "any"=none
 z_range:mg "range"=none
 z_enumerate:mg "enumerate"=none
 z_sorted:mg "sorted"=none
 z_set:mg "set"=none
 z_zip:mg "zip"=none
 z_reversed:mg "reversed"=none
 z_sum:mg "sum"=none
 z_max:mg "max"=none
 z_ValueError:mg "ValueError"=none
 g_SIDES:GloD K mg "SIDES" (.tup [(.str "left"),(.str "right"),(.str "none")])
 g_MOST_IN_BODY:GloD K mg "MOST_IN_BODY" (.int 4)
 g_MOST_IN_RANK:GloD K mg "MOST_IN_RANK" (.int 10)
 g_MOST_RULES:GloD K mg "MOST_RULES" (.int 20)
 g_MOST_HEADS:GloD K mg "MOST_HEADS" (.int 8)
 g_MOST_SIGNS:GloD K mg "MOST_SIGNS" (.int 10)
 g_MOST_RANKS:GloD K mg "MOST_RANKS" (.int 6)
 g_LONGEST:GloD K mg "LONGEST" (.int 6)
 g_IN_SIGNS:GloD K mg "IN_SIGNS" (.str "abcdefghijklmnopqrstuvwxyz0123456789+-*/()[]=<>,;.!?^&")
 g_GREAT:GloD K mg "GREAT" (.str "ABCDEFGHIJKLMNOPQRSTUVWXYZ")
 g_SMALL_AND_FIGURES:GloD K mg "SMALL_AND_FIGURES" (.str "abcdefghijklmnopqrstuvwxyz0123456789")
 g_MOST_READ:GloD K mg "MOST_READ" (.int 40)
 d_roles:DctB P w K mg "ROLES_BY_FORM" rolesL
 m_NoRanks:mg "NoRanks"=some (.ref A.NoRanks)
 b_NoRanks:XBase K A.NoRanks
 m_NoRow:mg "NoRow"=some (.ref A.NoRow)
 b_NoRow:XBase K A.NoRow
 m_TableError:mg "TableError"=some (.ref A.TableError)
 b_TableError:XBase K A.TableError
 m_NoTree:mg "NoTree"=some (.ref A.NoTree)
 b_NoTree:XBase K A.NoTree
 cls:Cls K A.Grammar
 na_rules:NoAttr K A.Grammar "rules"
 na_ranks:NoAttr K A.Grammar "ranks"
 na_start:NoAttr K A.Grammar "start"
 c_Leaf:Cls K A.Leaf
 na_Leaf_sign:NoAttr K A.Leaf "sign"
 na_Leaf_tree_size:NoAttr K A.Leaf "tree_size"
 na_Leaf_tree_depth:NoAttr K A.Leaf "tree_depth"
 c_Node:Cls K A.Node
 na_Node_number:NoAttr K A.Node "number"
 na_Node_children:NoAttr K A.Node "children"
 na_Node_tree_size:NoAttr K A.Node "tree_size"
 na_Node_tree_depth:NoAttr K A.Node "tree_depth"
 c_Climber:Cls K A.Climber
 na_Climber_grammar:NoAttr K A.Climber "grammar"
 na_Climber_trees:NoAttr K A.Climber "trees"
 na_Climber_waiting:NoAttr K A.Climber "waiting"
 na_Climber_is_built:NoAttr K A.Climber "is_built"
 m_Tree:mg "Tree"=some (.ref A.Tree)
 x_found:XRead K "found" [A.NoRanks,A.NoRow]
 o_Tree:IsO K A.Tree [(A.Leaf,true)] []
 o_TableError:IsO K A.TableError [] [(A.NoRanks,true),(A.NoRow,true)]
 o_NoRow:IsO K A.NoRow [] [(A.NoRanks,false)]
 o_NoTree:IsO K A.NoTree [] [(A.NoRow,false)]
 o_ValueError:IsE K "ValueError" [(A.NoRow,true)]
 ne_rr:A.NoRanks≠A.NoRow
abbrev u2H:Stmt:=top 17
def u6V:FnScope ["thing"] ["thing"] (defScope u2H):=⟨rfl,rfl,rfl,by decide +kernel,rfl,by decide +kernel,by decide +kernel⟩
abbrev u1d:Stmt:=top 18
def u3k:FnScope ["thing"] ["thing"] (defScope u1d):=⟨rfl,rfl,rfl,by decide +kernel,rfl,by decide +kernel,by decide +kernel⟩
abbrev u1T:Stmt:=top 19
def u6X:FnScope ["text","allowed"] ["text","allowed"] (defScope u1T):=⟨rfl,rfl,rfl,by decide +kernel,rfl,by decide +kernel,by decide +kernel⟩
abbrev u3K:Stmt:=top 20
def u8L:FnScope ["thing"] ["thing"] (defScope u3K):=⟨rfl,rfl,rfl,by decide +kernel,rfl,by decide +kernel,by decide +kernel⟩
abbrev u3P:Stmt:=top 21
def u8Q:FnScope ["thing"] ["thing"] (defScope u3P):=⟨rfl,rfl,rfl,by decide +kernel,rfl,by decide +kernel,by decide +kernel⟩
abbrev u2e:Stmt:=top 22
def u5M:FnScope ["thing"] ["thing"] (defScope u2e):=⟨rfl,rfl,rfl,by decide +kernel,rfl,by decide +kernel,by decide +kernel⟩
abbrev u3y:Stmt:=top 23
def u9T:FnScope ["thing","most"] ["thing","most"] (defScope u3y):=⟨rfl,rfl,rfl,by decide +kernel,rfl,by decide +kernel,by decide +kernel⟩
abbrev u2E:Stmt:=top 24
def u6T:FnScope ["thing","most"] ["thing","most"] (defScope u2E):=⟨rfl,rfl,rfl,by decide +kernel,rfl,by decide +kernel,by decide +kernel⟩
abbrev u3O:Stmt:=top 33
def u8P:FnScope ["thing"] ["thing"] (defScope u3O):=⟨rfl,rfl,rfl,by decide +kernel,rfl,by decide +kernel,by decide +kernel⟩
abbrev u2u:Stmt:=top 34
def u8R:FnScope ["thing"] ["thing"] (defScope u2u):=⟨rfl,rfl,rfl,by decide +kernel,rfl,by decide +kernel,by decide +kernel⟩
abbrev u3M:Stmt:=top 35
def u8N:FnScope ["thing"] ["thing"] (defScope u3M):=⟨rfl,rfl,rfl,by decide +kernel,rfl,by decide +kernel,by decide +kernel⟩
abbrev u3L:Stmt:=top 36
def u8M:FnScope ["thing"] ["thing"] (defScope u3L):=⟨rfl,rfl,rfl,by decide +kernel,rfl,by decide +kernel,by decide +kernel⟩
abbrev u0N:Stmt:=top 37
def u3l:FnScope ["thing"] ["thing"] (defScope u0N):=⟨rfl,rfl,rfl,by decide +kernel,rfl,by decide +kernel,by decide +kernel⟩
abbrev u3N:Stmt:=top 38
def u8O:FnScope ["thing"] ["thing"] (defScope u3N):=⟨rfl,rfl,rfl,by decide +kernel,rfl,by decide +kernel,by decide +kernel⟩
abbrev u1S:Stmt:=top 39
def u6W:FnScope ["rules"] ["rules"] (defScope u1S):=⟨rfl,rfl,rfl,by decide +kernel,rfl,by decide +kernel,by decide +kernel⟩
abbrev u2D:Stmt:=top 40
def u1z:FnScope ["rules","found","rule","symbol"] ["rules"] (defScope u2D):=⟨rfl,rfl,rfl,by decide +kernel,rfl,by decide +kernel,by decide +kernel⟩
abbrev u1J:Stmt:=top 41
def u0X:FnScope ["rules","ahead","number","rule"] ["rules"] (defScope u1J):=⟨rfl,rfl,rfl,by decide +kernel,rfl,by decide +kernel,by decide +kernel⟩
abbrev u0L:Stmt:=top 42
def u0w:FnScope ["rules","known","rule","symbol"] ["rules"] (defScope u0L):=⟨rfl,rfl,rfl,by decide +kernel,rfl,by decide +kernel,by decide +kernel⟩
abbrev u0M:Stmt:=top 43
def u0K:FnScope ["rules","heads","signs"] ["rules"] (defScope u0M):=⟨rfl,rfl,rfl,by decide +kernel,rfl,by decide +kernel,by decide +kernel⟩
abbrev u1K:Stmt:=top 44
def u0Y:FnScope ["ranks","ahead","rank","sign"] ["ranks"] (defScope u1K):=⟨rfl,rfl,rfl,by decide +kernel,rfl,by decide +kernel,by decide +kernel⟩
abbrev u1R:Stmt:=top 54
def u6S:FnScope ["body"] ["body"] (defScope u1R):=⟨rfl,rfl,rfl,by decide +kernel,rfl,by decide +kernel,by decide +kernel⟩
abbrev u1Q:Stmt:=top 55
def u1y:FnScope ["grammar","told","number","rule"] ["grammar"] (defScope u1Q):=⟨rfl,rfl,rfl,by decide +kernel,rfl,by decide +kernel,by decide +kernel⟩
abbrev u0C:Stmt:=top 56
def u1I:FnScope ["grammar","spots"] ["grammar"] (defScope u0C):=⟨rfl,rfl,rfl,by decide +kernel,rfl,by decide +kernel,by decide +kernel⟩
abbrev u0V:Stmt:=top 57
def u2C:FnScope ["grammar"] ["grammar"] (defScope u0V):=⟨rfl,rfl,rfl,by decide +kernel,rfl,by decide +kernel,by decide +kernel⟩
abbrev u3Q:Stmt:=top 59
def u0Q:FnScope ["grammar","row","roles","sign","role","number","climber"] ["grammar","row"] (defScope u3Q):=⟨rfl,rfl,rfl,by decide +kernel,rfl,by decide +kernel,by decide +kernel⟩
abbrev u2G:Stmt:=top 61
def u6U:FnScope ["_law_script","_law_k"] ["_law_script","_law_k"] (defScope u2G):=⟨rfl,rfl,rfl,by decide +kernel,rfl,by decide +kernel,by decide +kernel⟩
abbrev u2F:Stmt:=top 62
def u2a:FnScope ["_law_cell_here","_law_k","_law_number"] ["_law_cell_here","_law_k"] (defScope u2F):=⟨rfl,rfl,rfl,by decide +kernel,rfl,by decide +kernel,by decide +kernel⟩
abbrev u3J:Stmt:=top 63
def u1b:FnScope ["_law_script","_law_at","_law_base","_law_count","_law_cell_here","_law_left","_law_found","_law_k"] ["_law_script","_law_at","_law_base","_law_count"] (defScope u3J):=⟨rfl,rfl,rfl,by decide +kernel,rfl,by decide +kernel,by decide +kernel⟩
abbrev u0p:Stmt:=top 64
def u0h:FnScope ["_law_script","_law_at","_law_some","_law_draws","_law_signs","_law_head","_law_ops","_law_rules","_law_draw","_law_ranks","_law_k","_law_level"] ["_law_script","_law_at"] (defScope u0p):=⟨rfl,rfl,rfl,by decide +kernel,rfl,by decide +kernel,by decide +kernel⟩
abbrev u2d:Stmt:=top 67
def u0E:FnScope ["_law_grammar","_law_thing","_law_found","e"] ["_law_grammar","_law_thing"] (defScope u2d):=⟨rfl,rfl,rfl,by decide +kernel,rfl,by decide +kernel,by decide +kernel⟩
abbrev u4o:Stmt:=top 68
def u2t:FnScope ["_law_script","_law_rules","_law_ranks","_law_grammar","_law_atom","_law_bad","_law_thing","_law_other","_law_some"] ["_law_script"] (defScope u4o):=⟨rfl,rfl,rfl,by decide +kernel,rfl,by decide +kernel,by decide +kernel⟩
abbrev u2f:Stmt:=meth 47 0
def u5N:FnScope ["self"] ["self"] (defScope u2f):=⟨rfl,rfl,rfl,by decide +kernel,rfl,by decide +kernel,by decide +kernel⟩
abbrev u1L:Stmt:=meth 47 1
def u5a:FnScope ["self"] ["self"] (defScope u1L):=⟨rfl,rfl,rfl,by decide +kernel,rfl,by decide +kernel,by decide +kernel⟩
abbrev u2g:Stmt:=meth 48 0
def u5O:FnScope ["self","sign"] ["self","sign"] (defScope u2g):=⟨rfl,rfl,rfl,by decide +kernel,rfl,by decide +kernel,by decide +kernel⟩
abbrev u0R:Stmt:=meth 49 0
def u3b:FnScope ["self","number","children","trees"] ["self","number","children"] (defScope u0R):=⟨rfl,rfl,rfl,by decide +kernel,rfl,by decide +kernel,by decide +kernel⟩
abbrev u1r:Stmt:=meth 58 0
def u3G:FnScope ["self","grammar"] ["self","grammar"] (defScope u1r):=⟨rfl,rfl,rfl,by decide +kernel,rfl,by decide +kernel,by decide +kernel⟩
abbrev u1g:Stmt:=meth 58 1
def u0J:FnScope ["self","number","body","backwards","symbol"] ["self","number"] (defScope u1g):=⟨rfl,rfl,rfl,by decide +kernel,rfl,by decide +kernel,by decide +kernel⟩
abbrev u1f:Stmt:=meth 58 7
def u3n:FnScope ["self","role","number"] ["self","role","number"] (defScope u1f):=⟨rfl,rfl,rfl,by decide +kernel,rfl,by decide +kernel,by decide +kernel⟩
abbrev u1e:Stmt:=meth 58 8
def u3m:FnScope ["self"] ["self"] (defScope u1e):=⟨rfl,rfl,rfl,by decide +kernel,rfl,by decide +kernel,by decide +kernel⟩
abbrev u3I:Stmt:=meth 45 1
def u8K:FnScope ["self"] ["self"] (defScope u3I):=⟨rfl,rfl,rfl,by decide +kernel,rfl,by decide +kernel,by decide +kernel⟩
abbrev u3H:Stmt:=meth 45 2
def u8J:FnScope ["self"] ["self"] (defScope u3H):=⟨rfl,rfl,rfl,by decide +kernel,rfl,by decide +kernel,by decide +kernel⟩
abbrev u2b:Stmt:=meth 45 7
def u1H:FnScope ["self","sign","place","rank"] ["self","sign"] (defScope u2b):=⟨rfl,rfl,rfl,by decide +kernel,rfl,by decide +kernel,by decide +kernel⟩
abbrev u1c:Stmt:=meth 45 4
def u3j:FnScope ["self","number"] ["self","number"] (defScope u1c):=⟨rfl,rfl,rfl,by decide +kernel,rfl,by decide +kernel,by decide +kernel⟩
abbrev u2c:Stmt:=meth 45 6
def u5L:FnScope ["self","number"] ["self","number"] (defScope u2c):=⟨rfl,rfl,rfl,by decide +kernel,rfl,by decide +kernel,by decide +kernel⟩
noncomputable def isStrD:D->Bool
 | .str _=>true
 | _=>false
noncomputable def isTupD:D->Bool
 | .tup _=>true
 | _=>false
noncomputable def isLstD:D->Bool
 | .lst _=>true
 | _=>false
def a_str {d:D} (h:selfD d=true):gIsA [d,.ty "str"]=.ok (.bl (isStrD d)):=by cases d<;>first|rfl|simp[selfD] at h
def a_tup {d:D} (h:selfD d=true):gIsA [d,.ty "tuple"]=.ok (.bl (isTupD d)):=by cases d<;>first|rfl|simp[selfD] at h
def a_lst {d:D} (h:selfD d=true):gIsA [d,.ty "list"]=.ok (.bl (isLstD d)):=by cases d<;>first|rfl|simp[selfD] at h
noncomputable def signT:Str:="abcdefghijklmnopqrstuvwxyz0123456789+-*/()[]=<>,;.!?^&"
noncomputable def greatT:Str:="ABCDEFGHIJKLMNOPQRSTUVWXYZ"
noncomputable def smallT:Str:="abcdefghijklmnopqrstuvwxyz0123456789"
@[simp] theorem fold_sign:Str.ofString "abcdefghijklmnopqrstuvwxyz0123456789+-*/()[]=<>,;.!?^&"=signT:=rfl
@[simp] theorem fold_great:Str.ofString "ABCDEFGHIJKLMNOPQRSTUVWXYZ"=greatT:=rfl
@[simp] theorem fold_small:Str.ofString "abcdefghijklmnopqrstuvwxyz0123456789"=smallT:=rfl
noncomputable def fstC (z:Str):Str:=⟨#[z.cps.getD 0 0]⟩
noncomputable def tailC (z:Str):Str:=Txt.slice z (some 1) none
noncomputable def onlyS (z a:Str):Bool:=z.cps.toList.all λc=>inS ⟨#[c]⟩ a
noncomputable def shortS (z:Str):Bool:=decide (1<=z.length)&&decide (z.length<=6)
noncomputable def sgnS (z:Str):Bool:=shortS z&&onlyS z signT
noncomputable def hdS (z:Str):Bool:=shortS z&&(inS (fstC z) greatT&&onlyS (tailC z) smallT)
noncomputable def sgnD:D->Bool
 | .str z=>sgnS z
 | _=>false
noncomputable def hdD:D->Bool
 | .str z=>hdS z
 | _=>false
noncomputable def shortD:D->Bool
 | .str z=>shortS z
 | _=>false
noncomputable def symD (d:D):Bool:=sgnD d||hdD d
noncomputable def pairD:D->Bool
 | .tup [_,_]=>true
 | _=>false
noncomputable def bodyD:D->Bool
 | .tup ds=>decide (ds.length<=4)&&ds.all symD
 | _=>false
noncomputable def ruleD:D->Bool
 | .tup [h,b]=>hdD h&&bodyD b
 | _=>false
noncomputable def goodS (z:Str):Bool:=PyData.strOk z&&decide (z.length<=1000)
mutual
noncomputable def goodD:D->Bool
 | .non | .bl _ | .int _=>true
 | .str z=>goodS z
 | .lst ds | .tup ds=>goodDs ds
 | .dct ps=>ps.isEmpty
 | _=>false
noncomputable def goodDs:List D->Bool
 | []=>true
 | d::ds=>goodD d&&goodDs ds
end
mutual
theorem u0U:∀{d:D},goodD d=true->selfD d=true
 | .non,_ | .bl _,_ | .int _,_ | .str _,_=>rfl
 | .lst ds,h=>u2R (ds:=ds) h
 | .tup ds,h=>u2R (ds:=ds) h
 | .dct ps,h=>h
 | .ty _,h=>by simp[goodD] at h
 | .ins _ _,h=>by simp[goodD] at h
 | .exc _ _,h=>by simp[goodD] at h
 | .dn _ _,h=>by simp[goodD] at h
 | .hdl _,h=>by simp[goodD] at h
theorem u2R:∀{ds:List D},goodDs ds=true->selfDs ds=true
 | [],_=>rfl
 | d::ds,h=>by
  have h:=z1F.mp h;exact z1F.mpr ⟨u0U h.1,u2R h.2⟩
end
theorem u5o:∀{ds:List D},goodDs ds=true->∀d∈ds,goodD d=true
 | [],_,d,h=>(r6 h).elim
 | x::ds,hs,d,h=>by
  have hs:=z1F.mp hs;rcases y7.mp h with rfl|h
  ·exact hs.1
  ·exact u5o hs.2 d h
theorem u7r:∀{ds:List D},(∀d∈ds,goodD d=true)->goodDs ds=true
 | [],_=>rfl
 | x::ds,h=>z1F.mpr ⟨h x z8,u7r λd k=>h d (y1 _ k)⟩
def v3c {ds:List D} (h:goodD (.lst ds)=true):∀d∈ds,goodD d=true:=u5o (by simpa[goodD] using h)
def u1V {ds:List D} (h:goodD (.tup ds)=true):∀d∈ds,goodD d=true:=u5o (by simpa[goodD] using h)
def P1 (p:D->Bool) (G:FD):Prop:=∀d,goodD d=true->G [d]=.ok (.bl (p d))
theorem u1O {α:Type} (p:α->Bool):∀l:List α,blsOf (l.map λd=>D.bl (p d))=some (l.map p)
 | []=>rfl
 | x::l=>by simp[blsOf,u1O p l]
def v1y (z:Str):(chars z).length=z.length:=by unfold chars;rw[v8,z0H];rfl
def u0q {n:Nat} (h:n<=1000):n<=sizeLine:=v7 h (by decide)
def u7F {z:Str} (h:shortS z=true):z.length<=6:=by
 unfold shortS at h;simp at h;exact h.2
@[simp] theorem v3g {α:Type} (p:α->Bool) (l:List α):gAll [.lst (l.map λd=>D.bl (p d))]=.ok (.bl (l.all p)):=by
 show(match blsOf (l.map λd=>D.bl (p d)) with|some bs=>Res.ok (D.bl (bs.all id))|none=>.bad)=_
 rw[u1O];simp[List.all_map,Function.comp_def]
noncomputable def chIn (a:Str):D->Bool
 | .str c=>inS c a
 | _=>false
def v1E (z a:Str):((chars z).all λd=>chIn a d)=onlyS z a:=by
 unfold chars onlyS;rw[List.all_map];rfl
def v1w (z:Str):z.cps.toList.length=z.length:=by rw[z0H];rfl
def ix0 {z:Str} (c:shortS z=true):dIx (.str z) (.int 0)=.ok (.str (fstC z)):=by
 have h:0<z.length:=by unfold shortS at c;simp at c;omega
 have e:atI z.cps.toList 0=some (z.cps.getD 0 0):=by
  have:=u7A (xs:=z.cps.toList) (j:=0) (v:=z.cps.getD 0 0) (by
   have h':0<z.cps.size:=h;rw[z1H];simp[Array.getD,h'])
  exact this
 show(match atI z.cps.toList 0 with|some c=>Res.ok (D.str ⟨#[c]⟩)|none=>.bad)=_
 rw[e];rfl
def sl1 (z:Str):dSl (.str z) (some 1) none=.ok (.str (tailC z)):=rfl
def u9L (z:Str):(tailC z).length<=z.length:=by
 unfold tailC;rw[<- v1w,<- v1w,u8G,z2I];omega
noncomputable def sideD:D->Bool
 | .str z=>z=="left"||(z=="right"||z=="none")
 | _=>false
noncomputable def rsgD:D->Bool
 | .tup ds=>decide (1<=ds.length)&&(decide (ds.length<=10)&&ds.all sgnD)
 | _=>false
noncomputable def rankD:D->Bool
 | .tup [s,b]=>sideD s&&rsgD b
 | _=>false
def v3b {z:Str} (h:goodD (.str z)=true):PyData.strOk z=true/\z.length<=1000:=by simpa[goodD,goodS] using h
def u1u {z:Str} (h:PyData.strOk z=true):cmpD (.str z)=.ok (.str z):=by
 have:SeqAt.shaped (.str z)=true:=by simp[SeqAt.shaped,PyData.canLay0,h,PyData.depth]
 simp[cmpD,D.py,this]
def u7t (a b:Str):PyData.eqv (.str a) (.str b)=(a==b):=rfl
def v1R (a b:Str):(a==b)=(b==a):=by
 rw[z2E];simp only[beq_iff_eq];exact eq_comm
def v2Z {z:Str} (h:PyData.strOk z=true):dIn (.str z) (.tup [.str "left",.str "right",.str "none"])=.ok (.bl (sideD (.str z))):=by
 have e1:cmpD (.str "left")=.ok (.str "left"):=u1u (by decide +kernel)
 have e2:cmpD (.str "right")=.ok (.str "right"):=u1u (by decide +kernel)
 have e3:cmpD (.str "none")=.ok (.str "none"):=u1u (by decide +kernel)
 show inD (.str z) _ false=_;simp[inD,cmpDs,u1u h,e1,e2,e3,sideD,u7t,v1R z]
@[simp] theorem len_strK (z:Str):gLen [.str z]=.ok (.int z.length):=rfl
@[simp] theorem len_tup (ds:List D):gLen [.tup ds]=.ok (.int ds.length):=rfl
@[simp] theorem len_lst (ds:List D):gLen [.lst ds]=.ok (.int ds.length):=rfl
def v3J (i j:Int):dEq (.int i) (.int j)=.ok (.bl (i==j)):=rfl
def ix_tn {ds:List D}{i:Nat}{d:D} (h:ds[i]?=some d):dIx (.tup ds) (.int i)=.ok d:=by
 show(match atI ds i with|some d=>Res.ok d|none=>.bad)=_
 rw[u7A h]
def u7p {ds:List D}{i:Nat}{d:D} (h:ds[i]?=some d):dIx (.lst ds) (.int i)=.ok d:=by
 show(match atI ds i with|some d=>Res.ok d|none=>.bad)=_
 rw[u7A h]
def ix_0 (x:D) (l:List D):dIx (.tup (x::l)) (.int 0)=.ok x:=ix_tn (i:=0) rfl
def ix_1 (x y:D) (l:List D):dIx (.tup (x::y::l)) (.int 1)=.ok y:=ix_tn (i:=1) rfl
def ixl_0 (x:D) (l:List D):dIx (.lst (x::l)) (.int 0)=.ok x:=u7p (i:=0) rfl
def u7m (ds:List D):dNeX (.lst ds) (.lst [])=.ok (.bl (!ds.isEmpty)):=by
 cases ds with
 | nil=>rfl
 | cons x l =>
  unfold dNeX;rw[if_pos (by simp[lenNe])]
  rfl
section
variable {P:Program}{w:World}{K:W.Frag}{mg:MG}{base:Heap}{f:Addr}{fd:FuncData}{A:Adr}
set_option tactic.hygienic true in
def u3p (F:Fun K "is_short_text" "is_short_text" u1d f fd) (T:Txt P w K mg A):∃G,FnOk P w K mg base CX0 1 f fd ["thing"] (spF K G)/\P1 shortD G:=by
 refine⟨_,F.okT (k:=0) u3k (λcdv Ar outer s H E hr=>u0e (u0o (u1t (d_B u4u T.z_isinstance (by decide +kernel) (u0a (dv 0) (u0a (d_ty T.z_str (T:="str") (by decide +kernel)) u0b))) (u2q (v1t o_le o_le u0g (d_B u1G T.z_len (by decide +kernel) (u0a (dv 0) u0b)) (u3u T.g_LONGEST)))))),?_⟩
 intro d h;simp[runT,startD,a_str (u0U h)];cases d<;>simp[isStrD,shortD,gLen]
 rename_i z;unfold shortS;by_cases c:1<=z.length
 ·have c':(1:Int)<=z.length:=by omega
  simp[c,c'];omega
 ·have c':¬ (1:Int)<=z.length:=by omega
  simp[c,c']
def u7j (F:Fun K "has_only" "has_only" u1T f fd) (T:Txt P w K mg A):∃G,FnOk P w K mg base CX0 1 f fd ["text","allowed"] (spF K G)/\∀z a,z.length<=1000->G [.str z,.str a]=.ok (.bl (onlyS z a)):=by
 refine⟨_,F.okT (k:=0) u6X (λcdv Ar outer s H E hr=>u0e (u0o (d_B (v1B rfl) T.z_all (by decide +kernel) (u0a (DN.de (u0I ["mark"] [1] rfl (u0l (sc:=defScope u1T) (N:=["text","allowed"]) (by decide +kernel)) (u0B (dv 0)) (dg_n (show(["mark","allowed"]:List Str).Nodup by decide +kernel)) u1k (u2y (o_in (hu100 hr)) (dv 0) (dv 1)))) u0b)))),?_⟩
 intro z a hz;simp[runT,startD];rw[show items (.str z)=.ok (chars z) from rfl,Res.bind_ok,u0r (by rw[v1y];exact u0q hz),u1l (λd=>D.bl (chIn a d)) (λd hd=>?_)]
 ·simp only[Res.bind_ok,u3h,v3g,u0S,go_ok,outR_rt,v1E]
 ·obtain ⟨c,_,rfl⟩:=z0C.mp hd
  refine⟨_,rfl,rfl,?_⟩;simp[rhoC];rfl
set_option tactic.hygienic true in
def u8W {a0c:FD} (a0k:Callee P w K mg base 1 "is_short_text" ["thing"] (spF K a0c)) {a0t:FD} (a1i:Callee P w K mg base 1 "has_only" ["text","allowed"] (spF K a0t)) (a2q:P1 shortD a0c) (a3c:∀z a,z.length<=1000->a0t [.str z,.str a]=.ok (.bl (onlyS z a))) (F:Fun K "is_sign" "is_sign" u3K f fd) (T:Txt P w K mg A):∃G,FnOk P w K mg base CX0 2 f fd ["thing"] (spF K G)/\P1 sgnD G:=by
 refine⟨_,F.okT (k:=1) u8L (λcdv Ar outer s H E hr=>u0e (u0o (u1t (d_fn a0k hr (u0a (dv 0) u0b)) (u2q (d_fn a1i hr (u0a (dv 0) (u0a (u3u T.g_IN_SIGNS) u0b))))))),?_⟩
 intro d h;simp[runT,startD,a2q d h];cases d<;>simp[shortD,sgnD,sgnS]
 rename_i z;by_cases c:shortS z=true
 ·simp[c,a3c z _ (by have:=u7F c;omega)]
 ·simp[c]
set_option tactic.hygienic true in
def u9b {a0c:FD} (a0k:Callee P w K mg base 1 "is_short_text" ["thing"] (spF K a0c)) {a0t:FD} (a1i:Callee P w K mg base 1 "has_only" ["text","allowed"] (spF K a0t)) (a2q:P1 shortD a0c) (a3c:∀z a,z.length<=1000->a0t [.str z,.str a]=.ok (.bl (onlyS z a))) (F:Fun K "is_head" "is_head" u3P f fd) (T:Txt P w K mg A):∃G,FnOk P w K mg base CX0 2 f fd ["thing"] (spF K G)/\P1 hdD G:=by
 refine⟨_,F.okT (k:=1) u8Q (λcdv Ar outer s H E hr=>u0e (u0o (u1t (d_fn a0k hr (u0a (dv 0) u0b)) (u1t (u2y (o_in (hu100 hr)) (d_ix x_ix (dv 0) u0g) (u3u T.g_GREAT)) (u2q (d_fn a1i hr (u0a (d_sl (dv 0) (u2W u0g) v1m) (u0a (u3u T.g_SMALL_AND_FIGURES) u0b)))))))),?_⟩
 intro d h;simp[runT,startD,a2q d h];cases d<;>simp[shortD,hdD,hdS]
 rename_i z;by_cases c:shortS z=true
 ·have e2:(tailC z).length<=1000:=by
   have:=u9L z
   have:=u7F c
   omega
  simp[c,ix0 c,asI,sl1,dIn,dInG,a3c _ smallT e2];by_cases k:inS (fstC z) greatT=true<;>simp[k]
 ·simp[c]
def u5U {a0b:FD} (a0g:Callee P w K mg base 2 "is_sign" ["thing"] (spF K a0b)) {a0a:FD} (a0h:Callee P w K mg base 2 "is_head" ["thing"] (spF K a0a)) (a0f:P1 sgnD a0b) (a0d:P1 hdD a0a) (F:Fun K "is_symbol" "is_symbol" u2e f fd) (T:Txt P w K mg A):∃G,FnOk P w K mg base CX0 3 f fd ["thing"] (spF K G)/\P1 symD G:=by
 refine⟨_,F.okT (k:=2) u5M (λcdv Ar outer s H E hr=>u0e (u0o (d_or (d_fn a0g hr (u0a (dv 0) u0b)) (u2q (d_fn a0h hr (u0a (dv 0) u0b)))))),?_⟩
 intro d h;simp[runT,startD,a0f d h,a0d d h,symD];by_cases c:sgnD d=true<;>simp[c]
set_option tactic.hygienic true in
def u9a (F:Fun K "is_pair" "is_pair" u3O f fd) (T:Txt P w K mg A):∃G,FnOk P w K mg base CX0 1 f fd ["thing"] (spF K G)/\P1 pairD G:=by
 refine⟨_,F.okT (k:=0) u8P (λcdv Ar outer s H E hr=>u0e (u0o (u1t (d_B u4u T.z_isinstance (by decide +kernel) (u0a (dv 0) (u0a (d_ty T.z_tuple (T:="tuple") (by decide +kernel)) u0b))) (u2q (u2y (o_eq (hu64 hr)) (d_B u1G T.z_len (by decide +kernel) (u0a (dv 0) u0b)) u0g))))),?_⟩
 intro d h;simp[runT,startD,a_tup (u0U h)];cases d<;>simp[isTupD,pairD,gLen]
 rename_i ds;rw[v3J]
 match ds with
 | []=>rfl
 | [_]=>rfl
 | [_,_]=>rfl
 | _::_::_::l=>simp[pairD];omega
set_option tactic.hygienic true in
def u9c {a1x:FD} (a2v:Callee P w K mg base 3 "is_symbol" ["thing"] (spF K a1x)) (a2t:P1 symD a1x) (F:Fun K "is_body" "is_body" u2u f fd) (T:Txt P w K mg A):∃G,FnOk P w K mg base CX0 4 f fd ["thing"] (spF K G)/\P1 bodyD G:=by
 refine⟨_,F.okT (k:=3) u8R (λcdv Ar outer s H E hr=>u0e (u0o (u1t (d_B u4u T.z_isinstance (by decide +kernel) (u0a (dv 0) (u0a (d_ty T.z_tuple (T:="tuple") (by decide +kernel)) u0b))) (u1t (u2y o_le (d_B u1G T.z_len (by decide +kernel) (u0a (dv 0) u0b)) (u3u T.g_MOST_IN_BODY)) (u2q (d_B (v1B rfl) T.z_all (by decide +kernel) (u0a (DN.de (u0I ["part"] [] rfl (u0l (sc:=defScope u2u) (N:=["thing"]) (by decide +kernel)) (u0B (dv 0)) (dg_n (show(["part"]:List Str).Nodup by decide +kernel)) u1k (d_fn a2v hr (u0a (dv 0) u0b)))) u0b))))))),?_⟩
 intro d h;simp[runT,startD,a_tup (u0U h)];cases d<;>simp[isTupD,bodyD,gLen]
 rename_i ds;by_cases c:ds.length<=4
 ·have c':(ds.length:Int)<=4:=by omega
  simp[c,c'];rw[show items (.tup ds)=.ok ds from rfl,Res.bind_ok,u0r (u0q (by omega)),u1l (λd=>D.bl (symD d)) (λd hd=>?_)]
  ·simp
  ·exact⟨_,rfl,rfl,by simp[rhoC,a2t d (u1V h d hd)]⟩
 ·have c':¬ (ds.length:Int)<=4:=by omega
  simp[c,c']
set_option tactic.hygienic true in
def u8Y {a1a:FD} (a1u:Callee P w K mg base 1 "is_pair" ["thing"] (spF K a1a)) {a0a:FD} (a0h:Callee P w K mg base 2 "is_head" ["thing"] (spF K a0a)) {a2n:FD} (a3k:Callee P w K mg base 4 "is_body" ["thing"] (spF K a2n)) (a1q:P1 pairD a1a) (a0d:P1 hdD a0a) (a3g:P1 bodyD a2n) (F:Fun K "is_rule" "is_rule" u3M f fd) (T:Txt P w K mg A):∃G,FnOk P w K mg base CX0 5 f fd ["thing"] (spF K G)/\P1 ruleD G:=by
 refine⟨_,F.okT (k:=4) u8N (λcdv Ar outer s H E hr=>u0e (u0o (u1t (d_fn a1u hr (u0a (dv 0) u0b)) (u1t (d_fn a0h hr (u0a (d_ix x_ix (dv 0) u0g) u0b)) (u2q (d_fn a3k hr (u0a (d_ix x_ix (dv 0) u0g) u0b))))))),?_⟩
 intro d h;simp[runT,startD,a1q d h];cases d<;>simp[pairD,ruleD]
 rename_i ds
 match ds,h with
 | [],_=>simp[pairD,ruleD]
 | [_],_=>simp[pairD,ruleD]
 | _::_::_::_,_=>simp[pairD,ruleD]
 | [x,y],h =>
  have h1:=a0d x (u1V h x (by simp))
  have h2:=a3g y (u1V h y (by simp))
  simp[pairD,ruleD,ix_0,ix_1,h1,h2];by_cases c:hdD x=true<;>simp[c]
set_option tactic.hygienic true in
def u8X (F:Fun K "is_side" "is_side" u3L f fd) (T:Txt P w K mg A):∃G,FnOk P w K mg base CX0 1 f fd ["thing"] (spF K G)/\P1 sideD G:=by
 refine⟨_,F.okT (k:=0) u8M (λcdv Ar outer s H E hr=>u0e (u0o (u1t (d_B u4u T.z_isinstance (by decide +kernel) (u0a (dv 0) (u0a (d_ty T.z_str (T:="str") (by decide +kernel)) u0b))) (u2q (u2y (o_in (hu100 hr)) (dv 0) (u3u T.g_SIDES)))))),?_⟩
 intro d h;simp[runT,startD,a_str (u0U h)];cases d<;>simp[isStrD]
 case str z=>rw[v2Z (v3b h).1];simp
 all_goals rfl
set_option tactic.hygienic true in
def u3q {a0b:FD} (a0g:Callee P w K mg base 2 "is_sign" ["thing"] (spF K a0b)) (a0f:P1 sgnD a0b) (F:Fun K "is_rank_signs" "is_rank_signs" u0N f fd) (T:Txt P w K mg A):∃G,FnOk P w K mg base CX0 3 f fd ["thing"] (spF K G)/\P1 rsgD G:=by
 refine⟨_,F.okT (k:=2) u3l (λcdv Ar outer s H E hr=>u0e (u0o (u1t (d_B u4u T.z_isinstance (by decide +kernel) (u0a (dv 0) (u0a (d_ty T.z_tuple (T:="tuple") (by decide +kernel)) u0b))) (u1t (v1t o_le o_le u0g (d_B u1G T.z_len (by decide +kernel) (u0a (dv 0) u0b)) (u3u T.g_MOST_IN_RANK)) (u2q (d_B (v1B rfl) T.z_all (by decide +kernel) (u0a (DN.de (u0I ["part"] [] rfl (u0l (sc:=defScope u0N) (N:=["thing"]) (by decide +kernel)) (u0B (dv 0)) (dg_n (show(["part"]:List Str).Nodup by decide +kernel)) u1k (d_fn a0g hr (u0a (dv 0) u0b)))) u0b))))))),?_⟩
 intro d h;simp[runT,startD,a_tup (u0U h)];cases d<;>simp[isTupD,rsgD,gLen]
 rename_i ds;by_cases c0:1<=ds.length
 ·have c0':(1:Int)<=ds.length:=by omega
  by_cases c:ds.length<=10
  ·have c':(ds.length:Int)<=10:=by omega
   simp[c,c',c0,c0'];rw[show items (.tup ds)=.ok ds from rfl,Res.bind_ok,u0r (u0q (by omega)),u1l (λd=>D.bl (sgnD d)) (λd hd=>?_)]
   ·simp
   ·exact⟨_,rfl,rfl,by simp[rhoC,a0f d (u1V h d hd)]⟩
  ·have c':¬ (ds.length:Int)<=10:=by omega
   simp[c,c',c0,c0']
 ·have c0':¬ (1:Int)<=ds.length:=by omega
  simp[c0,c0']
set_option tactic.hygienic true in
def u8Z {a1a:FD} (a1u:Callee P w K mg base 1 "is_pair" ["thing"] (spF K a1a)) {a2k:FD} (a3h:Callee P w K mg base 1 "is_side" ["thing"] (spF K a2k)) {a0z:FD} (a1t:Callee P w K mg base 3 "is_rank_signs" ["thing"] (spF K a0z)) (a1q:P1 pairD a1a) (a3d:P1 sideD a2k) (a1p:P1 rsgD a0z) (F:Fun K "is_rank" "is_rank" u3N f fd) (T:Txt P w K mg A):∃G,FnOk P w K mg base CX0 4 f fd ["thing"] (spF K G)/\P1 rankD G:=by
 refine⟨_,F.okT (k:=3) u8O (λcdv Ar outer s H E hr=>u0e (u0o (u1t (d_fn a1u hr (u0a (dv 0) u0b)) (u1t (d_fn a3h hr (u0a (d_ix x_ix (dv 0) u0g) u0b)) (u2q (d_fn a1t hr (u0a (d_ix x_ix (dv 0) u0g) u0b))))))),?_⟩
 intro d h;simp[runT,startD,a1q d h];cases d<;>simp[pairD,rankD]
 rename_i ds
 match ds,h with
 | [],_=>simp[pairD,rankD]
 | [_],_=>simp[pairD,rankD]
 | _::_::_::_,_=>simp[pairD,rankD]
 | [x,y],h =>
  have h1:=a3d x (u1V h x (by simp))
  have h2:=a1p y (u1V h y (by simp))
  simp[pairD,rankD,ix_0,ix_1,h1,h2];by_cases c:sideD x=true<;>simp[c]
end
abbrev RR:=Str×List Str
noncomputable def rT (p:RR):D:=.tup [.str p.1,.tup (p.2.map D.str)]
theorem u4w:∀ss:List Str,strsOf (ss.map D.str)=some ss
 | []=>rfl
 | z::ss=>by simp[strsOf,u4w ss]
structure OkR (p:RR):Prop where
 h:hdS p.1=true
 l:p.2.length<=4
 s:∀b∈p.2,(sgnS b||hdS b)=true
 gh:goodS p.1=true
 gs:∀b∈p.2,goodS b=true
def ok_rule {p:RR} (o:OkR p):ruleD (rT p)=true:=by
 obtain⟨z,ss⟩:=p;simp only[rT,ruleD,hdD,bodyD,z0A,v8,decide_eq_true_eq,List.all_map,z2C];exact⟨o.h,o.l,λb hb=>o.s b hb⟩
noncomputable def pyR (p:RR):PyData:=.tuple [.str p.1,.tuple (p.2.map PyData.str)]
theorem u7T:∀{ss:List Str},(∀b∈ss,goodS b=true)->PyData.canLayAll0 (ss.map PyData.str)=true
 | [],_=>rfl
 | z::ss,h=>by
  have h1:=h z z8;have h2:=u7T λb hb=>h b (y1 _ hb)
  simp[goodS] at h1;simp[PyData.canLayAll0,PyData.canLay0,h1.1,h2]
theorem u8s:∀ss:List Str,PyData.depthAll (ss.map PyData.str)<=1
 | []=>by simp[PyData.depthAll]
 | z::ss=>by
  have:=u8s ss
  simp[PyData.depthAll,PyData.depth];omega
@[simp] theorem u3B {α:Type}{ds:List D}{k:Res α} (h:ds.length<=1000):szD ds k=k:=szD_pos (u0q h)
def v1g (k:Nat) (d:D) (ds:List D):(((d::ds).zipIdx k).map λp=>D.tup [.int (p.2:Nat),p.1])=.tup [.int (k:Nat),d]::((ds.zipIdx (k+1)).map λp=>D.tup [.int (p.2:Nat),p.1]):=rfl
noncomputable def isStop:Out->Bool
 | .rt _=>true
 | .er _ _=>true
 | _=>false
def StepOk {α β γ:Type} (S:α->List γ->Rho->Prop) (go:α->List γ->β) (Q:β->Out->Prop) (a:α) (d:γ) (ds:List γ) (o:Out):Prop :=
 (∃a' ρ2,(o=.nx ρ2\/o=.ct ρ2)/\S a' ds ρ2/\go a (d::ds)=go a' ds)\/(isStop o=true/\Q (go a (d::ds)) o)
def u6J {α β γ:Type}{S:α->List γ->Rho->Prop}{go:α->List γ->β}{Q:β->Out->Prop}{a:α}{d:γ}{ds:List γ}{ρ:Rho} (a':α) (h:S a' ds ρ) (e:go a (d::ds)=go a' ds):StepOk S go Q a d ds (.nx ρ):=.inl ⟨a',ρ,.inl rfl,h,e⟩
theorem u2T {α β γ:Type}{g:D->Rho->Res Rho}{tb:Rho->Out} (c:γ->D) (S:α->List γ->Rho->Prop) (go:α->List γ->β) (Q:β->Out->Prop) (nil:∀a ρ,S a [] ρ->Q (go a []) (.nx ρ))
  (cons:∀a d ds ρ,S a (d::ds) ρ->∃ρ1,g (c d) ρ=.ok ρ1/\StepOk S go Q a d ds (tb ρ1)) :
  ∀ds a ρ,S a ds ρ->Q (go a ds) (forD g tb (ds.map c) ρ)
 | [],a,ρ,h=>nil a ρ h
 | d::ds,a,ρ,h=>by
  obtain⟨ρ1,e,k⟩:=cons a d ds ρ h;simp only[u9,forD,e,u0S,go_ok];rcases k with⟨a',ρ2,k1,k2,k3⟩|⟨k1,k2⟩
  ·rw [k3]
   rcases k1 with k1|k1<;>rw[k1]<;>exact u2T c S go Q nil cons ds a' ρ2 k2
  ·generalize tb ρ1=o at k1 k2 |-
   cases o<;>first|exact k2|cases k1
noncomputable def keyR (p:RR):List DK:=[.s p.1,.t (p.2.map DK.s)]
theorem u8p:∀ss:List Str,dksOf (ss.map D.str)=some (ss.map DK.s)
 | []=>rfl
 | z::ss=>by simp[dksOf,dkOf,u8p ss]
theorem v3O:∀ss:List Str,DK.pys (ss.map DK.s)=ss.map PyData.str
 | []=>rfl
 | z::ss=>by simp[DK.pys,DK.py,v3O ss]
theorem v1o:∀ss:List Str,DK.deps (ss.map DK.s)=0
 | []=>rfl
 | z::ss=>by simp[DK.deps,DK.dep,v1o ss]
def v2B {p:RR} (o:OkR p):okK (keyR p)=true:=by
 have e:(DK.t (keyR p)).py=pyR p:=by simp[keyR,DK.py,DK.pys,v3O,pyR]
 have d:=u8s p.2;have h1:=o.gh;simp[goodS] at h1;unfold okK;rw[e];have s:SeqAt.shaped (pyR p)=true:=by
  simp[SeqAt.shaped,pyR,PyData.canLay0,PyData.canLayAll0,h1.1,u7T o.gs,PyData.depth,PyData.depthAll];omega
 simp[s,keyR,DK.dep,DK.deps,v1o]
def u7V {p:RR} (o:OkR p):keyOf (rT p)=.ok (keyR p):=by
 have e:dksOf [D.str p.1,.tup (p.2.map D.str)]=some (keyR p):=by simp[dksOf,dkOf,u8p,keyR]
 show(match dksOf [D.str p.1,.tup (p.2.map D.str)] with|some ks=>gd (okK ks=true) (.ok ks)|none=>.bad)=_
 rw[e];simp[v2B o]
def u7W {p q:RR} (h:keyR p=keyR q):p=q:=by
 obtain⟨a,as⟩:=p;obtain⟨b,bs⟩:=q;simp only[keyR,List.cons.injEq,DK.s.injEq,DK.t.injEq,and_true] at h;obtain⟨rfl,h⟩:=h
 have:∀as bs:List Str,as.map DK.s=bs.map DK.s->as=bs:=by
  intro as;induction as with
  | nil=>intro bs h;cases bs with|nil=>rfl|cons _ _=>cases h
  | cons x as ih =>
   intro bs h;cases bs with
   | nil=>cases h
   | cons y bs =>
    simp only[u9,List.cons.injEq,DK.s.injEq] at h;rw[h.1,ih bs h.2]
 rw[this as bs h]
def in_keys {w:World}{p:RR}{rs:List RR}{kvs:List (List DK×D)} (o:OkR p) (e:kvs.map (·.1)=rs.map keyR):dInA w false (rT p) (.dn (hashW w) kvs)=.ok (.bl (decide (p∈rs))):=by
 have q:dInA w false (rT p) (.dn (hashW w) kvs)=inN w false (rT p) (hashW w) kvs:=by
  unfold dInA;exact v1v w false _ _ _
 rw[q];unfold inN;rw[u7V o,Res.bind_ok,if_pos rfl,e]
 have:(keyR p∈rs.map keyR)↔p∈rs:=by
  rw[z0C];exact⟨λz9141=>by obtain⟨q,hq,e⟩:=z9141;exact u7W e ▸ hq,λh=>⟨p,h,rfl⟩⟩
 simp[this]
def put_key {w:World}{p:RR}{kvs:List (List DK×D)}{fi:Rho->Res D}{fv:Rho->Res D}{ρ:Rho} (o:OkR p) (hl:kvs.length<=100) (hv:fv ρ=.ok (.bl true)) (hi:fi ρ=.ok (rT p)) (hg:getN ρ 1=.ok (hashW w,kvs)) :
  fPutN w 1 fi fv ρ=.nx (ρ.set 1 (some (.own (.n (hashW w) (putN kvs (keyR p) (.bl true)))))):=by
 unfold fPutN;rw[hv,go_ok,hg,go_ok,hi,go_ok,u7V o,go_ok,if_pos ⟨rfl,Nat.lt_of_le_of_lt hl (by decide)⟩]
def v2U {p:RR}{rs:List RR}{kvs:List (List DK×D)}{d:D} (e:kvs.map (·.1)=rs.map keyR) (n:¬ p∈rs):(putN kvs (keyR p) d).map (·.1)=(rs++[p]).map keyR:=by
 unfold putN
 have:¬ keyR p∈kvs.map (·.1):=by
  rw[e,z0C];exact λ⟨q,hq,z⟩=>n (u7W z ▸ hq)
 rw[if_neg this,z0J,z0J,e];rfl
@[simp] theorem items_lst (ds:List D):items (.lst ds)=.ok ds:=rfl
@[simp] theorem items_tup (ds:List D):items (.tup ds)=.ok ds:=rfl
theorem u6v:∀{hs:List Str},(∀b∈hs,goodS b=true)->cmpDs (hs.map D.str)=.ok (hs.map PyData.str)
 | [],_=>rfl
 | z::hs,h=>by
  have h1:=h z z8;simp[goodS] at h1;simp[cmpDs,u1u h1.1,u6v λb hb=>h b (y1 _ hb)]
def v0R {z:Str}{hs:List Str} (g:goodS z=true) (gs:∀b∈hs,goodS b=true) (neg:Bool):inD (.str z) (hs.map D.str) neg=.ok (.bl (if neg=true then !decide (z∈hs) else decide (z∈hs))):=by
 simp[goodS] at g;have e:((hs.map PyData.str).any λb=>PyData.eqv b (.str z))=decide (z∈hs):=by
  rw[List.any_map,z2E,List.any_eq_true,decide_eq_true_eq];constructor
  ·rintro ⟨q,hq,e⟩
   simp only[Function.comp,u7t,beq_iff_eq] at e;rw[<- e];exact hq
  ·intro h
   exact⟨z,h,by simp only[Function.comp,u7t,beq_iff_eq]⟩
 simp only[inD,u1u g.1,u6v gs,Res.bind_ok,e]
def u4H {z:Str}{hs:List Str} (g:goodS z=true) (gs:∀b∈hs,goodS b=true):dNotIn (.str z) (.lst (hs.map D.str))=.ok (.bl (!decide (z∈hs))):=by
 rw[show dNotIn (.str z) (.lst (hs.map D.str))=inD (.str z) (hs.map D.str) true from u7y true _ _,v0R g gs]
 rfl
noncomputable def hsOf (rs:List RR):List Str:=rs.map (·.1)
noncomputable def headsL (rs:List RR):List Str:=sortT (setOfT (hsOf rs))
noncomputable def addSg (ss:List Str) (b:Str):List Str:=if sgnS b=true then addT ss b else ss
noncomputable def sgL (ss:List Str) (rs:List RR):List Str:=rs.foldl (λss p=>p.2.foldl addSg ss) ss
def u9p {rs:List RR} (h:∀p∈rs,OkR p):∀b∈headsL rs,goodS b=true:=λb hb=>by
 obtain⟨p,hp,rfl⟩:=z0C.mp (u0P.mp (u2s.mp hb));exact(h p hp).gh
noncomputable def hd1:D->D
 | .tup (.str h::_)=>.str h
 | _=>.non
def hd1_map (rs:List RR):((rs.map rT).map hd1)=(hsOf rs).map D.str:=by
 unfold hsOf;rw[z1C,z1C];rfl
@[simp] theorem v3e {ss:List Str} (h:ss.length<64):gSS (.lst (ss.map D.str))=.ok (.lst ((sortT (setOfT ss)).map D.str)):=by
 show(match strsOf (ss.map D.str) with|some ss=>gd (ss.length<64) (Res.ok (D.lst ((sortT (setOfT ss)).map D.str)))|none=>.bad)=_
 rw[u4w];simp[h]
def u7u (z b:Str):eqK (.str z) (.inr b)=decide (z=b):=by
 have:=u4P (.inr z) (.inr b)
 rw[show kD (.inr z)=D.str z from rfl] at this
 rw[this];by_cases c:z=b<;>simp[c]
theorem u5y {b:Str}:∀{ps:List (D×D)}{ss:List Str},ps.map (·.1)=ss.map D.str->ps.any (λp=>eqK p.1 (.inr b))=decide (b∈ss)
 | [],[],_=>rfl
 | [],_::_,e=>by cases e
 | _::_,[],e=>by cases e
 | (k,d)::ps,z::ss,e=>by
  simp only[u9,List.cons.injEq] at e;rw[List.any_cons,u5y e.2,e.1,u7u];by_cases c:z=b
  ·subst c;simp
  ·have c':¬ b=z:=fun h=>c h.symm
   simp[c,c']
def u6i {ps:List (D×D)}{ss:List Str}{b:Str}{d:D} (e:ps.map (·.1)=ss.map D.str):(putD ps (.inr b) d).map (·.1)=(addT ss b).map D.str:=by
 unfold putD addT;rw[u5y e];by_cases c:b∈ss
 ·rw [if_pos (by simpa using c),if_pos c,<- e,z1C]
  refine List.map_congr_left λp _=>?_
  simp only[Function.comp]
  split<;>rfl
 ·rw [if_neg (by simpa using c),if_neg c,z0J,z0J,e]
  rfl
theorem u4J:∀{ps:List (D×D)}{ss:List Str},ps.map (·.1)=ss.map D.str->keyStrs ps=some ss
 | [],[],_=>rfl
 | [],_::_,e=>by cases e
 | _::_,[],e=>by cases e
 | (k,d)::ps,z::ss,e=>by
  simp only[u9,List.cons.injEq] at e;obtain⟨rfl,e⟩:=e;simp[keyStrs,u4J e]
def val_key {b:Str}{ps:List (D×D)}{ss:List Str} (e:ps.map (·.1)=ss.map D.str):(valD ps (.inr b)).isSome=decide (b∈ss):=by
 rw[<- u5y e];unfold valD;rw[Option.isSome_map];clear e;induction ps with
 | nil=>rfl
 | cons p ps ih =>
  rw[z0E,List.any_cons];cases q:eqK p.1 (.inr b)
  ·simpa using ih
  ·rfl
def v3t {P:Str->Prop}{ss:List Str}{b:Str} (h:∀z∈ss,P z) (hb:P b):∀z∈addT ss b,P z:=λz hz=>by
 unfold addT at hz;split at hz
 ·exact h z hz
 ·rcases z0G.mp hz with q | q
  ·exact h z q
  ·rw[v9.mp q];exact hb
def v1G {P:Str->Prop}{ss:List Str}{b:Str} (h:∀z∈ss,P z) (hb:sgnS b=true->P b):∀z∈addSg ss b,P z:=by
 unfold addSg;by_cases c:sgnS b=true
 ·rw[if_pos c];exact v3t h (hb c)
 ·rw[if_neg c];exact h
theorem u8h {P:Str->Prop}:∀{bs ss:List Str},(∀z∈ss,P z)->(∀b∈bs,sgnS b=true->P b)->∀z∈bs.foldl addSg ss,P z
 | [],_,h,_=>h
 | b::bs,ss,h,hb=>u8h (bs:=bs) (v1G h (hb b z8)) λx hx=>hb x (y1 _ hx)
theorem u6Q {P:Str->Prop}:∀{rs:List RR}{ss:List Str},(∀z∈ss,P z)->(∀p∈rs,∀b∈p.2,sgnS b=true->P b)->∀z∈sgL ss rs,P z
 | [],_,h,_=>h
 | p::rs,ss,h,hb=>u6Q (rs:=rs) (u8h h (hb p z8)) λq hq=>hb q (y1 _ hq)
theorem v3y:∀{rs:List RR}{ss:List Str},ss.Nodup->(sgL ss rs).Nodup
 | [],_,h=>h
 | p::rs,ss,h=>v3y (rs:=rs) (by
  show(p.2.foldl addSg ss).Nodup
  have:∀(bs ss:List Str),ss.Nodup->(bs.foldl addSg ss).Nodup:=by
   intro bs;induction bs with
   | nil=>intro ss h;exact h
   | cons b bs ih =>
    intro ss h;refine ih _ ?_;unfold addSg;split
    ·exact u4S h
    ·exact h
  exact this _ _ h)
def u4W {ss pool:List Str} (nd:ss.Nodup) (h:∀z∈ss,z∈pool):ss.length<=pool.length:=by
 induction ss generalizing pool with
 | nil=>simp
 | cons z ss ih =>
  obtain⟨h1,h2⟩:=z1J.mp nd;have hz:=h z z8
  have:=ih (pool:=pool.erase z) h2 λy hy=>(List.mem_erase_of_ne (λe:y=z=>h1 (e ▸ hy))).mpr (h y (y1 _ hy))
  rw[List.length_erase_of_mem hz] at this
  have:0<pool.length:=List.length_pos_of_mem hz
  simp only[s9];omega
structure Few (rs:List RR):Prop where
 ok:∀p∈rs,OkR p
 n:rs.length<=20
 s:(sgL [] rs).length<64
def Ssg (ds:D) (ss:List Str) (rs:List RR) (ρ:Rho):Prop:=(∀p∈rs,OkR p)/\ss.length+4*rs.length<=200/\∃kvs x y,ρ=[some (.val ds),some (.own (.d kvs)),x,y]/\kvs.map (·.1)=ss.map D.str
def Qsg (ds:D) (ss:List Str) (o:Out):Prop:=∃kvs x y,o=.nx [some (.val ds),some (.own (.d kvs)),x,y]/\kvs.map (·.1)=ss.map D.str
def Ssi (ds:D) (r:Option Sl) (ss:List Str) (bs:List Str) (ρ:Rho):Prop:=(∀b∈bs,goodS b=true)/\ss.length+bs.length<=200/\∃kvs y,ρ=[some (.val ds),some (.own (.d kvs)),r,y]/\kvs.map (·.1)=ss.map D.str
def u4m (ss:List Str) (b:Str):(addSg ss b).length<=ss.length+1:=by
 unfold addSg;split
 ·exact u8A ss b
 ·omega
theorem u4L:∀(bs ss:List Str),(bs.foldl addSg ss).length<=ss.length+bs.length
 | [],ss=>by simp
 | b::bs,ss=>by
  have:=u4L bs (addSg ss b)
  have:=u4m ss b
  simp only[z2J,s9];omega
def v3C {b:Str}{kvs:List (D×D)}{ss:List Str}{fi fv:Rho->Res D}{ρ:Rho} (hl:kvs.length<=1000) (hv:fv ρ=.ok (.bl true)) (hi:fi ρ=.ok (.str b)) (hg:getD' ρ 1=.ok kvs) :
  fPutD 1 fi fv ρ=.nx (ρ.set 1 (some (.own (.d (putD kvs (.inr b) (.bl true)))))):=by
 unfold fPutD;rw[hv,go_ok,hg,go_ok,hi,go_ok,show keyK (.str b)=.ok (.inr b) from rfl,go_ok,if_pos (Nat.lt_of_le_of_lt hl (by decide))]
abbrev dN (n:Nat):D:=.int (n:Int)
def v0O (k m:Nat):intL (k:Int) (m+1)=dN k::intL ((k+1:Nat):Int) m:=by
 simp[intL,List.range_succ_eq_map,Function.comp_def,dN];intro a _;omega
theorem u6n {g:D->Rho->Res Rho}{tb:Rho->Out} (n:Nat) (S:Nat->Rho->Prop) (Q:Out->Prop) (nil:∀ρ,S n ρ->Q (.nx ρ))
  (cons:∀k ρ,k<n->S k ρ->∃ρ1,g (dN k) ρ=.ok ρ1/\((∃ρ2,tb ρ1=.nx ρ2/\S (k+1) ρ2)\/∃v,tb ρ1=.rt v/\Q (.rt v))):∀m k ρ,k+m=n->S k ρ->Q (forD g tb (intL (k:Int) m) ρ)
 | 0,k,ρ,e,h=>by subst e;exact nil ρ h
 | m+1,k,ρ,e,h=>by
  rw[v0O];obtain⟨ρ1,e1,z⟩:=cons k ρ (by omega) h
  simp only[forD,e1,u0S,go_ok];rcases z with⟨ρ2,k1,k2⟩|⟨v,k1,k2⟩
  ·rw[k1];exact u6n n S Q nil cons m (k+1) ρ2 (by omega) k2
  ·rw[k1];exact k2
def u8g {g:D->Rho->Res Rho}{tb:Rho->Out}{n:Nat} (S:Nat->Rho->Prop) (Q:Out->Prop) {ρ:Rho} (h0:S 0 ρ) (nil:∀ρ,S n ρ->Q (.nx ρ))
  (cons:∀k ρ,k<n->S k ρ->∃ρ1,g (dN k) ρ=.ok ρ1/\((∃ρ2,tb ρ1=.nx ρ2/\S (k+1) ρ2)\/∃v,tb ρ1=.rt v/\Q (.rt v))):Q (forD g tb (intL 0 n) ρ) :=
 u6n n S Q nil cons n 0 ρ (by omega) h0
def u8a (n:Nat):(intL 0 n).length=n:=by simp[intL]
def ix_m {α:Type}{c:α->D}{rs:List α}{i:Nat} (h:i<rs.length):dIx (.lst (rs.map c)) (.int (i:Int))=.ok (c rs[i]):=u7p (by rw[w9,y2 h];rfl)
def modI (a:Int) {b:Nat} (h:0<b):∃m:Nat,a%(b:Int)=(m:Int)/\m<b:=by
 have h1:=Int.emod_nonneg a (show(b:Int)≠0 by omega)
 have h2:=Int.emod_lt_of_pos a (show(0:Int)<(b:Int) by omega)
 exact⟨(a%b).toNat,by omega,by omega⟩
def modZ (a:Int) {b:Int} (h:0<b):∃m:Nat,a%b=(m:Int)/\(m:Int)<b:=by
 have h1:=Int.emod_nonneg a (show b≠0 by omega)
 have h2:=Int.emod_lt_of_pos a h;exact⟨(a%b).toNat,by omega,by omega⟩
@[simp] theorem u0F (i j:Int):dMulX (.int i) (.int j)=gd (CMul i j) (.ok (.int (i*j))):=Eq.trans rfl rfl
@[simp] theorem add_ii (i j:Int):dAdd (.int i) (.int j)=.ok (.int (i+j)):=Eq.trans rfl rfl
def u1p {i j:Int} (h:0<j):dMod (.int i) (.int j)=.ok (.int (i%j)):=if_pos h
def u4R {i j:Int} (h:0<j) (h2:j<2^64):dDiv (.int i) (.int j)=.ok (.int (i / j)):=if_pos ⟨h,h2⟩
def rng_n {n:Nat} (h:n<=1000):rng1 [.int (n:Int)]=.ok (intL 0 n):=by
 show gd _ _=_;rw[u0r (by omega),Int.toNat_natCast]
def u6Z {n:Nat} (j:Int) (e:j=n) (h:n<=1000):rng1 [.int j]=.ok (intL 0 n):=by rw[e,rng_n h]
def bindN {α β:Type} (a:α) (f:α->Res β):(Res.ok a).bind f=f a:=Eq.trans rfl rfl
def goN {α:Type} (a:α) (ρ:Rho) (k:α->Out):(Res.ok a).go ρ k=k a:=Eq.trans rfl rfl
def thenN (ρ:Rho) (f:Rho->Out):(Out.nx ρ).andThen f=f ρ:=Eq.trans rfl rfl
def cut_n {α:Type} (xs:List α) (n:Nat):cutC xs none (some (n:Int))=xs.take n:=by
 unfold cutC;rw[HT.sIx_none,HT.sIx_nat];simp[List.take_eq_take_min]
def th {Q:Out->Prop}{a:Out}{f:Rho->Out}{ρ:Rho} (h:a=.nx ρ) (k:Q (f ρ)):Q (a.andThen f):=by rw[h];exact k
def goq {α:Type}{Q:Out->Prop}{r:Res α}{ρ:Rho}{k:α->Out}{v:α} (h:r=.ok v) (q:Q (k v)):Q (r.go ρ k):=by rw[h];exact q
def thq {Q T:Out->Prop}{a:Out}{f:Rho->Out} (q:T a) (k:∀o,T o->Q (o.andThen f)):Q (a.andThen f):=k _ q
def RetsX (r:Res D) (o:Out):Prop:=outR o=r
def runX1 {n m:Nat}{t:Rho->Out}{ds:List D}{r:Res D} (hl:ds.length=m) (h:RetsX r (t (startD n ds))):runX n m t ds=r:=by unfold runX;rw[if_pos hl];exact h
def asg {α:Type}{Q:Out->Prop}{r:Res α}{ρ ρ2:Rho}{k:α->Out}{f:Rho->Out} (v:α) (h:r=.ok v) (e:k v=.nx ρ2) (q:Q (f ρ2)):Q ((r.go ρ k).andThen f):=by rw[h];exact th e q
def brn {Q:Out->Prop}{r:Res Bool}{ρ:Rho}{k:Bool->Out}{f:Rho->Out} (b:Bool) (h:r=.ok b) (t:b=true->Q ((k true).andThen f)) (e:b=false->Q ((k false).andThen f)):Q ((r.go ρ k).andThen f):=by
 rw[h];cases b
 ·exact e rfl
 ·exact t rfl
def StO {γ:Type} (S:List γ->Rho->Prop) (Q:Out->Prop) (xs:List γ) (o:Out):Prop:=(∃ρ2,o=.nx ρ2/\S xs ρ2)\/∃v,o=.rt v/\Q (.rt v)
def br1 {Q:Out->Prop}{r:Res Bool}{ρ:Rho}{k:Bool->Out} (b:Bool) (h:r=.ok b) (t:b=true->Q (k true)) (e:b=false->Q (k false)):Q (r.go ρ k):=by
 rw[h];cases b
 ·exact e rfl
 ·exact t rfl
theorem u2U {γ:Type}{g:D->Rho->Res Rho}{tb:Rho->Out} (c:γ->D) (S:List γ->Rho->Prop) (Q:Out->Prop) (nil:∀ρ,S [] ρ->Q (.nx ρ))
  (cons:∀x xs ρ,S (x::xs) ρ->∃ρ1,g (c x) ρ=.ok ρ1/\StO S Q xs (tb ρ1)):∀xs ρ,S xs ρ->Q (forD g tb (xs.map c) ρ)
 | [],ρ,h=>nil ρ h
 | x::xs,ρ,h=>by
  obtain⟨ρ1,e,z⟩:=cons x xs ρ h;simp only[u9,forD,e,u0S,go_ok];rcases z with⟨ρ2,k1,k2⟩|⟨v,k1,k2⟩
  ·rw[k1];exact u2U c S Q nil cons xs ρ2 k2
  ·rw[k1];exact k2
theorem u5s {γ:Type}{g:D->Rho->Res Rho}{tb:Rho->Out} (c:γ->D) (S:Nat->List γ->Rho->Prop) (Q:Out->Prop) (nil:∀k ρ,S k [] ρ->Q (.nx ρ))
  (cons:∀k x xs ρ,S k (x::xs) ρ->∃ρ1,g (.tup [dN k,c x]) ρ=.ok ρ1/\((∃ρ2,tb ρ1=.nx ρ2/\S (k+1) xs ρ2)\/∃v,tb ρ1=.rt v/\Q (.rt v))):∀xs k ρ,S k xs ρ->Q (forD g tb (((xs.map c).zipIdx k).map λp=>.tup [.int (p.2:Nat),p.1]) ρ)
 | [],k,ρ,h=>nil k ρ h
 | x::xs,k,ρ,h=>by
  obtain⟨ρ1,e,z⟩:=cons k x xs ρ h;rw[u9,v1g];simp only[forD,e,u0S,go_ok];rcases z with⟨ρ2,k1,k2⟩|⟨v,k1,k2⟩
  ·rw[k1];exact u5s c S Q nil cons xs (k+1) ρ2 k2
  ·rw[k1];exact k2
theorem u7s {γ:Type}{g:D->Rho->Res Rho}{tb:Rho->Out} (c:γ->D) (S:List γ->Rho->Prop) (Q:Out->Prop) (nil:∀ρ,S [] ρ->Q (.nx ρ)):∀xs:List γ,
  (∀x∈xs,∀ys ρ,S (x::ys) ρ->∃ρ1,g (c x) ρ=.ok ρ1/\StO S Q ys (tb ρ1))->∀ρ,S xs ρ->Q (forD g tb (xs.map c) ρ)
 | [],_,ρ,h=>nil ρ h
 | x::xs,k,ρ,h=>by
  obtain⟨ρ1,e,z⟩:=k x z8 xs ρ h;simp only[u9,forD,e,u0S,go_ok];rcases z with⟨ρ2,k1,k2⟩|⟨v,k1,k2⟩
  ·rw[k1];exact u7s c S Q nil xs (λy hy=>k y (y1 _ hy)) ρ2 k2
  ·rw[k1];exact k2
noncomputable abbrev dR (rs:List RR):D:=.lst (rs.map rT)
def u7q {p:RR} (h:goodS p.1=true) (k:∀b∈p.2,goodS b=true):goodD (rT p)=true:=by
 show goodDs [.str p.1,.tup (p.2.map D.str)]=true
 have:goodDs (p.2.map D.str)=true:=u7r λd hd=>by
  obtain⟨b,hb,rfl⟩:=z0C.mp hd;exact k b hb
 simp only[goodDs,goodD,h,this];rfl
def in_dct {w:World}{b:Str}{kvs:List (D×D)}{ks:List Str} (e:kvs.map (·.1)=ks.map D.str):dInA w false (.str b) (.dct kvs)=.ok (.bl (decide (b∈ks))):=by
 rw[u8v,show keyK (.str b)=.ok (.inr b) from rfl,Res.bind_ok,val_key e]
 rfl
def run0 {n m:Nat}{t:Rho->Out}{ds:List D} (hl:ds.length=m) (h:∃ρ,t (startD n ds)=.nx ρ):runT n m t ds=.ok .non:=by
 obtain⟨ρ,e⟩:=h;unfold runT;rw[if_pos hl,e];rfl
structure OkQ (q:RR):Prop where
 g:goodD (rT q)=true
 r:rankD (rT q)=true
 l:q.2.length<=10
structure GOk (rs kk:List RR):Prop where
 f:Few rs
 n:1<=rs.length
 nd:rs.Nodup
 kn:∀p∈rs,∀b∈p.2,hdS b=true->b∈headsL rs
 hs:(headsL rs).length<=8
 ss:(sgL [] rs).length<=10
 k:∀q∈kk,OkQ q
 k6:kk.length<=6
 kd:(kk.flatMap (·.2)).Nodup
inductive Snr (w:World) (rs:List RR) (k:Nat) (xs:List RR) (ρ:Rho):Prop
 | mk (ys:List RR) (kvs:List (List DK×D)) (x y:Option Sl) (e:rs=ys++xs) (hk:k=ys.length) (eρ:ρ=[some (.val (dR rs)),some (.own (.n (hashW w) kvs)),x,y]) (ek:kvs.map (·.1)=ys.map keyR)
inductive Skn (a b:D) (xs:List RR) (ρ:Rho):Prop
 | mk (x y:Option Sl) (e:ρ=[some (.val a),some (.val b),x,y])
inductive Ski (a b c:D) (xs:List Str) (ρ:Rho):Prop
 | mk (y:Option Sl) (e:ρ=[some (.val a),some (.val b),some (.val c),y])
inductive Srk (a:D) (kk:List RR) (xs:List RR) (ρ:Rho):Prop
 | mk (ys:List RR) (kvs:List (D×D)) (x y:Option Sl) (e:kk=ys++xs) (eρ:ρ=[some (.val a),some (.own (.d kvs)),x,y]) (ek:kvs.map (·.1)=(ys.flatMap (·.2)).map D.str)
inductive Sri (a c:D) (zs bs:List Str) (xs:List Str) (ρ:Rho):Prop
 | mk (ys:List Str) (kvs:List (D×D)) (y:Option Sl) (e:bs=ys++xs) (eρ:ρ=[some (.val a),some (.own (.d kvs)),some (.val c),y]) (ek:kvs.map (·.1)=(zs++ys).map D.str)
section
variable {P:Program}{w:World}{K:W.Frag}{mg:MG}{base:Heap}{f:Addr}{fd:FuncData}{A:Adr}
def u7i (F:Fun K "heads_in" "heads_in" u1S f fd) (T:Txt P w K mg A):∃G,FnOk P w K mg base CX0 1 f fd ["rules"] (spF K G)/\∀(rs:List RR) (d:D),items d=.ok (rs.map rT)->rs.length<64->G [d]=.ok (.lst ((headsL rs).map D.str)):=by
 refine⟨_,F.okT (k:=0) u6W (λcdv Ar outer s H E hr=>u0e (u0o (d_sset rfl T.z_sorted T.z_set (u0a (DN.de (u0I ["rule"] [] rfl (u0l (sc:=defScope u1S) (N:=["rules"]) (by decide +kernel)) (u0B (dv 0)) (dg_n (show(["rule"]:List Str).Nodup by decide +kernel)) u1k (d_ix x_ix (dv 0) u0g))) u0b)))),?_⟩
 intro rs d hi hl;simp[runT,startD,hi];rw[u0r (u0q (by omega)),u1l hd1 (λd hd=>?_)]
 ·simp only [hd1_map,Res.bind_ok,u3h,one1]
  rw[v3e (by simpa[hsOf] using hl)]
  simp[headsL]
 ·obtain ⟨p,_,rfl⟩:=z0C.mp hd
  exact⟨_,rfl,rfl,by simp[rhoC,rT,ix_0,hd1]⟩
def u7c {a0b:FD} (a0g:Callee P w K mg base 2 "is_sign" ["thing"] (spF K a0b)) (a0f:P1 sgnD a0b) (F:Fun K "signs_in" "signs_in" u2D f fd) (T:Txt P w K mg A):∃G,FnOk P w K mg base CX0 3 f fd ["rules"] (spF K G)/\∀(rs:List RR) (d:D),items d=.ok (rs.map rT)->Few rs->G [d]=.ok (.lst ((sortT (sgL [] rs)).map D.str)):=by
 refine⟨_,F.okT (k:=2) u1z (λcdv Ar outer s H E hr=>u0c (u1X u1z.nd u8u)
  (u0c (u1j rfl (u0B (dv 0)) (dg_n u1z.nd)
  (u0e (u1j rfl (u0B (d_ix x_ix (dv 2) u0g)) (dg_n u1z.nd)
   (u0e (u0W (u1x (d_fn a0g hr (u0a (dv 3) u0b))) (u0e (u7v 1 (hu200 hr) (dv 3) d_bl)) u0D)))))
  (u0e (u0o (d_B (c_sortD rfl) T.z_sorted (by decide +kernel) (u0a (dv 1) u0b)))))),?_⟩
 intro rs d hi fw;simp[runT,startD,hi];have key:∀o,Qsg d (sgL [] rs) o->noE (outR (o.andThen λρ=>(((getV (frz ρ) 1).bind λd=>Res.ok [d]).bind λds=>noE (gSD ds)).go ρ λd=>Out.rt d))=.ok (.lst ((sortT (sgL [] rs)).map D.str)):=by
  rintro o ⟨kvs,x,y,rfl,ek⟩;have e:gSD [.dct kvs]=.ok (.lst ((sortT (sgL [] rs)).map D.str)):=by
   show(match keyStrs kvs with|some ss=>gd (ss.length<64/\∀z∈ss,z.length<=sizeLine) (Res.ok (D.lst ((sortT ss).map D.str)))|none=>.bad)=_
   rw[u4J ek];simp only;refine u0r ⟨fw.s,λz hz=>?_⟩
   have:=u6Q (P:=λz=>goodS z=true) (ss:=[]) (rs:=rs) (λz h=>(nomatch h)) (λp hp b hb _=>(fw.ok p hp).gs b hb) z hz
   simp[goodS] at this;exact u0q this.2
  simp[OD.toD,e]
 apply key;refine u2T rT (Ssg d) sgL (Qsg _) ?_ ?_ rs [] _ ⟨fw.ok,by have:=fw.n;simp;omega,[],none,none,rfl,rfl⟩
 ·intro ss ρ hY
  refine bc λhZ=>?_
  obtain⟨_,_,kvs,x,y,rfl,ek⟩:=hY;refine hZ ?_;exact⟨kvs,x,y,rfl,ek⟩
 ·intro ss p ps ρ hY
  refine bc λhZ=>?_
  obtain⟨ok,hl,kvs,x,y,rfl,ek⟩:=hY;refine hZ ?_;have op:=ok p z8;refine⟨_,rfl,?_⟩;simp[rT,ix_1];generalize hI:forD _ _ _ _=o;have q:Qsg d (p.2.foldl addSg ss) o:=by
   rw[<- hI];refine u2T D.str (Ssi d (some (.val (rT p)))) (λss bs=>bs.foldl addSg ss) (Qsg _) ?_ ?_ p.2 ss _ ⟨op.gs,by have:=op.l;simp at hl;omega,kvs,y,rfl,ek⟩
   ·rintro ss ρ ⟨_,_,kvs,y,rfl,ek⟩
    exact⟨kvs,_,y,rfl,ek⟩
   ·rintro ss b bs ρ ⟨gs,hl,kvs,y,rfl,ek⟩
    have hk:kvs.length=ss.length:=by have:=congrArg List.length ek;simpa using this
    refine⟨_,rfl,?_⟩;simp[a0f (.str b) (by simpa[goodD] using gs b z8),sgnD]
    by_cases c:sgnS b=true
    ·simp only [c,if_true]
     rw[v3C (ss:=ss) (kvs:=kvs) (b:=b) (by simp at hl;omega) rfl rfl rfl]
     exact u6J (addSg ss b) ⟨λz hz=>gs z (y1 _ hz),by have:=u4m ss b;simp at hl;omega,_,_,rfl,by unfold addSg;rw[if_pos c];exact u6i ek⟩ rfl
    ·simp only [c]
     exact u6J (addSg ss b) ⟨λz hz=>gs z (y1 _ hz),by have:=u4m ss b;simp at hl;omega,_,_,rfl,by unfold addSg;rw[if_neg c];exact ek⟩ rfl
  obtain⟨kvs',x',y',rfl,ek'⟩:=q;exact u6J (p.2.foldl addSg ss) ⟨λz hz=>ok z (y1 _ hz),by have:=u4L p.2 ss;have:=op.l;simp at hl;omega,_,_,_,rfl,ek'⟩ rfl
def u5d {a2l:FD} (a3i:Callee P w K mg base 5 "is_rule" ["thing"] (spF K a2l)) (a3e:P1 ruleD a2l) (F:Fun K "need_rules" "need_rules" u1J f fd) (T:Txt P w K mg A):∃G,FnOk P w K mg base CX0 6 f fd ["rules"] (spF K G)/\∀rs:List RR,(∀p∈rs,OkR p)->1<=rs.length->rs.length<=20->rs.Nodup->G [dR rs]=.ok .non:=by
 refine⟨_,F.okT (k:=5) u0X (λcdv Ar outer s H E hr=>u0c (u0W (u1W (u1x (d_B u4u T.z_isinstance (by decide +kernel) (u0a (dv 0) (u0a (d_ty T.z_list (T:="list") (by decide +kernel)) u0b))))) (u0e u1E) u0D)
  (u0c (u0W (u1W (u8k o_le o_le u0g (d_B u1G T.z_len (by decide +kernel) (u0a (dv 0) u0b)) (u3u T.g_MOST_RULES))) (u0e u1E) u0D)
  (u0c (u1X u0X.nd dn_newW)
  (u0e (u1j rfl (v1p T.z_enumerate (u0a (dv 0) u0b)) (u4h (n:=2) rfl (u0y (dg_n u0X.nd) (u0y (dg_n u0X.nd) u2p)))
  (u0c (u0W (u1W (u1x (d_fn a3i hr (u0a (dv 3) u0b)))) (u0e u1E) u0D)
   (u0c (u0W (u0A (o_inW (hu200 hr)) (dv 3) (dv 1)) (u0e u1E) u0D)
   (u0e (ds_putW 1 (hu200 hr) (dv 3) d_bl))))))))),?_⟩
 intro rs ok l1 l2 nd;refine run0 rfl ?_;have c1:(1:Int)<=rs.length:=by omega
 have c2:(rs.length:Int)<=20:=by omega
 have i1:gIsA [dR rs,.ty "list"]=.ok (.bl true):=rfl;refine brn (Q:=λo=>∃ρ,o=.nx ρ) false (by simp[startD,i1]) (λc=>by cases c) λ_=>?_
 refine th (Q:=λo=>∃ρ,o=.nx ρ) rfl ?_
 refine brn (Q:=λo=>∃ρ,o=.nx ρ) false (by simp[startD,gLen,c1,c2]) (λc=>by cases c) λ_=>?_
 refine th (Q:=λo=>∃ρ,o=.nx ρ) rfl ?_
 refine th (Q:=λo=>∃ρ,o=.nx ρ) rfl ?_
 refine goq (Q:=λo=>∃ρ,o=.nx ρ) (v:=enumL (rs.map rT)) rfl ?_
 refine u5s rT (Snr w rs) (λo=>∃ρ,o=.nx ρ) (λk ρ _=>⟨ρ,rfl⟩) ?_ rs 0 _ ⟨[],[],none,none,rfl,rfl,rfl,rfl⟩
 rintro k p xs ρ ⟨ys,kvs,x,y,e,hk,rfl,ek⟩;have m:p∈rs:=by rw[e];simp
 have op:=ok p m;have np:p∉ys:=λz=>by rw[e] at nd;exact(List.nodup_append.mp nd).2.2 p z p z8 rfl
 have hl:kvs.length=ys.length:=by have:=congrArg List.length ek;simpa using this
 have hy:ys.length<=rs.length:=by rw[e];simp
 refine⟨_,rfl,.inl ⟨_,?_,ys++[p],putN kvs (keyR p) (.bl true),some (.val (dN k)),some (.val (rT p)),by rw[e,List.append_assoc];rfl,by rw[hk];simp,rfl,v2U ek np⟩⟩
 refine brn (Q:=λo=>o=_) false (by simp[a3e _ (u7q op.gh op.gs),ok_rule op]) (λc=>by cases c) λ_=>?_
 refine th (Q:=λo=>o=_) rfl ?_
 refine brn (Q:=λo=>o=_) false (by simp[OD.toD,in_keys (w:=w) op ek,np]) (λc=>by cases c) λ_=>?_
 refine th (Q:=λo=>o=_) rfl ?_
 exact put_key (w:=w) (kvs:=kvs) op (by omega) rfl rfl rfl
def u2h {a0e:FD} (a0o:Callee P w K mg base 1 "heads_in" ["rules"] (spF K a0e)) {a0a:FD} (a0h:Callee P w K mg base 2 "is_head" ["thing"] (spF K a0a)) (a0u:∀(rs:List RR) (d:D),items d=.ok (rs.map rT)->rs.length<64->a0e [d]=.ok (.lst ((headsL rs).map D.str))) (a0d:P1 hdD a0a) (F:Fun K "need_known_heads" "need_known_heads" u0L f fd) (T:Txt P w K mg A):∃G,FnOk P w K mg base CX0 3 f fd ["rules"] (spF K G)/\∀rs:List RR,Few rs->(∀p∈rs,∀b∈p.2,hdS b=true->b∈headsL rs)->G [dR rs]=.ok .non:=by
 refine⟨_,F.okT (k:=2) u0w (λcdv Ar outer s H E hr=>u0c (ds_n u0w.nd (d_fn a0o hr (u0a (dv 0) u0b)))
  (u0e (u1j rfl (u0B (dv 0)) (dg_n u0w.nd)
  (u0e (u1j rfl (u0B (d_ix x_ix (dv 2) u0g)) (dg_n u0w.nd)
   (u0e (u0W (dt_w (v3M (u1x (d_fn a0h hr (u0a (dv 3) u0b))) (v1k (u0A (v0t (hu100 hr)) (dv 3) (dv 1))))) (u0e u1E) u0D))))))),?_⟩
 intro rs fw kn;have n20:=fw.n;refine run0 rfl ?_;refine asg (Q:=λo=>∃ρ,o=.nx ρ) (.lst ((headsL rs).map D.str)) (by simp[startD,a0u rs (dR rs) rfl (by omega)]) rfl ?_
 refine goq (Q:=λo=>∃ρ,o=.nx ρ) (v:=rs.map rT) rfl ?_
 refine u7s rT (Skn (dR rs) (.lst ((headsL rs).map D.str))) (λo=>∃ρ,o=.nx ρ) (λρ _=>⟨ρ,rfl⟩) rs (λp hp xs ρ hS=>?_) _ ⟨none,none,rfl⟩
 obtain⟨x,y,rfl⟩:=hS;have op:=fw.ok p hp;refine⟨_,rfl,?_⟩;refine goq (Q:=StO _ _ _) (v:=p.2.map D.str) (by simp[rT,ix_1]) ?_
 refine u7s D.str (Ski (dR rs) (.lst ((headsL rs).map D.str)) (rT p)) (StO _ _ _) (λρ hS=>?_) p.2 (λb hb bs ρ hS=>?_) _ ⟨y,rfl⟩
 ·obtain ⟨y,rfl⟩:=hS
  exact .inl ⟨_,rfl,_,y,rfl⟩
 ·obtain ⟨y,rfl⟩:=hS
  refine⟨_,rfl,.inl ⟨_,?_,some (.val (.str b)),rfl⟩⟩;refine br1 (Q:=λo=>o=_) false ?_ (λc=>by cases c) λ_=>rfl
  by_cases c:hdS b=true
  ·simp[a0d (.str b) (op.gs b hb),hdD,c,u4H (op.gs b hb) (u9p fw.ok),kn p hp b hb c]
  ·simp[a0d (.str b) (op.gs b hb),hdD,c]
def u2i {a0e:FD} (a0o:Callee P w K mg base 1 "heads_in" ["rules"] (spF K a0e)) {a0q:FD} (a1g:Callee P w K mg base 3 "signs_in" ["rules"] (spF K a0q)) (a0u:∀(rs:List RR) (d:D),items d=.ok (rs.map rT)->rs.length<64->a0e [d]=.ok (.lst ((headsL rs).map D.str))) (a1c:∀(rs:List RR) (d:D),items d=.ok (rs.map rT)->Few rs->a0q [d]=.ok (.lst ((sortT (sgL [] rs)).map D.str))) (F:Fun K "need_few_symbols" "need_few_symbols" u0M f fd) (T:Txt P w K mg A):∃G,FnOk P w K mg base CX0 4 f fd ["rules"] (spF K G)/\∀rs:List RR,Few rs->(headsL rs).length<=8->(sgL [] rs).length<=10->G [dR rs]=.ok .non:=by
 refine⟨_,F.okT (k:=3) u0K (λcdv Ar outer s H E hr=>u0c (ds_n u0K.nd (d_fn a0o hr (u0a (dv 0) u0b)))
  (u0c (u0W (u0A o_gt (d_B u1G T.z_len (by decide +kernel) (u0a (dv 1) u0b)) (u3u T.g_MOST_HEADS)) (u0e u1E) u0D)
  (u0c (ds_n u0K.nd (d_fn a1g hr (u0a (dv 0) u0b)))
  (u0e (u0W (u0A o_gt (d_B u1G T.z_len (by decide +kernel) (u0a (dv 2) u0b)) (u3u T.g_MOST_SIGNS)) (u0e u1E) u0D))))),?_⟩
 intro rs fw h8 s10;have n20:=fw.n;have c1:¬ (8:Int)<(headsL rs).length:=by omega
 have c2:¬ (10:Int)<(sgL [] rs).length:=by omega
 simp[runT,startD,a0u rs (dR rs) rfl (by omega),gLen,c1,a1c rs (dR rs) rfl fw,u1v,c2]
def u5e {a2m:FD} (a3j:Callee P w K mg base 4 "is_rank" ["thing"] (spF K a2m)) (a3f:P1 rankD a2m) (F:Fun K "need_ranks" "need_ranks" u1K f fd) (T:Txt P w K mg A):∃G,FnOk P w K mg base CX0 5 f fd ["ranks"] (spF K G)/\∀(kk:List RR) (d:D),d=.lst (kk.map rT)\/d=.tup (kk.map rT)->(∀q∈kk,OkQ q)->kk.length<=6->(kk.flatMap (·.2)).Nodup->G [d]=.ok .non:=by
 refine⟨_,F.okT (k:=4) u0Y (λcdv Ar outer s H E hr=>u0c (u0W (u1W (u1x (d_B u4u T.z_isinstance (by decide +kernel) (u0a (dv 0) (u0a (u1a (u0a (d_ty T.z_list (T:="list") (by decide +kernel)) (u0a (d_ty T.z_tuple (T:="tuple") (by decide +kernel)) u0b))) u0b))))) (u0e u1E) u0D)
  (u0c (u0W (u0A o_gt (d_B u1G T.z_len (by decide +kernel) (u0a (dv 0) u0b)) (u3u T.g_MOST_RANKS)) (u0e u1E) u0D)
  (u0c (u1X u0Y.nd u8u)
  (u0e (u1j rfl (u0B (dv 0)) (dg_n u0Y.nd)
  (u0c (u0W (u1W (u1x (d_fn a3j hr (u0a (dv 2) u0b)))) (u0e u1E) u0D)
   (u0e (u1j rfl (u0B (d_ix x_ix (dv 2) u0g)) (dg_n u0Y.nd)
   (u0c (u0W (u0A (o_inW (hu200 hr)) (dv 3) (dv 1)) (u0e u1E) u0D)
    (u0e (u7v 1 (hu200 hr) (dv 3) d_bl))))))))))),?_⟩
 intro kk d hd ok k6 kd;have i1:gIsA [d,.tup [.ty "list",.ty "tuple"]]=.ok (.bl true):=by rcases hd with rfl|rfl<;>rfl
 have i2:gLen [d]=.ok (.int kk.length):=by rcases hd with rfl|rfl<;>simp[gLen]
 have i3:items d=.ok (kk.map rT):=by rcases hd with rfl|rfl<;>rfl
 have c1:¬ (6:Int)<kk.length:=by omega
 have l60:(kk.flatMap (·.2)).length<=60:=by
  have:∀xs:List RR,(∀q∈xs,OkQ q)->(xs.flatMap (·.2)).length<=10*xs.length:=by
   intro xs;induction xs with
   | nil=>intro _;simp
   | cons q xs ih =>
    intro h;have h1:=ih λz hz=>h z (y1 _ hz)
    have h2:=(h q z8).l;simp only[List.flatMap_cons,z0F,s9];omega
  have:=this kk ok
  omega
 refine run0 rfl ?_;refine brn (Q:=λo=>∃ρ,o=.nx ρ) false (by simp[startD,i1]) (λc=>by cases c) λ_=>?_
 refine th (Q:=λo=>∃ρ,o=.nx ρ) rfl ?_
 refine brn (Q:=λo=>∃ρ,o=.nx ρ) false (by simp[startD,i2,c1]) (λc=>by cases c) λ_=>?_
 refine th (Q:=λo=>∃ρ,o=.nx ρ) rfl ?_
 refine th (Q:=λo=>∃ρ,o=.nx ρ) rfl ?_
 refine goq (Q:=λo=>∃ρ,o=.nx ρ) (v:=kk.map rT) (by simp[startD,i3]) ?_
 refine u2U rT (Srk d kk) (λo=>∃ρ,o=.nx ρ) (λρ _=>⟨ρ,rfl⟩) ?_ kk _ ⟨[],[],none,none,rfl,rfl,rfl⟩
 rintro q xs ρ ⟨ys,kvs,x,y,e,rfl,ek⟩;have oq:=ok q (by rw[e];simp)
 rw[e,List.flatMap_append,List.flatMap_cons] at kd l60;refine⟨_,rfl,?_⟩;refine brn (Q:=StO _ _ _) false (by simp[a3f _ oq.g,oq.r]) (λc=>by cases c) λ_=>?_
 refine th (Q:=StO _ _ _) rfl ?_;refine goq (Q:=StO _ _ _) (v:=q.2.map D.str) (by simp[rT,ix_1]) ?_
 refine u2U D.str (Sri d (rT q) (ys.flatMap (·.2)) q.2) (StO _ _ _) ?_ ?_ q.2 _ ⟨[],kvs,y,rfl,rfl,by rw[List.append_nil];exact ek⟩
 ·rintro ρ ⟨zs,kvs,y,e2,rfl,ek⟩
  rw[List.append_nil] at e2;refine .inl ⟨_,rfl,ys++[q],kvs,_,y,by rw[e,List.append_assoc];rfl,rfl,?_⟩
  rw[ek,List.flatMap_append,<- e2];simp
 ·rintro b bs ρ ⟨zs,kvs,y,e2,rfl,ek⟩
  rw[e2] at kd l60;have nb:b∉ys.flatMap (·.2)++zs:=λz=>by
   rw[<- List.append_assoc,<- List.append_assoc,List.append_assoc (ys.flatMap (·.2)++zs),List.nodup_append] at kd
   exact kd.2.2 b z b (by simp) rfl
  have hl:kvs.length=(ys.flatMap (·.2)++zs).length:=by have:=congrArg List.length ek;simpa using this
  simp only[z0F] at l60 hl;refine⟨_,rfl,.inl ⟨_,?_,zs++[b],putD kvs (.inr b) (.bl true),some (.val (.str b)),by rw[e2,List.append_assoc];rfl,rfl,?_⟩⟩
  ·refine brn (Q:=fun o=>o=_) false (by simp [OD.toD,in_dct (w:=w) ek,nb]) (fun c=>by cases c) fun _=>?_
   refine th (Q:=λo=>o=_) rfl ?_
   exact v3C (ss:=ys.flatMap (·.2)++zs) (kvs:=kvs) (b:=b) (by omega) rfl rfl rfl
  ·rw [u6i ek,<- List.append_assoc]
   unfold addT;rw[if_neg nb]
end
abbrev u0z:Stmt:=meth 45 0
def u4A:FnScope ["self","rules","ranks","told"] ["self","rules","ranks"] (defScope u0z):=⟨rfl,rfl,rfl,by decide +kernel,rfl,by decide +kernel,by decide +kernel⟩
def ne_rr:Str.ofString "rules"≠Str.ofString "ranks":=by decide +kernel
def ne_rs:Str.ofString "rules"≠Str.ofString "start":=by decide +kernel
def ne_ks:Str.ofString "ranks"≠Str.ofString "start":=by decide +kernel
noncomputable def toldD:D->D
 | .non=>.tup []
 | d=>d
noncomputable def itemsD:D->List D
 | .lst ds=>ds
 | .tup ds=>ds
 | _=>[]
noncomputable def strt:D->D
 | .lst (.tup (x::_)::_)=>x
 | _=>.non
noncomputable def gFlds (r k:D):List (Str×D):=[("rules",.tup (itemsD r)),("ranks",.tup (itemsD (toldD k))),("start",strt r)]
inductive GHand (r k:D):Prop
 | mk (rs kk:List RR) (o:GOk rs kk) (er:r=dR rs) (ek:toldD k=.lst (kk.map rT)\/toldD k=.tup (kk.map rT))
open Classical in
noncomputable def gInit:List D->Res (List (Str×D))
 | [r,k]=>if GHand r k then .ok (gFlds r k) else .bad
 | _=>.bad
def u8d {rs kk:List RR}{k:D} (o:GOk rs kk) (ek:toldD k=.lst (kk.map rT)\/toldD k=.tup (kk.map rT)):gInit [dR rs,k]=.ok (gFlds (dR rs) (dR kk)):=by
 have z:gInit [dR rs,k]=.ok (gFlds (dR rs) k):=if_pos ⟨rs,kk,o,rfl,ek⟩;rw[z];unfold gFlds;rcases ek with e|e<;>rw[e]<;>rfl
set_option tactic.hygienic true in
def u8e {ds:List D}{gs:List (Str×D)} (h:gInit ds=.ok gs):∃r k,ds=[r,k]/\GHand r k/\gs=gFlds r k:=by
 unfold gInit at h;split at h
 ·split at h
  ·rename_i c
   cases h;exact⟨_,_,rfl,c,rfl⟩
  ·cases h
 ·cases h
section
variable {P:Program}{w:World}{K:W.Frag}{mg:MG}{base:Heap}{f:Addr}{fd:FuncData}{A:Adr}
def u9e {a1k:FD} (a2g:Callee P w K mg base 6 "need_rules" ["rules"] (spF K a1k)) {a0m:FD} (a1d:Callee P w K mg base 3 "need_known_heads" ["rules"] (spF K a0m)) {a0n:FD} (a1e:Callee P w K mg base 4 "need_few_symbols" ["rules"] (spF K a0n)) {a1l:FD} (a2h:Callee P w K mg base 5 "need_ranks" ["ranks"] (spF K a1l)) (p_nr:∀rs:List RR,(∀p∈rs,OkR p)->1<=rs.length->rs.length<=20->rs.Nodup->a1k [dR rs]=.ok .non) (p_nk:∀rs:List RR,Few rs->(∀p∈rs,∀b∈p.2,hdS b=true->b∈headsL rs)->a0m [dR rs]=.ok .non) (p_nf:∀rs:List RR,Few rs->(headsL rs).length<=8->(sgL [] rs).length<=10->a0n [dR rs]=.ok .non) (p_nn:∀(kk:List RR) (d:D),d=.lst (kk.map rT)\/d=.tup (kk.map rT)->(∀q∈kk,OkQ q)->kk.length<=6->(kk.flatMap (·.2)).Nodup->a1l [d]=.ok .non) (F:FunD K "__init__" "Grammar.__init__" u0z f fd) (T:Txt P w K mg A):FnOk P w K mg base CX0 7 f fd ["self","rules","ranks"] (spIni K A.Grammar gInit):=by
 refine F.okI0 (k:=6) u4A (λds gs h=>?_) (λcdv Ar outer s H E hr=>⟨_,u0c (u2o (d_fn a2g hr (u0a (dv 1) u0b)))
  (u0c (u2o (d_fn a1d hr (u0a (dv 1) u0b)))
  (u0c (u2o (d_fn a1e hr (u0a (dv 1) u0b)))
  (u0c (ds_n u4A.nd (d_ife (u0A o_is (dv 2) u6s) (u1a u0b) (dv 2)))
  (u0c (u2o (d_fn a2h hr (u0a (dv 3) u0b)))
  (u0c (u1Y 0 T.cls T.na_rules (d_T u2r T.z_tuple (by decide +kernel) (u0a (dv 1) u0b)))
  (u0c (u1Y 0 T.cls T.na_ranks (d_T u2r T.z_tuple (by decide +kernel) (u0a (dv 3) u0b)))
  (u0e (u1Y 0 T.cls T.na_start (d_ix x_ix (d_ix x_ix (v3T 0 T.cls (T.na_rules)) u0g) u0g))))))))),λa ds gs h=>?_⟩)
 ·obtain ⟨r,k,rfl,_⟩:=u8e h
  rfl
 obtain⟨r,k,rfl,⟨rs,kk,o,rfl,ek⟩,rfl⟩:=u8e h;have e1:=p_nr rs o.f.ok o.n o.f.n o.nd;have e2:=p_nk rs o.f o.kn;have e3:=p_nf rs o.f o.hs o.ss;have e4:=p_nn kk _ ek o.k o.k6 o.kd;have e5:(if isN k=true then Res.ok (D.tup []) else Res.ok k)=Res.ok (toldD k):=by cases k<;>rfl
 have ei:gTuple [toldD k]=.ok (.tup (itemsD (toldD k))):=by rcases ek with e|e<;>rw[e]<;>rfl
 have er:gTuple [dR rs]=.ok (.tup (rs.map rT)):=rfl;obtain⟨p,ps,ep⟩:∃p ps,rs=p::ps:=by
  cases rs with
  | nil=>exact absurd o.n (by simp)
  | cons p ps=>exact⟨p,ps,rfl⟩
 have i2:dIx (.tup (rs.map rT)) (.int 0)=.ok (rT p):=by rw[ep];exact ix_0 _ _
 have i3:dIx (rT p) (.int 0)=.ok (.str p.1):=ix_0 _ _;have i4:strt (dR rs)=.str p.1:=by rw[ep];rfl
 have i5:itemsD (dR rs)=rs.map rT:=rfl;simp[startI,startD,dIs,e1,e2,e3,outI,e5,e4,er,ei,getI,putG,i2,i3,gFlds,i4,i5,ne_rr,ne_rs,ne_ks,List.lookup]
end
abbrev scr (ns:List Int):D:=.lst (ns.map D.int)
abbrev Row (G:FD):Prop:=∀(ns:List Int) (i b n:Nat),0<b->b<1000000->n<=80->∃rs:List Nat,G [scr ns,dN i,dN b,dN n]=.ok (.lst (rs.map dN))/\rs.length=n/\∀x∈rs,x<b
inductive Srow (ns:List Int) (i b n:Nat) (c:Int) (k:Nat) (ρ:Rho):Prop
 | mk (l:Int) (rs:List Nat) (y:Option Sl) (q0:ρ=[some (.val (scr ns)),some (.val (dN i)),some (.val (dN b)),some (.val (dN n)),some (.val (.int c)),some (.val (.int l)),some (.own (.l (rs.map dN))),y]) (q1:rs.length=k) (q2:∀x∈rs,x<b)
inductive Qrow (b n:Nat) (o:Out):Prop
 | mk (ρ:Rho) (rs:List Nat) (q0:o=.nx ρ) (q1:getV (frz ρ) 6=.ok (.lst (rs.map dN))) (q2:rs.length=n) (q3:∀x∈rs,x<b)
section
variable {P:Program}{w:World}{K:W.Frag}{mg:MG}{base:Heap}{f:Addr}{fd:FuncData}{A:Adr}
def u7g (F:Fun K "_law_cell" "_law_cell" u2G f fd) (T:Txt P w K mg A):∃G,FnOk P w K mg base CX0 1 f fd ["_law_script","_law_k"] (spF K G)/\∀(ns:List Int) (k:Nat),∃c:Int,G [scr ns,dN k]=.ok (.int c):=by
 refine⟨_,F.okT (k:=0) u6U (λcdv Ar outer s H E hr=>u0c (u0W (u0A o_lt (dv 1) (d_B u1G T.z_len (by decide +kernel) (u0a (dv 0) u0b))) (u0e (u0o (d_ix x_ix (dv 0) (dv 1)))) u0D)
  (u0e (u0o u0g))),?_⟩
 intro ns k;by_cases h:k<ns.length
 ·have h':(k:Int)<ns.length:=by omega
  exact⟨ns[k],by simp[runT,startD,h,h',ix_m h]⟩
 ·have h':¬ (k:Int)<ns.length:=by omega
  exact⟨0,by simp[runT,startD,h,h']⟩
def u7f (F:Fun K "_law_stir" "_law_stir" u2F f fd) (T:Txt P w K mg A):∃G,FnOk P w K mg base CX0 1 f fd ["_law_cell_here","_law_k"] (spF K G)/\∀(c:Int) (k:Nat),k<=100->∃n:Int,G [.int c,dN k]=.ok (.int n):=by
 refine⟨_,F.okT (k:=0) u2a (λcdv Ar outer s H E hr=>u0c (ds_n u2a.nd (d_op u2j (d_op u3r (d_op u3r (d_op u1D (d_op u2j (dv 0) u0g) u0g) (d_op u1D u0g (dv 1))) u0g) u0g))
  (u0c (ds_n u2a.nd (d_op u2j (d_op u1D (dv 2) (dv 2)) u0g))
  (u0e (u0o (d_op u2j (d_op u3r (d_op u3r (d_op u1D (dv 2) (dv 2)) (d_op u1D u0g (dv 2))) u0g) u0g))))),?_⟩
 intro c k hk;refine bc λhZ=>?_
 obtain⟨m,e,hm⟩:=modZ c (b:=2147483647) (by omega)
 obtain⟨m2,e2,hm2⟩:=modZ ((m:Int)*48271+69621*(k:Int)+7) (b:=2147483647) (by omega)
 obtain⟨m3,e3,hm3⟩:=modZ ((m2:Int)*m2) (b:=2147483629) (by omega)
 refine hZ ?_;have c1:CMul (m:Int) 48271:=.inr ⟨by omega,by omega⟩
 have c2:CMul 69621 (k:Int):=.inl ⟨by omega,by omega⟩
 have c3:CMul (m2:Int) m2:=.inr ⟨by omega,by omega⟩
 have c4:CMul (m3:Int) m3:=.inr ⟨by omega,by omega⟩
 have c5:CMul 16807 (m3:Int):=.inl ⟨by omega,by omega⟩
 refine⟨((m3:Int)*m3+16807*m3+11)%2147483587,?_⟩;have r1:dMod (.int c) (.int 2147483647)=.ok (.int m):=by rw[u1p (by omega),e]
 have r2:dMod (.int ((m:Int)*48271+69621*(k:Int)+7)) (.int 2147483647)=.ok (.int m2):=by rw[u1p (by omega),e2]
 have r3:dMod (.int ((m2:Int)*m2)) (.int 2147483629)=.ok (.int m3):=by rw[u1p (by omega),e3]
 have r4:dMod (.int ((m3:Int)*m3+16807*m3+11)) (.int 2147483587)=.ok (.int (((m3:Int)*m3+16807*m3+11)%2147483587)):=u1p (by omega)
 have s1:dMulX (.int m) (.int 48271)=.ok (.int (m*48271)):=by rw[u0F,u0r c1]
 have s2:dMulX (.int 69621) (.int k)=.ok (.int (69621*k)):=by rw[u0F,u0r c2]
 have s3:dMulX (.int m2) (.int m2)=.ok (.int (m2*m2)):=by rw[u0F,u0r c3]
 have s4:dMulX (.int m3) (.int m3)=.ok (.int (m3*m3)):=by rw[u0F,u0r c4]
 have s5:dMulX (.int 16807) (.int m3)=.ok (.int (16807*m3)):=by rw[u0F,u0r c5]
 simp[runT,startD,r1,r2,r3,r4,s1,s2,s3,s4,s5,-u3v,-u0F,-Res.bind_ok,-L2.go_ok,-Out.then_nx,bindN,goN,thenN]
def u8V {a2d:FD} (a2x:Callee P w K mg base 1 "_law_cell" ["_law_script","_law_k"] (spF K a2d)) {a2c:FD} (a2w:Callee P w K mg base 1 "_law_stir" ["_law_cell_here","_law_k"] (spF K a2c)) (a3s:∀(ns:List Int) (k:Nat),∃c:Int,a2d [scr ns,dN k]=.ok (.int c)) (a3q:∀(c:Int) (k:Nat),k<=100->∃n:Int,a2c [.int c,dN k]=.ok (.int n)) (F:Fun K "_law_row" "_law_row" u3J f fd) (T:Txt P w K mg A):∃G,FnOk P w K mg base CX0 2 f fd ["_law_script","_law_at","_law_base","_law_count"] (spF K G)/\Row G:=by
 refine⟨_,F.okT (k:=1) u1b (λcdv Ar outer s H E hr=>u0c (ds_n u1b.nd (d_fn a2x hr (u0a (dv 0) (u0a (dv 1) u0b))))
  (u0c (ds_n u1b.nd (d_op o_sub (dv 4) (d_op o_pow u0g u0g)))
  (u0c (u1X u1b.nd (u8o u0b))
  (u0c (u1j rfl (u2x T.z_range (u0a (dv 3) u0b)) (dg_n u1b.nd)
  (u0e (u0W (u0A o_ge (dv 4) (d_op o_pow u0g u0g)) (u0c (u8n 6 (d_op u2j (dv 5) (dv 2)))
    (u0e (ds_n u1b.nd (d_op u7k (dv 5) (dv 2))))) (u0e (u8n 6 (d_op u2j (d_op u7k (d_fn a2w hr (u0a (dv 4) (u0a (dv 7) u0b))) u0g) (dv 2)))))))
  (u0e (u0o (dv 6))))))),?_⟩
 intro ns i b n hb hb2 hn;obtain⟨c,ec⟩:=a3s ns i;have cp:CPow 10 18:=by decide
 have hn':(-(2^62:Int))<=(n:Int)/\(n:Int)<2^62:=by omega
 have r0:dPow (.int 10) (.int 18)=.ok (.int 1000000000000000000):=by
  show gd _ _=_;rw[u0r cp];rfl
 simp[runT,startD,ec,r0,rng_n (show n<=1000 by omega),-u3v,-u0F,-Res.bind_ok,-L2.go_ok,-Out.then_nx,bindN,goN,thenN]
 generalize hI:forD _ _ _ _=o;have q:Qrow b n o:=by
  rw[<- hI];refine u8g (Srow ns i b n c) (Qrow b n) ⟨_,[],none,rfl,rfl,λx h=>(nomatch h)⟩ ?_ ?_
  ·rintro ρ ⟨l,rs,y,rfl,h1,h2⟩
   exact⟨_,rs,rfl,rfl,h1,h2⟩
  ·rintro k ρ hk ⟨l,rs,y,rfl,h1,h2⟩
   refine⟨_,rfl,.inl ?_⟩;have hb':(0:Int)<b:=by omega
   have hs:rs.length<sizeLine:=w5 (show rs.length<1000 by omega) (by decide)
   have cd:CDivB l b:=by unfold CDivB;omega
   by_cases hc':(1000000000000000000:Int)<=c
   ·obtain ⟨m,e,hm⟩:=modI l (b:=b) hb
    skip
    have r1:dMod (.int l) (.int b)=.ok (.int m):=by rw[u1p hb',e]
    have r2:dDiv (.int l) (.int b)=.ok (.int (l / b)):=by rw[u4R hb' (by omega)]
    refine⟨_,by simp[hc',r0,r1,r2,hs,-u3v,-u0F,-Res.bind_ok,-L2.go_ok,-Out.then_nx,bindN,goN,thenN];rfl,l / b,rs++[m],some (.val (dN k)),by simp,by simp[h1],λx hx=>?_⟩
    rcases z0G.mp hx with h|h
    ·exact h2 x h
    ·rw[v9.mp h];exact hm
   ·obtain ⟨t,et⟩:=a3q c k (by omega)
    obtain⟨m,e,hm⟩:=modI (t / 8) (b:=b) hb;have cd8:CDivB t 8:=by unfold CDivB;omega
    skip
    have r1:dMod (.int (t / 8)) (.int b)=.ok (.int m):=by rw[u1p hb',e]
    have r2:dDiv (.int t) (.int 8)=.ok (.int (t / 8)):=by rw[u4R (by omega) (by omega)]
    refine⟨_,by simp[hc',r0,r1,r2,hs,et,-u3v,-u0F,-Res.bind_ok,-L2.go_ok,-Out.then_nx,bindN,goN,thenN];rfl,l,rs++[m],some (.val (dN k)),by simp,by simp[h1],λx hx=>?_⟩
    rcases z0G.mp hx with h|h
    ·exact h2 x h
    ·rw[v9.mp h];exact hm
 obtain⟨ρ,rs,rfl,g,h1,h2⟩:=q;exact⟨rs,by simp[g],h1,h2⟩
end
noncomputable def optD:Option Nat->D
 | none=>.non
 | some n=>dN n
noncomputable def rkS (kk:List RR) (z:Str):Option Nat:=kk.findIdx? λp=>decide (z∈p.2)
noncomputable abbrev gI (A:Adr) (rs kk:List RR):D:=.ins A.Grammar (gFlds (dR rs) (dR kk))
structure GG (rs kk:List RR):Prop where
 f:Few rs
 k:∀q∈kk,∀b∈q.2,goodS b=true
def u2V {A:Adr} (rs kk:List RR):fldD A.Grammar "rules" (gI A rs kk)=.ok (.tup (rs.map rT)):=by
 simp[fldD,gFlds,List.lookup,itemsD]
def v1a {A:Adr} (rs kk:List RR):fldD A.Grammar "ranks" (gI A rs kk)=.ok (.tup (kk.map rT)):=by
 have:(Str.ofString "ranks"==Str.ofString "rules")=false:=by decide +kernel
 simp[fldD,gFlds,List.lookup,itemsD,toldD,this]
def v0M {A:Adr}{m:Str} (h:(m=="rules")=false/\(m=="ranks")=false/\(m=="start")=false) (rs kk:List RR):isI A.Grammar m (gI A rs kk)=.ok (gI A rs kk):=by
 have:(gFlds (dR rs) (dR kk)).lookup m=none:=by
  unfold gFlds;rw[t9,h.1,t9,h.2.1,t9,h.2.2];rfl
 show(if A.Grammar=A.Grammar/\_ then Res.ok _ else .bad)=_
 rw[if_pos ⟨rfl,this⟩]
@[simp] theorem isI_heads {A:Adr} (rs kk:List RR):isI A.Grammar (Str.ofString "heads") (gI A rs kk)=.ok (gI A rs kk):=v0M ⟨by decide +kernel,by decide +kernel,by decide +kernel⟩ rs kk
@[simp] theorem isI_signs {A:Adr} (rs kk:List RR):isI A.Grammar (Str.ofString "signs") (gI A rs kk)=.ok (gI A rs kk):=v0M ⟨by decide +kernel,by decide +kernel,by decide +kernel⟩ rs kk
@[simp] theorem isI_rank_of {A:Adr} (rs kk:List RR):isI A.Grammar (Str.ofString "rank_of") (gI A rs kk)=.ok (gI A rs kk):=v0M ⟨by decide +kernel,by decide +kernel,by decide +kernel⟩ rs kk
def rk_step (z:Str) (k:Nat) (p:RR) (kk:List RR):(rkS (p::kk) z).map (·+k)=if z∈p.2 then some k else (rkS kk z).map (·+(k+1)):=by
 unfold rkS;rw[List.findIdx?_cons];by_cases c:z∈p.2
 ·simp[c]
 ·simp [c,Option.map_map,Function.comp_def]
  congr 1;funext x;omega
def u3z {z:Str}{hs:List Str} (g:goodS z=true) (gs:∀b∈hs,goodS b=true):dIn (.str z) (.tup (hs.map D.str))=.ok (.bl (decide (z∈hs))):=by
 show inD (.str z) (hs.map D.str) false=_;rw[v0R g gs];simp
def Srn (a:D) (z:Str) (r:Option Nat) (k:Nat) (ks:List RR) (ρ:Rho):Prop:=(∀p∈ks,∀b∈p.2,goodS b=true)/\r=(rkS ks z).map (·+k)/\∃x y,ρ=[some (.val a),some (.val (.str z)),x,y]
noncomputable def rolesS:List Bool->List Str
 | [true,false,true]=>["head","op","head"]
 | [false,true,false]=>["left","head","right"]
 | [false]=>["atom"]
 | _=>[]
set_option tactic.hygienic true in
def v2P (bs:List Bool):(lkB rolesL bs).getD (.tup [])=.tup ((rolesS bs).map D.str):=by
 unfold lkB rolesL;by_cases a:bs=[true,false,true]
 ·rw[a];rfl
 by_cases b:bs=[false,true,false]
 ·rw[b];rfl
 by_cases c:bs=[false]
 ·rw[c];rfl
 have e:rolesS bs=[]:=by
  unfold rolesS
  split<;>first|rfl|(rename_i h;first|exact absurd rfl a|exact absurd rfl b|exact absurd rfl c)|exact absurd rfl a|exact absurd rfl b|exact absurd rfl c
 rw[e];simp[z0E,Ne.symm a,Ne.symm b,Ne.symm c,λz=>a (Eq.symm z),λz=>b (Eq.symm z),λz=>c (Eq.symm z)]
theorem compF {γ:Type} (c:γ->D) (p:γ->Bool) (e:γ->D) {g:D->Rho->Res Rho}{fT:Rho->Res Bool}{fe:Rho->Res D}{ρ:Rho}:∀{xs:List γ},(∀x∈xs,∃ρ1,g (c x) ρ=.ok ρ1/\fT (frz ρ1)=.ok (p x)/\(p x=true->fe ρ1=.ok (e x)))->compD g fT fe ρ (xs.map c)=.ok ((xs.filter p).map e)
 | [],_=>rfl
 | x::xs,k=>by
  obtain⟨ρ1,k1,k2,k3⟩:=k x z8;have ih:=compF c p e (xs:=xs) λy hy=>k y (y1 _ hy)
  cases h:p x with
  | true=>simp[compD,k1,k2,h,k3 h,ih]
  | false=>simp[compD,k1,k2,h,ih]
def compM {γ:Type} (c:γ->D) (e:γ->D) {g:D->Rho->Res Rho}{fT:Rho->Res Bool}{fe:Rho->Res D}{ρ:Rho}{xs:List γ} (h:∀x∈xs,∃ρ1,g (c x) ρ=.ok ρ1/\fT (frz ρ1)=.ok true/\fe ρ1=.ok (e x)):compD g fT fe ρ (xs.map c)=.ok (xs.map e):=by
 rw[compF c (λ_=>true) e λx hx=>?_,List.filter_eq_self.mpr λ_ _=>rfl]
 obtain⟨ρ1,a,b,d⟩:=h x hx;exact⟨ρ1,a,b,λ_=>d⟩
section
variable {P:Program}{w:World}{K:W.Frag}{mg:MG}{base:Heap}{f:Addr}{fd:FuncData}{A:Adr}
def v2q {a0e:FD} (a0o:Callee P w K mg base 1 "heads_in" ["rules"] (spF K a0e)) (a0u:∀(rs:List RR) (d:D),items d=.ok (rs.map rT)->rs.length<64->a0e [d]=.ok (.lst ((headsL rs).map D.str))) (F:Fun K "heads" "Grammar.heads" u3I f fd) (T:Txt P w K mg A):∃G,FnOk P w K mg base CX0 2 f fd ["self"] (spF K G)/\∀rs kk,GG rs kk->G [gI A rs kk]=.ok (.lst ((headsL rs).map D.str)):=by
 refine⟨_,F.okT (k:=1) u8K (λcdv Ar outer s H E hr=>u0e (u0o (d_fn a0o hr (u0a (u4s T.cls T.na_rules (dv 0)) u0b)))),?_⟩
 intro rs kk g
 have:=g.f.n
 simp[runT,startD,u2V,a0u rs (.tup (rs.map rT)) rfl (by omega)]
def v2p {a0q:FD} (a1g:Callee P w K mg base 3 "signs_in" ["rules"] (spF K a0q)) (a1c:∀(rs:List RR) (d:D),items d=.ok (rs.map rT)->Few rs->a0q [d]=.ok (.lst ((sortT (sgL [] rs)).map D.str))) (F:Fun K "signs" "Grammar.signs" u3H f fd) (T:Txt P w K mg A):∃G,FnOk P w K mg base CX0 4 f fd ["self"] (spF K G)/\∀rs kk,GG rs kk->G [gI A rs kk]=.ok (.lst ((sortT (sgL [] rs)).map D.str)):=by
 refine⟨_,F.okT (k:=3) u8J (λcdv Ar outer s H E hr=>u0e (u0o (d_fn a1g hr (u0a (u4s T.cls T.na_rules (dv 0)) u0b)))),?_⟩
 intro rs kk g;simp[runT,startD,u2V,a1c rs (.tup (rs.map rT)) rfl g.f]
def u9g {a0b:FD} (a0g:Callee P w K mg base 2 "is_sign" ["thing"] (spF K a0b)) (a0f:P1 sgnD a0b) (F:Fun K "rank_of" "Grammar.rank_of" u2b f fd) (T:Txt P w K mg A):∃G,FnOk P w K mg base CX0 3 f fd ["self","sign"] (spF K G)/\∀rs kk z,GG rs kk->goodS z=true->sgnS z=true->G [gI A rs kk,.str z]=.ok (optD (rkS kk z)):=by
 refine⟨_,F.okT (k:=2) u1H (λcdv Ar outer s H E hr=>u0c (u0W (u1W (u1x (d_fn a0g hr (u0a (dv 1) u0b)))) (u0e (u0o u6s)) u0D)
  (u0c (u1j rfl (v3P T.z_enumerate (u0a (u4s T.cls T.na_ranks (dv 0)) u0b)) (u4h (n:=2) rfl (u0y (dg_n u1H.nd) (u0y (dg_n u1H.nd) u2p)))
  (u0e (u0W (u0A (o_in (hu100 hr)) (dv 1) (d_ix x_ix (dv 3) u0g)) (u0e (u0o (dv 2))) u0D)))
  (u0e (u0o u6s)))),?_⟩
 intro rs kk z g gz sz;simp[runT,startD,a0f (.str z) (by simpa[goodD] using gz),sgnD,sz,v1a]
 rw[show enum2 [.tup (kk.map rT)]=.ok (enumL (kk.map rT)) from rfl,go_ok]
 unfold enumL;refine u5s rT (Srn (gI A rs kk) z (rkS kk z)) (λo=>noE (outR (o.andThen λρ=>Out.rt .non))=.ok (optD (rkS kk z))) ?_ ?_ kk 0 _ ⟨g.k,by simp,none,none,rfl⟩
 ·rintro k ρ ⟨_,e,x,y,rfl⟩
  have:rkS kk z=none:=e
  simp[this,optD]
 ·rintro k p ps ρ ⟨gs,e,x,y,rfl⟩
  refine⟨_,rfl,?_⟩;rw[rk_step] at e;by_cases c:z∈p.2
  ·rw [if_pos c] at e
   refine .inr ⟨dN k,by simp[rT,ix_1,u3z gz (gs p z8),c],?_⟩
   simp[e,optD]
  ·rw [if_neg c] at e
   exact .inl ⟨_,by simp[rT,ix_1,u3z gz (gs p z8),c];exact⟨rfl,rfl⟩,λq hq=>gs q (y1 _ hq),e,_,_,rfl⟩
def u7d {a0a:FD} (a0h:Callee P w K mg base 2 "is_head" ["thing"] (spF K a0a)) (a0d:P1 hdD a0a) (F:Fun K "roles_in" "roles_in" u1R f fd) (T:Txt P w K mg A):∃G,FnOk P w K mg base CX0 3 f fd ["body"] (spF K G)/\∀bs:List Str,bs.length<=4->(∀b∈bs,goodS b=true)->G [.tup (bs.map D.str)]=.ok (.tup ((rolesS (bs.map hdS)).map D.str)):=by
 refine⟨_,F.okT (k:=2) u6S (λcdv Ar outer s H E hr=>u0e (u0o (d_getB (hu1 hr) T.d_roles (d_T u2r T.z_tuple (by decide +kernel) (u0a (DN.de (u0I ["symbol"] [] rfl (u0l (sc:=defScope u1R) (N:=["body"]) (by decide +kernel)) (u0B (dv 0)) (dg_n (show(["symbol"]:List Str).Nodup by decide +kernel)) u1k (d_fn a0h hr (u0a (dv 0) u0b)))) u0b)) (u1a u0b)))),?_⟩
 intro bs hl gs;simp[runT,startD];rw[u0r (u0q (by omega)),compM D.str (λb=>D.bl (hdS b)) λb hb=>⟨_,rfl,rfl,by simp[rhoC,a0d (.str b) (by simpa[goodD] using gs b hb),hdD]⟩]
 have:gGetB rolesL (.tup (bs.map λb=>D.bl (hdS b))) (.tup [])=.ok (.tup ((rolesS (bs.map hdS)).map D.str)):=by
  unfold gGetB blsT;simp only[u1O hdS bs];exact congrArg Res.ok (v2P _)
 simp[OD.toD,gTuple,this]
abbrev Sp3:=Str×Str×Nat
noncomputable def spT (q:Sp3):D:=.tup [.str q.1,.str q.2.1,dN q.2.2]
noncomputable def spotsP (k:Nat) (bs:List Str):List Sp3:=((bs.zip (rolesS (bs.map hdS))).filter λq=>!(q.2==("head":Str))).map λq=>(q.1,q.2,k)
noncomputable def spotsL:Nat->List RR->List Sp3
 | _,[]=>[]
 | k,p::rs=>spotsP k p.2++spotsL (k+1) rs
def u2I (bs:List Bool):∀r∈rolesS bs,goodS r=true:=by
 unfold rolesS
 split<;>decide +kernel
def u8i {a b:Str} (h:goodS a=true) (k:goodS b=true):dEq (.str a) (.str b)=.ok (.bl (a==b)):=by
 simp only[goodS,z0A] at h k;unfold dEq;rw[u1u h.1,u1u k.1];rfl
def ne_str {a b:Str} (h:goodS a=true) (k:goodS b=true):dNe (.str a) (.str b)=.ok (.bl (!(a==b))):=by
 simp only[goodS,z0A] at h k;unfold dNe;rw[u1u h.1,u1u k.1];rfl
def Ssp (A:Adr) (rs kk:List RR) (all:List Sp3) (k:Nat) (ps:List RR) (ρ:Rho):Prop:=(∀p∈ps,OkR p)/\∃ys x y,all=ys++spotsL k ps/\ys.length<=4*k/\k+ps.length<=20/\ρ=[some (.val (gI A rs kk)),some (.own (.l (ys.map spT))),x,y]
def u4y (k:Nat) (bs:List Str) (h:bs.length<=4):(spotsP k bs).length<=4:=by
 unfold spotsP;rw[v8];refine v7 (List.length_filter_le _ _) ?_;rw[List.length_zip];omega
def u7b {a0r:FD} (a1h:Callee P w K mg base 3 "roles_in" ["body"] (spF K a0r)) (a2r:∀bs:List Str,bs.length<=4->(∀b∈bs,goodS b=true)->a0r [.tup (bs.map D.str)]=.ok (.tup ((rolesS (bs.map hdS)).map D.str))) (F:Fun K "spots_in" "spots_in" u1Q f fd) (T:Txt P w K mg A):∃G,FnOk P w K mg base CX0 4 f fd ["grammar"] (spF K G)/\∀rs kk,GG rs kk->G [gI A rs kk]=.ok (.lst ((spotsL 0 rs).map spT)):=by
 refine⟨_,F.okT (k:=3) u1y (λcdv Ar outer s H E hr=>u0c (u1X u1y.nd (u8o u0b))
  (u0c (u1j rfl (v3P T.z_enumerate (u0a (u4s T.cls T.na_rules (dv 0)) u0b)) (u4h (n:=2) rfl (u0y (dg_n u1y.nd) (u0y (dg_n u1y.nd) u2p)))
  (u0e (ds_ext 1 (DN.de (u0I ["symbol","role"] [2] rfl (u0l (sc:=defScope u1Q) (N:=["grammar","told","number","rule"]) (by decide +kernel)) (di_zip T.z_zip (u0a (d_ix x_ix (dv 3) u0g) (u0a (d_fn a1h hr (u0a (d_ix x_ix (dv 3) u0g) u0b)) u0b))) (u4h (n:=2) rfl (u0y (dg_n (show(["symbol","role","number"]:List Str).Nodup by decide +kernel)) (u0y (dg_n (show(["symbol","role","number"]:List Str).Nodup by decide +kernel)) u2p))) (u8r (u0A (o_ne (hu64 hr)) (dv 1) u0s)) (u1a (u0a (dv 0) (u0a (dv 1) (u0a (dv 2) u0b)))))))))
  (u0e (u0o (dv 1))))),?_⟩
 intro rs kk g;simp[runT,startD,u2V];rw[show enum2 [.tup (rs.map rT)]=.ok (enumL (rs.map rT)) from rfl,go_ok]
 unfold enumL;refine u5s rT (Ssp A rs kk (spotsL 0 rs)) (λo=>noE (outR (o.andThen λρ=>(getV (frz ρ) 1).go ρ λd=>Out.rt d))=.ok (.lst ((spotsL 0 rs).map spT))) ?_ ?_ rs 0 _ ⟨g.f.ok,[],none,none,rfl,by simp,by have:=g.f.n;simpa using this,rfl⟩
 ·rintro k ρ ⟨_,ys,x,y,e,_,_,rfl⟩
  simp[e,spotsL,OD.toD]
 ·rintro k p ps ρ ⟨ok,ys,x,y,e,h1,h2,rfl⟩
  have op:=ok p z8;refine⟨_,rfl,.inl ?_⟩;have z2:zip2 [.tup (p.2.map D.str),.tup ((rolesS (p.2.map hdS)).map D.str)]=.ok ((p.2.zip (rolesS (p.2.map hdS))).map λq=>.tup [.str q.1,.str q.2]):=by
   show Res.ok (zipL _ _)=_;unfold zipL;rw[List.zip_map,z1C];rfl
  have hp:=u4y k p.2 op.l;have hz:(p.2.zip (rolesS (p.2.map hdS))).length<=4:=by rw[List.length_zip];have:=op.l;omega
  simp[rT,ix_1,a2r p.2 op.l op.gs,z2,getL];rw[u0r (u0q (by have:=op.l;omega)),compF (λq:Str×Str=>D.tup [.str q.1,.str q.2]) (λq=>!(q.2==("head":Str))) (λq=>spT (q.1,q.2,k)) λq hq=>⟨_,rfl,by simp[rhoC,ne_str (u2I _ q.2 (List.of_mem_zip hq).2) (show goodS "head"=true by decide +kernel)],λ_=>by simp[rhoC,spT]⟩]
  rw[show((p.2.zip (rolesS (p.2.map hdS))).filter λq=>!(q.2==("head":Str))).map (λq=>spT (q.1,q.2,k))=(spotsP k p.2).map spT from by unfold spotsP;rw[z1C];rfl]
  simp only[s9] at h2;simp[OD.toD,if_pos (u0q (show ys.length+(spotsP k p.2).length<=1000 by omega))]
  refine⟨λq hq=>ok q (y1 _ hq),ys++spotsP k p.2,_,_,by rw[e,spotsL,List.append_assoc],by rw[z0F];omega,by omega,by rw[z0J]⟩
end
noncomputable def rolesB (p:RR):List Str:=rolesS (p.2.map hdS)
noncomputable def hasAtom (sp:List Sp3):Bool:=decide (("atom":Str)∈sp.map λq=>q.2.1)
noncomputable def isOps (rs kk:List RR):Bool :=
 if (decide ((headsL rs).length > 1)||rs.any λp=>(rolesB p).length==0)=true then false
 else if (decide ((spotsL 0 rs).length > (sgL [] rs).length)||!hasAtom (spotsL 0 rs))=true then false
 else (spotsL 0 rs).all λq=>(rkS kk q.1).isSome==(q.2.1==("op":Str))
def spot_sg {bs:List Str}{z r:Str} (h:(z,r)∈bs.zip (rolesS (bs.map hdS))) (hr:(r==("head":Str))=false):hdS z=false:=by
 match bs with
 | []=>simp at h
 | [a] =>
  cases ha:hdS a
  ·simp [ha,rolesS] at h
   rw[h.1];exact ha
  ·simp[ha,rolesS] at h
 | [a,b]=>simp[rolesS] at h
 | [a,b,c] =>
  cases ha:hdS a<;>cases hb:hdS b<;>cases hc:hdS c<;>simp[ha,hb,hc,rolesS] at h
  ·rcases h with ⟨rfl,rfl⟩ | ⟨rfl,rfl⟩ | ⟨rfl,rfl⟩
   ·exact ha
   ·simp at hr
   ·exact hc
  ·rcases h with ⟨rfl,rfl⟩ | ⟨rfl,rfl⟩ | ⟨rfl,rfl⟩
   ·simp at hr
   ·exact hb
   ·simp at hr
 | a::b::c::d::l=>simp[rolesS] at h
theorem u6L:∀{rs:List RR}{k:Nat}{q:Sp3},q∈spotsL k rs->∃p∈rs,q.1∈p.2/\hdS q.1=false/\q.2.1∈rolesB p
 | [],_,_,h=>by cases h
 | p::rs,k,q,h=>by
  rcases z0G.mp h with h|h
  ·obtain ⟨⟨z,r⟩,hm,rfl⟩:=z0C.mp h
   obtain⟨h1,h2⟩:=z1G.mp hm;exact⟨p,z8,(List.of_mem_zip h1).1,spot_sg h1 (by simpa using h2),(List.of_mem_zip h1).2⟩
  ·obtain ⟨p',h1,h2⟩:=u6L h
   exact⟨p',y1 _ h1,h2⟩
theorem u3C:∀{rs:List RR}{k:Nat},(∀p∈rs,OkR p)->(spotsL k rs).length<=4*rs.length
 | [],_,_=>z1A _
 | p::rs,k,h=>by
  have:=u4y k p.2 (h p z8).l
  have:=u3C (rs:=rs) (k:=k+1) λq hq=>h q (y1 _ hq)
  simp only[spotsL,z0F,s9];omega
def z0 (n:Nat):((n:Int)==0)=(n==0):=by cases n<;>rfl
def orB (i j:Nat) (b:Bool):(if (i:Int)<(j:Int) then Res.ok true else asB (D.bl b))=.ok (decide (j > i)||b):=by
 by_cases c:i<j
 ·rw[if_pos (by omega),decide_eq_true (show j > i from c)];rfl
 ·rw[if_neg (by omega),decide_eq_false (show ¬ j > i from c)];cases b<;>rfl
def orN (i j:Nat) (b:Bool):(if i<j then Res.ok true else asB (D.bl b))=.ok (decide (j > i)||b):=by
 by_cases c:i<j
 ·rw[if_pos c,decide_eq_true (show j > i from c)];rfl
 ·rw[if_neg c,decide_eq_false (show ¬ j > i from c)];cases b<;>rfl
def eq_bb (a b:Bool):dEq (.bl a) (.bl b)=.ok (.bl (a==b)):=by cases a<;>cases b<;>rfl
def v0J (r:Option Nat):dIsNot (optD r) .non=.ok (.bl r.isSome):=by cases r<;>rfl
section
variable {P:Program}{w:World}{K:W.Frag}{mg:MG}{base:Heap}{f:Addr}{fd:FuncData}{A:Adr}
def u3S {a0p:FD} (a1f:Callee P w K mg base 4 "spots_in" ["grammar"] (spF K a0p)) {a0r:FD} (a1h:Callee P w K mg base 3 "roles_in" ["body"] (spF K a0r)) {a2j:FD} (m_heads:MCalleeF P w K mg base 2 A.Grammar "heads" ["self"] a2j) {a2i:FD} (m_signs:MCalleeF P w K mg base 4 A.Grammar "signs" ["self"] a2i) {a1v:FD} (m_rank_of:MCalleeF P w K mg base 3 A.Grammar "rank_of" ["self","sign"] a1v) (a0u:∀rs kk,GG rs kk->a2j [gI A rs kk]=.ok (.lst ((headsL rs).map D.str))) (a1c:∀rs kk,GG rs kk->a2i [gI A rs kk]=.ok (.lst ((sortT (sgL [] rs)).map D.str))) (a1o:∀rs kk z,GG rs kk->goodS z=true->sgnS z=true->a1v [gI A rs kk,.str z]=.ok (optD (rkS kk z))) (a2r:∀bs:List Str,bs.length<=4->(∀b∈bs,goodS b=true)->a0r [.tup (bs.map D.str)]=.ok (.tup ((rolesS (bs.map hdS)).map D.str))) (a2p:∀rs kk,GG rs kk->a0p [gI A rs kk]=.ok (.lst ((spotsL 0 rs).map spT))) (F:Fun K "is_operators" "is_operators" u0C f fd) (T:Txt P w K mg A):∃G,FnOk P w K mg base CX0 5 f fd ["grammar"] (spF K G)/\∀rs kk,GG rs kk->G [gI A rs kk]=.ok (.bl (isOps rs kk)):=by
 refine⟨_,F.okT (k:=4) u1I (λcdv Ar outer s H E hr=>u0c (u0W (dt_w (dw_or (u0A o_gt (d_B u1G T.z_len (by decide +kernel) (u0a (v3m m_heads hr (dv 0)) u0b)) u0g) (v1j (u1x (d_B (c_any rfl) T.z_any (by decide +kernel) (u0a (DN.de (u0I ["rule"] [] rfl (u0l (sc:=defScope u0C) (N:=["grammar","spots"]) (by decide +kernel)) (u0B (u4s T.cls T.na_rules (dv 0))) (dg_n (show(["rule"]:List Str).Nodup by decide +kernel)) u1k (u2y (o_eq (hu64 hr)) (d_B u1G T.z_len (by decide +kernel) (u0a (d_fn a1h hr (u0a (d_ix x_ix (dv 0) u0g) u0b)) u0b)) u0g))) u0b)))))) (u0e (u0o d_bl)) u0D)
  (u0c (ds_n u1I.nd (d_fn a1f hr (u0a (dv 0) u0b)))
  (u0c (u0W (dt_w (dw_or (u0A o_gt (d_B u1G T.z_len (by decide +kernel) (u0a (dv 1) u0b)) (d_B u1G T.z_len (by decide +kernel) (u0a (v3m m_signs hr (dv 0)) u0b))) (v1j (u0A (v0t (hu100 hr)) u0s (DN.de (u0I ["spot"] [] rfl (u0l (sc:=defScope u0C) (N:=["grammar","spots"]) (by decide +kernel)) (u0B (dv 1)) (dg_n (show(["spot"]:List Str).Nodup by decide +kernel)) u1k (d_ix x_ix (dv 0) u0g))))))) (u0e (u0o d_bl)) u0D)
  (u0e (u0o (d_B (v1B rfl) T.z_all (by decide +kernel) (u0a (DN.de (u0I ["spot"] [0] rfl (u0l (sc:=defScope u0C) (N:=["grammar","spots"]) (by decide +kernel)) (u0B (dv 1)) (dg_n (show(["spot","grammar"]:List Str).Nodup by decide +kernel)) u1k (u2y (o_eq (hu64 hr)) (u2y o_isnot (d_mG m_rank_of hr (dv 1) (u0a (d_ix x_ix (dv 0) u0g) u0b)) u6s) (u2y (o_eq (hu64 hr)) (d_ix x_ix (dv 0) u0g) u0s)))) u0b))))))),?_⟩
 intro rs kk g;have hn:=g.f.n;have hs:=u3C (k:=0) g.f.ok;have ga:gAny [.lst (rs.map λp=>D.bl ((rolesB p).length==0))]=.ok (.bl (rs.any λp=>(rolesB p).length==0)):=by
  unfold gAny;simp only[u1O (λp:RR=>(rolesB p).length==0) rs,List.any_map]
  rfl
 have ni:dNotIn (.str "atom") (.lst ((spotsL 0 rs).map λq=>D.str q.2.1))=.ok (.bl (!hasAtom (spotsL 0 rs))):=by
  rw[show(spotsL 0 rs).map (λq=>D.str q.2.1)=((spotsL 0 rs).map λq=>q.2.1).map D.str from by rw[z1C];rfl]
  refine u4H (by decide +kernel) λb hb=>?_
  obtain⟨q,hq,rfl⟩:=z0C.mp hb;obtain⟨p,_,_,_,hr⟩:=u6L hq;exact u2I _ _ hr
 simp[runT,startD,a0u rs kk g,u2V];rw[u0r (u0q (by omega)),compM rT (λp=>D.bl ((rolesB p).length==0)) λp hp=>⟨_,rfl,rfl,by simp[rhoC,rT,ix_1,a2r p.2 (g.f.ok p hp).l (g.f.ok p hp).gs,v3J,rolesB,z0]⟩]
 simp only[Res.bind_ok,u3h,ga,u0S];have e1:=orB 1 (headsL rs).length (rs.any λp=>(rolesB p).length==0)
 rw[show((1:Nat):Int)=1 from rfl] at e1
 rw[e1];cases c1:(decide ((headsL rs).length > 1)||rs.any λp=>(rolesB p).length==0) with
 | true =>
  rw[show isOps rs kk=false from by unfold isOps;rw[if_pos c1]]
  simp
 | false =>
  simp[a2p rs kk g,a1c rs kk g,u1v];rw[u0r (u0q (by omega)),compM spT (λq=>D.str q.2.1) λq hq=>⟨_,rfl,rfl,by simp[rhoC,spT,ix_1]⟩]
  simp only[Res.bind_ok,u3h,ni,u0S];rw[orN];cases c2:(decide ((spotsL 0 rs).length > (sgL [] rs).length)||!hasAtom (spotsL 0 rs)) with
  | true =>
   rw[show isOps rs kk=false from by unfold isOps;rw[if_neg (by rw[c1];decide),if_pos c2]]
   simp
  | false =>
   rw[show isOps rs kk=(spotsL 0 rs).all λq=>(rkS kk q.1).isSome==(q.2.1==("op":Str)) from by unfold isOps;rw[if_neg (by rw[c1];decide),if_neg (by rw[c2];decide)]]
   simp;rw[u0r (u0q (by omega)),compM spT (λq=>D.bl ((rkS kk q.1).isSome==(q.2.1==("op":Str)))) λq hq=>⟨_,rfl,rfl,?_⟩]
   ·have:gAll [.lst ((spotsL 0 rs).map λq=>D.bl ((rkS kk q.1).isSome==(q.2.1==("op":Str))))]=.ok (.bl ((spotsL 0 rs).all λq=>(rkS kk q.1).isSome==(q.2.1==("op":Str)))):=by
     unfold gAll;simp only[u1O (λq:Sp3=>(rkS kk q.1).isSome==(q.2.1==("op":Str))) (spotsL 0 rs),List.all_map]
     rfl
    simp[u3h,this]
   ·obtain ⟨p,hp,hz,hh,hr⟩:=u6L hq
    have ok:=g.f.ok p hp;have sz:sgnS q.1=true:=by have:=ok.s _ hz;simpa[hh] using this
    simp[rhoC,spT,ix_0,ix_1,a1o rs kk q.1 g (ok.gs _ hz) sz,u8i (u2I _ _ hr) (show goodS "op"=true by decide +kernel),v0J,eq_bb]
end
noncomputable def btw (h:Str):List Str->Bool
 | [a,_,c]=>a==h&&c==h
 | _=>false
noncomputable def need (b:Bool):Nat->Int
 | 0=>0
 | 1=>1
 | 2=>9
 | 3=>2 - if b then 1 else 0
 | _=>9
noncomputable def sgnsOf (h:Str) (bs:List Str):List Str:=bs.filter λb=>!(b==h)
noncomputable def fit1 (h:Str) (p:RR):Bool:=!(p.1==h)||(!(((sgnsOf h p.2).length:Int)==need (btw h p.2) p.2.length)||p.2.length==0)
noncomputable def fit2 (h:Str):List Str->Bool
 | [a,b,c]=>!(a==h&&c==h)&&!(b==h)
 | _=>false
noncomputable def fitB (h:Str) (kk:List RR) (p:RR):Bool:=if fit1 h p=true then false else if fit2 h p.2=true then false else decide ((sgnsOf h p.2).map (λz=>(rkS kk z).isSome)=List.replicate (sgnsOf h p.2).length (btw h p.2))
structure Sy (h b:Str):Prop where
 g:goodS b=true
 l:shortS b=true
 f:goodS (fstC b)=true
 d:b≠h->(fstC b==fstC h)=false
structure Hy (h:Str):Prop where
 g:goodS h=true
 f:goodS (fstC h)=true
 l:shortS h=true
structure Rk (h:Str) (rs kk:List RR):Prop where
 hy:Hy h
 n:rs.length<=9
 f:∃b rest,rs=(h,b)::rest
 r:∀p∈rs,goodS p.1=true/\p.2.length<=4/\∀b∈p.2,Sy h b
 k:∀q∈kk,∀b∈q.2,goodS b=true
noncomputable def allS (h:Str) (rs:List RR):List Str:=rs.flatMap λp=>sgnsOf h p.2
inductive Sdu (h:Str) (rs kk:List RR) (xs:List RR) (ρ:Rho):Prop
 | mk (ys:List Str) (y:Option Sl) (e1:allS h rs=ys++allS h xs) (e2:rs.all (fitB h kk)=xs.all (fitB h kk)) (e3:∀p∈xs,p∈rs) (e4:ys.length+4*xs.length<=36) (e:ρ=[some (.val (dR rs)),some (.val (dR kk)),some (.val (.str h)),some (.own (.l (ys.map D.str))),y])
inductive Qdu (h:Str) (rs kk:List RR) (o:Out):Prop
 | on (y:Option Sl) (e1:rs.all (fitB h kk)=true) (e2:(allS h rs).length<=36) (e:o=.nx [some (.val (dR rs)),some (.val (dR kk)),some (.val (.str h)),some (.own (.l ((allS h rs).map D.str))),y])
 | off (e1:rs.all (fitB h kk)=false) (e:o=.rt (.bl false))
set_option tactic.hygienic true in
def v1f (i j:Int):dEqX (.int i) (.int j)=.ok (.bl (i==j)):=by
 unfold dEqX;rw[if_neg (show ¬ lenNe (.int i) (.int j)=true from q9)]
 split
 ·rename_i h
  rw[D.int.inj h.1];simp
 ·rfl
def v3U (a b:Nat):((a:Int)==(b:Int))=decide (a=b):=by
 by_cases c:a=b
 ·simp[c]
 ·rw [decide_eq_false c]
  exact beq_eq_false_iff_ne.mpr (by omega)
def z1 (n:Nat):((n:Int)==1)=(n==1):=by
 rw[show(1:Int)=((1:Nat):Int) from rfl,v3U]
 rfl
noncomputable def gLeaf:List D->Res (List (Str×D))
 | [d]=>.ok [("sign",d),("tree_size",.int 1),("tree_depth",.int 1)]
 | _=>.bad
noncomputable def lfD (A:Adr) (s:Str):D:=.ins A.Leaf [("sign",.str s),("tree_size",.int 1),("tree_depth",.int 1)]
open Classical in
noncomputable def gNode (A:Adr):List D->Res (List (Str×D))
 | [n,.lst [d]]=>if ∃s,d=lfD A s then .ok [("number",n),("children",.tup [d]),("tree_size",.int 2),("tree_depth",.int 2)] else .bad
 | _=>.bad
def v3f {A:Adr}{n d:D}{s:Str} (e:d=lfD A s):gNode A [n,.lst [d]]=.ok [("number",n),("children",.tup [d]),("tree_size",.int 2),("tree_depth",.int 2)]:=if_pos ⟨s,e⟩
set_option tactic.hygienic true in
def u8c {A:Adr}{ds:List D}{gs:List (Str×D)} (h:gNode A ds=.ok gs):∃n s,ds=[n,.lst [lfD A s]]/\gs=([("number",n),("children",.tup [lfD A s]),("tree_size",.int 2),("tree_depth",.int 2)]:List (Str×D)):=by
 unfold gNode at h;split at h
 ·split at h
  ·rename_i c
   obtain⟨s,rfl⟩:=c;cases h;exact⟨_,s,rfl,rfl⟩
  ·cases h
 ·cases h
def getI0 (a C:Addr) (gs:List (Str×D)) (ρ:Rho):getI (some (.own (.i a C gs))::ρ) 0=.ok (a,C,gs):=rfl
def outI0 (a C:Addr) (gs:List (Str×D)) (ρ:Rho):outI a C (.nx (some (.own (.i a C gs))::ρ))=.ok gs:=if_pos ⟨rfl,rfl⟩
def u7M (f:Str) (d:D):putG f d []=[(f,d)]:=rfl
def u1A {f g:Str}{d x:D}{r:List (Str×D)} (h:g≠f):putG f d ((g,x)::r)=(g,x)::putG f d r:=if_neg h
def u7o {f g:Str}{x:D}{r:List (Str×D)} (h:f≠g):List.lookup f ((g,x)::r)=List.lookup f r:=by rw[t9,beq_false_of_ne h]
def lk_eq {f:Str}{x:D}{r:List (Str×D)}:List.lookup f ((f,x)::r)=some x:=by rw[t9];simp
section
variable {P:Program}{w:World}{K:W.Frag}{mg:MG}{base:Heap}{f:Addr}{fd:FuncData}{A:Adr}
def u5V (F:Fun K "size" "Tree.size" u2f f fd) (T:Txt P w K mg A):∃G,FnOk P w K mg base CX0 1 f fd ["self"] (spF K G)/\∀s,G [lfD A s]=.ok (.int 1):=by
 refine⟨_,F.okT (k:=0) u5N (λcdv Ar outer s H E hr=>u0e (u0o (u4s T.c_Leaf T.na_Leaf_tree_size (dv 0)))),λs=>?_⟩
 have n1:("tree_size":Str)≠"sign":=by decide +kernel
 simp[runT,startD,fldD,lfD,u7o n1,lk_eq]
def u5f (F:Fun K "depth" "Tree.depth" u1L f fd) (T:Txt P w K mg A):∃G,FnOk P w K mg base CX0 1 f fd ["self"] (spF K G)/\∀s,G [lfD A s]=.ok (.int 1):=by
 refine⟨_,F.okT (k:=0) u5a (λcdv Ar outer s H E hr=>u0e (u0o (u4s T.c_Leaf T.na_Leaf_tree_depth (dv 0)))),λs=>?_⟩
 have n1:("tree_depth":Str)≠"sign":=by decide +kernel
 have n2:("tree_depth":Str)≠"tree_size":=by decide +kernel
 simp[runT,startD,fldD,lfD,u7o n1,u7o n2,lk_eq]
def pr_Leaf (F:Fun K "__init__" "Leaf.__init__" u2g f fd) (T:Txt P w K mg A):FnOk P w K mg base CX0 1 f fd ["self","sign"] (spIni K A.Leaf gLeaf) :=
 F.d.okI0 (k:=0) u5O (λds gs h=>by
  match ds,h with
  | [d],h=>rfl
  | [],h=>cases h
  | _::_::_,h=>cases h) (λcdv Ar outer s H E hr=>⟨_,u0c (u1Y 0 T.c_Leaf T.na_Leaf_sign (dv 1))
  (u0c (u1Y 0 T.c_Leaf T.na_Leaf_tree_size u0g)
  (u0e (u1Y 0 T.c_Leaf T.na_Leaf_tree_depth u0g))),λa ds gs h=>by
  match ds,h with
  | [d],h =>
   cases h;have n1:("sign":Str)≠"tree_size":=by decide +kernel
   have n2:("sign":Str)≠"tree_depth":=by decide +kernel
   have n3:("tree_size":Str)≠"tree_depth":=by decide +kernel
   simp[startI,startD,getI0,outI0,u7M,u1A n1,u1A n2,u1A n3]
  | [],h=>cases h
  | _::_::_,h=>cases h⟩)
def comp1 {fT:Rho->Res Bool}{fe:Rho->Res D}{d y:D} (k1:fT [some (.val d)]=.ok true) (k2:fe [some (.val d)]=.ok y):compD (λd ρ=>.ok (ρ.set 0 (some (.val d)))) fT fe [none] [d]=.ok [y] :=
 u1l (λ_=>y) λd' hd=>by
  rw[v9.mp hd];exact⟨[some (.val d)],rfl,k1,k2⟩
def v0B {A:Adr}{s m:Str}{g:FD}{v:D} (h1:m≠"sign") (h2:m≠"tree_size") (h3:m≠"tree_depth") (p:g [lfD A s]=.ok v):((isI A.Leaf m (lfD A s)).bind λy=>noE (g [y]))=.ok v:=by
 have e:isI A.Leaf m (lfD A s)=.ok (lfD A s):=by
  unfold isI lfD;simp only[u7o h1,u7o h2,u7o h3,List.lookup_nil,and_true];exact if_pos trivial
 rw[e];show noE (g [lfD A s])=_;rw[p];rfl
def pr_Node {g_size:FD} (m_size:MCalleeF P w K mg base 1 A.Leaf "size" ["self"] g_size) {g_depth:FD} (m_depth:MCalleeF P w K mg base 1 A.Leaf "depth" ["self"] g_depth) (a3b:∀s,g_size [lfD A s]=.ok (.int 1)) (a2u:∀s,g_depth [lfD A s]=.ok (.int 1)) (F:Fun K "__init__" "Node.__init__" u0R f fd) (T:Txt P w K mg A):FnOk P w K mg base CX0 2 f fd ["self","number","children"] (spIni K A.Node (gNode A)) :=
 F.d.okI0 (k:=1) u3b (λds gs h=>by
  obtain⟨n,s,rfl,_⟩:=u8c h
  rfl) (λcdv Ar outer s H E hr=>⟨_,u0c (u1Y 0 T.c_Node T.na_Node_number (dv 1))
  (u0c (u1Y 0 T.c_Node T.na_Node_children (d_T u2r T.z_tuple (by decide +kernel) (u0a (dv 2) u0b)))
  (u0c (u8m ["child"] [] rfl (u0l (sc:=defScope u0R) (N:=["self","number","children","trees"]) (by decide +kernel)) u3b.nd (u0B (v3T 0 T.c_Node T.na_Node_children)) (dg_n (show(["child"]:List Str).Nodup by decide +kernel)) (u8r (u1x (v1r T.o_Tree T.m_Tree T.z_isinstance (by decide +kernel) (dv 0)))) (dv 0))
  (u0c (u1Y 0 T.c_Node T.na_Node_tree_size (d_op u3r u0g (d_B (c_sum rfl) T.z_sum (by decide +kernel) (u0a (DN.de (u0I ["child"] [] rfl (u0l (sc:=defScope u0R) (N:=["self","number","children","trees"]) (by decide +kernel)) (u0B (dv 3)) (dg_n (show(["child"]:List Str).Nodup by decide +kernel)) u1k (v3m m_size hr (dv 0)))) u0b))))
  (u0e (u1Y 0 T.c_Node T.na_Node_tree_depth (d_op u3r u0g (d_maxD rfl T.z_max (by decide +kernel) (DN.de (u0I ["child"] [] rfl (u0l (sc:=defScope u0R) (N:=["self","number","children","trees"]) (by decide +kernel)) (u0B (dv 3)) (dg_n (show(["child"]:List Str).Nodup by decide +kernel)) u1k (v3m m_depth hr (dv 0)))) u0g))))))),λa ds gs h=>by
  obtain⟨n,s,rfl,rfl⟩:=u8c h;generalize hd:lfD A s=d;have et:gTuple [.lst [d]]=.ok (.tup [d]):=rfl;have n1:("number":Str)≠"children":=by decide +kernel
  have n2:("number":Str)≠"tree_size":=by decide +kernel
  have n3:("number":Str)≠"tree_depth":=by decide +kernel
  have n4:("children":Str)≠"tree_size":=by decide +kernel
  have n5:("children":Str)≠"tree_depth":=by decide +kernel
  have n6:("tree_size":Str)≠"tree_depth":=by decide +kernel
  have i0:isO [(A.Leaf,true)] [] d=.ok (.bl true):=by
   rw[<- hd];show lookB _ A.Leaf=_;unfold lookB;rw[t9];simp
  have c1:=comp1 (d:=d) (y:=d) (fT:=λρ=>((getV ρ 0).bind (isO [(A.Leaf,true)] [])).bind asB) (fe:=λρ=>getV ρ 0) (by simp[i0]) rfl
  have c2:=comp1 (d:=d) (fT:=λx=>Res.ok true) (fe:=λρ=>(getV ρ 0).bind λx=>(isI A.Leaf (Str.ofString "size") x).bind λx=>noE (g_size [x])) rfl (by rw[<- hd];exact v0B (by decide +kernel) (by decide +kernel) (by decide +kernel) (a3b s))
  have c3:=comp1 (d:=d) (fT:=λx=>Res.ok true) (fe:=λρ=>(getV ρ 0).bind λx=>(isI A.Leaf (Str.ofString "depth") x).bind λx=>noE (g_depth [x])) rfl (by rw[<- hd];exact v0B (by decide +kernel) (by decide +kernel) (by decide +kernel) (a2u s))
  have es:gSum [.lst [.int 1]]=.ok (.int 1):=rfl;have em:gMaxD (.lst [.int 1]) (.int 0)=.ok (.int 1):=rfl;have hz:1<=sizeLine:=u1i;have it:items (.tup [d])=.ok [d]:=rfl;have il:items (.lst [d])=.ok [d]:=rfl;have r0:∀ρ,rhoC 1 [] ρ=[none]:=λ_=>rfl
  simp[startI,startD,getI0,outI0,et,u7M,u1A n1,u1A n2,u1A n3,u1A n4,u1A n5,u1A n6,u7o n1.symm,lk_eq,it,il,r0,u0r hz,c1,c2,c3,es,em,dAdd]⟩)
end
noncomputable def clF (g:V) (b c:Addr) (β:Bool):List (Str×V):=[("grammar",g),("trees",.ref b),("waiting",.ref c),("is_built",.bl β)]
def Stay (a b:Addr) (H H':Hp):Prop:=∀x o,x≠a->x≠b->H x=some o->H' x=some o
def spCI (C:Addr):Sp:=λvs H Q _=>∃a dx g,vs=[.ref a,g]/\H a=some (.ins C dx [])/\∀H' b c,Stay a a H H'->H b=none->H' a=some (.ins C dx (clF g b c false))->H' b=some (.lst [])->Q .non H'
def u1B {f g:Str}{d x:V}{r:List (Str×V)} (h:g≠f):putF f d ((g,x)::r)=(g,x)::putF f d r:=if_neg h
def putF_eq {f:Str}{d x:V}{r:List (Str×V)}:putF f d ((f,x)::r)=(f,d)::r:=if_pos rfl
def nAB:("grammar":Str)≠"trees":=by decide +kernel
def nAC:("grammar":Str)≠"waiting":=by decide +kernel
def nAD:("grammar":Str)≠"is_built":=by decide +kernel
def nBC:("trees":Str)≠"waiting":=by decide +kernel
def nBD:("trees":Str)≠"is_built":=by decide +kernel
def nCD:("waiting":Str)≠"is_built":=by decide +kernel
def u3e {f g:Str}{x:V}{r:List (Str×V)} (h:f≠g):List.lookup f ((g,x)::r)=List.lookup f r:=by rw[t9,beq_false_of_ne h]
def v0A {f:Str}{x:V}{r:List (Str×V)}:List.lookup f ((f,x)::r)=some x:=by rw[t9];simp
def u9u {g:V}{b c:Addr}{β:Bool}:(clF g b c β).lookup ("grammar":Str)=some g:=v0A
def v3n {g:V}{b c:Addr}{β:Bool}:(clF g b c β).lookup ("trees":Str)=some (.ref b):=by
 unfold clF;rw[u3e nAB.symm];exact v0A
def u8x {g:V}{b c:Addr}{β:Bool}:(clF g b c β).lookup ("is_built":Str)=some (.bl β):=by
 unfold clF;rw[u3e nAD.symm,u3e nBD.symm,u3e nCD.symm];exact v0A
def cl_put {g:V}{b c:Addr}{β δ:Bool}:putF "is_built" (.bl δ) (clF g b c β)=clF g b c δ:=by
 unfold clF;rw[u1B nAD,u1B nBD,u1B nCD,putF_eq]
def u7z {g:V}{b c:Addr}{β:Bool}{m:Str} (h1:m≠"grammar") (h2:m≠"trees") (h3:m≠"waiting") (h4:m≠"is_built"):(clF g b c β).lookup m=none:=by
 unfold clF;rw[u3e h1,u3e h2,u3e h3,u3e h4];rfl
section
variable {P:Program}{w:World}{K:W.Frag}{mg:MG}{base:Heap}{f:Addr}{fd:FuncData}{A:Adr}
def u9f (F:Fun K "__init__" "Climber.__init__" u1r f fd) (T:Txt P w K mg A):FnOk P w K mg base CX0 1 f fd ["self","grammar"] (spCI A.Climber) :=
 F.ok (k:=0) u3G (λvs H Q E ⟨a,dx,g,e,_⟩=>by rw[e];rfl) λcdv Ar outer s H vs Q E hr ⟨a,dx,g,e,ha,q⟩=>by
  subst e;refine⟨_,u0x (u4F (u0v (i:=0) rfl (Or.inl rfl)) (u0v (i:=1) rfl (Or.inl rfl)) rfl) (u0x (u4F (u0v (i:=0) rfl (Or.inl rfl)) (u7O u1o) rfl) (u0x (u4F (u0v (i:=0) rfl (Or.inl rfl)) (u7O u1o) rfl) (u1h (u4F (u0v (i:=0) rfl (Or.inl rfl)) v2z rfl)))),?_⟩;refine⟨g,rfl,.ref a,rfl,a,_,dx,[],rfl,ha,T.c_Climber,T.na_Climber_grammar,by decide,?_⟩
  refine⟨by decide,λb hb=>⟨.ref a,rfl,a,A.Climber,dx,[("grammar",g)],rfl,?_⟩⟩
  have hba:b≠a:=λz=>by rw[z,u0d] at hb;cases hb
  have hb0:H b=none:=by rw[u0f hba] at hb;exact hb
  refine⟨by rw[u0f hba.symm];exact u0d,T.c_Climber,T.na_Climber_trees,(show 1<1000 by decide),?_⟩
  refine⟨by decide,λc hc=>⟨.ref a,rfl,a,A.Climber,dx,[("grammar",g),("trees",.ref b)],rfl,?_⟩⟩
  have hca:c≠a:=λz=>by rw[z,u0d] at hc;cases hc
  have hcb:c≠b:=λz=>by rw[z,u0f hba,u0d] at hc;cases hc
  have hc0:H c=none:=by rw[u0f hca,u0f hcb,u0f hca] at hc;exact hc
  refine⟨by rw[u0f hca.symm,u0d,u1B nAB];rfl,T.c_Climber,T.na_Climber_waiting,(show 2<1000 by decide),?_⟩
  refine⟨.ref a,rfl,a,A.Climber,dx,[("grammar",g),("trees",.ref b),("waiting",.ref c)],rfl,by rw[u0d,u1B nAC,u1B nBC];rfl,T.c_Climber,T.na_Climber_is_built,(show 3<1000 by decide),?_⟩
  refine q _ b c (λx o n _ e=>?_) hb0 (by rw[u0d,u1B nAD,u1B nBD,u1B nCD];rfl) (by rw[u0f hba,u0f hba,u0f hcb.symm,u0f hba,u0d])
  have xb:x≠b:=λz=>by rw[z,hb0] at e;cases e
  have xc:x≠c:=λz=>by rw[z,hc0] at e;cases e
  rw[u0f n,u0f n,u0f xc,u0f n,u0f xb,u0f n];exact e
end
def spBuild (K:W.Frag) (A:Adr):Sp:=λvs H Q _=>∃a dx g b c β,∃n:Nat,∃F rs kk h s xs,vs=[.ref a,.int n]/\Same F H/\H a=some (.ins A.Climber dx (clF g b c β))/\H b=some (.lst xs)/\xs.length<sizeLine/\Rp K F g (gI A rs kk)/\rs.length<=1000/\rs[n]?=some (h,[s])/\goodS s=true/\hdS s=false/\∀H',Stay b b H H'->Q .non H'
def spTakes (K:W.Frag) (A:Adr):Sp:=λvs H Q _=>∃a dx g b c β,∃n:Nat,vs=[.ref a,.str "atom",.int n]/\H a=some (.ins A.Climber dx (clF g b c β)) /\
 ((β=true/\∀H',Same H H'->Q (.bl false) H')\/(β=false/\a≠b/\(∃F rs kk h s xs,Same F H/\F a=none/\H b=some (.lst xs)/\xs.length<sizeLine/\Rp K F g (gI A rs kk)/\rs.length<=1000/\rs[n]?=some (h,[s])/\goodS s=true/\hdS s=false)/\∀H',Stay a b H H'->H' a=some (.ins A.Climber dx (clF g b c true))->Q (.bl true) H'))
def spWhole (A:Adr):Sp:=λvs H Q _=>∃a dx g b c,vs=[.ref a]/\H a=some (.ins A.Climber dx (clF g b c false))/\∀H',Same H H'->Q .non H'
def CMeth (P:Program) (w:World) (K:W.Frag) (mg:MG) (base:Heap) (k:Nat) (C:Addr) (m:Str) (ps:List Str) (sp:Sp):Prop :=
 ∃a fd,Cls K C/\Meth K C m a/\FnOk P w K mg base CX0 k a fd ps sp/\Binds K fd ps []
def u1Z {α:Type}{r:Res α}{P:α->Prop}{E:D->Prop} (v:α) (h:r=.ok v) (k:P v):r.all P E:=by rw[h];exact k
def v3F {K:W.Frag}{xq:XQ}{B:Hp×Hp}{T:Ends}{o o':Out} (h:o=o') (k:OkS K xq B T o'):OkS K xq B T o:=h ▸ k
@[simp] theorem v2X {A:Adr} (rs kk:List RR):isI A.Grammar (Str.ofString "body_of") (gI A rs kk)=.ok (gI A rs kk):=v0M ⟨by decide +kernel,by decide +kernel,by decide +kernel⟩ rs kk
section
variable {P:Program}{w:World}{K:W.Frag}{mg:MG}{base:Heap}{f:Addr}{fd:FuncData}{A:Adr}
def v2r {a0a:FD} (a0h:Callee P w K mg base 2 "is_head" ["thing"] (spF K a0a)) {a1w:FD} (m_body_of:MCalleeF P w K mg base 3 A.Grammar "body_of" ["self","number"] a1w) (k_Leaf:KCal P w K mg base 1 "Leaf" A.Leaf ["self","sign"] [] gLeaf) (k_Node:KCal P w K mg base 2 "Node" A.Node ["self","number","children"] [] (gNode A)) (a0d:P1 hdD a0a) (a1r:∀rs kk (n:Nat) p,rs[n]?=some p->rs.length<=1000->a1w [gI A rs kk,dN n]=.ok (.tup (p.2.map D.str))) (F:Fun K "build" "Climber.build" u1g f fd) (T:Txt P w K mg A):FnOk P w K mg base CX0 4 f fd ["self","number"] (spBuild K A) :=
 F.ok (k:=3) u0J (λvs H Q E ⟨a,dx,g,b,c,β,n,F,rs,kk,h,s,xs,e,_⟩=>by rw[e];rfl) λcdv Ar outer s0 H vs Q E hr h=>by
  obtain⟨a,dx,g,b,c,β,n,F0,rs,kk,hh,z,xs,rfl,fh,ha,hb,hz,pg,hl,er,gz,nz,q⟩:=h;obtain⟨fa,fd',cG,hm,G,hbd⟩:=m_body_of;refine⟨_,u0x (v0g (i:=2) u0J.nd rfl (Or.inl rfl) (u5g (u4G (u0v (i:=0) rfl (Or.inl rfl)) rfl) cG hm G (hr.mono (by decide)) hbd .nil pass0 (pac (u0v (i:=1) rfl (Or.inl rfl)) u1o)))
   (u0x (DS.out (xq:=xqF) (u1X u0J.nd (u8o u0b)))
   (u0x (DS.out (xq:=xqF) (u1j rfl (di_rev T.z_reversed (u0a (dv 2) u0b)) (dg_n u0J.nd) (u0e (u8n 3 (d_ife (u1x (d_fn a0h hr (u0a (dv 4) u0b))) de_bad (u4i k_Leaf hr (u0a (dv 4) u0b)))))))
   (u1h (u2K (pbm PySem.F.plainAttrs_list PySem.F.slot_list_append PySem.F.type_list_append u6b (u4G (u0v (i:=0) rfl (Or.inl rfl)) rfl) (pac (DE.out (xq:=xqF) (u4i k_Node hr (u0a (dv 1) (u0a (DN.de (dn_rev rfl T.z_list T.z_reversed (u0a (dv 3) u0b))) u0b)))) u1o)) rfl)))),?_⟩
  obtain⟨ga,dxg,fsg,rfl,hga,hlk,_⟩:=v0L (C0:=A.Grammar) (m:="body_of") (P:=λ_=>True) (E:=λ_=>True) pg (by rw[show isI A.Grammar (Str.ofString "body_of") (gI A rs kk)=_ from v2X rs kk];trivial)
  refine⟨.ref a,rfl,a,_,dx,clF _ b c β,_,rfl,ha,T.c_Climber,T.na_Climber_grammar,u9u,ga,dxg,fsg,rfl,fh _ _ hga,hlk,?_⟩;refine⟨.int n,rfl,F0,[gI A rs kk,dN n],fh,.cons pg (.cons (.int n) .nil),?_⟩;rw[a1r rs kk n _ er hl];intro v1 F1 H1 st1 pv1;have R1:Rel K (F1,H1) (startD 5 [.hdl a,dN n,.tup [.str z]]) (start ["self","number","body","backwards","symbol"] [.ref a,.int n,v1]) F1 H1:=Rps.begin (N:=["self","number","body","backwards","symbol"]) st1.fh (.cons (.hdl a) (.cons (.int n) (.cons pv1 .nil)));refine⟨(F1,H1),F1,_,R1,?_⟩;refine v3F (o':=.nx [some (.val (.hdl a)),some (.val (dN n)),some (.val (.tup [.str z])),some (.own (.l [])),none]) rfl ⟨λσ2 F2 H2 R2=>?_⟩
  have eh:a0a [.str z]=.ok (.bl false):=by rw[a0d (.str z) gz,show hdD (.str z)=hdS z from rfl,nz]
  refine⟨(F1,H1),F2,_,R2,?_⟩;refine v3F (o':=.nx [some (.val (.hdl a)),some (.val (dN n)),some (.val (.tup [.str z])),some (.own (.l [lfD A z])),some (.val (.str z))]) ?_ ⟨λσ3 F3 H3 R3=>?_⟩
  ·have z0:0<sizeLine:=u1i
   simp[revT,forD,eh,getL,gLeaf,lfD,z0]
  obtain⟨F4,s34,R4⟩:=R3.frz;obtain⟨v0,hv0,pv0⟩:=R4.val 0 (.hdl a) rfl;cases pv0;have s13:Same H H3:=st1.hh.trans R3.st.hh;refine⟨.ref a,hv0,a,_,dx,_,_,rfl,s13 a _ ha,T.c_Climber,T.na_Climber_trees,v3n,.inl ⟨rfl,_,.inl (.inl (s13 b _ hb))⟩,?_⟩;refine⟨(F1,H1),F4,_,R4,?_⟩;have e4:gNode A [dN n,.lst [lfD A z]]=_:=v3f rfl;refine u1Z (.ins A.Node _) (by simp[frz,frzS,OD.toD,revN,rowOf,e4];rfl) λv F5 H5 st5 pv5=>?_
  exact⟨b,xs,v,rfl,rfl,st5.hh b _ (s13 b _ hb),hz,q _ λx o n _ e=>by rw[u0f n];exact st5.hh x _ (s13 x _ e)⟩
end
structure Whole (G:FD):Prop where
 i:∀i,G [.int i]=.ok (.bl true)
@[simp] theorem isI_need {A:Adr} (rs kk:List RR):isI A.Grammar (Str.ofString "need_number") (gI A rs kk)=.ok (gI A rs kk):=v0M ⟨by decide +kernel,by decide +kernel,by decide +kernel⟩ rs kk
section
variable {P:Program}{w:World}{K:W.Frag}{mg:MG}{base:Heap}{f:Addr}{fd:FuncData}{A:Adr}
def u7h (F:Fun K "is_whole" "is_whole" u2H f fd) (T:Txt P w K mg A):∃G,FnOk P w K mg base CX0 1 f fd ["thing"] (spF K G)/\Whole G:=by
 refine⟨_,F.okT (k:=0) u6V (λcdv Ar outer s H E hr=>u0e (u0o (u1t (d_B u4u T.z_isinstance (by decide +kernel) (u0a (dv 0) (u0a (d_ty T.z_int (T:="int") (by decide +kernel)) u0b))) (u2q (d_not (d_B u4u T.z_isinstance (by decide +kernel) (u0a (dv 0) (u0a (d_ty T.z_bool (T:="bool") (by decide +kernel)) u0b)))))))),?_⟩
 exact⟨λi=>by simp[runT,startD];rfl⟩
def u4q {a2e:FD} (a3a:Callee P w K mg base 1 "is_whole" ["thing"] (spF K a2e)) (a3o:Whole a2e) (F:Fun K "need_number" "Grammar.need_number" u1c f fd) (T:Txt P w K mg A):∃G,FnOk P w K mg base CX0 2 f fd ["self","number"] (spF K G)/\∀rs kk (n:Nat),n<rs.length->rs.length<=1000->G [gI A rs kk,dN n]=.ok .non:=by
 refine⟨_,F.okT (k:=1) u3j (λcdv Ar outer s H E hr=>u0e (u0W (dt_w (dw_or (u1W (u1x (d_fn a3a hr (u0a (dv 1) u0b)))) (v1j (u1W (u8k o_le o_lt u0g (dv 1) (d_B u1G T.z_len (by decide +kernel) (u0a (u4s T.cls T.na_rules (dv 0)) u0b))))))) (u0e u1E) u0D)),?_⟩
 intro rs kk n hn hl;have h0:((0:Int)<=(n:Int)):=Int.natCast_nonneg n;have h1:((n:Int)<((rs.map rT).length:Nat)):=by rw[v8];omega
 simp[runT,startD,a3o.i,u2V];rw[if_neg (by omega)]
 rfl
def u9h {a0x:FD} (m_need_number:MCalleeF P w K mg base 2 A.Grammar "need_number" ["self","number"] a0x) (a3r:∀rs kk (n:Nat),n<rs.length->rs.length<=1000->a0x [gI A rs kk,dN n]=.ok .non) (F:Fun K "body_of" "Grammar.body_of" u2c f fd) (T:Txt P w K mg A):∃G,FnOk P w K mg base CX0 3 f fd ["self","number"] (spF K G)/\∀rs kk (n:Nat) p,rs[n]?=some p->rs.length<=1000->G [gI A rs kk,dN n]=.ok (.tup (p.2.map D.str)):=by
 refine⟨_,F.okT (k:=2) u5L (λcdv Ar outer s H E hr=>u0c (u2o (d_mG m_need_number hr (dv 0) (u0a (dv 1) u0b)))
  (u0e (u0o (d_ix x_ix (d_ix x_ix (u4s T.cls T.na_rules (dv 0)) (dv 1)) u0g)))),?_⟩
 intro rs kk n p hn hl;have hlt:=(w6.mp hn).1;have e1:dIx (.tup (rs.map rT)) (dN n)=.ok (rT p):=ix_tn (by rw[w9,hn];rfl)
 simp[runT,startD,a3r rs kk n hlt hl,u2V,e1];rfl
end
def w_al:dIn (.str "atom") (.tup [.str "atom",.str "left"])=.ok (.bl true):=u3z (z:="atom") (hs:=["atom","left"]) (by decide +kernel) (by decide +kernel)
def w_ar:dIn (.str "atom") (.tup [.str "atom",.str "right"])=.ok (.bl true):=u3z (z:="atom") (hs:=["atom","right"]) (by decide +kernel) (by decide +kernel)
def e_op:dEq (.str "atom") (.str "op")=.ok (.bl false):=(u8i (by decide +kernel) (by decide +kernel)).trans (by rw[show(("atom":Str)==("op":Str))=false by decide +kernel])
def e_right:dEq (.str "atom") (.str "right")=.ok (.bl false):=(u8i (by decide +kernel) (by decide +kernel)).trans (by rw[show(("atom":Str)==("right":Str))=false by decide +kernel])
def e_atom:dEq (.str "atom") (.str "atom")=.ok (.bl true):=(u8i (by decide +kernel) (by decide +kernel)).trans (by rw[show(("atom":Str)==("atom":Str))=true by decide +kernel])
noncomputable def F0:Hp:=λ_=>none
def F0_same (H:Hp):Same F0 H:=λ_ _ e=>nomatch e
def v1H {K:W.Frag} (H:Hp) (a:Addr) (n:Nat):Rel K (F0,H) (startD 3 [.hdl a,.str "atom",dN n]) (start ["self","role","number"] [.ref a,.str "atom",.int n]) F0 H :=
 Rps.begin (N:=["self","role","number"]) (F0_same H) (.cons (.hdl a) (.cons (.str (by decide +kernel)) (.cons (.int n) .nil)))
section
variable {P:Program}{w:World}{K:W.Frag}{mg:MG}{base:Heap}{f:Addr}{fd:FuncData}{A:Adr}
def v2n (F:Fun K "whole" "Climber.whole" u1e f fd) (T:Txt P w K mg A):FnOk P w K mg base CX0 1 f fd ["self"] (spWhole A) :=
 F.ok (k:=0) u3m (λvs H Q E ⟨a,dx,g,b,c,e,_⟩=>by rw[e];rfl) λcdv Ar outer s0 H vs Q E hr h=>by
  obtain⟨a,dx,g,b,c,rfl,ha,q⟩:=h;refine⟨_,u0x (u7a (v0e (v0d (u4G (u0v (i:=0) rfl (Or.inl rfl)) rfl))) (u1h (u4E v0l)) u2J) u2v,?_⟩;exact⟨.ref a,rfl,a,_,dx,_,_,rfl,ha,T.c_Climber,T.na_Climber_is_built,u8x,false,rfl,q H (Same.refl H)⟩
def v2o (m_build:CMeth P w K mg base 4 A.Climber "build" ["self","number"] (spBuild K A)) (F:Fun K "takes" "Climber.takes" u1f f fd) (T:Txt P w K mg A):FnOk P w K mg base CX0 5 f fd ["self","role","number"] (spTakes K A) :=
 F.ok (k:=4) u3n (λvs H Q E ⟨a,dx,g,b,c,β,n,e,_⟩=>by rw[e];rfl) λcdv Ar outer s0 H vs Q E hr h=>by
  obtain⟨a,dx,g,b,c,β,n,rfl,ha,q⟩:=h;obtain⟨fa,fd',cC,hm,G,hbd⟩:=m_build;refine⟨_,u0x (u7a (v0f (o_eq (hu64 hr)) (DE.out (xq:=xqF) (u2y (o_in (hu100 hr)) (dv 1) (u1a (u0a u0s (u0a u0s u0b))))) (u4G (u0v (i:=0) rfl (Or.inl rfl)) rfl) (by with_unfolding_all rfl)) (u1h (u4E v2z)) u2J)
   (u0x (u4F (u0v (i:=0) rfl (Or.inl rfl)) (DE.out (xq:=xqF) (u2y (o_in (hu100 hr)) (dv 1) (u1a (u0a u0s (u0a u0s u0b))))) rfl)
   (u0x (u7a (DT.out (xq:=xqF) (u0A (o_eq (hu64 hr)) (dv 1) u0s)) u2v u2J)
   (u0x (u7a (DT.out (xq:=xqF) (u0A (o_eq (hu64 hr)) (dv 1) u0s)) u2v u2J)
   (u0x (u7a (DT.out (xq:=xqF) (u0A (o_eq (hu64 hr)) (dv 1) u0s)) (u1h (u2K (u5g (u0v (i:=0) rfl (Or.inl rfl)) cC hm G (hr.mono (by decide)) hbd .nil pass0 (pac (u0v (i:=2) rfl (Or.inl rfl)) u1o)) rfl)) u2v)
   (u1h (u4E v2z)))))),?_⟩
  refine⟨(F0,H),F0,_,v1H H a n,u1Z (.bl true) (by simp[startD,w_al]) λv1 F1 H1 st1 pv1=>?_⟩
  cases pv1.blI;refine⟨.ref a,rfl,a,_,dx,_,_,rfl,st1.hh a _ ha,T.c_Climber,T.na_Climber_is_built,u8x,?_⟩;refine⟨F1,.bl true,.bl β,st1.fh,.bl true,.bl β,u1Z (.bl β) (by cases β<;>exact eq_bb _ _) λv2 F2 H2 st2 pv2=>?_⟩
  cases pv2.blI;refine⟨β,rfl,?_⟩;have s2:Same H H2:=st1.hh.trans st2.hh;rcases q with⟨rfl,q⟩|⟨rfl,nab,⟨F,rs,kk,h,s,xs,fh,fa0,hb,hz,pg,hl,er,gs,ns⟩,q⟩
  ·exact q H2 s2
  refine⟨(F0,H2),F0,_,v1H H2 a n,u1Z (.bl true) (by simp[startD,w_ar]) λv3 F3 H3 st3 pv3=>?_⟩
  cases pv3.blI;have s3:Same H H3:=s2.trans st3.hh;refine⟨.ref a,rfl,a,_,dx,_,rfl,s3 a _ ha,T.c_Climber,T.na_Climber_is_built,(show 4<1000 by decide),?_⟩
  rw[cl_put];generalize h4:upd H3 a (.ins A.Climber dx (clF g b c true))=H4;have a4:H4 a=some (.ins A.Climber dx (clF g b c true)):=by rw[<- h4];exact u0d
  have s4:∀x o,x≠a->H x=some o->H4 x=some o:=λx o n e=>by rw[<- h4,u0f n];exact s3 x o e
  refine⟨(F0,H4),F0,_,v1H H4 a n,u1Z false (by simp[startD,frz,frzS,e_op]) λH5 st5=>?_⟩
  refine⟨(F0,H5),F0,_,v1H H5 a n,u1Z false (by simp[startD,frz,frzS,e_right]) λH6 st6=>?_⟩
  refine⟨(F0,H6),F0,_,v1H H6 a n,u1Z true (by simp[startD,frz,frzS,e_atom]) λH7 st7=>?_⟩
  have s7:Same H4 H7:=(st5.hh.trans st6.hh).trans st7.hh;refine⟨.ref a,rfl,a,dx,_,rfl,s7 a _ a4,u7z (by decide +kernel) (by decide +kernel) (by decide +kernel) (by decide +kernel),.int n,rfl,?_⟩
  refine⟨a,dx,g,b,c,true,n,F,rs,kk,h,s,xs,rfl,λx o e=>s7 x o (s4 x o (λz=>by rw[z,fa0] at e;cases e) (fh x o e)),s7 a _ a4,s7 b _ (s4 b _ nab.symm hb),hz,pg,hl,er,gs,ns,λH8 s8=>?_⟩
  exact q H8 (λx o n1 n2 e=>s8 x o n2 n2 (s7 x o (s4 x o n1 e))) (s8 a _ nab nab (s7 a _ a4))
end
noncomputable def nInK:D->D->Res D
 | x,.dct ps=>(keyK x).bind λk=>.ok (.bl (!(valD ps k).isSome))
 | _,_=>.bad
def o_ninK {X:Cx} (hu:X.A.units+200<cLine):OpR X (compareOp .NotIn) (rD X.K nInK):=by
 intro pins s σ H x y v u Q I rx ry z9148;obtain⟨F,dx,dy,fh,px,py,q⟩:=z9148;cases py with
 | @dK a kvs ps hq hr =>
  obtain⟨k,ek,q2⟩:=u5l px (Res.all_bind.mp (show((keyK dx).bind _).all _ _ from q))
  subst ek;cases ry;refine d_notIn (by omega) I (DGet.k (fh _ _ hq)) rx λs' I'=>⟨.bl _,H,I',rfl,?_⟩
  have:=hr.val (k:=k)
  cases e:valD ps k with
  | none=>rw[e] at this q2;rw[this];exact q2 _ F H (Stp.refl fh) (.bl _)
  | some d=>rw[e] at this q2;obtain⟨z,hz,_⟩:=this;rw[hz];exact q2 _ F H (Stp.refl fh) (.bl _)
 | _=>cases dx<;>exact False.elim q
def DB.of {X:Cx}{xq:XQ}{sts:List Stmt}{f:Rho->Out}{t:TS} (h:PSs X sts t) (k:∀B F ρ σ H T,Rel X.K B ρ σ F H->OkS X.K xq B T (f ρ)->t T σ H):DB X xq sts f :=
 ⟨λpins s σ H T I z9=>un5 z9 λB F ρ R q=>h pins s σ H T I (k B F ρ σ H T R q)⟩
structure Two (A:Adr) (g:D) (r:List D) (kvs:List (D×D)) (rs kk:List RR) (h s:Str) (n:Nat):Prop where
 eg:g=gI A rs kk
 er:∃r',r=.str s::.str s::r'
 el:rs.length<=1000
 en:rs[n]?=some (h,[s])
 es:goodS s=true
 ed:hdS s=false
 ev:valD kvs (.inr s)=some (.tup [.str "atom",dN n])
open Classical in
noncomputable def tailF (A:Adr):Rho->Out
 | [some (.val g),some (.val (.lst r)),some (.own (.d kvs)),_,_,_,_]=>if r=[]\/∃rs kk h s n,Two A g r kvs rs kk h s n then .rt .non else .bad
 | _=>.bad
structure Lp (K:W.Frag) (A:Adr) (B:Hp×Hp) (F1:Hp) (g:D) (r:List D) (kvs:List (D×D)) (gv:V) (a b c dx:Addr) (β:Bool) (σ:L2.St) (F H:Hp):Prop where
 r:∃y3 y4 y5,(∀o,y3≠some (.own o))/\(∀o,y4≠some (.own o))/\(∀o,y5≠some (.own o))/\Rel K (F1,F0) [some (.val g),some (.val (.lst r)),some (.val (.dct kvs)),y3,y4,y5,some (.val (.hdl a))] σ F H
 st:Stp B.1 B.2 F H
 fa:F a=none
 fb:β=false->F b=none
 ba:B.2 a=none
 bb:B.2 b=none
 pg:Rp K F gv g
 ha:H a=some (.ins A.Climber dx (clF gv b c β))
 hb:β=false->∃xs,H b=some (.lst xs)/\xs.length<sizeLine
section
variable {K:W.Frag}{A:Adr}{B:Hp×Hp}{F1:Hp}{g:D}{r:List D}{kvs:List (D×D)}{gv:V}{a b c dx:Addr}{β δ:Bool}{σ:L2.St}{F H F' H':Hp}
theorem Lp.step (L:Lp K A B F1 g r kvs gv a b c dx β σ F H) (s:Stp F H F' H'):Lp K A B F1 g r kvs gv a b c dx β σ F' H' where
 r:=let ⟨y3,y4,y5,n3,n4,n5,R⟩:=L.r;⟨y3,y4,y5,n3,n4,n5,R.step s⟩
 st:=L.st.trans s
 fa:=s.no a L.fa (by rw[L.ha];simp)
 fb z:=s.no b (L.fb z) (by obtain⟨xs,e,_⟩:=L.hb z;rw[e];simp)
 ba:=L.ba
 bb:=L.bb
 pg:=L.pg.same s.ff
 ha:=s.hh a _ L.ha
 hb z:=by obtain⟨xs,e,y⟩:=L.hb z;exact⟨xs,s.hh b _ e,y⟩
def Lp.sign (L:Lp K A B F1 g r kvs gv a b c dx β σ F H) {x:V}{d:D} (p:Rp K F x d):Lp K A B F1 g r kvs gv a b c dx β (σ.set 3 (some x)) F H/\∃y4 y5,Rel K (F1,F0) [some (.val g),some (.val (.lst r)),some (.val (.dct kvs)),some (.val d),y4,y5,some (.val (.hdl a))] (σ.set 3 (some x)) F H:=by
 obtain⟨y3,y4,y5,n3,n4,n5,R⟩:=L.r;have R':=R.set (i:=3) p;exact⟨⟨⟨some (.val d),y4,y5,λo e=>(by cases e),n4,n5,R'⟩,L.st,L.fa,L.fb,L.ba,L.bb,L.pg,L.ha,L.hb⟩,y4,y5,R'⟩
def Lp.goes (L:Lp K A B F1 g r kvs gv a b c dx false σ F H) (s:Stay a b H H') (ha:H' a=some (.ins A.Climber dx (clF gv b c true))):Lp K A B F1 g r kvs gv a b c dx true σ F H':=by
 have fh:Same F H':=λx o e=>s x o (λz=>by rw[z,L.fa] at e;cases e) (λz=>by rw[z,L.fb rfl] at e;cases e) (L.st.fh x o e)
 have bh:Same B.2 H':=λx o e=>s x o (λz=>by rw[z,L.ba] at e;cases e) (λz=>by rw[z,L.bb] at e;cases e) (L.st.hh x o e)
 obtain⟨y3,y4,y5,n3,n4,n5,R⟩:=L.r;have no:∀(i:Nat) o,([some (.val g),some (.val (.lst r)),some (.val (.dct kvs)),y3,y4,y5,some (.val (.hdl a))]:Rho)[i]?≠some (some (.own o)):=λi o e=>by
  match i with
  | 0=>cases e
  | 1=>cases e
  | 2=>cases e
  | 3=>exact n3 o (Option.some.inj e)
  | 4=>exact n4 o (Option.some.inj e)
  | 5=>exact n5 o (Option.some.inj e)
  | 6=>cases e
  | i+7=>cases e
 exact⟨⟨y3,y4,y5,n3,n4,n5,⟨⟨R.st.ff,fh,λ_ _ e=>(nomatch e),λ_ _ z=>absurd rfl z⟩,R.len,R.val,λi o e=>absurd e (no i o),λi j o u a e=>absurd e (no i o)⟩⟩,⟨L.st.ff,fh,bh,L.st.no⟩,L.fa,λz=>(by cases z),L.ba,L.bb,L.pg,ha,λz=>by cases z⟩
end
abbrev r7 (g:D) (r:List D) (kvs:List (D×D)) (y3 y4 y5:Option Sl) (a:Addr):Rho:=[some (.val g),some (.val (.lst r)),some (.val (.dct kvs)),y3,y4,y5,some (.val (.hdl a))]
def takesM (K:W.Frag) (A:Adr) (xq:XQ) (fA:Rho->Res (List D)):TE:=tMeth A.Climber "takes" (spTakes K A) [] E0 (tVar 6) (liftA K xq fA)
def u2O {x:Option Sl}:∀o,Option.map frzS x≠some (.own o):=λo e=>by
 cases x with
 | none=>cases e
 | some y=>cases y<;>cases e
section
variable {P:Program}{w:World}{K:W.Frag}{mg:MG}{A:Adr}{B:Hp×Hp}{F1:Hp}{g:D}{r:List D}{kvs:List (D×D)}{gv:V}{a b c dx:Addr}{σ:L2.St}{F H:Hp}{xq:XQ}{fA:Rho->Res (List D)}
def v1P {β:Bool}{rs kk:List RR}{h s:Str}{n:Nat}{x:V}{Q:Bool->Hp->Prop} (W:Two A g r kvs rs kk h s n) (L:Lp K A B F1 g r kvs gv a b c dx β σ F H) (nab:a≠b) (p:Rp K F x (.str s))
  (hA:∀y4 y5,fA (r7 g r kvs (some (.val (.str s))) y4 y5 a)=.ok [.str "atom",dN n])
  (q:∀F' H',Same F F'->Lp K A B F1 g r kvs gv a b c dx true (σ.set 3 (some x)) F' H'->Q (!β) H'):tB (takesM K A xq fA) (σ.set 3 (some x)) H Q:=by
 obtain⟨L1,y4,y5,R⟩:=L.sign p;obtain⟨v6,h6,p6⟩:=R.val 6 (.hdl a) rfl;cases p6;refine⟨.ref a,h6,a,dx,_,rfl,L.ha,u7z (by decide +kernel) (by decide +kernel) (by decide +kernel) (by decide +kernel),?_⟩
 refine⟨_,F,_,R,u1Z _ (hA y4 y5) λvs F2 H2 s2 pvs=>?_⟩
 have L2:=L1.step s2;obtain⟨v1,v2,rfl,p1,p2⟩:∃v1 v2,vs=[v1,v2]/\Rp K F2 v1 (.str "atom")/\Rp K F2 v2 (dN n):=by
  cases pvs with
  | cons p1 pvs =>
   cases pvs with
   | cons p2 pvs =>
    cases pvs;exact⟨_,_,rfl,p1,p2⟩
 cases p1;cases p2;refine⟨a,dx,gv,b,c,β,n,rfl,L2.ha,?_⟩;cases β with
 | true=>exact .inl ⟨rfl,λH3 s3=>⟨false,rfl,q F2 H3 s2.ff (L2.step (Stp.only L2.st.fh s3))⟩⟩
 | false =>
  obtain⟨xs,eb,hz⟩:=L2.hb rfl;have pg:=L2.pg;rw[W.eg] at pg;refine .inr ⟨rfl,nab,⟨F2,rs,kk,h,s,xs,L2.st.fh,L2.fa,eb,hz,pg,W.el,W.en,W.es,W.ed⟩,λH3 s3 e3=>⟨true,rfl,?_⟩⟩
  exact q F2 H3 s2.ff (L2.goes s3 e3)
set_option tactic.hygienic true in
def tail_ok {ρ:Rho}{D:Ends}{fi:Rho->Res (List L2.D)}{fT:Rho->Res Bool} (T:Txt P w K mg A) (R:Rel K B ρ σ F H) (q:OkS K xq B D (tailF A ρ)) (hi:∀g r kvs y3 y4 y5 a,fi (r7 g r kvs y3 y4 y5 a)=.ok r)
  (hT:∀g r kvs s v y4 y5 a,valD kvs (.inr s)=some v->fT (frz (r7 g r kvs (some (.val (.str s))) y4 y5 a))=.ok false)
  (hA:∀g r kvs s n y4 y5 a,valD kvs (.inr s)=some (.tup [.str "atom",dN n])->fA (r7 g r kvs (some (.val (.str s))) y4 y5 a)=.ok [.str "atom",dN n]) :
  (tSeq (tAsg (tMake A.Climber (spCI A.Climber) [] E0 (tCons (tVar 0) tNil)) (gName 6)) (tSeq (tFor (liftI K xq fi) (gName 3) (tIfS (tOr (liftT K xq fT) (tNot (tB (takesM K A xq fA)))) (tRet (tC .non)) tNext)) (tRet (tMeth A.Climber "whole" (spWhole A) [] E0 (tVar 6) tNil)))) D σ H:=by
 unfold tailF at q;split at q
 case h_2=>exact False.elim q.out
 rename_i g r kvs x3 x4 x5 x6;split at q
 case isFalse=>exact False.elim q.out
 rename_i cond;have qr:∀v F H,Stp B.1 B.2 F H->Rp K F v .non->D.rt v H:=q.out;obtain⟨F1,s1,R1⟩:=R.frz;obtain⟨gv,hg,pg⟩:=R1.val 0 g rfl;refine⟨gv,hg,λa dx ha hdx nad=>?_⟩
 refine⟨a,dx,gv,rfl,u0d,λH2 b c st hb e2 eb=>⟨rfl,?_⟩⟩
 have hba:b≠a:=λz=>by rw[z,u0d] at hb;cases hb
 have hbx:b≠dx:=λz=>by rw[u0f hba,z,u0d] at hb;cases hb
 have hb0:H b=none:=by rw[u0f hba,u0f hbx] at hb;exact hb
 have up:Same H H2:=λx o e=>by
  have na:x≠a:=λz=>by rw[z,ha] at e;cases e
  have nd:x≠dx:=λz=>by rw[z,hdx] at e;cases e
  exact st x o na na (by rw[u0f na,u0f nd];exact e)
 have no:∀(i:Nat) o,(L2.frz [some (.val g),some (.val (.lst r)),some (.own (.d kvs)),x3,x4,x5,x6])[i]?≠some (some (.own o)):=λi o e=>by
  obtain⟨y,h1,h2⟩:=u5r e;cases y<;>cases h2
 have R2:Rel K (F1,F0) (L2.frz [some (.val g),some (.val (.lst r)),some (.own (.d kvs)),x3,x4,x5,x6]) σ F1 H2:=⟨⟨Same.refl _,R1.fh.trans up,λ_ _ e=>(nomatch e),λ_ _ z=>absurd rfl z⟩,R1.len,R1.val,λi o e=>absurd e (no i o),λi j o u a e=>absurd e (no i o)⟩
 have L:Lp K A B F1 g r kvs gv a b c dx false (σ.set 6 (some (.ref a))) F1 H2:=⟨⟨_,_,_,u2O,u2O,u2O,R2.set (i:=6) (.hdl a)⟩,⟨R1.st.ff,R1.fh.trans up,R1.st.hh.trans up,R1.st.no⟩,R1.fh.free ha,λ_=>R1.fh.free hb0,R1.st.hh.free ha,R1.st.hh.free hb0,pg,e2,λ_=>⟨[],eb,u1i⟩⟩
 obtain⟨y3,y4,y5,n3,n4,n5,RL⟩:=L.r;refine⟨_,F1,_,RL,u1Z r (hi _ _ _ _ _ _ _) λJ F3 H3 s3 fd=>?_⟩
 refine⟨λi m σ' H'=>m=2 - i/\i<=1/\(r=[]->i=0)/\∃F',Same F3 F'/\Lp K A B F1 g r kvs gv a b c dx (decide (i=1)) σ' F' H',⟨2,rfl,z1A _,λ_=>rfl,F3,Same.refl _,L.step s3⟩,?_⟩
 rintro i m σ' H' ⟨rfl,hi1,hr0,F',e3,Li⟩;rcases cond with rfl|⟨rs,kk,h,s,n,W⟩
 ·cases hr0 rfl
  refine .inl ⟨fd.stop 0 H' (e3.trans Li.st.fh) (y0 _),?_⟩;obtain⟨y3,y4,y5,_,_,_,R⟩:=Li.r;obtain⟨v6,h6,p6⟩:=R.val 6 (.hdl a) rfl;cases p6;exact⟨.ref a,h6,a,dx,_,rfl,Li.ha,u7z (by decide +kernel) (by decide +kernel) (by decide +kernel) (by decide +kernel),a,dx,gv,b,c,rfl,Li.ha,λH4 s4=>qr .non F' H4 (Li.st.trans (Stp.only Li.st.fh s4)) .non⟩
 ·obtain ⟨r',er⟩:=W.er
  have gi:r[i]?=some (.str s):=by
   rw[er]
   match i,hi1 with
   | 0,_=>rfl
   | 1,_=>rfl
  refine .inr ⟨fd.go i H' (e3.trans Li.st.fh) (w6.mp gi).1,λσ2 H2=>i=0/\∃F2,Same F3 F2/\Lp K A B F1 g r kvs gv a b c dx true σ2 F2 H2,λσ2 H2 z9149=>by obtain⟨z,F2,a1,a2⟩:=z9149;exact⟨1,by rw[z];decide,by rw[z],by rw[z];decide,λz2=>(by rw[z2] at er;cases er),F2,a1,by rw[z];exact a2⟩,λx H4 y=>?_⟩
  obtain⟨F4,s4,px⟩:=fd.yld i F' H' x H4 _ e3 Li.st.fh gi y;have L4:=Li.step s4;obtain⟨L5,y4,y5,R5⟩:=L4.sign px;refine⟨_,F4,_,R5,u1Z false (hT g r kvs s _ y4 y5 a W.ev) λH5 s5=>?_⟩
  have key:tB (takesM K A xq fA) (σ'.set 3 (some x)) H5 (λc2 H1=>if (!c2)=true then D.rt .non H1 else i=0/\∃F2,Same F3 F2/\Lp K A B F1 g r kvs gv a b c dx true (σ'.set 3 (some x)) F2 H1):=by
   refine v1P (β:=decide (i=1)) (Q:=λc2 H1=>if (!c2)=true then D.rt .non H1 else i=0/\∃F2,Same F3 F2/\Lp K A B F1 g r kvs gv a b c dx true (σ'.set 3 (some x)) F2 H1) W (L4.step s5) hba.symm px (λy4 y5=>hA g r kvs s n y4 y5 a W.ev) λF7 H7 s7 L7=>?_
   show(if (!(!decide (i=1)))=true then _ else _)
   rcases Nat.le_one_iff_eq_zero_or_eq_one.mp hi1 with h0|h1
   ·rw [if_neg (by rw [h0];decide)]
    exact⟨h0,F7,(e3.trans s4.ff).trans s7,L7⟩
   ·rw [if_pos (by rw [h1];decide)]
    exact qr .non F7 H7 L7.st .non
  exact key
end
noncomputable def SGN:List Str:=["a","b","+","*","(",")","c","id","=","<=","if","0","[","]","else","abc123","z","!","-","^"]
noncomputable def X1:List Str:=["x"]
noncomputable def XY:List Str:=["x","y"]
noncomputable def SYM:List Str:=SGN++XY
noncomputable def Qx:Str×List Str:=("Q",["x"])
noncomputable def HDS:List Str:=["E","S","Expr1","Z9"]
noncomputable def SIDE:List Str:=["left","right","none"]
structure Rr (h:Str) (sg:List Str) (p:RR):Prop where
 c:p.1=h\/p=Qx
 l:p.2.length<=4
 s:∀b∈p.2,b=h\/b∈sg\/b="x"
 o:p.2≠[h]
structure Kk (q:RR):Prop where
 s:q.1∈SIDE
 n:q.2≠[]
 l:q.2.length<=3
 g:∀b∈q.2,b∈SYM
structure Wf (h:Str) (sg:List Str) (n:Nat) (rs kk:List RR):Prop where
 hd:h∈HDS
 l9:sg.length<=9
 ss:∀z∈sg,z∈SGN
 f:∃b rest,rs=(h,b)::rest
 n7:rs.length<=7+n
 r:∀p∈rs,Rr h sg p
 k3:kk.length<=3+n
 k:∀q∈kk,Kk q
def u1C:∀z∈SYM,sgnS z=true/\hdS z=false/\goodS z=true/\shortS z=true/\goodS (fstC z)=true:=by decide +kernel
def u4b:∀z∈HDS,hdS z=true/\sgnS z=false/\goodS z=true/\shortS z=true/\goodS (fstC z)=true:=by decide +kernel
def u9I:∀h∈HDS,∀z∈SYM,(fstC z==fstC h)=false/\(z==h)=false:=by decide +kernel
def u3F {z:Str} (h:z∈SGN):z∈SYM:=z0D _ h
def u6N:∀z∈SIDE,goodS z=true/\sideD (.str z)=true:=by decide +kernel
section
variable {h:Str}{sg:List Str}{n:Nat}{rs kk:List RR}
def Wf.sy (W:Wf h sg n rs kk) {p:RR} (hp:p∈rs) {b:Str} (hb:b∈p.2):b=h\/b∈SYM:=by
 rcases(W.r p hp).s b hb with e|e|e
 ·exact .inl e
 ·exact .inr (u3F (W.ss b e))
 ·exact .inr (by rw[e];decide +kernel)
def sy_of {b:Str} (hh:h∈HDS) (hb:b=h\/b∈SYM):Sy h b:=by
 rcases hb with rfl|hb
 ·obtain ⟨_,_,h3,h4,h5⟩:=u4b b hh
  exact⟨h3,h4,h5,λz=>absurd rfl z⟩
 ·obtain ⟨_,_,h3,h4,h5⟩:=u1C b hb
  exact⟨h3,h4,h5,λ_=>(u9I h hh b hb).1⟩
def hy_of (hh:h∈HDS):Hy h:=by
 obtain⟨_,_,h3,h4,h5⟩:=u4b h hh;exact⟨h3,h5,h4⟩
def Wf.g1 (W:Wf h sg n rs kk) {p:RR} (hp:p∈rs):goodS p.1=true/\hdS p.1=true/\sgnS p.1=false:=by
 rcases(W.r p hp).c with e|e
 ·rw [e]
  obtain⟨h1,h2,h3,_⟩:=u4b h W.hd;exact⟨h3,h1,h2⟩
 ·rw [e]
  decide +kernel
def Wf.rk (W:Wf h sg n rs kk) (hn:n<=2):Rk h rs kk:=⟨hy_of W.hd,v7 W.n7 (by omega),W.f,λp hp=>⟨(W.g1 hp).1,(W.r p hp).l,λb hb=>sy_of W.hd (W.sy hp hb)⟩,λq hq b hb=>(u1C b ((W.k q hq).g b hb)).2.2.1⟩
def Wf.okR (W:Wf h sg n rs kk) {p:RR} (hp:p∈rs):OkR p:=⟨(W.g1 hp).2.1,(W.r p hp).l,λb hb=>by
 rcases W.sy hp hb with e|e
 ·rw[e,(u4b h W.hd).1,Bool.or_true]
 ·rw[(u1C b e).1,Bool.true_or],(W.g1 hp).1,λb hb=>(sy_of W.hd (W.sy hp hb)).g⟩
def Wf.addR (W:Wf h sg n rs kk) {p:RR} (hp:Rr h sg p):Wf h sg (n+1) (rs++[p]) kk:=by
 obtain⟨b,rest,e⟩:=W.f;refine⟨W.hd,W.l9,W.ss,⟨b,rest++[p],by rw[e];rfl⟩,?_,λq hq=>?_,v7 W.k3 (by omega),W.k⟩
 ·have:=W.n7
  simp;omega
 ·rcases z0G.mp hq with hq | hq
  ·exact W.r q hq
  ·rw[v9.mp hq];exact hp
def Wf.same (W:Wf h sg n rs kk):Wf h sg (n+1) rs kk:=⟨W.hd,W.l9,W.ss,W.f,v7 W.n7 (by omega),W.r,v7 W.k3 (by omega),W.k⟩
end
inductive Bent (h:Str) (sg:List Str) (n:Nat) (v:D):Prop
 | mk (rs kk:List RR) (e:v=.tup [dR rs,dR kk]) (w:Wf h sg n rs kk)
inductive NxB (h:Str) (sg:List Str) (n:Nat) (o:Out):Prop
 | mk (rs kk:List RR) (x2 x3 x4 x5 x6 x7:Option Sl) (e:o=.nx [some (.val (dR rs)),some (.val (dR kk)),x2,x3,x4,x5,x6,x7]) (w:Wf h sg n rs kk)
def iff1 {Q:Out->Prop}{r:Res Bool}{ρ:Rho}{X Y:Out} (b:Bool) (h:r=.ok b) (t:b=true->Q X) (e:b=false->Q Y):Q (r.go ρ λk=>if k=true then X else Y):=by
 rw[h];cases b
 ·exact e rfl
 ·exact t rfl
def eqw (w j:Nat) (i:Int) (e:i=(j:Int)):dEqX (dN w) (.int i)=.ok (.bl (decide (w=j))):=by rw[e,v1f,v3U]
def addL {xs ys:List D} (h:xs.length+ys.length<=1000):dAdd (.lst xs) (.lst ys)=.ok (.lst (xs++ys)):=u0r (u0q h)
def snocD {rs:List RR}{p:RR} (h:rs.length<=900):dAdd (dR rs) (.lst [rT p])=.ok (dR (rs++[p])):=by
 rw[addL (by simp;omega)]
 simp[dR]
def RetP (P:D->Prop) (o:Out):Prop:=∃v,o=.rt v/\P v
def run2 {n m:Nat}{t:Rho->Out}{ds:List D}{P:D->Prop} (hl:ds.length=m) (h:RetP P (t (startD n ds))):∃v,runT n m t ds=.ok v/\P v:=by
 obtain⟨v,e,p⟩:=h;exact⟨v,by unfold runT;rw[if_pos hl,e];rfl,p⟩
noncomputable def sgAt (d k:Nat):Str:=SGN.getD ((d+7*k)%20) ""
noncomputable def sg9 (d:Nat):List Str:=(List.range 9).map (sgAt d)
noncomputable def hdAt (d:Nat):Str:=HDS.getD (d%4) ""
noncomputable def opR (h s:Str):RR:=(h,[h,s,h])
noncomputable def brR (h:Str) (sg:List Str) (k:Nat):RR:=(h,[sg.getD (3+2*k) "",h,sg.getD (4+2*k) ""])
noncomputable def atR (h s:Str):RR:=(h,[s])
noncomputable def base1 (h:Str) (sg:List Str) (a:Nat):List RR:=(sg.take a).map (opR h)
noncomputable def base2 (h:Str) (sg:List Str) (a b:Nat):List RR:=base1 h sg a++(List.range b).map (brR h sg)
noncomputable def base3 (h:Str) (sg:List Str) (a b c:Nat):List RR:=base2 h sg a b++((sg.drop 7).take c).map (atR h)
def ixS (d k:Nat):dIx (.lst (SGN.map D.str)) (.int (((d:Int)+7*(k:Int))%20))=.ok (.str (sgAt d k)):=by
 have h:(d+7*k)%20<SGN.length:=Nat.mod_lt _ (by decide)
 rw[show((d:Int)+7*(k:Int))%20=(((d+7*k)%20:Nat):Int) by omega,ix_m h]
 unfold sgAt;rw[List.getD_eq_getElem?_getD,y2 h];rfl
def ixH (d:Nat):dIx (.lst (HDS.map D.str)) (.int ((d:Int)%4))=.ok (.str (hdAt d)):=by
 have h:d%4<HDS.length:=Nat.mod_lt _ (by decide)
 rw[show(d:Int)%4=((d%4:Nat):Int) by omega,ix_m h]
 unfold hdAt;rw[List.getD_eq_getElem?_getD,y2 h];rfl
def v0P (n:Nat):intL 0 n=(List.range n).map dN:=by
 unfold intL;refine List.map_congr_left λk _=>?_
 rw[Int.zero_add]
def slS (ss:List Str) (n:Nat):dSl (.lst (ss.map D.str)) none (some (n:Int))=.ok (.lst ((ss.take n).map D.str)):=by
 show Res.ok (D.lst (cutC _ _ _))=_;rw[cut_n,<- List.map_take]
def ixD {ds:List Nat}{i:Nat}{d:Nat} (j:Int) (e:j=(i:Int)) (h:ds[i]?=some d):dIx (.lst (ds.map dN)) (.int j)=.ok (dN d):=by
 rw[e];exact u7p (by rw[w9,h];rfl)
def catL {xs ys:List D} (h:xs.length+ys.length<=1000):catD (.lst xs) (.lst ys)=.ok (.l (xs++ys)):=u0r (u0q h)
def mulN (i:Int) {j:Nat} (h:i.natAbs<1000/\j<1000):dMulX (.int i) (.int (j:Int))=.ok (.int (i*j)):=u0r (.inl ⟨by omega,by omega⟩)
def addN' (i j:Int):dAdd (.int i) (.int j)=.ok (.int (i+j)):=rfl
def sgn_ix (d:Nat) {k:Nat} (hk:k<1000):((((noE (dMulX (D.int 7) (dN k))).bind λy=>noE (dAdd (dN d) y)).bind λx=>noE (dMod x (D.int 20))).bind λy=>noE (dIx (D.lst (List.map D.str SGN)) y))=.ok (.str (sgAt d k)):=by
 rw[mulN 7 ⟨by decide,hk⟩,u0S,bindN,addN',u0S,bindN,u1p (show(0:Int)<20 by decide),u0S,bindN,ixS]
 rfl
def hd_in (d:Nat):hdAt d∈HDS:=by
 have h:d%4<HDS.length:=Nat.mod_lt _ (by decide)
 unfold hdAt;rw[List.getD_eq_getElem?_getD,y2 h];exact z2B h
def sg_in (d:Nat):∀z∈sg9 d,z∈SGN:=λz hz=>by
 obtain⟨k,_,rfl⟩:=z0C.mp hz;have h:(d+7*k)%20<SGN.length:=Nat.mod_lt _ (by decide)
 unfold sgAt;rw[List.getD_eq_getElem?_getD,y2 h];exact z2B h
def sg_nd0:∀r:Fin 20,(sg9 r.1).Nodup:=by decide +kernel
def sg_nd (d:Nat):(sg9 d).Nodup:=by
 have:=sg_nd0 ⟨d%20,Nat.mod_lt _ (by decide)⟩
 have e:sg9 d=sg9 (d%20):=List.map_congr_left λk _=>by
  unfold sgAt;rw[show(d+7*k)%20=(d%20+7*k)%20 by omega]
 rw[e];exact this
def br_ix {sg:List Str} (hl:sg.length=9) {k:Nat} (hk:k<2) (i:Nat) (hi:i=3\/i=4) (j:Int) (ej:j=(i:Int)):(((noE (dMulX (.int 2) (dN k))).bind λy=>noE (dAdd (.int j) y)).bind λy=>noE (dIx (.lst (sg.map D.str)) y))=.ok (.str (sg.getD (i+2*k) "")):=by
 have h:i+2*k<sg.length:=by omega
 rw[mulN 2 ⟨by decide,by omega⟩,u0S,bindN,addN',u0S,bindN,ej,show(i:Int)+2*(k:Int)=((i+2*k:Nat):Int) by omega,ix_m h,List.getD_eq_getElem?_getD,y2 h]
 rfl
def slD (ss:List Str) (m n:Nat) (h:m+n<=ss.length) (i j:Int) (ei:i=(m:Int)) (ej:j=((m+n:Nat):Int)):dSl (.lst (ss.map D.str)) (some i) (some j)=.ok (.lst (((ss.drop m).take n).map D.str)):=by
 show Res.ok (D.lst (cutC _ _ _))=_;unfold cutC;rw[ei,ej,HT.sIx_nat,HT.sIx_nat,v8,Nat.min_eq_left h,Nat.min_eq_left (by omega),<- List.map_drop,<- List.map_take,Nat.add_sub_cancel_left]
theorem u6p {α β:Type} (f:α->β):∀(l:List α) (i:Nat),(l.map f).eraseIdx i=(l.eraseIdx i).map f
 | [],_=>rfl
 | x::l,0=>rfl
 | x::l,i+1=>congrArg (f x::·) (u6p f l i)
def flat_n (n:Nat):flatC (dN n)=.ok (dN n):=rfl
noncomputable def pw:Nat->Nat
 | 0=>1
 | 1=>3
 | _=>9
def pw_ix {n:Nat} (h:n<3):dIx (.lst [.int 1,.int 3,.int 9]) (.int (n:Int))=.ok (.int (pw n:Nat)):=by
 match n,h with
 | 0,_=>exact u7p rfl
 | 1,_=>exact u7p rfl
 | 2,_=>exact u7p rfl
def pw_pos (n:Nat):0<pw n/\pw n<=9:=by unfold pw;split<;>decide
def lvT {dl:List D}{i:Int}{d j:Nat} (h:dIx (.lst dl) (.int i)=.ok (dN d)) (hj:j<3):(((noE (dIx (.lst dl) (.int i))).bind λx=>((szD [.int 1,.int 3,.int 9] (Res.ok (D.lst [.int 1,.int 3,.int 9]))).bind λx=>noE (dIx x (dN j))).bind λy=>noE (dDiv x y)).bind λx=>noE (dMod x (.int 3)))=.ok (dN (d / pw j%3)):=by
 have hp:=pw_pos j;rw[h,u0S,bindN,u3B (by decide),bindN,pw_ix hj,u0S,bindN,u4R (by omega) (by omega),u0S,bindN,u1p (by decide)]
 rfl
def ixSd (n:Nat):dIx (.lst [.str "left",.str "right",.str "none"]) (dN (n%3))=.ok (.str (SIDE.getD (n%3) "")):=by
 have h:n%3<SIDE.length:=Nat.mod_lt _ (by decide)
 rw[show D.lst [.str "left",.str "right",.str "none"]=.lst (SIDE.map D.str) from rfl,ix_m h,List.getD_eq_getElem?_getD,y2 h]
 rfl
def side_in (n:Nat):SIDE.getD (n%3) ""∈SIDE:=by
 have h:n%3<SIDE.length:=Nat.mod_lt _ (by decide)
 rw[List.getD_eq_getElem?_getD,y2 h];exact z2B h
theorem u4O {α:Type}:∀(l:List α) (i:Nat) (h:i<l.length),(l[i]::l.eraseIdx i).Perm l
 | x::l,0,_=>.refl _
 | x::l,i+1,h=>(List.Perm.swap x (l[i]'(by simpa using h)) _).trans (.cons x (u4O l i (by simpa using h)))
def v0x {α:Type}{l:List α}{j:Nat} (h:j<l.length) (i:Nat):((l.eraseIdx j).take i++l[j]::(l.eraseIdx j).drop i).Perm l:=by
 refine List.perm_middle.trans ?_;rw[List.take_append_drop];exact u4O l j h
noncomputable def lvF (d:Nat) (ops:List Str) (z:Str):Nat:=d / pw (ops.idxOf z)%3
def lvl_eq {d k:Nat}{ops:List Str} (nd:ops.Nodup):(ops.zipIdx.filter λp=>decide (d / pw p.2%3=k)).map (λp=>D.str p.1)=(ops.filter λz=>decide (lvF d ops z=k)).map D.str:=by
 have e:ops.filter (λz=>decide (lvF d ops z=k))=(ops.zipIdx.filter λp=>decide (d / pw p.2%3=k)).map Prod.fst:=by
  conv=>lhs;arg 2;rw[<- List.zipIdx_map_fst 0 ops]
  rw[List.filter_map];congr 1;refine List.filter_congr λp hp=>?_
  obtain⟨z,i⟩:=p
  have:=List.mk_mem_zipIdx_iff_getElem?.mp hp
  obtain⟨hi,ez⟩:=w6.mp this;show decide (lvF d ops z=k)=_;unfold lvF;rw[<- ez,nd.idxOf_getElem i hi]
 rw[e,z1C];rfl
structure KO (ops:List Str) (lv:Str->Nat) (k:Nat) (kk:List RR):Prop where
 n:kk.length<=k
 g:∀q∈kk,Kk q
 nd:(kk.flatMap (·.2)).Nodup
 m:∀z,z∈kk.flatMap (·.2)↔z∈ops/\lv z<k
def KO.skip {ops:List Str}{lv:Str->Nat}{k:Nat}{kk:List RR} (K:KO ops lv k kk) (e:(ops.filter λz=>decide (lv z=k))=[]):KO ops lv (k+1) kk:=⟨Nat.le_succ_of_le K.n,K.g,K.nd,λz=>by
 rw[K.m z];constructor
 ·exact λ⟨a,b⟩=>⟨a,by omega⟩
 ·rintro ⟨a,b⟩
  refine⟨a,?_⟩
  have:=List.filter_eq_nil_iff.mp e z a
  simp at this
  omega⟩
def KO.app {ops:List Str}{lv:Str->Nat}{k:Nat}{kk:List RR}{s:Str} (K:KO ops lv k kk) (hs:s∈SIDE) (ho:ops.length<=3) (hg:∀z∈ops,z∈SYM) (nd:ops.Nodup) (e:(ops.filter λz=>decide (lv z=k))≠[]):KO ops lv (k+1) (kk++[(s,ops.filter λz=>decide (lv z=k))]):=by
 have fm:(kk++[(s,ops.filter λz=>decide (lv z=k))]).flatMap (·.2)=kk.flatMap (·.2)++ops.filter λz=>decide (lv z=k):=by simp
 refine⟨by have:=K.n;simp;omega,λq hq=>?_,?_,λz=>?_⟩
 ·rcases z0G.mp hq with hq | hq
  ·exact K.g q hq
  ·rw [v9.mp hq]
   exact⟨hs,e,v7 (List.length_filter_le _ _) ho,λb hb=>hg b (z1G.mp hb).1⟩
 ·rw [fm]
  refine List.nodup_append.mpr ⟨K.nd,nd.filter _,λx hx y hy z=>?_⟩
  have h1:=((K.m x).mp hx).2;have h2:=(z1G.mp hy).2;simp at h2;rw[z] at h1;omega
 ·rw [fm,z0G,K.m z,z1G]
  simp;constructor
  ·rintro (⟨a,b⟩ | ⟨a,b⟩)
   ·exact⟨a,by omega⟩
   ·exact⟨a,by omega⟩
  ·rintro ⟨a,b⟩
   by_cases c:lv z=k
   ·exact .inr ⟨a,c⟩
   ·exact .inl ⟨a,by omega⟩
noncomputable abbrev stO (a0 a1 a2:Option Sl) (dl:List D) (sg:Option Sl) (h:Option Sl) (ops:List Str) (rs:List RR) (x8 x9 x10 x11:Option Sl):Rho:=[a0,a1,a2,some (.val (.lst dl)),sg,h,some (.val (.lst (ops.map D.str))),some (.own (.l (rs.map rT))),x8,x9,x10,x11]
inductive Sin (a0 a1 a2:Option Sl) (dl:List D) (sg:Option Sl) (h:Option Sl) (ops:List Str) (base:List RR) (xs:List Nat) (ρ:Rho):Prop
 | mk (rs:List RR) (x8:Option Sl) (p:rs.Perm base) (e:ρ=stO a0 a1 a2 dl sg h ops rs x8 none none none)
inductive Qin (a0 a1 a2:Option Sl) (dl:List D) (sg:Option Sl) (h:Option Sl) (ops:List Str) (base:List RR) (o:Out):Prop
 | mk (rs:List RR) (x8:Option Sl) (p:rs.Perm base) (e:o=.nx (stO a0 a1 a2 dl sg h ops rs x8 none none none))
inductive Srn2 (a0 a1 a2:Option Sl) (dl:List D) (sg:Option Sl) (h:Option Sl) (ops:List Str) (rs:List RR) (x8:Option Sl) (lv:Str->Nat) (k:Nat) (ρ:Rho):Prop
 | mk (kk:List RR) (x10 x11:Option Sl) (o:KO ops lv k kk) (e:ρ=stO a0 a1 a2 dl sg h ops rs x8 (some (.own (.l (kk.map rT)))) x10 x11)
inductive Qrn2 (a0 a1 a2:Option Sl) (dl:List D) (sg:Option Sl) (h:Option Sl) (ops:List Str) (rs:List RR) (x8:Option Sl) (lv:Str->Nat) (o:Out):Prop
 | mk (kk:List RR) (x10 x11:Option Sl) (k:KO ops lv 3 kk) (e:o=.nx (stO a0 a1 a2 dl sg h ops rs x8 (some (.own (.l (kk.map rT)))) x10 x11))
inductive OpsV (v:D):Prop
 | mk (h:Str) (sg:List Str) (a b c:Nat) (rs kk:List RR) (lv:Str->Nat) (e:v=.tup [dR rs,dR kk]) (hh:h∈HDS) (l9:sg.length=9) (ss:∀z∈sg,z∈SGN) (nd:sg.Nodup) (ha:a<=3) (hb:b<=2) (hc:1<=c/\c<=2) (p:rs.Perm (base3 h sg a b c)) (ko:KO (sg.take a) lv 3 kk) (l3:∀z,lv z<3)
section
variable {P:Program}{w:World}{K:W.Frag}{mg:MG}{base:Heap}{f:Addr}{fd:FuncData}{A:Adr}
def u3o {a0s:FD} (a1j:Callee P w K mg base 2 "_law_row" ["_law_script","_law_at","_law_base","_law_count"] (spF K a0s)) (a3p:Row a0s) (F:Fun K "_law_operators" "_law_operators" u0p f fd) (T:Txt P w K mg A):∃G,FnOk P w K mg base CX0 3 f fd ["_law_script","_law_at"] (spF K G)/\∀ns,∃v,G [scr ns,dN 0]=.ok v/\OpsV v:=by
 refine⟨_,F.okT (k:=2) u0h (λcdv Ar outer s H E hr=>u0c (ds_n u0h.nd (u1n (u0a u0s (u0a u0s (u0a u0s (u0a u0s (u0a u0s (u0a u0s (u0a u0s (u0a u0s (u0a u0s (u0a u0s (u0a u0s (u0a u0s (u0a u0s (u0a u0s (u0a u0s (u0a u0s u0b))))))))))))))))))
  (u0c (ds_n u0h.nd (d_op u3r (dv 2) (u1n (u0a u0s (u0a u0s (u0a u0s (u0a u0s u0b)))))))
  (u0c (ds_n u0h.nd (d_fn a1j hr (u0a (dv 0) (u0a (dv 1) (u0a (d_op u1D (d_op u1D u0g u0g) u0g) (u0a u0g u0b))))))
  (u0c (ds_n u0h.nd (DN.de (u0I ["_law_k"] [2,3] rfl (u0l (sc:=defScope u0p) (N:=["_law_script","_law_at","_law_some","_law_draws","_law_signs","_law_head","_law_ops","_law_rules","_law_draw","_law_ranks","_law_k","_law_level"]) (by decide +kernel)) (u2x T.z_range (u0a u0g u0b)) (dg_n (show(["_law_k","_law_some","_law_draws"]:List Str).Nodup by decide +kernel)) u1k (d_ix x_ix (dv 1) (d_op u2j (d_op u3r (d_ix x_ix (dv 2) u0g) (d_op u1D u0g (dv 0))) u0g)))))
  (u0c (ds_n u0h.nd (d_ix x_ix (u1n (u0a u0s (u0a u0s (u0a u0s (u0a u0s u0b))))) (d_op u2j (d_ix x_ix (dv 3) u0g) u0g)))
  (u0c (ds_n u0h.nd (d_sl (dv 4) v1m (u2W (d_op u2j (d_op u7k (d_ix x_ix (dv 3) u0g) u0g) u0g))))
  (u0c (ds_comp ["_law_sign"] [5] rfl (u0l (sc:=defScope u0p) (N:=["_law_script","_law_at","_law_some","_law_draws","_law_signs","_law_head","_law_ops","_law_rules","_law_draw","_law_ranks","_law_k","_law_level"]) (by decide +kernel)) u0h.nd (u0B (dv 6)) (dg_n (show(["_law_sign","_law_head"]:List Str).Nodup by decide +kernel)) u1k (u1a (u0a (dv 1) (u0a (u1a (u0a (dv 1) (u0a (dv 0) (u0a (dv 1) u0b)))) u0b))))
  (DB.fix (u0c (u1X u0h.nd (v3N (dv 7) (DN.de (u0I ["_law_k"] [4,5] rfl (u0l (sc:=defScope u0p) (N:=["_law_script","_law_at","_law_some","_law_draws","_law_signs","_law_head","_law_ops","_law_rules","_law_draw","_law_ranks","_law_k","_law_level"]) (by decide +kernel)) (u2x T.z_range (u0a (d_op u2j (d_ix x_ix (dv 3) u0g) u0g) u0b)) (dg_n (show(["_law_k","_law_signs","_law_head"]:List Str).Nodup by decide +kernel)) u1k (u1a (u0a (dv 2) (u0a (u1a (u0a (d_ix x_ix (dv 1) (d_op u3r u0g (d_op u1D u0g (dv 0)))) (u0a (dv 2) (u0a (d_ix x_ix (dv 1) (d_op u3r u0g (d_op u1D u0g (dv 0)))) u0b)))) u0b)))))))
  (DB.fix (u0c (u1X u0h.nd (v3N (dv 7) (DN.de (u0I ["_law_sign"] [5] rfl (u0l (sc:=defScope u0p) (N:=["_law_script","_law_at","_law_some","_law_draws","_law_signs","_law_head","_law_ops","_law_rules","_law_draw","_law_ranks","_law_k","_law_level"]) (by decide +kernel)) (u0B (d_sl (dv 4) (u2W u0g) (u2W (d_op u3r u0g (d_op u2j (d_op u7k (d_ix x_ix (dv 3) u0g) u0g) u0g))))) (dg_n (show(["_law_sign","_law_head"]:List Str).Nodup by decide +kernel)) u1k (u1a (u0a (dv 1) (u0a (u1a (u0a (dv 0) u0b)) u0b)))))))
  (u0c (u1j rfl (u0B (d_sl (dv 3) (u2W u0g) (u2W u0g))) (dg_n u0h.nd)
  (u0e (v3k (x_ins 7 (u6H (v3w (xq:=xqF) (DE.flat (d_op u2j (dv 8) (d_B u1G T.z_len (by decide +kernel) (u0a (dv 7) u0b))))) (u6H (x_popAt 7 (u6H (v3w (xq:=xqF) (DE.flat (d_op u2j (d_op u7k (dv 8) u0g) (d_B u1G T.z_len (by decide +kernel) (u0a (dv 7) u0b))))) v3v)) v3v))))))
  (u0c (u1X u0h.nd (u8o u0b))
  (u0c (u1j rfl (u2x T.z_range (u0a u0g u0b)) (dg_n u0h.nd)
  (u0c (u8m ["_law_j","_law_sign"] [3,10] rfl (u0l (sc:=defScope u0p) (N:=["_law_script","_law_at","_law_some","_law_draws","_law_signs","_law_head","_law_ops","_law_rules","_law_draw","_law_ranks","_law_k","_law_level"]) (by decide +kernel)) u0h.nd (v1p T.z_enumerate (u0a (dv 6) u0b)) (u4h (n:=2) rfl (u0y (dg_n (show (["_law_j","_law_sign","_law_draws","_law_k"]:List Str).Nodup by decide +kernel)) (u0y (dg_n (show (["_law_j","_law_sign","_law_draws","_law_k"]:List Str).Nodup by decide +kernel)) u2p))) (u8r (u0A (o_eqX (hu64 hr)) (d_op u2j (d_op u7k (d_ix x_ix (dv 2) u0g) (d_ix x_ix (u1n (u0a u0g (u0a u0g (u0a u0g u0b)))) (dv 0))) u0g) (dv 3))) (dv 1))
   (u0e (u0W (u0A (o_neX (hu64 hr)) (dv 11) (u1n u0b)) (u0e (u8n 9 (u1a (u0a (d_ix x_ix (u1n (u0a u0s (u0a u0s (u0a u0s u0b)))) (d_op u2j (d_op u7k (d_ix x_ix (dv 3) u0g) (d_ix x_ix (u1n (u0a u0g (u0a u0g (u0a u0g u0b)))) (dv 10))) u0g)) (u0a (d_T u2r T.z_tuple (by decide +kernel) (u0a (dv 11) u0b)) u0b))))) u0D))))
  (u0e (u0o (u1a (u0a (dv 7) (u0a (dv 9) u0b))))))))))))))))))),?_⟩
 intro ns;obtain⟨ds,er,hl,hb⟩:=a3p ns 0 4320 8 (by decide) (by decide) (by decide)
 obtain⟨d0,d1,d2,d3,d4,d5,d6,d7,rfl⟩:∃d0 d1 d2 d3 d4 d5 d6 d7,ds=[d0,d1,d2,d3,d4,d5,d6,d7]:=by
  match ds,hl with
  | [d0,d1,d2,d3,d4,d5,d6,d7],_=>exact⟨_,_,_,_,_,_,_,_,rfl⟩
 refine run2 rfl ?_;refine asg (.lst ((SGN.take 16).map D.str)) (by simp[startD];rfl) rfl ?_
 refine asg (.lst (SGN.map D.str)) (by
  simp only[startD];simp;exact congrArg noE (addL (by decide))) rfl ?_
 refine asg (.lst ([d0,d1,d2,d3,d4,d5,d6,d7].map dN)) (by
  simp only[startD];simp;exact congrArg noE er) rfl ?_
 have x0:=ixD (ds:=[d0,d1,d2,d3,d4,d5,d6,d7]) (i:=0) 0 rfl rfl;have x1:=ixD (ds:=[d0,d1,d2,d3,d4,d5,d6,d7]) (i:=1) 1 rfl rfl;have x2:=ixD (ds:=[d0,d1,d2,d3,d4,d5,d6,d7]) (i:=2) 2 rfl rfl;have x6:=ixD (ds:=[d0,d1,d2,d3,d4,d5,d6,d7]) (i:=6) 6 rfl rfl;have x7:=ixD (ds:=[d0,d1,d2,d3,d4,d5,d6,d7]) (i:=7) 7 rfl rfl;have sl:dSl (.lst ([d0,d1,d2,d3,d4,d5,d6,d7].map dN)) (some 3) (some 6)=.ok (.lst ([d3,d4,d5].map dN)):=rfl;generalize [d0,d1,d2,d3,d4,d5,d6,d7].map dN=dl at x0 x1 x2 x6 x7 sl;refine asg (.lst ((sg9 d0).map D.str)) (by
  simp only[startD];simp[u6Z (n:=9) 9 rfl (by decide),-u3v,-u0F,-Res.bind_ok,-L2.go_ok,-Out.then_nx,bindN,goN,thenN]
  rw[u0r (u0q (by rw[u8a];omega)),v0P,compM dN (λk=>D.str (sgAt d0 k)) λk hk=>⟨_,rfl,rfl,by
   simp[rhoC,x0,-u3v,-u0F,-Res.bind_ok,-L2.go_ok,-Out.then_nx,bindN,goN,thenN];exact sgn_ix d0 (by have:=List.mem_range.mp hk;omega)⟩]
  simp[OD.toD,sg9]) rfl ?_
 have l9:(sg9 d0).length=9:=by simp[sg9]
 have ss:=sg_in d0;have nd:=sg_nd d0;generalize sg9 d0=sg at l9 ss nd;refine asg (.str (hdAt d1)) (by
  simp only[startD];simp[x1,u1p (show(0:Int)<4 by decide),-u3v,-u0F,-Res.bind_ok,-L2.go_ok,-Out.then_nx,bindN,goN,thenN]
  exact congrArg noE (ixH d1)) rfl ?_
 have hh:=hd_in d1;generalize hdAt d1=h at hh;refine asg (.lst ((sg.take (d1 / 4%4)).map D.str)) (by
  simp only[startD];simp[x1,u1p (show(0:Int)<4 by decide),u4R (i:=(d1:Int)) (show(0:Int)<4 by decide) (by decide),asI,-u3v,-u0F,-Res.bind_ok,-L2.go_ok,-Out.then_nx,bindN,goN,thenN]
  rw[show(d1:Int) / 4%4=((d1 / 4%4:Nat):Int) by omega]
  rw[slS sg]
  simp) rfl ?_
 have ha:d1 / 4%4<=3:=by omega
 generalize d1 / 4%4=a at ha;have ho:(sg.take a).length<=3:=by simp;omega
 have eb:(sg.take a).map (opR h)=base1 h sg a:=rfl;generalize hO:sg.take a=ops at ho eb;refine asg (.l ((base1 h sg a).map rT)) (by
  simp only[startD];simp;rw[u0r (u0q (by omega)),compM D.str (λs=>rT (opR h s)) λs hs=>⟨_,rfl,rfl,by simp[rhoC];rfl⟩]
  simp[<- eb]) rfl ?_
 have l1:(base1 h sg a).length<=3:=by rw[<- eb,v8];exact ho
 refine asg (.l ((base2 h sg a (d2%3)).map rT)) (by
  simp only[startD];simp[x2,u1p (show(0:Int)<3 by decide),OD.toD,-u3v,-u0F,-Res.bind_ok,-L2.go_ok,-Out.then_nx,bindN,goN,thenN]
  rw[u6Z (n:=d2%3) _ (show(d2:Int)%3=_ by omega) (by omega)]
  simp only[bindN];rw[u0r (u0q (by rw[u8a];omega)),v0P,compM dN (λk=>rT (brR h sg k)) λk hk=>⟨_,rfl,rfl,by
   have:k<2:=by have:=List.mem_range.mp hk;omega
   have b3:=br_ix l9 this 3 (.inl rfl) 3 rfl;have b4:=br_ix l9 this 4 (.inr rfl) 4 rfl;simp[rhoC,-u3v,-u0F,-Res.bind_ok,-L2.go_ok,-Out.then_nx,bindN,goN,thenN];rw[b3,b4];simp
   rfl⟩]
  simp only[bindN,u3h];rw[catL (by simp;omega)]
  simp[base2]) rfl ?_
 have l2:(base2 h sg a (d2%3)).length<=5:=by simp[base2];omega
 have hb2:d2%3<=2:=by omega
 generalize d2%3=b at l2 hb2;refine asg (.l ((base3 h sg a b (1+d2 / 3%2)).map rT)) (by
  simp only[startD];simp[x2,u1p (show(0:Int)<2 by decide),u4R (i:=(d2:Int)) (show(0:Int)<3 by decide) (by decide),asI,OD.toD,-u3v,-u0F,-Res.bind_ok,-L2.go_ok,-Out.then_nx,bindN,goN,thenN]
  rw[slD sg 7 (1+d2 / 3%2) (by omega) 7 _ rfl (by omega)]
  have l3:((sg.drop 7).take (1+d2 / 3%2)).length<=2:=by rw[z3C];omega
  rw[show base3 h sg a b (1+d2 / 3%2)=base2 h sg a b++((sg.drop 7).take (1+d2 / 3%2)).map (atR h) from rfl]
  generalize (sg.drop 7).take (1+d2 / 3%2)=at3 at l3;simp;rw[u0r (u0q (by omega)),compM D.str (λs=>rT (atR h s)) λs hs=>⟨_,rfl,rfl,by simp[rhoC];rfl⟩]
  simp only[bindN,u3h];rw[catL (by simp;omega)]
  simp) (show _=Out.nx (stO (some (.val (scr ns))) (some (.val (dN 0))) (some (.val (.lst (SGN.map D.str)))) dl (some (.val (.lst (sg.map D.str)))) (some (.val (.str h))) ops (base3 h sg a b (1+d2 / 3%2)) none none none none) from rfl) ?_
 have hc:1<=1+d2 / 3%2/\1+d2 / 3%2<=2:=by omega
 generalize 1+d2 / 3%2=c at hc;have lb:1<=(base3 h sg a b c).length/\(base3 h sg a b c).length<=7:=by simp[base3,l9];omega
 generalize hB:base3 h sg a b c=bs at lb;generalize some (Sl.val (scr ns))=a0;generalize some (Sl.val (dN 0))=a1;generalize some (Sl.val (D.lst (SGN.map D.str)))=a2;generalize some (Sl.val (D.lst (sg.map D.str)))=a4;generalize some (Sl.val (D.str h))=a5;refine thq (T:=Qin a0 a1 a2 dl a4 a5 ops bs) ?_ ?_
 ·apply goq (v:=[d3,d4,d5].map dN)
  ·simp[sl,asI]
  refine u2U dN (Sin a0 a1 a2 dl a4 a5 ops bs) (Qin a0 a1 a2 dl a4 a5 ops bs) ?_ ?_ [d3,d4,d5] _ ⟨bs,none,.refl _,rfl⟩
  ·rintro ρ ⟨rs,x8,p,rfl⟩
   exact⟨rs,x8,p,rfl⟩
  ·rintro d xs ρ ⟨rs,x8,p,rfl⟩
   have ln:rs.length=bs.length:=p.length_eq;refine⟨_,rfl,?_⟩;have hj:d / 20%rs.length<rs.length:=Nat.mod_lt _ (by omega)
   have hi:d%rs.length<rs.length:=Nat.mod_lt _ (by omega)
   have m1:dMod (dN d) (.int (rs.length:Int))=.ok (dN (d%rs.length)):=u1p (by omega)
   have m2:dMod (.int ((d:Int) / 20)) (.int (rs.length:Int))=.ok (dN (d / 20%rs.length)):=u1p (by omega)
   refine goq (v:=(.non,stO a0 a1 a2 dl a4 a5 ops ((rs.eraseIdx (d / 20%rs.length)).take (d%rs.length)++rs[d / 20%rs.length]::(rs.eraseIdx (d / 20%rs.length)).drop (d%rs.length)) (some (.val (dN d))) none none none)) ?_ (.inl ⟨_,rfl,_,_,(v0x hj _).trans p,rfl⟩);generalize d / 20%rs.length=j at hj m2;generalize d%rs.length=i at hi m1;have f8:getV (frz [a0,a1,a2,some (.val (.lst dl)),a4,a5,some (.val (.lst (ops.map D.str))),some (.own (.l (rs.map rT))),some (.val (dN d)),none,none,none]) 8=.ok (dN d):=rfl;have f7:getV (frz [a0,a1,a2,some (.val (.lst dl)),a4,a5,some (.val (.lst (ops.map D.str))),some (.own (.l (rs.map rT))),some (.val (dN d)),none,none,none]) 7=.ok (.lst (rs.map rT)):=rfl;have le:(rs.eraseIdx j).length=rs.length - 1:=by rw[List.length_eraseIdx,if_pos hj]
   have pj:popL (stO a0 a1 a2 dl a4 a5 ops rs (some (.val (dN d))) none none none) 7 [dN j]=.ok (rT rs[j],stO a0 a1 a2 dl a4 a5 ops (rs.eraseIdx j) (some (.val (dN d))) none none none):=by
    have:popL (stO a0 a1 a2 dl a4 a5 ops rs (some (.val (dN d))) none none none) 7 [dN j]=if j<2^63 then (match (rs.map rT)[j]? with|some x=>.ok (x,stO a0 a1 a2 dl a4 a5 ops [] (some (.val (dN d))) none none none |>.set 7 (some (.own (.l ((rs.map rT).eraseIdx j)))))|none=>.bad) else .bad:=rfl
    rw[this,if_pos (by omega),w9,y2 hj,u6p]
    rfl
   have ij:insL (stO a0 a1 a2 dl a4 a5 ops (rs.eraseIdx j) (some (.val (dN d))) none none none) 7 [dN i,rT rs[j]]=.ok (.non,stO a0 a1 a2 dl a4 a5 ops ((rs.eraseIdx j).take i++rs[j]::(rs.eraseIdx j).drop i) (some (.val (dN d))) none none none):=by
    have:insL (stO a0 a1 a2 dl a4 a5 ops (rs.eraseIdx j) (some (.val (dN d))) none none none) 7 [dN i,rT rs[j]]=if i<=((rs.eraseIdx j).map rT).length/\((rs.eraseIdx j).map rT).length<sizeLine/\i<2^63 then .ok (.non,(stO a0 a1 a2 dl a4 a5 ops [] (some (.val (dN d))) none none none).set 7 (some (.own (.l (((rs.eraseIdx j).map rT).take i++rT rs[j]::((rs.eraseIdx j).map rT).drop i))))) else .bad:=rfl
    rw[this,if_pos ⟨by rw[v8];omega,by rw[v8];exact w5 (show _<1000 by omega) (u0q (y0 _)),by omega⟩,<- List.map_take,<- List.map_drop,<- u9,<- z0J]
    rfl
   simp[getW,m1,m2,u4R (i:=(d:Int)) (show(0:Int)<20 by decide) (by decide),f8,f7,flat_n,agv,pj,ij,-u3v,-u0F,-Res.bind_ok,-L2.go_ok,-Out.then_nx,bindN,goN,thenN]
 ·rintro o ⟨rs,x8,p,rfl⟩
  refine th rfl ?_;refine th rfl ?_;refine thq (T:=Qrn2 a0 a1 a2 dl a4 a5 ops rs x8 (lvF d6 ops)) ?_ ?_
  ·apply goq (v:=intL 0 3)
   ·exact u6Z (n:=3) 3 rfl (by decide)
   refine u8g (n:=3) (Srn2 a0 a1 a2 dl a4 a5 ops rs x8 (lvF d6 ops)) (Qrn2 a0 a1 a2 dl a4 a5 ops rs x8 (lvF d6 ops)) ⟨[],none,none,⟨by simp,by simp,by simp,by simp⟩,rfl⟩ ?_ ?_
   ·rintro ρ ⟨kk,x10,x11,K,rfl⟩
    exact⟨kk,x10,x11,K,rfl⟩
   ·rintro k ρ hk ⟨kk,x10,x11,K,rfl⟩
    refine⟨_,rfl,?_⟩;show StO (λ(_:List Unit)=>Srn2 a0 a1 a2 dl a4 a5 ops rs x8 (lvF d6 ops) (k+1)) (Qrn2 a0 a1 a2 dl a4 a5 ops rs x8 (lvF d6 ops)) [] _
    refine asg (.l ((ops.filter λz=>decide (lvF d6 ops z=k)).map D.str)) ?_ rfl ?_
    ·rw [show (getV (List.set (stO a0 a1 a2 dl a4 a5 ops rs x8 (some (Sl.own (OD.l (List.map rT kk)))) x10 x11) (0+1+1+1+1+1+1+1+1+1+1) (some (Sl.val (dN k)))) 6)=.ok (.lst (ops.map D.str)) from rfl]
     simp only[bindN];rw[show enum1 [.lst (ops.map D.str)]=.ok (enumL (ops.map D.str)) from rfl]
     unfold enumL;rw[List.zipIdx_map,z1C,show(λp:D×Nat=>D.tup [.int (p.2:Nat),p.1]) ∘ Prod.map D.str id=(λp:Str×Nat=>D.tup [.int (p.2:Nat),.str p.1]) from rfl]
     simp only[bindN];rw[u0r (u0q (by simp;omega))]
     rw[compF (λp:Str×Nat=>D.tup [.int (p.2:Nat),.str p.1]) (λp=>decide (d6 / pw p.2%3=k)) (λp=>.str p.1) λp hp=>⟨_,rfl,?_,λ_=>rfl⟩]
     ·simp only [bindN]
      rw[lvl_eq (by rw[<- hO];exact nd.sublist (List.take_sublist _ _))]
     ·have hj:p.2<3:=by
       have:=List.mk_mem_zipIdx_iff_getElem?.mp (show(p.1,p.2)∈ops.zipIdx from hp)
       have:=(w6.mp this).1
       omega
      refine Eq.trans (show _=(((noE (dIx (.lst dl) (.int 6))).bind λx=>((szD [.int 1,.int 3,.int 9] (Res.ok (D.lst [.int 1,.int 3,.int 9]))).bind λx=>noE (dIx x (dN p.2))).bind λy=>noE (dDiv x y)).bind λx=>noE (dMod x (.int 3))).bind λx=>(noE (dEqX x (dN k))).bind asB from rfl) ?_
      rw[lvT x6 hj,bindN,eqw _ k _ rfl];rfl
    ·refine iff1 (!((ops.filter fun z=>decide (lvF d6 ops z=k)).map D.str).isEmpty) ?_ (fun c=>?_) fun c=>?_
     ·exact congrArg (λr=>(noE r).bind asB) (u7m _)
     ·have ne:(ops.filter fun z=>decide (lvF d6 ops z=k))≠[]:=by simpa using c
      refine goq (v:=kk.map rT) rfl ?_;refine goq (v:=rT (SIDE.getD (d7 / pw k%3) "",ops.filter λz=>decide (lvF d6 ops z=k))) ?_ ?_
      ·refine Eq.trans (show _=((((szD [.str "left",.str "right",.str "none"] (Res.ok (D.lst [.str "left",.str "right",.str "none"]))).bind fun x=>(((noE (dIx (.lst dl) (.int 7))).bind fun x=>((szD [.int 1,.int 3,.int 9] (Res.ok (D.lst [.int 1,.int 3,.int 9]))).bind fun x=>noE (dIx x (dN k))).bind fun y=>noE (dDiv x y)).bind fun x=>noE (dMod x (.int 3))).bind fun y=>noE (dIx x y)).bind fun d=>Res.ok [d,.tup ((ops.filter fun z=>decide (lvF d6 ops z=k)).map D.str)]).bind fun ds=>szD ds (Res.ok (D.tup ds))) from rfl) ?_
       rw[lvT x7 hk,u3B (by decide),bindN,bindN,ixSd,u0S,bindN,bindN,u3B (by simp)]
       rfl
      ·rw [if_pos (show (kk.map rT).length<sizeLine by rw [v8];exact w5 (show _<1000 by have:=K.n;omega) (u0q (y0 _)))]
       refine .inl ⟨_,rfl,_,some (.val (dN k)),some (.val (.lst ((ops.filter λz=>decide (lvF d6 ops z=k)).map D.str))),K.app (side_in (d7 / pw k)) ho (λz hz=>u3F (ss z (z1I (hO ▸ hz)))) (hO ▸ nd.sublist (List.take_sublist _ _)) ne,?_⟩
       rw[z0J];rfl
     ·refine .inl ⟨_,rfl,kk,_,_,K.skip ?_,rfl⟩
      simpa using c
  ·rintro o ⟨kk,x10,x11,K,rfl⟩
   exact⟨_,rfl,h,sg,a,b,c,rs,kk,lvF d6 ops,rfl,hh,l9,ss,nd,ha,hb2,hc,by rw[hB];exact p,by rw[hO];exact K,λz=>Nat.mod_lt _ (by decide)⟩
end
def v0y {rs:List RR}{z:Str}:z∈headsL rs↔z∈hsOf rs:=by unfold headsL;rw[u2s,u0P]
theorem u6r:∀ss:List Str,depDs (ss.map D.str)=0
 | []=>by simp[depDs]
 | z::ss=>by simp[depDs,depD,u6r ss]
def dep_rT (p:RR):depD (rT p)<=2:=by simp[rT,depD,depDs,u6r]
theorem v3R {n:Nat}:∀{ds:List D},(∀d∈ds,depD d<=n)->depDs ds<=n
 | [],_=>by simp[depDs]
 | d::ds,h=>by
  have:=h d z8
  have:=v3R (ds:=ds) λx hx=>h x (y1 _ hx)
  simp[depDs];omega
def good_dR {rs:List RR} (h:∀p∈rs,goodS p.1=true/\∀b∈p.2,goodS b=true):goodD (dR rs)=true:=u7r λd hd=>by
 obtain⟨p,hp,rfl⟩:=z0C.mp hd;exact u7q (h p hp).1 (h p hp).2
def dep_dR (rs:List RR):depD (dR rs)<=50:=by
 have:=v3R (n:=2) (ds:=rs.map rT) λd hd=>by
  obtain⟨p,_,rfl⟩:=z0C.mp hd;exact dep_rT p
 simp only[depD];omega
section
variable {h:Str}{sg:List Str}{n:Nat}{rs kk:List RR}
def Wf.sl (W:Wf h sg n rs kk):(sgL [] rs).length<=10:=by
 refine v7 (u4W (pool:=sg++X1) (v3y (by simp)) (u6Q (P:=λz=>z∈sg++X1) (λz hz=>(nomatch hz)) λp hp b hb s=>?_)) (by have:=W.l9;simp[X1];omega)
 rcases(W.r p hp).s b hb with e|e|e
 ·rw[e,(u4b h W.hd).2.1] at s;cases s
 ·exact z0D _ e
 ·exact t0 _ (by rw[e];decide +kernel)
def Wf.few (W:Wf h sg n rs kk) (hn:n<=2):Few rs:=⟨λp hp=>W.okR hp,by have:=W.n7;omega,by have:=W.sl;omega⟩
def Wf.gg (W:Wf h sg n rs kk) (hn:n<=2):GG rs kk:=⟨W.few hn,λq hq b hb=>(u1C b ((W.k q hq).g b hb)).2.2.1⟩
def Wf.gok (W:Wf h sg n rs kk) (hn:n<=2) (nd:rs.Nodup) (nk:(kk.flatMap (·.2)).Nodup):GOk rs kk:=by
 have l7:=W.n7;have k3:=W.k3;obtain⟨b0,rest,e0⟩:=W.f;refine⟨W.few hn,by rw[e0];simp,nd,λp hp b hb s=>v0y.mpr ?_,?_,W.sl,λq hq=>⟨?_,?_,v7 (W.k q hq).l (by decide)⟩,by omega,nk⟩
 ·rcases W.sy hp hb with e | e
  ·rw[e,e0];simp[hsOf]
  ·rw[(u1C b e).2.1] at s;cases s
 ·unfold headsL
  rw[u1v];refine v7 (u4W (pool:=[h,"Q"]) (u3a _) λz hz=>?_) (by simp)
  obtain⟨p,hp,rfl⟩:=z0C.mp (u0P.mp hz);rcases(W.r p hp).c with e|e
  ·simp[e]
  ·simp[e,Qx]
 ·exact u7q (u6N _ (W.k q hq).s).1 λb hb=>(u1C b ((W.k q hq).g b hb)).2.2.1
 ·have k:=W.k q hq
  simp only[rT,rankD,rsgD,z0A,v8,decide_eq_true_eq,List.all_map,z2C];exact⟨(u6N _ k.s).2,List.length_pos_iff.mpr k.n,v7 k.l (by decide),λb hb=>(u1C b (k.g b hb)).1⟩
def Wf.make (W:Wf h sg n rs kk) (hn:n<=2) (nd:rs.Nodup) (nk:(kk.flatMap (·.2)).Nodup):gInit [dR rs,dR kk]=.ok (gFlds (dR rs) (dR kk)):=u8d (W.gok hn nd nk) (.inl rfl)
end
def w_ne:(("atom":Str)==("head":Str))=false/\(("op":Str)==("head":Str))=false/\(("left":Str)==("head":Str))=false/\(("right":Str)==("head":Str))=false/\(("atom":Str)==("op":Str))=false/\(("left":Str)==("op":Str))=false/\(("right":Str)==("op":Str))=false/\("atom":Str)≠"op"/\("atom":Str)≠"left"/\("atom":Str)≠"right":=by decide +kernel
def v0T {h:Str}{rs:List RR} (hm:h∈hsOf rs):decide ((headsL rs).length > 1)=rs.any λp=>!(p.1==h):=by
 have el:(headsL rs).length=(setOfT (hsOf rs)).length:=by unfold headsL;rw[u1v]
 have mh:h∈setOfT (hsOf rs):=u0P.mpr hm;rw[el];cases c:rs.any λp=>!(p.1==h) with
 | true =>
  obtain⟨p,hp,e⟩:=List.any_eq_true.mp c;have mp:p.1∈setOfT (hsOf rs):=u0P.mpr (z3A hp);have ne:p.1≠h:=by simpa using e
  refine decide_eq_true ?_
  match hl:setOfT (hsOf rs),mh,mp with
  | [x],mh,mp=>exact absurd ((v9.mp mp).trans (v9.mp mh).symm) ne
  | x::y::l,_,_=>simp
 | false =>
  refine decide_eq_false ?_
  have:=u4W (pool:=[h]) (u3a (hsOf rs)) λz hz=>by
   obtain⟨p,hp,rfl⟩:=z0C.mp (u0P.mp hz)
   have:=List.any_eq_false.mp c p hp
   simpa using this
  simp at this;omega
structure RuS (h:Str) (kk:List RR) (q:RR):Prop where
 c:q.1=h
 r:(rolesB q).length≠0
 s:∀k,(spotsP k q.2).map (·.1)=sgnsOf h q.2
 a:∀k,(spotsP k q.2).all (λq=>(rkS kk q.1).isSome==(q.2.1==("op":Str)))=true
 t:∀k,hasAtom (spotsP k q.2)=(q.2.length==1)
section
variable {h:Str}{kk:List RR}{s t:Str}
def rus_op (hh:hdS h=true) (hs:hdS s=false) (n:s≠h) (r:(rkS kk s).isSome=true):RuS h kk (opR h s):=by
 obtain⟨a1,a2,a3,a4,a5,a6,a7,a8,a9,a0⟩:=w_ne
 constructor<;>simp[opR,rolesB,rolesS,spotsP,hh,hs,a2,sgnsOf,n,r,hasAtom,a8]
def rus_br (hh:hdS h=true) (hs:hdS s=false) (ht:hdS t=false) (n:s≠h) (m:t≠h) (r:(rkS kk s).isSome=false) (q:(rkS kk t).isSome=false):RuS h kk (h,[s,h,t]):=by
 obtain⟨a1,a2,a3,a4,a5,a6,a7,a8,a9,a0⟩:=w_ne
 constructor<;>simp[rolesB,rolesS,spotsP,hh,hs,ht,a3,a4,a6,a7,sgnsOf,n,m,r,q,hasAtom,a9,a0]
def rus_at (hs:hdS s=false) (n:s≠h) (r:(rkS kk s).isSome=false):RuS h kk (atR h s):=by
 obtain⟨a1,a2,a3,a4,a5,a6,a7,a8,a9,a0⟩:=w_ne
 constructor<;>simp[atR,rolesB,rolesS,spotsP,hs,a1,a5,sgnsOf,n,r,hasAtom]
end
theorem u3D {h:Str}{kk:List RR}:∀{rs:List RR} (k:Nat),(∀q∈rs,RuS h kk q)->(spotsL k rs).map (·.1)=allS h rs/\hasAtom (spotsL k rs)=(rs.any λp=>p.2.length==1)/\(spotsL k rs).all (λq=>(rkS kk q.1).isSome==(q.2.1==("op":Str)))=true
 | [],_,_=>⟨rfl,rfl,rfl⟩
 | p::rs,k,ok=>by
  obtain⟨i1,i2,i3⟩:=u3D (rs:=rs) (k+1) λq hq=>ok q (y1 _ hq)
  have r:=ok p z8;refine⟨by rw[spotsL,z0J,r.s,i1];rfl,?_,by rw[spotsL,List.all_append,i3,r.a];rfl⟩
  rw[List.any_cons,<- i2,<- r.t k];unfold hasAtom;rw[spotsL,z0J,<- Bool.decide_or];exact decide_eq_decide.mpr z0G
def v1F {ss:List Str}{b z:Str} (h:z∈ss\/(z=b/\sgnS b=true)):z∈addSg ss b:=by
 unfold addSg addT;rcases h with h|⟨rfl,h⟩
 ·split
  ·split
   ·exact h
   ·exact z0D _ h
  ·exact h
 ·rw [if_pos h]
  split
  ·assumption
  ·simp
theorem u5t {z:Str}:∀{bs ss:List Str},(z∈ss\/(z∈bs/\sgnS z=true))->z∈bs.foldl addSg ss
 | [],ss,h=>by simpa using h
 | b::bs,ss,h=>u5t (bs:=bs) (by
  rcases h with h|⟨h,s⟩
  ·exact .inl (v1F (.inl h))
  ·rcases y7.mp h with rfl | h
   ·exact .inl (v1F (.inr ⟨rfl,s⟩))
   ·exact .inr ⟨h,s⟩)
theorem u9R {z:Str}:∀{rs:List RR}{ss:List Str},(z∈ss\/∃p∈rs,z∈p.2/\sgnS z=true)->z∈sgL ss rs
 | [],ss,h=>by simpa[sgL] using h
 | p::rs,ss,h=>u9R (rs:=rs) (ss:=p.2.foldl addSg ss) (by
  rcases h with h|⟨q,hq,h⟩
  ·exact .inl (u5t (.inl h))
  ·rcases y7.mp hq with rfl | hq
   ·exact .inl (u5t (.inr h))
   ·exact .inr ⟨q,hq,h⟩)
def ops_ok {h:Str}{sg:List Str}{rs kk:List RR} (W:Wf h sg 0 rs kk) (ok:∀q∈rs,RuS h kk q) (nd:(allS h rs).Nodup) (ha:(rs.any λp=>p.2.length==1)=true):isOps rs kk=true:=by
 obtain⟨a1,a2,a3⟩:=u3D 0 ok;have hm:h∈hsOf rs:=by
  obtain⟨b,rest,e⟩:=W.f;rw[e];simp[hsOf]
 have len:(spotsL 0 rs).length<=(sgL [] rs).length:=by
  rw[show(spotsL 0 rs).length=(allS h rs).length by rw[<- a1,v8]]
  refine u4W nd λz hz=>u9R (.inr ?_)
  obtain⟨p,hp,hz⟩:=z2H.mp hz;obtain⟨hz,ne⟩:=z1G.mp hz;refine⟨p,hp,hz,?_⟩;rcases W.sy hp hz with e|e
  ·rw[e] at ne;simp at ne
  ·exact(u1C z e).1
 unfold isOps;rw[v0T hm,if_neg,a2,ha,if_neg]
 ·exact a3
 ·simp;omega
 ·intro z
  rcases Bool.or_eq_true_iff.mp z with z|z
  ·obtain ⟨p,hp,e⟩:=List.any_eq_true.mp z
   simp[(ok p hp).c] at e
  ·obtain ⟨p,hp,e⟩:=List.any_eq_true.mp z
   exact(ok p hp).r (by simpa using e)
theorem u2w {α β:Type}{f:α->List β}:∀{l:List α},(l.flatMap f).Nodup->(∀x∈l,f x≠[])->l.Nodup
 | [],_,_=>List.nodup_nil
 | x::l,nd,ne=>by
  rw[List.flatMap_cons,List.nodup_append] at nd;refine z1J.mpr ⟨λm=>?_,u2w nd.2.1 λy hy=>ne y (y1 _ hy)⟩
  obtain⟨b,hb⟩:=List.exists_mem_of_ne_nil _ (ne x z8);exact nd.2.2 b hb b (z2H.mpr ⟨x,m,hb⟩) rfl
def rk_some {ops:List Str}{lv:Str->Nat}{kk:List RR} (K:KO ops lv 3 kk) (l3:∀z,lv z<3) (z:Str):(rkS kk z).isSome=decide (z∈ops):=by
 rw[z2E,decide_eq_true_iff];unfold rkS;rw[List.findIdx?_isSome,List.any_eq_true];constructor
 ·rintro ⟨q,hq,e⟩
  exact((K.m z).mp (z2H.mpr ⟨q,hq,by simpa using e⟩)).1
 ·intro m
  obtain⟨q,hq,e⟩:=z2H.mp ((K.m z).mpr ⟨m,l3 z⟩);exact⟨q,hq,by simpa using e⟩
def u9P {h s:Str} (n:s≠h):sgnsOf h (opR h s).2=[s]:=by simp[sgnsOf,opR,n]
def u9Q {h s:Str} (n:s≠h):sgnsOf h (atR h s).2=[s]:=by simp[sgnsOf,atR,n]
theorem u4f {α β:Type} (f:α->β) (g:β->List α):∀{l:List α},(∀x∈l,g (f x)=[x])->(l.map f).flatMap g=l
 | [],_=>rfl
 | x::l,e=>by rw[u9,List.flatMap_cons,e x z8,u4f f g λy hy=>e y (y1 _ hy)];rfl
def v3s {h:Str}{sg:List Str}{a b c:Nat} (l9:sg.length=9) (ne:∀z∈sg,z≠h) (hb:b<=2):allS h (base3 h sg a b c)=sg.take a++(sg.drop 3).take (2*b)++(sg.drop 7).take c:=by
 have e1:allS h (base1 h sg a)=sg.take a:=u4f _ _ λx hx=>u9P (ne x (z1I hx))
 have e3:allS h (((sg.drop 7).take c).map (atR h))=(sg.drop 7).take c:=u4f _ _ λx hx=>u9Q (ne x (List.mem_of_mem_drop (z1I hx)))
 have e2:allS h ((List.range b).map (brR h sg))=(sg.drop 3).take (2*b):=by
  match sg,l9 with
  | [s0,s1,s2,s3,s4,s5,s6,s7,s8],_ =>
   have n3:=ne s3 (by simp)
   have n4:=ne s4 (by simp)
   have n5:=ne s5 (by simp)
   have n6:=ne s6 (by simp)
   match b,hb with
   | 0,_=>rfl
   | 1,_=>simp[allS,brR,sgnsOf,List.range_succ,n3,n4]
   | 2,_=>simp[allS,brR,sgnsOf,List.range_succ,n3,n4,n5,n6]
 unfold base3 base2;unfold allS at e1 e2 e3 |-
 rw[List.flatMap_append,List.flatMap_append,e1,e2,e3]
def base_nd {sg:List Str}{a b c:Nat} (nd:sg.Nodup) (l9:sg.length=9) (ha:a<=3) (hb:b<=2):(sg.take a++(sg.drop 3).take (2*b)++(sg.drop 7).take c).Nodup:=by
 refine nd.sublist ?_;have e:sg=sg.take 3++(sg.drop 3).take 4++sg.drop 7:=by
  match sg,l9 with
  | [s0,s1,s2,s3,s4,s5,s6,s7,s8],_=>rfl
 have t1:(sg.take a).Sublist (sg.take 3):=by
  rw[show sg.take a=(sg.take 3).take a by rw[List.take_take,Nat.min_eq_left ha]]
  exact List.take_sublist _ _
 have t2:((sg.drop 3).take (2*b)).Sublist ((sg.drop 3).take 4):=by
  rw[show(sg.drop 3).take (2*b)=((sg.drop 3).take 4).take (2*b) by rw[List.take_take,Nat.min_eq_left (by omega)]]
  exact List.take_sublist _ _
 conv=>rhs;rw[e]
 exact(t1.append t2).append (List.take_sublist _ _)
def u7R {sg:List Str}{a i:Nat} (nd:sg.Nodup) (h:i<sg.length) (hi:a<=i):sg[i]∉sg.take a:=λm=>by
 have:=List.take_append_drop a sg
 rw[<- this] at nd;refine(List.nodup_append.mp nd).2.2 _ m sg[i] ?_ rfl;rw[List.mem_iff_getElem];exact⟨i - a,by rw[z2I];omega,by rw[List.getElem_drop];congr 1;omega⟩
inductive Opn (v:D):Prop
 | mk (h:Str) (sg:List Str) (rs kk:List RR) (e:v=.tup [dR rs,dR kk]) (w:Wf h sg 0 rs kk) (nd:rs.Nodup) (nk:(kk.flatMap (·.2)).Nodup) (o:∀q∈rs,RuS h kk q) (na:(allS h rs).Nodup) (ha:(rs.any λp=>p.2.length==1)=true) (kz:kk≠[]->∃s∈sg,opR h s∈rs)
def opn_of {v:D} (O:OpsV v):Opn v:=by
 obtain⟨h,sg,a,b,c,rs,kk,lv,e,hh,l9,ss,nd,ha,hb,hc,p,ko,l3⟩:=O;have ne:∀z∈sg,z≠h:=λz hz ez=>by have:=(u9I h hh z (u3F (ss z hz))).2;rw[ez] at this;simp at this
 have rk:=rk_some ko l3;have at3:∀i,i<9->sg.getD i ""∈sg/\(a<=i->sg.getD i ""∉sg.take a):=λi hi=>by
  have:sg.getD i ""=sg[i]'(by omega):=by rw[List.getD_eq_getElem?_getD,y2 (by omega)];rfl
  rw[this];exact⟨z2B _,λh=>u7R nd _ h⟩
 have nh:=λz hz=>(u1C z (u3F (ss z hz))).2.1
 have hh1:=(u4b h hh).1;have mem:∀q∈rs,q.1=h/\Rr h sg q/\RuS h kk q/\sgnsOf h q.2≠[]:=λq hq=>by
  have hq:=p.mem_iff.mp hq;unfold base3 base2 base1 at hq;rcases z0G.mp hq with hq|hq
  ·rcases z0G.mp hq with hq | hq
   ·obtain ⟨s,hs,rfl⟩:=z0C.mp hq
    have ms:=z1I hs;have n:=ne s ms;exact⟨rfl,⟨.inl rfl,by simp[opR],by simp[opR,ms],by simp[opR]⟩,rus_op hh1 (nh s ms) n (by rw[rk];exact decide_eq_true hs),by rw[u9P n];simp⟩
   ·obtain ⟨k,hk,rfl⟩:=z0C.mp hq
    have hk:=List.mem_range.mp hk;obtain⟨m1,n1⟩:=at3 (3+2*k) (by omega)
    obtain⟨m2,n2⟩:=at3 (4+2*k) (by omega)
    have n1:=n1 (by omega)
    have n2:=n2 (by omega)
    unfold brR;generalize sg.getD (3+2*k) ""=s at m1 n1;generalize sg.getD (4+2*k) ""=t at m2 n2;exact⟨rfl,⟨.inl rfl,by simp,by simp[m1,m2],by simp⟩,rus_br hh1 (nh s m1) (nh t m2) (ne s m1) (ne t m2) (by rw[rk];exact decide_eq_false n1) (by rw[rk];exact decide_eq_false n2),by simp[sgnsOf,ne s m1]⟩
  ·obtain ⟨s,hs,rfl⟩:=z0C.mp hq
   have md:=z1I hs;have ms:=List.mem_of_mem_drop md;have n:=ne s ms;have nt:s∉sg.take a:=by
    obtain⟨i,hi,rfl⟩:=List.mem_iff_getElem.mp md;rw[List.getElem_drop];exact u7R nd _ (by omega)
   exact⟨rfl,⟨.inl rfl,by simp[atR],by simp[atR,ms],by simp[atR,n]⟩,rus_at (nh s ms) n (by rw[rk];exact decide_eq_false nt),by rw[u9Q n];simp⟩
 have ea:=v3s (a:=a) (b:=b) (c:=c) l9 ne hb;have na:(allS h rs).Nodup:=by
  have:(allS h rs).Perm (allS h (base3 h sg a b c)):=p.flatMap_right _
  rw[this.nodup_iff,ea];exact base_nd nd l9 ha hb
 have len:=p.length_eq;have lb:1<=(base3 h sg a b c).length/\(base3 h sg a b c).length<=7:=by simp[base3,base2,base1,l9];omega
 have lk:=ko.n;refine⟨h,sg,rs,kk,e,⟨hh,by omega,ss,?_,by omega,λq hq=>(mem q hq).2.1,by omega,ko.g⟩,u2w (f:=λq:RR=>sgnsOf h q.2) na λq hq=>(mem q hq).2.2.2,ko.nd,λq hq=>(mem q hq).2.2.1,na,?_,λhk=>?_⟩
 ·match rs,len,mem with
  | [],len,_=>simp at len;omega
  | q::l,_,mem =>
   obtain⟨q1,q2⟩:=q
   have:=(mem _ z8).1
   simp only at this;subst this;exact⟨q2,l,rfl⟩
 ·obtain⟨s,hs⟩:∃s,s∈(sg.drop 7).take c:=by
   refine List.exists_mem_of_ne_nil _ λz=>?_
   have:=congrArg List.length z
   simp at this;omega
  have:atR h s∈rs:=p.mem_iff.mpr (by unfold base3;exact t0 _ (z3A hs))
  exact List.any_eq_true.mpr ⟨_,this,rfl⟩
 ·obtain ⟨q,hq⟩:=List.exists_mem_of_ne_nil _ hk
  obtain⟨s,hs⟩:=List.exists_mem_of_ne_nil _ (ko.g q hq).n;have m:=((ko.m s).mp (z2H.mpr ⟨q,hq,hs⟩)).1;exact⟨s,z1I m,p.mem_iff.mpr (by unfold base3 base2 base1;exact z0D _ (z0D _ (z3A m)))⟩
noncomputable def rowB (n:Nat):D->Bool
 | .lst ds=>decide (ds.length<=n)&&ds.all sgnD
 | _=>false
section
variable {P:Program}{w:World}{K:W.Frag}{mg:MG}{base:Heap}{f:Addr}{fd:FuncData}{A:Adr}
set_option tactic.hygienic true in
def v0h {a0b:FD} (a0g:Callee P w K mg base 2 "is_sign" ["thing"] (spF K a0b)) (a0f:P1 sgnD a0b) (F:Fun K "is_row" "is_row" u3y f fd) (T:Txt P w K mg A):∃G,FnOk P w K mg base CX0 3 f fd ["thing","most"] (spF K G)/\∀d,goodD d=true->G [d,.int 40]=.ok (.bl (rowB 40 d)):=by
 refine⟨_,F.okT (k:=2) u9T (λcdv Ar outer s H E hr=>u0e (u0o (u1t (d_B u4u T.z_isinstance (by decide +kernel) (u0a (dv 0) (u0a (d_ty T.z_list (T:="list") (by decide +kernel)) u0b))) (u1t (u2y o_le (d_B u1G T.z_len (by decide +kernel) (u0a (dv 0) u0b)) (dv 1)) (u2q (d_B (v1B rfl) T.z_all (by decide +kernel) (u0a (DN.de (u0I ["sign"] [] rfl (u0l (sc:=defScope u3y) (N:=["thing","most"]) (by decide +kernel)) (u0B (dv 0)) (dg_n (show(["sign"]:List Str).Nodup by decide +kernel)) u1k (d_fn a0g hr (u0a (dv 0) u0b)))) u0b))))))),?_⟩
 intro d h;simp[runT,startD,a_lst (u0U h)];cases d<;>simp[isLstD,rowB,gLen]
 rename_i ds;by_cases c:ds.length<=40
 ·have c':(ds.length:Int)<=40:=by omega
  simp[c,c'];rw[u0r (u0q (by omega)),u1l (λd=>D.bl (sgnD d)) (λd hd=>?_)]
  ·simp
  ·exact⟨_,rfl,rfl,by simp[rhoC,a0f d (v3c h d hd)]⟩
 ·have c':¬ (ds.length:Int)<=40:=by omega
  simp[c,c']
def u7e {a2y:FD} (a3n:Callee P w K mg base 3 "is_row" ["thing","most"] (spF K a2y)) (x_NoRow:XCalleeF P w K mg base 1 "NoRow" A.NoRow ["self","found"] ["found"]) (a3m:∀d,goodD d=true->a2y [d,.int 40]=.ok (.bl (rowB 40 d))) (F:Fun K "need_row" "need_row" u2E f fd) (T:Txt P w K mg A):∃G,FnOk P w K mg base (CXe P w) 4 f fd ["thing","most"] (spX K G)/\∀d,goodD d=true->G [d,.int 40]=if rowB 40 d=true then .ok .non else .err (.exc A.NoRow [("found",d)]):=by
 refine⟨_,F.okTX (k:=3) u6T (λcdv Ar outer s H E hr hq=>u0e (u0W (u1W (u1x (d_fn a3n hr (u0a (dv 0) (u0a (dv 1) u0b))))) (u0e (u8l hq rfl x_NoRow hr (u0a (dv 0) u0b))) u0D)),?_⟩
 intro d h;simp[runX,startD,a3m d h];cases rowB 40 d<;>rfl
def u2L {a1b:FD} (a1z:Callee P w K mg base 5 "is_operators" ["grammar"] (spF K a1b)) (x_NoRanks:XCalleeF P w K mg base 1 "NoRanks" A.NoRanks ["self","found"] ["found"]) (a1y:∀rs kk,GG rs kk->a1b [gI A rs kk]=.ok (.bl (isOps rs kk))) (F:Fun K "need_operators" "need_operators" u0V f fd) (T:Txt P w K mg A):∃G,FnOk P w K mg base (CXe P w) 6 f fd ["grammar"] (spX K G)/\∀rs kk,GG rs kk->G [gI A rs kk]=if isOps rs kk=true then .ok .non else .err (.exc A.NoRanks [("found",.tup (kk.map rT))]):=by
 refine⟨_,F.okTX (k:=5) u2C (λcdv Ar outer s H E hr hq=>u0e (u0W (u1W (u1x (d_fn a1z hr (u0a (dv 0) u0b)))) (u0e (u8l hq rfl x_NoRanks hr (u0a (u4s T.cls T.na_ranks (dv 0)) u0b))) u0D)),?_⟩
 intro rs kk h;simp[runX,startD,a1y rs kk h,v1a];cases isOps rs kk<;>rfl
end
def CKls (P:Program) (w:World) (K:W.Frag) (mg:MG) (base:Heap) (k:Nat) (x:Str) (C:Addr) (ps:List Str) (sp:Sp):Prop :=
 ∃f fd,Mk K C f/\FnOk P w K mg base CX0 k f fd ps sp/\Binds K fd ps []/\mg x=some (.ref C)
noncomputable def rlK (sp:List Sp3):List (D×D):=sp.map λq=>(.str q.1,.tup [.str q.2.1,dN q.2.2])
def v2j (sp:List Sp3):(rlK sp).map (·.1)=(sp.map (·.1)).map D.str:=by
 unfold rlK;rw[z1C,z1C];rfl
def rlK_put {sp:List Sp3}{q:Sp3} (h:q.1∉sp.map (·.1)):putD (rlK sp) (.inr q.1) (.tup [.str q.2.1,dN q.2.2])=rlK (sp++[q]):=by
 unfold putD;rw[u5y (v2j sp),if_neg (by simpa using h)]
 unfold rlK;rw[z0J];rfl
theorem v0b:∀{sp:List Sp3}{q:Sp3},(sp.map (·.1)).Nodup->q∈sp->valD (rlK sp) (.inr q.1)=some (.tup [.str q.2.1,dN q.2.2])
 | p::sp,q,nd,m=>by
  have nd:=z1J.mp (show(p.1::sp.map (·.1)).Nodup from nd)
  unfold valD rlK;rw[u9,z0E];rcases y7.mp m with rfl|m
  ·rw [show eqK (D.str q.1) (.inr q.1)=true by rw [u7u];simp]
   rfl
  ·rw[show eqK (D.str p.1) (.inr q.1)=false by
    rw[u7u]
    have:p.1≠q.1:=λz=>nd.1 (z ▸ z3A m)
    simpa using this]
   exact v0b nd.2 m
inductive Sro (a b:D) (all xs:List Sp3) (ρ:Rho):Prop
 | mk (ys:List Sp3) (y3 y4 y5:Option Sl) (e1:all=ys++xs) (e:ρ=[some (.val a),some (.val b),some (.own (.d (rlK ys))),y3,y4,y5,none])
inductive Qro (a b:D) (all:List Sp3) (o:Out):Prop
 | mk (y3 y4 y5:Option Sl) (e:o=.nx [some (.val a),some (.val b),some (.own (.d (rlK all))),y3,y4,y5,none])
structure Opg (rs kk:List RR):Prop where
 g:GG rs kk
 o:isOps rs kk=true
 d:((spotsL 0 rs).map (·.1)).Nodup
 l:(spotsL 0 rs).length<=1000
 n:rs.length<=1000
def v1Q {A:Adr}{g:D}{r:List D}{kvs:List (D×D)}{y3 y4 y5 y6:Option Sl} (c:r=[]\/∃rs kk h s n,Two A g r kvs rs kk h s n):tailF A [some (.val g),some (.val (.lst r)),some (.own (.d kvs)),y3,y4,y5,y6]=.rt .non:=if_pos c
structure Climb (A:Adr) (G:FD):Prop where
 ranks:∀rs kk d,GG rs kk->isOps rs kk=false->G [gI A rs kk,d]=.err (.exc A.NoRanks [("found",.tup (kk.map rT))])
 row:∀rs kk d,GG rs kk->isOps rs kk=true->goodD d=true->rowB 40 d=false->G [gI A rs kk,d]=.err (.exc A.NoRow [("found",d)])
 ok:∀rs kk ds,Opg rs kk->goodD (.lst ds)=true->rowB 40 (.lst ds)=true->(ds=[]\/∃h s n,Two A (gI A rs kk) ds (rlK (spotsL 0 rs)) rs kk h s n)->G [gI A rs kk,.lst ds]=.ok .non
def Climb.nil {A:Adr}{G:FD} (C:Climb A G) {rs kk:List RR} (O:Opg rs kk):G [gI A rs kk,.lst []]=.ok .non:=C.ok rs kk [] O rfl rfl (.inl rfl)
theorem u5n {s:Str} (g:goodS s=true):∀n,goodDs (List.replicate n (.str s))=true
 | 0=>rfl
 | n+1=>z1F.mpr ⟨g,u5n g n⟩
def Climb.two {A:Adr}{G:FD} (C:Climb A G) {rs kk:List RR}{h s:Str}{n:Nat} (m:Nat) (O:Opg rs kk) (hm:(s,("atom":Str),n)∈spotsL 0 rs) (hn:rs[n]?=some (h,[s])) (gs:goodS s=true) (sg:sgnS s=true) (hd:hdS s=false) (hl:m+2<=40):G [gI A rs kk,.lst (List.replicate (m+2) (.str s))]=.ok .non:=by
 refine C.ok rs kk _ O (u5n gs _) ?_ (.inr ⟨h,s,n,rfl,⟨_,rfl⟩,O.n,hn,gs,hd,v0b O.d hm⟩);show(decide _&&_)=true;rw[z1B,decide_eq_true hl,Bool.true_and,z2C];intro x hx;rw[List.eq_of_mem_replicate hx];exact sg
section
variable {P:Program}{w:World}{K:W.Frag}{mg:MG}{base:Heap}{f:Addr}{fd:FuncData}{A:Adr}
def u9d {a0v:FD} (a1m:CalleeX P w K mg base 6 "need_operators" ["grammar"] a0v) {a2b:FD} (a2z:CalleeX P w K mg base 4 "need_row" ["thing","most"] a2b) {a0p:FD} (a1f:Callee P w K mg base 4 "spots_in" ["grammar"] (spF K a0p)) (k_Climber:CKls P w K mg base 1 "Climber" A.Climber ["self","grammar"] (spCI A.Climber)) (m_takes:CMeth P w K mg base 5 A.Climber "takes" ["self","role","number"] (spTakes K A)) (m_whole:CMeth P w K mg base 1 A.Climber "whole" ["self"] (spWhole A)) (a0j:∀rs kk,GG rs kk->a0v [gI A rs kk]=if isOps rs kk=true then .ok .non else .err (.exc A.NoRanks [("found",.tup (kk.map rT))])) (a2a:∀d,goodD d=true->a2b [d,.int 40]=if rowB 40 d=true then .ok .non else .err (.exc A.NoRow [("found",d)])) (a2p:∀rs kk,GG rs kk->a0p [gI A rs kk]=.ok (.lst ((spotsL 0 rs).map spT))) (F:Fun K "climbed" "climbed" u3Q f fd) (T:Txt P w K mg A):∃G,FnOk P w K mg base (CXe P w) 7 f fd ["grammar","row"] (spX K G)/\Climb A G:=by
 obtain⟨cf,cd,cM,cF,cB,cG⟩:=k_Climber;obtain⟨tf,td,tC,tM,tF,tB⟩:=m_takes;obtain⟨wf,wd,wC,wM,wF,wB⟩:=m_whole;refine⟨_,F.okTX (k:=6) u0Q (λcdv Ar outer s H E hr hq=>u0c (u2o (u6t hq a1m hr (u0a (dv 0) u0b)))
  (u0c (u2o (u6t hq a2z hr (u0a (dv 1) (u0a (u3u T.g_MOST_READ) u0b))))
  (u0c (u1X u0Q.nd u8u)
  (u0c (u1j rfl (u0B (d_fn a1f hr (u0a (dv 0) u0b))) (u4h (n:=3) rfl (u0y (dg_n u0Q.nd) (u0y (dg_n u0Q.nd) (u0y (dg_n u0Q.nd) u2p))))
  (u0e (u7v 2 (hu200 hr) (dv 3) (u1a (u0a (dv 4) (u0a (dv 5) u0b))))) hq.ps)
  (DB.of (f:=tailF A) (u0x (v0g (i:=6) u0Q.nd rfl (Or.inl rfl) (v0m cM cF (hr.mono (by decide)) rfl cG cB .nil pass0 (pac (u0v (i:=0) rfl (Or.inl rfl)) u1o)))
  (u0x (v3D hq.ps rfl (DI.out (xq:=xq0 E) (u0B (dv 1))) (pg_n u0Q.nd) (u1h (u7a (PW.pt (pw_or (DT.out (xq:=xq0 E) (u0A (o_ninK (hu200 hr)) (dv 3) (dv 2))) (v3B (v0e (v0d (u5g (u0v (i:=6) rfl (Or.inl rfl)) tC tM tF (hr.mono (by decide)) tB .nil pass0 (DA.out (xq:=xq0 E) (u0a (d_ix x_ix (d_ixK (hu1 hr) (dv 2) (dv 3)) u0g) (u0a (d_ix x_ix (d_ixK (hu1 hr) (dv 2) (dv 3)) u0g) u0b))))))))) (u1h (u4E v0l)) u2J)))
  (u1h (u4E (u7N (u0v (i:=6) rfl (Or.inl rfl)) wC wM wF (hr.mono (by decide)) wB .nil pass0))))) (λB F ρ σ H D R q=>tail_ok T R q (λ_ _ _ _ _ _ _=>rfl) (λg r kvs s v y4 y5 a e=>by simp[frz,frzS,nInK,keyK,e]) (λg r kvs s n y4 y5 a e=>by simp[gIxK,keyK,e];rfl))))))),?_⟩
 refine⟨λrs kk d g o=>?_,λrs kk d g o gd rb=>?_,λrs kk ds O gd rb c=>?_⟩
 ·simp[runX,startD,a0j rs kk g,o]
 ·simp[runX,startD,a0j rs kk g,o,a2a d gd,rb]
 ·refine runX1 rfl ?_
  refine asg .non (by simp[startD,a0j rs kk O.g,O.o]) rfl ?_
  refine asg .non (by simp[startD,a2a _ gd,rb]) rfl ?_
  refine th rfl ?_;refine thq (T:=Qro (gI A rs kk) (.lst ds) (spotsL 0 rs)) ?_ ?_
  ·apply goq (v:=(spotsL 0 rs).map spT)
   ·simp[startD,a2p rs kk O.g]
   refine u2U spT (Sro (gI A rs kk) (.lst ds) (spotsL 0 rs)) (Qro (gI A rs kk) (.lst ds) (spotsL 0 rs)) ?_ ?_ (spotsL 0 rs) _ ⟨[],none,none,none,rfl,rfl⟩
   ·rintro ρ ⟨ys,y3,y4,y5,e1,rfl⟩
    rw[List.append_nil] at e1;rw[e1];exact⟨y3,y4,y5,rfl⟩
   ·rintro q xs ρ ⟨ys,y3,y4,y5,e1,rfl⟩
    have nd:=O.d;have hl:=O.l;rw[e1,z0J,u9] at nd;rw[e1,z0F] at hl;have nm:q.1∉ys.map (·.1):=λm=>(List.nodup_append.mp nd).2.2 _ m _ z8 rfl
    refine⟨_,rfl,.inl ⟨[some (.val (gI A rs kk)),some (.val (.lst ds)),some (.own (.d (rlK (ys++[q])))),some (.val (.str q.1)),some (.val (.str q.2.1)),some (.val (dN q.2.2)),none],?_,ys++[q],_,_,_,by rw[e1,List.append_assoc];rfl,rfl⟩⟩
    have z:(rlK ys).length<sizeLine:=by
     have:(rlK ys).length=ys.length:=v8 _
     rw[this];exact w5 (show ys.length<1001 by omega) (by decide)
    simp[fPutD,getD',keyK,z,rlK_put nm]
  rintro o ⟨y3,y4,y5,rfl⟩;show outR (tailF A [some (.val (gI A rs kk)),some (.val (.lst ds)),some (.own (.d (rlK (spotsL 0 rs)))),y3,y4,y5,none])=_;rw[v1Q (c.imp id λz9151=>by obtain⟨h,s,n,W⟩:=z9151;exact⟨rs,kk,h,s,n,W⟩)]
  rfl
end
theorem u6K:∀{rs:List RR}{k n:Nat}{p:RR}{q:Sp3},rs[n]?=some p->q∈spotsP (k+n) p.2->q∈spotsL k rs
 | [],_,_,_,_,e,_=>by cases e
 | p::rs,k,0,_,q,e,m=>by cases e;exact z0D _ m
 | p::rs,k,n+1,_,q,e,m=>t0 _ (u6K (k:=k+1) (n:=n) e (by rw[show k+1+n=k+(n+1) by omega];exact m))
def u9J {h s:Str}{n:Nat}{rs:List RR} (hn:rs[n]?=some (h,[s])) (hs:hdS s=false):(s,("atom":Str),n)∈spotsL 0 rs:=by
 refine u6K (k:=0) hn ?_;rw[Nat.zero_add];simp[spotsP,rolesS,hs,w_ne.1]
def spot_op {h s:Str}{n:Nat}{rs:List RR} (hn:rs[n]?=some (h,[h,s,h])) (hh:hdS h=true) (hs:hdS s=false):(s,("op":Str),n)∈spotsL 0 rs:=by
 refine u6K (k:=0) hn ?_;rw[Nat.zero_add];simp[spotsP,rolesS,hs,hh,w_ne.2.1]
def v2E {rs:List RR}{z:Str}{n:Nat} (h:(z,("op":Str),n)∈spotsL 0 rs):isOps rs []=false:=by
 unfold isOps;split
 ·rfl
 ·split
  ·rfl
  ·refine Bool.eq_false_iff.mpr fun e=>?_
   have:=z2C.mp e _ h
   simp[rkS] at this
def v2F {rs kk:List RR}{h:Str}:isOps (rs++[(h,[])]) kk=false:=by
 unfold isOps;rw[if_pos];rw[List.any_append];simp[rolesB,rolesS]
def Opg.of {h:Str}{sg:List Str}{rs kk:List RR} (W:Wf h sg 0 rs kk) (ok:∀q∈rs,RuS h kk q) (nd:(allS h rs).Nodup) (ha:(rs.any λp=>p.2.length==1)=true):Opg rs kk:=by
 have l7:=W.n7;have sl:=u3C (rs:=rs) (k:=0) λp hp=>W.okR hp
 exact⟨W.gg (by decide),ops_ok W ok nd ha,by rw[(u3D 0 ok).1];exact nd,by omega,by omega⟩
inductive Atm (h:Str) (sg:List Str) (rs:List RR):Prop
 | mk (s:Str) (n:Nat) (l:List RR) (e:(rs.filter λp=>p.2.length==1)=(h,[s])::l) (hn:rs[n]?=some (h,[s])) (hs:s∈SYM)
def atom_of {h:Str}{sg:List Str}{rs kk:List RR} (W:Wf h sg 0 rs kk) (ok:∀q∈rs,RuS h kk q) (ha:(rs.any λp=>p.2.length==1)=true):Atm h sg rs:=by
 cases e:rs.filter λp=>p.2.length==1 with
 | nil =>
  obtain⟨p,hp,z⟩:=List.any_eq_true.mp ha;exact absurd (z1G.mpr ⟨hp,z⟩) (by rw[e];simp)
 | cons p l =>
  obtain⟨hp,z⟩:=z1G.mp (show p∈rs.filter _ by rw[e];exact z8)
  obtain⟨n,hn,en⟩:=List.mem_iff_getElem.mp hp;obtain⟨p1,bs⟩:=p
  match bs,z with
  | [s],_ =>
   have hh:p1=h:=(ok _ hp).c;subst hh;refine⟨s,n,l,e,by rw[y2 hn,en],?_⟩
   rcases W.sy hp (v9.mpr rfl) with z|z
   ·exact absurd (by rw[z]) (W.r _ hp).o
   ·exact z
section
variable {h:Str}{sg:List Str}{n:Nat}{rs kk:List RR}
def Wf.hand (W:Wf h sg n rs kk) (hn:n<=2) (nd:rs.Nodup) (nk:(kk.flatMap (·.2)).Nodup) {k:D} (e:toldD k=.tup (kk.map rT)):gInit [dR rs,k]=.ok (gFlds (dR rs) (dR kk)):=u8d (W.gok hn nd nk) (.inr e)
def Wf.less (W:Wf h sg n rs kk):Wf h sg n rs []:=⟨W.hd,W.l9,W.ss,W.f,W.n7,W.r,z1A _,λ_ m=>nomatch m⟩
end
end K55
namespace L2
open PySem PySem.Spec PyProof.Rows
open Classical in
noncomputable def dNeS (x y:D):Res D:=if (∃ds,x=.tup ds)/\x=y/\selfD x=true/\depD x<=60 then .ok (.bl false) else .bad
def v2H {ds:List D} (h:selfDs ds=true) (k:depDs ds<=59):dNeS (.tup ds) (.tup ds)=.ok (.bl false):=if_pos ⟨⟨ds,rfl⟩,rfl,h,Nat.succ_le_succ k⟩
set_option tactic.hygienic true in
def o_neS {X:Cx} (hu:X.A.units+64<cLine):OpR X (compareOp .NotEq) (rD X.K dNeS):=by
 intro pins s σ H x y v u Q I rx ry z9152;obtain⟨F,dx,dy,fh,px,py,q⟩:=z9152;unfold dNeS at q;split at q
 ·rename_i h
  obtain⟨⟨ds,rfl⟩,rfl,h1,h2⟩:=h;cases px with
  | tup hq hs =>
   cases py with
   | tup hq' hs' =>
    cases rx;cases ry;obtain⟨its,r1,l1,_⟩:=I.tuple (fh.seqT hq);obtain⟨its',r2,l2,_⟩:=I.tuple (fh.seqT hq');obtain⟨o1,g1,c1,m1,d1⟩:=l1;obtain⟨o2,g2,c2,m2,d2⟩:=l2;have n:its.length=its'.length:=by rw[<- r1.length,<- r2.length,hs.length,hs'.length]
    have h2:depDs ds+1<=60:=h2;have q':=SeqAt.RcNeAt.tuples (A:=X.A) (s:=s) (l:=_) (b:=_) ⟨o1,g1,c1,m1,d1⟩ ⟨o2,g2,c2,m2,d2⟩ (by omega) (u5u (l:=0) (b:=0) n (Rps.eqS I fh hs (A:=X.A.in1) hs' r1 r2 (by simpa[selfD] using h1) (by show X.A.units+1+depDs ds<cLine;omega)))
    rw[u5z,show(its.toArray.size==its'.toArray.size)=true by simp[n]] at q'
    exact q' _ _ _ _ ⟨.bl false,H,I,rfl,q _ F H (Stp.refl fh) (.bl _)⟩
 ·exact False.elim q
end L2
namespace K55
open PySem L2 KW PySem.Spec PyProof.Rows
structure Sub (K:W.Frag) (A:Adr):Prop where
 xb1:xbB K A.NoRanks=true
 xb2:xbB K A.NoRow=true
 s11:subK K A.NoRanks A.NoRanks=true
 s21:subK K A.NoRow A.NoRanks=false
 s22:subK K A.NoRow A.NoRow=true
structure Asked (A:Adr) (C G:FD):Prop where
 r:∀g d x,C [g,d]=.err (.exc A.NoRanks [("found",x)])->G [g,d]=.ok (.tup [.str "ranks",x,.bl true])
 w:∀g d x,C [g,d]=.err (.exc A.NoRow [("found",x)])->G [g,d]=.ok (.tup [.str "row",x,.bl true])
 n:∀g d,C [g,d]=.ok .non->G [g,d]=.ok .non
section
variable {P:Program}{w:World}{K:W.Frag}{mg:MG}{base:Heap}{f:Addr}{fd:FuncData}{A:Adr}
def u5T {a2o:FD} (a3l:CalleeX P w K mg base 7 "climbed" ["grammar","row"] a2o) (S:Sub K A) (F:Fun K "_law_asked" "_law_asked" u2d f fd) (T:Txt P w K mg A):∃G,FnOk P w K mg base (CXe P w) 8 f fd ["_law_grammar","_law_thing"] (spX K G)/\Asked A a2o G:=by
 refine⟨_,F.okTX (k:=7) u0E (λcdv Ar outer s H E hr hq=>u0c (ds_n u0E.nd u6s)
  (u0c (ds_try ⟨rfl,rfl⟩ (λpn xq1 hq=>u0e (ds_n u0E.nd (u6t hq a3l hr (u0a (dv 0) (u0a (dv 1) u0b)))))
  (v3Q (i:=3) ⟨rfl,rfl⟩ u0E.nd T.m_NoRanks T.b_NoRanks (λex=>u0e (ds_n u0E.nd (u1a (u0a u0s (u0a (v3S T.x_found (dv 3)) (u0a (u1t (v1r T.o_TableError T.m_TableError T.z_isinstance (by decide +kernel) (dv 3)) (u2q (d_not (v1r T.o_NoRow T.m_NoRow T.z_isinstance (by decide +kernel) (dv 3))))) u0b))))))
  (v3Q (i:=3) ⟨rfl,rfl⟩ u0E.nd T.m_NoRow T.b_NoRow (λex=>u0e (ds_n u0E.nd (u1a (u0a u0s (u0a (v3S T.x_found (dv 3)) (u0a (u1t (v1r T.o_TableError T.m_TableError T.z_isinstance (by decide +kernel) (dv 3)) (u1t (d_isE T.o_ValueError T.z_ValueError (by decide +kernel) T.z_isinstance (by decide +kernel) (dv 3)) (u2q (d_not (v1r T.o_NoTree T.m_NoTree T.z_isinstance (by decide +kernel) (dv 3)))))) u0b))))))
  (dh_nil hq))))
  (u0e (u0o (dv 2))))),?_⟩
 have ne':=T.ne_rr.symm;have nb:=beq_false_of_ne ne';refine⟨λg d x h=>?_,λg d x h=>?_,λg d h=>?_⟩
 ·simp[runX,startD,h,hdAs,S.xb1,S.s11,isO,lookB,List.lookup]
 ·simp[runX,startD,h,hdAs,S.xb2,S.s21,S.s22,isO,lookB,isXT,List.lookup,nb]
 ·simp[runX,startD,h]
end
noncomputable def badL (h s:Str):List D:=[.lst (List.replicate 41 (.str s)),.lst [.str h],.lst [.str s,.str "abcdefg"],.lst [.int 1],.tup [.str s],.str s,.non,.lst [.str s,.str ""],.lst [.lst [.str s]],.bl true,.dct []]
theorem u8t (s:Str):∀n,depDs (List.replicate n (.str s))=0
 | 0=>rfl
 | n+1=>by
  show max 0 (depDs (List.replicate n (.str s)))=0;rw[u8t s n];rfl
def bad_ok {h s:Str} (hg:goodS h=true) (hs:sgnS h=false) (sg:goodS s=true):∀d∈badL h s,goodD d=true/\rowB 40 d=false/\depD d<=50:=by
 have a1:goodS "abcdefg"=true:=by decide +kernel
 have a2:sgnS "abcdefg"=false:=by decide +kernel
 have a3:goodS ""=true:=by decide +kernel
 have a4:sgnS ""=false:=by decide +kernel
 intro d hd;simp only[badL,y7,r6,or_false] at hd;rcases hd with rfl|rfl|rfl|rfl|rfl|rfl|rfl|rfl|rfl|rfl|rfl
 ·refine ⟨u5n sg 41,?_,?_⟩
  ·show (decide ((List.replicate 41 (D.str s)).length<=40)&&(List.replicate 41 (D.str s)).all sgnD)=false
   rw[z1B,decide_eq_false (by decide),Bool.false_and]
  ·show depDs _+1<=50
   rw[u8t];decide
 all_goals simp[goodD,goodDs,rowB,sgnD,depD,depDs,hg,hs,sg,a1,a2,a3,a4]
inductive Slw (vs:List D) (xs:List D) (ρ:Rho):Prop
 | mk (x8:Option Sl) (e:ρ=vs.map (λd=>some (.val d))++[x8])
inductive Qlw (vs:List D) (o:Out):Prop
 | mk (x8:Option Sl) (e:o=.nx (vs.map (λd=>some (.val d))++[x8]))
theorem u7L (x:D):∀n,(List.replicate n [x]).flatten=List.replicate n x
 | 0=>rfl
 | n+1=>by rw[List.replicate_succ,List.flatten_cons,u7L x n];rfl
def v0v (s:Str) (n:Nat) (h:n<=100):dMulX (.lst [.str s]) (.int (n:Int))=.ok (.lst (List.replicate n (.str s))):=by
 have e:dMulX (.lst [.str s]) (.int (n:Int))=gd (-(2^63)<=(n:Int)/\(n:Int)<2^63/\[D.str s].length*(n:Int).toNat<=sizeLine) (.ok (.lst (List.replicate (n:Int).toNat [D.str s]).flatten)):=rfl;rw[e,u0r ⟨by omega,by omega,by rw[Int.toNat_natCast];exact u0q (by simp;omega)⟩,Int.toNat_natCast,u7L]
section
variable {P:Program}{w:World}{K:W.Frag}{mg:MG}{base:Heap}{f:Addr}{fd:FuncData}{A:Adr}
set_option tactic.hygienic true in
def pr_law {a0y:FD} (a1n:Callee P w K mg base 3 "_law_operators" ["_law_script","_law_at"] (spF K a0y)) {a0l:FD} (a0i:CalleeX P w K mg base 8 "_law_asked" ["_law_grammar","_law_thing"] a0l) {a0s:FD} (a1j:Callee P w K mg base 2 "_law_row" ["_law_script","_law_at","_law_base","_law_count"] (spF K a0s)) (k_Grammar:KCal P w K mg base 7 "Grammar" A.Grammar ["self","rules","ranks"] [] gInit) (k1_Grammar:KCal P w K mg base 7 "Grammar" A.Grammar ["self","rules","ranks"] [.non] gInit) (a2s:∀ns,∃v,a0y [scr ns,dN 0]=.ok v/\OpsV v) (a3p:Row a0s) {C:FD} (a0w:Climb A C) (a1s:Asked A C a0l) (F:Fun K "law" "law" u4o f fd) (T:Txt P w K mg A):∃G,FnOk P w K mg base (CXe P w) 9 f fd ["_law_script"] (spX K G)/\∀ns:List Int,G [scr ns]=.ok (.bl true):=by
 refine⟨_,F.okTX (k:=8) u2t (λcdv Ar outer s H E hr hq=>u0c (ds_unp (d_fn a1n hr (u0a (dv 0) (u0a u0g u0b))) (u4h (n:=2) rfl (u0y (dg_n u2t.nd) (u0y (dg_n u2t.nd) u2p))))
  (u0c (ds_n u2t.nd (u4i k_Grammar hr (u0a (DN.de (u5w T.z_list (u0a (dv 1) u0b))) (u0a (DN.de (u5w T.z_list (u0a (dv 2) u0b))) u0b))))
  (u0c (ds_n u2t.nd (d_ix x_ix (DN.de (u0I ["_law_rule"] [] rfl (u0l (sc:=defScope u4o) (N:=["_law_script","_law_rules","_law_ranks","_law_grammar","_law_atom","_law_bad","_law_thing","_law_other","_law_some"]) (by decide +kernel)) (u0B (dv 1)) (dg_n (show(["_law_rule"]:List Str).Nodup by decide +kernel)) (u8r (u0A (o_eqX (hu64 hr)) (d_B u1G T.z_len (by decide +kernel) (u0a (d_ix x_ix (dv 0) u0g) u0b)) u0g)) (d_ix x_ix (d_ix x_ix (dv 0) u0g) u0g))) u0g))
  (u0c (ds_n u2t.nd (u1n (u0a (d_op u1D (u1n (u0a (dv 4) u0b)) u0g) (u0a (u1n (u0a (d_ix x_ix (d_ix x_ix (dv 1) u0g) u0g) u0b)) (u0a (u1n (u0a (dv 4) (u0a u0s u0b))) (u0a (u1n (u0a u0g u0b)) (u0a (u1a (u0a (dv 4) u0b)) (u0a (dv 4) (u0a u6s (u0a (u1n (u0a (dv 4) (u0a u0s u0b))) (u0a (u1n (u0a (u1n (u0a (dv 4) u0b)) u0b)) (u0a d_bl (u0a (DN.de u8u) u0b)))))))))))))
  (u0c (ds_n u2t.nd (d_ix x_ix (dv 5) (d_ix x_ix (d_fn a1j hr (u0a (dv 0) (u0a u0g (u0a u0g (u0a u0g u0b))))) u0g)))
  (u0c (u0W (u0A (o_neS (hu64 hr)) (u6t hq a0i hr (u0a (dv 3) (u0a (dv 6) u0b))) (u1a (u0a u0s (u0a (dv 6) (u0a d_bl u0b))))) (u0e (u0o d_bl)) u0D)
  (u0c (ds_n u2t.nd (u4i k_Grammar hr (u0a (d_op u3r (DN.de (u5w T.z_list (u0a (dv 1) u0b))) (u1n (u0a (u1a (u0a (d_ix x_ix (d_ix x_ix (dv 1) u0g) u0g) (u0a (u1a u0b) u0b))) u0b))) (u0a (d_T u2r T.z_tuple (by decide +kernel) (u0a (dv 2) u0b)) u0b))))
  (u0c (u1j rfl (u0B (u1n (u0a (dv 6) (u0a (u1n (u0a (dv 4) u0b)) (u0a (u1n u0b) u0b))))) (dg_n u2t.nd)
  (u0c (u0W (u0A (o_neS (hu64 hr)) (u6t hq a0i hr (u0a (dv 7) (u0a (dv 8) u0b))) (u1a (u0a u0s (u0a (d_T u2r T.z_tuple (by decide +kernel) (u0a (dv 2) u0b)) (u0a d_bl u0b))))) (u0e (u0o d_bl)) u0D)
   (u0e (u0W (dt_w (v3M (u0A (o_neX (hu64 hr)) (dv 2) (u1n u0b)) (v1k (u0A (o_neS (hu64 hr)) (u6t hq a0i hr (u0a (u4i k1_Grammar hr (u0a (DN.de (u5w T.z_list (u0a (dv 1) u0b))) u0b)) (u0a (dv 8) u0b))) (u1a (u0a u0s (u0a (u1a u0b) (u0a d_bl u0b)))))))) (u0e (u0o d_bl)) u0D))) hq.ps)
  (u0e (u0o (u1t (u2y o_is (u6t hq a0i hr (u0a (dv 3) (u0a (d_op u1D (u1n (u0a (dv 4) u0b)) u0g) u0b))) u6s) (u2q (u2y o_is (u6t hq a0i hr (u0a (dv 3) (u0a (u1n u0b) u0b))) u6s))))))))))))),?_⟩
 intro ns;refine runX1 rfl ?_;obtain⟨v0,ev,O⟩:=a2s ns;obtain⟨h,sg,rs,kk,rfl,W,nd,nk,ok,na,ha,kz⟩:=opn_of O;have O:=Opg.of W ok na ha;obtain⟨s,n,l,ef,hn,hs⟩:=atom_of W ok ha;obtain⟨s1,s2,s3,_⟩:=u1C s hs;obtain⟨h1,h2,h3,_⟩:=u4b h W.hd;have l7:=W.n7;refine asg (.tup [dR rs,dR kk]) (by simp[startD];exact congrArg noE ev) rfl ?_
 refine asg (gI A rs kk) (by simp[startD,seqOf,u3h,W.make (by decide) nd nk]) rfl ?_
 refine asg (.str s) ?_ rfl ?_
 ·simp [startD,u3h]
  rw[u0r (u0q (by omega)),compF rT (λp:RR=>p.2.length==1) (λp=>(p.2.map D.str).headD .non) λp hp=>⟨_,rfl,by simp[rhoC,rT,ix_1,v1f,z1],λe=>?_⟩,ef]
  ·simp[u3h,ixl_0]
  ·obtain ⟨p1,bs⟩:=p
   match bs,e with
   | [z],_=>simp[rhoC,rT,ix_1,ix_0]
 obtain⟨b0,rest,eR⟩:=W.f;have e0:dIx (dR rs) (.int 0)=.ok (rT (h,b0)):=by rw[eR];exact ixl_0 _ _
 have e41:dMulX (.lst [.str s]) (.int 41)=.ok (.lst (List.replicate 41 (.str s))):=v0v s 41 (by decide)
 have e40:dMulX (.lst [.str s]) (.int 40)=.ok (.lst (List.replicate 40 (.str s))):=v0v s 40 (by decide)
 have eh:dIx (rT (h,b0)) (.int 0)=.ok (.str h):=ix_0 _ _;refine asg (.lst (badL h s)) ?_ rfl ?_
 ·generalize h41:List.replicate 41 (D.str s)=r41 at e41
  simp[startD,e0,eh,e41];rw[<- h41];rfl
 obtain⟨ds,er,hl,hb⟩:=a3p ns 1 11 1 (by decide) (by decide) (by decide)
 obtain⟨i,rfl⟩:∃i,ds=[i]:=by
  match ds,hl with
  | [i],_=>exact⟨i,rfl⟩
 have hi:i<11:=hb i z8;obtain⟨d,ed⟩:∃d,(badL h s)[i]?=some d:=⟨_,y2 (show i<(badL h s).length from hi)⟩
 obtain⟨g1,g2,g3⟩:=bad_ok h3 h2 s3 d (List.mem_of_getElem? ed);refine asg d ?_ rfl ?_
 ·have e1:dIx (.lst (badL h s)) (dN i)=.ok d:=u7p ed
  have er':a0s [scr ns,.int 1,.int 11,.int 1]=.ok (.lst [dN i]):=er;simp[startD,er',ixl_0,e1]
 have nS:∀w:Str,∀x:D,goodD x=true->depD x<=50->dNeS (.tup [.str w,x,.bl true]) (.tup [.str w,x,.bl true])=.ok (.bl false):=λw x gx dx=>v2H (by simp[selfDs,selfD,u0U gx]) (by simp[depDs,depD];omega)
 have a1:=a1s.w _ _ _ (a0w.row rs kk d O.g O.o g1 g2);refine brn false (by simp[startD,a1,nS _ d g1 g3]) (λc=>by cases c) λ_=>?_
 refine th rfl ?_;have nR:(h,([]:List Str))∉rs:=λm=>by
  have o:=O.o;unfold isOps at o;split at o
  ·cases o
  ·rename_i c
   refine c (Bool.or_eq_true_iff.mpr (.inr (List.any_eq_true.mpr ⟨_,m,?_⟩)));rfl
 have W1:=W.addR (p:=(h,[])) ⟨.inl rfl,by simp,by simp,by simp⟩
 have nd1:(rs++[(h,[])]).Nodup:=by
  rw[List.nodup_append];exact⟨nd,by simp,λa ha b hb e=>by rw[v9.mp hb] at e;exact nR (e ▸ ha)⟩
 have mk1:=W1.hand (by decide) nd1 nk (k:=.tup (kk.map rT)) rfl
 have sn:dAdd (dR rs) (.lst [.tup [.str h,.tup []]])=.ok (dR (rs++[(h,[])])):=snocD (p:=(h,[])) (by omega)
 refine asg (gI A (rs++[(h,[])]) kk) ?_ rfl ?_
 ·simp[startD,seqOf,u3h,e0,eh,sn,gTuple,mk1]
 have gk:goodD (.tup (kk.map rT))=true:=good_dR λq hq=>⟨(u6N _ (W.k q hq).s).1,λb hb=>(u1C b ((W.k q hq).g b hb)).2.2.1⟩
 have dk:depD (.tup (kk.map rT))<=50:=dep_dR kk;have a2:=λx=>a1s.r _ x _ (a0w.ranks (rs++[(h,[])]) kk x (W1.gg (by decide)) v2F)
 refine thq (T:=Qlw [scr ns,dR rs,dR kk,gI A rs kk,.str s,.lst (badL h s),d,gI A (rs++[(h,[])]) kk]) ?_ ?_
 ·apply goq (v:=[d,.lst [.str s],.lst []].map fun x=>x)
  ·simp[startD]
  refine u2U (λx=>x) (Slw [scr ns,dR rs,dR kk,gI A rs kk,.str s,.lst (badL h s),d,gI A (rs++[(h,[])]) kk]) (Qlw [scr ns,dR rs,dR kk,gI A rs kk,.str s,.lst (badL h s),d,gI A (rs++[(h,[])]) kk]) ?_ ?_ _ _ ⟨none,rfl⟩
  ·rintro ρ ⟨x8,rfl⟩
   exact⟨x8,rfl⟩
  ·rintro x xs ρ ⟨x8,rfl⟩
   refine⟨_,rfl,.inl ⟨_,?_,some (.val x),rfl⟩⟩;refine brn (Q:=λo=>o=_) false (by simp[a2 x,gTuple,nS _ _ gk dk]) (λc=>by cases c) λ_=>?_
   refine th (Q:=λo=>o=_) rfl ?_
   refine br1 (Q:=λo=>o=_) false ?_ (λc=>by cases c) λ_=>rfl
   by_cases hk:kk=[]
   ·have:=u7m (kk.map rT)
    rw[hk] at this |-
    simp[this]
   ·obtain ⟨z,hz,m⟩:=kz hk
    obtain⟨j,hj⟩:=List.getElem?_of_mem m;have a3:=a1s.r _ x _ (a0w.ranks rs [] x (W.less.gg (by decide)) (v2E (spot_op hj h1 (u1C z (u3F (W.ss z hz))).2.1)))
    have mk0:=W.less.hand (by decide) nd List.nodup_nil (k:=.non) rfl
    have n0:=nS "ranks" (.tup []) rfl (by decide)
    have ne:dNeX (dR kk) (.lst [])=.ok (.bl true):=by
     rw[u7m];cases kk with
     | nil=>exact absurd rfl hk
     | cons q l=>rfl
    simp[ne,seqOf,u3h,mk0];rw[show a0l [D.ins A.Grammar (gFlds (dR rs) (dR [])),x]=_ from a3]
    show(noE (dNeS (.tup [.str "ranks",.tup [],.bl true]) _)).bind asB=_;rw[n0];rfl
 rintro o ⟨x8,rfl⟩;have a4:a0l [gI A rs kk,.lst (List.replicate 40 (.str s))]=.ok .non:=a1s.n _ _ (a0w.two 38 O (u9J hn s2) hn s3 s1 s2 (by decide))
 have a5:a0l [gI A rs kk,.lst []]=.ok .non:=a1s.n _ _ (a0w.nil O);generalize List.replicate 40 (D.str s)=r40 at a4 e40;refine goq (v:=.bl true) ?_ rfl;simp[e40,a4,a5];rfl
end
noncomputable def noLst (K:W.Frag):Bool:=K.all λp=>match p.2.cls with
 | .type T=>!(T=="list")
 | _=>true
set_option tactic.hygienic true in
def v2G {K:W.Frag} (h:noLst K=true) {a:Addr}{o:Obj} (e:K.lookup a=some o):o.cls≠.type "list":=λz=>by
 have hm:(a,o)∈K:=by
  unfold noLst at h;clear h;induction K with
  | nil=>cases e
  | cons p K ih =>
   obtain⟨b,u⟩:=p;rw[t9] at e;split at e
   ·rename_i q
    cases e;rw[beq_iff_eq.mp q];exact z8
   ·exact y1 _ (ih e)
 have:=z2C.mp h _ hm
 simp only[z] at this;simp at this
theorem u7J {K:W.Frag}{F:Hp}:∀ns:List Int,Rps K F (ns.map V.int) (ns.map D.int)
 | []=>.nil
 | n::ns=>.cons (.int n) (u7J ns)
def spLaw7 (K:W.Frag):Sp:=λvs H Q _=>∃(a:Addr) (ns:List Int),vs=[.ref a]/\SqL K H a (ns.map V.int)/\∀H',Q (.bl true) H'
def law_imp {P:Program}{w:World}{K:W.Frag}{mg:MG}{base:Heap}{k:Nat}{f:Addr}{fd:FuncData}{ps:List Str}{G:FD} (nl:noLst K=true) (h:FnOk P w K mg base (CXe P w) k f fd ps (spX K G)) (p:∀ns:List Int,G [scr ns]=.ok (.bl true)) :
  FnOk P w K mg base (CXe P w) k f fd ps (spLaw7 K):=h.imp λvs H Q E ⟨a,ns,e,hs,q⟩=>by
 subst e;rcases hs with hs|⟨o,its,n,e1,e2,_⟩
 ·refine ⟨H,[scr ns],Same.refl H,.cons (.lst hs (u7J ns)) .nil,?_⟩
  rw[p ns];intro v F' H' st pv;cases pv;exact q H'
 ·exact absurd e2 (v2G nl e1)
def s_xf {X:Cx}{o value:Expr}{ta tv:TE}{f:Str}{pos pos':Pos} (ha:JE X o ta) (hv:JE X value tv) (hs:swapsWith value (some (.Attribute o f pos')) pos.line X.env=pure false:=by rfl):JS X (.Assign [.Attribute o f pos'] value pos) (sXF X.K ta tv f):=⟨ps_xf ha.out hv.out hs⟩
section
variable {P:Program}{w:World}{K:W.Frag}{mg:MG}{base:Heap}{f C:Addr}{fd:FuncData}
def ok_x {q fl:Str}{st:Stmt}{p1 p2 p3 p4:Pos} (F:Fun K "__init__" q st f fd) (S:FnScope ["self",fl] ["self",fl] (defScope st)) (hb:defBody st=[.Assign [.Attribute (.Name "self" p1) fl p2] (.Name fl p3) p4]) (e1:(fl==("__debug__":Str))=false) (e2:(fl==("__classdict__":Str))=false) (c:XCls K C f) (n:NoAttr K C fl):FnOk P w K mg base CX0 1 f fd ["self",fl] (spXI C [fl]):=by
 have vi:∀x∈(["self",fl]:List Str),Vis (defScope st) x:=λx hx=>(S.par x hx).elim .inl λz=>.inr (.inl z)
 refine F.okJ S (λvs H Q E h=>?_) (λcdv A outer s H vs Q E hr h=>?_)
 ·obtain ⟨a,args,n',rfl,hl,_⟩:=h
  rw[s9,hl];rfl
 obtain⟨a,args,n',rfl,hl,ha,q⟩:=h
 match args,hl,q with
 | [v],_,q =>
  rw[hb];refine⟨_,b_one (s_xf (ev 0 rfl (vi _ (by simp))) (ev 1 rfl (vi _ (by simp)) e1 e2)),?_⟩
  exact⟨_,rfl,_,rfl,a,C,f,n',rfl,c,n,ha,λdx h1 h2=>q dx h1 h2⟩
end
def AtF (K:W.Frag) (x:Str) (st:Stmt):Prop:=∃f oc od kV dc pm an cd ct sl,W.nsIn K mainGlobals x=some (some (.ref f))/\K.lookup f=some ⟨oc,od,.func (W.fnOf x x (defArgs st) (defBody st) (defScope st) .none kV dc pm an cd ct),sl⟩/\W.codeIn K cd x=true/\W.keepIn K (.ref f)=true
def AtM (K:W.Frag) (C:Addr) (x q:Str) (st:Stmt):Prop:=∃f oc od kV dc pm an cd ct sl,W.findIn K (.ref C) x=some (some (.ref f))/\W.isFn K (.ref f)=true/\K.lookup f=some ⟨oc,od,.func (W.fnOf x q (defArgs st) (defBody st) (defScope st) .none kV dc pm an cd ct),sl⟩/\W.codeIn K cd q=true/\W.keepIn K (.ref f)=true
def AtX (K:W.Frag) (C:Addr) (x q fl:Str) (st:Stmt):Prop:=W.nsIn K mainGlobals x=some (some (.ref C))/\∃f oc od kV dc pm an cd ct sl,W.findIn K (.ref C) "__init__"=some (some (.ref f))/\K.lookup f=some ⟨oc,od,.func (W.fnOf "__init__" q (defArgs st) (defBody st) (defScope st) .none kV dc pm an cd ct),sl⟩/\W.codeIn K cd q=true/\W.keepIn K (.ref f)=true/\xcB K C f=true/\W.findIn K (.ref C) fl=some none/\xbB K C=true
section
variable {P:Program}{w:World}{K:W.Frag}{h:Heap}{mg:MG}{base:Heap}{f C:Addr}{fd:FuncData}{x q fl m:Str}{st:Stmt}{k:Nat}{ps:List Str}{p1 p2 p3 p4 p5:Str}
def AtF.go (a:AtF K x st) (X:K.In h) (G:h.Ns mainGlobals mg):∃f fd,Fun K x x st f fd/\mg x=some (.ref f)/\W.keepIn K (.ref f)=true:=by
 obtain⟨f,oc,od,kV,dc,pm,an,cd,ct,sl,h1,h2,h3,h4⟩:=a;exact⟨f,_,u8f h2 h3 h4,W.mg_of X G h1,h4⟩
def AtM.go (a:AtM K C x q st):∃f fd,Fun K x q st f fd/\Meth K C x f:=by
 obtain⟨f,oc,od,kV,dc,pm,an,cd,ct,sl,h1,h2,h3,h4,h5⟩:=a;exact⟨f,_,u8f h3 h4 h5,h1,h2,h5⟩
def AtX.go (a:AtX K C x q fl st) (X:K.In h) (G:h.Ns mainGlobals mg):∃f fd,Fun K "__init__" q st f fd/\XCls K C f/\NoAttr K C fl/\mg x=some (.ref C)/\XBase K C:=by
 obtain⟨h0,f,oc,od,kV,dc,pm,an,cd,ct,sl,h1,h2,h3,h4,h5,h6,h7⟩:=a;exact⟨f,_,u8f h2 h3 h4,xcls_of h5,h6,W.mg_of X G h0,u3w h7⟩
abbrev bA (x q:Str) (st:Stmt) (us:List Value) (l:List (Str×Value)):Prop:=∀(kV doc pm:Value) (an:Option Addr) (cdv ct:Value),bindArgs (W.fnOf x q (defArgs st) (defBody st) (defScope st) .none kV doc pm an cdv ct) ⟨us,[]⟩=pure l
def _root_.L2.Fun.b1 (F:Fun K x q st f fd) (e:∀a,bA x q st [a] [(p1,a)]):Binds K fd [p1] []:=F.binds λkV doc pm an cdv ct us hl=>match us,hl with | [a],_=>e a kV doc pm an cdv ct
def _root_.L2.Fun.b2 (F:Fun K x q st f fd) (e:∀a b,bA x q st [a,b] [(p1,a),(p2,b)]):Binds K fd [p1,p2] []:=F.binds λkV doc pm an cdv ct us hl=>match us,hl with | [a,b],_=>e a b kV doc pm an cdv ct
def _root_.L2.Fun.b3 (F:Fun K x q st f fd) (e:∀a b c,bA x q st [a,b,c] [(p1,a),(p2,b),(p3,c)]):Binds K fd [p1,p2,p3] []:=F.binds λkV doc pm an cdv ct us hl=>match us,hl with | [a,b,c],_=>e a b c kV doc pm an cdv ct
def _root_.L2.Fun.b4 (F:Fun K x q st f fd) (e:∀a b c d,bA x q st [a,b,c,d] [(p1,a),(p2,b),(p3,c),(p4,d)]):Binds K fd [p1,p2,p3,p4] []:=F.binds λkV doc pm an cdv ct us hl=>match us,hl with | [a,b,c,d],_=>e a b c d kV doc pm an cdv ct
def _root_.L2.Fun.b5 (F:Fun K x q st f fd) (e:∀a b c d g,bA x q st [a,b,c,d,g] [(p1,a),(p2,b),(p3,c),(p4,d),(p5,g)]):Binds K fd [p1,p2,p3,p4,p5] []:=F.binds λkV doc pm an cdv ct us hl=>match us,hl with | [a,b,c,d,g],_=>e a b c d g kV doc pm an cdv ct
def mkC {g:FD} (H:FnOk P w K mg base CX0 k f fd ps (spF K g)) (b:Binds K fd ps []) (kp:W.keepIn K (.ref f)=true) (a:mg x=some (.ref f)):Callee P w K mg base k x ps (spF K g):=⟨f,fd,H,b,kp,a⟩
def mkX {g:FD} (H:FnOk P w K mg base (CXe P w) k f fd ps (spX K g)) (b:Binds K fd ps []) (kp:W.keepIn K (.ref f)=true) (a:mg x=some (.ref f)):CalleeX P w K mg base k x ps g:=⟨f,fd,H,b,kp,a⟩
def mkE (H:FnOk P w K mg base CX0 1 f fd ["self",fl] (spXI C [fl])) (b:Binds K fd ["self",fl] []) (c:XCls K C f) (a:mg x=some (.ref C)):XCalleeF P w K mg base 1 x C ["self",fl] [fl]:=⟨f,fd,c,H,b,a⟩
end
section
variable {P:Program}{w:World}{K:W.Frag}{mg:MG}{base:Heap}{f C:Addr}{fd:FuncData}{x:Str}{ps:List Str}{k:Nat}
def mkF {g:FD} (c:Cls K C) (m:Meth K C x f) (H:FnOk P w K mg base CX0 k f fd ps (spF K g)) (b:Binds K fd ps []):MCalleeF P w K mg base k C x ps g:=⟨f,fd,c,m,H,b⟩
noncomputable def hB (bs:List Bool):Int:=reduceHash (Builtin.Tuple.tupleHashOf (bs.map b01))
def AtB (K:W.Frag) (a:Addr) (bs:List Bool):Prop:=∃od n sl,K.lookup a=some ⟨.type "tuple",od,.seq (bs.map Value.bool).toArray n,sl⟩
theorem AtB.is {a:Addr}{bs:List Bool} (h:AtB K a bs) {hp:Heap} (X:K.In hp):(tupleKind (boolKind P w)).is hp bs a:=by
 obtain⟨od,n,sl,e⟩:=h;refine⟨_,_,n,X _ _ e,rfl,rfl,?_⟩;clear e;induction bs with
 | nil=>exact .nil
 | cons b bs ih=>exact .cons (by show L2.isBl b (.bool b)=true;cases b<;>rfl) ih
def dctB_mk {a k1 k2 k3 v1 v2 v3:Addr}{ep:Nat}{H1 H2 H3:Int}{o1 o2 o3:Option Addr}{n1 n2 n3:Nat}{s1 s2 s3:Array (Option Value)}{t1 t2 t3 t4 t5 t6 t7:Tok} (h:W.nsIn K mainGlobals "ROLES_BY_FORM"=some (some (.ref a))) (l:K.lookup a=some ⟨.type "dict",none,.dict #[⟨H1,.ref k1,.ref v1⟩,⟨H2,.ref k2,.ref v2⟩,⟨H3,.ref k3,.ref v3⟩] ep,#[]⟩) (hs:(a==sysModules)=false)
  (e1:H1=hB [true,false,true]) (e2:H2=hB [false,true,false]) (e3:H3=hB [false]) (b1:AtB K k1 [true,false,true]) (b2:AtB K k2 [false,true,false]) (b3:AtB K k3 [false])
  (l1:K.lookup v1=some ⟨.type "tuple",o1,.seq #[.str "head" t1,.str "op" t2,.str "head" t3] n1,s1⟩) (l2:K.lookup v2=some ⟨.type "tuple",o2,.seq #[.str "left" t4,.str "head" t5,.str "right" t6] n2,s2⟩) (l3:K.lookup v3=some ⟨.type "tuple",o3,.seq #[.str "atom" t7] n3,s3⟩)
  {hp:Heap} (X:K.In hp) (G:hp.Ns mainGlobals mg):DctB P w K mg "ROLES_BY_FORM" rolesL:=by
 refine⟨a,W.mg_of X G h,hs,[([true,false,true],k1,.ref v1),([false,true,false],k2,.ref v2),([false],k3,.ref v3)],λh2 X2=>?_,λk=>?_⟩
 ·refine ⟨_,_,ep,X2 _ _ l,⟨rfl,rfl,rfl⟩,rfl,?_,fun x hx=>?_,show ([[true,false,true],[false,true,false],[false]]:List (List Bool)).Nodup by decide⟩
  ·have hE:∀ bs,(tupleKind (boolKind P w)).hash bs=hB bs:=fun _=>rfl
   rw[e1,e2,e3];simp only[u9,List.map_nil,entryOfKey,hE]
  ·simp only [y7,r6,or_false] at hx
   rcases hx with rfl|rfl|rfl
   ·exact b1.is X2
   ·exact b2.is X2
   ·exact b3.is X2
 ·have r1:∀ F,Rp K F (.ref v1) (.tup [.str "head",.str "op",.str "head"]):=fun F=>.tup (xs:=[.str "head",.str "op",.str "head"]) (.inr ⟨_,_,_,l1,rfl,rfl,(show 3<=sizeLine by decide),.cons ⟨_,rfl⟩ (.cons ⟨_,rfl⟩ (.cons ⟨_,rfl⟩ .nil))⟩) (.cons (.str (by decide +kernel)) (.cons (.str (by decide +kernel)) (.cons (.str (by decide +kernel)) .nil)))
  have r2:∀F,Rp K F (.ref v2) (.tup [.str "left",.str "head",.str "right"]):=λF=>.tup (xs:=[.str "left",.str "head",.str "right"]) (.inr ⟨_,_,_,l2,rfl,rfl,(show 3<=sizeLine by decide),.cons ⟨_,rfl⟩ (.cons ⟨_,rfl⟩ (.cons ⟨_,rfl⟩ .nil))⟩) (.cons (.str (by decide +kernel)) (.cons (.str (by decide +kernel)) (.cons (.str (by decide +kernel)) .nil)))
  have r3:∀F,Rp K F (.ref v3) (.tup [.str "atom"]):=λF=>.tup (xs:=[.str "atom"]) (.inr ⟨_,_,_,l3,rfl,rfl,(show 1<=sizeLine by decide),.cons ⟨_,rfl⟩ .nil⟩) (.cons (.str (by decide +kernel)) .nil)
  by_cases c1:k=[true,false,true]
  ·rw[c1];exact⟨.ref v1,rfl,r1⟩
  by_cases c2:k=[false,true,false]
  ·rw[c2];exact⟨.ref v2,rfl,r2⟩
  by_cases c3:k=[false]
  ·rw[c3];exact⟨.ref v3,rfl,r3⟩
  have d1:decide ([true,false,true]=k)=false:=decide_eq_false λz=>c1 z.symm
  have d2:decide ([false,true,false]=k)=false:=decide_eq_false λz=>c2 z.symm
  have d3:decide ([false]=k)=false:=decide_eq_false λz=>c3 z.symm
  have z1:(atKey [([true,false,true],k1,Value.ref v1),([false,true,false],k2,.ref v2),([false],k3,.ref v3)] k).map (·.2)=none:=by
   simp only[atKey,z0E,d1,d2,d3,List.find?_nil,Option.map_none]
  have z2:lkB rolesL k=none:=by
   simp only[lkB,rolesL,z0E,d1,d2,d3,List.find?_nil,Option.map_none]
  rw[z1,z2];trivial
end
set_option maxHeartbeats 0 in
def all_mk {l:W.OpenLaw}{w:World}{K:W.Frag}{h:Heap}{mg:MG}{fa tG aS fG fl aD kD1 kD2 kD3 vD1 vD2 vD3 CNoRanks CNoRow CTableError CNoTree CGrammar CTree CLeaf CNode CClimber:Addr} (X:K.In h) (G:h.Ns mainGlobals mg) (hfa:mg "law"=some (.ref fa)) {odt odS odG anG odl anl oD1 oD2 oD3:Option Addr}{slt slS slG sll s1 s2 s3:Array (Option Value)}{oct ocG kVG dcG pmG cdG ctG ocl kVl dcl pml cdl ctl:Value}{nT nS nD n1 n2 n3:Nat}{H1 H2 H3:Int}{tMOST_IN_BODY tMOST_IN_RANK tMOST_RULES tMOST_HEADS tMOST_SIGNS tMOST_RANKS tLONGEST tIN_SIGNS tGREAT tSMALL_AND_FIGURES tMOST_READ ts1 ts2 ts3 u1 u2 u3 u4 u5 u6 u7:Tok}
  (h0:AtF K "is_whole" u2H) (h1:AtF K "is_short_text" u1d) (h2:AtF K "has_only" u1T) (h3:AtF K "is_sign" u3K) (h4:AtF K "is_head" u3P) (h5:AtF K "is_symbol" u2e) (h6:AtF K "is_row" u3y) (h7:AtF K "need_row" u2E) (h8:AtF K "is_pair" u3O) (h9:AtF K "is_body" u2u) (h10:AtF K "is_rule" u3M) (h11:AtF K "is_side" u3L) (h12:AtF K "is_rank_signs" u0N) (h13:AtF K "is_rank" u3N) (h14:AtF K "heads_in" u1S) (h15:AtF K "signs_in" u2D) (h16:AtF K "need_rules" u1J) (h17:AtF K "need_known_heads" u0L) (h18:AtF K "need_few_symbols" u0M) (h19:AtF K "need_ranks" u1K) (h20:AtF K "roles_in" u1R) (h21:AtF K "spots_in" u1Q) (h22:AtF K "is_operators" u0C) (h23:AtF K "need_operators" u0V) (h24:AtF K "climbed" u3Q) (h25:AtF K "_law_cell" u2G) (h26:AtF K "_law_stir" u2F) (h27:AtF K "_law_row" u3J) (h28:AtF K "_law_operators" u0p) (h29:AtF K "_law_asked" u2d) (xNoRanks:AtX K CNoRanks "NoRanks" "NoRanks.__init__" "found" (meth 4 0)) (xNoRow:AtX K CNoRow "NoRow" "NoRow.__init__" "found" (meth 6 0)) (gT:W.nsIn K mainGlobals "TableError"=some (some (.ref CTableError))/\xbB K CTableError=true) (gNT:W.nsIn K mainGlobals "NoTree"=some (some (.ref CNoTree))/\xbB K CNoTree=true) (gG:W.nsIn K mainGlobals "Grammar"=some (some (.ref CGrammar))) (gTree:W.nsIn K mainGlobals "Tree"=some (some (.ref CTree))) (gLeaf:W.nsIn K mainGlobals "Leaf"=some (some (.ref CLeaf))) (gNode:W.nsIn K mainGlobals "Node"=some (some (.ref CNode))) (gClimber:W.nsIn K mainGlobals "Climber"=some (some (.ref CClimber))) (pgLeaf:W.plainGet K CLeaf Str.empty=true) (hdLeaf:W.hasDictIn K CLeaf=true) (poLeaf:W.plainOver K CLeaf=true) (saLeaf:W.findIn K (.ref CLeaf) "__setattr__"=some (some (.builtin "object.__setattr__"))) (mkLeaf:W.makesIn K CLeaf=true) (kpLeaf:W.keepIn K (.ref CLeaf)=true) (qinitLeaf:AtM K CLeaf "__init__" "Leaf.__init__" u2g) (qsizeLeaf:AtM K CLeaf "size" "Tree.size" u2f) (qdepthLeaf:AtM K CLeaf "depth" "Tree.depth" u1L) (na_Leaf_sign:W.findIn K (.ref CLeaf) "sign"=some none) (na_Leaf_tree_size:W.findIn K (.ref CLeaf) "tree_size"=some none) (na_Leaf_tree_depth:W.findIn K (.ref CLeaf) "tree_depth"=some none) (pgNode:W.plainGet K CNode Str.empty=true) (hdNode:W.hasDictIn K CNode=true) (poNode:W.plainOver K CNode=true) (saNode:W.findIn K (.ref CNode) "__setattr__"=some (some (.builtin "object.__setattr__"))) (mkNode:W.makesIn K CNode=true) (kpNode:W.keepIn K (.ref CNode)=true) (qinitNode:AtM K CNode "__init__" "Node.__init__" u0R) (na_Node_number:W.findIn K (.ref CNode) "number"=some none) (na_Node_children:W.findIn K (.ref CNode) "children"=some none) (na_Node_tree_size:W.findIn K (.ref CNode) "tree_size"=some none) (na_Node_tree_depth:W.findIn K (.ref CNode) "tree_depth"=some none) (pgClimber:W.plainGet K CClimber Str.empty=true) (hdClimber:W.hasDictIn K CClimber=true) (poClimber:W.plainOver K CClimber=true) (saClimber:W.findIn K (.ref CClimber) "__setattr__"=some (some (.builtin "object.__setattr__"))) (mkClimber:W.makesIn K CClimber=true) (kpClimber:W.keepIn K (.ref CClimber)=true) (qinitClimber:AtM K CClimber "__init__" "Climber.__init__" u1r) (qbuildClimber:AtM K CClimber "build" "Climber.build" u1g) (qtakesClimber:AtM K CClimber "takes" "Climber.takes" u1f) (qwholeClimber:AtM K CClimber "whole" "Climber.whole" u1e) (na_Climber_grammar:W.findIn K (.ref CClimber) "grammar"=some none) (na_Climber_trees:W.findIn K (.ref CClimber) "trees"=some none) (na_Climber_waiting:W.findIn K (.ref CClimber) "waiting"=some none) (na_Climber_is_built:W.findIn K (.ref CClimber) "is_built"=some none) (haL:W.findIn K (.ref CLeaf) "__class__"=some (some (.builtin "object.__class__"))) (hmL:W.mroIn K CLeaf (.type "object")=some true) (hnL:W.specialIn K (.builtin "object.__class__") "__get__"=some (some (.builtin "getset_descriptor.__get__"))) (htL:W.takesIn K (.builtin "object.__class__")=some true) (kLT:W.kitOne K (.ref CLeaf) (.ref CTree)=some true) (kRT:W.kitOne K (.ref CNoRanks) (.ref CTableError)=some true) (kWT:W.kitOne K (.ref CNoRow) (.ref CTableError)=some true) (kRW:W.kitOne K (.ref CNoRanks) (.ref CNoRow)=some false) (kWN:W.kitOne K (.ref CNoRow) (.ref CNoTree)=some false) (kWV:W.kitOne K (.ref CNoRow) (.type "ValueError")=some true) (kb_Tree:∀T∈(["NoneType","bool","int","str","list","tuple","dict"]:List String),W.kitOne K (.type T) (.ref CTree)=some false) (kb_TableError:∀T∈(["NoneType","bool","int","str","list","tuple","dict"]:List String),W.kitOne K (.type T) (.ref CTableError)=some false) (kb_NoRow:∀T∈(["NoneType","bool","int","str","list","tuple","dict"]:List String),W.kitOne K (.type T) (.ref CNoRow)=some false) (kb_NoTree:∀T∈(["NoneType","bool","int","str","list","tuple","dict"]:List String),W.kitOne K (.type T) (.ref CNoTree)=some false) (xb1:xbB K CNoRanks=true) (xb2:xbB K CNoRow=true) (s11:subK K CNoRanks CNoRanks=true) (s21:subK K CNoRow CNoRanks=false) (s22:subK K CNoRow CNoRow=true) (neRR:CNoRanks≠CNoRow) (mheads:AtM K CGrammar "heads" "Grammar.heads" u3I) (msigns:AtM K CGrammar "signs" "Grammar.signs" u3H) (mrank_of:AtM K CGrammar "rank_of" "Grammar.rank_of" u2b) (mneed_number:AtM K CGrammar "need_number" "Grammar.need_number" u1c) (mbody_of:AtM K CGrammar "body_of" "Grammar.body_of" u2c) (aG:W.findIn K (.ref CGrammar) "__init__"=some (some (.ref fG))) (lG:K.lookup fG=some ⟨ocG,odG,.func (W.fnOf "__init__" "Grammar.__init__" (defArgs u0z) (defBody u0z) (defScope u0z) (.ref tG) kVG dcG pmG anG cdG ctG),slG⟩) (ltG:K.lookup tG=some ⟨oct,odt,.seq #[.none] nT,slt⟩) (cG:W.codeIn K cdG "Grammar.__init__"=true) (pgG:W.plainGet K CGrammar Str.empty=true) (hdG:W.hasDictIn K CGrammar=true) (poG:W.plainOver K CGrammar=true) (saG:W.findIn K (.ref CGrammar) "__setattr__"=some (some (.builtin "object.__setattr__"))) (mkG:W.makesIn K CGrammar=true) (fnG:W.isFn K (.ref fG)=true) (kpG:W.keepIn K (.ref CGrammar)=true) (naRu:W.findIn K (.ref CGrammar) "rules"=some none) (naRa:W.findIn K (.ref CGrammar) "ranks"=some none) (naSt:W.findIn K (.ref CGrammar) "start"=some none) (nl:noLst K=true) (gSI:W.nsIn K mainGlobals "SIDES"=some (some (.ref aS))) (lS:K.lookup aS=some ⟨.type "tuple",odS,.seq #[.str "left" ts1,.str "right" ts2,.str "none" ts3] nS,slS⟩) (gMOST_IN_BODY:W.nsIn K mainGlobals "MOST_IN_BODY"=some (some (.int 4 tMOST_IN_BODY))) (gMOST_IN_RANK:W.nsIn K mainGlobals "MOST_IN_RANK"=some (some (.int 10 tMOST_IN_RANK))) (gMOST_RULES:W.nsIn K mainGlobals "MOST_RULES"=some (some (.int 20 tMOST_RULES))) (gMOST_HEADS:W.nsIn K mainGlobals "MOST_HEADS"=some (some (.int 8 tMOST_HEADS))) (gMOST_SIGNS:W.nsIn K mainGlobals "MOST_SIGNS"=some (some (.int 10 tMOST_SIGNS))) (gMOST_RANKS:W.nsIn K mainGlobals "MOST_RANKS"=some (some (.int 6 tMOST_RANKS))) (gLONGEST:W.nsIn K mainGlobals "LONGEST"=some (some (.int 6 tLONGEST))) (gIN_SIGNS:W.nsIn K mainGlobals "IN_SIGNS"=some (some (.str "abcdefghijklmnopqrstuvwxyz0123456789+-*/()[]=<>,;.!?^&" tIN_SIGNS))) (gGREAT:W.nsIn K mainGlobals "GREAT"=some (some (.str "ABCDEFGHIJKLMNOPQRSTUVWXYZ" tGREAT))) (gSMALL_AND_FIGURES:W.nsIn K mainGlobals "SMALL_AND_FIGURES"=some (some (.str "abcdefghijklmnopqrstuvwxyz0123456789" tSMALL_AND_FIGURES))) (gMOST_READ:W.nsIn K mainGlobals "MOST_READ"=some (some (.int 40 tMOST_READ))) (gD:W.nsIn K mainGlobals "ROLES_BY_FORM"=some (some (.ref aD))) (lD:K.lookup aD=some ⟨.type "dict",none,.dict #[⟨H1,.ref kD1,.ref vD1⟩,⟨H2,.ref kD2,.ref vD2⟩,⟨H3,.ref kD3,.ref vD3⟩] nD,#[]⟩) (sD:(aD==sysModules)=false) (e1:H1=hB [true,false,true]) (e2:H2=hB [false,true,false]) (e3:H3=hB [false]) (b1:AtB K kD1 [true,false,true]) (b2:AtB K kD2 [false,true,false]) (b3:AtB K kD3 [false]) (l1:K.lookup vD1=some ⟨.type "tuple",oD1,.seq #[.str "head" u1,.str "op" u2,.str "head" u3] n1,s1⟩) (l2:K.lookup vD2=some ⟨.type "tuple",oD2,.seq #[.str "left" u4,.str "head" u5,.str "right" u6] n2,s2⟩) (l3:K.lookup vD3=some ⟨.type "tuple",oD3,.seq #[.str "atom" u7] n3,s3⟩) (zz:∀x∈(["isinstance","str","int","bool","list","tuple","dict","len","all","any","range","enumerate","sorted","set","zip","reversed","sum","max","ValueError"]:List Str),W.nsIn K mainGlobals x=some none) (al:W.nsIn K mainGlobals "law"=some (some (.ref fl))) (ll:K.lookup fl=some ⟨ocl,odl,.func (W.fnOf "law" "law" (defArgs u4o) (defBody u4o) (defScope u4o) .none kVl dcl pml anl cdl ctl),sll⟩) (cl:W.codeIn K cdl "law"=true) (kl:W.keepIn K (.ref fl)=true)
  : ∃fd:FuncData,(∀(s:Shared) (v:Value),BindsTo s fd ⟨[v],[]⟩ [("_law_script",v)])/\∀base:Heap,K.In base->base.Ns mainGlobals mg->FnOk l.prog w K mg base (CXe l.prog w) 9 fa fd ["_law_script"] (spLaw7 K):=by
 cases hfa.symm.trans (W.mg_of X G al);refine Classical.byContradiction λhZ=>?_
 obtain⟨_,_,FNoRanks,XNoRanks,NNoRanks,MNoRanks,BNoRanks⟩:=xNoRanks.go X G;obtain⟨_,_,FNoRow,XNoRow,NNoRow,MNoRow,BNoRow⟩:=xNoRow.go X G
 let A:Adr:=⟨CNoRanks,CNoRow,CTableError,CNoTree,CGrammar,CTree,CLeaf,CNode,CClimber⟩
 have clsLeaf:Cls K CLeaf:=⟨pgLeaf,hdLeaf,poLeaf,saLeaf⟩;have clsNode:Cls K CNode:=⟨pgNode,hdNode,poNode,saNode⟩;have clsClimber:Cls K CClimber:=⟨pgClimber,hdClimber,poClimber,saClimber⟩;have ikL:InK K CLeaf:=⟨clsLeaf,haL,hnL,htL,hmL⟩;have xf:XRead K "found" [CNoRanks,CNoRow]:=by
  intro C hC;simp only[y7,r6,or_false] at hC;rcases hC with rfl|rfl
  ·exact⟨⟨_,XNoRanks⟩,NNoRanks⟩
  ·exact⟨⟨_,XNoRow⟩,NNoRow⟩
 have oT:IsO K CTree [(CLeaf,true)] []:=⟨λp hp=>by rw[v9.mp hp];exact⟨ikL,kLT⟩,λp hp=>(nomatch hp),kb_Tree⟩
 have oE:IsO K CTableError [] [(CNoRanks,true),(CNoRow,true)]:=⟨λp hp=>(nomatch hp),λp hp=>by
  simp only[y7,r6,or_false] at hp;rcases hp with rfl|rfl
  ·exact⟨⟨_,XNoRanks⟩,kRT⟩
  ·exact⟨⟨_,XNoRow⟩,kWT⟩,kb_TableError⟩
 have oW:IsO K CNoRow [] [(CNoRanks,false)]:=⟨λp hp=>(nomatch hp),λp hp=>by rw[v9.mp hp];exact⟨⟨_,XNoRanks⟩,kRW⟩,kb_NoRow⟩
 have oN:IsO K CNoTree [] [(CNoRow,false)]:=⟨λp hp=>(nomatch hp),λp hp=>by rw[v9.mp hp];exact⟨⟨_,XNoRow⟩,kWN⟩,kb_NoTree⟩
 have oV:IsE K "ValueError" [(CNoRow,true)]:=λp hp=>by rw[v9.mp hp];exact⟨⟨_,XNoRow⟩,kWV⟩
 have T:Txt l.prog w K mg A:={ z_isinstance:=W.mg_none_of X G (zz _ (by decide)),z_str:=W.mg_none_of X G (zz _ (by decide)),z_int:=W.mg_none_of X G (zz _ (by decide)),z_bool:=W.mg_none_of X G (zz _ (by decide)),z_list:=W.mg_none_of X G (zz _ (by decide)),z_tuple:=W.mg_none_of X G (zz _ (by decide)),z_dict:=W.mg_none_of X G (zz _ (by decide)),z_len:=W.mg_none_of X G (zz _ (by decide)),z_all:=W.mg_none_of X G (zz _ (by decide)),z_any:=W.mg_none_of X G (zz _ (by decide)),z_range:=W.mg_none_of X G (zz _ (by decide)),z_enumerate:=W.mg_none_of X G (zz _ (by decide)),z_sorted:=W.mg_none_of X G (zz _ (by decide)),z_set:=W.mg_none_of X G (zz _ (by decide)),z_zip:=W.mg_none_of X G (zz _ (by decide)),z_reversed:=W.mg_none_of X G (zz _ (by decide)),z_sum:=W.mg_none_of X G (zz _ (by decide)),z_max:=W.mg_none_of X G (zz _ (by decide)),z_ValueError:=W.mg_none_of X G (zz _ (by decide)),g_SIDES:=⟨.ref aS,⟨_,W.mg_of X G gSI,rfl⟩,λF=>.tup (xs:=[.str "left",.str "right",.str "none"]) (.inr ⟨_,_,_,lS,rfl,rfl,(show 3<=sizeLine by decide),.cons ⟨_,rfl⟩ (.cons ⟨_,rfl⟩ (.cons ⟨_,rfl⟩ .nil))⟩) (.cons (.str (by decide +kernel)) (.cons (.str (by decide +kernel)) (.cons (.str (by decide +kernel)) .nil)))⟩,g_MOST_IN_BODY:=⟨.int _,⟨_,W.mg_of X G gMOST_IN_BODY,⟨_,rfl⟩⟩,λF=>.int _⟩,g_MOST_IN_RANK:=⟨.int _,⟨_,W.mg_of X G gMOST_IN_RANK,⟨_,rfl⟩⟩,λF=>.int _⟩,g_MOST_RULES:=⟨.int _,⟨_,W.mg_of X G gMOST_RULES,⟨_,rfl⟩⟩,λF=>.int _⟩,g_MOST_HEADS:=⟨.int _,⟨_,W.mg_of X G gMOST_HEADS,⟨_,rfl⟩⟩,λF=>.int _⟩,g_MOST_SIGNS:=⟨.int _,⟨_,W.mg_of X G gMOST_SIGNS,⟨_,rfl⟩⟩,λF=>.int _⟩,g_MOST_RANKS:=⟨.int _,⟨_,W.mg_of X G gMOST_RANKS,⟨_,rfl⟩⟩,λF=>.int _⟩,g_LONGEST:=⟨.int _,⟨_,W.mg_of X G gLONGEST,⟨_,rfl⟩⟩,λF=>.int _⟩,g_IN_SIGNS:=⟨.str _,⟨_,W.mg_of X G gIN_SIGNS,⟨_,rfl⟩⟩,λF=>.str (by decide +kernel)⟩,g_GREAT:=⟨.str _,⟨_,W.mg_of X G gGREAT,⟨_,rfl⟩⟩,λF=>.str (by decide +kernel)⟩,g_SMALL_AND_FIGURES:=⟨.str _,⟨_,W.mg_of X G gSMALL_AND_FIGURES,⟨_,rfl⟩⟩,λF=>.str (by decide +kernel)⟩,g_MOST_READ:=⟨.int _,⟨_,W.mg_of X G gMOST_READ,⟨_,rfl⟩⟩,λF=>.int _⟩,d_roles:=dctB_mk gD lD sD e1 e2 e3 b1 b2 b3 l1 l2 l3 X G,m_NoRanks:=MNoRanks,b_NoRanks:=BNoRanks,m_NoRow:=MNoRow,b_NoRow:=BNoRow,m_TableError:=W.mg_of X G gT.1,b_TableError:=u3w gT.2,m_NoTree:=W.mg_of X G gNT.1,b_NoTree:=u3w gNT.2,m_Tree:=W.mg_of X G gTree,x_found:=xf,o_Tree:=oT,o_TableError:=oE,o_NoRow:=oW,o_NoTree:=oN,o_ValueError:=oV,ne_rr:=neRR,c_Leaf:=clsLeaf,na_Leaf_sign:=na_Leaf_sign,na_Leaf_tree_size:=na_Leaf_tree_size,na_Leaf_tree_depth:=na_Leaf_tree_depth,c_Node:=clsNode,na_Node_number:=na_Node_number,na_Node_children:=na_Node_children,na_Node_tree_size:=na_Node_tree_size,na_Node_tree_depth:=na_Node_tree_depth,c_Climber:=clsClimber,na_Climber_grammar:=na_Climber_grammar,na_Climber_trees:=na_Climber_trees,na_Climber_waiting:=na_Climber_waiting,na_Climber_is_built:=na_Climber_is_built,cls:=⟨pgG,hdG,poG,saG⟩,na_rules:=naRu,na_ranks:=naRa,na_start:=naSt }
 obtain⟨_,_,F0,a0,k0⟩:=h0.go X G;obtain⟨_,_,F1,a1,k1⟩:=h1.go X G;obtain⟨_,_,F2,a2,k2⟩:=h2.go X G;obtain⟨_,_,F3,a3,k3⟩:=h3.go X G;obtain⟨_,_,F4,a4,k4⟩:=h4.go X G;obtain⟨_,_,F5,a5,k5⟩:=h5.go X G;obtain⟨_,_,F6,a6,k6⟩:=h6.go X G;obtain⟨_,_,F7,a7,k7⟩:=h7.go X G;obtain⟨_,_,F8,a8,k8⟩:=h8.go X G;obtain⟨_,_,F9,a9,k9⟩:=h9.go X G;obtain⟨_,_,F10,a10,k10⟩:=h10.go X G;obtain⟨_,_,F11,a11,k11⟩:=h11.go X G;obtain⟨_,_,F12,a12,k12⟩:=h12.go X G;obtain⟨_,_,F13,a13,k13⟩:=h13.go X G;obtain⟨_,_,F14,a14,k14⟩:=h14.go X G;obtain⟨_,_,F15,a15,k15⟩:=h15.go X G;obtain⟨_,_,F16,a16,k16⟩:=h16.go X G;obtain⟨_,_,F17,a17,k17⟩:=h17.go X G;obtain⟨_,_,F18,a18,k18⟩:=h18.go X G;obtain⟨_,_,F19,a19,k19⟩:=h19.go X G;obtain⟨_,_,F20,a20,k20⟩:=h20.go X G;obtain⟨_,_,F21,a21,k21⟩:=h21.go X G;obtain⟨_,_,F22,a22,k22⟩:=h22.go X G;obtain⟨_,_,F23,a23,k23⟩:=h23.go X G;obtain⟨_,_,F24,a24,k24⟩:=h24.go X G;obtain⟨_,_,F25,a25,k25⟩:=h25.go X G;obtain⟨_,_,F26,a26,k26⟩:=h26.go X G;obtain⟨_,_,F27,a27,k27⟩:=h27.go X G;obtain⟨_,_,F28,a28,k28⟩:=h28.go X G;obtain⟨_,_,F29,a29,k29⟩:=h29.go X G;have F30:=u8f (st:=u4o) ll cl kl;obtain⟨_,_,Fheads,nheads⟩:=mheads.go;obtain⟨_,_,Fsigns,nsigns⟩:=msigns.go;obtain⟨_,_,Frank_of,nrank_of⟩:=mrank_of.go;obtain⟨_,_,Fneed_number,nneed_number⟩:=mneed_number.go;obtain⟨_,_,Fbody_of,nbody_of⟩:=mbody_of.go;have S:Sub K A:=⟨xb1,xb2,s11,s21,s22⟩;obtain⟨_,_,FCinitLeaf,nCinitLeaf⟩:=qinitLeaf.go;obtain⟨_,_,FCsizeLeaf,nCsizeLeaf⟩:=qsizeLeaf.go;obtain⟨_,_,FCdepthLeaf,nCdepthLeaf⟩:=qdepthLeaf.go;obtain⟨_,_,FCinitNode,nCinitNode⟩:=qinitNode.go;obtain⟨_,_,FCinitClimber,nCinitClimber⟩:=qinitClimber.go;obtain⟨_,_,FCbuildClimber,nCbuildClimber⟩:=qbuildClimber.go;obtain⟨_,_,FCtakesClimber,nCtakesClimber⟩:=qtakesClimber.go;obtain⟨_,_,FCwholeClimber,nCwholeClimber⟩:=qwholeClimber.go;have FG:FunD K "__init__" "Grammar.__init__" u0z fG _:=⟨_,_,_,_,_,_,_,_,_,_,rfl,lG,cG⟩;have bG3:Binds K (W.fnOf "__init__" "Grammar.__init__" (defArgs u0z) (defBody u0z) (defScope u0z) (.ref tG) kVG dcG pmG anG cdG ctG) ["self","rules","ranks"] []:=λs us XI hl=>match us,hl with | [_,_,_],_=>BindsTo.of_defaults rfl (XI _ _ ltG) rfl rfl rfl
 have bG2:Binds K (W.fnOf "__init__" "Grammar.__init__" (defArgs u0z) (defBody u0z) (defScope u0z) (.ref tG) kVG dcG pmG anG cdG ctG) ["self","rules","ranks"] [.none]:=λs us XI hl=>by
  match us,hl with
  | [_,_],_=>exact BindsTo.of_defaults rfl (XI _ _ ltG) rfl rfl rfl
  | [],h=>simp at h
  | [_],h=>simp at h
  | _::_::_::_,h=>simp at h
 refine hZ ⟨W.fnOf "law" "law" (defArgs u4o) (defBody u4o) (defScope u4o) .none kVl dcl pml anl cdl ctl,λs v=>.of_eq rfl,λbase _ _=>Classical.byContradiction λhY=>?_⟩
 have ENoRanks:=mkE (ok_x (P:=l.prog) (w:=w) (base:=base) FNoRanks ⟨rfl,rfl,rfl,by decide +kernel,rfl,by decide +kernel,by decide +kernel⟩ rfl rfl rfl XNoRanks NNoRanks) (FNoRanks.b2 λ_ _ _ _ _ _ _ _=>rfl) XNoRanks MNoRanks
 have ENoRow:=mkE (ok_x (P:=l.prog) (w:=w) (base:=base) FNoRow ⟨rfl,rfl,rfl,by decide +kernel,rfl,by decide +kernel,by decide +kernel⟩ rfl rfl rfl XNoRow NNoRow) (FNoRow.b2 λ_ _ _ _ _ _ _ _=>rfl) XNoRow MNoRow
 obtain⟨_,H,p25⟩:=u7g (P:=l.prog) (w:=w) (base:=base)  F25 T;have C25:=mkC H (F25.b2 λ_ _ _ _ _ _ _ _=>rfl) k25 a25
 obtain⟨_,H,p26⟩:=u7f (P:=l.prog) (w:=w) (base:=base)  F26 T;have C26:=mkC H (F26.b2 λ_ _ _ _ _ _ _ _=>rfl) k26 a26
 obtain⟨_,H,p27⟩:=u8V (P:=l.prog) (w:=w) (base:=base) C25 C26 p25 p26 F27 T;have C27:=mkC H (F27.b4 λ_ _ _ _ _ _ _ _ _ _=>rfl) k27 a27
 obtain⟨_,H,p28⟩:=u3o (P:=l.prog) (w:=w) (base:=base) C27 p27 F28 T;have C28:=mkC H (F28.b2 λ_ _ _ _ _ _ _ _=>rfl) k28 a28
 obtain⟨_,H,p1⟩:=u3p (P:=l.prog) (w:=w) (base:=base)  F1 T;have C1:=mkC H (F1.b1 λ_ _ _ _ _ _ _=>rfl) k1 a1
 obtain⟨_,H,p2⟩:=u7j (P:=l.prog) (w:=w) (base:=base)  F2 T;have C2:=mkC H (F2.b2 λ_ _ _ _ _ _ _ _=>rfl) k2 a2
 obtain⟨_,H,p4⟩:=u9b (P:=l.prog) (w:=w) (base:=base) C1 C2 p1 p2 F4 T;have C4:=mkC H (F4.b1 λ_ _ _ _ _ _ _=>rfl) k4 a4
 obtain⟨_,H,p20⟩:=u7d (P:=l.prog) (w:=w) (base:=base) C4 p4 F20 T;have C20:=mkC H (F20.b1 λ_ _ _ _ _ _ _=>rfl) k20 a20
 obtain⟨_,H,p21⟩:=u7b (P:=l.prog) (w:=w) (base:=base) C20 p20 F21 T;have C21:=mkC H (F21.b1 λ_ _ _ _ _ _ _=>rfl) k21 a21
 obtain⟨_,H,p14⟩:=u7i (P:=l.prog) (w:=w) (base:=base)  F14 T;have C14:=mkC H (F14.b1 λ_ _ _ _ _ _ _=>rfl) k14 a14
 obtain⟨_,H,a0u⟩:=v2q (P:=l.prog) (w:=w) (base:=base) C14 p14 Fheads T;have m_heads:=mkF T.cls nheads H (Fheads.b1 λ_ _ _ _ _ _ _=>rfl)
 obtain⟨_,H,p3⟩:=u8W (P:=l.prog) (w:=w) (base:=base) C1 C2 p1 p2 F3 T;have C3:=mkC H (F3.b1 λ_ _ _ _ _ _ _=>rfl) k3 a3
 obtain⟨_,H,p15⟩:=u7c (P:=l.prog) (w:=w) (base:=base) C3 p3 F15 T;have C15:=mkC H (F15.b1 λ_ _ _ _ _ _ _=>rfl) k15 a15
 obtain⟨_,H,a1c⟩:=v2p (P:=l.prog) (w:=w) (base:=base) C15 p15 Fsigns T;have m_signs:=mkF T.cls nsigns H (Fsigns.b1 λ_ _ _ _ _ _ _=>rfl)
 obtain⟨_,H,a1o⟩:=u9g (P:=l.prog) (w:=w) (base:=base) C3 p3 Frank_of T;have m_rank_of:=mkF T.cls nrank_of H (Frank_of.b2 λ_ _ _ _ _ _ _ _=>rfl)
 obtain⟨_,H,p22⟩:=u3S (P:=l.prog) (w:=w) (base:=base) C21 C20 m_heads m_signs m_rank_of a0u a1c a1o p20 p21 F22 T;have C22:=mkC H (F22.b1 λ_ _ _ _ _ _ _=>rfl) k22 a22
 obtain⟨_,H,p23⟩:=u2L (P:=l.prog) (w:=w) (base:=base) C22 ENoRanks p22 F23 T;have C23:=mkX H (F23.b1 λ_ _ _ _ _ _ _=>rfl) k23 a23
 obtain⟨_,H,p6⟩:=v0h (P:=l.prog) (w:=w) (base:=base) C3 p3 F6 T;have C6:=mkC H (F6.b2 λ_ _ _ _ _ _ _ _=>rfl) k6 a6
 obtain⟨_,H,p7⟩:=u7e (P:=l.prog) (w:=w) (base:=base) C6 ENoRow p6 F7 T;have C7:=mkX H (F7.b2 λ_ _ _ _ _ _ _ _=>rfl) k7 a7
 have k_Climber:CKls l.prog w K mg base 1 "Climber" A.Climber ["self","grammar"] (spCI A.Climber):=⟨_,_,⟨mkClimber,nCinitClimber.1,nCinitClimber.fn,kpClimber⟩,u9f (P:=l.prog) (w:=w) (base:=base) FCinitClimber T,(FCinitClimber.b2 λ_ _ _ _ _ _ _ _=>rfl),W.mg_of X G gClimber⟩
 obtain⟨_,H,p0⟩:=u7h (P:=l.prog) (w:=w) (base:=base)  F0 T;have C0:=mkC H (F0.b1 λ_ _ _ _ _ _ _=>rfl) k0 a0
 obtain⟨_,H,a2f⟩:=u4q (P:=l.prog) (w:=w) (base:=base) C0 p0 Fneed_number T;have m_need_number:=mkF T.cls nneed_number H (Fneed_number.b2 λ_ _ _ _ _ _ _ _=>rfl)
 obtain⟨_,H,a1r⟩:=u9h (P:=l.prog) (w:=w) (base:=base) m_need_number a2f Fbody_of T;have m_body_of:=mkF T.cls nbody_of H (Fbody_of.b2 λ_ _ _ _ _ _ _ _=>rfl)
 have k_Leaf:KCal l.prog w K mg base 1 "Leaf" A.Leaf ["self","sign"] [] K55.gLeaf:=⟨_,_,[],[],⟨mkLeaf,nCinitLeaf.1,nCinitLeaf.fn,kpLeaf⟩,pr_Leaf (P:=l.prog) (w:=w) (base:=base) FCinitLeaf T,(FCinitLeaf.b2 λ_ _ _ _ _ _ _ _=>rfl),.nil,λF=>.nil,W.mg_of X G gLeaf⟩
 obtain⟨gsize,H,a3b⟩:=u5V (P:=l.prog) (w:=w) (base:=base) FCsizeLeaf T;have m_size:=mkF clsLeaf nCsizeLeaf H (FCsizeLeaf.b1 λ_ _ _ _ _ _ _=>rfl)
 obtain⟨gdepth,H,a2u⟩:=u5f (P:=l.prog) (w:=w) (base:=base) FCdepthLeaf T;have m_depth:=mkF clsLeaf nCdepthLeaf H (FCdepthLeaf.b1 λ_ _ _ _ _ _ _=>rfl)
 have k_Node:KCal l.prog w K mg base 2 "Node" A.Node ["self","number","children"] [] (K55.gNode A):=⟨_,_,[],[],⟨mkNode,nCinitNode.1,nCinitNode.fn,kpNode⟩,pr_Node (P:=l.prog) (w:=w) (base:=base) m_size m_depth a3b a2u FCinitNode T,(FCinitNode.b3 λ_ _ _ _ _ _ _ _ _=>rfl),.nil,λF=>.nil,W.mg_of X G gNode⟩
 have m_build:CMeth l.prog w K mg base 4 A.Climber "build" ["self","number"] (spBuild K A):=⟨_,_,clsClimber,nCbuildClimber,v2r (P:=l.prog) (w:=w) (base:=base) C4 m_body_of k_Leaf k_Node p4 a1r FCbuildClimber T,(FCbuildClimber.b2 λ_ _ _ _ _ _ _ _=>rfl)⟩
 have m_takes:CMeth l.prog w K mg base 5 A.Climber "takes" ["self","role","number"] (spTakes K A):=⟨_,_,clsClimber,nCtakesClimber,v2o (P:=l.prog) (w:=w) (base:=base) m_build FCtakesClimber T,(FCtakesClimber.b3 λ_ _ _ _ _ _ _ _ _=>rfl)⟩
 have m_whole:CMeth l.prog w K mg base 1 A.Climber "whole" ["self"] (spWhole A):=⟨_,_,clsClimber,nCwholeClimber,v2n (P:=l.prog) (w:=w) (base:=base)  FCwholeClimber T,(FCwholeClimber.b1 λ_ _ _ _ _ _ _=>rfl)⟩
 obtain⟨_,H,p24⟩:=u9d (P:=l.prog) (w:=w) (base:=base) C23 C7 C21 k_Climber m_takes m_whole p23 p7 p21 F24 T;have C24:=mkX H (F24.b2 λ_ _ _ _ _ _ _ _=>rfl) k24 a24
 obtain⟨_,H,p29⟩:=u5T (P:=l.prog) (w:=w) (base:=base) C24 S F29 T;have C29:=mkX H (F29.b2 λ_ _ _ _ _ _ _ _=>rfl) k29 a29
 obtain⟨_,H,p8⟩:=u9a (P:=l.prog) (w:=w) (base:=base)  F8 T;have C8:=mkC H (F8.b1 λ_ _ _ _ _ _ _=>rfl) k8 a8
 obtain⟨_,H,p5⟩:=u5U (P:=l.prog) (w:=w) (base:=base) C3 C4 p3 p4 F5 T;have C5:=mkC H (F5.b1 λ_ _ _ _ _ _ _=>rfl) k5 a5
 obtain⟨_,H,p9⟩:=u9c (P:=l.prog) (w:=w) (base:=base) C5 p5 F9 T;have C9:=mkC H (F9.b1 λ_ _ _ _ _ _ _=>rfl) k9 a9
 obtain⟨_,H,p10⟩:=u8Y (P:=l.prog) (w:=w) (base:=base) C8 C4 C9 p8 p4 p9 F10 T;have C10:=mkC H (F10.b1 λ_ _ _ _ _ _ _=>rfl) k10 a10
 obtain⟨_,H,p16⟩:=u5d (P:=l.prog) (w:=w) (base:=base) C10 p10 F16 T;have C16:=mkC H (F16.b1 λ_ _ _ _ _ _ _=>rfl) k16 a16
 obtain⟨_,H,p17⟩:=u2h (P:=l.prog) (w:=w) (base:=base) C14 C4 p14 p4 F17 T;have C17:=mkC H (F17.b1 λ_ _ _ _ _ _ _=>rfl) k17 a17
 obtain⟨_,H,p18⟩:=u2i (P:=l.prog) (w:=w) (base:=base) C14 C15 p14 p15 F18 T;have C18:=mkC H (F18.b1 λ_ _ _ _ _ _ _=>rfl) k18 a18
 obtain⟨_,H,p11⟩:=u8X (P:=l.prog) (w:=w) (base:=base)  F11 T;have C11:=mkC H (F11.b1 λ_ _ _ _ _ _ _=>rfl) k11 a11
 obtain⟨_,H,p12⟩:=u3q (P:=l.prog) (w:=w) (base:=base) C3 p3 F12 T;have C12:=mkC H (F12.b1 λ_ _ _ _ _ _ _=>rfl) k12 a12
 obtain⟨_,H,p13⟩:=u8Z (P:=l.prog) (w:=w) (base:=base) C8 C11 C12 p8 p11 p12 F13 T;have C13:=mkC H (F13.b1 λ_ _ _ _ _ _ _=>rfl) k13 a13
 obtain⟨_,H,p19⟩:=u5e (P:=l.prog) (w:=w) (base:=base) C13 p13 F19 T;have C19:=mkC H (F19.b1 λ_ _ _ _ _ _ _=>rfl) k19 a19
 have HG:=u9e (P:=l.prog) (w:=w) (base:=base) C16 C17 C18 C19 p16 p17 p18 p19 FG T;have KG:KCal l.prog w K mg base 7 "Grammar" A.Grammar ["self","rules","ranks"] [] gInit:=⟨fG,_,[],[],⟨mkG,aG,fnG,kpG⟩,HG,bG3,.nil,λF=>.nil,W.mg_of X G gG⟩
 have KG1:KCal l.prog w K mg base 7 "Grammar" A.Grammar ["self","rules","ranks"] [.non] gInit:=⟨fG,_,[.non],[.none],⟨mkG,aG,fnG,kpG⟩,HG,bG2,.cons rfl .nil,λF=>.cons .non .nil,W.mg_of X G gG⟩
 obtain⟨_,H,p30⟩:=pr_law (P:=l.prog) (w:=w) (base:=base) C28 C29 C27 KG KG1 p28 p27 p24 p29 F30 T;exact hY (law_imp nl H p30)
def walk {l:W.OpenLaw}{q:Program}{loose:List Str}{XP:(Str->Option Value)->Heap->Prop}{YP:World->Heap->Prop}{d:DefRec}{K:Params->W.Frag} (hn:l.most=some 63) (hdf:d.params.defaults=[])
  (hY:∀(w:World) (h:Heap),YP w h->(K w.params).In h)
  (F:∀ (w:World) (mg:MG) (fa:Addr) (h:Heap),(K w.params).In h->h.Ns mainGlobals mg->mg d.name=some (.ref fa) ->
   ∃fd:FuncData,(∀(s:Shared) (u:Value),BindsTo s fd ⟨[u],[]⟩ [("_law_script",u)])/\∀base:Heap,(K w.params).In base->base.Ns mainGlobals mg->FnOk l.prog w (K w.params) mg base (CXe l.prog w) 9 fa fd ["_law_script"] (spLaw7 (K w.params))) :
  W.WalkO q loose XP YP l.row.toRowW d [] (λf vs=>PySem.call f vs) :=
 L2.walk_of (n:=63) (k:=9) (x:="_law_script") (CX:=λw=>CXe l.prog w) (sp:=λw=>spLaw7 (K w.params)) hn (by decide) hdf ⟨rfl,by decide,by decide⟩ hY F (λ_ H a ns hl hO hS=>⟨a,ns,rfl,hS,λ_=>rfl⟩) λ_ _ _ _ _ z9154=>by obtain⟨_,_,_,_,_,_,_,_,_,_,_,z⟩:=z9154;exact z
end K55
end
namespace PySem.W.Fast
def tw356856488171266968:=True
def tw5555934610253775885:=True
def tw2085987434252230482:=True
def tw10918706893774293040:=True
def tw16572989829109923220:=True
def tw15928772457997832361:=True
def tw15298310019258947949:=True
def tw2956512635849322730:=True
def tw8707243295874596833:=True
def tw9618538660899053015:=True
def tw17992385788732990726:=True
def tw15801424460706073558:=True
def tw10597231057222542833:=True
def tw11881955178854991193:=True
def tw15904408366040175526:=True
def tw15415228255048170361:=True
def tw6016530650966811076:=True
def tw5099527660976900116:=True
def tw1807084597898116282:=True
def tw17195167490226823235:=True
def tw4320290356729890266:=True
def tw16047229860064521950:=True
def tw13674409547658616413:=True
def tw13058146991066151775:=True
def tw15789089853739308670:=True
def tw1393900997189140314:=True
def tw9761860002093993170:=True
def tw7113694216353736994:=True
def tw8385089140242850297:=True
def tw568432088235978611:=True
def tw14351451746030607159:=True
def tw2496049284055005531:=True
def tw8506558491862452731:=True
def tw15265860202033708718:=True
def tw465562100478107156:=True
def tw9819201291027677093:=True
def tw5184711471023104928:=True
def tw5069971987470653435:=True
def tw9302379109722640144:=True
def tw9931520256349323199:=True
def tw4333236081249349704:=True
def tw10983583447418725133:=True
def tw6147847298563057087:=True
def tw1765629333803364201:=True
def tw15930280382922244464:=True
def tw1391577511242077366:=True
def tw14678763726083208288:=True
def tw16284754712028753106:=True
def tw10274486311194080048:=True
def tw1607323259414380512:=True
def tw750777923583694328:=True
def tw3956551932132566205:=True
def tw16293272056848672995:=True
def tw661559230897557442:=True
def tw4118073297054297961:=True
def tw2631855173040289350:=True
def tw2387448312540038749:=True
def tw11541633022585640950:=True
def tw1792740436397673744:=True
def tw12562490537453760384:=True
def tw539595433658011580:=True
def tw17034106512854207777:=True
def tw5818778982783330055:=True
def tw1606496337088124669:=True
def tw6184153352957882479:=True
def tw9506460227323897937:=True
def tw12489831097449058195:=True
def tw14149142752979884996:=True
def tw18141668292816586190:=True
def tw6195090730356191819:=True
def tw2513264697911545913:=True
def tw3309337785583983470:=True
def tw1901762162695265833:=True
def tw12733757470204953757:=True
def tw10506199920228904468:=True
def tw9534494692789517449:=True
def tw3664522966382787055:=True
def tw16922529711537585958:=True
def tw11542063798736371454:=True
def tw1899791295068888319:=True
def tw2144797323196988067:=True
def tw18131113729449952188:=True
def tw6234975143059156806:=True
def tw6691337448540964829:=True
def tw10025301725909908501:=True
def tw8271592219633346786:=True
def tw17224095023043678455:=True
def tw3824439618741347091:=True
def tw9136908595851908290:=True
def tw12406027667067671516:=True
def tw9936394469976593741:=True
def tw8823720577542767776:=True
def tw4070644919376567318:=True
def tw1498007849901089271:=True
def tw3136196567834406790:=True
def tw18200306695128183121:=True
def tw10064315360326369069:=True
def tw12660105984622045740:=True
def tw16011425417452468715:=True
def tw13377334018011952887:=True
def tw4356430144112980214:=True
def tw1896747877106389113:=True
def tw8836413914592320218:=True
def tw11569257555277206957:=True
def tw21357910737305474:=True
def tw365341229460146151:=True
def tw897666488795412166:=True
def tw1484319483882901984:=True
def tw15059953248798957188:=True
def tw11962151006252021124:=True
def tw10346345711327627536:=True
def tw16278851342783581971:=True
def tw49004234040040167:=True
def tw13821907919642238110:=True
def tw17583782619764433782:=True
def tw5397949707705876727:=True
def tw10166166249305001886:=True
def tw3338401835003975271:=True
def tw8289198042556205153:=True
def tw6428593064658038305:=True
def tw5942124648029045716:=True
def tw3760067815103078454:=True
def tw12162807131929808915:=True
def tw5109649884128040847:=True
def tw5849050925526091592:=True
def tw9212104070614197817:=True
def tw9372916472869271928:=True
def tw4484062632523162146:=True
def tw11608239173936064523:=True
def tw9995871129154838277:=True
def tw8633590532605014460:=True
def tw4257266025693531799:=True
def tw12080672114580208399:=True
def tw1259588944560640883:=True
def tw15652774150685701435:=True
def tw2365562389995885857:=True
def tw5961440038362865217:=True
def tw5658219583993904541:=True
def tw1617539340134482544:=True
def tw4782607578273953791:=True
def tw2890315751476802008:=True
def tw3969446426859634501:=True
def tw8588631567303909637:=True
def tw511788467427929970:=True
def tw11075228315777481532:=True
def tw12638087205431549139:=True
def tw10416839299746244818:=True
def tw17980320295955533439:=True
def tw7176943548065668645:=True
def tw16708711091421534320:=True
def tw15246180408800789102:=True
def tw2521719590021695336:=True
def tw3633442418611151811:=True
def tw1370411235669192535:=True
def tw10881862007380138455:=True
def tw16881234946683707186:=True
def tw1302663195666579919:=True
def tw13175051757551632210:=True
def tw1642415959707758110:=True
def tw16339549859399641475:=True
def tw5595114188416058990:=True
def tw17368928751067942621:=True
def tw9729188127674113296:=True
def tw3850514765486041628:=True
def tw13254494862623969397:=True
def tw4838338239762314344:=True
def tw4239981734056219002:=True
def tw16659914835072931921:=True
def tw5575484830453061568:=True
def tw10816441755345357697:=True
def tw8796753482442916781:=True
def tw7682286304251924972:=True
def tw7953726674985118118:=True
def tw11704429309812700096:=True
def tw9561584695371593656:=True
def tw5913832360502546971:=True
def tw7945525834321688573:=True
def tw2227596454793339950:=True
def tw17074655478959132204:=True
def tw5526849015892397182:=True
def tw11738243156921102448:=True
def tw2604779428315148792:=True
def tw4713349031808249489:=True
def tw18054929039134391267:=True
def tw5972021986234858618:=True
def tw15173576214891454401:=True
def tw5949572220298767861:=True
def tw4597832693334923951:=True
def tw624465757212789605:=True
def tw10977946833635983381:=True
def tw3475472594798610366:=True
def tw16554339944622321670:=True
def tw10440936431486793787:=True
def tw7056243264037899906:=True
def tw13572299156314111207:=True
def tw17035971841935536616:=True
def tw6001008836953809291:=True
def tw13650488927055071082:=True
def tw9049632847529973382:=True
def tw15633475791836325802:=True
def tw15866752476032189267:=True
def tw11020024895198157498:=True
def tw6230004712763906063:=True
def tw14693347983371898257:=True
def tw15137473388433895881:=True
def tw10131698267381921986:=True
def tw7209909435467811416:=True
def tw6744065140400032690:=True
def tw313279831675365969:=True
def tw6330142344697994911:=True
def tw14583594858848028457:=True
def tw3397896167044710299:=True
def tw2869342094073951686:=True
def tw7567560664851885247:=True
def tw11382348418351732441:=True
def tw9264660219536773167:=True
def tw16014908858063172809:=True
def tw18094990637047036471:=True
def tw16300476092473388683:=True
def tw11383539114912826520:=True
def tw17107145482778900679:=True
def tw11239494377274163757:=True
def tw3444231016120242537:=True
def tw9138055386190502359:=True
def tw10616533710211548476:=True
def tw11873162354723288174:=True
def tw11560278407693690041:=True
def tw9549205891749018080:=True
def tw17012433052303733442:=True
def tw4761885419616414101:=True
def tw630614009722641564:=True
def tw11723570041102567124:=True
def tw2675130475512559256:=True
def tw9857145532626905852:=True
def tw8807359223945039585:=True
def tw890260613552397194:=True
def tw12373263035429545137:=True
def tw17611491642977868764:=True
def tw7416060343208358455:=True
def tw17528594416841673151:=True
def tw6924641393823850360:=True
def tw10092115016760149655:=True
def tw3140778800008795751:=True
def tw5505660620353351174:=True
def tw11487416172596172347:=True
def tw14443892257037588416:=True
def tw17016697878250906460:=True
def tw16135383760130759358:=True
def tw5033781959584680509:=True
def tw14200279977038654416:=True
def tw5367404409878927053:=True
def tw3986579727745472352:=True
def tw10412545653788345908:=True
def tw7206824442965131563:=True
def tw13291900884001444335:=True
def tw15236433060368663905:=True
def tw5445647935226124274:=True
def tw17805321235744922914:=True
def tw16766249370865553382:=True
def tw5354847496470071721:=True
def tw8831871464085491917:=True
def tw2559430427256248278:=True
def tw10424757715307850741:=True
def tw7916444890256355790:=True
def tw4537034816142527143:=True
def tw5719822594112621947:=True
def tw4886550389252166631:=True
def tw8308305572221129478:=True
def tw15987017911808570778:=True
def tw12062413660974005798:=True
def tw3481958648010486534:=True
def tw14984111069097441220:=True
def tw16019382902131814903:=True
def tw9550372863222900815:=True
def tw3640047101319088130:=True
def tw221528531168083462:=True
def tw18202794463480020546:=True
def tw7803974044125663670:=True
def tw7221991501463974597:=True
def tw10091781492084214743:=True
def tw1471566040187268860:=True
def tw724142381681856059:=True
end PySem.W.Fast
open PySem PySem.W PyProof.Rows
set_option maxRecDepth 100000 in
set_option maxHeartbeats 0 in
theorem PySem.Challenge.cw_rulestable_k55_rows_not_climbed_holds : PySem.Challenge.rw_rulestable_k55_rows_not_climbed.Holds := by
  w_on; o_law; k_head; (case hw => w_witness2)
  k_fill
  refine K55.walk (l := PySem.Challenge.rw_rulestable_k55_rows_not_climbed) rfl rfl (fun w h Y => PySem.W.kIn_of Y) ?F
  case F =>
    intro w mg fa h KX G hmg
    refine' K55.all_mk KX G hmg ?h0 ?h1 ?h2 ?h3 ?h4 ?h5 ?h6 ?h7 ?h8 ?h9 ?h10 ?h11 ?h12 ?h13 ?h14 ?h15 ?h16 ?h17 ?h18 ?h19 ?h20 ?h21 ?h22 ?h23 ?h24 ?h25 ?h26 ?h27 ?h28 ?h29 ?h30 ?h31 ?h32 ?h33 ?h34 ?h35 ?h36 ?h37 ?h38 ?h39 ?h40 ?h41 ?h42 ?h43 ?h44 ?h45 ?h46 ?h47 ?h48 ?h49 ?h50 ?h51 ?h52 ?h53 ?h54 ?h55 ?h56 ?h57 ?h58 ?h59 ?h60 ?h61 ?h62 ?h63 ?h64 ?h65 ?h66 ?h67 ?h68 ?h69 ?h70 ?h71 ?h72 ?h73 ?h74 ?h75 ?h76 ?h77 ?h78 ?h79 ?h80 ?h81 ?h82 ?h83 ?h84 ?h85 ?h86 ?h87 ?h88 ?h89 ?h90 ?h91 ?h92 ?h93 ?h94 ?h95 ?h96 ?h97 ?h98 ?h99 ?h100 ?h101 ?h102 ?h103 ?h104 ?h105 ?h106 ?h107 ?h108 ?h109 ?h110 ?h111 ?h112 ?h113 ?h114 ?h115 ?h116 ?h117 ?h118 ?h119 ?h120 ?h121 ?h122 ?h123 ?h124 ?h125 ?h126 ?h127 ?h128 ?h129 ?h130 ?h131 ?h132 ?h133 ?h134 ?h135 ?h136 ?h137 ?h138 ?h139 ?h140 ?h141 ?h142 ?h143 ?h144 ?h145
    case h0 | h1 | h2 | h3 | h4 | h5 | h6 | h7 | h8 | h9 | h10 | h11 | h12 | h13 | h14 | h15 | h16 | h17 | h18 | h19 | h20 | h21 | h22 | h23 | h24 | h25 | h26 | h27 | h28 | h29 => exact ⟨_, _, _, _, _, _, _, _, _, _, by k_is, by k_is, by k_is, by k_is⟩
    case h30 | h31 => exact ⟨by k_is, _, _, _, _, _, _, _, _, _, _, by k_is, by k_is, by k_is, by k_is, by kernel_rfl, by k_is, by kernel_rfl⟩
    case h32 | h33 => exact ⟨by k_is, by kernel_rfl⟩
    case h34 | h35 | h36 | h37 | h38 => k_is
    case h39 | h40 | h41 | h42 | h43 | h44 => first | k_is | kernel_rfl
    case h45 | h46 | h47 => exact ⟨_, _, _, _, _, _, _, _, _, _, by k_is, by first | k_is | kernel_rfl, by k_is, by k_is, by k_is⟩
    case h48 | h49 | h50 | h51 | h52 | h53 | h54 | h55 | h56 => first | k_is | kernel_rfl
    case h57 => exact ⟨_, _, _, _, _, _, _, _, _, _, by k_is, by first | k_is | kernel_rfl, by k_is, by k_is, by k_is⟩
    case h58 | h59 | h60 | h61 | h62 | h63 | h64 | h65 | h66 | h67 => first | k_is | kernel_rfl
    case h68 | h69 | h70 | h71 => exact ⟨_, _, _, _, _, _, _, _, _, _, by k_is, by first | k_is | kernel_rfl, by k_is, by k_is, by k_is⟩
    case h72 | h73 | h74 | h75 | h76 | h77 | h78 | h79 | h80 | h81 | h82 | h83 | h84 | h85 => first | k_is | kernel_rfl
    case h86 | h87 | h88 | h89 => intro T hT; simp only [List.mem_cons, List.not_mem_nil, or_false] at hT; rcases hT with rfl | rfl | rfl | rfl | rfl | rfl | rfl <;> first | k_is | kernel_rfl
    case h90 | h91 | h92 | h93 | h94 => kernel_rfl
    case h95 => decide
    case h96 | h97 | h98 | h99 | h100 => exact ⟨_, _, _, _, _, _, _, _, _, _, by k_is, by first | k_is | kernel_rfl, by k_is, by k_is, by k_is⟩
    case h101 | h102 | h103 | h104 => k_is
    case h105 | h106 | h107 | h108 | h109 | h110 | h111 | h112 | h113 | h114 => first | k_is | kernel_rfl
    case h115 => kernel_rfl
    case h116 | h117 | h118 | h119 | h120 | h121 | h122 | h123 | h124 | h125 | h126 | h127 | h128 | h129 | h130 => k_is
    case h131 => rfl
    case h132 | h133 | h134 => first | rfl | kernel_rfl | decide +kernel
    case h135 | h136 | h137 => exact ⟨_, _, _, by k_is⟩
    case h138 | h139 | h140 => k_is
    case h141 => intro x hx; simp only [List.mem_cons, List.not_mem_nil, or_false] at hx; rcases hx with rfl | rfl | rfl | rfl | rfl | rfl | rfl | rfl | rfl | rfl | rfl | rfl | rfl | rfl | rfl | rfl | rfl | rfl | rfl <;> k_is
    case h142 | h143 | h144 | h145 => k_is
