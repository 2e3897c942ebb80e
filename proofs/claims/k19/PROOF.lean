import PyProof.Rows.All
import Wide.All
import OpenK.AllK
import Wide.FinOn
import Lean
import PyProof.EqAt
import PyProof.EqKinds
import PyProof.TupleCall
import PyProof.Rows.SetFrom
import PyProof.Rows.SortStr
import KE.KDictSum
import KE.KEqDict
import KE.KDictLaws
import PyProof.StrOps2
import PySem.Challenge.RW_rulestable_k19_ways_and_live_rules
set_option Elab.async false
set_option linter.all false
set_option maxRecDepth 100000
set_option tactic.hygienic false
section
abbrev VP:=PySem.Value->PySem.Shared->Prop
abbrev LO:=List (PySem.Addr×PySem.Obj)
abbrev MG:=PySem.Str->Option PySem.Value
abbrev z0:=@PySem.Heap.get?_push_of_some
abbrev z4:=@List.mem_cons_of_mem
abbrev z5:=@List.mem_cons_self
abbrev z6:=@PySem.Heap.get?_push_size
abbrev z7:=@Nat.le_refl
abbrev z8:=@PySem.Heap.lt_size
abbrev y0:=@List.mem_cons
abbrev y1:=@List.size_toArray
abbrev y3:=@Nat.lt_of_lt_of_le
abbrev y4:=@List.getElem?_map
abbrev y6:=@List.getElem?_eq_some_iff
abbrev y7:=@Nat.le_trans
abbrev y9:=@List.map_cons
abbrev x0:=@Nat.ne_of_lt
abbrev x5:=@List.mem_map
abbrev x6:=@List.length_map
abbrev w5:=@List.mem_append_right
abbrev w6:=@List.getElem?_eq_getElem
abbrev w9:=@List.mem_singleton
abbrev v1:=@List.mem_append
abbrev v5:=@List.map_append
abbrev v6:=@Bool.false_ne_true
abbrev v7:=@Bool.false_eq_true
abbrev v8:=@List.lookup_cons
abbrev v9:=@List.length_cons
abbrev u0:=@Bool.and_eq_true
abbrev u3:=@List.find?_cons
abbrev u4:=@List.mem_append_left
abbrev u5:=@List.map_map
abbrev u6:=@Bool.and_eq_true_iff
abbrev u7:=@List.length_append
abbrev u9:=@PySem.Heap.get?_update_other
abbrev t0:=@Array.length_toList
abbrev t4:=@List.getElem?_replicate
abbrev t5:=@Nat.lt_of_le_of_lt
abbrev t7:=@Array.getElem?_toList
abbrev t8:=@Nat.lt_irrefl
abbrev t9:=@List.getElem?_append_right
abbrev s9:=@List.mem_filter
abbrev r6:=@List.foldl_cons
abbrev r9:=@PySem.Heap.get?_update_self
abbrev q9:=@Nat.zero_le
abbrev z0A:=@List.getElem_mem
abbrev z0B:=@List.length_replicate
abbrev z0C:=@List.all_cons
abbrev z0D:=@List.not_mem_nil
abbrev z0E:=@List.length_take
abbrev z0F:=@List.mem_of_mem_take
abbrev z0G:=@List.getElem?_append
abbrev z0H:=@List.getElem?_append_left
abbrev z0I:=@Bool.eq_iff_iff
abbrev z0J:=@List.getElem?_set_self
abbrev z1A:=@List.nodup_cons
abbrev z1B:=@List.mem_range
abbrev z1C:=@List.drop_eq_getElem_cons
abbrev z1D:=@Array.getElem?_eq_getElem
abbrev z1E:=@List.length_drop
namespace L2
open PySem PySem.Spec PyProof.Rows
abbrev Key:=Sum Int Str
noncomputable def keyIs:Key->Value->Bool
 | .inl k,v=>Value.isInt k v
 | .inr x,v=>Value.isStrOf x v
noncomputable def keyH (w:World):Key->Int
 | .inl k=>hashInt k
 | .inr x=>hashStr w x
theorem u0y:∀{k:Key}{v:Value},keyIs k v=true->(∃i t,k=Sum.inl i/\v=Value.int i t)\/(∃x t,k=Sum.inr x/\v=Value.str x t)
 | .inl i,v,h=>by
  obtain⟨t,e⟩:=Value.isInt_shape (k:=i) (v:=v) h;exact .inl ⟨i,t,rfl,e⟩
 | .inr x,v,h=>by
  obtain⟨t,e⟩:=Value.isStrOf_shape (x:=x) (v:=v) h;exact .inr ⟨x,t,rfl,e⟩
def v0T (i:Int) (t:Tok):keyIs (.inl i) (.int i t)=true:=by simp[keyIs,Value.isInt]
def v0S (x:Str) (t:Tok):keyIs (.inr x) (.str x t)=true:=by simp[keyIs,Value.isStrOf]
def key_ll (a b:Int):decide ((Sum.inl a:Key)=Sum.inl b)=(a==b):=by
 by_cases e:a=b
 ·subst e;simp
 ·have h:¬ (Sum.inl a:Key)=Sum.inl b:=fun q=>e (Sum.inl.inj q)
  rw[decide_eq_false h];exact(beq_eq_false_iff_ne.mpr e).symm
def key_rr (a b:Str):decide ((Sum.inr a:Key)=Sum.inr b)=decide (a=b):=by
 by_cases e:a=b
 ·subst e;simp
 ·have h:¬ (Sum.inr a:Key)=Sum.inr b:=fun q=>e (Sum.inr.inj q)
  rw[decide_eq_false h,decide_eq_false e]
def key_lr (a:Int) (b:Str):decide ((Sum.inl a:Key)=Sum.inr b)=false:=decide_eq_false (λq=>nomatch q)
def key_rl (a:Str) (b:Int):decide ((Sum.inr a:Key)=Sum.inl b)=false:=decide_eq_false (λq=>nomatch q)
noncomputable def mixKind (prog:Program) (w:World):PySem.KeyKind prog w Key where
 is:=keyIs
 hash:=keyH w
 inj:=λv a b ha hb=>by
  rcases u0y ha with⟨i,t,rfl,rfl⟩|⟨x,t,rfl,rfl⟩
  ·rcases u0y hb with ⟨j,u,rfl,e⟩ | ⟨y,u,rfl,e⟩
   ·injection e with e1 _;rw[e1]
   ·exact nomatch e
  ·rcases u0y hb with ⟨j,u,rfl,e⟩ | ⟨y,u,rfl,e⟩
   ·exact nomatch e
   ·injection e with e1 _;rw[e1]
 byValue:=λk v h=>by
  rcases u0y h with⟨i,t,rfl,rfl⟩|⟨x,t,rfl,rfl⟩<;>rfl
 pyHash:=λhv h=>by
  rcases u0y hv with⟨i,t,rfl,rfl⟩|⟨x,t,rfl,rfl⟩
  ·exact wpAny_pyHash_int h
  ·exact wpAny_pyHash_str h
 eqBool:=λhu hv h=>by
  rcases u0y hu with⟨i,t,rfl,rfl⟩|⟨x,t,rfl,rfl⟩
  ·rcases u0y hv with ⟨j,u,rfl,rfl⟩ | ⟨y,u,rfl,rfl⟩
   ·rw[key_ll] at h;exact wpAny_eqBool_int h
   ·rw[key_lr] at h;exact SeqAt.EqAt.int_str i t y u _ _ _ _ h
  ·rcases u0y hv with ⟨j,u,rfl,rfl⟩ | ⟨y,u,rfl,rfl⟩
   ·rw[key_rl] at h;exact SeqAt.EqAt.str_int x t j u _ _ _ _ h
   ·rw[key_rr] at h;exact wpAny_eqBool_str h
 «strs»:=λk x t v h=>by
  rcases u0y h with⟨i,u,rfl,e⟩|⟨y,u,rfl,e⟩
  ·exact nomatch e
  ·injection e with e1 _
   subst e1;cases v<;>rfl
def u9I (prog:Program) (w:World) (k:Key) (v:Value):(mixKind prog w).is k v=keyIs k v:=rfl
def u2y (prog:Program) (w:World) (i:Int) (t:Tok):(mixKind prog w).is (.inl i) (.int i t)=true:=v0T i t
def u2x (prog:Program) (w:World) (x:Str) (t:Tok):(mixKind prog w).is (.inr x) (.str x t)=true:=v0S x t
inductive V where
 | non|bl (b:Bool)|int (i:Int)|str (x:Str)|byt (b:Array UInt8)|flt (b:UInt64)|ref (a:Addr)|ty (n:String)
 deriving DecidableEq
def RelV:V->Value->Prop
 | .non,u=>u=Value.none
 | .bl b,u=>u=Value.bool b
 | .int i,u=>∃t,u=Value.int i t
 | .str x,u=>∃t,u=Value.str x t
 | .byt b,u=>∃t,u=Value.bytes b t
 | .flt b,u=>∃t,u=Value.float b t
 | .ref a,u=>u=Value.ref a
 | .ty n,u=>u=Value.type n
abbrev Vals:List V->List Value->Prop:=Paired RelV
theorem Vals.length {xs:List V}{us:List Value} (r:Vals xs us):xs.length=us.length:=Paired.length r
theorem Vals.get:∀{xs:List V}{us:List Value}{i:Nat}{x:V},Vals xs us->xs[i]?=some x->∃u,us[i]?=some u/\RelV x u
 | _,_,_,_,.nil,e=>by simp at e
 | _,_,0,_,.cons r _,e=>by simp at e;subst e;exact⟨_,rfl,r⟩
 | _,_,i+1,x,.cons _ t,e=>by
  obtain⟨u,h1,h2⟩:=Vals.get (i:=i) (x:=x) t (by simpa using e)
  exact⟨u,by simpa using h1,h2⟩
theorem Vals.set {x:V}{u:Value} (r:RelV x u):∀{xs:List V}{us:List Value} (i:Nat),Vals xs us->Vals (xs.set i x) (us.set i u)
 | _,_,_,.nil=>.nil
 | _,_,0,.cons _ t=>.cons r t
 | _,_,i+1,.cons q t=>.cons q (Vals.set r i t)
theorem Vals.append:∀{xs ys:List V}{us ws:List Value},Vals xs us->Vals ys ws->Vals (xs++ys) (us++ws)
 | _,_,_,_,.nil,s=>s
 | _,_,_,_,.cons r t,s=>.cons r (Vals.append t s)
theorem Vals.take:∀{xs:List V}{us:List Value} (n:Nat),Vals xs us->Vals (xs.take n) (us.take n)
 | _,_,0,_=>.nil
 | _,_,_+1,.nil=>.nil
 | _,_,n+1,.cons r t=>.cons r (Vals.take n t)
theorem Vals.drop:∀{xs:List V}{us:List Value} (n:Nat),Vals xs us->Vals (xs.drop n) (us.drop n)
 | _,_,0,r=>r
 | _,_,_+1,.nil=>.nil
 | _,_,n+1,.cons _ t=>Vals.drop n t
def RelO:Option V->Option Value->Prop
 | some v,some u=>RelV v u
 | none,none=>True
 | _,_=>False
noncomputable def KV {κ:Type}:List (κ×V)->List (κ×Value)->Prop:=Paired λ(p:κ×V) (q:κ×Value)=>p.1=q.1/\RelV p.2 q.2
noncomputable def kV:Key->V
 | .inl i=>.int i
 | .inr x=>.str x
inductive HO where
 /-- a list -/
 | lst (xs:List V)
 /-- a tuple (never changes) -/
 | tup (xs:List V)
 /-- a dict whose keys are ints and texts;one whose keys are tuples of ints and texts (the empty one is both) -/
 | dK (kvs:List (Key×V))|dT (kvs:List (List Key×V))
 /-- a set of ints: its members,its size -/
 | set (S:Int->Bool) (n:Nat)
 /-- an instance of the class at C,its dict at dx,its attributes -/
 | ins (C dx:Addr) (fs:List (Str×V))
 /-- the dict of the instance at x -/
 | own (x:Addr)
 /-- the dict of an exception -/
 | xd (fs:List (Str×V))
 /-- a bound method,f of x -/
 | met (f x:Addr)
 /-- a range object lo,lo+1,.. below hi -/
 | rng (lo hi:Int)
 /-- a thing that is known to the object (the script;a dict while a loop walks it): read,never written while it is so -/
 | frz (o:Obj) (u:HO)
 /-- a code object's table -/
 | tbl (ps:Array Value)
 /-- any other thing,by what is true of its one object (a def of one's own: SetO a S n:=HO.ext λh=>..) -/
 | ext (φ:Heap->Prop)
abbrev Hp:=Addr->Option HO
noncomputable def upd (H:Hp) (a:Addr) (o:HO):Hp:=λb=>if b=a then some o else H b
def u0g {H:Hp}{a:Addr}{o:HO}:upd H a o a=some o:=by unfold upd;rw[if_pos rfl]
def u0j {H:Hp}{a b:Addr}{o:HO} (h:b≠a):upd H a o b=H b:=by unfold upd;rw[if_neg h]
def upd_upd {H:Hp}{a:Addr}{o u:HO}:upd (upd H a o) a u=upd H a u:=by
 funext b;unfold upd;split<;>rfl
def ne_of {H:Hp}{a b:Addr}{o u:HO} (h:H a=some o) (h':H b=some u) (d:o≠u):a≠b:=by
 intro e;subst e;rw[h] at h';exact d (Option.some.inj h')
def u0o {H:Hp}{a b:Addr}{o:HO} (h:H a=some o) (h':H b=none):a≠b:=by
 intro e;subst e;rw[h] at h';cases h'
section
variable (P:Program) (w:World)
def ObjOk (H:Hp) (h:Heap) (a:Addr):HO->Prop
 | .lst xs=>xs.length<=sizeLine/\∃(its:List Value) (n:Nat),Vals xs its/\h.get? a=some { cls:=.type "list",data:=.seq its.toArray n }
 | .tup xs=>xs.length<=sizeLine/\∃its:List Value,Vals xs its/\IsTup h a its.toArray
 | .dK kvs=>kvs.length<=sizeLine/\(a==sysModules)=false/\∃vs,KV kvs vs/\h.DictOf (mixKind P w) a vs
 | .dT kvs=>kvs.length<=sizeLine/\(a==sysModules)=false/\∃xs:List (List Key×Addr×Value),
   Paired (λ(p:List Key×V) (q:List Key×Addr×Value)=>p.1=q.1/\H q.2.1=some (.tup (p.1.map kV))/\RelV p.2 q.2.2) kvs xs /\
   ∃o es ep,h.get? a=some o/\o.ExactDict/\o.data=.dict es ep/\es.toList=xs.map (entryOfKey (tupleKind (mixKind P w)))/\(xs.map (·.1)).Nodup
 | .set S n=>h.SetOf (intKind P w) a S n
 | .ins C dx fs=>H dx=some (.own a)/\fs.length<=1000/\dx≠a/\h.get? a=some (W.instObj C dx) /\
   ∃mA,h.Ns1 dx mA/\(∀f,RelO (fs.lookup f) (mA f))/\PySem.Within mA (fs.map (·.1))
 | .own _=>∃o,h.get? a=some o
 | .xd fs=>∃mA,h.Ns1 a mA/\∀f,RelO (fs.lookup f) (mA f)
 | .rng lo hi=>∃t u v,h.get? a=some { cls:=.type "range",data:=.fields #[.int lo t,.int hi u,.int 1 v] }
 | .frz o u=>h.get? a=some o/\ObjOk H h a u
 | .tbl ps=>h.get? a=some { cls:=.none,data:=.fields ps }
 | .met f x=>h.get? a=some (W.methodObj (.ref f) (.ref x))
 | .ext φ=>φ h/\(∃o,h.get? a=some o)/\∀h1 h2:Heap,φ h1->(∀o,h1.get? a=some o->h2.get? a=some o)->φ h2
def HOk (H:Hp) (h:Heap):Prop:=∀a o,H a=some o->ObjOk P w H h a o
end
section
variable {P:Program}{w:World}{H H':Hp}{h h':Heap}{a:Addr}{o:HO}
theorem ObjOk.lt (x:ObjOk P w H h a o):a<h.objs.size:=by
 cases o with
 | lst xs=>obtain⟨_,_,_,_,e⟩:=x;exact z8 e
 | tup xs=>obtain⟨_,_,_,p⟩:=x;exact p.lt
 | dK kvs=>obtain⟨_,_,_,_,o,_,_,e,_⟩:=x;exact z8 e
 | dT kvs=>obtain⟨_,_,_,_,o,_,_,e,_⟩:=x;exact z8 e
 | set S n=>obtain⟨o,_,_,_,e,_⟩:=x;exact z8 e
 | ins C dx fs=>obtain⟨_,_,_,e,_⟩:=x;exact z8 e
 | own y=>obtain⟨_,e⟩:=x;exact z8 e
 | xd fs=>obtain⟨_,⟨_,_,_,e,_⟩,_⟩:=x;exact z8 e
 | rng lo hi=>obtain⟨_,_,_,e⟩:=x;exact z8 e
 | frz ob u=>obtain⟨e,_⟩:=x;exact z8 e
 | tbl ps=>exact z8 (show h.get? a=some _ from x)
 | met f y=>exact z8 (show h.get? a=some _ from x)
 | ext φ=>obtain⟨_,⟨_,e⟩,_⟩:=x;exact z8 e
theorem Paired.mapP {α β:Type}{F G:α->β->Prop}:∀{l₁:List α}{l₂:List β},Paired F l₁ l₂->(∀a b,F a b->G a b)->Paired G l₁ l₂
 | _,_,.nil,_=>.nil
 | _,_,.cons r t,f=>.cons (f _ _ r) (Paired.mapP t f)
def ObjOk.stay (x:ObjOk P w H h a o) (k:∀b u,(b=a\/H b=some (.own a))->h.get? b=some u->h'.get? b=some u)
  (ho:∀b,H b=some (.own a)->H' b=some (.own a)) (ht:∀b xs,H b=some (.tup xs)->H' b=some (.tup xs)):ObjOk P w H' h' a o:=by
 induction o with
 | lst xs=>obtain⟨z,its,n,r,e⟩:=x;exact⟨z,its,n,r,k _ _ (.inl rfl) e⟩
 | tup xs=>obtain⟨z,its,r,ob,e,c⟩:=x;exact⟨z,its,r,ob,k _ _ (.inl rfl) e,c⟩
 | dK kvs=>obtain⟨z,y,vs,r,ob,es,ep,e,c⟩:=x;exact⟨z,y,vs,r,ob,es,ep,k _ _ (.inl rfl) e,c⟩
 | dT kvs =>
  obtain⟨z,y,xs,r,ob,es,ep,e,c⟩:=x;exact⟨z,y,xs,Paired.mapP r λp q z=>⟨z.1,ht _ _ z.2.1,z.2.2⟩,ob,es,ep,k _ _ (.inl rfl) e,c⟩
 | set S n=>obtain⟨ob,es,ep,t,e,c⟩:=x;exact⟨ob,es,ep,t,k _ _ (.inl rfl) e,c⟩
 | ins C dx fs =>
  obtain⟨d,z,ne,e,mA,⟨od,es,ep,e2,c⟩,r⟩:=x;exact⟨ho _ d,z,ne,k _ _ (.inl rfl) e,mA,⟨od,es,ep,k _ _ (.inr d) e2,c⟩,r⟩
 | own y=>obtain⟨ob,e⟩:=x;exact⟨ob,k _ _ (.inl rfl) e⟩
 | xd fs=>obtain⟨mA,⟨od,es,ep,e,c⟩,r⟩:=x;exact⟨mA,⟨od,es,ep,k _ _ (.inl rfl) e,c⟩,r⟩
 | rng lo hi=>obtain⟨t,u,v,e⟩:=x;exact⟨t,u,v,k _ _ (.inl rfl) e⟩
 | frz ob u ih=>obtain⟨e,q⟩:=x;exact⟨k _ _ (.inl rfl) e,ih q⟩
 | tbl ps =>
  have e:h.get? a=some { cls:=.none,data:=.fields ps }:=x;show h'.get? a=some { cls:=.none,data:=.fields ps };exact k a _ (.inl rfl) e
 | met f y =>
  have e:h.get? a=some (W.methodObj (.ref f) (.ref y)):=x;show h'.get? a=some (W.methodObj (.ref f) (.ref y));exact k a _ (.inl rfl) e
 | ext φ=>obtain⟨p,⟨o,e⟩,st⟩:=x;exact⟨st _ _ p λo q=>k _ _ (.inl rfl) q,⟨o,k _ _ (.inl rfl) e⟩,st⟩
theorem HOk.lt (x:HOk P w H h) (e:H a=some o):a<h.objs.size:=(x a o e).lt
def HOk.fresh (x:HOk P w H h) (e:h.objs.size<=a):H a=none:=by
 cases q:H a with
 | none=>rfl
 | some u=>exact absurd (y3 (x.lt q) e) (t8 _)
def HOk.kept (x:HOk P w H h) (k:∀b u,h.get? b=some u->h'.get? b=some u):HOk P w H h':=λa o e =>
 (x a o e).stay (λb u _ q=>k b u q) (λ_ q=>q) λ_ _ q=>q
def HOk.laid (x:HOk P w H h) (k:∀b u,h.get? b=some u->h'.get? b=some u) (hp:h.objs.size<=a) (new:ObjOk P w (upd H a o) h' a o):HOk P w (upd H a o) h':=λb u e=>by
 have hn:=x.fresh hp;by_cases hb:b=a
 ·subst hb;rw[u0g] at e;cases e;exact new
 ·rw [u0j hb] at e
  exact(x b u e).stay (λc v _ q=>k c v q) (λc q=>by rw[u0j (u0o q hn)];exact q) λc xs q=>by rw[u0j (u0o q hn)];exact q
end
def Rd (H:Hp) (a:Addr) (u:HO):Prop:=H a=some u\/∃o,H a=some (.frz o u)
def Rd.ok {P:Program}{w:World}{H:Hp}{h:Heap}{a:Addr}{u:HO} (r:Rd H a u) (x:HOk P w H h):ObjOk P w H h a u:=by
 rcases r with r|⟨o,r⟩
 ·exact x a u r
 ·obtain ⟨_,q⟩:=x a _ r
  exact q
def Mut:Option HO->Prop
 | some (.lst _)=>True
 | some (.dK _)=>True
 | some (.dT _)=>True
 | some (.set _ _)=>True
 | some (.ins _ _ _)=>True
 | some (.ext _)=>True
 | _=>False
section
variable {P:Program}{w:World}{H:Hp}{h h':Heap}{x e:Addr}{o':HO}
def HOk.write (ok:HOk P w H h) (mu:Mut (H x)) (he:e=x\/H e=some (.own x)) (k:∀b u,b≠e->h.get? b=some u->h'.get? b=some u) (heo:∃u,h'.get? e=some u)
  (new:ObjOk P w (upd H x o') h' x o'):HOk P w (upd H x o') h':=λb u q=>by
 have nown:∀c y,H c=some (.own y)->c≠x:=λc y r z=>by subst z;rw[r] at mu;exact mu
 have ntup:∀c xs,H c=some (.tup xs)->c≠x:=λc xs r z=>by subst z;rw[r] at mu;exact mu
 by_cases hb:b=x
 ·subst hb;rw[u0g] at q;cases q;exact new
 ·rw [u0j hb] at q
  by_cases hbe:b=e
  ·have q':H b=some (.own x):=by
    rcases he with z|z
    ·exact absurd (hbe.trans z) hb
    ·rw[hbe];exact z
   rw[q] at q';cases q';obtain⟨v,hv⟩:=heo;exact⟨v,by rw[hbe];exact hv⟩
  ·refine (ok b u q).stay (fun c v hc r=>k c v ?_ r) (fun c r=>by rw [u0j (nown c b r)];exact r) fun c xs r=>by rw [u0j (ntup c xs r)];exact r
   rcases hc with rfl|hc
   ·exact hbe
   ·rintro rfl
    rcases he with z|z
    ·exact nown c b hc z
    ·rw[hc] at z;cases z;exact hb rfl
end
structure Un (fs ex:List Addr) (H H':Hp) (h h':Heap):Prop where
 keep:∀b o,h.get? b=some o->H b=none->b∉fs->b∉ex->h'.get? b=some o
 slot:∀b o,h.get? b=some o->H b=none->b∈fs->b∉ex->∃sl,h'.get? b=some { o with slots:=sl }
 free:∀b o,h.get? b=some o->H b=none->b∉ex->H' b=none
 there:∀b o,h.get? b=some o->b∉ex->∃o',h'.get? b=some o'
 tups:∀b xs,H b=some (.tup xs)->H' b=some (.tup xs)
 frzs:∀b o u,H b=some (.frz o u)->H' b=some (.frz o u)
 tbls:∀b ps,H b=some (.tbl ps)->∃more,H' b=some (.tbl (ps++more))
section
variable {fs fs' ex ex':List Addr}{H H1 H2:Hp}{h h1 h2 h':Heap}{a x e:Addr}{o:HO}
def Un.any (u:Un fs ex H H1 h h1) {b:Addr}{ob:Obj} (q:h.get? b=some ob) (n:H b=none) (hx:b∉ex):∃sl,h1.get? b=some { ob with slots:=sl }:=by
 by_cases hb:b∈fs
 ·exact u.slot b ob q n hb hx
 ·exact⟨ob.slots,u.keep b ob q n hb hx⟩
def Un.kept (k:∀b u,h.get? b=some u->h'.get? b=some u):Un fs ex H H h h' :=
 ⟨λb ob q _ _ _=>k b ob q,λb ob q _ _ _=>⟨ob.slots,k b ob q⟩,λ_ _ _ n _=>n,λb ob q _=>⟨ob,k b ob q⟩,λ_ _ q=>q,λ_ _ _ q=>q,λ_ ps q=>⟨#[],by rw[q];simp⟩⟩
def Un.refl:Un fs ex H H h h:=Un.kept λ_ _ q=>q
def Un.laid (k:∀b u,h.get? b=some u->h'.get? b=some u) (hp:h.objs.size<=a) (hn:H a=none):Un fs ex H (upd H a o) h h' where
 keep:=λb u q _ _ _=>k b u q
 slot:=λb u q _ _ _=>⟨u.slots,k b u q⟩
 free:=λb u q n _=>by rw[u0j (x0 (y3 (z8 q) hp))];exact n
 there:=λb u q _=>⟨u,k b u q⟩
 tups:=λb xs q=>by rw[u0j (u0o q hn)];exact q
 frzs:=λb u xs q=>by rw[u0j (u0o q hn)];exact q
 tbls:=λb ps q=>⟨#[],by rw[u0j (u0o q hn),q];simp⟩
def Un.write (mu:Mut (H x)) (he:e=x\/H e=some (.own x)) (k:∀b u,b≠e->h.get? b=some u->h'.get? b=some u) (heo:∃u,h'.get? e=some u):Un fs ex H (upd H x o) h h':=by
 have hx:∀b,H b=none->b≠x:=λb n z=>by subst z;rw[n] at mu;exact mu
 have hb:∀b,H b=none->b≠e:=λb n z=>by
  subst z;rcases he with r|r
  ·exact hx b n r
  ·rw[n] at r;cases r
 have hm:∀b u,H b=some u->¬ Mut (some u)->b≠x:=λb u q nm z=>by subst z;rw[q] at mu;exact nm mu
 refine⟨λb u q n _ _=>k b u (hb b n) q,λb u q n _ _=>⟨u.slots,k b u (hb b n) q⟩,λb u q n _=>by rw[u0j (hx b n)];exact n,λb u q _=>?_,
  λb xs q=>by rw[u0j (hm b _ q λz=>z)];exact q,λb u xs q=>by rw[u0j (hm b _ q λz=>z)];exact q,λb ps q=>⟨#[],by rw[u0j (hm b _ q λz=>z),q];simp⟩⟩
 by_cases hbe:b=e
 ·subst hbe;exact heo
 ·exact⟨u,k b u hbe q⟩
end
noncomputable def trk (h:Heap) (H:Hp):List Addr:=(List.range h.objs.size).filter λa=>(H a).isSome
noncomputable def hidT (h:Heap) (H:Hp):Heap:=W.hideAll h (trk h H)
def v1e (h:Heap) (H:Hp):(hidT h H).objs.size=h.objs.size:=W.hideAll_size _ _
def v3i {h:Heap}{H:Hp}{b:Addr}{o:Obj} (e:h.get? b=some o) (n:H b=none):(hidT h H).get? b=some o :=
 W.hideAll_get _ e λhm=>by
  have q:(H b).isSome=true:=(s9.mp hm).2;rw[n] at q;simp at q
def of_hidT {h:Heap}{H:Hp}{b:Addr}{o:Obj} (e:(hidT h H).get? b=some o):h.get? b=some o/\H b=none:=by
 have e':h.get? b=some o:=W.of_hideAll (trk h H) e;refine⟨e',?_⟩;cases q:H b with
 | none=>rfl
 | some x =>
  have hm:b∈trk h H:=s9.mpr ⟨z1B.mpr (z8 e'),by simp[q]⟩
  have z:(hidT h H).get? b=none:=W.hideAll_none (trk h H) hm;rw[z] at e;cases e
structure Mod (K:W.Frag) (mg:MG) (base:Heap):Prop where
 kin:K.In base
 glob:base.Ns mainGlobals mg
 blt:∃mb,base.Ns builtinsNs mb/\∀x:Str,x≠"__name__"->mb x=bootBuiltins x
 nolimit:base.NoLimit
structure Cx where
 prog:Program
 w:World
 K:W.Frag
 mg:Str->Option Value
 base:Heap
 A:Around
 N:List Str
 s₀:Shared
 H₀:Hp
 env:Env
 outer:List Env
 stack:List Env
 ex:List Addr
 fn:Str->Bool
 calm:Bool
 pn:LO
 xe:Value->Shared->Prop
noncomputable def frs (l:List Env):List Addr:=l.filterMap (·.frame)
noncomputable abbrev Cx.fs (X:Cx):List Addr:=frs X.outer
def Vis (sc:Scope) (x:Str):Prop:=sc.names.lookup x=some .local\/sc.names.lookup x=some .cell\/sc.names.lookup x=some .free
def Loc (sc:Scope) (x:Str):Prop:=sc.names.lookup x=some .local\/sc.names.lookup x=some .cell
def Look (env:Env) (h:Heap) (m:MG) (x:Str) (u:Value):Prop :=
 (env.kindOf x=some .local/\m x=some u)\/((env.kindOf x=some .cell\/env.kindOf x=some .free)/\∃c,env.cells.lookup x=some c/\h.IsCell c (some u))
structure Cx.Ok (X:Cx):Prop where
 mod:Mod X.K X.mg X.base
 kind:X.env.scope.kind=.function
 glob:X.env.globals=mainGlobals
 blt:X.env.builtins=builtinsNs
 above:X.s₀.heap.objs.size<=X.env.locals
 inj:∀x y c,X.env.cells.lookup x=some c->X.env.cells.lookup y=some c->x=y
 has:∀x,(X.env.kindOf x=some .cell\/X.env.kindOf x=some .free)->∃c,X.env.cells.lookup x=some c
 cab:∀x c,X.fn x=true->X.env.cells.lookup x=some c->X.s₀.heap.objs.size<=c
 hd:X.calm=true->X.A.handled=none
 frames:X.A.frames=some X.stack
 stk:X.stack=X.outer\/(X.stack=X.env::X.outer/\X.env.frame=some X.env.locals)
 exf:∀b∈X.ex,b≠X.env.locals/\∀x c,X.env.cells.lookup x=some c->c≠b
 bs:∀b o,X.base.get? b=some o->X.s₀.heap.get? b=some o/\X.H₀ b=none
 bsz:X.base.objs.size<=X.s₀.heap.objs.size
 noex:∀b o,X.base.get? b=some o->b∉X.ex
 exfs:∀b∈X.ex,b∉X.fs
 funs:X.s₀.heap.FunFrames X.base X.outer
 frf:∀b∈X.fs,X.H₀ b=none
structure Inv (X:Cx) (pins:LO) (σ:List (Option V)) (H:Hp) (s:Shared):Prop where
 ok:X.Ok
 os:s.os=X.s₀.os
 bare:AllBare s.gens
 base:Un X.fs X.ex X.H₀ H X.s₀.heap s.heap
 loc:∃m,s.heap.Ns X.env.locals m/\∀(i:Nat) (x:Str) (v:V),X.N[i]?=some x->σ[i]?=some (some v)->Vis X.env.scope x->∃u,RelV v u/\Look X.env s.heap m x u
 cell:∀x c,X.env.cells.lookup x=some c->∃v,s.heap.IsCell c v
 free:H X.env.locals=none
 freeC:∀x c,X.env.cells.lookup x=some c->H c=none
 pin:∀p∈X.pn++pins,s.heap.get? p.1=some p.2/\H p.1=none/\p.1≠X.env.locals/\p.1∉X.fs/\∀v,p.2.data≠.cell v
 hok:HOk X.prog X.w H s.heap
 len:σ.length=X.N.length
section
variable {X:Cx}{pins:LO}{σ:List (Option V)}{H H':Hp}{s:Shared}{h':Heap}
def Cx.Ok.nofr (ok:X.Ok) {b:Addr}{o:Obj} (e:X.base.get? b=some o):b∉X.fs:=λhb=>by
 have:=(ok.funs.mem hb).1
 rw[e] at this;cases this
theorem Inv.bs (I:Inv X pins σ H s):∀b o,X.base.get? b=some o->s.heap.get? b=some o/\H b=none:=λb o e =>
 ⟨I.base.keep b o (I.ok.bs b o e).1 (I.ok.bs b o e).2 (I.ok.nofr e) (I.ok.noex b o e),I.base.free b o (I.ok.bs b o e).1 (I.ok.bs b o e).2 (I.ok.noex b o e)⟩
def Inv.bk (I:Inv X pins σ H s):∀b o,X.base.get? b=some o->s.heap.get? b=some o:=λb o e=>(I.bs b o e).1
theorem Inv.mod (I:Inv X pins σ H s):Mod X.K X.mg X.base:=I.ok.mod
def Inv.kIn (I:Inv X pins σ H s):X.K.In s.heap:=I.ok.mod.kin.keeps I.bk
def Inv.fr (I:Inv X pins σ H s):∃m,Fr X.base X.env.locals s.heap m :=
 let ⟨m,hn,_⟩:=I.loc
 ⟨m,hn,I.bk,y7 I.ok.bsz I.ok.above⟩
theorem Inv.lt (I:Inv X pins σ H s):X.env.locals<s.heap.objs.size:=by obtain⟨_,hn,_⟩:=I.loc;exact hn.lt
def Inv.sz (I:Inv X pins σ H s):X.s₀.heap.objs.size<=s.heap.objs.size:=y7 I.ok.above (Nat.le_of_lt I.lt)
def Inv.nofs (I:Inv X pins σ H s) {a:Addr} (h:s.heap.objs.size<=a):a∉X.fs:=λhb=>by
 obtain⟨_,o,ho,_⟩:=I.ok.funs.mem hb;exact absurd (y3 (z8 ho) (y7 I.sz h)) (t8 _)
def Inv.cne (I:Inv X pins σ H s):∀x c,X.env.cells.lookup x=some c->c≠X.env.locals:=λx c e z=>by
 obtain⟨v,o,ho,hd⟩:=I.cell x c e;obtain⟨m,⟨o',es,ep,ho',hd',_⟩,_⟩:=I.loc;rw[z,ho'] at ho;cases ho;rw[hd'] at hd;cases hd
theorem Inv.funs (I:Inv X pins σ H s):s.heap.FunFrames X.base X.outer:=by
 have all:∀(l:List Env),(∀b∈frs l,b∈X.fs)->X.s₀.heap.FunFrames X.base l->s.heap.FunFrames X.base l:=by
  intro l;induction l with
  | nil=>intro _ _;trivial
  | cons env r ih =>
   intro hs hl;obtain⟨hk,⟨L,o,hf,hn,ho,hd⟩,hr⟩:=hl;have hL:L∈X.fs:=hs L (by unfold frs;rw[List.filterMap_cons,hf];exact z5)
   obtain⟨sl,e⟩:=I.base.slot L o ho (I.ok.frf L hL) hL λz=>I.ok.exfs L z hL
   exact⟨hk,⟨L,_,hf,hn,e,hd⟩,ih (λb hb=>hs b (by unfold frs;rw[List.filterMap_cons,hf];exact z4 _ hb)) hr⟩
 exact all X.outer (λ_ hb=>hb) I.ok.funs
theorem Inv.stack (I:Inv X pins σ H s):s.heap.FunFrames X.base X.stack:=by
 rcases I.ok.stk with e|⟨e,hf⟩
 ·rw[e];exact I.funs
 ·rw [e]
  obtain⟨m,hn,_⟩:=I.loc;refine .cons (by rw[I.ok.kind];decide) hf hn ?_ I.funs
  exact Heap.get?_none_of_le (y7 I.ok.bsz I.ok.above)
def Inv.stkSub (I:Inv X pins σ H s):∀b∈frs X.stack,b∈X.env.locals::X.fs:=λb hb=>by
 rcases I.ok.stk with e|⟨e,hf⟩
 ·rw[e] at hb;exact z4 _ hb
 ·rw [e] at hb
  unfold frs at hb;rw[List.filterMap_cons,hf] at hb;exact hb
def Inv.stkFree (I:Inv X pins σ H s):∀b∈frs X.stack,H b=none:=λb hb=>by
 rcases y0.mp (I.stkSub b hb) with e|hb
 ·rw[e];exact I.free
 ·obtain ⟨_,o,ho,_⟩:=I.ok.funs.mem hb
  exact I.base.free b o ho (I.ok.frf b hb) λz=>I.ok.exfs b z hb
def Inv.step {g':Array GenState}{t':Nat}{d':Drawn}{ch:List Addr} (I:Inv X pins σ H s)
  (hch:∀b∈ch,(b∈X.ex\/X.s₀.heap.objs.size<=b)/\b≠X.env.locals/\(∀x c,X.env.cells.lookup x=some c->c≠b)/\∀p∈X.pn++pins,p.1≠b)
  (keep:∀b o,b≠X.env.locals->b∉X.fs->b∉ch->s.heap.get? b=some o->H b=none->h'.get? b=some o)
  (slot:∀b o,b≠X.env.locals->b∈X.fs->b∉ch->s.heap.get? b=some o->H b=none->∃sl,h'.get? b=some { o with slots:=sl }) (free:∀b o,b∉ch->s.heap.get? b=some o->H b=none->H' b=none)
  (there:∀b o,b∉ch->s.heap.get? b=some o->∃o',h'.get? b=some o')
  (tups:∀b xs,H b=some (.tup xs)->H' b=some (.tup xs)) (frzs:∀b o u,H b=some (.frz o u)->H' b=some (.frz o u)) (tbls:∀b ps,H b=some (.tbl ps)->∃more,H' b=some (.tbl (ps++more)))
  (ns:∀m,s.heap.Ns X.env.locals m->h'.Ns X.env.locals m) (hok:HOk X.prog X.w H' h') (hg:AllBare g') :
  Inv X pins σ H' { s with heap:=h',gens:=g',drawn:=d',toks:=t' }:=by
 have neL:∀b o,X.s₀.heap.get? b=some o->b≠X.env.locals:=λb o e=>x0 (y3 (z8 e) I.ok.above)
 have neC:∀b o,X.s₀.heap.get? b=some o->b∉X.ex->b∉ch:=λb o e hx hb=>by
  rcases(hch b hb).1 with z|z
  ·exact hx z
  ·exact absurd (y3 (z8 e) z) (t8 _)
 have cellK:∀x c,X.env.cells.lookup x=some c->∀v,s.heap.IsCell c v->h'.IsCell c v:=λx c e v ⟨o,ho,hd⟩=>by
  have nch:c∉ch:=λz=>(hch c z).2.2.1 x c e rfl
  by_cases hc:c∈X.fs
  ·obtain ⟨sl,q⟩:=slot c o (I.cne x c e) hc nch ho (I.freeC x c e)
   exact⟨_,q,hd⟩
  ·exact⟨o,keep c o (I.cne x c e) hc nch ho (I.freeC x c e),hd⟩
 refine⟨I.ok,I.os,hg,⟨λb o e n hb hx=>?_,λb o e n hb hx=>?_,λb o e n hx=>?_,λb o e hx=>?_,λb xs e=>tups b xs (I.base.tups b xs e),λb o xs e=>frzs b o xs (I.base.frzs b o xs e),λb ps e=>?_⟩,?_,λx c e=>?_,?_,λx c e=>?_,λp hp=>?_,hok,I.len⟩
 ·exact keep b o (neL b o e) hb (neC b o e hx) (I.base.keep b o e n hb hx) (I.base.free b o e n hx)
 ·obtain ⟨sl,e1⟩:=I.base.slot b o e n hb hx
  obtain⟨sl',e2⟩:=slot b _ (neL b o e) hb (neC b o e hx) e1 (I.base.free b o e n hx);exact⟨sl',e2⟩
 ·obtain ⟨o',e1⟩:=I.base.there b o e hx
  exact free b o' (neC b o e hx) e1 (I.base.free b o e n hx)
 ·obtain ⟨o',e1⟩:=I.base.there b o e hx
  exact there b o' (neC b o e hx) e1
 ·obtain ⟨m1,e1⟩:=I.base.tbls b ps e
  obtain⟨m2,e2⟩:=tbls b _ e1;exact⟨m1++m2,by rw[e2,Array.append_assoc]⟩
 ·obtain ⟨m,hn,hl⟩:=I.loc
  refine⟨m,ns m hn,λi x v e1 e2 e3=>?_⟩
  obtain⟨u,r,l⟩:=hl i x v e1 e2 e3;refine⟨u,r,?_⟩;rcases l with l|⟨k,c,e,z⟩
  ·exact .inl l
  ·exact .inr ⟨k,c,e,cellK x c e _ z⟩
 ·obtain ⟨v,z⟩:=I.cell x c e
  exact⟨v,cellK x c e v z⟩
 ·obtain ⟨m,⟨o,_,_,ho,_⟩,_⟩:=I.loc
  exact free _ o (λz=>(hch _ z).2.1 rfl) ho I.free
 ·obtain ⟨v,o,ho,hd⟩:=I.cell x c e
  exact free c o (λz=>(hch c z).2.2.1 x c e rfl) ho (I.freeC x c e)
 ·obtain ⟨e,n,ne,nf,d⟩:=I.pin p hp
  have nch:p.1∉ch:=λz=>(hch p.1 z).2.2.2 p hp rfl
  exact⟨keep p.1 p.2 ne nf nch e n,free p.1 p.2 nch e n,ne,nf,d⟩
def Inv.un {t':Nat} (I:Inv X pins σ H s) (u:Un X.fs [] H H' s.heap h') (hok:HOk X.prog X.w H' h'):Inv X pins σ H' { s with heap:=h',toks:=t' }:=by
 obtain⟨m,⟨o,es,ep,ho,r⟩,_⟩:=id I.loc;obtain⟨sl,hL⟩:=u.any ho I.free (by simp)
 exact I.step (g':=s.gens) (d':=s.drawn) (ch:=[]) (λ_ z=>nomatch z) (λb o _ hb _ e n=>u.keep b o e n hb (by simp)) (λb o _ hb _ e n=>u.slot b o e n hb (by simp)) (λb o _ e n=>u.free b o e n (by simp)) (λb o _ e=>u.there b o e (by simp)) u.tups u.frzs u.tbls (λm' hm=>by
  obtain⟨o',es',ep',ho',r'⟩:=hm;rw[ho] at ho';cases ho';exact⟨_,es',ep',hL,r'⟩) hok I.bare
def Inv.call {g':Array GenState}{t':Nat}{d':Drawn}{ch:List Addr} (I:Inv X pins σ H s) (u:Un (frs X.stack) ch H H' s.heap h') (hok:HOk X.prog X.w H' h') (hg:AllBare g')
  (hch:∀b∈ch,(b∈X.ex\/X.s₀.heap.objs.size<=b)/\b≠X.env.locals/\(∀x c,X.env.cells.lookup x=some c->c≠b)/\∀p∈X.pn++pins,p.1≠b) :
  Inv X pins σ H' { s with heap:=h',gens:=g',drawn:=d',toks:=t' }:=by
 obtain⟨m,⟨o,es,ep,ho,r⟩,_⟩:=id I.loc;obtain⟨sl,hL⟩:=u.any ho I.free λz=>(hch _ z).2.1 rfl
 exact I.step (ch:=ch) hch (λb o hL hb hc e n=>u.keep b o e n (λz=>(y0.mp (I.stkSub b z)).elim hL hb) hc) (λb o _ _ hc e n=>u.any e n hc) (λb o hc e n=>u.free b o e n hc) (λb o hc e=>u.there b o e hc) u.tups u.frzs u.tbls (λm' hm=>by
  obtain⟨o',es',ep',ho',r'⟩:=hm;rw[ho] at ho';cases ho';exact⟨_,es',ep',hL,r'⟩) hok hg
def Inv.turned {t':Nat}{it:Addr} (I:Inv X pins σ H s) (k:∀b o,b≠it->s.heap.get? b=some o->h'.get? b=some o) (hn:H it=none) (hL:it≠X.env.locals)
  (h1:it∈X.ex\/X.s₀.heap.objs.size<=it) (h2:∀x c,X.env.cells.lookup x=some c->c≠it) (h3:∀p∈X.pn++pins,p.1≠it):Inv X pins σ H { s with heap:=h',toks:=t' }:=by
 have nit:∀b u,H b=some u->b≠it:=λb u e z=>by rw[z,hn] at e;cases e
 refine I.step (g':=s.gens) (d':=s.drawn) (ch:=[it]) (λb hb=>?_) (λb o _ _ hc e _=>k b o (λz=>hc (by simp[z])) e) (λb o _ _ hc e _=>⟨o.slots,k b o (λz=>hc (by simp[z])) e⟩) (λ_ _ _ _ n=>n)
  (λb o hc e=>⟨o,k b o (λz=>hc (by simp[z])) e⟩) (λ_ _ e=>e) (λ_ _ _ e=>e) (λb ps e=>⟨#[],by rw[e];simp⟩) (λm hm=>?_) (λb u e=>?_) I.bare
 ·have e:b=it:=by simpa using hb
  subst e;exact⟨h1,hL,h2,h3⟩
 ·obtain ⟨o,es,ep,ho,r⟩:=hm
  exact⟨o,es,ep,k _ o (Ne.symm hL) ho,r⟩
 ·refine (I.hok b u e).stay (fun c v hc q=>k c v ?_ q) (fun _ q=>q) fun _ _ q=>q
  rcases hc with z|z
  ·rw[z];exact nit b u e
  ·exact nit c _ z
def Inv.tok (I:Inv X pins σ H s) (t:Nat):Inv X pins σ H { s with toks:=t }:=I.un (h':=s.heap) (t':=t) Un.refl I.hok
theorem Inv.kept {t':Nat} (I:Inv X pins σ H s) (k:∀b u,s.heap.get? b=some u->h'.get? b=some u):Inv X pins σ H { s with heap:=h',toks:=t' }:=I.un (Un.kept k) (I.hok.kept k)
theorem Inv.laid {a:Addr}{o:HO}{t':Nat} (I:Inv X pins σ H s) (k:∀b u,s.heap.get? b=some u->h'.get? b=some u) (hp:s.heap.objs.size<=a) (new:ObjOk X.prog X.w (upd H a o) h' a o) :
  Inv X pins σ (upd H a o) { s with heap:=h',toks:=t' }:=I.un (Un.laid k hp (I.hok.fresh hp)) (I.hok.laid k hp new)
theorem Inv.write {x e:Addr}{o:HO}{t':Nat} (I:Inv X pins σ H s) (mu:Mut (H x)) (he:e=x\/H e=some (.own x)) (k:∀b u,b≠e->s.heap.get? b=some u->h'.get? b=some u) (heo:∃u,h'.get? e=some u)
  (new:ObjOk X.prog X.w (upd H x o) h' x o):Inv X pins σ (upd H x o) { s with heap:=h',toks:=t' }:=I.un (Un.write mu he k heo) (I.hok.write mu he k heo new)
def Inv.weak {σ':List (Option V)} (I:Inv X pins σ H s) (hl:σ'.length=σ.length) (w:∀(i:Nat) v,σ'[i]?=some (some v)->σ[i]?=some (some v)):Inv X pins σ' H s :=
 ⟨I.ok,I.os,I.bare,I.base,by obtain⟨m,hn,hl'⟩:=I.loc;exact⟨m,hn,λi x v e1 e2 e3=>hl' i x v e1 (w i v e2) e3⟩,I.cell,I.free,I.freeC,I.pin,I.hok,hl.trans I.len⟩
def Inv.pins_of {pins':LO} (I:Inv X pins σ H s) (h:∀p∈pins',s.heap.get? p.1=some p.2/\H p.1=none/\p.1≠X.env.locals/\p.1∉X.fs/\∀v,p.2.data≠.cell v):Inv X pins' σ H s :=
 ⟨I.ok,I.os,I.bare,I.base,I.loc,I.cell,I.free,I.freeC,λp hp=>(v1.mp hp).elim (λz=>I.pin p (u4 _ z)) (h p),I.hok,I.len⟩
def u5F {N:List Str} (hN:N.Nodup) {i j:Nat}{x:Str} (a:N[i]?=some x) (b:N[j]?=some x):i=j:=by
 obtain⟨h1,e1⟩:=y6.mp a;obtain⟨h2,e2⟩:=y6.mp b;exact(List.getElem_inj hN).mp (e1.trans e2.symm)
def u6c {M:Model}{A:Around}{E:VP}{i:Nat}{x:Str}{v:V}{u:Value}{Q:Unit->Shared->Prop} (I:Inv X pins σ H s) (hN:X.N.Nodup) (hi:X.N[i]?=some x) (hx:Loc X.env.scope x) (r:RelV v u)
  (h:∀s',Inv X pins (σ.set i (some v)) H s'->(∃a,Heap.SameBut a s.heap s'.heap/\(a=X.env.locals\/X.env.cells.lookup x=some a))->Q () s') (hf:X.fn x=true\/X.env.scope.names.lookup x=some .local:=by first|exact .inl rfl|exact .inr rfl|assumption):wpAny M A (storeName X.env x u) Q E s:=by
 obtain⟨m,hn,hl⟩:=id I.loc;have hcls:(X.env.scope.kind==.class||(X.env.scope.kind==.module&&X.env.locals != X.env.globals))=false:=by rw[I.ok.kind];rfl
 have hiσ:i<σ.length:=by rw[I.len];exact(y6.mp hi).1
 have cne:=I.cne;have tracked:∀{a:Addr}{h':Heap},(∃o,s.heap.get? a=some o/\H a=none)->Heap.SameBut a s.heap h'->HOk X.prog X.w H h':=λ{a h'} ha hs b ob e=>by
  obtain⟨_,_,hfree⟩:=ha;refine(I.hok b ob e).stay (λc w' hc q=>(hs.2 c ?_).trans q) (λ_ q=>q) λ_ _ q=>q
  rintro rfl;rcases hc with rfl|hc
  ·rw[hfree] at e;cases e
  ·rw[hfree] at hc;cases hc
 rcases hx with hk|hk
 ·refine wpAny_storeName_local hk hn (fun h' hn' hs=>?_) hcls
  obtain⟨oL,_,_,hoL,_⟩:=id hn;refine h _ ⟨I.ok,I.os,I.bare,⟨λb o e n hb hx=>?_,λb o e n hb hx=>?_,I.base.free,λb o e hx=>?_,I.base.tups,I.base.frzs,I.base.tbls⟩,⟨_,hn',λj y v' e1 e2 e3=>?_⟩,λy c e=>?_,I.free,I.freeC,λp hp=>?_,tracked ⟨oL,hoL,I.free⟩ hs,by simpa using I.len⟩ ⟨_,hs,.inl rfl⟩
  ·exact(hs.2 b (x0 (y3 (z8 e) I.ok.above))).trans (I.base.keep b o e n hb hx)
  ·obtain ⟨sl,e1⟩:=I.base.slot b o e n hb hx
   exact⟨sl,(hs.2 b (x0 (y3 (z8 e) I.ok.above))).trans e1⟩
  ·obtain ⟨o',e1⟩:=I.base.there b o e hx
   exact⟨o',(hs.2 b (x0 (y3 (z8 e) I.ok.above))).trans e1⟩
  ·by_cases hj:j=i
   ·subst hj
    rw[hi] at e1;cases e1;rw[z0J hiσ] at e2;cases e2;exact⟨u,r,.inl ⟨hk,by simp⟩⟩
   ·rw [List.getElem?_set_ne (Ne.symm hj)] at e2
    obtain⟨u',r',q⟩:=hl j y v' e1 e2 e3;refine⟨u',r',?_⟩;rcases q with⟨k,e⟩|⟨k,c,e,z⟩
    ·refine .inl ⟨k,?_⟩
     have:y≠x:=λe=>hj (u5F hN e1 (e ▸ hi))
     simp[this,e]
    ·exact .inr ⟨k,c,e,z.sameBut hs (cne y c e)⟩
  ·obtain ⟨w',z⟩:=I.cell y c e
   exact⟨w',z.sameBut hs (cne y c e)⟩
  ·obtain ⟨e,n,ne,nf,d⟩:=I.pin p hp
   exact⟨(hs.2 p.1 ne).trans e,n,ne,nf,d⟩
 ·have hfn:X.fn x=true:=by
   rcases hf with z|z
   ·exact z
   ·rw[z] at hk;cases hk
  obtain⟨c,hc⟩:=I.ok.has x (.inl hk);obtain⟨w',z⟩:=I.cell x c hc;refine wpAny_storeName_cell I.ok.kind hk hc z (λh' hc' hs=>?_)
  obtain⟨oc,hoc,hocd⟩:=id z;refine h { s with heap:=h' } ⟨I.ok,I.os,I.bare,⟨λb o e n hb hx=>?_,λb o e n hb hx=>?_,I.base.free,λb o e hx=>?_,I.base.tups,I.base.frzs,I.base.tbls⟩,⟨m,hn.sameBut hs (Ne.symm (cne x c hc)),λj y v' e1 e2 e3=>?_⟩,λy c' e=>?_,I.free,I.freeC,λp hp=>?_,tracked ⟨oc,hoc,I.freeC x c hc⟩ hs,by simpa using I.len⟩ ⟨c,hs,.inr hc⟩
  ·exact(hs.2 b (x0 (y3 (z8 e) (I.ok.cab x c hfn hc)))).trans (I.base.keep b o e n hb hx)
  ·obtain ⟨sl,e1⟩:=I.base.slot b o e n hb hx
   exact⟨sl,(hs.2 b (x0 (y3 (z8 e) (I.ok.cab x c hfn hc)))).trans e1⟩
  ·obtain ⟨o',e1⟩:=I.base.there b o e hx
   exact⟨o',(hs.2 b (x0 (y3 (z8 e) (I.ok.cab x c hfn hc)))).trans e1⟩
  ·by_cases hj:j=i
   ·subst hj
    rw[hi] at e1;cases e1;rw[z0J hiσ] at e2;cases e2;exact⟨u,r,.inr ⟨.inl hk,c,hc,hc'⟩⟩
   ·rw [List.getElem?_set_ne (Ne.symm hj)] at e2
    obtain⟨u',r',q⟩:=hl j y v' e1 e2 e3;refine⟨u',r',?_⟩;rcases q with q|⟨k,c',e,z'⟩
    ·exact .inl q
    ·refine .inr ⟨k,c',e,z'.sameBut hs ?_⟩
     rintro rfl;exact hj (u5F hN e1 (I.ok.inj _ _ _ e hc ▸ hi))
  ·by_cases hcc:c'=c
   ·subst hcc;exact⟨_,hc'⟩
   ·obtain ⟨w2,z2⟩:=I.cell y c' e
    exact⟨w2,z2.sameBut hs hcc⟩
  ·obtain ⟨e,n,ne,nf,d⟩:=I.pin p hp
   refine⟨(hs.2 p.1 ?_).trans e,n,ne,nf,d⟩;intro q;rw[q,hoc] at e;have q':oc=p.2:=Option.some.inj e;exact d w' (by rw[<- q'];exact hocd)
def u3H {M:Model}{A:Around}{E:VP}{i:Nat}{x:Str}{v:V}{u:Value}{Q:Unit->Shared->Prop} (I:Inv X pins σ H s) (hN:X.N.Nodup) (hi:X.N[i]?=some x) (hx:Loc X.env.scope x) (r:RelV v u)
  (h:∀s',Inv X pins (σ.set i (some v)) H s'->Q () s') (hf:X.fn x=true\/X.env.scope.names.lookup x=some .local:=by first|exact .inl rfl|exact .inr rfl|assumption):wpAny M A (storeName X.env x u) Q E s :=
 u6c I hN hi hx r (λs' I' _=>h s' I') hf
def Inv.call' {s':Shared}{ch:List Addr} (I:Inv X pins σ H s) (ho:s'.os=s.os) (u:Un (frs X.stack) ch H H' s.heap s'.heap) (hok:HOk X.prog X.w H' s'.heap) (hg:AllBare s'.gens)
  (hch:∀b∈ch,(b∈X.ex\/X.s₀.heap.objs.size<=b)/\b≠X.env.locals/\(∀x c,X.env.cells.lookup x=some c->c≠b)/\∀p∈X.pn++pins,p.1≠b):Inv X pins σ H' s':=by
 obtain⟨h',g',d',t',o'⟩:=s';have e:o'=s.os:=ho;subst e;exact I.call (g':=g') (t':=t') (d':=d') u hok hg hch
end
abbrev XK:=Value->Option Addr->Hp->Prop
abbrev St:=List (Option V)
abbrev VK:=V->Hp->Prop
abbrev TE:=St->Hp->VK->Prop
abbrev TT:=St->Hp->(Bool->Hp->Prop)->Prop
abbrev TA:=St->Hp->(List V->Hp->Prop)->Prop
structure Ends where
 nx:St->Hp->Prop
 rt:VK
 bk:St->Hp->Prop:=λ_ _=>False
 ct:St->Hp->Prop:=λ_ _=>False
abbrev TS:=Ends->St->Hp->Prop
def EP (X:Cx) (pins:LO) (σ:St) (Q:VK) (u:Value) (s':Shared):Prop:=∃v H',Inv X pins σ H' s'/\RelV v u/\Q v H'
def TP (X:Cx) (pins:LO) (σ:St) (Q:Bool->Hp->Prop) (b:Bool) (s':Shared):Prop:=∃H',Inv X pins σ H' s'/\Q b H'
def AP (X:Cx) (pins:LO) (σ:St) (Q:List V->Hp->Prop) (us:List Value) (s':Shared):Prop:=∃vs H',Inv X pins σ H' s'/\Vals vs us/\Q vs H'
def SP (X:Cx) (pins:LO) (D:Ends) (f:Flow) (s':Shared):Prop :=
 match f with
 | .next=>∃σ' H',Inv X pins σ' H' s'/\D.nx σ' H'
 | .brk=>∃σ' H',Inv X pins σ' H' s'/\D.bk σ' H'
 | .cont=>∃σ' H',Inv X pins σ' H' s'/\D.ct σ' H'
 | .ret u=>∃v σ' H',Inv X pins σ' H' s'/\RelV v u/\D.rt v H'
def PE (X:Cx) (e:Expr) (t:TE):Prop :=
 ∀(pins:LO) (s:Shared) (σ:St) (H:Hp) (Q:VK),Inv X pins σ H s->t σ H Q->wpAny (model X.prog X.w) X.A (eval e X.env) (EP X pins σ Q) X.xe s
def PT (X:Cx) (e:Expr) (t:TT):Prop :=
 ∀(pins:LO) (s:Shared) (σ:St) (H:Hp) (Q:Bool->Hp->Prop),Inv X pins σ H s->t σ H Q->wpAny (model X.prog X.w) X.A (isTrue e X.env (eval e X.env)) (TP X pins σ Q) X.xe s
def PW (X:Cx) (e:Expr) (t:TT):Prop :=
 ∀(whole:Sem Value) (pins:LO) (s:Shared) (σ:St) (H:Hp) (Q:Bool->Hp->Prop),Inv X pins σ H s->t σ H Q->wpAny (model X.prog X.w) X.A (isTrue e X.env whole) (TP X pins σ Q) X.xe s
def PW.pt {X:Cx}{e:Expr}{t:TT} (h:PW X e t):PT X e t:=h _
def PA (X:Cx) (es:List Expr) (t:TA):Prop :=
 ∀(pos:Pos) (pins:LO) (s:Shared) (σ:St) (H:Hp) (Q:List V->Hp->Prop),Inv X pins σ H s->t σ H Q->wpAny (model X.prog X.w) X.A (spliced (backTo pos (starEach es X.env))) (AP X pins σ Q) X.xe s
def PS (X:Cx) (st:Stmt) (t:TS):Prop :=
 ∀(pins:LO) (s:Shared) (σ:St) (H:Hp) (D:Ends),Inv X pins σ H s->t D σ H->wpAny (model X.prog X.w) X.A (exec st X.env) (SP X pins D) X.xe s
def PSs (X:Cx) (st:List Stmt) (t:TS):Prop :=
 ∀(pins:LO) (s:Shared) (σ:St) (H:Hp) (D:Ends),Inv X pins σ H s->t D σ H->wpAny (model X.prog X.w) X.A (execs st X.env) (SP X pins D) X.xe s
def thn {α:Type}{t:Sem α}{Q Q':α->Shared->Prop}{M:Model}{A:Around}{E:VP}{s:Shared} (h:wpAny M A t Q E s) (hQ:∀a s,Q a s->Q' a s):wpAny M A t Q' E s:=wpAny_mono h hQ λ_ _ x=>x
section
variable {X:Cx}
def bin {a b:Expr}{ta tb:TE} (ha:PE X a ta) (hb:PE X b tb) {pins:LO}{s:Shared}{σ:St}{H:Hp}{R:V->V->Hp->Prop} (I:Inv X pins σ H s) (h:ta σ H λx H1=>tb σ H1 λy H2=>R x y H2)
  {α:Type}{Q:α->Shared->Prop}{f:Value->Value->Sem α}
  (hf:∀v u s2 x y H2,Inv X pins σ H2 s2->RelV x v->RelV y u->R x y H2->wpAny (model X.prog X.w) X.A (f v u) Q X.xe s2) :
  wpAny (model X.prog X.w) X.A (eval a X.env) (λv s₁=>wpAny (model X.prog X.w) X.A (eval b X.env) (λu s₂=>wpAny (model X.prog X.w) X.A (f v u) Q X.xe s₂) X.xe s₁) X.xe s:=by
 refine thn (ha pins s σ H _ I h) λv s1 z92=>?_
 obtain⟨x,H1,I1,r1,q1⟩:=z92;refine thn (hb pins s1 σ H1 _ I1 q1) λu s2 z93=>?_
 obtain⟨y,H2,I2,r2,q2⟩:=z93;exact hf v u s2 x y H2 I2 r1 r2 q2
def tVar (i:Nat):TE:=λσ H Q=>∃v,σ[i]?=some (some v)/\Q v H
def tC (v:V):TE:=λ_ H Q=>Q v H
def u1U {i:Nat}{x:Str}{pos:Pos} (hN:X.N[i]?=some x) (hv:Vis X.env.scope x) (hd:(x==("__debug__":Str))=false:=by decide) (hcd:(x==("__classdict__":Str))=false:=by decide):PE X (.Name x pos) (tVar i):=by
 intro pins s σ H Q I h;obtain⟨v,e,h⟩:=h;obtain⟨m,hn,hl⟩:=I.loc;obtain⟨u,r,l⟩:=hl i x v hN e hv;have fin:EP X pins σ Q u s:=⟨v,H,I,r,h⟩;rcases l with⟨hk,hm⟩|⟨hk,c,hc,hcell⟩
 ·exact wpAny_Name (wpAny_loadName_local I.ok.kind hk hn hm fin) hd
 ·rcases hk with hk | hk
  ·exact wpAny_Name (wpAny_loadName_cell I.ok.kind hk hc hcell fin) hd
  ·exact wpAny_Name (wpAny_loadName_free I.ok.kind hk hc hcell fin hcd) hd
def pe_int {i j pos}:PE X (.Constant (.int i) j pos) (tC (.int i)):=λ_ _ _ H _ I h=>wpAny_Constant_int ⟨.int i,H,I.tok _,⟨_,rfl⟩,h⟩
def pe_bl {b j pos}:PE X (.Constant (.bool b) j pos) (tC (.bl b)):=λ_ _ _ H _ I h=>Constant_bool ⟨.bl b,H,I,rfl,h⟩
def pe_non {j pos}:PE X (.Constant .none j pos) (tC .non):=λ_ _ _ H _ I h=>Constant_none ⟨.non,H,I,rfl,h⟩
def pe_str {x j pos}:PE X (.Constant (.str x) j pos) (tC (.str x)):=λ_ _ _ H _ I h=>Calls.Constant_str ⟨.str x,H,I.tok _,⟨_,rfl⟩,h⟩
def Gl (X:Cx) (x:Str):Prop:=X.env.kindOf x=some .globalImplicit
def u3f {E:VP}{pins:LO}{s:Shared}{σ:St}{H:Hp}{x:Str}{u:Value}{pos:Pos}{Q:VP} (I:Inv X pins σ H s) (hg:Gl X x) (hm:X.mg x=some u) (h:Q u s)
  (hd:(x==("__debug__":Str))=false:=by decide):wpAny (model X.prog X.w) X.A (eval (.Name x pos) X.env) Q E s :=
 Calls.Name_function_global I.ok.kind hg (Calls.loadGlobal_global (by rw[I.ok.glob];exact I.mod.glob.keeps I.bk) hm h) hd
def u3s {E:VP}{pins:LO}{s:Shared}{σ:St}{H:Hp}{x:Str}{u:Value}{pos:Pos}{Q:VP} (I:Inv X pins σ H s) (hg:Gl X x) (hm:X.mg x=none) (hv:bootBuiltins x=some u) (h:Q u s)
  (hn:x≠"__name__":=by decide) (hd:(x==("__debug__":Str))=false:=by decide):wpAny (model X.prog X.w) X.A (eval (.Name x pos) X.env) Q E s:=by
 obtain⟨mb,h1,h2⟩:=I.mod.blt;exact Calls.Name_function_global I.ok.kind hg (Calls.loadGlobal_builtin (by rw[I.ok.glob];exact I.mod.glob.keeps I.bk) hm (by rw[I.ok.blt];exact h1.keeps I.bk) ((h2 x hn).trans hv) h) hd
def v0A {x:Str}{v:V}{u:Value}{pos:Pos} (hg:Gl X x) (hm:X.mg x=some u) (r:RelV v u) (hd:(x==("__debug__":Str))=false:=by decide):PE X (.Name x pos) (tC v) :=
 λ_ _ _ H _ I h=>u3f I hg hm ⟨v,H,I,r,h⟩ hd
def pe_bltn {x:Str}{v:V}{u:Value}{pos:Pos} (hg:Gl X x) (hm:X.mg x=none) (hv:bootBuiltins x=some u) (r:RelV v u) (hn:x≠"__name__":=by decide) (hd:(x==("__debug__":Str))=false:=by decide):PE X (.Name x pos) (tC v) :=
 λ_ _ _ H _ I h=>u3s I hg hm hv ⟨v,H,I,r,h⟩ hn hd
variable {a b:Expr}{ta tb:TE}{pos:Pos}
def PC (X:Cx) (op:CmpOp) (a b:Expr) (t:TE):Prop :=
 ∀(pins:LO) (s:Shared) (σ:St) (H:Hp) (Q:VK),Inv X pins σ H s->t σ H Q ->
  wpAny (model X.prog X.w) X.A (eval a X.env) (λv s₁=>wpAny (model X.prog X.w) X.A (eval b X.env) (λu s₂=>wpAny (model X.prog X.w) X.A (compareOp op v u) (EP X pins σ Q) X.xe s₂) X.xe s₁) X.xe s
def tB (t:TE):TT:=λσ H Q=>t σ H λx H1=>∃c,x=.bl c/\Q c H1
def pt_cmp {op:CmpOp}{t:TE} (h:PC X op a b t) (h1:behindInMarks op b=false:=by first|exact nobehind _ (by decide) (by decide)|rfl):PT X (.Compare a [op] [b] pos) (tB t):=by
 intro pins s σ H Q I hw;refine wpAny_isTrue_Compare1 (thn (h pins s σ H _ I hw) λv s1 h1=>thn h1 λu s2 h2=>thn h2 λc s3 z94=>?_) h1
 obtain⟨x,H1,I1,r1,q1⟩:=z94;obtain⟨d,rfl,q⟩:=q1;cases r1;exact wpAny_truthy_bool ⟨H1,I1,q⟩
def pt_val {e:Expr}{t:TE} (h:PE X e t) (he:∀whole,isTrue e X.env whole=(do let v <- whole;standAt e.pos;holding [v] (truthy v)):=by intro _;rfl):PT X e (tB t):=by
 intro pins s σ H Q I hw;refine isTrue_plain (thn (h pins s σ H _ I hw) λv s1 z95=>?_) (he _)
 obtain⟨x,H1,I1,r1,q1⟩:=z95;obtain⟨d,rfl,q⟩:=q1;cases r1;exact wpAny_truthy_bool ⟨H1,I1,q⟩
variable {tA tB':TT}{rest:List Expr}
def tAnd (t u:TT):TT:=λσ H Q=>t σ H λc H1=>if c=true then u σ H1 Q else Q false H1
def tOr (t u:TT):TT:=λσ H Q=>t σ H λc H1=>if c=true then Q true H1 else u σ H1 Q
def tNot (t:TT):TT:=λσ H Q=>t σ H λc H1=>Q (!c) H1
def pw_and1 (ha:PT X a tA):PW X (.BoolOp .And [a] pos) tA:=by
 intro wh pins s σ H Q I h;refine isTrue_and (thn (ha pins s σ H Q I h) λc s1 e=>?_)
 cases c with
 | true=>exact isTrue_and_nil e
 | false=>exact e
def pw_or1 (ha:PT X a tA):PW X (.BoolOp .Or [a] pos) tA:=by
 intro wh pins s σ H Q I h;refine isTrue_or (thn (ha pins s σ H Q I h) λc s1 e=>?_)
 cases c with
 | false=>exact isTrue_or_nil e
 | true=>exact e
def pw_and (ha:PT X a tA) (hb:PW X (.BoolOp .And (b::rest) pos) tB'):PW X (.BoolOp .And (a::b::rest) pos) (tAnd tA tB'):=by
 intro wh pins s σ H Q I h;refine isTrue_and (thn (ha pins s σ H _ I h) λc s1 z96=>?_)
 obtain⟨H1,I1,q1⟩:=z96;cases c with
 | true=>exact hb wh pins s1 σ H1 Q I1 q1
 | false=>exact⟨H1,I1,q1⟩
def pw_or (ha:PT X a tA) (hb:PW X (.BoolOp .Or (b::rest) pos) tB'):PW X (.BoolOp .Or (a::b::rest) pos) (tOr tA tB'):=by
 intro wh pins s σ H Q I h;refine isTrue_or (thn (ha pins s σ H _ I h) λc s1 z97=>?_)
 obtain⟨H1,I1,q1⟩:=z97;cases c with
 | true=>exact⟨H1,I1,q1⟩
 | false=>exact hb wh pins s1 σ H1 Q I1 q1
def pt_not (ha:PT X a tA):PT X (.UnaryOp .Not a pos) (tNot tA):=by
 intro pins s σ H Q I h;exact isTrue_not (ha pins s σ H (λc H1=>Q (!c) H1) I h)
def tAndV (ta tb:TE):TE:=λσ H Q=>ta σ H λx H1=>∃c,x=.bl c/\if c=true then tb σ H1 Q else Q (.bl false) H1
def tOrV (ta tb:TE):TE:=λσ H Q=>ta σ H λx H1=>∃c,x=.bl c/\if c=true then Q (.bl true) H1 else tb σ H1 Q
def tNotV (ta:TE):TE:=λσ H Q=>ta σ H λx H1=>∃c,x=.bl c/\Q (.bl (!c)) H1
def pe_one {op}{t:TE} (h:PE X a t):PE X (.BoolOp op [a] pos) t:=λpins s σ H Q I hw=>BoolOp_one (h pins s σ H Q I hw)
def pe_and (ha:PE X a ta) (hb:PE X (.BoolOp .And (b::rest) pos) tb):PE X (.BoolOp .And (a::b::rest) pos) (tAndV ta tb):=by
 intro pins s σ H Q I h;refine BoolOp_and (thn (ha pins s σ H _ I h) λv s1 z98=>?_)
 obtain⟨x,H1,I1,r1,q1⟩:=z98;obtain⟨c,rfl,q1⟩:=q1;cases r1;refine wpAny_truthy_bool ?_;cases c with
 | true=>exact hb pins s1 σ H1 Q I1 q1
 | false=>exact⟨.bl false,H1,I1,rfl,q1⟩
def pe_or (ha:PE X a ta) (hb:PE X (.BoolOp .Or (b::rest) pos) tb):PE X (.BoolOp .Or (a::b::rest) pos) (tOrV ta tb):=by
 intro pins s σ H Q I h;refine BoolOp_or (thn (ha pins s σ H _ I h) λv s1 z99=>?_)
 obtain⟨x,H1,I1,r1,q1⟩:=z99;obtain⟨c,rfl,q1⟩:=q1;cases r1;refine wpAny_truthy_bool ?_;cases c with
 | false=>exact hb pins s1 σ H1 Q I1 q1
 | true=>exact⟨.bl true,H1,I1,rfl,q1⟩
def pe_not (ha:PE X a ta):PE X (.UnaryOp .Not a pos) (tNotV ta):=by
 intro pins s σ H Q I h;refine UnaryOp_ (thn (ha pins s σ H _ I h) λv s1 z910=>?_)
 obtain⟨x,H1,I1,r1,q1⟩:=z910;obtain⟨c,rfl,q1⟩:=q1;cases r1;exact not_of (wpAny_truthy_bool ⟨.bl (!c),H1,I1,rfl,q1⟩)
def tIf (t:TT) (ta tb:TE):TE:=λσ H Q=>t σ H λc H1=>if c=true then ta σ H1 Q else tb σ H1 Q
def v2E {c:Expr} (hc:PT X c tA) (ha:PE X a ta) (hb:PE X b tb):PE X (.IfExp c a b pos) (tIf tA ta tb):=by
 intro pins s σ H Q I h;refine wpAny_IfExp (thn (hc pins s σ H _ I h) λd s1 z911=>?_)
 obtain⟨H1,I1,q1⟩:=z911;cases d with
 | true=>exact ha pins s1 σ H1 Q I1 q1
 | false=>exact hb pins s1 σ H1 Q I1 q1
end
def SqL (K:W.Frag) (H:Hp) (a:Addr) (xs:List V):Prop :=
 Rd H a (.lst xs) \/
  ∃(o:Obj) (its:Array Value) (n:Nat),K.lookup a=some o/\o.cls=.type "list"/\o.dict=none/\o.data=.seq its n/\its.size<=sizeLine/\Vals xs its.toList
def SqT (K:W.Frag) (H:Hp) (a:Addr) (xs:List V):Prop :=
 Rd H a (.tup xs) \/
  ∃(o:Obj) (its:Array Value) (n:Nat),K.lookup a=some o/\o.cls=.type "tuple"/\o.data=.seq its n/\its.size<=sizeLine/\Vals xs its.toList
noncomputable def absV:Value->Option V
 | .none=>some .non
 | .bool b=>some (.bl b)
 | .int i _=>some (.int i)
 | .str x _=>some (.str x)
 | .bytes b _=>some (.byt b)
 | .float b _=>some (.flt b)
 | .ref a=>some (.ref a)
 | .type n=>some (.ty n)
 | _=>none
def RelV.abs {x:V}{u:Value} (r:RelV x u):absV u=some x:=by
 cases x with
 | non=>cases r;rfl
 | bl _=>cases r;rfl
 | int _=>obtain⟨t,rfl⟩:=r;rfl
 | str _=>obtain⟨t,rfl⟩:=r;rfl
 | byt _=>obtain⟨t,rfl⟩:=r;rfl
 | flt _=>obtain⟨t,rfl⟩:=r;rfl
 | ref _=>cases r;rfl
 | ty _=>cases r;rfl
theorem RelV.inj {x y:V}{u:Value} (r:RelV x u) (q:RelV y u):x=y:=Option.some.inj (r.abs.symm.trans q.abs)
theorem Vals.inj:∀{xs ys:List V}{us:List Value},Vals xs us->Vals ys us->xs=ys
 | _,_,_,.nil,.nil=>rfl
 | _,_,_,.cons r t,.cons r' t'=>by rw[r.inj r',Vals.inj t t']
section
variable {X:Cx}{pins:LO}{σ:St}{H:Hp}{s:Shared}{a:Addr}{xs ys:List V}
def Inv.list (I:Inv X pins σ H s) (h:SqL X.K H a xs):∃its:List Value,Vals xs its/\PlainL s.heap a its.toArray/\xs.length<=sizeLine:=by
 rcases h with h|⟨o,its,n,hk,hc,hd,hs,hz,r⟩
 ·obtain ⟨z,its,n,r,e⟩:=h.ok I.hok
  exact⟨its,r,⟨_,n,e,rfl,rfl,rfl⟩,z⟩
 ·refine ⟨its.toList,r,⟨o,n,I.kIn a o hk,hc,hd,by simpa using hs⟩,?_⟩
  have e:=r.length;simp only[t0] at e;omega
def Inv.tuple (I:Inv X pins σ H s) (h:SqT X.K H a xs):∃its:List Value,Vals xs its/\IsTup s.heap a its.toArray/\xs.length<=sizeLine:=by
 rcases h with h|⟨o,its,n,hk,hc,hs,hz,r⟩
 ·obtain ⟨z,its,r,p⟩:=h.ok I.hok
  exact⟨its,r,p,z⟩
 ·refine ⟨its.toList,r,⟨o,I.kIn a o hk,hc,n,by simpa using hs⟩,?_⟩
  have e:=r.length;simp only[t0] at e;omega
def Inv.list_inj (I:Inv X pins σ H s) (h:SqL X.K H a xs) (h':SqL X.K H a ys):xs=ys:=by
 obtain⟨its,r,⟨o,n,e,_,_,d⟩,_⟩:=I.list h;obtain⟨its',r',⟨o',n',e',_,_,d'⟩,_⟩:=I.list h';rw[e] at e';cases e';rw[d] at d';injection d' with d1 _
 have:its=its':=by simpa using congrArg Array.toList d1
 subst this;exact r.inj r'
def Inv.tuple_inj (I:Inv X pins σ H s) (h:SqT X.K H a xs) (h':SqT X.K H a ys):xs=ys:=by
 obtain⟨its,r,⟨o,e,_,n,d⟩,_⟩:=I.tuple h;obtain⟨its',r',⟨o',e',_,n',d'⟩,_⟩:=I.tuple h';rw[e] at e';cases e';rw[d] at d';injection d' with d1 _
 have:its=its':=by simpa using congrArg Array.toList d1
 subst this;exact r.inj r'
end
abbrev Cx.wish (X:Cx) (E:VP):Cx:={ X with xe:=E }
abbrev Cx.nox (X:Cx):Cx:=X.wish λ_ _=>False
theorem Cx.Ok.wish {X:Cx} (ok:X.Ok) (E:VP):(X.wish E).Ok :=
 ⟨ok.mod,ok.kind,ok.glob,ok.blt,ok.above,ok.inj,ok.has,ok.cab,ok.hd,ok.frames,ok.stk,ok.exf,ok.bs,ok.bsz,ok.noex,ok.exfs,ok.funs,ok.frf⟩
def Cx.Ok.unwish {X:Cx}{E:VP} (ok:(X.wish E).Ok):X.Ok :=
 ⟨ok.mod,ok.kind,ok.glob,ok.blt,ok.above,ok.inj,ok.has,ok.cab,ok.hd,ok.frames,ok.stk,ok.exf,ok.bs,ok.bsz,ok.noex,ok.exfs,ok.funs,ok.frf⟩
section
variable {X:Cx}{pins:LO}{σ:St}{H:Hp}{s:Shared}{E:VP}
theorem Inv.wish (I:Inv X pins σ H s) (E:VP):Inv (X.wish E) pins σ H s:=⟨I.ok.wish E,I.os,I.bare,I.base,I.loc,I.cell,I.free,I.freeC,I.pin,I.hok,I.len⟩
theorem Inv.unwish (I:Inv (X.wish E) pins σ H s):Inv X pins σ H s:=⟨I.ok.unwish,I.os,I.bare,I.base,I.loc,I.cell,I.free,I.freeC,I.pin,I.hok,I.len⟩
theorem SP.unwish {D:Ends}{f:Flow}{s':Shared} (h:SP (X.wish E) pins D f s'):SP X pins D f s':=by
 cases f with
 | next=>obtain⟨σ',H',I,q⟩:=h;exact⟨σ',H',I.unwish,q⟩
 | brk=>obtain⟨σ',H',I,q⟩:=h;exact⟨σ',H',I.unwish,q⟩
 | cont=>obtain⟨σ',H',I,q⟩:=h;exact⟨σ',H',I.unwish,q⟩
 | ret u=>obtain⟨v,σ',H',I,r,q⟩:=h;exact⟨v,σ',H',I.unwish,r,q⟩
theorem PSs.nox {st:List Stmt}{t:TS} (h:PSs X.nox st t):PSs X st t:=λpins s σ H D I hw =>
 wpAny_mono (h pins s σ H D (I.wish _) hw) (λ_ _ q=>q.unwish) λ_ _ z=>False.elim z
end
section
variable {X:Cx}{st:Stmt}{rest:List Stmt}{t u:TS}{e:Expr}{te:TE}{pos:Pos}
def tNext:TS:=λD σ H=>D.nx σ H
def tSeq (t u:TS):TS:=λD σ H=>t { D with nx:=u D } σ H
def v0w:PSs X [] tNext:=λ_ _ σ H _ I h=>wpAny_execs_nil ⟨σ,H,I,h⟩
def u1l (h1:PS X st t) (h2:PSs X rest u):PSs X (st::rest) (tSeq t u):=by
 intro pins s σ H D I h;refine wpAny_execs_cons (thn (h1 pins s σ H { D with nx:=u D } I h) λf s1 q=>?_)
 cases f with
 | next =>
  obtain⟨σ',H',I',q⟩:=q;exact h2 pins s1 σ' H' D I' q
 | ret v=>exact q
 | brk=>exact q
 | cont=>exact q
def u7r (h1:PS X st t):PSs X [st] t:=by
 intro pins s σ H D I h;refine wpAny_execs_cons (thn (h1 pins s σ H D I h) λf s1 q=>?_)
 cases f with
 | next=>exact wpAny_execs_nil q
 | ret v=>exact q
 | brk=>exact q
 | cont=>exact q
def Inv.quiet {pins:LO}{σ:St}{H:Hp}{s:Shared} (I:Inv X pins σ H s):interactive X.env=false:=by simp[interactive,I.ok.kind]
def tDrop (te:TE):TS:=λD σ H=>te σ H λ_ H1=>D.nx σ H1
def u4a (he:PE X e te) (hs:swapsWith e none pos.line X.env=pure false:=by rfl):PS X (.Expr e pos) (tDrop te):=by
 intro pins s σ H D I h;exact wpAny_Expr_any (thn (he pins s σ H _ I h) λv s1 z912=>by obtain⟨x,H1,I1,r1,q1⟩:=z912;exact⟨σ,H1,I1,q1⟩) I.quiet hs
def tRet (te:TE):TS:=λD σ H=>te σ H D.rt
def ps_ret (he:PE X e te):PS X (.Return (some e) pos) (tRet te):=by
 intro pins s σ H D I h;exact wpAny_Return_some (thn (he pins s σ H _ I h) λv s1 z913=>by obtain⟨x,H1,I1,r1,q1⟩:=z913;exact⟨x,σ,H1,I1,r1,q1⟩)
def tIfS (c:TT) (t u:TS):TS:=λD σ H=>c σ H λb H1=>if b=true then t D σ H1 else u D σ H1
def ps_if {c:Expr}{a b:List Stmt}{tc:TT} (hc:PT X c tc) (ha:PSs X a t) (hb:PSs X b u):PS X (.If c a b pos) (tIfS tc t u):=by
 intro pins s σ H D I h;refine wpAny_If (thn (hc pins s σ H _ I h) λd s1 z914=>?_)
 obtain⟨H1,I1,q1⟩:=z914;cases d with
 | true=>exact ha pins s1 σ H1 D I1 q1
 | false=>exact hb pins s1 σ H1 D I1 q1
end
abbrev TG:=V->St->Hp->(St->Hp->Prop)->Prop
abbrev TGs:=List V->St->Hp->(St->Hp->Prop)->Prop
def PG (X:Cx) (target:Expr) (t:TG):Prop :=
 ∀(pins:LO) (s:Shared) (σ:St) (H:Hp) (v:V) (u:Value) (Q:St->Hp->Prop),Inv X pins σ H s->RelV v u->t v σ H Q ->
  wpAny (model X.prog X.w) X.A (assign target X.env u) (λ_ s'=>∃σ' H',Inv X pins σ' H' s'/\Q σ' H') X.xe s
def PGs (X:Cx) (ts:List Expr) (t:TGs):Prop :=
 ∀(pins:LO) (s:Shared) (σ:St) (H:Hp) (vs:List V) (us:List Value) (Q:St->Hp->Prop),Inv X pins σ H s->Vals vs us->t vs σ H Q ->
  wpAny (model X.prog X.w) X.A (assignInOrder ((assignEach ts X.env).map (·.2)) us) (λ_ s'=>∃σ' H',Inv X pins σ' H' s'/\Q σ' H') X.xe s
section
variable {X:Cx}{pos:Pos}
def gName (i:Nat):TG:=λv σ H Q=>Q (σ.set i (some v)) H
def pg_name {i:Nat}{x:Str} (hN:X.N.Nodup) (hi:X.N[i]?=some x) (hx:Loc X.env.scope x) (hf:X.fn x=true\/X.env.scope.names.lookup x=some .local:=by first|exact .inl rfl|exact .inr rfl|assumption):PG X (.Name x pos) (gName i):=by
 intro pins s σ H v u Q I r h;exact wpAny_assign_Name (u3H I hN hi hx r (λs' I'=>⟨_,H,I',h⟩) hf)
def gNil:TGs:=λvs σ H Q=>vs=[]/\Q σ H
def gCons (t:TG) (u:TGs):TGs:=λvs σ H Q=>∃v r,vs=v::r/\t v σ H λσ' H'=>u r σ' H' Q
def pgs_nil:PGs X [] gNil:=by
 intro pins s σ H vs us Q I r h;obtain⟨e,h⟩:=h;subst e;cases r;exact assignInOrder_nil ⟨σ,H,I,h⟩
def v2B {e:Expr}{es:List Expr}{t:TG}{u:TGs} (h1:PG X e t) (h2:PGs X es u)
  (hs:(assignEach (e::es) X.env).map (·.2)=assign e X.env::(assignEach es X.env).map (·.2):=by rfl):PGs X (e::es) (gCons t u):=by
 intro pins s σ H vs us Q I r h;obtain⟨v,vr,e1,h⟩:=h;subst e1;cases r with
 | cons r rr =>
  rw[hs];refine assignInOrder_cons (thn (h1 pins s σ H _ _ _ I r h) λ_ s1 z915=>?_)
  obtain⟨σ1,H1,I1,q1⟩:=z915;exact h2 pins s1 σ1 H1 _ _ Q I1 rr q1
def gTup (K:W.Frag) (n:Nat) (t:TGs):TG:=λv σ H Q=>∃a xs,v=.ref a/\SqT K H a xs/\xs.length=n/\t xs σ H Q
def pg_tup {es:List Expr}{k:Nat}{t:TGs}{n:Nat} (hc:X.calm=true) (h:PGs X es t)
  (hn:(assignEach es X.env).length=n:=by rfl) (hst:(assignEach es X.env).findIdx? (·.1)=none:=by rfl):PG X (.Tuple es k pos) (gTup X.K n t):=by
 intro pins s σ H v u Q I r hw;obtain⟨a,xs,e1,hq,hl,hw⟩:=hw;subst e1;cases r;obtain⟨its,rv,ht,hz⟩:=I.tuple hq;refine assign_Tuple_tuple (I.ok.hd hc) ht (by simp[hn,<- hl,rv.length]) hst λh' hx=>?_
 have I1:Inv X pins σ H { s with heap:=h' }:=I.kept (t':=s.toks) λb o e=>hx b o (x0 (z8 e)) e
 exact h pins _ σ H xs _ Q I1 (by simpa using rv) hw
def tAsg (te:TE) (g:TG):TS:=λD σ H=>te σ H λx H1=>g x σ H1 D.nx
def ps_asg {tg e:Expr}{te:TE}{g:TG} (he:PE X e te) (hg:PG X tg g) (hs:swapsWithSole [tg] e pos.line X.env=pure false:=by rfl) (hw:swappedStores [tg] e X.env=pure none:=by rfl)
  (h1:(assignEach [tg] X.env).map (·.2)=[assign tg X.env]:=by rfl):PS X (.Assign [tg] e pos) (tAsg te g):=by
 intro pins s σ H D I h;refine wpAny_Assign_stores (thn (he pins s σ H _ I h) λv s1 z916=>?_) hs hw
 obtain⟨x,H1,I1,r1,q1⟩:=z916;rw[h1];exact thn (hg pins s1 σ H1 x v _ I1 r1 q1) λ_ s2 q=>q
def ps_set {i:Nat}{x:Str}{e:Expr}{te:TE}{pos':Pos} (hN:X.N.Nodup) (hi:X.N[i]?=some x) (hx:Loc X.env.scope x) (he:PE X e te) (hs:swapsWith e (some (.Name x pos')) pos.line X.env=pure false:=by rfl) (hf:X.fn x=true\/X.env.scope.names.lookup x=some .local:=by first|exact .inl rfl|exact .inr rfl|assumption) :
  PS X (.Assign [.Name x pos'] e pos) (tAsg te (gName i)):=by
 intro pins s σ H D I h;refine wpAny_Assign_Name (thn (he pins s σ H _ I h) λv s1 z917=>?_) hs
 obtain⟨y,H1,I1,r1,q1⟩:=z917;exact u3H I1 hN hi hx r1 (λs2 I2=>⟨_,H1,I2,q1⟩) hf
def tWhile (c:TT) (tb:TS):TS:=λD σ H=>∃W:Nat->St->Hp->Prop,(∃m,W m σ H)/\∀m σ H,W m σ H ->
 c σ H λb H1=>if b=true then ∃N:St->Hp->Prop,(∀σ' H',N σ' H'->∃m',m'<m/\W m' σ' H')/\tb { D with nx:=N,ct:=N,bk:=D.nx } σ H1 else D.nx σ H1
def v2x {c:Expr}{body:List Stmt}{tc:TT}{tb:TS} (hp:PassesOwn (model X.prog X.w) X.A X.env X.xe) (hc:PT X c tc) (hb:PSs X body tb):PS X (.While c body [] pos) (tWhile tc tb):=by
 intro pins s σ H D I h;obtain⟨W,⟨m0,w0⟩,turn⟩:=h;refine wpAny_While (codeAny_whileLoop (λn s'=>∃σ' H',Inv X pins σ' H' s'/\W n σ' H') ?_ m0 ⟨σ,H,I,w0⟩)
 rintro n s1 ⟨σ1,H1,I1,w1⟩;refine wpAny_passesOwn hp (thn (hc pins s1 σ1 H1 _ I1 (turn n σ1 H1 w1)) λb s2 z918=>?_)
 obtain⟨H2,I2,q2⟩:=z918;cases b with
 | true =>
  obtain⟨N,hN,q2⟩:=q2;rw[if_pos rfl];refine wpAny_passesOwn hp (thn (hb pins s2 σ1 H2 _ I2 q2) λf s3 q3=>?_)
  cases f with
  | next =>
   obtain⟨σ3,H3,I3,n3⟩:=q3;obtain⟨m',hm,w3⟩:=hN σ3 H3 n3;exact⟨m',hm,σ3,H3,I3,w3⟩
  | cont =>
   obtain⟨σ3,H3,I3,n3⟩:=q3;obtain⟨m',hm,w3⟩:=hN σ3 H3 n3;exact⟨m',hm,σ3,H3,I3,w3⟩
  | brk=>exact q3
  | ret v=>exact q3
 | false =>
  rw[if_neg v6];exact wpAny_execs_nil ⟨σ1,H2,I2,q2⟩
end
structure It where
 go:Nat->Hp->Prop
 yld:Nat->Hp->V->Hp->Prop
 stop:Nat->Hp->Prop
def FpOk (X:Cx) (pins:LO) (H:Hp) (b:Addr):Prop :=
 H b=none/\b≠X.env.locals/\b∉X.fs/\(b∈X.ex\/X.s₀.heap.objs.size<=b)/\(∀x c,X.env.cells.lookup x=some c->c≠b)/\∀p∈X.pn++pins,p.1≠b
def Inv.fpOk {X:Cx}{pins:LO}{σ:St}{H H':Hp}{s:Shared}{b:Addr} (I:Inv X pins σ H s) (hb:s.heap.objs.size<=b) (hn:H' b=none):FpOk X pins H' b:=by
 refine⟨hn,Nat.ne_of_gt (y3 I.lt hb),I.nofs hb,.inr (y7 I.sz hb),λx c e z=>?_,λp hp z=>?_⟩
 ·obtain ⟨v,q⟩:=I.cell x c e
  exact absurd (y3 q.lt (by rw[z];exact hb)) (t8 _)
 ·exact absurd (y3 (z8 (I.pin p hp).1) (by rw[z];exact hb)) (t8 _)
structure Turn (P:Program) (w:World) (K:W.Frag) (tg:Expr) (J:It) (fp:List Addr) (it:Addr) (tn:Nat->Heap->Prop):Prop where
 mem:it∈fp
 obj:∀i h,tn i h->∀b∈fp,∃o,h.get? b=some o/\∀v,o.data≠.cell v
 keep:∀i h h',tn i h->(∀b∈fp,∀o,h.get? b=some o->h'.get? b=some o)->tn i h'
 item:∀(X:Cx),X.prog=P->X.w=w->X.K=K->X.calm=true->∀(i:Nat) (pins:LO) (s:Shared) (σ:St) (H:Hp) (E:VP),Inv X pins σ H s->(∀b∈fp,FpOk X pins H b)->tn i s.heap->J.go i H ->
  wpAny (model P w) X.A (pyNext (.ref it)) (λr s1=>∃u,r=some u /\
   wpAny (model P w) X.A (letOwnedTupleGo tg (.ref it) u) (λ_ s2=>∃x H',Inv X pins σ H' s2/\RelV x u/\J.yld i H x H'/\tn (i+1) s2.heap/\∀b∈fp,H' b=none) E s1) E s
 done:∀(X:Cx),X.prog=P->X.w=w->X.K=K->X.calm=true->∀(i:Nat) (pins:LO) (s:Shared) (σ:St) (H:Hp) (E:VP),Inv X pins σ H s->(∀b∈fp,FpOk X pins H b)->tn i s.heap->J.stop i H ->
  wpAny (model P w) X.A (pyNext (.ref it)) (λr s1=>r=none/\Inv X pins σ H s1) E s
 self:∀(A:Around) (i:Nat) (s:Shared) (Q:VP) (E:VP),tn i s.heap->Q (.ref it) s->wpAny (model P w) A (pyIter (.ref it)) Q E s
abbrev TI:=St->Hp->(It->Hp->Prop)->Prop
def PIE (X:Cx) (pins:LO) (σ:St) (tg:Expr) (R:It->Hp->Prop) (itv:Value) (s2:Shared):Prop :=
 ∃(it:Addr) (fp:List Addr) (tn:Nat->Heap->Prop) (J:It) (H':Hp),itv=.ref it/\Inv X pins σ H' s2/\Turn X.prog X.w X.K tg J fp it tn/\tn 0 s2.heap/\(∀b∈fp,FpOk X pins H' b)/\R J H'
def PI (X:Cx) (tg iter:Expr) (wi:TI):Prop :=
 ∀(pins:LO) (s:Shared) (σ:St) (H:Hp) (R:It->Hp->Prop),Inv X pins σ H s->wi σ H R ->
  wpAny (model X.prog X.w) X.A (eval iter X.env) (λv s1=>wpAny (model X.prog X.w) X.A (pyIter v) (PIE X pins σ tg R) X.xe s1) X.xe s
def v1h {M:Model}{A:Around}{E:VP}{s:Shared}{tg:Expr}{it:Addr}{u:Value}{o:Obj}{n:String}{vs:Array Value}{Q:Unit->Shared->Prop} (ho:s.heap.get? it=some o) (hc:o.cls=.type n) (hd:o.data=.fields vs)
  (hn:["enumerate","zip","dict_itemiterator","dict_reverseitemiterator","odict_iterator","itertools.zip_longest","itertools.pairwise"].contains n=false) (hQ:Q () s):wpAny M A (letOwnedTupleGo tg (.ref it) u) Q E s:=by
 unfold letOwnedTupleGo;cases tg<;>first
  | exact wpAny_pure hQ
  | (cases u<;>first
    | exact wpAny_pure hQ
    | (refine wpAny_bind (wpAny_load ho ?_)
       rw[hc,hd];show wpAny M A (if (["enumerate","zip","dict_itemiterator","dict_reverseitemiterator","odict_iterator","itertools.zip_longest","itertools.pairwise"].contains n&&vs[0]?==some (rawInt _))=true then _ else _) Q E s
       rw[if_neg (by intro h;rw[hn,Bool.false_and] at h;cases h)]
       exact wpAny_pure hQ))
def Itl (K:W.Frag) (a:Addr):It :=
 ⟨λi H=>∃xs x,SqL K H a xs/\xs[i]?=some x,λi H x H'=>H'=H/\∀xs,SqL K H a xs->xs[i]?=some x,λi H=>∃xs,SqL K H a xs/\xs.length<=i⟩
def Itt (K:W.Frag) (a:Addr):It :=
 ⟨λi H=>∃xs x,SqT K H a xs/\xs[i]?=some x,λi H x H'=>H'=H/\∀xs,SqT K H a xs->xs[i]?=some x,λi H=>∃xs,SqT K H a xs/\xs.length<=i⟩
def Itr (lo:Int) (n:Nat):It:=⟨λi _=>i<n,λi H x H'=>H'=H/\x=.int (lo+i),λi _=>n<=i⟩
def v0d {P:Program}{w:World}{K:W.Frag}{tg:Expr} (a it:Addr):Turn P w K tg (Itl K a) [it] it (λi h=>h.IsListIter it a i) where
 mem:=by simp
 obj:=λi h st b hb=>by
  have e:b=it:=by simpa using hb
  subst e;obtain⟨o,e,c,d⟩:=st;exact⟨o,e,λv z=>by rw[d] at z;cases z⟩
 keep:=λi h h' st k=>st.at λo e=>k it (by simp) o e
 item:=by
  intro X hP hw hK hc i pins s σ H E I hf st hg;subst hP hw hK;obtain⟨xs,x,hq,hx⟩:=hg;obtain⟨its,rv,p,hz⟩:=I.list hq;obtain⟨u,hu,ru⟩:=rv.get hx;obtain⟨f0,f1,f2,f3,f4,f5⟩:=hf it (by simp)
  refine wpAny_pyNext_list_item st p.isList (x:=u) (by simpa using hu) λh' st' sb=>?_
  have I1:Inv X pins σ H { s with heap:=h' }:=I.turned (t':=s.toks) (λb o hb e=>(sb.2 b hb).trans e) f0 f1 f3 f4 f5
  obtain⟨o,e,c,d⟩:=id st';exact⟨u,rfl,v1h (s:={ s with heap:=h' }) e c d (by decide) ⟨x,H,I1,ru,⟨rfl,λys hy=>by rw[I.list_inj hy hq];exact hx⟩,st',λb hb=>(hf b hb).1⟩⟩
 done:=by
  intro X hP hw hK hc i pins s σ H E I hf st hg;subst hP hw hK;obtain⟨xs,hq,hx⟩:=hg;obtain⟨its,rv,p,hz⟩:=I.list hq;obtain⟨f0,f1,f2,f3,f4,f5⟩:=hf it (by simp)
  have hl:=rv.length;exact wpAny_pyNext_list_end (I.ok.hd hc) st p.isList (by simp;omega) λh' eb=>⟨rfl,I.turned (t':=s.toks) (λb o hb e=>eb b o hb e) f0 f1 f3 f4 f5⟩
 self:=λ_ _ _ _ _ st h=>wpAny_pyIter_listiter st h
def u8U {P:Program}{w:World}{K:W.Frag}{tg:Expr} (a it:Addr):Turn P w K tg (Itt K a) [it] it (λi h=>h.IsTupleIter it a i) where
 mem:=by simp
 obj:=λi h st b hb=>by
  have e:b=it:=by simpa using hb
  subst e;obtain⟨o,e,c,d⟩:=st;exact⟨o,e,λv z=>by rw[d] at z;cases z⟩
 keep:=λi h h' st k=>st.at λo e=>k it (by simp) o e
 item:=by
  intro X hP hw hK hc i pins s σ H E I hf st hg;subst hP hw hK;obtain⟨xs,x,hq,hx⟩:=hg;obtain⟨its,rv,p,hz⟩:=I.tuple hq;obtain⟨u,hu,ru⟩:=rv.get hx;obtain⟨f0,f1,f2,f3,f4,f5⟩:=hf it (by simp)
  refine wpAny_pyNext_tuple_item st (show s.heap.IsTuple a its.toArray from p) (x:=u) (by simpa using hu) λh' st' sb=>?_
  have I1:Inv X pins σ H { s with heap:=h' }:=I.turned (t':=s.toks) (λb o hb e=>(sb.2 b hb).trans e) f0 f1 f3 f4 f5
  obtain⟨o,e,c,d⟩:=id st';exact⟨u,rfl,v1h (s:={ s with heap:=h' }) e c d (by decide) ⟨x,H,I1,ru,⟨rfl,λys hy=>by rw[I.tuple_inj hy hq];exact hx⟩,st',λb hb=>(hf b hb).1⟩⟩
 done:=by
  intro X hP hw hK hc i pins s σ H E I hf st hg;subst hP hw hK;obtain⟨xs,hq,hx⟩:=hg;obtain⟨its,rv,p,hz⟩:=I.tuple hq;obtain⟨f0,f1,f2,f3,f4,f5⟩:=hf it (by simp)
  have hl:=rv.length;exact wpAny_pyNext_tuple_end (I.ok.hd hc) st (show s.heap.IsTuple a its.toArray from p) (by simp;omega) λh' eb=>⟨rfl,I.turned (t':=s.toks) (λb o hb e=>eb b o hb e) f0 f1 f3 f4 f5⟩
 self:=λ_ _ _ _ _ st h=>wpAny_pyIter_tupleiter st h
def u8V {P:Program}{w:World}{K:W.Frag}{tg:Expr} (it:Addr) (lo:Int) (n:Nat):Turn P w K tg (Itr lo n) [it] it (λi h=>IsRangeIter h it (lo+(i:Nat)*1) ((n:Int) - (i:Nat)) 1) where
 mem:=by simp
 obj:=λi h st b hb=>by
  have e:b=it:=by simpa using hb
  subst e;exact⟨_,st,λv z=>by
   have z':Data.fields _=Data.cell v:=z;cases z'⟩
 keep:=λi h h' st k=>k it (by simp) _ st
 item:=by
  intro X hP hw hK hc i pins s σ H E I hf st hg;subst hP hw hK;obtain⟨f0,f1,f2,f3,f4,f5⟩:=hf it (by simp)
  have W:=Walks.range (prog:=X.prog) (w:=X.w) (I.ok.hd hc) it lo 1 n;refine W.item i s _ _ hg st λv h' tk hv st' kk=>?_
  obtain⟨t,rfl⟩:=hv;have I1:Inv X pins σ H { s with heap:=h',toks:=tk }:=I.turned (λb o hb e=>kk b o (by simpa using hb) e) f0 f1 f3 f4 f5
  refine⟨_,rfl,v1h (s:={ s with heap:=h',toks:=tk }) (n:="range_iterator") st' rfl rfl (by decide) ⟨.int (lo+i),H,I1,⟨t,?_⟩,⟨rfl,rfl⟩,st',λb hb=>(hf b hb).1⟩⟩
  rw[Int.mul_one]
 done:=by
  intro X hP hw hK hc i pins s σ H E I hf st hg;subst hP hw hK;obtain⟨f0,f1,f2,f3,f4,f5⟩:=hf it (by simp)
  exact wpAny_pyNext_range_end (I.ok.hd hc) st (by have:n<=i:=hg;omega) λh' eb=>⟨rfl,I.turned (t':=s.toks) (λb o hb e=>eb b o hb e) f0 f1 f3 f4 f5⟩
 self:=λ_ _ _ _ _ st h=>wpAny_pyIter_rangeiter st h
section
variable {X:Cx}{tg:Expr}
def iList (K:W.Frag) (tl:TE):TI:=λσ H R=>tl σ H λx H1=>∃a,x=.ref a/\(∃xs,SqL K H1 a xs)/\R (Itl K a) H1
def iTup (K:W.Frag) (tl:TE):TI:=λσ H R=>tl σ H λx H1=>∃a,x=.ref a/\(∃xs,SqT K H1 a xs)/\R (Itt K a) H1
def v0z {l:Expr}{tl:TE} (hl:PE X l tl):PI X tg l (iList X.K tl):=by
 intro pins s σ H R I h;refine thn (hl pins s σ H _ I h) λv s1 z919=>?_
 obtain⟨x,H1,I1,r1,q1⟩:=z919;obtain⟨a,e,⟨xs,hq⟩,q⟩:=q1;subst e;cases r1;obtain⟨its,rv,p,hz⟩:=I1.list hq;refine wpAny_pyIter_list p.isList ?_;refine⟨s1.heap.objs.size,[s1.heap.objs.size],_,_,H1,rfl,I1.kept (t':=s1.toks) λb o e=>z0 _ e,v0d a _,⟨_,z6 _ rfl,rfl,rfl⟩,λb hb=>?_,q⟩
 have e:b=s1.heap.objs.size:=by simpa using hb
 subst e;exact I1.fpOk (z7 _) (I1.hok.fresh (z7 _))
def pi_tup {l:Expr}{tl:TE} (hl:PE X l tl):PI X tg l (iTup X.K tl):=by
 intro pins s σ H R I h;refine thn (hl pins s σ H _ I h) λv s1 z920=>?_
 obtain⟨x,H1,I1,r1,q1⟩:=z920;obtain⟨a,e,⟨xs,hq⟩,q⟩:=q1;subst e;cases r1;obtain⟨its,rv,p,hz⟩:=I1.tuple hq;refine wpAny_pyIter_tuple (show s1.heap.IsTuple a its.toArray from p) ?_
 refine⟨s1.heap.objs.size,[s1.heap.objs.size],_,_,H1,rfl,I1.kept (t':=s1.toks) λb o e=>z0 _ e,u8U a _,⟨_,z6 _ rfl,rfl,rfl⟩,λb hb=>?_,q⟩
 have e:b=s1.heap.objs.size:=by simpa using hb
 subst e;exact I1.fpOk (z7 _) (I1.hok.fresh (z7 _))
def v2u {pins:LO}{σ:St}{H:Hp}{s:Shared}{R:It->Hp->Prop}{E:VP}{lo hi:Int}{t u v:Tok}{tk:Nat} (I:Inv X pins σ H s) (h1:-(2^62)<=lo) (h2:lo<2^62) (h3:-(2^62)<=hi) (h4:hi<2^62)
  (q:R (Itr lo (hi - lo).toNat) H):wpAny (model X.prog X.w) X.A (pyIter (.ref s.heap.objs.size)) (PIE X pins σ tg R) E { s with heap:=s.heap.push { cls:=.type "range",data:=.fields #[.int lo t,.int hi u,.int 1 v] },toks:=tk }:=by
 refine wpAny_pyIter_range (IsRange.new ..) (small_one h1 h2 h3 h4) ?_;have I1:Inv X pins σ H { s with heap:=s.heap.push { cls:=.type "range",data:=.fields #[.int lo t,.int hi u,.int 1 v] },toks:=tk }:=I.kept λb o e=>z0 _ e
 refine⟨(s.heap.push { cls:=.type "range",data:=.fields #[.int lo t,.int hi u,.int 1 v] }).objs.size,[(s.heap.push { cls:=.type "range",data:=.fields #[.int lo t,.int hi u,.int 1 v] }).objs.size],_,_,H,rfl,
  I1.kept (t':=tk) λb o e=>z0 _ e,u8V _ lo (hi - lo).toNat,?_,λb hb=>?_,q⟩
 ·have e1:lo+((0:Nat):Int)*1=lo:=by simp
  have e2:(((hi - lo).toNat:Nat):Int) - ((0:Nat):Int)=Builtin.Range.rangeSize lo hi 1:=by rw[rangeSize_one];split<;>omega
  show IsRangeIter _ _ (lo+((0:Nat):Int)*1) ((((hi - lo).toNat:Nat):Int) - ((0:Nat):Int)) 1;rw[e1,e2];exact z6 _ rfl
 ·have e:b=(s.heap.push { cls:=.type "range",data:=.fields #[.int lo t,.int hi u,.int 1 v] }).objs.size:=by simpa using hb
  subst e;exact I1.fpOk (z7 _) (I1.hok.fresh (z7 _))
def iRng1 (ta:TA):TI:=λσ H R=>ta σ H λvs H1=>∃j:Int,vs=[.int j]/\-(2^62)<=j/\j<2^62/\R (Itr 0 j.toNat) H1
def v0y {a:Expr}{ta:TA}{p pos:Pos} (hg:Gl X "range") (hm:X.mg "range"=none) (ha:PA X [a] ta) (hs:starEach [a] X.env=[(false,eval a X.env)]:=by rfl):PI X tg (.Call (.Name "range" p) [a] [] pos) (iRng1 ta):=by
 intro pins s σ H R I h;refine Call_ (u3s I hg hm boot_range (PyProof.Rows.callWith_type1 (thn (ha pos pins s σ H _ I h) λus s1 z921=>?_) hs rfl))
 obtain⟨vs,H1,I1,r1,q1⟩:=z921;obtain⟨j,e,q1,q2,q⟩:=q1;subst e;cases r1 with
 | cons r rr =>
  cases rr;obtain⟨t,rfl⟩:=r;exact call_range_1 (v2u I1 (by omega) (by omega) q1 q2 (by simpa using q))
def tFor (wi:TI) (g:TG) (tb:TS):TS:=λD σ H=>wi σ H λJ H1=>∃W:Nat->Nat->St->Hp->Prop,(∃m,W 0 m σ H1)/\∀i m σ H,W i m σ H ->
 (J.stop i H/\D.nx σ H)\/(J.go i H/\∃N:St->Hp->Prop,(∀σ' H',N σ' H'->∃m',m'<m/\W (i+1) m' σ' H')/\∀x H',J.yld i H x H'->g x σ H' λσ2 H2=>tb { D with nx:=N,ct:=N,bk:=D.nx } σ2 H2)
noncomputable def pinsAt (fp:List Addr) (h:Heap):LO:=fp.filterMap λb=>(h.get? b).map λo=>(b,o)
def u2i {fp:List Addr}{h:Heap}{b:Addr}{o:Obj} (hb:b∈fp) (e:h.get? b=some o):(b,o)∈pinsAt fp h:=List.mem_filterMap.mpr ⟨b,hb,by rw[e];rfl⟩
def v0D {fp:List Addr}{h:Heap}{p:Addr×Obj} (hp:p∈pinsAt fp h):p.1∈fp/\h.get? p.1=some p.2:=by
 obtain⟨b,hb,e⟩:=List.mem_filterMap.mp hp;cases q:h.get? b with
 | none=>rw[q] at e;cases e
 | some o =>
  rw[q] at e;have e':(b,o)=p:=Option.some.inj e;subst e';exact⟨hb,q⟩
def Inv.pinned {pins:LO}{σ:St}{H:Hp}{s:Shared}{fp:List Addr} (I:Inv X pins σ H s) (hf:∀b∈fp,FpOk X pins H b) (ho:∀b∈fp,∃o,s.heap.get? b=some o/\∀v,o.data≠.cell v):Inv X (pins++pinsAt fp s.heap) σ H s :=
 I.pins_of λp hp=>(v1.mp hp).elim (λz=>I.pin p (w5 _ z)) λz=>by
  obtain⟨hb,e⟩:=v0D z;obtain⟨f0,f1,f2,_⟩:=hf p.1 hb;obtain⟨o,e',d⟩:=ho p.1 hb;rw[e] at e';cases e';exact⟨e,f0,f1,f2,d⟩
def Inv.unpinned {pins pl:LO}{σ:St}{H:Hp}{s:Shared} (I:Inv X (pins++pl) σ H s):Inv X pins σ H s:=I.pins_of λp hp=>I.pin p (w5 _ (u4 _ hp))
def v3N {iter:Expr}{body:List Stmt}{wi:TI}{g:TG}{tb:TS}{pos:Pos} (hp:PassesOwn (model X.prog X.w) X.A X.env X.xe) (hc:X.calm=true) (hi:PI X tg iter wi) (hg:PG X tg g) (hb:PSs X body tb)
  (hs:∀x,foldedSetIterable iter X.env x=pure x:=by intro _;rfl):PS X (.For tg iter body [] pos) (tFor wi g tb):=by
 intro pins s σ H D I h;refine wpAny_For (thn (hi pins s σ H _ I h) λv s1 h1=>thn h1 λitv s2 h2=>?_) hs
 obtain⟨it,fp,tn,J,H2,e,I2,T,st2,f2,W,⟨m0,w0⟩,turn⟩:=h2;subst e;have stat:∀{H':Hp},(∀b∈fp,H' b=none)->∀b∈fp,FpOk X pins H' b:=λhn b hb=>⟨hn b hb,(f2 b hb).2⟩
 refine codeAny_forLoop_any (λn s'=>∃i σ' H',Inv X pins σ' H' s'/\tn i s'.heap/\(∀b∈fp,H' b=none)/\W i n σ' H') ?_ m0 ⟨0,σ,H2,I2,st2,λb hb=>(f2 b hb).1,w0⟩
 rintro n s3 ⟨i,σ3,H3,I3,st3,fr3,w3⟩;rcases turn i n σ3 H3 w3 with⟨stop,qn⟩|⟨go,N,hN,step⟩
 ·refine wpAny_passesOwn hp (thn (T.done X rfl rfl rfl hc i pins s3 σ3 H3 X.xe I3 (stat fr3) st3 stop) fun r s4 z922=>?_)
  obtain⟨hr,I4⟩:=z922;subst hr;exact wpAny_execs_nil ⟨σ3,H3,I4,qn⟩
 ·refine wpAny_passesOwn hp (thn (T.item X rfl rfl rfl hc i pins s3 σ3 H3 X.xe I3 (stat fr3) st3 go) fun r s4 z923=>?_)
  obtain⟨u,hr,h4⟩:=z923;subst hr;refine wpAny_passesOwn hp (thn h4 λ_ s5 z924=>?_)
  obtain⟨x,H5,I5,r5,y5,st5,fr5⟩:=z924;have I5':=I5.pinned (stat fr5) (T.obj _ _ st5);refine wpAny_passesOwn hp (thn (hg _ s5 σ3 H5 x u _ I5' r5 (step x H5 y5)) λ_ s6 z925=>?_)
  obtain⟨σ6,H6,I6,q6⟩:=z925;refine wpAny_passesOwn hp (thn (hb _ s6 σ6 H6 _ I6 q6) λf s7 q7=>?_)
  have again:∀{σ7:St}{H7:Hp},Inv X (pins++pinsAt fp s5.heap) σ7 H7 s7->N σ7 H7->∃m,m<n/\∃i σ' H',Inv X pins σ' H' s7/\tn i s7.heap/\(∀b∈fp,H' b=none)/\W i m σ' H':=λ{σ7 H7} I7 n7=>by
   obtain⟨m',hm,w7⟩:=hN σ7 H7 n7;refine⟨m',hm,i+1,σ7,H7,I7.unpinned,T.keep _ _ _ st5 λb hb o e=>(I7.pin (b,o) (w5 _ (w5 _ (u2i hb e)))).1,λb hb=>?_,w7⟩
   obtain⟨o,e,d⟩:=T.obj _ _ st5 b hb;exact(I7.pin (b,o) (w5 _ (w5 _ (u2i hb e)))).2.1
  cases f with
  | next=>obtain⟨σ7,H7,I7,n7⟩:=q7;exact again I7 n7
  | cont=>obtain⟨σ7,H7,I7,n7⟩:=q7;exact again I7 n7
  | brk=>obtain⟨σ7,H7,I7,q7⟩:=q7;exact⟨σ7,H7,I7.unpinned,q7⟩
  | ret v=>obtain⟨x7,σ7,H7,I7,r7,q7⟩:=q7;exact⟨x7,σ7,H7,I7.unpinned,r7,q7⟩
end
abbrev R2:=V->V->Hp->VK->Prop
def OpR (X:Cx) (f:Value->Value->Sem Value) (r:R2):Prop :=
 ∀(pins:LO) (s:Shared) (σ:St) (H:Hp) (x y:V) (v u:Value) (Q:VK),Inv X pins σ H s->RelV x v->RelV y u->r x y H Q ->
  wpAny (model X.prog X.w) X.A (f v u) (EP X pins σ Q) X.xe s
def CallR (X:Cx) (f:Value) (r:List V->Hp->VK->Prop):Prop :=
 ∀(pins:LO) (s:Shared) (σ:St) (H:Hp) (xs:List V) (us:List Value) (Q:VK),Inv X pins σ H s->Vals xs us->r xs H Q ->
  wpAny (model X.prog X.w) X.A (call f us) (EP X pins σ Q) X.xe s
def TruR (X:Cx) (r:V->Hp->(Bool->Hp->Prop)->Prop):Prop :=
 ∀(pins:LO) (s:Shared) (σ:St) (H:Hp) (x:V) (v:Value) (Q:Bool->Hp->Prop),Inv X pins σ H s->RelV x v->r x H Q ->
  wpAny (model X.prog X.w) X.A (truthy v) (TP X pins σ Q) X.xe s
def tOp (r:R2) (ta tb:TE):TE:=λσ H Q=>ta σ H λx H1=>tb σ H1 λy H2=>r x y H2 Q
def rI (C:Int->Int->Prop) (g:Int->Int->V):R2:=λx y H Q=>∃i j,x=.int i/\y=.int j/\C i j/\Q (g i j) H
def rI0 (g:Int->Int->V):R2:=λx y H Q=>∃i j,x=.int i/\y=.int j/\Q (g i j) H
section
variable {X:Cx}{a b c:Expr}{ta tb tc:TE}{pos:Pos}
def binT (ha:PE X a ta) (hb:PE X b tb) {pins:LO}{s:Shared}{σ:St}{H:Hp}{R:V->V->Hp->Prop} (I:Inv X pins σ H s)
  (h:ta σ H λx H1=>tb σ H1 λy H2=>R x y H2) {Q:VP}{f:Value->Value->Sem Value}
  (hf:∀v u s2 x y H2,Inv X pins σ H2 s2->RelV x v->RelV y u->R x y H2->wpAny (model X.prog X.w) X.A (f v u) Q X.xe s2) :
  wpAny (model X.prog X.w) X.A (eval a X.env) (λv s₁=>wpAny (model X.prog X.w) X.A (eval b X.env) (λu s₂=>wpAny (model X.prog X.w) X.A (f v u) Q X.xe s₂) X.xe s₁) X.xe s:=by
 refine thn (ha pins s σ H _ I h) λv s1 z926=>?_
 obtain⟨x,H1,I1,r1,q1⟩:=z926;refine thn (hb pins s1 σ H1 _ I1 q1) λu s2 z927=>?_
 obtain⟨y,H2,I2,r2,q2⟩:=z927;exact hf v u s2 x y H2 I2 r1 r2 q2
def pe_op {op:Operator}{r:R2} (ho:OpR X (binaryOp op) r) (ha:PE X a ta) (hb:PE X b tb):PE X (.BinOp a op b pos) (tOp r ta tb):=by
 intro pins s σ H Q I h;exact wpAny_BinOp (binT ha hb I h λv u s2 x y H2 I2 rx ry q=>ho pins s2 σ H2 x y v u Q I2 rx ry q)
def opI {f:Value->Value->Sem Value}{C:Int->Int->Prop}{g:Int->Int->Int}
  (rule:∀(i j:Int) (t u:Tok) (s:Shared) (Q:VP) (E:VP),C i j->Q (.int (g i j) s.toks) { s with toks:=s.toks+1 }->wpAny (model X.prog X.w) X.A (f (.int i t) (.int j u)) Q E s) :
  OpR X f (rI C λi j=>.int (g i j)):=by
 intro pins s σ H x y v u Q I rx ry h;obtain⟨i,j,rfl,rfl,hc,q⟩:=h;obtain⟨t,rfl⟩:=rx;obtain⟨t',rfl⟩:=ry;exact rule i j t t' s _ _ hc ⟨.int (g i j),H,I.tok _,⟨_,rfl⟩,q⟩
def opI0 {f:Value->Value->Sem Value}{g:Int->Int->Int}
  (rule:∀(i j:Int) (t u:Tok) (s:Shared) (Q:VP) (E:VP),Q (.int (g i j) s.toks) { s with toks:=s.toks+1 }->wpAny (model X.prog X.w) X.A (f (.int i t) (.int j u)) Q E s) :
  OpR X f (rI0 λi j=>.int (g i j)):=by
 intro pins s σ H x y v u Q I rx ry h;obtain⟨i,j,rfl,rfl,q⟩:=h;obtain⟨t,rfl⟩:=rx;obtain⟨t',rfl⟩:=ry;exact rule i j t t' s _ _ ⟨.int (g i j),H,I.tok _,⟨_,rfl⟩,q⟩
def opB0 {f:Value->Value->Sem Value}{g:Int->Int->Bool}
  (rule:∀(i j:Int) (t u:Tok) (s:Shared) (Q:VP) (E:VP),Q (.bool (g i j)) s->wpAny (model X.prog X.w) X.A (f (.int i t) (.int j u)) Q E s) :
  OpR X f (rI0 λi j=>.bl (g i j)):=by
 intro pins s σ H x y v u Q I rx ry h;obtain⟨i,j,rfl,rfl,q⟩:=h;obtain⟨t,rfl⟩:=rx;obtain⟨t',rfl⟩:=ry;exact rule i j t t' s _ _ ⟨.bl (g i j),H,I,rfl,q⟩
def CPow (i j:Int):Prop:=0<=j/\j<=1000000/\i.natAbs<2^64
def CMul (i j:Int):Prop:=(-(2^64)<i/\i<2^64)\/(-(2^64)<j/\j<2^64)
def CMul.ok {i j:Int} (h:CMul i j):IntMulOk i j:=by
 rcases h with⟨h1,h2⟩|⟨h1,h2⟩
 ·exact .of_left (intBits_le_64 h1 h2)
 ·exact .of_right (intBits_le_64 h1 h2)
def op_add:OpR X (binaryOp .Add) (rI0 λi j=>.int (i+j)):=opI0 λ_ _ _ _ _ _ _ q=>add_int q
def op_sub:OpR X (binaryOp .Sub) (rI0 λi j=>.int (i - j)):=opI0 λ_ _ _ _ _ _ _ q=>sub_int q
def op_mul:OpR X (binaryOp .Mult) (rI CMul λi j=>.int (i*j)):=opI λ_ _ _ _ _ _ _ hc q=>mul_int q hc.ok
def op_mod:OpR X (binaryOp .Mod) (rI (λ_ j=>0<j) λi j=>.int (i%j)):=opI λi j _ _ _ _ _ hc q=>by
 have h1:(0:Int)<j:=hc;exact mod_int' (by omega) (by rw[Int.fmod_eq_emod_of_nonneg i (by omega)];exact q)
def op_pow:OpR X (binaryOp .Pow) (rI CPow λi j=>.int (i^j.toNat)):=opI λ_ _ _ _ _ _ _ hc q=>pow_int_small hc.1 hc.2.1 hc.2.2 q
def v1q {pins:LO}{σ:St}{H:Hp}{s:Shared}{Q:VK}{k k':Bool} (I:Inv X pins σ H s) (q:Q (.bl k) H) (e:k=k'):EP X pins σ Q (.bool k') s:=by
 subst e;exact⟨.bl k,H,I,rfl,q⟩
def op_lt:OpR X (compareOp .Lt) (rI0 λi j=>.bl (decide (i<j))):=opB0 λ_ _ _ _ _ _ _ q=>lt_int q
def op_le:OpR X (compareOp .LtE) (rI0 λi j=>.bl (decide (i<=j))):=opB0 λ_ _ _ _ _ _ _ q=>le_int q
def op_gt:OpR X (compareOp .Gt) (rI0 λi j=>.bl (decide (j<i))):=opB0 λ_ _ _ _ _ _ _ q=>gt_int q
def op_ge:OpR X (compareOp .GtE) (rI0 λi j=>.bl (decide (j<=i))):=opB0 λ_ _ _ _ _ _ _ q=>ge_int q
def v0C:OpR X (compareOp .In) (λx y H Q=>∃i j,x=.str i/\y=.str j/\Q (.bl (!(Builtin.Str.occurrences j i 0 j.length 1).isEmpty)) H):=by
 intro pins s σ H x y v u Q I rx ry h;obtain⟨i,j,rfl,rfl,q⟩:=h;obtain⟨t,rfl⟩:=rx;obtain⟨t',rfl⟩:=ry;exact in_str (v1q I q rfl)
def op_isN:OpR X (compareOp .Is) (λx y H Q=>y=.non/\Q (.bl (decide (x=.non))) H):=by
 intro pins s σ H x y v u Q I rx ry h;obtain⟨rfl,q⟩:=h;cases ry;refine is_none_gen (v1q I q ?_);cases x<;>first
  | (cases rx;rfl)
  | (obtain⟨t,rfl⟩:=rx;rfl)
def op_notN:OpR X (compareOp .IsNot) (λx y H Q=>y=.non/\Q (.bl (!decide (x=.non))) H):=by
 intro pins s σ H x y v u Q I rx ry h;obtain⟨rfl,q⟩:=h;cases ry;refine isnot_none_gen (v1q I q ?_);cases x<;>first
  | (cases rx;rfl)
  | (obtain⟨t,rfl⟩:=rx;rfl)
def nomark (b:Expr) {op:CmpOp} (h:op≠.In:=by decide) (h2:op≠.NotIn:=by decide):behindInMarks op b=false:=by
 have e1:(op==CmpOp.In)=false:=by cases op<;>first|rfl|exact absurd rfl h
 have e2:(op==CmpOp.NotIn)=false:=by cases op<;>first|rfl|exact absurd rfl h2
 cases b<;>simp[behindInMarks,e1,e2]
def pe_cmpR {op:CmpOp}{r:R2} (ho:OpR X (compareOp op) r) (ha:PE X a ta) (hb:PE X b tb) (hm:behindInMarks op b=false):PE X (.Compare a [op] [b] pos) (tOp r ta tb):=by
 intro pins s σ H Q I h;exact wpAny_Compare1 (binT ha hb I h λv u s2 x y H2 I2 rx ry q=>ho pins s2 σ H2 x y v u Q I2 rx ry q) hm
def tTest (t:TE):TT:=λσ H Q=>t σ H λx H'=>∃k,x=.bl k/\Q k H'
def pt_cmpR {op:CmpOp}{r:R2} (ho:OpR X (compareOp op) r) (ha:PE X a ta) (hb:PE X b tb) (hm:behindInMarks op b=false):PT X (.Compare a [op] [b] pos) (tTest (tOp r ta tb)):=by
 intro pins s σ H Q I h;refine wpAny_isTrue_Compare1 (thn (ha pins s σ H _ I h) λv s1 ⟨x,H1,I1,r1,q1⟩=>thn (hb pins s1 σ H1 _ I1 q1) λu s2 ⟨y,H2,I2,r2,q2⟩ =>
  thn (ho pins s2 σ H2 x y v u _ I2 r1 r2 q2) λc s3 ⟨z,H3,I3,r3,k,e,q3⟩=>?_) hm
 subst e;cases r3;exact wpAny_truthy_bool ⟨H3,I3,q3⟩
def tChain (r r':R2) (ta tb tc:TE):TE:=λσ H Q=>ta σ H λx H1=>tb σ H1 λy H2=>r x y H2 λz H3=>∃k,z=.bl k /\
 (if k=true then tc σ H3 λw' H4=>r' y w' H4 Q else Q (.bl false) H3)
def v2H {op op':CmpOp}{r r':R2} (ho:OpR X (compareOp op) r) (ho':OpR X (compareOp op') r') (ha:PE X a ta) (hb:PE X b tb) (hc:PE X c tc)
  (hm:lastMarks [op,op'] [b,c]=false:=by with_unfolding_all rfl):PE X (.Compare a [op,op'] [b,c] pos) (tChain r r' ta tb tc):=by
 intro pins s σ H Q I h;refine Compare_chain (thn (ha pins s σ H _ I h) λv s1 ⟨x,H1,I1,r1,q1⟩=>chain_link (thn (hb pins s1 σ H1 _ I1 q1) λu s2 ⟨y,H2,I2,r2,q2⟩ =>
  thn (ho pins s2 σ H2 x y v u _ I2 r1 r2 q2) λd s3 ⟨z,H3,I3,r3,k,e,q3⟩=>?_)) hm
 subst e;cases r3;refine wpAny_truthy_bool ?_;cases k with
 | false=>exact ite_ff ⟨.bl false,H3,I3,rfl,q3⟩
 | true=>exact ite_tt (chain_last (thn (hc pins s3 σ H3 _ I3 q3) λw' s4 z934=>by obtain⟨z',H4,I4,r4,q4⟩:=z934;exact ho' pins s4 σ H4 y z' u w' Q I4 r2 r4 q4))
def v2w {op op':CmpOp}{r r':R2} (ho:OpR X (compareOp op) r) (ho':OpR X (compareOp op') r') (ha:PE X a ta) (hb:PE X b tb) (hc:PE X c tc)
  (hm:lastMarks [op,op'] [b,c]=false:=by with_unfolding_all rfl):PT X (.Compare a [op,op'] [b,c] pos) (tTest (tChain r r' ta tb tc)):=by
 intro pins s σ H Q I h;refine isTrue_chain (thn (ha pins s σ H _ I h) λv s1 ⟨x,H1,I1,r1,q1⟩=>test_link (thn (hb pins s1 σ H1 _ I1 q1) λu s2 ⟨y,H2,I2,r2,q2⟩ =>
  thn (ho pins s2 σ H2 x y v u _ I2 r1 r2 q2) λd s3 ⟨z,H3,I3,r3,k,e,q3⟩=>?_)) hm
 subst e;cases r3;refine wpAny_truthy_bool ?_;cases k with
 | false =>
  obtain⟨k',e',q'⟩:=q3;cases e';exact ite_ff ⟨H3,I3,q'⟩
 | true =>
  refine ite_tt (test_last (thn (hc pins s3 σ H3 _ I3 q3) λw' s4 ⟨z',H4,I4,r4,q4⟩=>thn (ho' pins s4 σ H4 y z' u w' _ I4 r2 r4 q4) λd' s5 z939=>?_))
  obtain⟨z2,H5,I5,r5,k2,e2,q5⟩:=z939;subst e2;cases r5;exact wpAny_truthy_bool ⟨H5,I5,q5⟩
def TruV (K:W.Frag) (x:V) (H:Hp) (k:Bool):Prop :=
 match x with
 | .non=>k=false
 | .bl b=>k=b
 | .int i=>k=(i != 0)
 | .str y=>y.length<=sizeLine/\k=((y.length:Int) != 0)
 | .byt y=>y.size<=sizeLine/\k=((y.size:Int) != 0)
 | .ref p=>(∃xs,SqL K H p xs/\k=!xs.isEmpty)\/(∃xs,SqT K H p xs/\k=!xs.isEmpty)\/∃kvs,H p=some (.dK kvs)/\k=!kvs.isEmpty
 | _=>False
def u9N {κ:Type}{kvs:List (κ×V)}{vs:List (κ×Value)} (r:KV kvs vs):(!vs.isEmpty)=!kvs.isEmpty:=by
 cases r<;>rfl
def u5c {xs:List V}{its:List Value} (r:Vals xs its):(!its.toArray.isEmpty)=!xs.isEmpty:=by
 cases r<;>simp
def line63:(sizeLine:Nat)<2^63:=by rw[sizeLine_eq];decide
def tru_ok:TruR X (λx H Q=>∃k,TruV X.K x H k/\Q k H):=by
 intro pins s σ H x v Q I rx h;obtain⟨k,e,q⟩:=h;have hl:=line63;have hs:sizeLine=16777216:=sizeLine_eq;cases x with
 | non =>
  cases rx;have e':k=false:=e;subst e';exact truthy_none ⟨H,I,q⟩
 | bl b =>
  cases rx;have e':k=b:=e;subst e';exact wpAny_truthy_bool ⟨H,I,q⟩
 | int i =>
  obtain⟨t,rfl⟩:=rx;have e':k=(i != 0):=e;subst e';exact PySem.P.truthy_int ⟨H,I,q⟩
 | str y =>
  obtain⟨t,rfl⟩:=rx;obtain⟨hy,e'⟩:y.length<=sizeLine/\k=((y.length:Int) != 0):=e;subst e';exact PySem.P.truthy_str (by omega) ⟨H,I.tok _,q⟩
 | byt y =>
  obtain⟨t,rfl⟩:=rx;obtain⟨hy,e'⟩:y.size<=sizeLine/\k=((y.size:Int) != 0):=e;subst e';exact W.truthy_bytes (by omega) ⟨H,I.tok _,q⟩
 | ref p =>
  cases rx;have e':(∃xs,SqL X.K H p xs/\k=!xs.isEmpty)\/(∃xs,SqT X.K H p xs/\k=!xs.isEmpty)\/∃kvs,H p=some (.dK kvs)/\k=!kvs.isEmpty:=e;rcases e' with⟨xs,hx,e'⟩|⟨xs,hx,e'⟩|⟨kvs,hx,e'⟩
  ·subst e'
   obtain⟨its,r,pl,hz⟩:=I.list hx;have hlen:=r.length;exact wpAny_truthy_list pl.isList (by simp only[y1];omega) ⟨H,I.tok _,by rw[u5c r];exact q⟩
  ·subst e'
   obtain⟨its,r,pl,hz⟩:=I.tuple hx;have hlen:=r.length;exact truthy_tuple pl (by simp only[y1];omega) ⟨H,I.tok _,by rw[u5c r];exact q⟩
  ·subst e'
   obtain⟨hz,hS,vs,r,m⟩:kvs.length<=sizeLine/\(p==sysModules)=false/\∃vs,KV kvs vs/\s.heap.DictOf (mixKind X.prog X.w) p vs:=I.hok p _ hx;have hlen:kvs.length=vs.length:=Paired.length r;exact wpAny_truthy_dict hS m (by omega) ⟨H,I.tok _,by rw[u9N r];exact q⟩
 | _=>exact(show False from e).elim
def u9E:OpR X (binaryOp .Add) (λx y H Q=>∃i j,x=.str i/\y=.str j/\i.length+j.length<=sizeLine/\Q (.str (i++j)) H):=by
 intro pins s σ H x y v u Q I rx ry h;obtain⟨i,j,rfl,rfl,hz,q⟩:=h;obtain⟨t,rfl⟩:=rx;obtain⟨t',rfl⟩:=ry;exact add_str (λt' tk=>⟨.str (i++j),H,I.tok _,⟨_,rfl⟩,q⟩) hz
def vals1 {x:V}{us:List Value} (r:Vals [x] us):∃u,us=[u]/\RelV x u:=by
 cases r with
 | cons r1 r2=>cases r2;exact⟨_,rfl,r1⟩
def vals2 {x y:V}{us:List Value} (r:Vals [x,y] us):∃u w',us=[u,w']/\RelV x u/\RelV y w':=by
 cases r with
 | cons r1 r2 =>
  cases r2 with
  | cons r3 r4=>cases r4;exact⟨_,_,rfl,r1,r3⟩
def v1Q (hc:X.calm=true):CallR X (.builtin "max") (λxs H Q=>∃i j,xs=[.int i,.int j]/\Q (.int (if j > i then j else i)) H):=by
 intro pins s σ H xs us Q I r h;obtain⟨i,j,rfl,q⟩:=h;obtain⟨u,w',rfl,⟨t,rfl⟩,⟨t',rfl⟩⟩:=vals2 r;refine max_two_ints (I.ok.hd hc) λh' tk k=>⟨_,H,I.kept k,?_,q⟩
 by_cases hj:j > i
 ·rw[if_pos hj,if_pos hj];exact⟨_,rfl⟩
 ·rw[if_neg hj,if_neg hj];exact⟨_,rfl⟩
def LenV (K:W.Frag) (x:V) (H:Hp) (n:Nat):Prop :=
 match x with
 | .str y=>y.length<=sizeLine/\n=y.length
 | .byt y=>y.size<=sizeLine/\n=y.size
 | .ref p=>(∃xs,SqL K H p xs/\n=xs.length)\/∃xs,SqT K H p xs/\n=xs.length
 | _=>False
def u5T:CallR X (.builtin "len") (λxs H Q=>∃x n,xs=[x]/\LenV X.K x H n/\Q (.int n) H):=by
 intro pins s σ H xs us Q I r h;obtain⟨x,n,rfl,e,q⟩:=h;obtain⟨u,rfl,rx⟩:=vals1 r;have hl:=line63;have hs:sizeLine=16777216:=sizeLine_eq;cases x with
 | str y =>
  obtain⟨t,rfl⟩:=rx;obtain⟨hy,e'⟩:y.length<=sizeLine/\n=y.length:=e;subst e';exact len_str (by omega) ⟨.int _,H,I.tok _,⟨_,rfl⟩,q⟩
 | byt y =>
  obtain⟨t,rfl⟩:=rx;obtain⟨hy,e'⟩:y.size<=sizeLine/\n=y.size:=e;subst e';exact W.len_bytes (by omega) ⟨.int _,H,I.tok _,⟨_,rfl⟩,q⟩
 | ref p =>
  cases rx;have e':(∃xs,SqL X.K H p xs/\n=xs.length)\/∃xs,SqT X.K H p xs/\n=xs.length:=e;rcases e' with⟨xs,hx,e'⟩|⟨xs,hx,e'⟩
  ·subst e'
   obtain⟨its,r',pl,hz⟩:=I.list hx;have hlen:=r'.length;exact Calls.call_len_list pl.isList (by simp only[y1];omega) ⟨.int xs.length,H,I.tok _,⟨_,by simp only[y1];rw[hlen]⟩,q⟩
  ·subst e'
   obtain⟨its,r',pl,hz⟩:=I.tuple hx;have hlen:=r'.length;exact len_tuple pl (by simp only[y1];omega) ⟨.int xs.length,H,I.tok _,⟨_,by simp only[y1];rw[hlen]⟩,q⟩
 | _=>exact(show False from e).elim
end
structure ObjM (h:Heap) (x dx C:Addr) (mA:MG):Prop where
 obj:h.get? x=some (W.instObj C dx)
 ns:h.Ns1 dx mA
 ne:dx≠x
set_option tactic.hygienic true in
def u6C {h:Heap}{dx:Addr}{mA:MG} (n:h.Ns1 dx mA):∃od,h.get? dx=some od/\∀name,W.lookIn name od=some (mA name):=by
 obtain⟨o,es,ep,ho,hd,hk,_,hm⟩:=n;refine⟨o,ho,λname=>?_⟩
 have e:=hm name;unfold nsFind findBy at e;rw[<- Array.find?_toList] at e;unfold W.lookIn;rw[hd];dsimp only;split
 ·rename_i y q
  rw[q] at e;exact congrArg some e
 ·rename_i q
  rw[q] at e;have a:es.toList.any (·.refKey)=false:=by
   rw[List.any_eq_false];intro y hy;obtain⟨z,t,hkey⟩:=hk y (Array.mem_toList_iff.mp hy);simp[DictEntry.refKey,hkey]
  have a':¬ es.toList.any (·.refKey)=true:=by rw[a];exact v6
  rw[if_neg a'];exact congrArg some e
def ObjM.look {h:Heap}{x dx C:Addr}{mA:MG} (I:ObjM h x dx C mA):∃od,W.InstAt h x (W.instObj C dx) C (some od)/\∀name,W.lookIn name od=some (mA name) :=
 let ⟨od,ho,hl⟩:=u6C I.ns
 ⟨od,⟨I.obj,rfl,rfl,ho⟩,hl⟩
section
variable {prog:Program}{w:World}{A:Around}{E:VP}{s:Shared}{K:W.Frag}{x dx C f:Addr}{mA:MG}{name:Str}{v:Value}
def get_map {expr:Bool}{Q:VP} (X:K.In s.heap) (I:ObjM s.heap x dx C mA) (hg:W.plainGet K C name=true) (hh:W.hasDictIn K C=true)
  (ha:W.findIn K (.ref C) name=some none) (hv:mA name=some v) (hv':W.handedIn v=true) (h:Q v { s with toks:=s.toks+1 }) :
  wpAny (model prog w) A (getAttr (.ref x) name expr) Q E s:=by
 obtain⟨od,J,hl⟩:=I.look;exact W.get_value X J (W.plainGet_of hg).1 (W.findObj_own hh ha rfl (by rw[hl,hv])) hv' h
def v3m {pl:Sem Bool}{Q:Value×List Value->Shared->Prop} (X:K.In s.heap) (I:ObjM s.heap x dx C mA) (hg:W.plainGet K C name=true)
  (hf:W.findIn K (.ref C) name=some (some (.ref f))) (ht:W.isFn K (.ref f)=true) (hv:mA name=none) (h:Q (.ref f,[.ref x]) s) :
  wpAny (model prog w) A (getMethod (.ref x) name pl) Q E s:=by
 obtain⟨od,J,hl⟩:=I.look;exact W.method_fn X J (W.plainGet_of hg).1 (W.plainGet_of hg).2 hf (beq_iff_eq.mp ht) (by show(W.lookIn name od).map (·.isSome)=some false;rw[hl,hv];rfl) h
def set_map {ns:List Str}{Q:Unit->Shared->Prop} (X:K.In s.heap) (I:ObjM s.heap x dx C mA)
  (hs:W.findIn K (.ref C) "__setattr__"=some (some (.builtin "object.__setattr__"))) (hp:W.plainOver K C=true) (ht:W.takerIn K C name=some none) (hh:W.hasDictIn K C=true)
  (hw:PySem.Within mA ns) (hsz:ns.length<=sizeLine)
  (h:∀h',ObjM h' x dx C (λy=>if y=name then some v else mA y)->Heap.SameBut dx s.heap h'->Q () { s with heap:=h',toks:=s.toks+2 }) :
  wpAny (model prog w) A (setAttr (.ref x) name v) Q E s:=by
 obtain⟨od,J,hl⟩:=I.look;refine W.set_plain X J hs (W.osa_open (s:={ s with toks:=s.toks+1 }) (r:=none) X J hp ht λb=>?_)
 obtain⟨cd,hc,hd'⟩:=W.any_some hh;have hx:s.heap.get? x=some ⟨.ref C,some dx,.plain,#[]⟩:=I.obj;refine wpAny_bind (wpAny_pure (wpAny_bind (wpAny_bind (wpAny_loadPart hx (wpAny_bind (W.Looks.here (s:={ s with toks:=s.toks+1 }) (W.looks_clsIn X hc) ?_))))))
 rw[hd'];refine wpAny_pure (a:=some dx) (wpAny_bind (wpAny_pure (wpAny_bind ?_)));refine wpAny_nsSet1 (s:={ s with toks:=s.toks+1 }) I.ns λh' hn2 hs2=>?_
 obtain⟨oD,esD,epD,hoD,hdD,hcD⟩:=hn2.count (PySem.Within.cons name v hw);refine wpAny_bind (wpAny_lookBehind hoD (by rw[hdD];exact pastItsLine_dict (y7 hcD (by rw[v9];omega))) ?_)
 exact wpAny_pure (h _ ⟨(hs2.2 _ (Ne.symm I.ne)).trans I.obj,hn2,I.ne⟩ hs2)
def v2T {R:Result->Shared->Prop}{vs:List Value}{kw:List (Str×Value)} (X:K.In s.heap) (hm:W.makesIn K C=true)
  (hi:W.findIn K (.ref C) "__init__"=some (some (.ref f))) (hf:W.typeIn K (.ref f)=some (.type "function"))
  (h:codeAny (model prog w) (A.under (.builtin "type.__call__" ⟨.ref C::vs,kw⟩)) (.call (.ref f) ⟨.ref (s.heap.objs.size+1)::vs,kw⟩) (W.InitBack (s.heap.objs.size+1) R)
   { s with heap:=(s.heap.push W.emptyDict).push (W.instObj C s.heap.objs.size) }) :
  codeAny (model prog w) A (.call (.ref C) ⟨vs,kw⟩) R s:=by
 obtain⟨hh,g,d,t,os⟩:=s;exact W.make_core (W.makes_of X hm) (W.looks_findIn X hi) (λself=>W.bind_fn X self hf) (.inl rfl) h
end
noncomputable def putF (f:Str) (v:V):List (Str×V)->List (Str×V)
 | []=>[(f,v)]
 | (g,x)::r=>if g=f then (g,v)::r else (g,x)::putF f v r
theorem u4i (f g:Str) (v:V):∀fs:List (Str×V),(putF f v fs).lookup g=if g=f then some v else fs.lookup g
 | []=>by
  show List.lookup g [(f,v)]=_;by_cases h:g=f
  ·have hb:(g==f)=true:=beq_iff_eq.mpr h
   simp only[List.lookup,hb,if_pos h]
  ·have hb:(g==f)=false:=beq_eq_false_iff_ne.mpr h
   simp only[List.lookup,hb,if_neg h]
 | (k,x)::r=>by
  have ih:=u4i f g v r;rw[show putF f v ((k,x)::r)=(if k=f then (k,v)::r else (k,x)::putF f v r) from rfl]
  by_cases hk:k=f
  ·rw [if_pos hk]
   by_cases h:g=k
   ·have hb:(g==k)=true:=beq_iff_eq.mpr h
    simp only[List.lookup,hb,if_pos (h.trans hk)]
   ·have hb:(g==k)=false:=beq_eq_false_iff_ne.mpr h
    simp only[List.lookup,hb,if_neg (λe:g=f=>h (e.trans hk.symm))]
  ·rw [if_neg hk]
   by_cases h:g=k
   ·have hb:(g==k)=true:=beq_iff_eq.mpr h
    simp only[List.lookup,hb,if_neg (λe:g=f=>hk (h.symm.trans e))]
   ·have hb:(g==k)=false:=beq_eq_false_iff_ne.mpr h
    simp only[List.lookup,hb];exact ih
theorem u4l (f:Str) (v:V):∀fs:List (Str×V),f∈(putF f v fs).map (·.1)/\∀g,g∈fs.map (·.1)->g∈(putF f v fs).map (·.1)
 | []=>⟨by simp[putF],λg h=>by simp at h⟩
 | (k,x)::r=>by
  obtain⟨i1,i2⟩:=u4l f v r;rw[show putF f v ((k,x)::r)=(if k=f then (k,v)::r else (k,x)::putF f v r) from rfl]
  by_cases hk:k=f
  ·rw [if_pos hk]
   subst hk;exact⟨by simp,λg h=>by simpa using h⟩
  ·rw [if_neg hk]
   refine⟨?_,λg h=>?_⟩
   ·rw [y9]
    exact z4 _ i1
   ·rw [y9] at h |-
    rcases y0.mp h with e|e
    ·exact y0.mpr (.inl e)
    ·exact z4 _ (i2 g e)
theorem u4k (f:Str) (v:V):∀fs:List (Str×V),(putF f v fs).length<=fs.length+1
 | []=>by simp[putF]
 | (k,x)::r=>by
  have ih:=u4k f v r;rw[show putF f v ((k,x)::r)=(if k=f then (k,v)::r else (k,x)::putF f v r) from rfl]
  by_cases hk:k=f
  ·rw[if_pos hk,v9,v9];omega
  ·rw[if_neg hk,v9,v9];omega
def RelO.some_of {v:V}{o:Option Value} (r:RelO (some v) o):∃u,o=some u/\RelV v u:=by
 cases o with
 | none=>exact(show False from r).elim
 | some u=>exact⟨u,rfl,r⟩
def RelO.none_of {o:Option Value} (r:RelO none o):o=none:=by
 cases o with
 | none=>rfl
 | some u=>exact(show False from r).elim
def u6J {v:V}{u:Value} (r:RelV v u):W.handedIn u=true:=by
 cases v with
 | non=>cases (show u=Value.none from r);rfl
 | bl b=>cases (show u=Value.bool b from r);rfl
 | int i=>obtain⟨t,e⟩:=(show ∃t,u=Value.int i t from r);cases e;rfl
 | str x=>obtain⟨t,e⟩:=(show ∃t,u=Value.str x t from r);cases e;rfl
 | byt b=>obtain⟨t,e⟩:=(show ∃t,u=Value.bytes b t from r);cases e;rfl
 | flt b=>obtain⟨t,e⟩:=(show ∃t,u=Value.float b t from r);cases e;rfl
 | ref a=>cases (show u=Value.ref a from r);rfl
 | ty n=>cases (show u=Value.type n from r);rfl
section
variable {P:Program}{w:World}{H H':Hp}{h h':Heap}{a C dx:Addr}{fs fs':List (Str×V)}
def u5G (hok:HOk P w H h) (e:H a=some (.ins C dx fs)):∃mA,ObjM h a dx C mA/\(∀f,RelO (fs.lookup f) (mA f))/\PySem.Within mA (fs.map (·.1))/\fs.length<=1000/\H dx=some (.own a):=by
 obtain⟨d,z,ne,ob,mA,n,r,q⟩:=(show ObjOk P w H h a (.ins C dx fs) from hok a _ e)
 exact⟨mA,⟨ob,n,ne⟩,r,q,z,d⟩
end
structure Cls (K:W.Frag) (C:Addr):Prop where
 pg:W.plainGet K C Str.empty=true
 hd:W.hasDictIn K C=true
 po:W.plainOver K C=true
 sa:W.findIn K (.ref C) "__setattr__"=some (some (.builtin "object.__setattr__"))
def Cls.get {K:W.Frag}{C:Addr} (c:Cls K C) (f:Str):W.plainGet K C f=true:=c.pg
def NoAttr (K:W.Frag) (C:Addr) (f:Str):Prop:=W.findIn K (.ref C) f=some none
def NoAttr.taker {K:W.Frag}{C:Addr}{f:Str} (n:NoAttr K C f):W.takerIn K C f=some none:=by
 unfold W.takerIn;rw[show W.findIn K (.ref C) f=some none from n]
 rfl
structure Meth (K:W.Frag) (C:Addr) (m:Str) (f:Addr):Prop where
 at_:W.findIn K (.ref C) m=some (some (.ref f))
 fn:W.isFn K (.ref f)=true
 kp:W.keepIn K (.ref f)=true
section
variable {X:Cx}{pins:LO}{σ:St}{H:Hp}{s:Shared}{a C dx:Addr}{fs:List (Str×V)}{f:Str}{v:V}{A:Around}{E:VP}
def u9O {b:Bool}{Q:VP} (I:Inv X pins σ H s) (e:H a=some (.ins C dx fs)) (c:Cls X.K C) (n:NoAttr X.K C f) (l:fs.lookup f=some v)
  (h:∀u s',Inv X pins σ H s'->RelV v u->Q u s'):wpAny (model X.prog X.w) A (getAttr (.ref a) f b) Q E s:=by
 obtain⟨mA,O,r,_,_,_⟩:=u5G I.hok e;obtain⟨u,hu,ru⟩:=RelO.some_of (v:=v) (o:=mA f) (by rw[<- l];exact r f)
 exact get_map I.kIn O (c.get f) c.hd n hu (u6J ru) (h u _ (I.tok _) ru)
def u3i {m:Str}{g:Addr}{pl:Sem Bool}{Q:Value×List Value->Shared->Prop} (I:Inv X pins σ H s) (e:H a=some (.ins C dx fs)) (c:Cls X.K C) (k:Meth X.K C m g) (l:fs.lookup m=none)
  (h:Q (.ref g,[.ref a]) s):wpAny (model X.prog X.w) A (getMethod (.ref a) m pl) Q E s:=by
 obtain⟨mA,O,r,_,_,_⟩:=u5G I.hok e;have hn:mA m=none:=RelO.none_of (by rw[<- l];exact r m)
 exact v3m I.kIn O (c.get m) k.at_ k.fn hn h
def u9a {y:V}{u:Value}{Q:Unit->Shared->Prop} (I:Inv X pins σ H s) (e:H a=some (.ins C dx fs)) (c:Cls X.K C) (n:NoAttr X.K C f) (hl:fs.length<1000) (ry:RelV y u)
  (h:∀s',Inv X pins σ (upd H a (.ins C dx (putF f y fs))) s'->Q () s'):wpAny (model X.prog X.w) A (setAttr (.ref a) f u) Q E s:=by
 obtain⟨mA,O,r,wi,_,ho⟩:=u5G I.hok e;have hz:(fs.map (·.1)).length<=sizeLine:=by rw[x6,sizeLine_eq];omega
 refine set_map I.kIn O c.sa c.po n.taker c.hd wi hz λh' O' sb=>h _ ?_
 have hd:∃o,h'.get? dx=some o:=let ⟨o,_,_,e',_⟩:=O'.ns;⟨o,e'⟩
 refine I.write (x:=a) (e:=dx) (by rw[e];exact True.intro) (.inr ho) (λb q hb z=>(sb.2 b hb).trans z) hd ?_
 refine⟨by rw[u0j O.ne];exact ho,?_,O.ne,O'.obj,_,O'.ns,λg=>?_,λg hg=>?_⟩
 ·have:=u4k f y fs;omega
 ·show RelO ((putF f y fs).lookup g) (if g=f then some u else mA g)
  rw[u4i];by_cases q:g=f
  ·rw[if_pos q,if_pos q];exact ry
  ·rw[if_neg q,if_neg q];exact r g
 ·by_cases q:g=f
  ·rw[q];exact(u4l f y fs).1
  ·refine (u4l f y fs).2 g (wi g fun z=>hg ?_)
   show(if g=f then some u else mA g)=none
   rw[if_neg q];exact z
def Inv.made (I:Inv X pins σ H s):Inv X pins σ (upd (upd H s.heap.objs.size (.own (s.heap.objs.size+1))) (s.heap.objs.size+1) (.ins C s.heap.objs.size []))
  { s with heap:=(s.heap.push W.emptyDict).push (W.instObj C s.heap.objs.size) }:=by
 have e1:(s.heap.push W.emptyDict).get? s.heap.objs.size=some W.emptyDict:=z6 s.heap rfl;have e2:((s.heap.push W.emptyDict).push (W.instObj C s.heap.objs.size)).get? (s.heap.objs.size+1)=some (W.instObj C s.heap.objs.size):=by
  have:=z6 (s.heap.push W.emptyDict) (o:=W.instObj C s.heap.objs.size) rfl
  rwa [Heap.size_push] at this
 have e3:(s.heap.push W.emptyDict).Ns s.heap.objs.size (λ_=>none):=⟨W.emptyDict,#[],_,e1,rfl,(λe he=>absurd he (by simp)),λ_=>rfl⟩
 have I1:=I.laid (a:=s.heap.objs.size) (o:=.own (s.heap.objs.size+1)) (h':=s.heap.push W.emptyDict) (t':=s.toks) (λb u q=>z0 _ q) (z7 _) ⟨_,e1⟩
 refine I1.laid (a:=s.heap.objs.size+1) (o:=.ins C s.heap.objs.size []) (t':=s.toks) (λb u q=>z0 _ q) (Nat.le_of_eq (Heap.size_push _ _)) ?_
 have ne:s.heap.objs.size≠s.heap.objs.size+1:=x0 (Nat.lt_succ_self _);refine⟨by rw[u0j ne,u0g],q9 _,ne,e2,λ_=>none,(Heap.Ns1.of_empty e3).at λo q=>z0 _ q,λ_=>True.intro,λy hy=>absurd rfl hy⟩
def v1V {prog:Program}{w:World}{env:Env}{e:Expr}{f:Str}{pos:Pos}{s:Shared}{Q:VP} (hb:attributeBase e f env (eval e env)=eval e env)
  (h:wpAny (model prog w) A (eval e env) (λo s₁=>wpAny (model prog w) A (getAttr o f true) Q E s₁) E s):wpAny (model prog w) A (eval (.Attribute e f pos) env) Q E s :=
 Attribute_any_ h (by rw[arm_eval_Attribute,hb])
end
def tFld (K:W.Frag) (ta:TE) (f:Str):TE:=λσ H Q=>ta σ H λx H1=>∃a C dx fs v,x=.ref a/\H1 a=some (.ins C dx fs)/\Cls K C/\NoAttr K C f/\fs.lookup f=some v/\Q v H1
def sFld (K:W.Frag) (ta tv:TE) (f:Str):TS:=λD σ H=>tv σ H λy H1=>ta σ H1 λx H2=>∃a C dx fs,x=.ref a/\H2 a=some (.ins C dx fs)/\Cls K C/\NoAttr K C f/\fs.length<1000 /\
 D.nx σ (upd H2 a (.ins C dx (putF f y fs)))
section
variable {X:Cx}{o e value:Expr}{f:Str}{pos pos' tpos:Pos}{ta tv:TE}
def v3P (he:PE X e ta) (hb:attributeBase e f X.env (eval e X.env)=eval e X.env):PE X (.Attribute e f pos) (tFld X.K ta f):=by
 intro pins s σ H Q I h;refine v1V hb (thn (he pins s σ H _ I h) λu s1 z940=>?_)
 obtain⟨x,H1,I1,rx,a,C,dx,fs,v,ex,ea,c,n,l,q⟩:=z940;subst ex;obtain rfl:u=Value.ref a:=rx;exact u9O I1 ea c n l λu' s2 I2 ru=>⟨v,H1,I2,ru,q⟩
def ps_fld (ha:PE X o ta) (hv:PE X value tv) (hs:swapsWith value (some (.Attribute o f pos')) pos.line X.env=pure false):PS X (.Assign [.Attribute o f pos'] value pos) (sFld X.K ta tv f):=by
 intro pins s σ H D I h;refine plainObj_wpAny_Assign_Attribute (thn (hv pins s σ H _ I h) λu s1 ⟨y,H1,I1,ry,q⟩=>thn (ha pins s1 σ H1 _ I1 q) λov s2 z942=>?_) hs
 obtain⟨x,H2,I2,rx,a,C,dx,fs,ex,ea,c,n,l,q2⟩:=z942;subst ex;obtain rfl:ov=Value.ref a:=rx;exact u9a I2 ea c n l ry λs3 I3=>⟨σ,_,I3,q2⟩
def methcall_of {pl:Sem Bool}{m:Str}{apos:Pos}{args:List Expr}{pins:LO}{s:Shared}{σ:St}{H:Hp}{Q:VP}{te:TE} (he:PE X e te) (I:Inv X pins σ H s)
  (h:te σ H fun x H1=>∃ a C dx fs g,x=.ref a/\H1 a=some (.ins C dx fs)/\Cls X.K C/\Meth X.K C m g/\fs.lookup m=none /\
   ∀s1,Inv X pins σ H1 s1->wpAny (model X.prog X.w) X.A (callWith pos (.ref g) [.ref a] (backTo pos (starEach args X.env)) (backToKw pos (keywordEach [] X.env))) Q X.xe s1)
  (ht:eval (.Call (.Attribute e m apos) args [] pos) X.env=(do
   let ov <- eval e X.env
   standAt apos.atName
   let (f,first) <- holding [ov] (getMethod ov m pl)
   callWith pos f first (backTo pos (starEach args X.env)) (backToKw pos (keywordEach [] X.env)))) :
  wpAny (model X.prog X.w) X.A (eval (.Call (.Attribute e m apos) args [] pos) X.env) Q X.xe s:=by
 refine W.methodCall_KW (pl:=pl) (thn (he pins s σ H _ I h) λu s1 z943=>?_) ht
 obtain⟨x,H1,I1,rx,a,C,dx,fs,g,ex,ea,c,k,l,q⟩:=z943;subst ex;obtain rfl:u=Value.ref a:=rx;exact u3i I1 ea c k l (q s1 I1)
end
section
variable {X:Cx}{pins:LO}{σ:St}{H:Hp}{s:Shared}{A:Around}{E:VP}{Q:VP}{c:Value}{b:Bool}
inductive TyOf (K:W.Frag) (H:Hp):V->Value->Prop where
 | non:TyOf K H .non (.type "NoneType")
 | bl (x:Bool):TyOf K H (.bl x) (.type "bool")
 | int (i:Int):TyOf K H (.int i) (.type "int")
 | str (x:Str):TyOf K H (.str x) (.type "str")
 | flt (x:UInt64):TyOf K H (.flt x) (.type "float")
 | lst {a:Addr}{xs:List V} (e:H a=some (.lst xs)):TyOf K H (.ref a) (.type "list")
 | frz {a:Addr}{o:Obj}{xs:List V} (e:H a=some (.frz o (.lst xs))):TyOf K H (.ref a) (.type "list")
 | tup {a:Addr}{xs:List V} (e:H a=some (.tup xs)):TyOf K H (.ref a) (.type "tuple")
 | dK {a:Addr}{kvs:List (Key×V)} (e:H a=some (.dK kvs)):TyOf K H (.ref a) (.type "dict")
 | dT {a:Addr}{kvs:List (List Key×V)} (e:H a=some (.dT kvs)):TyOf K H (.ref a) (.type "dict")
 | ins {a C dx:Addr}{fs:List (Str×V)} (e:H a=some (.ins C dx fs)) (cl:Cls K C) (ha:W.findIn K (.ref C) "__class__"=some (some (.builtin "object.__class__")))
   (hn:W.specialIn K (.builtin "object.__class__") "__get__"=some (some (.builtin "getset_descriptor.__get__"))) (htk:W.takesIn K (.builtin "object.__class__")=some true)
   (hm:W.mroIn K C (.type "object")=some true):TyOf K H (.ref a) (.ref C)
def u1d {x:V}{u t:Value} (I:Inv X pins σ H s) (rx:RelV x u) (ty:TyOf X.K H x t) (e:W.kitOne X.K t c=some b) (h:∀tk,Q (.bool b) { s with toks:=tk }) :
  wpAny (model X.prog X.w) A (call (.builtin "isinstance") [u,c]) Q E s:=by
 cases ty with
 | non=>cases (show u=Value.none from rx);exact W.kia_one W.kitx_none I.kIn True.intro e (λz=>nomatch z) h
 | bl y=>cases (show u=Value.bool y from rx);exact W.kia_one W.kitx_bool I.kIn True.intro e (λz=>nomatch z) h
 | int i=>obtain⟨t,q⟩:=(show ∃t,u=Value.int i t from rx);cases q;exact W.kia_one W.kitx_int I.kIn True.intro e (λz=>nomatch z) h
 | str y=>obtain⟨t,q⟩:=(show ∃t,u=Value.str y t from rx);cases q;exact W.kia_one W.kitx_str I.kIn True.intro e (λz=>nomatch z) h
 | flt y=>obtain⟨t,q⟩:=(show ∃t,u=Value.float y t from rx);cases q;exact W.kia_one W.kitx_float I.kIn True.intro e (λz=>nomatch z) h
 | @lst a xs ea =>
  cases (show u=Value.ref a from rx)
  obtain⟨_,_,n,_,h1⟩:=(show ObjOk X.prog X.w H s.heap a (.lst xs) from I.hok a _ ea)
  exact W.kia_one W.kitx_list I.kIn ⟨_,h1,rfl⟩ e (λz=>nomatch z) h
 | @frz a ob xs ea =>
  cases (show u=Value.ref a from rx)
  obtain⟨_,_,_,n,_,h1⟩:=(show ObjOk X.prog X.w H s.heap a (.frz ob (.lst xs)) from I.hok a _ ea)
  exact W.kia_one W.kitx_list I.kIn ⟨_,h1,rfl⟩ e (λz=>nomatch z) h
 | @tup a xs ea =>
  cases (show u=Value.ref a from rx)
  obtain⟨_,_,_,p⟩:=(show ObjOk X.prog X.w H s.heap a (.tup xs) from I.hok a _ ea)
  obtain⟨o,h1,h2,_⟩:=p;exact W.kia_one W.kitx_tuple I.kIn ⟨o,h1,h2⟩ e (λz=>nomatch z) h
 | @dK a kvs ea =>
  cases (show u=Value.ref a from rx)
  obtain⟨_,_,vs,_,p⟩:=(show ObjOk X.prog X.w H s.heap a (.dK kvs) from I.hok a _ ea)
  obtain⟨o,es,ep,h1,h2,_⟩:=p;exact W.kia_one W.kitx_dict I.kIn ⟨o,h1,h2.1⟩ e (λz=>nomatch z) h
 | @dT a kvs ea =>
  cases (show u=Value.ref a from rx)
  obtain⟨_,_,xs,_,o,es,ep,h1,h2,_⟩:=(show ObjOk X.prog X.w H s.heap a (.dT kvs) from I.hok a _ ea)
  exact W.kia_one W.kitx_dict I.kIn ⟨o,h1,h2.1⟩ e (λz=>nomatch z) h
 | @ins a C dx fs ea cl ha hn htk hm =>
  cases (show u=Value.ref a from rx)
  obtain⟨mA,O,_⟩:=u5G I.hok ea;obtain⟨od,J,_⟩:=O.look;exact W.kia_one (W.kitx_own (cl.get _) cl.hd ha hn htk hm) I.kIn J e (λz=>nomatch z) h
end
structure Room (k:Nat) (A:Around):Prop where
 hd:A.handled=none
 dp:A.depth+3*k+5<recursionLimit
 un:A.units+16*k+200<cLine
def Room.mono {j k:Nat}{A:Around} (r:Room k A) (h:j<=k):Room j A:=⟨r.hd,by have:=r.dp;omega,by have:=r.un;omega⟩
theorem Room.deeper {k:Nat}{A:Around} (r:Room (k+1) A) (env:Env):Room k (A.deeper env) :=
 ⟨r.hd,by have:=r.dp;show A.depth+1+3*k+5<_;omega,by have:=r.un;show A.units+3+16*k+200<_;omega⟩
def u9K {A:Around}{C:Addr}{us:List Value}{kw:List (Str×Value)}:(A.under (.builtin "type.__call__" ⟨.ref C::us,kw⟩)).depth=A.depth+1:=by
 first|rfl|simp[Around.under,Code.weight,Code.isCreation,Code.isGuard,Code.isCaller,Code.frames,Code.isFrame,guardIds]
def u9J {A:Around}{C:Addr}{us:List Value}{kw:List (Str×Value)}:(A.under (.builtin "type.__call__" ⟨.ref C::us,kw⟩)).units=A.units+1:=by
 first|rfl|simp[Around.under,Code.cUnits,Code.frames,Code.isFrame]
def Room.make {k:Nat}{A:Around} (r:Room (k+1) A) (C:Addr) (us:List Value) (kw:List (Str×Value)):Room k (A.under (.builtin "type.__call__" ⟨.ref C::us,kw⟩)) :=
 ⟨r.hd,by have:=r.dp;rw[u9K];omega,by have:=r.un;rw[u9J];omega⟩
theorem Room.depth {k:Nat}{A:Around} (r:Room k A):A.depth<recursionLimit:=by have:=r.dp;omega
def tNil:TA:=λ_ H Q=>Q [] H
def tCons (ta:TE) (tr:TA):TA:=λσ H Q=>ta σ H λx H1=>tr σ H1 λxs H2=>Q (x::xs) H2
section
variable {X:Cx}{e:Expr}{es:List Expr}{te:TE}{t:TA}{pos:Pos}
def u4T:PA X [] tNil:=λ_ _ _ _ H Q I h=>Calls.spliced_nil ⟨[],H,I,.nil,h⟩
def pa_cons (ha:PE X e te) (hr:PA X es t) (hs:starEach (e::es) X.env=(false,eval e X.env)::starEach es X.env:=by rfl):PA X (e::es) (tCons te t):=by
 intro pos pins s σ H Q I h;rw[hs];show wpAny _ _ (spliced ((false,eval e X.env)::backTo pos (starEach es X.env))) _ _ s;refine Calls.spliced_cons (thn (ha pins s σ H _ I h) λu s1 z944=>?_)
 obtain⟨x,H1,I1,r1,q1⟩:=z944;exact thn (hr pos pins s1 σ H1 _ I1 q1) λus s2 ⟨xs,H2,I2,r2,q2⟩=>⟨x::xs,H2,I2,.cons r1 r2,q2⟩
def tTup (t:TA):TE:=λσ H Q=>t σ H λxs H1=>xs.length<=sizeLine/\∀p,H1 p=none->Q (.ref p) (upd H1 p (.tup xs))
def tLst (t:TA):TE:=λσ H Q=>t σ H λxs H1=>xs.length<=sizeLine/\∀p,H1 p=none->Q (.ref p) (upd H1 p (.lst xs))
def pe_tup {x1} (h:PA X es t):PE X (.Tuple es x1 pos) (tTup t):=by
 intro pins s σ H Q I hq;refine wpAny_Tuple_spliced (thn (h pos pins s σ H _ I hq) λus s1 ⟨xs,H1,I1,r,z,q⟩=>⟨by rw[<- r.length];exact z,?_⟩)
 have hf:H1 s1.heap.objs.size=none:=I1.hok.fresh (z7 _);refine⟨.ref s1.heap.objs.size,upd H1 s1.heap.objs.size (.tup xs),I1.laid (t':=s1.toks) (λb u e=>z0 _ e) (z7 _) ?_,rfl,q _ hf⟩
 exact⟨z,us,r,⟨_,z6 _ rfl,rfl,_,rfl⟩⟩
def v3O (h:PA X es t):PE X (.List es pos) (tLst t):=by
 intro pins s σ H Q I hq;refine wpAny_List_spliced (thn (h pos pins s σ H _ I hq) λus s1 ⟨xs,H1,I1,r,z,q⟩=>⟨by rw[<- r.length];exact z,?_⟩)
 have hf:H1 s1.heap.objs.size=none:=I1.hok.fresh (z7 _);refine⟨.ref s1.heap.objs.size,upd H1 s1.heap.objs.size (.lst xs),I1.laid (t':=s1.toks) (λb u e=>z0 _ e) (z7 _) ?_,rfl,q _ hf⟩
 exact⟨z,us,0,r,z6 _ rfl⟩
end
abbrev Sp:=List V->Hp->VK->XK->Prop
abbrev CXT:=List Env->Hp->Shared->XK->Value->Shared->Prop
structure Env0 (P:Program) (w:World) (K:W.Frag) (mg:MG) (base:Heap) (A:Around) (outer:List Env) (s:Shared) (H:Hp):Prop where
 frames:A.frames=some outer
 mod:Mod K mg base
 bs:∀b o,base.get? b=some o->s.heap.get? b=some o/\H b=none
 bsz:base.objs.size<=s.heap.objs.size
 funs:s.heap.FunFrames base outer
 frf:∀b∈frs outer,H b=none
 hok:HOk P w H s.heap
 bare:AllBare s.gens
def CE (outer:List Env) (P:Program) (w:World) (H:Hp) (s:Shared) (Q:VK) (u:Value) (s':Shared):Prop :=
 ∃v H',s'.os=s.os/\AllBare s'.gens/\Un (frs outer) [] H H' s.heap s'.heap/\HOk P w H' s'.heap/\RelV v u/\Q v H'
def CR (CX:CXT) (outer:List Env) (P:Program) (w:World) (H:Hp) (s:Shared) (Q:VK) (E:XK) (r:Result) (s':Shared):Prop :=
 match r with
 | .ok (.ret u)=>CE outer P w H s Q u s'
 | .ok _=>False
 | .error e=>CX outer H s E e s'
structure FnOk (P:Program) (w:World) (K:W.Frag) (mg:MG) (base:Heap) (CX:CXT) (k:Nat) (f:Addr) (fd:FuncData) (ps:List Str) (sp:Sp):Prop where
 len:∀vs H Q E,sp vs H Q E->vs.length=ps.length
 run:∀(A:Around) (outer:List Env) (s:Shared) (H:Hp) (args:Args) (us:List Value) (vs:List V) (Q:VK) (E:XK),Room k A->Env0 P w K mg base A outer s H->BindsTo s fd args (ps.zip us)->Vals vs us->sp vs H Q E ->
  codeAny (model P w) A (.call (.ref f) args) (CR CX outer P w H s Q E) s
def FnOk.imp {P:Program}{w:World}{K:W.Frag}{mg:MG}{base:Heap}{CX:CXT}{k:Nat}{f:Addr}{fd:FuncData}{ps:List Str}{sp sp':Sp} (F:FnOk P w K mg base CX k f fd ps sp)
  (h:∀vs H Q E,sp' vs H Q E->sp vs H Q E):FnOk P w K mg base CX k f fd ps sp' :=
 ⟨λvs H Q E q=>F.len vs H Q E (h _ _ _ _ q),λA outer s H args us vs Q E hr he hb hv hs=>F.run A outer s H args us vs Q E hr he hb hv (h _ _ _ _ hs)⟩
def Env0.make {P:Program}{w:World}{K:W.Frag}{mg:MG}{base:Heap}{A:Around}{outer:List Env}{s:Shared}{H:Hp} (e:Env0 P w K mg base A outer s H) (C:Addr) (us:List Value) (kw:List (Str×Value)) :
  Env0 P w K mg base (A.under (.builtin "type.__call__" ⟨.ref C::us,kw⟩)) outer s H:=⟨by first|exact e.frames|(simpa[Around.under,Code.envs,Code.isFrame,pushEnvs] using e.frames),e.mod,e.bs,e.bsz,e.funs,e.frf,e.hok,e.bare⟩
section
variable {X:Cx}{pins:LO}{σ:St}{H:Hp}{s s':Shared}
def Inv.env0 (I:Inv X pins σ H s):Env0 X.prog X.w X.K X.mg X.base X.A X.stack s H :=
 ⟨I.ok.frames,I.ok.mod,I.bs,y7 I.ok.bsz I.sz,I.stack,I.stkFree,I.hok,I.bare⟩
def Inv.after {Q:VK}{u:Value} (I:Inv X pins σ H s) (h:CE X.stack X.prog X.w H s Q u s'):EP X pins σ Q u s':=by
 obtain⟨v,H',os,bare,un,hok,r,q⟩:=h;obtain⟨hh,g,d,t,os'⟩:=s';obtain rfl:os'=s.os:=os;exact⟨v,H',I.call (h':=hh) (g':=g) (d':=d) (t':=t) (ch:=[]) un hok bare (λb z=>absurd z (by simp)),r,q⟩
end
def tCall (sp:Sp) (dvs:List V) (E:XK) (t:TA):TE:=λσ H Q=>t σ H λvs H1=>sp (vs++dvs) H1 Q E
def tMeth (C:Addr) (m:Str) (sp:Sp) (dvs:List V) (E:XK) (ta:TE) (t:TA):TE:=λσ H Q=>ta σ H λx H1=>∃a dx fs,x=.ref a/\H1 a=some (.ins C dx fs)/\fs.lookup m=none /\
 t σ H1 λvs H2=>sp (x::(vs++dvs)) H2 Q E
def tMake (C:Addr) (sp:Sp) (dvs:List V) (E:XK) (t:TA):TE:=λσ H Q=>t σ H λvs H1=>∀x dx,H1 x=none->H1 dx=none->dx≠x ->
 sp (.ref x::(vs++dvs)) (upd (upd H1 dx (.own x)) x (.ins C dx [])) (λv H2=>v=.non/\Q (.ref x) H2) E
def Binds (K:W.Frag) (fd:FuncData) (ps:List Str) (ds:List Value):Prop :=
 ∀(s:Shared) (us:List Value),K.In s.heap->(us++ds).length=ps.length->BindsTo s fd ⟨us,[]⟩ (ps.zip (us++ds))
def Binds.all {K:W.Frag}{fd:FuncData}{ps:List Str} (h:∀us:List Value,us.length=ps.length->bindArgs fd ⟨us,[]⟩=pure (ps.zip us)):Binds K fd ps []:=λs us _ hl=>by
 rw[List.append_nil] at hl |-
 exact .of_eq (h us hl)
def Passes (CX:CXT) (X:Cx) (E:XK):Prop:=∀(pins:LO) (σ:St) (H:Hp) (s:Shared) (e:Value) (s':Shared),Inv X pins σ H s->CX X.stack H s E e s'->X.xe e s'
section
variable {X:Cx}{CX:CXT}{k:Nat}{f C:Addr}{fd:FuncData}{ps:List Str}{sp:Sp}{dvs:List V}{ds:List Value}{E:XK}{x m:Str}{p pos apos:Pos}{e o:Expr}{es:List Expr}{ta:TE}{t:TA}
def v0r {pins:LO}{σ:St}{H:Hp}{s:Shared}{Q:VK}{us:List Value}{vs:List V} (F:FnOk X.prog X.w X.K X.mg X.base CX k f fd ps sp) (hr:Room k X.A) (hb:Binds X.K fd ps ds) (hd:Vals dvs ds) (hx:Passes CX X E)
  (I:Inv X pins σ H s) (r:Vals vs us) (h:sp (vs++dvs) H Q E):wpAny (model X.prog X.w) X.A (call (.ref f) us) (EP X pins σ Q) X.xe s:=by
 have r2:Vals (vs++dvs) (us++ds):=r.append hd;have hl:(us++ds).length=ps.length:=by rw[<- r2.length];exact F.len _ _ _ _ h
 refine wpAny_call (codeAny_mono (F.run X.A X.stack s H ⟨us,[]⟩ (us++ds) (vs++dvs) Q E hr I.env0 (hb s us I.kIn hl) r2 h) λr s' hq=>?_)
 cases r with
 | error e=>exact hx pins σ H s e s' I hq
 | ok fl =>
  cases fl with
  | ret u=>exact I.after hq
  | next=>exact False.elim hq
  | brk=>exact False.elim hq
  | cont=>exact False.elim hq
def pe_call (F:FnOk X.prog X.w X.K X.mg X.base CX k f fd ps sp) (hr:Room k X.A) (hg:Gl X x) (hm:X.mg x=some (.ref f)) (hk:W.keepIn X.K (.ref f)=true) (hb:Binds X.K fd ps ds) (hd:Vals dvs ds) (hx:Passes CX X E)
  (ha:PA X (e::es) t) (hdb:(x==("__debug__":Str))=false:=by decide) (he:starEach (e::es) X.env=(false,eval e X.env)::starEach es X.env:=by rfl) (hpl:(backTo pos (starEach es X.env)).any (·.1)=false:=by rfl) :
  PE X (.Call (.Name x p) (e::es) [] pos) (tCall sp dvs E t):=by
 intro pins s σ H Q I h;refine wpAny_Call_Name_kw (u3f I hg hm ?_ hdb);refine W.callWith_K (h₀:=X.base) I.ok.mod.kin hk (thn (ha pos pins s σ H _ I h) λus s1 ⟨vs,H1,I1,r,q⟩=>⟨I1.kIn,?_⟩) he hpl
 exact v0r F hr hb hd hx I1 r q
def pe_meth {pl:Sem Bool} (he:PE X o ta) (c:Cls X.K C) (hm:Meth X.K C m f) (F:FnOk X.prog X.w X.K X.mg X.base CX k f fd ps sp) (hr:Room k X.A) (hb:Binds X.K fd ps ds) (hd:Vals dvs ds) (hx:Passes CX X E) (ha:PA X (e::es) t)
  (hst:starEach (e::es) X.env=(false,eval e X.env)::starEach es X.env:=by rfl) (hpl:(backTo pos (starEach es X.env)).any (·.1)=false:=by rfl)
  (ht:eval (.Call (.Attribute o m apos) (e::es) [] pos) X.env=(do
   let ov <- eval o X.env
   standAt apos.atName
   let (f,first) <- holding [ov] (getMethod ov m pl)
   callWith pos f first (backTo pos (starEach (e::es) X.env)) (backToKw pos (keywordEach [] X.env))):=by rfl) :
  PE X (.Call (.Attribute o m apos) (e::es) [] pos) (tMeth C m sp dvs E ta t):=by
 intro pins s σ H Q I h;refine W.methodCall_KW (pl:=pl) (thn (he pins s σ H _ I h) λu s1 z949=>?_) ht
 obtain⟨x,H1,I1,rx,a,dx,fs,ex,ea,l,q⟩:=z949;subst ex;obtain rfl:u=Value.ref a:=rx;refine u3i I1 ea c hm l ?_;refine W.callWith_K (first:=[.ref a]) (h₀:=X.base) I.ok.mod.kin hm.kp (thn (ha pos pins s1 σ H1 _ I1 q) λus s2 ⟨vs,H2,I2,r,q2⟩=>⟨I2.kIn,?_⟩) hst hpl
 exact v0r (us:=.ref a::us) (vs:=.ref a::vs) F hr hb hd hx I2 (.cons rfl r) q2
def v2D {pl:Sem Bool} (he:PE X o ta) (c:Cls X.K C) (hm:Meth X.K C m f) (F:FnOk X.prog X.w X.K X.mg X.base CX k f fd ps sp) (hr:Room k X.A) (hb:Binds X.K fd ps ds) (hd:Vals dvs ds) (hx:Passes CX X E)
  (ht:eval (.Call (.Attribute o m apos) [] [] pos) X.env=(do
   let ov <- eval o X.env
   standAt apos.atName
   let (f,first) <- holding [ov] (getMethod ov m pl)
   callWith pos f first (backTo pos (starEach [] X.env)) (backToKw pos (keywordEach [] X.env))):=by rfl) :
  PE X (.Call (.Attribute o m apos) [] [] pos) (tMeth C m sp dvs E ta tNil):=by
 intro pins s σ H Q I h;refine W.methodCall_KW (pl:=pl) (thn (he pins s σ H _ I h) λu s1 z951=>?_) ht
 obtain⟨x,H1,I1,rx,a,dx,fs,ex,ea,l,q⟩:=z951;subst ex;obtain rfl:u=Value.ref a:=rx;refine u3i I1 ea c hm l ?_;exact W.callWith_K0 (first:=[.ref a]) I1.kIn hm.kp (v0r (us:=[.ref a]) (vs:=[.ref a]) F hr hb hd hx I1 (.cons rfl .nil) q)
structure Mk (K:W.Frag) (C f:Addr):Prop where
 makes:W.makesIn K C=true
 init:W.findIn K (.ref C) "__init__"=some (some (.ref f))
 fn:W.isFn K (.ref f)=true
 kp:W.keepIn K (.ref C)=true
def v2t {pins:LO}{σ:St}{H:Hp}{s:Shared}{Q:VK}{us:List Value}{vs:List V} (M:Mk X.K C f) (F:FnOk X.prog X.w X.K X.mg X.base CX k f fd ps sp) (hr:Room (k+1) X.A) (hb:Binds X.K fd ps ds) (hd:Vals dvs ds)
  (hx:Passes CX X E) (I:Inv X pins σ H s) (r:Vals vs us)
  (h:∀x dx,H x=none->H dx=none->dx≠x->sp (.ref x::(vs++dvs)) (upd (upd H dx (.own x)) x (.ins C dx [])) (λv H2=>v=.non/\Q (.ref x) H2) E) :
  wpAny (model X.prog X.w) X.A (call (.ref C) us) (EP X pins σ Q) X.xe s:=by
 have hq:=h (s.heap.objs.size+1) s.heap.objs.size (I.hok.fresh (Nat.le_succ _)) (I.hok.fresh (z7 _)) (x0 (Nat.lt_succ_self _));have I2:=Inv.made (C:=C) I;have r2:Vals (V.ref (s.heap.objs.size+1)::(vs++dvs)) (Value.ref (s.heap.objs.size+1)::(us++ds)):=.cons rfl (r.append hd);have hl:(Value.ref (s.heap.objs.size+1)::us++ds).length=ps.length:=by
  have e:=r2.length;rw[F.len _ _ _ _ hq] at e;exact e.symm
 refine wpAny_call (v2T (f:=f) I.kIn M.makes M.init (beq_iff_eq.mp M.fn) (codeAny_mono (F.run _ X.stack _ _ ⟨Value.ref (s.heap.objs.size+1)::us,[]⟩ (Value.ref (s.heap.objs.size+1)::(us++ds)) _ _ E (hr.make C us [])
  (I2.env0.make C us []) (hb _ (Value.ref (s.heap.objs.size+1)::us) I2.kIn hl) r2 hq) λr s' hq'=>?_))
 cases r with
 | error e=>exact hx pins σ _ _ e s' I2 hq'
 | ok fl =>
  cases fl with
  | ret u =>
   obtain⟨v,H',I3,rv,ev,q3⟩:=I2.after hq';subst ev;exact⟨rv,⟨V.ref (s.heap.objs.size+1),H',I3,rfl,q3⟩⟩
  | next=>exact False.elim hq'
  | brk=>exact False.elim hq'
  | cont=>exact False.elim hq'
def pe_make (M:Mk X.K C f) (F:FnOk X.prog X.w X.K X.mg X.base CX k f fd ps sp) (hr:Room (k+1) X.A) (hg:Gl X x) (hm:X.mg x=some (.ref C)) (hb:Binds X.K fd ps ds) (hd:Vals dvs ds) (hx:Passes CX X E)
  (ha:PA X (e::es) t) (hdb:(x==("__debug__":Str))=false:=by decide) (he:starEach (e::es) X.env=(false,eval e X.env)::starEach es X.env:=by rfl) (hpl:(backTo pos (starEach es X.env)).any (·.1)=false:=by rfl) :
  PE X (.Call (.Name x p) (e::es) [] pos) (tMake C sp dvs E t):=by
 intro pins s σ H Q I h;refine wpAny_Call_Name_kw (u3f I hg hm ?_ hdb);refine W.callWith_K (h₀:=X.base) I.ok.mod.kin M.kp (thn (ha pos pins s σ H _ I h) λus s1 ⟨vs,H1,I1,r,q⟩=>⟨I1.kIn,?_⟩) he hpl
 exact v2t M F hr hb hd hx I1 r q
end
structure FnScope (N P:List Str) (sc:Scope):Prop where
 kind:sc.kind=.function
 co:sc.isCoroutine=false
 gen:sc.isGenerator=false
 nd:N.Nodup
 pre:N.take P.length=P
 par:∀x∈P,sc.names.lookup x=some .local\/sc.names.lookup x=some .cell
 nofree:∀y∈sc.names,y.2≠.free
theorem u6W {kindOf:Str->Option NameKind}{x:Str}:∀{binds:List (Str×Value)}{m:MG},(∀v,(x,v)∉binds)->bindL kindOf binds m x=m x
 | [],_,_=>rfl
 | (n,v)::r,m,h=>by
  unfold bindL;rw[u6W λw hw=>h w (z4 _ hw)]
  split
  ·have:x≠n:=by rintro rfl;exact h v z5
   simp[this]
  ·rfl
theorem u6Y {kindOf:Str->Option NameKind}{x:Str}:∀{binds:List (Str×Value)}{m:MG},(∀v,(x,v)∉binds)->bindC kindOf binds m x=m x
 | [],_,_=>rfl
 | (n,v)::r,m,h=>by
  unfold bindC;rw[u6Y λw hw=>h w (z4 _ hw)]
  split
  ·rfl
  ·have:x≠n:=by rintro rfl;exact h v z5
   simp[this]
theorem u6X {kindOf:Str->Option NameKind}{x:Str}{v:Value}:∀{P:List Str}{vs:List Value}{i:Nat}{m:MG},P.Nodup->P[i]?=some x->vs[i]?=some v->kindOf x=some .local ->
  bindL kindOf (P.zip vs) m x=some v
 | [],_,_,_,_,h,_,_=>by simp at h
 | _::_,[],_,_,_,_,h,_=>by simp at h
 | p::P,w::vs,0,m,nd,h1,h2,hk=>by
  simp at h1 h2;subst h1;subst h2;show bindL kindOf ((p,w)::P.zip vs) m p=_;unfold bindL;rw[u6W λv hv=>(z1A.mp nd).1 (List.of_mem_zip hv).1,if_pos hk]
  simp
 | p::P,w::vs,i+1,m,nd,h1,h2,hk=>by
  show bindL kindOf ((p,w)::P.zip vs) m x=_;unfold bindL;exact u6X (i:=i) (z1A.mp nd).2 (by simpa using h1) (by simpa using h2) hk
theorem u6Z {kindOf:Str->Option NameKind}{x:Str}{v:Value}:∀{P:List Str}{vs:List Value}{i:Nat}{m:MG},P.Nodup->P[i]?=some x->vs[i]?=some v->kindOf x≠some .local ->
  bindC kindOf (P.zip vs) m x=some v
 | [],_,_,_,_,h,_,_=>by simp at h
 | _::_,[],_,_,_,_,h,_=>by simp at h
 | p::P,w::vs,0,m,nd,h1,h2,hk=>by
  simp at h1 h2;subst h1;subst h2;show bindC kindOf ((p,w)::P.zip vs) m p=_;unfold bindC;rw[u6Y λv hv=>(z1A.mp nd).1 (List.of_mem_zip hv).1,if_neg hk]
  simp
 | p::P,w::vs,i+1,m,nd,h1,h2,hk=>by
  show bindC kindOf ((p,w)::P.zip vs) m x=_;unfold bindC;exact u6Z (i:=i) (z1A.mp nd).2 (by simpa using h1) (by simpa using h2) hk
noncomputable def start (N:List Str) (vs:List V):St:=vs.map some++List.replicate (N.length - vs.length) none
noncomputable def cxOf (CX:CXT) (P:Program) (w:World) (K:W.Frag) (mg:MG) (base:Heap) (N:List Str) (qual:Str) (scope:Scope) (f:Addr) (cd:Value) (A:Around) (outer:List Env) (s:Shared) (H:Hp) (E:XK):Cx where
 prog:=P
 w:=w
 K:=K
 mg:=mg
 base:=base
 A:=A.deeper (envOfC qual scope s.heap.objs.size f cd)
 N:=N
 s₀:=s
 H₀:=H
 env:=envOfC qual scope s.heap.objs.size f cd
 outer:=outer
 stack:=envOfC qual scope s.heap.objs.size f cd::outer
 ex:=[]
 calm:=true
 fn:=λ_=>true
 pn:=[]
 xe:=λe s'=>wpAny (model P w) (A.deeper (envOfC qual scope s.heap.objs.size f cd)) (leaving (envOfC qual scope s.heap.objs.size f cd) e) (λ_ s''=>CX outer H s E e s'') (λe' s''=>CX outer H s E e' s'') s'
def u8O {sc:Scope}{n:Nat}{x:Str} (h:sc.names.lookup x=some .cell):∃c,(cellsFrom n sc.names []).lookup x=some c:=by
 have q:=W.cellsFrom_some sc.names n [] (.inl h);exact Option.isSome_iff_exists.mp q
def v1a {CX:CXT}{P:Program}{w:World}{K:W.Frag}{mg:MG}{base:Heap}{N ps:List Str}{qual:Str}{scope:Scope}{f:Addr}{cd:Value}{A:Around}{outer:List Env}{s s1:Shared}{H:Hp}{E:XK}{us:List Value}{vs:List V}
  (S:FnScope N ps scope) (hd:A.handled=none) (e0:Env0 P w K mg base A outer s H) (hl:vs.length=ps.length) (r:Vals vs us)
  (x:InCallC s s.heap.objs.size (bindL (envOfC qual scope s.heap.objs.size f cd).kindOf (ps.zip us) λ_=>none) (cellsFrom (s.heap.objs.size+1) scope.names []) (bindC (envOfC qual scope s.heap.objs.size f cd).kindOf (ps.zip us) λ_=>none) s1) :
  Inv (cxOf CX P w K mg base N qual scope f cd A outer s H E) [] (start N vs) H s1:=by
 have hpl:ps.length<=N.length:=by have:=congrArg List.length S.pre;rw[z0E] at this;omega
 obtain⟨h1,tk,rfl,hk⟩:=x.done;have noA:∀b:Addr,b∉(cxOf CX P w K mg base N qual scope f cd A outer s H E).ex:=λb z=>absurd (show b∈([]:List Addr) from z) (by simp)
 refine⟨⟨e0.mod,S.kind,rfl,rfl,z7 _,λy z c h1 h2=>?_,λy hy=>?_,λy c _ h=>?_,λ_=>hd,Around.frames_deeper e0.frames,.inr ⟨rfl,rfl⟩,λb z=>absurd z (noA b),e0.bs,e0.bsz,λb _ _=>noA b,λb z=>absurd z (noA b),e0.funs,e0.frf⟩,
  rfl,e0.bare,Un.kept hk,⟨_,x.toInCall.ns,λi y v h1 h2 h3=>?_⟩,λy c h=>⟨_,x.cell y c h⟩,e0.hok.fresh (z7 _),λy c h=>?_,λp hp=>absurd (show p∈([]:LO) from hp) (by simp),e0.hok.kept hk,?_⟩
 ·exact name_of_addr x.apart (PySem.mem_of_lookup h1) (PySem.mem_of_lookup h2)
 ·have hy:scope.names.lookup y=some .cell\/scope.names.lookup y=some .free:=hy
  rcases hy with hy|hy
  ·exact u8O hy
  ·exact absurd rfl (S.nofree _ (PySem.mem_of_lookup hy))
 ·exact Nat.le_of_lt (x.above y c (PySem.mem_of_lookup h))
 ·have hi:i<vs.length:=by
   unfold start at h2;by_cases hi:i<vs.length
   ·exact hi
   ·rw [t9 (by simpa using hi)] at h2
    rw[t4] at h2;split at h2<;>cases h2
  have ha:vs[i]?=some v:=by
   unfold start at h2;rw[z0H (by simpa using hi),y4] at h2
   cases e:vs[i]? with
   | none=>rw[e] at h2;cases h2
   | some a=>rw[e] at h2;cases h2;rfl
  obtain⟨u,hu,rv⟩:=r.get ha;have hp:ps[i]?=some y:=by
   rw[<- S.pre,List.getElem?_take_of_lt (by omega)];exact h1
  have ndP:ps.Nodup:=by rw[<- S.pre];exact S.nd.sublist (List.take_sublist _ _)
  refine⟨u,rv,?_⟩;rcases S.par y (List.mem_of_getElem? hp) with k|k
  ·exact .inl ⟨k,u6X ndP hp hu k⟩
  ·obtain ⟨c,e⟩:=u8O (n:=s.heap.objs.size+1) k
   refine .inr ⟨.inl k,c,e,?_⟩;have q:=x.cell y c e;rw[u6Z ndP hp hu (by show scope.names.lookup y≠_;rw[k];decide)] at q
   exact q
 ·exact e0.hok.fresh (Nat.le_of_lt (x.above y c (PySem.mem_of_lookup h)))
 ·unfold start
  show _=N.length;rw[u7,x6,z0B];omega
def fn_of {CX:CXT}{P:Program}{w:World}{K:W.Frag}{mg:MG}{base:Heap}{k:Nat}{f:Addr}{name qual:Str}{params:Arguments}{body:List Stmt}{scope:Scope}{dV kV doc pm cdv ct oc:Value}{an od:Option Addr}
  {osl:Array (Option Value)}{N ps:List Str}{sp:Sp} (lk:K.lookup f=some ⟨oc,od,.func (W.fnOf name qual params body scope dV kV doc pm an cdv ct),osl⟩) (hcd:W.codeIn K cdv qual=true) (S:FnScope N ps scope)
  (len:∀vs H Q E,sp vs H Q E->vs.length=ps.length)
  (hbody:∀ (A:Around) (outer:List Env) (s:Shared) (H:Hp) (vs:List V) (Q:VK) (E:XK),Room k (A.deeper (envOfC qual scope s.heap.objs.size f cdv))->sp vs H Q E ->
   ∃t,PSs (cxOf CX P w K mg base N qual scope f cdv A outer s H E) body t/\t { nx:=λ_ H'=>Q .non H',rt:=Q } (start N vs) H) :
  FnOk P w K mg base CX (k+1) f (W.fnOf name qual params body scope dV kV doc pm an cdv ct) ps sp:=by
 refine⟨len,λA outer s H args us vs Q E hr e0 hb r hsp=>?_⟩
 have hl:=len _ _ _ _ hsp;have KX:K.In s.heap:=e0.mod.kin.keeps λb o e=>(e0.bs b o e).1
 have lim:s.heap.NoLimit:=e0.mod.nolimit.keeps λb o e=>(e0.bs b o e).1
 have hkind:∀y∈ps.zip us,scope.names.lookup y.1=some .local\/(scope.names.lookup y.1=some .cell/\((cellsFrom (s.heap.objs.size+1) scope.names []).lookup y.1).isSome=true):=λ⟨n,v⟩ hy=>by
  rcases S.par n (List.of_mem_zip hy).1 with q|q
  ·exact .inl q
  ·exact .inr ⟨q,W.cellsFrom_some _ _ _ (.inl q)⟩
 refine codeAny_call_function hr.depth (KX _ _ lk) rfl S.co S.gen rfl (W.codeRec_of KX hcd) (hb _ _ _ _ ?_);refine wpAny_newFunctionEnv_cells S.kind hkind λenv he s1 x=>?_
 subst he;refine⟨lim.keeps x.toInCall.keep,codeAny_func ?_⟩;obtain⟨t,ht,hq⟩:=hbody A outer s H vs Q E (hr.deeper _) hsp;have I:Inv (cxOf CX P w K mg base N qual scope f cdv A outer s H E) [] (start N vs) H s1:=v1a S hr.hd e0 hl r x;refine wpAny_mono (ht [] s1 (start N vs) H _ I hq) (λfl s' hs=>?_) λe s' hs=>hs
 have fin:∀{σ':St}{H':Hp}{v:V}{u:Value},Inv (cxOf CX P w K mg base N qual scope f cdv A outer s H E) [] σ' H' s'->RelV v u->Q v H'->CE outer P w H s Q u s' :=
  λ{σ' H' v u} J rv q=>⟨v,H',J.os,J.bare,J.base,J.hok,rv,q⟩
 cases fl with
 | ret u =>
  obtain⟨v,σ',H',J,rv,q⟩:=hs;exact fin J rv q
 | next =>
  obtain⟨σ',H',J,q⟩:=hs;exact fin (v:=V.non) (u:=Value.none) J rfl q
 | brk =>
  obtain⟨_,_,_,q⟩:=hs;exact False.elim q
 | cont =>
  obtain⟨_,_,_,q⟩:=hs;exact False.elim q
section
variable {X:Cx}{x:Str}{p pos:Pos}{e:Expr}{es:List Expr}{t:TA}{id T:String}{r:List V->Hp->VK->Prop}
def tCB (r:List V->Hp->VK->Prop) (t:TA):TE:=λσ H Q=>t σ H λvs H1=>r vs H1 Q
def v2I (hc:CallR X (.builtin id) r) (hg:Gl X x) (hm:X.mg x=none) (hv:bootBuiltins x=some (.builtin id)) (ha:PA X (e::es) t) (hn:x≠"__name__":=by decide) (hdb:(x==("__debug__":Str))=false:=by decide)
  (he:starEach (e::es) X.env=(false,eval e X.env)::starEach es X.env:=by rfl) (hpl:(backTo pos (starEach es X.env)).any (·.1)=false:=by rfl):PE X (.Call (.Name x p) (e::es) [] pos) (tCB r t):=by
 intro pins s σ H Q I h;refine wpAny_Call_Name_kw (u3s I hg hm hv ?_ hn hdb);exact PyProof.Rows.callWith_builtin1 (thn (ha pos pins s σ H _ I h) λus s1 z954=>by obtain⟨vs,H1,I1,r1,q1⟩:=z954;exact hc pins s1 σ H1 vs us Q I1 r1 q1) he hpl
def v0B (hc:CallR X (.type T) r) (hg:Gl X x) (hm:X.mg x=none) (hv:bootBuiltins x=some (.type T)) (ha:PA X (e::es) t) (hn:x≠"__name__":=by decide) (hdb:(x==("__debug__":Str))=false:=by decide)
  (he:starEach (e::es) X.env=(false,eval e X.env)::starEach es X.env:=by rfl) (hpl:(backTo pos (starEach es X.env)).any (·.1)=false:=by rfl):PE X (.Call (.Name x p) (e::es) [] pos) (tCB r t):=by
 intro pins s σ H Q I h;refine wpAny_Call_Name_kw (u3s I hg hm hv ?_ hn hdb);exact PyProof.Rows.callWith_type1 (thn (ha pos pins s σ H _ I h) λus s1 z955=>by obtain⟨vs,H1,I1,r1,q1⟩:=z955;exact hc pins s1 σ H1 vs us Q I1 r1 q1) he hpl
end
end L2
namespace HT
open PySem PyProof.Rows
section
open PySem.SeqAt
open PySem.AutoSeq1 (wpAny_loadPart')
open PySem.MeetsSeq PySem.MeetsSeq2 PySem.MeetsSeq3
end
section
variable {prog:Program}{w:World}{A:Around}{E:VP}{s:Shared}
noncomputable def sIx (n d:Nat):Option Int->Nat
 | none=>d
 | some v=>if v<0 then (v+(n:Int)).toNat else min v.toNat n
def sIx_none (n d:Nat):sIx n d none=d:=rfl
def sIx_nat (n d k:Nat):sIx n d (some (k:Int))=min k n:=by
 show(if (k:Int)<0 then ((k:Int)+(n:Int)).toNat else min (k:Int).toNat n)=min k n
 rw[if_neg (by omega),Int.toNat_natCast]
def sIx_le (n d:Nat) (hd:d<=n) (o:Option Int):sIx n d o<=n:=by
 cases o with
 | none=>exact hd
 | some v =>
  show(if v<0 then (v+(n:Int)).toNat else min v.toNat n)<=n
  by_cases hv:v<0
  ·rw[if_pos hv];omega
  ·rw[if_neg hv];exact Nat.min_le_right _ _
def v1M (v:Int) (n d:Nat):(if v<0 then max (v+(n:Int)) 0 else min v (n:Int))=((sIx n d (some v):Nat):Int):=by
 show(if v<0 then max (v+(n:Int)) 0 else min v (n:Int))=(((if v<0 then (v+(n:Int)).toNat else min v.toNat n):Nat):Int)
 by_cases hv:v<0
 ·simp only[if_pos hv];omega
 ·simp only[if_neg hv];omega
def u9V (lo hi:Option Int) (n:Nat):Builtin.Slice.sliceAdjust lo hi 1 (n:Int)=(((sIx n 0 lo:Nat):Int),((sIx n n hi:Nat):Int)):=by
 have h1:¬ ((1:Int)<0):=by omega
 unfold Builtin.Slice.sliceAdjust;simp only[h1,if_false];refine Prod.ext ?_ ?_
 ·cases lo with
  | none=>rfl
  | some v=>exact v1M v n 0
 ·cases hi with
  | none=>rfl
  | some v=>exact v1M v n n
def u9D (i j:Nat):Builtin.Slice.slicePlaces (i:Int) (j:Int) 1=j - i:=by
 unfold Builtin.Slice.slicePlaces;have h1:(1:Int) > 0:=by omega
 simp only[h1,if_true,Int.ediv_one]
 split<;>omega
def slicePart_ {v:Value}{o:Option Int}{Q:Option Int->Shared->Prop} (p:IsPart v o) (h:Q o s):wpAny (model prog w) A (Builtin.Slice.slicePartIndex v) Q E s:=by
 cases p with
 | none=>exact slicePart_none h
 | int i t=>exact slicePart_int h
def u3w {sl:Addr}{vl vu:Value}{lo hi:Option Int}{n:Nat}{Q:Int×Int×Nat->Shared->Prop} (hs:s.heap.IsSliceOf sl vl vu .none) (pl:IsPart vl lo) (pu:IsPart vu hi)
  (h:Q (((sIx n 0 lo:Nat):Int),1,sIx n n hi - sIx n 0 lo) s):wpAny (model prog w) A (Builtin.Slice.sliceApplied (.ref sl) (pure (n:Int))) Q E s:=by
 obtain⟨os,hos,hcs,hds⟩:=id hs;unfold Builtin.Slice.sliceApplied Builtin.Slice.sliceFields;refine wpAny_bind (wpAny_bind (wpAny_field hos hds (x:=vl) rfl (wpAny_bind (wpAny_field hos hds (x:=vu) rfl (wpAny_bind (wpAny_field hos hds (x:=.none) rfl (wpAny_pure ?_)))))));refine wpAny_bind (slicePart_none ?_);show wpAny _ _ (if ((1:Int)==0)=true then _ else _) _ _ s
 rw[if_neg (by decide)]
 refine wpAny_bind (slicePart_ pl (wpAny_bind (slicePart_ pu (wpAny_bind (wpAny_pure ?_)))));show wpAny _ _ (match Builtin.Slice.sliceAdjust lo hi 1 (n:Int) with|(lo,hi)=>pure (lo,(1:Int),Builtin.Slice.slicePlaces lo hi 1)) _ _ s
 rw[u9V lo hi n];show wpAny _ _ (pure (((sIx n 0 lo:Nat):Int),(1:Int),Builtin.Slice.slicePlaces ((sIx n 0 lo:Nat):Int) ((sIx n n hi:Nat):Int) 1)) _ _ s;rw[u9D];exact wpAny_pure h
def v2A (xs:Array Value) (i k:Nat):((List.range k).filterMap λ(m:Nat)=>xs[((i:Int)+(m:Int)*1).toNat]?).toArray=((xs.toList.drop i).take k).toArray:=by
 have e:(λ(m:Nat)=>xs[((i:Int)+(m:Int)*1).toNat]?)=λm=>xs[i+m]?:=by
  funext m
  have:((i:Int)+(m:Int)*1).toNat=i+m:=by omega
  rw[this]
 rw[e]
 have:=pick_run xs i k
 rw[List.filterMap_map] at this;have e2:((λx=>xs[x]?) ∘ λx=>i+x)=λm=>xs[i+m]?:=rfl
 rw[e2] at this;rw[this]
def getItem_tuple_cut {t sl:Addr}{items:Array Value}{vl vu:Value}{lo hi:Option Int}{Q:VP} (ht:IsTup s.heap t items) (hs:s.heap.IsSliceOf sl vl vu .none) (pl:IsPart vl lo) (pu:IsPart vu hi)
  (hw:¬ (sIx items.size 0 lo=0/\sIx items.size items.size hi=items.size))
  (h:Q (.ref s.heap.objs.size) { s with heap:=s.heap.push { cls:=.type "tuple",data:=.seq ((items.toList.drop (sIx items.size 0 lo)).take (sIx items.size items.size hi - sIx items.size 0 lo)).toArray } })
  (hsz:items.size<=sizeLine):wpAny (model prog w) A (getItem (.ref t) (.ref sl)) Q E s:=by
 have htake:sizeOk (.seq ((items.toList.drop (sIx items.size 0 lo)).take (sIx items.size items.size hi - sIx items.size 0 lo)).toArray):=by
  show((items.toList.drop (sIx items.size 0 lo)).take (sIx items.size items.size hi - sIx items.size 0 lo)).toArray.size<=sizeLine;rw[y1,z0E,z1E,t0];omega
 have hj:sIx items.size items.size hi<=items.size:=sIx_le _ _ (z7 _) hi;obtain⟨os,hos,hcs,hds⟩:=id hs;have hTs:s.TypeIs (.ref sl) "slice":=⟨os,hos,hcs⟩;unfold getItem
 try with_reducible refine wpAny_holding ?_
 first|refine wpAny_bind (wpAny_pure ?_)|skip
 refine wpAny_bind (wpAny_sequenceKey ht.typeIs (by decide) ?_)
 refine wpAny_bind (wpAny_callSpecial?_slot (name:=Str.ofString "__getitem__") ht.typeIs PyProof.Rows.slot_tuple_getitem
  (wpAny_call_entry PyProof.Rows.slot_tuple_getitem ht.typeIs entry_tuple_getitem ?_ (args_tuple_getitem _ _)))
 show wpAny _ _ (Builtin.Tuple.tupleItemsOf (.ref t) >>= _) _ _ s;refine wpAny_bind (tupleItemsOf_ ht ?_);refine wpAny_bind (wpAny_typeOf hTs ?_);rw[if_pos (by decide)]
 refine wpAny_bind (u3w hs pl pu ?_);have hno:¬ ((((sIx items.size 0 lo:Nat):Int)==0&&(1:Int)==1&&(sIx items.size items.size hi - sIx items.size 0 lo)==items.size)=true):=by
  intro q;rw[u0,u0] at q;have q1:((sIx items.size 0 lo:Nat):Int)=0:=eq_of_beq q.1.1;have q2:sIx items.size items.size hi - sIx items.size 0 lo=items.size:=eq_of_beq q.2;exact hw ⟨by omega,by omega⟩
 show wpAny _ _ (if (((sIx items.size 0 lo:Nat):Int)==0&&(1:Int)==1&&(sIx items.size items.size hi - sIx items.size 0 lo)==items.size)=true then _ else _) _ _ s
 rw[if_neg hno,v2A]
 first
  | exact wpAny_bind (m:=Builtin.Tuple.tupleExact _) (wpAny_newObj_type (wpAny_pure ⟨_,rfl,wpAny_pure h⟩) htake)
  | exact wpAny_bind (m:=Builtin.Tuple.tupleExact _) (wpAny_newObj_type (wpAny_bind (wpAny_pure (wpAny_pure ⟨_,rfl,wpAny_pure h⟩))) htake)
  | exact wpAny_bind (wpAny_bind (m:=Builtin.Tuple.tupleExact _) (wpAny_newObj_type (wpAny_pure (wpAny_pure ⟨_,rfl,wpAny_pure h⟩)) htake))
  | exact wpAny_bind (wpAny_bind (m:=Builtin.Tuple.tupleExact _) (wpAny_newObj_type (wpAny_pure ⟨_,rfl,wpAny_pure h⟩) htake))
end
end HT
namespace L2
open PySem PySem.Spec PyProof.Rows
abbrev TO:=St->Hp->(Option Int->Hp->Prop)->Prop
def PO (X:Cx) (e:Option Expr) (t:TO):Prop :=
 ∀(pins:LO) (s:Shared) (σ:St) (H:Hp) (Q:Option Int->Hp->Prop),Inv X pins σ H s->t σ H Q ->
  wpAny (model X.prog X.w) X.A (evalPart e X.env) (λu s'=>∃o H',Inv X pins σ H' s'/\IsPart u o/\Q o H') X.xe s
noncomputable def tNoPart:TO:=λ_ H Q=>Q none H
noncomputable def tPart (t:TE):TO:=λσ H Q=>t σ H λx H1=>∃i,x=.int i/\Q (some i) H1
section
variable {X:Cx}{e:Expr}{te:TE}{lo hi:Option Expr}{tl th:TO}{pos p2:Pos}
def po_none:PO X none tNoPart:=by
 intro pins s σ H Q I h;rw[evalPart_none];exact wpAny_pure ⟨none,H,I,.none,h⟩
def po_some (h:PE X e te):PO X (some e) (tPart te):=by
 intro pins s σ H Q I hw;rw[evalPart_some];refine thn (h pins s σ H _ I hw) λu s1 z956=>?_
 obtain⟨x,H1,I1,r1,q1⟩:=z956;obtain⟨i,rfl,q⟩:=q1;obtain⟨t,rfl⟩:=r1;exact⟨some i,H1,I1,.int i t,q⟩
def SlR (X:Cx) (r:V->Option Int->Option Int->Hp->VK->Prop):Prop :=
 ∀(pins:LO) (s:Shared) (σ:St) (H:Hp) (x:V) (v vl vu:Value) (lo hi:Option Int) (sl:Addr) (Q:VK),Inv X pins σ H s->RelV x v->s.heap.IsSliceOf sl vl vu .none->IsPart vl lo->IsPart vu hi->r x lo hi H Q ->
  ∃T id,typeLookup (.type T) "__getitem__"=pure (some (.builtin id))/\s.TypeIs v T/\wpAny (model X.prog X.w) X.A (getItem v (.ref sl)) (EP X pins σ Q) X.xe s
def tSl (r:V->Option Int->Option Int->Hp->VK->Prop) (te:TE) (tl th:TO):TE:=λσ H Q=>te σ H λx H1=>tl σ H1 λl H2=>th σ H2 λu H3=>r x l u H3 Q
def v2C {r:V->Option Int->Option Int->Hp->VK->Prop} (hr:SlR X r) (he:PE X e te) (hl:PO X lo tl) (hu:PO X hi th):PE X (.Subscript e (.Slice lo hi none p2) pos) (tSl r te tl th):=by
 intro pins s σ H Q I h;refine Subscript_ (thn (he pins s σ H _ I h) λv s1 z957=>?_)
 obtain⟨x,H1,I1,r1,q1⟩:=z957;refine wpAny_Slice (thn (hl pins s1 σ H1 _ I1 q1) λvl s2 ⟨l,H2,I2,pl,q2⟩=>thn (hu pins s2 σ H2 _ I2 q2) λvu s3 z959=>?_)
 obtain⟨u,H3,I3,pu,q3⟩:=z959;rw[evalPart_none];refine wpAny_pure ?_;have I4:Inv X pins σ H3 { s3 with heap:=s3.heap.push { cls:=.type "slice",data:=.fields #[vl,vu,.none] } }:=I3.kept (t':=s3.toks) λb ob q=>z0 _ q
 obtain⟨T,id,hT,ht,hg⟩:=hr pins { s3 with heap:=s3.heap.push { cls:=.type "slice",data:=.fields #[vl,vu,.none] } } σ H3 x v vl vu l u s3.heap.objs.size Q I4 r1 (Heap.IsSliceOf.new ..) pl pu q3
 show wpAny (model X.prog X.w) X.A (subscriptTail e (.Slice lo hi none p2) v (.ref s3.heap.objs.size)) (EP X pins σ Q) X.xe { s3 with heap:=s3.heap.push { cls:=.type "slice",data:=.fields #[vl,vu,.none] } }
 exact tail_any (ops:=[.ref s3.heap.objs.size,v]) ht hT hg (by with_unfolding_all rfl)
noncomputable def cutV (xs:List V) (lo hi:Option Int):List V:=(xs.drop (HT.sIx xs.length 0 lo)).take (HT.sIx xs.length xs.length hi - HT.sIx xs.length 0 lo)
def u4x (xs:List V) (lo hi:Option Int):(cutV xs lo hi).length<=xs.length:=by
 unfold cutV;rw[z0E,z1E];omega
def rSlT (K:W.Frag):V->Option Int->Option Int->Hp->VK->Prop:=λx lo hi H Q=>∃a xs,x=.ref a/\SqT K H a xs /\
 ¬ (HT.sIx xs.length 0 lo=0/\HT.sIx xs.length xs.length hi=xs.length)/\∀p,H p=none->Q (.ref p) (upd H p (.tup (cutV xs lo hi)))
def sl_tup:SlR X (rSlT X.K):=by
 intro pins s σ H x v vl vu lo hi sl Q I rx hs pl pu h;obtain⟨a,xs,rfl,hx,hw,q⟩:=h;cases rx;obtain⟨its,r,ht,hz⟩:=I.tuple hx;have hlen:its.toArray.size=xs.length:=by rw[y1];exact r.length.symm
 refine⟨"tuple",_,PyProof.Rows.slot_tuple_getitem.lookup,ht.typeIs,?_⟩;refine HT.getItem_tuple_cut ht hs pl pu (by rw[hlen];exact hw) ?_ (by rw[hlen];exact hz)
 rw[hlen];refine⟨.ref s.heap.objs.size,_,I.laid (t':=s.toks) (o:=.tup (cutV xs lo hi)) (λb ob q=>z0 _ q) (z7 _) ?_,rfl,q _ (I.hok.fresh (z7 _))⟩
 exact⟨y7 (u4x xs lo hi) hz,_,(r.drop (HT.sIx xs.length 0 lo)).take (HT.sIx xs.length xs.length hi - HT.sIx xs.length 0 lo),IsTup.new _ _⟩
end
noncomputable def ixN (n:Nat) (i:Int):Option Nat:=if 0<=i then (if i<n then some i.toNat else none) else if -(n:Int)<=i then some (i+n).toNat else none
noncomputable def atI {α:Type} (xs:List α) (i:Int):Option α:=(ixN xs.length i).bind λj=>xs[j]?
def ixN_seq {n:Nat}{i:Int}{j:Nat} (h:ixN n i=some j):seqIndex? i n=some j/\j<n/\-(n:Int)<=i/\i<n:=by
 unfold ixN at h;by_cases h0:0<=i
 ·rw [if_pos h0] at h
  by_cases h1:i<n
  ·rw [if_pos h1] at h
   have e:i.toNat=j:=Option.some.inj h;exact⟨by rw[seqIndex_of h0 h1,e],by omega,by omega,h1⟩
  ·rw[if_neg h1] at h;cases h
 ·rw [if_neg h0] at h
  by_cases h1:-(n:Int)<=i
  ·rw [if_pos h1] at h
   have e:(i+n).toNat=j:=Option.some.inj h;exact⟨by rw[seqIndex_neg (by omega) h1,e],by omega,h1,by omega⟩
  ·rw[if_neg h1] at h;cases h
def u7S {α:Type}{xs:List α}{i:Int}{v:α} (h:atI xs i=some v):∃j,seqIndex? i xs.length=some j/\xs[j]?=some v/\j<xs.length/\-(xs.length:Int)<=i/\i<xs.length:=by
 unfold atI at h;cases e:ixN xs.length i with
 | none=>rw[e] at h;cases h
 | some j =>
  rw[e] at h;obtain⟨h1,h2,h3,h4⟩:=ixN_seq e;exact⟨j,h1,h,h2,h3,h4⟩
def u5U {α:Type}{xs:List α}{j:Nat}{v:α} (h:xs[j]?=some v):atI xs (j:Int)=some v:=by
 have hj:j<xs.length:=(y6.mp h).1;have e:ixN xs.length (j:Int)=some j:=by
  unfold ixN;rw[if_pos (by omega),if_pos (by omega)];simp
 unfold atI;rw[e];exact h
def PlainIx (b:Expr):Prop:=∀o i,subscripted b false o i=operate [o,i] (getItem o i)
def IxR (X:Cx) (r:R2):Prop :=
 ∀(value slice:Expr) (pins:LO) (s:Shared) (σ:St) (H:Hp) (x y:V) (v u:Value) (Q:VK),Inv X pins σ H s->RelV x v->RelV y u->r x y H Q ->
  subscripted slice false v u=operate [v,u] (getItem v u)->wpAny (model X.prog X.w) X.A (subscriptTail value slice v u) (EP X pins σ Q) X.xe s
def MtR (X:Cx) (id:String) (r:V->List V->Hp->VK->Prop):Prop :=
 ∀(pins:LO) (s:Shared) (σ:St) (H:Hp) (x:V) (xs:List V) (v:Value) (us:List Value) (Q:VK),Inv X pins σ H s->RelV x v->Vals xs us->r x xs H Q ->
  wpAny (model X.prog X.w) X.A (call (.builtin id) (v::us)) (EP X pins σ Q) X.xe s
section
variable {X:Cx}{a b:Expr}{ta tb:TE}{pos:Pos}
def pe_ix {r:R2} (hr:IxR X r) (ha:PE X a ta) (hb:PE X b tb) (hs:PlainIx b):PE X (.Subscript a b pos) (tOp r ta tb):=by
 intro pins s σ H Q I h;exact Subscript_ (binT ha hb I h λv u s2 x y H2 I2 rx ry q=>hr a b pins s2 σ H2 x y v u Q I2 rx ry q (hs _ _))
def rIxL (K:W.Frag):R2:=λx y H Q=>∃p xs i v,x=.ref p/\y=.int i/\SqL K H p xs/\atI xs i=some v/\Q v H
def rIxT (K:W.Frag):R2:=λx y H Q=>∃p xs i v,x=.ref p/\y=.int i/\SqT K H p xs/\atI xs i=some v/\Q v H
def rIxS:R2:=λx y H Q=>∃z i c,x=.str z/\y=.int i/\z.length<=sizeLine/\atI z.cps.toList i=some c/\Q (.str ⟨#[c]⟩) H
def ix_list:IxR X (rIxL X.K):=by
 intro value slice pins s σ H x y v u Q I rx ry h hs;obtain⟨p,xs,i,z,rfl,rfl,hq,he,q⟩:=h;cases rx;obtain⟨t,rfl⟩:=ry;obtain⟨its,r,pl,hz⟩:=I.list hq;obtain⟨j,h1,h2,h3,h4,h5⟩:=u7S he;obtain⟨w,ew,rw'⟩:=r.get h2;have hl:=r.length;have hn:=line63;have fin:EP X pins σ Q w s:=⟨z,H,I,rw',q⟩;by_cases h0:0<=i
 ·have hj:i.toNat=j:=by
   rw[seqIndex_of h0 h5] at h1;exact Option.some.inj h1
  exact item_listR pl.isList h0 (by omega) (by rw[hj];simpa using ew) fin hs
 ·have hj:(i+(its.toArray.size:Int)).toNat=j:=by
   rw[seqIndex_neg (by omega) h4] at h1
   rw[y1,<- hl];exact Option.some.inj h1
  exact subscriptTail_builtinR (x:=w) pl.isList.typeIs slot_list_getitem.lookup
   (wpAny_getItem_list_neg (Q:=λr s'=>r=w/\EP X pins σ Q r s') pl.isList (by omega) (by rw[y1]<;>omega) (by omega) (by rw[hj];simpa using ew) ⟨rfl,fin⟩) hs
def ix_tup:IxR X (rIxT X.K):=by
 intro value slice pins s σ H x y v u Q I rx ry h hs;obtain⟨p,xs,i,z,rfl,rfl,hq,he,q⟩:=h;cases rx;obtain⟨t,rfl⟩:=ry;obtain⟨its,r,pl,hz⟩:=I.tuple hq;obtain⟨j,h1,h2,h3,h4,h5⟩:=u7S he;obtain⟨w,ew,rw'⟩:=r.get h2;have hl:=r.length;have hn:=line63;have fin:EP X pins σ Q w s:=⟨z,H,I,rw',q⟩;exact subscriptTail_builtinR (x:=w) pl.typeIs slot_tuple_getitem.lookup
  (getItem_tuple (j:=j) (Q:=λr s'=>r=w/\EP X pins σ Q r s') pl (by omega) (by omega) (by rw[y1,<- hl];exact h1) (by simpa using ew) ⟨rfl,fin⟩) hs
def ix_str:IxR X rIxS:=by
 intro value slice pins s σ H x y v u Q I rx ry h hs;obtain⟨z,i,c,rfl,rfl,hz,he,q⟩:=h;obtain⟨t,rfl⟩:=rx;obtain⟨t',rfl⟩:=ry;obtain⟨j,h1,h2,h3,h4,h5⟩:=u7S he;have hl:z.cps.toList.length=z.length:=by simp[Str.length]
 rw[hl] at h1 h4 h5;have hn:=line63;exact tail_any (typeIs_str s z t) slot_str_getitem.lookup (getItem_str (c:=c) (by
  have e1:decide (i < -(2^63:Int))=false:=decide_eq_false (by omega)
  have e2:decide (i ≥ 2^63)=false:=decide_eq_false (by omega)
  rw[e1,e2,Bool.or_false]) (by rw[h1];simpa using h2) ⟨.str ⟨#[c]⟩,H,I.tok _,⟨_,rfl⟩,q⟩) hs
def u6e (lo hi:Option Int) (n:Nat):(sliceBounds lo hi none n).1=((HT.sIx n 0 lo:Nat):Int)/\(sliceBounds lo hi none n).2.1=((HT.sIx n n hi:Nat):Int)/\(sliceBounds lo hi none n).2.2=1:=by
 refine⟨?_,?_,rfl⟩
 ·cases lo with
  | none=>simp[sliceBounds,HT.sIx]
  | some i =>
   simp only[sliceBounds,HT.sIx,Option.getD_none,show(1:Int) > 0 by decide,if_true]
   by_cases h:i<0
   ·simp only[h,if_true]<;>omega
   ·simp only[h,if_false]<;>omega
 ·cases hi with
  | none=>simp[sliceBounds,HT.sIx]
  | some i =>
   simp only[sliceBounds,HT.sIx,Option.getD_none,show(1:Int) > 0 by decide,if_true]
   by_cases h:i<0
   ·simp only[h,if_true]<;>omega
   ·simp only[h,if_false]<;>omega
def u5s (its:List Value) (lo hi:Option Int):slicePick its.toArray lo hi none=((its.drop (HT.sIx its.length 0 lo)).take (HT.sIx its.length its.length hi - HT.sIx its.length 0 lo)).toArray:=by
 obtain⟨h1,h2,h3⟩:=u6e lo hi its.toArray.size;unfold slicePick;rw[h1,h2,h3];simp only[sliceRange_one,pick_run,y1]<;>rfl
def rSlL (K:W.Frag):V->Option Int->Option Int->Hp->VK->Prop:=λx lo hi H Q=>∃a xs,x=.ref a/\SqL K H a xs/\∀p,H p=none->Q (.ref p) (upd H p (.lst (cutV xs lo hi)))
def sl_list:SlR X (rSlL X.K):=by
 intro pins s σ H x v vl vu lo hi sl Q I rx hs pl pu h;obtain⟨a,xs,rfl,hx,q⟩:=h;cases rx;obtain⟨its,r,ht,hz⟩:=I.list hx;have hlen:=r.length;refine⟨"list",_,slot_list_getitem.lookup,ht.isList.typeIs,?_⟩;refine wpAny_getItem_list_slice ht.isList hs pl pu .none (by simp) ?_ (by rw[y1]<;>omega)
 rw[u5s,<- hlen];refine⟨.ref s.heap.objs.size,_,I.laid (t':=s.toks) (o:=.lst (cutV xs lo hi)) (λb ob q=>z0 _ q) (z7 _) ?_,rfl,q _ (I.hok.fresh (z7 _))⟩
 exact⟨y7 (u4x xs lo hi) hz,_,0,(r.drop (HT.sIx xs.length 0 lo)).take (HT.sIx xs.length xs.length hi - HT.sIx xs.length 0 lo),z6 _ rfl⟩
def u6y:OpR X (compareOp .NotIn) (λx y H Q=>∃i j,x=.str i/\y=.str j/\Q (.bl (!(!(Builtin.Str.occurrences j i 0 j.length 1).isEmpty))) H):=by
 intro pins s σ H x y v u Q I rx ry h;obtain⟨i,j,rfl,rfl,q⟩:=h;obtain⟨t,rfl⟩:=rx;obtain⟨t',rfl⟩:=ry;exact notIn_str ⟨.bl _,H,I,rfl,q⟩
def u6V:CallR X (.type "list") (λxs H Q=>∃p ys,xs=[.ref p]/\(SqL X.K H p ys\/SqT X.K H p ys)/\∀l,H l=none->Q (.ref l) (upd H l (.lst ys))):=by
 intro pins s σ H xs us Q I r h;obtain⟨p,ys,rfl,hq,q⟩:=h;obtain⟨u,rfl,rx⟩:=vals1 r;cases rx;have fin:∀(its:List Value),Vals ys its->ys.length<=sizeLine->∀(h':Heap) (c':Nat),(∀b o',s.heap.get? b=some o'->h'.get? b=some o') ->
   h'.get? s.heap.objs.size=some { cls:=.type "list",dict:=none,data:=.seq its.toArray c',slots:=#[] }->EP X pins σ Q (.ref s.heap.objs.size) { s with heap:=h' }:=λits r' hz h' c' kp e =>
  ⟨.ref s.heap.objs.size,_,I.laid (t':=s.toks) kp (z7 _) (show ObjOk X.prog X.w _ h' _ (.lst ys) from⟨hz,its,c',r',e⟩),rfl,q _ (I.hok.fresh (z7 _))⟩
 rcases hq with hq|hq
 ·obtain ⟨its,r',pl,hz⟩:=I.list hq
  have hlen:=r'.length;obtain⟨o,ho,hc,n,hd⟩:=pl.isList;exact call_list_seq p (.inl rfl) ho hc hd (λh' c' kp e=>fin its r' hz h' c' kp e) (by simp only[y1]<;>omega)
 ·obtain ⟨its,r',pl,hz⟩:=I.tuple hq
  have hlen:=r'.length;obtain⟨o,ho,hc,n,hd⟩:=pl;exact call_list_seq p (.inr rfl) ho hc hd (λh' c' kp e=>fin its r' hz h' c' kp e) (by simp only[y1]<;>omega)
def u2Q:CallR X (.type "tuple") (λxs H Q=>∃p ys,xs=[.ref p]/\((SqL X.K H p ys/\∀l,H l=none->Q (.ref l) (upd H l (.tup ys)))\/(SqT X.K H p ys/\Q (.ref p) H))):=by
 intro pins s σ H xs us Q I r h;obtain⟨p,ys,rfl,h⟩:=h;obtain⟨u,rfl,rx⟩:=vals1 r;cases rx;rcases h with⟨hq,q⟩|⟨hq,q⟩
 ·obtain ⟨its,r',pl,hz⟩:=I.list hq
  have hlen:=r'.length;refine call_tuple_list pl.isList (λh' kp=>?_) (by simp only[y1]<;>omega)
  have I1:Inv X pins σ H { s with heap:=h' }:=I.kept (t':=s.toks) kp
  have I2:Inv X pins σ (upd H h'.objs.size (.tup ys)) { s with heap:=h'.push { cls:=.type "tuple",data:=.seq its.toArray } } :=
   I1.laid (t':=s.toks) (λb o e=>z0 _ e) (z7 _) (show ObjOk X.prog X.w _ _ _ (.tup ys) from⟨hz,its,r',IsTup.new _ _⟩)
  exact⟨.ref h'.objs.size,_,I2,rfl,q _ (I1.hok.fresh (z7 _))⟩
 ·obtain ⟨its,r',pl,hz⟩:=I.tuple hq
  exact call_tuple_same pl ⟨.ref p,H,I,rfl,q⟩
def tyV (K:W.Frag) (T:String) (x:V) (H:Hp):Prop:=match x with
 | .str _=>T="str"
 | .int _=>T="int"
 | .ref p=>(T="list"/\∃xs,SqL K H p xs)\/(T="tuple"/\∃o,K.lookup p=some o/\o.cls=.type "tuple"/\o.dict=none) \/
   (T="dict"/\((∃kvs,H p=some (.dK kvs))\/∃kvs,H p=some (.dT kvs)))\/(T="set"/\∃S n,H p=some (.set S n))
 | _=>False
def v3C {pins:LO}{σ:St}{H:Hp}{s:Shared}{T:String}{x:V}{v:Value} (I:Inv X pins σ H s) (r:RelV x v) (ty:tyV X.K T x H) :
  s.TypeIs v T/\∀a,v=.ref a->∃ob,s.heap.get? a=some ob/\ob.dict=none:=by
 cases x with
 | str z =>
  obtain⟨t,rfl⟩:=r;cases (show T="str" from ty)
  exact⟨typeIs_str s z t,λ_ e=>nomatch e⟩
 | int i =>
  obtain⟨t,rfl⟩:=r;cases (show T="int" from ty)
  exact⟨typeIs_int s i t,λ_ e=>nomatch e⟩
 | ref p =>
  cases r;rcases ty with⟨rfl,xs,hq⟩|⟨rfl,o,hk,hc,hd⟩|⟨rfl,hk⟩|⟨rfl,S,n,hk⟩
  ·obtain ⟨its,_,pl,_⟩:=I.list hq
   refine⟨pl.isList.typeIs,λa e=>?_⟩
   cases e;obtain⟨o,n,e,c,hd,_⟩:=pl;exact⟨o,e,hd⟩
  ·refine ⟨⟨o,I.kIn p o hk,hc⟩,fun a e=>?_⟩
   cases e;exact⟨o,I.kIn _ o hk,hd⟩
  ·have z:∃o,s.heap.get? p=some o/\o.ExactDict:=by
    rcases hk with⟨kvs,hk⟩|⟨kvs,hk⟩
    ·obtain ⟨_,_,_,_,o,_,_,e,ex,_⟩:=I.hok p _ hk
     exact⟨o,e,ex⟩
    ·obtain ⟨_,_,_,_,o,_,_,e,ex,_⟩:=I.hok p _ hk
     exact⟨o,e,ex⟩
   obtain⟨o,e,ex⟩:=z;refine⟨⟨o,e,ex.1⟩,λa e2=>?_⟩
   cases e2;exact⟨o,e,ex.2.1⟩
  ·obtain ⟨o,_,_,_,e,ex,_⟩:=I.hok p _ hk
   refine⟨⟨o,e,ex.1⟩,λa e2=>?_⟩
   cases e2;exact⟨o,e,ex.2.1⟩
 | _=>exact False.elim ty
def tBM0 (K:W.Frag) (T:String) (r:V->List V->Hp->VK->Prop) (to:TE):TE:=λσ H Q=>to σ H λx H1=>tyV K T x H1/\r x [] H1 Q
def tBM (K:W.Frag) (T:String) (r:V->List V->Hp->VK->Prop) (to:TE) (t:TA):TE:=λσ H Q=>to σ H λx H1=>tyV K T x H1/\t σ H1 λxs H2=>r x xs H2 Q
variable {o e:Expr}{es:List Expr}{to:TE}{t:TA}{name:Str}{apos cpos:Pos}{T id:String}{r:V->List V->Hp->VK->Prop}
def v3Q (pa:PlainAttrs T) (slot:Slot T name id) (hty:typeOf (.builtin id)=pure (.type "method_descriptor")) (hm:MtR X id r) (ho:PE X o to)
  (hbase:attributeBase o name X.env (eval o X.env)=eval o X.env:=by rfl) (hline:(apos.endLine==cpos.line)=true:=by rfl):PE X (.Call (.Attribute o name apos) [] [] cpos) (tBM0 X.K T r to):=by
 intro pins s σ H Q I h;refine wpAny_Call_method0_late hbase hline (thn (ho pins s σ H _ I h) λv s1 z960=>?_)
 obtain⟨x,H1,I1,r1,ty,q1⟩:=z960;obtain⟨h1,h2⟩:=v3C I1 r1 ty;exact⟨T,id,pa,slot,hty,h1,h2,Calls.callWith_builtin rfl (PySem.evalArgs_none (hm pins s1 σ H1 x [] v [] Q I1 r1 .nil q1))⟩
def pe_bm (pa:PlainAttrs T) (slot:Slot T name id) (hty:typeOf (.builtin id)=pure (.type "method_descriptor")) (hm:MtR X id r) (ho:PE X o to) (ha:PA X (e::es) t)
  (hbase:attributeBase o name X.env (eval o X.env)=eval o X.env:=by rfl)
  (hfew:((backTo cpos (starEach (e::es) X.env)).all (fun x=>!x.1)&&(backToKw cpos (keywordEach [] X.env)).all (fun x=>x.1.isSome)
   && decide ((e::es).length+([]:List Keyword).length+(if ([]:List Keyword).isEmpty then 0 else 1)<30))=true:=by rfl)
  (hline:(apos.endLine==cpos.line)=true:=by rfl) (hs:starEach (e::es) X.env=(false,eval e X.env)::starEach es X.env:=by rfl) (hplain:(backTo cpos (starEach es X.env)).any (·.1)=false:=by rfl) :
  PE X (.Call (.Attribute o name apos) (e::es) [] cpos) (tBM X.K T r to t):=by
 intro pins s σ H Q I h;refine wpAny_Call_method_late hbase hfew hline rfl (thn (ho pins s σ H _ I h) λv s1 z961=>?_)
 obtain⟨x,H1,I1,r1,ty,q1⟩:=z961;obtain⟨h1,h2⟩:=v3C I1 r1 ty;refine⟨T,id,pa,slot,hty,h1,h2,?_⟩;have hA:=ha cpos pins s1 σ H1 _ I1 q1;rw[hs] at hA |-
 refine Calls.callWith_builtin (by show(false||(backTo cpos (starEach es X.env)).any (·.1))=false;rw[hplain]<;>rfl) (Calls.evalArgs_plain ?_)
 exact thn hA λus s2 ⟨vs,H2,I2,r2,q2⟩=>hm pins s2 σ H2 x vs v us Q I2 r1 r2 q2
end
def MtM (X:Cx) (id:String) (r:V->List V->Hp->VK->Prop):Prop :=
 ∀(pins:LO) (s:Shared) (σ:St) (H:Hp) (x:V) (xs:List V) (v:Value) (us:List Value) (Q:VK),Inv X pins σ H s->RelV x v->Vals xs us->r x xs H Q ->
  wpAny (model X.prog X.w) X.A (call (.builtin id) (v::us)) (EP X pins σ Q) X.xe s
theorem Vals.one:∀{x:V}{us:List Value},Vals [x] us->∃u,us=[u]/\RelV x u
 | _,_,.cons r .nil=>⟨_,rfl,r⟩
theorem Vals.zero:∀{us:List Value},Vals [] us->us=[]
 | _,.nil=>rfl
theorem Vals.dropLast {xs:List V}{us:List Value} (h:Vals xs us):Vals xs.dropLast us.dropLast:=by
 induction h with
 | nil=>exact .nil
 | cons r t ih =>
  cases t with
  | nil=>exact .nil
  | cons q t'=>exact .cons r ih
theorem Vals.eraseIdx:∀{xs:List V}{us:List Value} (i:Nat),Vals xs us->Vals (xs.eraseIdx i) (us.eraseIdx i)
 | _,_,_,.nil=>.nil
 | _,_,0,.cons _ t=>t
 | _,_,i+1,.cons r t=>.cons r (Vals.eraseIdx i t)
theorem Vals.rep {xs:List V}{us:List Value} (h:Vals xs us):∀k:Nat,Vals (List.replicate k xs).flatten (List.replicate k us).flatten
 | 0=>.nil
 | k+1=>by
  rw[List.replicate_succ,List.replicate_succ,List.flatten_cons,List.flatten_cons];exact Vals.append h (Vals.rep h k)
def u9Q {α:Type} (l:List α):l.eraseIdx (l.length - 1)=l.dropLast:=by
 induction l with
 | nil=>rfl
 | cons a r ih =>
  cases r with
  | nil=>rfl
  | cons b r =>
   have e:(a::b::r).length - 1=((b::r).length - 1)+1:=by
    have h1:(a::b::r).length=r.length+2:=rfl;have h2:(b::r).length=r.length+1:=rfl;omega
   rw[e,List.eraseIdx_cons_succ,ih]
   all_goals rfl
theorem u6D {α:Type}:∀(l:List α) (i:Nat),(l.eraseIdx i).length<=l.length
 | [],_=>z7 _
 | _::_,0=>Nat.le_succ _
 | _::r,i+1=>Nat.succ_le_succ (u6D r i)
theorem u4o (its:List Value):∀(k:Nat) (acc:List Value),
  List.foldl (λx1 x2=>x1++x2) acc.toArray (List.replicate k its.toArray)=(acc++(List.replicate k its).flatten).toArray
 | 0,acc=>by simp
 | k+1,acc=>by
  have e:acc.toArray++its.toArray=(acc++its).toArray:=by simp
  have e2:(acc++its)++(List.replicate k its).flatten=acc++(List.replicate (k+1) its).flatten:=by
   rw[List.replicate_succ,List.flatten_cons,List.append_assoc]
  rw[<- e2,<- u4o its k (acc++its),<- e,List.replicate_succ,r6]
section
variable {X:Cx}{pins:LO}{σ:St}{H:Hp}{s:Shared}{l b:Addr}{xs ys zs:List V}
def Inv.lset {its its':List Value}{n:Nat}{f:Array Value->Array Value}{t':Nat} (I:Inv X pins σ H s) (hH:H l=some (.lst xs))
  (e:s.heap.get? l=some { cls:=.type "list",data:=.seq its.toArray n }) (hf:f its.toArray=its'.toArray) (hv:Vals ys its') (hz:ys.length<=sizeLine) :
  Inv X pins σ (upd H l (.lst ys)) { s with heap:=s.heap.update l (Obj.mapSeq f),toks:=t' }:=by
 have q:=PySem.IsL.update e f;rw[hf] at q;refine I.write (x:=l) (e:=l) (by rw[hH];exact trivial) (.inl rfl) (λb' u hb hu=>(u9 s.heap (Obj.mapSeq f) (Ne.symm hb)).trans hu) ⟨_,q⟩ ?_
 exact⟨hz,its',_,hv,q⟩
def Inv.lnew {its:List Value}{t':Nat} (I:Inv X pins σ H s) (hv:Vals ys its) (hz:ys.length<=sizeLine) :
  Inv X pins σ (upd H s.heap.objs.size (.lst ys)) { s with heap:=s.heap.push { cls:=.type "list",data:=.seq its.toArray },toks:=t' } :=
 I.laid (λ_ _ q=>z0 _ q) (z7 _) ⟨hz,its,0,hv,z6 _ rfl⟩
theorem Inv.fresh (I:Inv X pins σ H s):H s.heap.objs.size=none:=I.hok.fresh (z7 _)
def Inv.lstM (I:Inv X pins σ H s) (hH:H l=some (.lst xs)):xs.length<=sizeLine/\∃(its:List Value) (n:Nat),Vals xs its/\xs.length=its.length/\s.heap.get? l=some { cls:=.type "list",data:=.seq its.toArray n }:=by
 obtain⟨z,its,n,r,e⟩:=I.hok l _ hH;exact⟨z,its,n,r,r.length,e⟩
def notLongL {n:Nat} (h:n<=sizeLine):Builtin.List.listTooLong n=false:=by
 unfold Builtin.List.listTooLong;exact decide_eq_false (by omega)
end
section
variable {X:Cx}
def rAppend:V->List V->Hp->VK->Prop:=λx vs H Q=>∃l xs y,x=.ref l/\vs=[y]/\H l=some (.lst xs)/\xs.length<sizeLine/\Q .non (upd H l (.lst (xs++[y])))
def u6B:MtM X "list.append" rAppend:=by
 intro pins s σ H x vs v us Q I rx rv h;obtain⟨l,xs,y,rfl,rfl,hH,hz,q⟩:=h;cases rx;obtain⟨u,rfl,ru⟩:=rv.one;obtain⟨z,its,n,r,hl,e⟩:=I.lstM hH;refine call_meets F.slot_list_append ⟨_,e,rfl⟩ F.entry_list_append (F.args_list_append_2 _ _) (PySem.list_append l its.toArray n u (by rw[y1];omega)) ⟨e,?_⟩
 refine⟨.non,_,I.lset (its':=its++[u]) hH e (by simp) (r.append (.cons ru .nil)) ?_,rfl,q⟩
 rw[u7,List.length_singleton];omega
def rPop:V->List V->Hp->VK->Prop:=λx vs H Q=>∃l xs y,x=.ref l/\vs=[]/\H l=some (.lst xs)/\xs[xs.length - 1]?=some y/\Q y (upd H l (.lst xs.dropLast))
def mt_pop:MtM X "list.pop" rPop:=by
 intro pins s σ H x vs v us Q I rx rv h;obtain⟨l,xs,y,rfl,rfl,hH,hy,q⟩:=h;cases rx;have hus:=rv.zero;subst hus;obtain⟨z,its,n,r,hl,e⟩:=I.lstM hH;obtain⟨u,hu,ru⟩:=r.get hy;have hy':its.toArray[its.toArray.size - 1]?=some u:=by
  show its.toArray[its.length - 1]?=some u;rw[<- t7,<- hl];exact hu
 refine call_meets F.slot_list_pop ⟨_,e,rfl⟩ F.entry_list_pop (F.args_list_pop_1 _) (MeetsSeq.list_pop_last l its.toArray n u hy' (by rw[y1];omega)) ⟨e,?_⟩
 refine⟨y,_,I.lset (its':=its.dropLast) hH e ?_ r.dropLast ?_,ru,q⟩
 ·show its.toArray.eraseIdxIfInBounds (its.toArray.size - 1)=its.dropLast.toArray
  rw[y1,List.eraseIdxIfInBounds_toArray,u9Q]
 ·rw [List.length_dropLast]
  omega
def rPopAt:V->List V->Hp->VK->Prop:=λx vs H Q=>∃l xs i k y,x=.ref l/\vs=[.int i]/\H l=some (.lst xs)/\-(2^63)<=i/\i<2^63/\seqIndex? i xs.length=some k/\xs[k]?=some y/\Q y (upd H l (.lst (xs.eraseIdx k)))
def v2R:MtM X "list.pop" rPopAt:=by
 intro pins s σ H x vs v us Q I rx rv h;obtain⟨l,xs,i,k,y,rfl,rfl,hH,h1,h2,hk,hy,q⟩:=h;cases rx;obtain⟨u,rfl,ru⟩:=rv.one;obtain⟨t,rfl⟩:=ru;obtain⟨z,its,n,r,hl,e⟩:=I.lstM hH;obtain⟨w,hw,rw'⟩:=r.get hy;refine call_meets F.slot_list_pop ⟨_,e,rfl⟩ F.entry_list_pop (F.args_list_pop_2 _ _)
  (MeetsSeq.list_pop_at l its.toArray n i t k w (fitsIndex_both h1 h2) (by rw[y1,<- hl];exact hk) (by rw[<- t7];exact hw) (by rw[y1];omega)) ⟨e,?_⟩
 refine⟨y,_,I.lset (its':=its.eraseIdx k) hH e ?_ (r.eraseIdx k) ?_,rw',q⟩
 ·show its.toArray.eraseIdxIfInBounds k=(its.eraseIdx k).toArray
  rw[List.eraseIdxIfInBounds_toArray]
 ·have:=u6D xs k
  omega
def rClear:V->List V->Hp->VK->Prop:=λx vs H Q=>∃l xs,x=.ref l/\vs=[]/\H l=some (.lst xs)/\Q .non (upd H l (.lst []))
def v2S:MtM X "list.clear" rClear:=by
 intro pins s σ H x vs v us Q I rx rv h;obtain⟨l,xs,rfl,rfl,hH,q⟩:=h;cases rx;have hus:=rv.zero;subst hus;obtain⟨z,its,n,r,hl,e⟩:=I.lstM hH;refine call_meets F.slot_list_clear ⟨_,e,rfl⟩ F.entry_list_clear (F.args_list_clear_1 _) (AutoSeq1.list_clear_list_0 l its.toArray n (by rw[y1];omega)) ⟨e,?_⟩
 exact⟨.non,_,I.lset (its':=[]) (ys:=[]) hH e rfl .nil (q9 _),rfl,q⟩
def v0O {α:Type} (xs:List α) (k:Nat):(List.replicate k xs).flatten.length=k*xs.length:=by
 induction k with
 | zero=>simp
 | succ k ih=>rw[List.replicate_succ,List.flatten_cons,u7,ih,Nat.succ_mul,Nat.add_comm]
end
end L2
namespace Att
open PySem PySem.W PySem.Calls PyProof.Rows
def u4m {P:Params}{h:Heap}:∀(ns:List Int) (vs:List Value),WellAll P h vs (ns.map WData.int)->IntsAre vs ns:=by
 intro ns;induction ns with
 | nil =>
  intro vs w;rw[List.map_nil] at w;cases w;exact .nil
 | cons n ns ih =>
  intro vs w;rw[y9] at w;cases w with
  | cons a b =>
   cases a;exact .cons _ _ (ih _ b)
def v0o {l:OpenLaw}{n:Nat} (hn:l.most=some n) {P:Params}{h:Heap}{args:List WData}{vals:List Value}
  (hpre:l.row.toRowW.claim.pre args=true) (hwl:WellAll P h vals args) :
  ∃a vs ns,vals=[Value.ref a]/\args=[WData.list (ns.map WData.int)]/\h.get? a=some { cls:=.type "list",data:=.seq vs.toArray }/\IntsAre vs ns/\ns.length<=n:=by
 have hsh:WShape.hasAll [] args [.list .int]=true:=(pre_splitW hpre).1;have hc:l.pre.holds [] { args:=args }=true:=(pre_splitW hpre).2;obtain⟨d,r,rfl,h1,h2⟩:=hasAllW_cons hsh;obtain rfl:=hasAllW_nil h2;obtain⟨xs,rfl,h3⟩:=hasW_list h1;obtain⟨ns,rfl⟩:=items_int h3;have hlen:ns.length<=n:=by
  unfold OpenLaw.pre at hc;have h4:(WTm.not (.lt (.lit (.int (n:Int))) (.len (.arg 0)))).holds [] { args:=[.list (ns.map .int)] }=true:=by
   have h4:=(holds_andW hc).1;rw[hn] at h4;exact h4
  have h5:=condW_of h4 (w_not (w_lt w_lit (w_len_list (w_arg rfl))));rw[x6] at h5;refine Nat.le_of_not_lt λq=>?_
  have q':(n:Int)<((ns.length:Nat):Int):=by omega
  first
   | (rw[decide_eq_true q'] at h5;exact absurd h5 (by decide))
   | (simp at h5;omega)
 cases hwl with
 | cons w1 w2 =>
  cases w2;cases w1 with
  | list ho hall=>exact⟨_,_,ns,rfl,rfl,ho,u4m ns _ hall,hlen⟩
def v0x (l:OpenLaw) (args:List WData):l.row.toRowW.claim.post args (.bool true) args=true :=
 postW_of (r:=l.row.toRowW) (X:=(true==true))
  (show WShape.has [] (.bool true) .bool=true by first|rfl|decide|simp[WShape.has,WShape.arms,WShape.armsAll])
  (show(WTm.eq .res (.lit (.bool true))).value [] { args:=args,res:=some (.bool true),after:=args }=some (.bool (true==true)) from w_eq_bool (w_res rfl) w_lit) rfl
def attach_call {l:OpenLaw}{n:Nat}{q:Program}{loose:List Str}{XP:(Str->Option Value)->Heap->Prop}{YP:World->Heap->Prop}{d:DefRec}
  (hn:l.most=some n) (hdf:d.params.defaults=[])
  (call:∀ (w:World) (s₀ s₁:Shared) (mg mb:MG) (fa:Addr) (o:Obj) (pm cd doc:Value) (a:Addr) (vs:List Value) (ns:List Int),
   Ground q loose [] XP w s₀ mg mb s₁.heap->YP w s₁.heap ->
   s₁.heap.get? fa=some o->o.data=.func (docDef d.name d.params d.body d.scope pm cd doc)->s₁.heap.CodeRec cd d.name->mg d.name=some (.ref fa) ->
   s₁.heap.get? a=some { cls:=.type "list",data:=.seq vs.toArray }->IntsAre vs ns->ns.length<=n->s₁.gens=#[] ->
   codeAny (model l.prog w) callerA (.call (.ref fa) ⟨[.ref a],[]⟩) (λr s'=>r=.ok (.ret (.bool true))/\OldK s₁.heap s'.heap/\s'.os=s₁.os/\AllBare s'.gens) s₁) :
  WalkO q loose XP YP l.row.toRowW d [] (λf vs=>PySem.call f vs):=by
 intro w s₀ s₁ mg mb G Y fa o pm cd doc dV kV ho hd hcd hD hmg hg args vals as hpre hlay hrd hwl hlo;obtain rfl:dV=.none:=Dflts.none hD hdf;obtain rfl:kV=.none:=Dflts.noKw hD;obtain⟨a,vs,ns,rfl,rfl,hobj,hints,hlen⟩:=v0o hn hpre hwl;refine enter_call (codeAny_mono (call w s₀ s₁ mg mb fa o pm cd doc a vs ns G Y ho (fd_plain hd) hcd hmg hobj hints hlen hg) λr s' hq=>?_)
 obtain⟨rfl,h2,h3,h4⟩:=hq;exact⟨.inl ⟨.bool true,.bool true,[],rfl,λ_=>rfl,.bool true,v0x l _,λ_=>⟨List.Pairwise.nil,λ_ hm=>(nomatch hm)⟩⟩,h2,h3,h4⟩
end Att
namespace L2
open PySem PySem.Spec PyProof.Rows
theorem u5Y:∀{vs:List Value}{ns:List Int},IntsAre vs ns->Vals (ns.map V.int) vs
 | _,_,.nil=>.nil
 | _,_,.cons n t h=>.cons ⟨t,rfl⟩ (u5Y h)
def Only (H:Hp):Prop:=∀b,H b=none\/∃o xs,H b=some (.frz o (.lst xs))
def v2Y {P:Program}{w:World}{K:W.Frag}{mg mb:MG}{CX:CXT}{k:Nat}{fa a:Addr}{fd:FuncData}{x:Str}{sp:Sp}{s₁:Shared}{vs:List Value}{ns:List Int}
  (KX:K.In s₁.heap) (hns:s₁.heap.Ns mainGlobals mg) (hb:s₁.heap.Ns builtinsNs mb) (hbb:∀x:Str,x≠"__name__"->mb x=bootBuiltins x) (hlim:s₁.heap.NoLimit) (hg:s₁.gens=#[])
  (ha:s₁.heap.get? a=some { cls:=.type "list",data:=.seq vs.toArray }) (hi:IntsAre vs ns) (hl:ns.length<=sizeLine) (hr:Room k callerA)
  (F:∀base:Heap,K.In base->base.Ns mainGlobals mg->FnOk P w K mg base CX k fa fd [x] sp) (hbind:∀(s:Shared) (u:Value),BindsTo s fd ⟨[u],[]⟩ [(x,u)])
  (hsp:∀H:Hp,Only H->SqL K H a (ns.map V.int)->sp [.ref a] H (λv _=>v=.bl true) λ_ _ _=>False)
  (hCX:∀H e s',CX [] H s₁ (λ_ _ _=>False) e s'->False) :
  codeAny (model P w) callerA (.call (.ref fa) ⟨[.ref a],[]⟩) (λr s'=>r=.ok (.ret (.bool true))/\OldK s₁.heap s'.heap/\s'.os=s₁.os/\AllBare s'.gens) s₁:=by
 have rv:=u5Y hi;have lenV:=hi.length;have core:∀H:Hp,Only H->SqL K H a (ns.map V.int)->HOk P w H s₁.heap->(∀b,H b≠none->b=a)->(H a≠none->K.lookup a=none) ->
   codeAny (model P w) callerA (.call (.ref fa) ⟨[.ref a],[]⟩) (λr s'=>r=.ok (.ret (.bool true))/\OldK s₁.heap s'.heap/\s'.os=s₁.os/\AllBare s'.gens) s₁:=by
  intro H hO hS hok hA hK;have base_of:∀{b:Addr}{o:Obj},s₁.heap.get? b=some o->H b=none->(hidT s₁.heap H).get? b=some o:=λe n=>v3i e n
  have noA:∀{b:Addr}{o:Obj}{es:Array DictEntry}{ep:Nat},s₁.heap.get? b=some o->o.data=.dict es ep->H b=none:=λ{b o es ep} e d=>by
   cases q:H b with
   | none=>rfl
   | some u =>
    have e':b=a:=hA b (by rw[q];simp)
    subst e';rw[ha] at e;cases e;have d':Data.seq vs.toArray _=Data.dict es ep:=d;cases d'
  have nsK:∀{b:Addr}{m:MG},s₁.heap.Ns b m->(hidT s₁.heap H).Ns b m:=λ{b m} ⟨o,es,ep,e,d,r⟩=>⟨o,es,ep,base_of e (noA e d),d,r⟩
  have hKb:K.In (hidT s₁.heap H):=λb o e=>base_of (KX b o e) (by
   cases q:H b with
   | none=>rfl
   | some u =>
    have e':b=a:=hA b (by rw[q];simp)
    subst e';rw[hK (by rw[q];simp)] at e;cases e)
  have hM:Mod K mg (hidT s₁.heap H):=⟨hKb,nsK hns,⟨mb,nsK hb,hbb⟩,by obtain⟨mc,h1,h2⟩:=hlim;exact⟨mc,nsK h1,h2⟩⟩
  have e0:Env0 P w K mg (hidT s₁.heap H) callerA [] s₁ H:=⟨rfl,hM,λb o e=>of_hidT e,Nat.le_of_eq (v1e _ _),trivial,λb hb=>absurd (show b∈([]:List Addr) from hb) (by simp),hok,.of_eq hg⟩
  refine codeAny_mono ((F _ hKb (nsK hns)).run callerA [] s₁ H ⟨[.ref a],[]⟩ [.ref a] [.ref a] _ _ hr e0 (hbind s₁ (.ref a)) (.cons rfl .nil) (hsp H hO hS)) λr s' h=>?_
  cases r with
  | error e=>exact(hCX H e s' h).elim
  | ok fl =>
   cases fl with
   | next=>exact False.elim h
   | brk=>exact False.elim h
   | cont=>exact False.elim h
   | ret u =>
    obtain⟨v,H',os,bare,un,hok',r',q⟩:=h;have q':v=.bl true:=q;subst q';obtain rfl:u=Value.bool true:=r';refine⟨rfl,OldK.of_keep λb o e=>?_,os,bare⟩
    cases q:H b with
    | none=>exact un.keep b o e q (by intro z;exact absurd (show b∈([]:List Addr) from z) (by simp)) (by simp)
    | some u =>
     rcases hO b with z|⟨ob,xs,z⟩
     ·rw[q] at z;cases z
     ·have z2:=un.frzs b ob _ z
      obtain⟨e1,_⟩:=hok b _ z;obtain⟨e2,_⟩:=hok' b _ z2;rw[e] at e1;cases e1;exact e2
 cases hk:K.lookup a with
 | some o =>
  have e:=KX a o hk;rw[ha] at e;cases e;refine core (λ_=>none) (λ_=>.inl rfl) (.inr ⟨_,vs.toArray,_,hk,rfl,rfl,rfl,by rw[y1,lenV];exact hl,by simpa using rv⟩) (λb u z=>by have z':(none:Option HO)=some u:=z;cases z') (λb z=>absurd rfl z) λz=>absurd rfl z
 | none =>
  refine core (λb=>if b=a then some (.frz { cls:=.type "list",data:=.seq vs.toArray } (.lst (ns.map V.int))) else none) (λb=>?_) (.inl (.inr ⟨{ cls:=.type "list",data:=.seq vs.toArray },if_pos rfl⟩)) (λb u z=>?_) (λb z=>?_) λ_=>hk
  ·by_cases hb:b=a
   ·exact .inr ⟨_,_,if_pos hb⟩
   ·exact .inl (if_neg hb)
  ·by_cases hb:b=a
   ·have z':=(if_pos hb).symm.trans z
    cases z';subst hb;exact⟨ha,by rw[x6];exact hl,vs,_,rv,ha⟩
   ·have z':=(if_neg hb).symm.trans z
    cases z'
  ·by_cases hb:b=a
   ·exact hb
   ·exact absurd (if_neg hb) z
def walk_of {l:W.OpenLaw}{n k:Nat}{q:Program}{loose:List Str}{XP:(Str->Option Value)->Heap->Prop}{YP:World->Heap->Prop}{d:DefRec}{K:Params->W.Frag}{CX:World->CXT}{sp:World->Sp}{x:Str}
  (hn:l.most=some n) (hn2:n<=sizeLine) (hdf:d.params.defaults=[]) (hr:Room k callerA)
  (hY:∀(w:World) (h:Heap),YP w h->(K w.params).In h)
  (F:∀ (w:World) (mg:MG) (fa:Addr) (h:Heap),(K w.params).In h->h.Ns mainGlobals mg->mg d.name=some (.ref fa) ->
   ∃fd:FuncData,(∀(s:Shared) (u:Value),BindsTo s fd ⟨[u],[]⟩ [(x,u)]) /\
    ∀base:Heap,(K w.params).In base->base.Ns mainGlobals mg->FnOk l.prog w (K w.params) mg base (CX w) k fa fd [x] (sp w))
  (hsp:∀(w:World) (H:Hp) (a:Addr) (ns:List Int),ns.length<=n->Only H->SqL (K w.params) H a (ns.map V.int)->sp w [.ref a] H (λv _=>v=.bl true) λ_ _ _=>False)
  (hCX:∀(w:World) (H:Hp) (s:Shared) (e:Value) (s':Shared),CX w [] H s (λ_ _ _=>False) e s'->False) :
  W.WalkO q loose XP YP l.row.toRowW d [] (λf vs=>PySem.call f vs):=by
 refine Att.attach_call hn hdf λw s₀ s₁ mg mb fa o pm cd doc a vs ns G Y ho hd hcd hmg hobj hints hlen hg=>?_
 have KX:=hY w _ Y;obtain⟨fd,hb,hF⟩:=F w mg fa _ KX G.T.g hmg;exact v2Y KX G.T.g G.T.b G.T.builtins G.T.nolimit hg hobj hints (y7 hlen hn2) hr hF hb (λH hO hS=>hsp w H a ns hlen hO hS) λH e s'=>hCX w H s₁ e s'
noncomputable def defArgs (s:Stmt):Arguments:=match s with
 | .FunctionDef _ a _ _ _ _ _ _ _ _=>a
 | _=>{ posonlyargs:=[],args:=[],vararg:=none,kwonlyargs:=[],kw_defaults:=[],kwarg:=none,defaults:=[] }
noncomputable def defBody (s:Stmt):List Stmt:=match s with
 | .FunctionDef _ _ b _ _ _ _ _ _ _=>b
 | _=>[]
noncomputable def defScope (s:Stmt):Scope:=match s with
 | .FunctionDef _ _ _ _ _ _ sc _ _ _=>sc
 | _=>{ kind:=.function,names:=[],isGenerator:=false,isCoroutine:=false }
abbrev CX0:CXT:=λ_ _ _ _ _ _=>False
abbrev E0:XK:=λ_ _ _=>False
def pass0 {X:Cx}:Passes CX0 X E0:=λ_ _ _ _ _ _ _ h=>h.elim
structure Fun (K:W.Frag) (x qual:Str) (st:Stmt) (f:Addr) (fd:FuncData):Prop where
 ex:∃(oc:Value) (od:Option Addr) (kV doc pm:Value) (an:Option Addr) (cdv ct:Value) (osl:Array (Option Value)),
  fd=W.fnOf x qual (defArgs st) (defBody st) (defScope st) .none kV doc pm an cdv ct/\K.lookup f=some ⟨oc,od,.func fd,osl⟩/\W.codeIn K cdv qual=true
 kp:W.keepIn K (.ref f)=true
section
variable {P:Program}{w:World}{K:W.Frag}{mg:MG}{base:Heap}
def Fun.ok {x qual:Str}{st:Stmt}{f:Addr}{fd:FuncData}{N ps:List Str}{k:Nat}{sp:Sp} (F:Fun K x qual st f fd) (S:FnScope N ps (defScope st)) (len:∀vs H Q E,sp vs H Q E->vs.length=ps.length)
  (hbody:∀ (cdv:Value) (A:Around) (outer:List Env) (s:Shared) (H:Hp) (vs:List V) (Q:VK) (E:XK),Room k (A.deeper (envOfC qual (defScope st) s.heap.objs.size f cdv))->sp vs H Q E ->
   ∃t,PSs (cxOf CX0 P w K mg base N qual (defScope st) f cdv A outer s H E).nox (defBody st) t/\t { nx:=λ_ H'=>Q .non H',rt:=Q } (start N vs) H):FnOk P w K mg base CX0 (k+1) f fd ps sp:=by
 obtain⟨oc,od,kV,doc,pm,an,cdv,ct,osl,rfl,lk,hcd⟩:=F.ex;refine fn_of lk hcd S len λA outer s H vs Q E hr hsp=>?_
 obtain⟨t,h,q⟩:=hbody cdv A outer s H vs Q E hr hsp;exact⟨t,h.nox,q⟩
def Fun.binds {x qual:Str}{st:Stmt}{f:Addr}{fd:FuncData}{ps:List Str} (F:Fun K x qual st f fd)
  (h:∀(kV doc pm:Value) (an:Option Addr) (cdv ct:Value) (us:List Value),us.length=ps.length->bindArgs (W.fnOf x qual (defArgs st) (defBody st) (defScope st) .none kV doc pm an cdv ct) ⟨us,[]⟩=pure (ps.zip us)):Binds K fd ps []:=by
 obtain⟨oc,od,kV,doc,pm,an,cdv,ct,osl,rfl,lk,hcd⟩:=F.ex;exact .all (h kV doc pm an cdv ct)
def u8y {x qual:Str}{st:Stmt}{f:Addr}{oc:Value}{od an:Option Addr}{osl:Array (Option Value)}{kV doc pm cdv ct:Value} (l:K.lookup f=some ⟨oc,od,.func (W.fnOf x qual (defArgs st) (defBody st) (defScope st) .none kV doc pm an cdv ct),osl⟩)
  (c:W.codeIn K cdv qual=true) (k:W.keepIn K (.ref f)=true):Fun K x qual st f (W.fnOf x qual (defArgs st) (defBody st) (defScope st) .none kV doc pm an cdv ct):=⟨⟨oc,od,kV,doc,pm,an,cdv,ct,osl,rfl,l,c⟩,k⟩
end
def Same (H H':Hp):Prop:=∀b o,H b=some o->H' b=some o
def Same.refl (H:Hp):Same H H:=λ_ _ h=>h
def Same.trans {H H1 H2:Hp} (a:Same H H1) (b:Same H1 H2):Same H H2:=λc o h=>b c o (a c o h)
def Same.free {H H':Hp} (e:Same H H') {l:Addr} (h:H' l=Option.none):H l=Option.none:=by
 cases q:H l with
 | none=>rfl
 | some o =>
  rw[e l o q] at h;cases h
def Same.seq {K:W.Frag}{H H':Hp}{a:Addr}{xs:List V} (e:Same H H') (h:SqL K H a xs):SqL K H' a xs:=by
 rcases h with(h|⟨o,h⟩)|h
 ·exact .inl (.inl (e _ _ h))
 ·exact .inl (.inr ⟨o,e _ _ h⟩)
 ·exact .inr h
section
variable {P:Program}{w:World}{H H':Hp}{h h1 h2:Heap}{a C:Addr}{o:HO}{fs ex:List Addr}
def HOk.track (x:HOk P w H h) (hn:H a=none) (new:ObjOk P w (upd H a o) h a o):HOk P w (upd H a o) h:=λb u e=>by
 by_cases hb:b=a
 ·subst hb;rw[u0g] at e;cases e;exact new
 ·rw [u0j hb] at e
  exact(x b u e).stay (λ_ _ _ q=>q) (λc q=>by rw[u0j (u0o q hn)];exact q) (λc xs q=>by rw[u0j (u0o q hn)];exact q)
def Un.track (u:Un fs ex H H' h h1) (hn:H' a=none) (ha:h.get? a=none):Un fs ex H (upd H' a o) h h1 where
 keep:=u.keep
 slot:=u.slot
 free:=λb ob q n hx=>by
  rw[u0j (by rintro rfl;rw[ha] at q;cases q)]
  exact u.free b ob q n hx
 there:=u.there
 tups:=λb xs q=>by have:=u.tups b xs q;rw[u0j (u0o this hn)];exact this
 frzs:=λb ob xs q=>by have:=u.frzs b ob xs q;rw[u0j (u0o this hn)];exact this
 tbls:=λb ps q=>by
  obtain⟨m,this⟩:=u.tbls b ps q;exact⟨m,by rw[u0j (u0o this hn)];exact this⟩
end
theorem u3l (env:Env) (f:Str×NameKind->List (Str×Addr)->Sem (ForInStep (List (Str×Addr))))
  (h1:∀n cs a,env.cells.lookup n=some a->f (n,.free) cs=pure (.yield ((n,a)::cs))) (h2:∀n k cs,k≠.free->f (n,k) cs=pure (.yield cs)) :
  ∀(l:List (Str×NameKind)) (cs:List (Str×Addr)),(∀x∈l,x.2=.free->∃c,env.cells.lookup x.1=some c)->(∀x c,cs.lookup x=some c->env.cells.lookup x=some c) ->
   ∃cl,forIn l cs f=pure cl/\(∀x c,cl.lookup x=some c->env.cells.lookup x=some c)/\(∀x∈l,x.2=.free->∃c,cl.lookup x.1=some c)/\∀x c,cs.lookup x=some c->∃c',cl.lookup x=some c'
 | [],cs,_,hc=>⟨cs,rfl,hc,(λ_ z=>(nomatch z)),λx c q=>⟨c,q⟩⟩
 | (n,k)::l,cs,hl,hc=>by
  by_cases hk:k=.free
  ·subst hk
   obtain⟨a,ha⟩:=hl (n,.free) z5 rfl;have hc':∀x c,((n,a)::cs).lookup x=some c->env.cells.lookup x=some c:=λx c q=>by
    rw[v8] at q;cases e:x==n with
    | true=>rw[e] at q;cases q;rw[eq_of_beq e];exact ha
    | false=>rw[e] at q;exact hc x c q
   obtain⟨cl,e,p1,p2,p3⟩:=u3l env f h1 h2 l ((n,a)::cs) (λx hx=>hl x (z4 _ hx)) hc'
   refine⟨cl,?_,p1,λx hx hf=>?_,λx c q=>?_⟩
   ·rw[List.forIn_cons,h1 n cs a ha,pure_bind];exact e
   ·rcases y0.mp hx with rfl | hx
    ·exact p3 n a (by rw[v8];simp)
    ·exact p2 x hx hf
   ·by_cases e:(x==n)=true
    ·exact p3 x a (by rw[v8,e])
    ·have e':(x==n)=false:=by simpa using e
     exact p3 x c (by rw[v8,e'];exact q)
  ·obtain ⟨cl,e,p1,p2,p3⟩:=u3l env f h1 h2 l cs (fun x hx=>hl x (z4 _ hx)) hc
   refine⟨cl,?_,p1,λx hx hf=>?_,p3⟩
   ·rw[List.forIn_cons,h2 n k cs hk,pure_bind];exact e
   ·rcases y0.mp hx with rfl | hx
    ·exact absurd hf hk
    ·exact p2 x hx hf
def u1X {scope:Scope}{env:Env} (h:∀x∈scope.names,x.2=.free->∃c,env.cells.lookup x.1=some c) :
  ∃cl,closureFor scope env=pure cl/\(∀x c,cl.lookup x=some c->env.cells.lookup x=some c)/\∀x∈scope.names,x.2=.free->∃c,cl.lookup x.1=some c:=by
 unfold closureFor;obtain⟨cl,e,p1,p2,_⟩:=u3l env (λ(x:Str×NameKind) (r:List (Str×Addr))=>match x with
   | (name,kind)=>if (kind==NameKind.free)=true then (do let a <- cellOf env name;pure (ForInStep.yield ((name,a)::r))) else pure (ForInStep.yield r))
  (fun n cs a ha=>by simp [cellOf,ha]) (fun n k cs hk=>by
   have:(k==NameKind.free)=false:=by simpa using hk
   simp[this]) scope.names [] h (λx c q=>by simp at q)
 refine⟨cl,?_,p1,p2⟩
 first
  | (rw[e];rfl)
  | (simp only[pure_bind,bind_pure] at e |-;exact e)
  | (show(forIn scope.names [] _ >>= _)=_;rw[e];rfl)
theorem u1D (env:Env):∀(names:List (Str×NameKind)) (x:Str),
  (names.map fun (n,k)=>if (k==NameKind.free&&env.scope.kind==.function&&env.kindOf n==some .cell) then (n,NameKind.cell) else (n,k)).lookup x =
   (names.lookup x).map λk=>if (k==NameKind.free&&env.scope.kind==.function&&env.kindOf x==some .cell) then NameKind.cell else k
 | [],x=>rfl
 | (n,k)::r,x=>by
  have ih:=u1D env r x;show List.lookup x ((if (k==NameKind.free&&env.scope.kind==.function&&env.kindOf n==some .cell)=true then (n,NameKind.cell) else (n,k))::_)=_
  cases hx:x==n with
  | true =>
   have e:=eq_of_beq hx;subst e;by_cases hc:(k==NameKind.free&&env.scope.kind==.function&&env.kindOf x==some .cell)=true
   ·rw[if_pos hc];simp only[v8,hx,Option.map_some,if_pos hc]
   ·rw[if_neg hc];simp only[v8,hx,Option.map_some,if_neg hc]
  | false =>
   by_cases hc:(k==NameKind.free&&env.scope.kind==.function&&env.kindOf n==some .cell)=true
   ·rw[if_pos hc];simp only[v8,hx];exact ih
   ·rw[if_neg hc];simp only[v8,hx];exact ih
abbrev cxC (X:Cx) (own:List Str) (outs:List Nat) (scope:Scope) (cl:List (Str×Addr)) (C:Addr) (s:Shared) (H:Hp) (fp:List Addr):Cx where
 prog:=X.prog
 w:=X.w
 K:=X.K
 mg:=X.mg
 base:=X.base
 A:=X.A
 N:=own++outs.map λj=>X.N.getD j Str.empty
 s₀:=s
 H₀:=H
 env:=compEnvC scope cl C X.env
 outer:=X.stack
 stack:=X.stack
 ex:=fp
 fn:=λ_=>false
 calm:=X.calm
 pn:=[]
 xe:=λ_ _=>False
noncomputable def stC (k:Nat) (outs:List Nat) (σ:St):St:=List.replicate k none++outs.map λj=>(σ[j]?).join
structure CompOk (sc:Scope) (N:List Str) (own:List Str) (outs:List Nat) (scope:Scope):Prop where
 kind:scope.kind=.function
 cell:∀y∈scope.names,y.2≠.cell
 loc:∀y∈scope.names,y.2=.local->scope.names.lookup y.1=some .local
 fre:∀y∈scope.names,y.2=.free->sc.names.lookup y.1=some .cell\/sc.names.lookup y.1=some .free
 out:∀j∈outs,∃y,N[j]?=some y/\scope.names.lookup y=some .free
 ownN:∀y∈own,scope.names.lookup y=some .local
noncomputable def compB (sc:Scope) (N:List Str) (own:List Str) (outs:List Nat) (scope:Scope):Bool :=
 decide (scope.kind=.function)&&scope.names.all (λy=>y.2 != .cell)&&scope.names.all (λy=>y.2 != .local||scope.names.lookup y.1==some .local) &&
 scope.names.all (λy=>y.2 != .free||sc.names.lookup y.1==some .cell||sc.names.lookup y.1==some .free) &&
 outs.all (λj=>match N[j]? with|some y=>scope.names.lookup y==some .free|none=>false)&&own.all (λy=>scope.names.lookup y==some .local)
def u0t {sc:Scope}{N own:List Str}{outs:List Nat}{scope:Scope} (h:compB sc N own outs scope=true):CompOk sc N own outs scope:=by
 unfold compB at h;simp only[u0,List.all_eq_true,decide_eq_true_eq] at h;obtain⟨⟨⟨⟨⟨h1,h2⟩,h3⟩,h4⟩,h5⟩,h6⟩:=h;refine⟨h1,λy hy=>?_,λy hy hl=>?_,λy hy hl=>?_,λj hj=>?_,λy hy=>?_⟩
 ·simpa using h2 y hy
 ·have:=h3 y hy
  rw[hl] at this;simpa using this
 ·have:=h4 y hy
  rw[hl] at this;simpa using this
 ·have:=h5 j hj
  cases e:N[j]? with
  | none=>rw[e] at this;cases this
  | some y=>rw[e] at this;exact⟨y,rfl,by simpa using this⟩
 ·simpa using h6 y hy
def PIf (X:Cx) (ifs:List Expr) (t:TT):Prop :=
 ∀(pins:LO) (s:Shared) (σ:St) (H:Hp) (Q:Bool->Hp->Prop),Inv X pins σ H s->t σ H Q ->
  wpAny (model X.prog X.w) X.A (forIn ifs true λc r=>if r=true then do let ok <- isTrue c X.env (eval c X.env);pure (ForInStep.yield ok) else pure (ForInStep.yield r)) (TP X pins σ Q) X.xe s
def tYes:TT:=λ_ H Q=>Q true H
def pif_nil {X:Cx}:PIf X [] tYes:=λpins s σ H Q I h=>wpAny_pure ⟨H,I,h⟩
def pif_one {X:Cx}{c:Expr}{t:TT} (hc:PT X c t):PIf X [c] t:=λpins s σ H Q I h=>by
 rw[List.forIn_cons];simp only[if_true,List.forIn_nil];refine wpAny_bind (wpAny_bind (thn (hc pins s σ H Q I h) λb s1 q=>wpAny_pure (wpAny_pure q)))
def CompRd (k:Nat) (outs:List Nat) (σ:St) (g:TG) (ti:TT) (te:TE) (J:It) (H1:Hp) (Q:VK):Prop:=∃W:Nat->Nat->List V->Hp->Prop,(∃m,W 0 m [] H1)/\∀i m ys H,W i m ys H->ys.length<=sizeLine /\
 ((J.stop i H/\∀ p,H p=none->Q (.ref p) (upd H p (.lst ys))) \/
  (J.go i H/\∃N:List V->Hp->Prop,(∀ys' H',N ys' H'->∃m',m'<m/\W (i+1) m' ys' H')/\∀x H',J.yld i H x H'->g x (stC k outs σ) H' λσ2 H2=>σ2.drop k=(outs.map λj=>(σ[j]?).join)/\ti σ2 H2 λb H3=>if b=true then te σ2 H3 λy H4=>N (ys++[y]) H4 else N ys H3))
def tComp (k:Nat) (outs:List Nat) (wi:TI) (g:TG) (ti:TT) (te:TE):TE:=λσ H Q=>wi σ H λJ H1=>CompRd k outs σ g ti te J H1 Q
theorem u4N {prog:Program}{w:World}{A:Around}{R:Result->Shared->Prop}{s:Shared}{elt target iter:Expr}{ifs:List Expr}{scope:Scope}{pos:Pos}{it acc:Value}{env:Env} (I:Nat->Shared->Prop)
  (turn:∀ n s,I n s->wpAny (model prog w) A (pyNext it) (fun r s₁=>match r with
   | none=>R (.ok .next) s₁
   | some v=>wpAny (model prog w) A (letOwnedTupleGo target it v) (λ_ s₁'=>wpAny (model prog w) A (assign target env v) (λ_ s₂ =>
     wpAny (model prog w) A (forIn ifs true λc r=>if r=true then do let ok <- isTrue c env (eval c env);pure (ForInStep.yield ok) else pure (ForInStep.yield r)) (λok s₃ =>
      if ok=true then wpAny (model prog w) A (eval elt env) (λx s₄ =>
       wpAny (model prog w) A (call (.builtin "list.append") [acc,x]) (λ_ s₅=>∃m,m<n/\I m s₅) (λ_ _=>False) s₄) (λ_ _=>False) s₃
      else ∃m,m<n/\I m s₃) (λ_ _=>False) s₂) (λ_ _=>False) s₁') (λ_ _=>False) s₁) (λ_ _=>False) s)
  (n:Nat) (h:I n s) :
  codeAny (model prog w) A (.compLoop (.ListComp elt [⟨target,iter,ifs,0⟩] scope pos) 0 it acc env) R s:=by
 refine codeAny_loop rfl I (λn s hI=>?_) n h
 show wpAny _ A ((compTurn (.ListComp elt [⟨target,iter,ifs,0⟩] scope pos) 0 it acc env).onRaise (λx=>do noteFrame x env;theTreesLotGoes x)) _ _ s
 refine wpAny_noted ?_;rw[compTurn_list];refine wpAny_bind (wpAny_standAt (wpAny_bind (wpAny_mono (turn n s hI) (λr s₁ h₁=>?_) λ_ _ h'=>h'.elim)))
 cases r with
 | none=>exact wpAny_pure h₁
 | some v =>
  refine wpAny_bind (wpAny_mono h₁ (λ_ s₁' h₁'=>?_) λ_ _ h'=>h'.elim)
  refine wpAny_bind (wpAny_mono h₁' (λ_ s₂ h₂=>wpAny_bind (wpAny_mono h₂ (λok s₃ h₃=>?_) λ_ _ h'=>h'.elim)) λ_ _ h'=>h'.elim)
  cases ok with
  | false=>exact wpAny_pure ⟨rfl,h₃⟩
  | true =>
   exact wpAny_bind (wpAny_bind (wpAny_mono h₃ (λx s₄ h₄=>wpAny_bind (wpAny_mono h₄ (λ_ s₅ h₅=>wpAny_pure (wpAny_pure ⟨rfl,h₅⟩)) λ_ _ h'=>h'.elim)) λ_ _ h'=>h'.elim))
section
variable {X:Cx}{pins:LO}{σ:St}{H:Hp}{s:Shared}{own:List Str}{outs:List Nat}{scope:Scope}{cl:List (Str×Addr)}{C:Addr}{fp:List Addr}
def u6F {sc:Scope} (ok:CompOk X.env.scope X.N own outs scope) {x:Str} (h:(compEnvC scope cl C X.env).kindOf x=some .cell\/(compEnvC scope cl C X.env).kindOf x=some .free):(x,NameKind.free)∈scope.names:=by
 have e:(compEnvC scope cl C X.env).kindOf x=(scope.names.lookup x).map λk=>if (k==NameKind.free&&X.env.scope.kind==.function&&X.env.kindOf x==some .cell) then NameKind.cell else k:=u1D X.env scope.names x
 rw[e] at h;cases q:scope.names.lookup x with
 | none=>rw[q] at h;simp at h
 | some k =>
  have hm:=PySem.mem_of_lookup q;by_cases hk:k=.free
  ·subst hk;exact hm
  ·rw [q] at h
   have hkf:(k==NameKind.free)=false:=by simpa using hk
   simp only[Option.map_some,hkf,Bool.false_and,v7,if_false,Option.some.injEq] at h;rcases h with h|h
   ·exact absurd h (ok.cell _ hm)
   ·exact absurd h hk
def cxC_ok (I:Inv X pins σ H s) (ok:CompOk X.env.scope X.N own outs scope) (hcl:∀x c,cl.lookup x=some c->X.env.cells.lookup x=some c) (hcf:∀x∈scope.names,x.2=.free->∃c,cl.lookup x.1=some c)
  (hC:s.heap.objs.size<=C) (hfp:∀b∈fp,FpOk X pins H b) (hfs:∀b∈fp,b<s.heap.objs.size):(cxC X own outs scope cl C s H fp).Ok where
 mod:=I.ok.mod
 kind:=ok.kind
 glob:=I.ok.glob
 blt:=I.ok.blt
 above:=hC
 inj:=λx y c h1 h2=>I.ok.inj x y c (hcl x c h1) (hcl y c h2)
 has:=λx h=>by
  have hm:=u6F (sc:=scope) ok h;exact hcf _ hm rfl
 cab:=λx c h _=>by cases h
 hd:=I.ok.hd
 frames:=I.ok.frames
 stk:=.inl rfl
 exf:=λb hb=>⟨x0 (y3 (hfs b hb) hC),λx c e=>(hfp b hb).2.2.2.2.1 x c (hcl x c e)⟩
 bs:=I.bs
 bsz:=y7 I.ok.bsz I.sz
 noex:=λb o e hb=>by
  rcases(hfp b hb).2.2.2.1 with z|z
  ·exact I.ok.noex b o e z
  ·have h1:b<X.base.objs.size:=z8 e
   exact absurd (y3 h1 (y7 I.ok.bsz z)) (t8 _)
 exfs:=λb hb z=>by
  rcases y0.mp (I.stkSub b z) with q|q
  ·exact(hfp b hb).2.1 q
  ·exact(hfp b hb).2.2.1 q
 funs:=I.stack
 frf:=I.stkFree
def getD_eq {N:List Str}{j:Nat}{y:Str} (h:N[j]?=some y):N.getD j Str.empty=y:=by
 rw[List.getD_eq_getElem?_getD,h];rfl
def v3e (I:Inv X pins σ H s) (ok:CompOk X.env.scope X.N own outs scope) (hcl:∀x c,cl.lookup x=some c->X.env.cells.lookup x=some c) (hcf:∀x∈scope.names,x.2=.free->∃c,cl.lookup x.1=some c)
  (hC:s.heap.objs.size<=C) (hfp:∀b∈fp,FpOk X pins H b) (hfs:∀b∈fp,b<s.heap.objs.size) {h':Heap}{t':Nat}{m:MG} (hk:∀b o,s.heap.get? b=some o->h'.get? b=some o) (hn:h'.Ns C m) :
  Inv (cxC X own outs scope cl C s H fp) [] (stC own.length outs σ) H { s with heap:=h',toks:=t' }:=by
 refine⟨cxC_ok I ok hcl hcf hC hfp hfs,rfl,I.bare,Un.kept hk,⟨m,hn,λi x v e1 e2 e3=>?_⟩,λx c e=>?_,I.hok.fresh hC,λx c e=>I.freeC x c (hcl x c e),λp hp=>(nomatch hp),I.hok.kept hk,?_⟩
 ·have hi:own.length<=i:=by
   by_cases hi:own.length<=i
   ·exact hi
   ·exfalso
    unfold stC at e2;rw[z0H (by simp;omega),t4] at e2
    split at e2<;>cases e2
  unfold stC at e2;rw[t9 (by simp;omega),z0B,y4] at e2
  have e1':(own++outs.map λj=>X.N.getD j Str.empty)[i]?=some x:=e1
  rw[t9 hi,y4] at e1';cases q:outs[i - own.length]? with
  | none=>rw[q] at e2;cases e2
  | some j =>
   rw[q] at e1' e2;obtain⟨y,hy,hyf⟩:=ok.out j (List.mem_of_getElem? q);have ex:y=x:=by
    rw[<- getD_eq hy];exact Option.some.inj e1'
   subst ex;have ev:σ[j]?=some (some v):=by
    have e2':(σ[j]?).join=some v:=Option.some.inj e2;cases z:σ[j]? with
    | none=>rw[z] at e2';cases e2'
    | some o=>rw[z] at e2';cases o with
     | none=>cases e2'
     | some v'=>cases e2';rfl
   obtain⟨m0,hn0,hl⟩:=I.loc;have hkd:=ok.fre (y,.free) (PySem.mem_of_lookup hyf) rfl;obtain⟨u,r,l⟩:=hl j y v hy ev (hkd.elim (λz=>.inr (.inl z)) λz=>.inr (.inr z))
   refine⟨u,r,?_⟩;rcases l with⟨k,_⟩|⟨k,c,ec,hcell⟩
   ·exfalso
    have k':X.env.scope.names.lookup y=some .local:=k;rcases hkd with z|z
    ·have z':X.env.scope.names.lookup y=some .cell:=z
     rw[k'] at z';cases z'
    ·have z':X.env.scope.names.lookup y=some .free:=z
     rw[k'] at z';cases z'
   ·refine .inr ⟨?_,?_⟩
    ·have e:(compEnvC scope cl C X.env).kindOf y=(scope.names.lookup y).map fun k=>if (k==NameKind.free&&X.env.scope.kind==.function&&X.env.kindOf y==some .cell) then NameKind.cell else k:=u1D X.env scope.names y
     show(compEnvC scope cl C X.env).kindOf y=_\/(compEnvC scope cl C X.env).kindOf y=_;rw[e,hyf,Option.map_some];split
     ·exact .inl rfl
     ·exact .inr rfl
    ·obtain ⟨c',ec'⟩:=hcf (y,.free) (PySem.mem_of_lookup hyf) rfl
     refine⟨c',ec',?_⟩
     have:c'=c:=Option.some.inj ((hcl y c' ec').symm.trans ec)
     subst this;obtain⟨o,ho,hd⟩:=hcell;exact⟨o,hk _ o ho,hd⟩
 ·obtain ⟨v,o,ho,hd⟩:=I.cell x c (hcl x c e)
  exact⟨v,o,hk c o ho,hd⟩
 ·unfold stC
  show _=(own++outs.map λj=>X.N.getD j Str.empty).length
  simp
end
section
variable {X:Cx}{tg iter elt:Expr}{ifs:List Expr}{own:List Str}{outs:List Nat}{scope:Scope}{wi:TI}{g:TG}{ti:TT}{te:TE}{pos:Pos}
def u6R {pins:LO}{σ:St}{H:Hp}{s:Shared}{cl:List (Str×Addr)}{it:Addr}{fp:List Addr}{tn:Nat->Heap->Prop}{J:It}{E:VP}{Q:VK} (hc:X.calm=true) (ok:CompOk X.env.scope X.N own outs scope)
  (hcl:∀x c,cl.lookup x=some c->X.env.cells.lookup x=some c) (hcf:∀x∈scope.names,x.2=.free->∃c,cl.lookup x.1=some c)
  (hg:∀{C fp},PG (cxC X own outs scope cl C s H fp) tg g) (hf:∀{C fp},PIf (cxC X own outs scope cl C s H fp) ifs ti) (he:∀{C fp},PE (cxC X own outs scope cl C s H fp) elt te)
  (I:Inv X pins σ H s) (T:Turn X.prog X.w X.K tg J fp it tn) (st:tn 0 s.heap) (f2:∀b∈fp,FpOk X pins H b)
  (hW:CompRd own.length outs σ g ti te J H Q)
  {RR:Value->Addr->Result->Shared->Prop}
  (hRR:∀D C Hf s' m,s'.heap.Ns C m->Inv X pins σ Hf s'->Hf C=none->C≠X.env.locals->X.s₀.heap.objs.size<=C->(∀x c,X.env.cells.lookup x=some c->c≠C)->(∀p∈X.pn++pins,p.1≠C)->Q (.ref D) Hf->RR (.ref D) C (.ok .next) s') :
  wpAny (model X.prog X.w) X.A (newList []) (λacc s₃=>wpAny (model X.prog X.w) X.A (newFunctionEnv scope X.env.globals cl [] X.env.qual none .none (some X.env)) (λcenv s₄ =>
   codeAny (model X.prog X.w) X.A (.compStart (.ListComp elt [⟨tg,iter,ifs,0⟩] scope pos) 0 (.ref it) acc { cenv with scope:=relabel scope X.env }) (RR acc cenv.locals) s₄) E s₃) E s:=by
 obtain⟨W,⟨m0,w0⟩,turn⟩:=hW;have hfs:∀b∈fp,@LT.lt Nat _ b s.heap.objs.size:=λb hb=>let ⟨o,e,_⟩:=T.obj _ _ st b hb;z8 e
 refine wpAny_newObj_type (wpAny_newFunctionEnv ok.cell (by intro y hy;simp at hy) (λh₁ hns₁ hsb₁=>?_) ok.kind)
 dsimp only at hns₁ hsb₁ |-
 generalize hH2:s.heap.push { cls:=.type "list",dict:=none,data:=.seq ([]:List Value).toArray }=H2 at hns₁ hsb₁ |-
 have hC:H2.objs.size=s.heap.objs.size+1:=by rw[<- hH2,Heap.size_push]
 generalize eC:H2.objs.size=C at hns₁ hsb₁ hC |-
 have hDC:s.heap.objs.size≠C:=by omega
 have below:∀b,b<s.heap.objs.size->b≠C/\b≠s.heap.objs.size:=λb hb=>⟨by omega,by omega⟩
 have old:∀b o,s.heap.get? b=some o->h₁.get? b=some o:=λb o e=>hsb₁.extBut b o (below b (z8 e)).1 (z0 _ (hH2 ▸ z0 _ e))
 have hacc:h₁.PlainList s.heap.objs.size #[]:=⟨_,hsb₁.extBut _ _ hDC (z0 _ (hH2 ▸ z6 _ rfl))⟩;have hst₁:tn 0 h₁:=T.keep _ _ _ st λb _ o e=>old b o e
 have fresh:∀a,s.heap.objs.size<=a->s.heap.get? a=none:=λa ha=>by
  cases e:s.heap.get? a with
  | none=>rfl
  | some o'=>exact absurd (z8 e) (Nat.not_lt.mpr ha)
 obtain⟨D,hD⟩:∃D:Nat,s.heap.objs.size=D:=⟨_,rfl⟩;rw[hD] at hDC hacc |-
 have hDs:s.heap.get? D=none:=fresh D (Nat.le_of_eq hD);have hCs:s.heap.get? C=none:=fresh C (by omega)
 have hDfp:D∉fp:=λz=>by have:=hfs D z;omega
 have hI0:∀t',Inv (cxC X own outs scope cl C s H fp) [] (stC own.length outs σ) H { s with heap:=h₁,toks:=t' }:=λt'=>v3e I ok hcl hcf (by omega) f2 hfs old hns₁
 have cellNe:∀x c,cl.lookup x=some c->@LT.lt Nat _ c s.heap.objs.size:=λx c e=>let ⟨v,q⟩:=I.cell x c (hcl x c e);q.lt
 have stkLt:∀b∈frs X.stack,@LT.lt Nat _ b s.heap.objs.size:=λb hb=>by
  obtain⟨_,o,ho,_⟩:=I.stack.mem hb;exact z8 ho
 have stat:∀{H':Hp}{oD:Obj},(∀b∈fp,H' b=none)->∀b∈fp,FpOk (cxC X own outs scope cl C s H fp) [(D,oD)] H' b:=λ{H' oD} hn b hb=>by
  refine⟨hn b hb,(below b (hfs b hb)).1,λz=>?_,.inl hb,λx c e z=>(f2 b hb).2.2.2.2.1 x c (hcl x c e) z,λp hp z=>?_⟩
  ·rcases y0.mp (I.stkSub b z) with q | q
   ·exact(f2 b hb).2.1 q
   ·exact(f2 b hb).2.2.1 q
  ·have:p=(D,oD):=by simpa using hp
   subst this;exact hDfp (show D∈fp from(show D=b from z) ▸ hb)
 have loop:∀s₃:Shared,s₃={ s with heap:=h₁,toks:=s.toks+([]:List (Str×Value)).length } ->
   codeAny (model X.prog X.w) X.A (.compLoop (.ListComp elt [⟨tg,iter,ifs,0⟩] scope pos) 0 (.ref it) (.ref D) (compEnvC scope cl C X.env)) (RR (.ref D) C) s₃:=by
  rintro s₃ rfl;refine u4N (λn s'=>∃i ys us nn H',Inv (cxC X own outs scope cl C s H fp) [(D,{ cls:=.type "list",data:=.seq us.toArray nn })] (stC own.length outs σ) H' s'/\tn i s'.heap/\(∀b∈fp,H' b=none)/\Vals ys us/\W i n ys H') ?_ m0 ?_
  ·rintro n s3 ⟨i,ys,us,nn,H3,I3,st3,fr3,hv,w3⟩
   have hD3:=I3.pin (D,_) (w5 _ z5);obtain⟨hz,ht⟩:=turn i n ys H3 w3;rcases ht with⟨stop,qn⟩|⟨go,NN,hNN,step⟩
   ·refine thn (T.done (cxC X own outs scope cl C s H fp) rfl rfl rfl hc i _ s3 _ H3 _ I3 (stat fr3) st3 stop) fun r s4 z964=>?_
    obtain⟨hr,I4⟩:=z964;subst hr;have hD4:=I4.pin (D,_) (w5 _ z5);obtain⟨m4,hn4,_⟩:=I4.loc;have hC4:H3 C=none:=I4.free;have hok:HOk X.prog X.w (upd H3 D (.lst ys)) s4.heap:=I4.hok.track hD4.2.1 ⟨hz,us,nn,hv,hD4.1⟩;have hun:Un (frs X.stack) fp H (upd H3 D (.lst ys)) s.heap s4.heap:=Un.track I4.base hD4.2.1 hDs;have I5:Inv X pins σ (upd H3 D (.lst ys)) s4:=I.call' I4.os hun hok I4.bare λb hb=>⟨(f2 b hb).2.2.2.1,(f2 b hb).2.1,(f2 b hb).2.2.2.2.1,(f2 b hb).2.2.2.2.2⟩
    refine hRR D C _ s4 m4 hn4 I5 (by rw[u0j hDC.symm];exact hC4) ?_ ?_ ?_ ?_ (qn D hD4.2.1)
    ·intro z
     have h1:@LT.lt Nat _ X.env.locals s.heap.objs.size:=I.lt;have z':@Eq Nat C X.env.locals:=z;omega
    ·have h1:=I.sz
     exact y7 h1 (by omega)
    ·intro x c e z
     obtain⟨v,q⟩:=I.cell x c e;have h1:@LT.lt Nat _ c s.heap.objs.size:=q.lt;have z':@Eq Nat c C:=z;omega
    ·intro p hp z
     have h1:@LT.lt Nat _ p.1 s.heap.objs.size:=z8 (I.pin p hp).1;have z':@Eq Nat p.1 C:=z;omega
   ·refine thn (T.item (cxC X own outs scope cl C s H fp) rfl rfl rfl hc i _ s3 _ H3 (fun _ _=>False) I3 (stat fr3) st3 go) fun r s4 z965=>?_
    obtain⟨u,hr,h4⟩:=z965;subst hr;refine thn h4 λ_ s5 z966=>?_
    obtain⟨x,H5,I5,r5,y5,st5,fr5⟩:=z966;have I5':=I5.pinned (stat fr5) (T.obj _ _ st5);refine thn (hg _ s5 _ H5 x u _ I5' r5 (step x H5 y5)) λ_ s6 z967=>?_
    obtain⟨σ6,H6,I6,d6,q6⟩:=z967;have weak:∀{H7:Hp}{s7:Shared}{us':List Value}{nn':Nat},Inv (cxC X own outs scope cl C s H fp) [(D,{ cls:=.type "list",data:=.seq us'.toArray nn' })] σ6 H7 s7->Inv (cxC X own outs scope cl C s H fp) [(D,{ cls:=.type "list",data:=.seq us'.toArray nn' })] (stC own.length outs σ) H7 s7:=λ{H7 s7 us' nn'} I7=>by
     refine I7.weak (by have e:=I7.len;have e2:(cxC X own outs scope cl C s H fp).N.length=own.length+outs.length:=by simp
                        rw[e,e2];unfold stC;simp) λj v e=>?_
     have hj:own.length<=j:=by
      by_cases hj:own.length<=j
      ·exact hj
      ·exfalso
       unfold stC at e;rw[z0H (by simp;omega),t4] at e
       split at e<;>cases e
     unfold stC at e;rw[t9 (by simp;omega),z0B,<- d6,List.getElem?_drop] at e
     rw[show own.length+(j - own.length)=j by omega] at e
     exact e
    refine thn (hf _ s6 σ6 H6 _ I6 q6) λb s7 z968=>?_
    obtain⟨H7,I7,q7⟩:=z968;have keepT:∀{H8:Hp}{s8:Shared},Inv (cxC X own outs scope cl C s H fp) ([(D,{ cls:=.type "list",data:=.seq us.toArray nn })]++pinsAt fp s5.heap) σ6 H8 s8->(∀b∈fp,∀o,s5.heap.get? b=some o->s8.heap.get? b=some o)/\∀b∈fp,H8 b=none:=λ{H8 s8} I8=>by
     refine⟨λb hb o e=>(I8.pin (b,o) (w5 _ (w5 _ (u2i hb e)))).1,λb hb=>?_⟩
     obtain⟨o,e,d⟩:=T.obj _ _ st5 b hb;exact(I8.pin (b,o) (w5 _ (w5 _ (u2i hb e)))).2.1
    cases b with
    | false =>
     rw[if_neg (by simp)] at q7
     rw[if_neg (by simp)]
     obtain⟨m',hm,w7⟩:=hNN _ _ q7;exact⟨m',hm,i+1,ys,us,nn,H7,weak I7.unpinned,T.keep _ _ _ st5 (keepT I7).1,(keepT I7).2,hv,w7⟩
    | true =>
     rw[if_pos rfl] at q7;rw[if_pos rfl];refine thn (he _ s7 σ6 H7 _ I7 q7) λu8 s8 z969=>?_
     obtain⟨y8,H8,I8,r8,q8⟩:=z969;obtain⟨m',hm,w8⟩:=hNN _ _ q8;have hD8:=I8.pin (D,_) (w5 _ (u4 _ z5));refine wpAny_list_append_plain (hsz:=by rw[y1,<- hv.length];exact hz) (x:=u8) ⟨nn,hD8.1⟩ λh9 hl9 hs9=>?_
     obtain⟨n9,e9⟩:=hl9;have k9:∀b o,b≠D->s8.heap.get? b=some o->h9.get? b=some o:=λb o hb e=>(hs9.2 b hb).trans e
     have I8':Inv (cxC X own outs scope cl C s H fp) [] σ6 H8 s8:=I8.pins_of λp hp=>(nomatch hp)
     have I9:Inv (cxC X own outs scope cl C s H fp) [] σ6 H8 { s8 with heap:=h9,toks:=s8.toks }:=I8'.turned k9 hD8.2.1 hDC (.inr (by show s.heap.objs.size<=D;omega)) (λx c e z=>by have h1:=cellNe x c e;have z':@Eq Nat c D:=z;omega) (λp hp=>(nomatch hp))
     have e9':h9.get? D=some { cls:=.type "list",data:=.seq (us++[u8]).toArray n9 }:=by
      rw[e9];simp
     have I9':Inv (cxC X own outs scope cl C s H fp) [(D,{ cls:=.type "list",data:=.seq (us++[u8]).toArray n9 })] σ6 H8 { s8 with heap:=h9,toks:=s8.toks }:=I9.pins_of λp hp=>by
      have:p=(D,{ cls:=.type "list",data:=.seq (us++[u8]).toArray n9 }):=by simpa using hp
      subst this;refine⟨e9',hD8.2.1,hDC,λz=>?_,λv z=>by cases z⟩
      have:=stkLt D z
      omega
     refine⟨m',hm,i+1,ys++[y8],us++[u8],n9,H8,weak I9',?_,(keepT I8).2,hv.append (.cons r8 .nil),w8⟩;exact T.keep _ _ _ st5 λb hb o e=>k9 b o (λz=>hDfp (show D∈fp from(show b=D from z) ▸ hb)) ((keepT I8).1 b hb o e)
  ·obtain ⟨n0,e0⟩:=hacc
   refine⟨0,[],[],n0,H,(hI0 _).pins_of λp hp=>?_,hst₁,λb hb=>(f2 b hb).1,.nil,w0⟩
   have:p=(D,{ cls:=.type "list",data:=.seq ([]:List Value).toArray n0 }):=by simpa using hp
   subst this;refine⟨e0,I.hok.fresh (by omega),hDC,λz=>?_,λv z=>by cases z⟩
   have:=stkLt D z
   omega
 exact codeAny_compStart_list (loop _ rfl) (T.self _ 0 _ _ _ hst₁ (loop _ rfl))
def u6I {scope:Scope}{pins:LO}{σ:St}{H:Hp}{s:Shared} (I:Inv X pins σ H s) (ok:CompOk X.env.scope X.N own outs scope):∀x∈scope.names,x.2=.free->∃c,X.env.cells.lookup x.1=some c:=λx hx hf=>I.ok.has x.1 (ok.fre x hx hf)
def pe_comp (own:List Str) (outs:List Nat) (hc:X.calm=true) (ok:CompOk X.env.scope X.N own outs scope) (hi:PI X tg iter wi)
  (hg:∀{cl C s H fp},PG (cxC X own outs scope cl C s H fp) tg g) (hf:∀{cl C s H fp},PIf (cxC X own outs scope cl C s H fp) ifs ti) (he:∀{cl C s H fp},PE (cxC X own outs scope cl C s H fp) elt te)
  (hs:∀x,foldedSetIterable iter X.env x=pure x:=by intro _;rfl):PE X (.ListComp elt [⟨tg,iter,ifs,0⟩] scope pos) (tComp own.length outs wi g ti te):=by
 intro pins s σ H Q I h;obtain⟨cl,ecl,hcl,hcf⟩:=u1X (u6I I ok);rw[eval_ListComp];refine wpAny_comprehension_free (use:=none) rfl hs ecl ok.kind ok.loc (thn (hi pins s σ H _ I h) λxv s₁ h₁=>thn h₁ λitv s₂ h₂=>?_)
 obtain⟨it,fp,tn,J,H2,e,I2,T,st2,f2,hW⟩:=h₂;subst e;refine u6R (Q:=Q) (RR:=λacc C=>compPost (model X.prog X.w) X.A X.xe none (EP X pins σ Q) acc C) hc ok hcl hcf hg hf he I2 T st2 f2 hW ?_
 intro D C Hf s' m hn I' hC hL hs0 hce hpi q;refine⟨m,hn,λh' hs'=>?_⟩
 exact⟨.ref D,Hf,I'.turned (t':=s'.toks) (λb o hb e=>(hs'.2 b hb).trans e) hC hL (.inr hs0) hce hpi,rfl,q⟩
set_option tactic.hygienic true in
def u9p {i:Nat}{y:Str}{py spos:Pos} (own:List Str) (outs:List Nat) (hc:X.calm=true) (ok:CompOk X.env.scope X.N own outs scope) (hN:X.N.Nodup) (hy:X.N[i]?=some y) (hx:X.env.scope.names.lookup y=some .local) (hi:PI X tg iter wi)
  (hg:∀{cl C s H fp},PG (cxC X own outs scope cl C s H fp) tg g) (hf:∀{cl C s H fp},PIf (cxC X own outs scope cl C s H fp) ifs ti) (he:∀{cl C s H fp},PE (cxC X own outs scope cl C s H fp) elt te)
  (hsw:swapsWith (.ListComp elt [⟨tg,iter,ifs,0⟩] scope pos) (some (.Name y py)) spos.line X.env=pure true:=by rfl)
  (hs:∀x,foldedSetIterable iter X.env x=pure x:=by intro _;rfl):PS X (.Assign [.Name y py] (.ListComp elt [⟨tg,iter,ifs,0⟩] scope pos) spos) (tAsg (tComp own.length outs wi g ti te) (gName i)):=by
 intro pins s σ H D I h;obtain⟨cl,ecl,hcl,hcf⟩:=u1X (u6I I ok);rw[exec_Assign_Name_used _ _ _ _ hsw];refine wpAny_bind (wpAny_standAt (wpAny_bind ?_));show wpAny _ X.A (do let _ <- comprehension (.ListComp elt [⟨tg,iter,ifs,0⟩] scope pos) scope X.env _ (newList []) false (eval iter X.env) (some (assign (.Name y py) X.env))) _ _ s
 refine wpAny_bind (wpAny_mono (wpAny_comprehension_free (use:=some (assign (.Name y py) X.env)) (Q:=λ_ s'=>SP X pins D .next s') rfl hs ecl ok.kind ok.loc
  (thn (hi pins s σ H _ I h) λxv s₁ h₁=>thn h₁ λitv s₂ h₂=>?_)) (λ_ s' hq=>wpAny_pure (wpAny_pure hq)) λ_ _ e=>e)
 obtain⟨it,fp,tn,J,H2,e,I2,T,st2,f2,hW⟩:=h₂;subst e;refine u6R (Q:=λx H1=>gName i x σ H1 D.nx) (RR:=λacc C=>compPost (model X.prog X.w) X.A X.xe (some (assign (.Name y py) X.env)) (λ_ s'=>SP X pins D .next s') acc C) hc ok hcl hcf hg hf he I2 T st2 f2 hW ?_
 intro D' C Hf s' m hn I' hC hL hs0 hce hpi q;show wpAny _ X.A (assign (.Name y py) X.env (.ref D')) _ _ _;refine wpAny_assign_Name (u6c I' hN hy (.inl hx) (v:=.ref D') rfl (λs2 I2' z970=>?_) (.inr hx))
 obtain⟨a,hsb,ha⟩:=z970;have haC:C≠a:=by
  rcases ha with rfl|ha
  ·exact hL
  ·exact λz=>hce _ _ ha z.symm
 refine⟨m,hn.sameBut hsb haC,λh' hs'=>?_⟩
 exact⟨_,Hf,I2'.turned (t':=s2.toks) (λb o hb e=>(hs'.2 b hb).trans e) hC hL (.inr hs0) hce hpi,q⟩
end
section
variable {X:Cx}{tg:Expr}
def rSlS:V->Option Int->Option Int->Hp->VK->Prop:=λx lo hi H Q=>∃z,x=.str z/\z.length<=sizeLine/\Q (.str (Txt.slice z lo hi)) H
def sl_str:SlR X rSlS:=by
 intro pins s σ H x v vl vu lo hi sl Q I rx hs pl pu h;obtain⟨z,rfl,hz,q⟩:=h;obtain⟨t,rfl⟩:=rx;refine⟨"str",_,PySem.F.slot_str_getitem.lookup,typeIs_str _ _ _,?_⟩;have fin:∀lo' hi',lo'=lo->hi'=hi->∀t' k,EP X pins σ Q (.str (Txt.slice z lo' hi') t') { s with toks:=k }:=λlo' hi' e1 e2 t' k=>by
  subst e1 e2;exact⟨.str _,H,I.tok k,⟨t',rfl⟩,q⟩
 obtain⟨o,ho,hc,hd⟩:=hs;cases pl with
 | none =>
  cases pu with
  | none=>exact wpAny_getItem_str_slice (l:=none) (u:=none) (st:=none) ⟨o,ho,hc,hd⟩ rfl (post_val_or_str ⟨y7 (Txt.slice_le z _ _) hz,λt' k=>fin _ _ rfl rfl t' k⟩)
  | int j uj=>exact wpAny_getItem_str_slice (l:=none) (u:=some (j,uj)) (st:=none) ⟨o,ho,hc,hd⟩ rfl (post_val_or_str ⟨y7 (Txt.slice_le z _ _) hz,λt' k=>fin _ _ rfl rfl t' k⟩)
 | int i ui =>
  cases pu with
  | none=>exact wpAny_getItem_str_slice (l:=some (i,ui)) (u:=none) (st:=none) ⟨o,ho,hc,hd⟩ rfl (post_val_or_str ⟨y7 (Txt.slice_le z _ _) hz,λt' k=>fin _ _ rfl rfl t' k⟩)
  | int j uj=>exact wpAny_getItem_str_slice (l:=some (i,ui)) (u:=some (j,uj)) (st:=none) ⟨o,ho,hc,hd⟩ rfl (post_val_or_str ⟨y7 (Txt.slice_le z _ _) hz,λt' k=>fin _ _ rfl rfl t' k⟩)
def Its (z:Str):It:=⟨λi _=>i<z.cps.size,λi H x H'=>H'=H/\∃c,z.cps[i]?=some c/\x=.str ⟨#[c]⟩,λi _=>z.cps.size<=i⟩
def u8W {P:Program}{w:World}{K:W.Frag}{tg:Expr} (z:Str) (t:Tok) (it:Addr):Turn P w K tg (Its z) [it] it (λi h=>h.IsStrIter it "str_ascii_iterator" z t i) where
 mem:=by simp
 obj:=λi h st b hb=>by
  have e:b=it:=by simpa using hb
  subst e;obtain⟨o,e,c,d⟩:=st;exact⟨o,e,λv z=>by rw[d] at z;cases z⟩
 keep:=λi h h' st k=>let ⟨o,e,r⟩:=st;⟨o,k it (by simp) o e,r⟩
 item:=by
  intro X hP hw hK hc i pins s σ H E I hf st hg;subst hP hw hK;obtain⟨f0,f1,f2,f3,f4,f5⟩:=hf it (by simp)
  have hg':i<z.cps.size:=hg;refine wpAny_pyNext_ascii_item st (c:=z.cps[i]) (by simp[hg']) λh' st' sb=>?_
  have I1:Inv X pins σ H { s with heap:=h',toks:=s.toks+1 }:=I.turned (λb o hb e=>(sb.2 b hb).trans e) f0 f1 f3 f4 f5
  obtain⟨o,e,c,d⟩:=id st';exact⟨_,rfl,v1h (s:={ s with heap:=h',toks:=s.toks+1 }) e c d (by decide) ⟨.str ⟨#[z.cps[i]]⟩,H,I1,⟨_,rfl⟩,⟨rfl,z.cps[i],by simp[hg'],rfl⟩,st',λb hb=>(hf b hb).1⟩⟩
 done:=by
  intro X hP hw hK hc i pins s σ H E I hf st hg;subst hP hw hK;obtain⟨f0,f1,f2,f3,f4,f5⟩:=hf it (by simp)
  have hg':z.cps.size<=i:=hg;exact wpAny_pyNext_ascii_end (I.ok.hd hc) st (by simp;omega) λh' eb=>⟨rfl,I.turned (t':=s.toks) (λb o hb e=>eb b o hb e) f0 f1 f3 f4 f5⟩
 self:=λ_ _ _ _ _ st h=>wpAny_pyIter_striter_ascii st h
def v0c {P:Program}{w:World}{K:W.Frag}{tg:Expr} (z:Str) (t:Tok) (it:Addr):Turn P w K tg (Its z) [it] it (λi h=>h.IsStrIter it "str_iterator" z t i) where
 mem:=by simp
 obj:=λi h st b hb=>by
  have e:b=it:=by simpa using hb
  subst e;obtain⟨o,e,c,d⟩:=st;exact⟨o,e,λv z=>by rw[d] at z;cases z⟩
 keep:=λi h h' st k=>let ⟨o,e,r⟩:=st;⟨o,k it (by simp) o e,r⟩
 item:=by
  intro X hP hw hK hc i pins s σ H E I hf st hg;subst hP hw hK;obtain⟨f0,f1,f2,f3,f4,f5⟩:=hf it (by simp)
  have hg':i<z.cps.size:=hg;refine wpAny_pyNext_wide_item st (c:=z.cps[i]) (by simp[hg']) λh' st' sb=>?_
  have I1:Inv X pins σ H { s with heap:=h',toks:=s.toks+1 }:=I.turned (λb o hb e=>(sb.2 b hb).trans e) f0 f1 f3 f4 f5
  obtain⟨o,e,c,d⟩:=id st';exact⟨_,rfl,v1h (s:={ s with heap:=h',toks:=s.toks+1 }) e c d (by decide) ⟨.str ⟨#[z.cps[i]]⟩,H,I1,⟨_,rfl⟩,⟨rfl,z.cps[i],by simp[hg'],rfl⟩,st',λb hb=>(hf b hb).1⟩⟩
 done:=by
  intro X hP hw hK hc i pins s σ H E I hf st hg;subst hP hw hK;obtain⟨f0,f1,f2,f3,f4,f5⟩:=hf it (by simp)
  have hg':z.cps.size<=i:=hg;exact wpAny_pyNext_wide_end (I.ok.hd hc) st (by simp;omega) λh' eb=>⟨rfl,I.turned (t':=s.toks) (λb o hb e=>eb b o hb e) f0 f1 f3 f4 f5⟩
 self:=λ_ _ _ _ _ st h=>wpAny_pyIter_striter_wide st h
def iStr (tl:TE):TI:=λσ H R=>tl σ H λx H1=>∃z,x=.str z/\R (Its z) H1
def pi_str {l:Expr}{tl:TE} (hl:PE X l tl):PI X tg l (iStr tl):=by
 intro pins s σ H R I h;refine thn (hl pins s σ H _ I h) λv s1 z971=>?_
 obtain⟨x,H1,I1,r1,q1⟩:=z971;obtain⟨z,rfl,q⟩:=q1;obtain⟨t,rfl⟩:=r1;cases ha:z.cps.all (·<128) with
 | true =>
  refine wpAny_pyIter_ascii ha ?_;have hn:H1 s1.heap.objs.size=none:=I1.hok.fresh (z7 _);exact⟨s1.heap.objs.size,[s1.heap.objs.size],_,Its z,H1,rfl,I1.kept (t':=s1.toks) (λb o e=>z0 _ e),u8W z t _,⟨_,z6 _ rfl,rfl,rfl⟩,λb hb=>by
   have e:b=s1.heap.objs.size:=by simpa using hb
   subst e;exact I1.fpOk (z7 _) hn,q⟩
 | false =>
  refine wpAny_pyIter_wide ha ?_;have hn:H1 s1.heap.objs.size=none:=I1.hok.fresh (z7 _);exact⟨s1.heap.objs.size,[s1.heap.objs.size],_,Its z,H1,rfl,I1.kept (t':=s1.toks) (λb o e=>z0 _ e),v0c z t _,⟨_,z6 _ rfl,rfl,rfl⟩,λb hb=>by
   have e:b=s1.heap.objs.size:=by simpa using hb
   subst e;exact I1.fpOk (z7 _) hn,q⟩
def v3x (hc:X.calm=true):CallR X (.builtin "all") (λxs H Q=>∃(p:Addr) (bs:List Bool),xs=[.ref p]/\SqL X.K H p (bs.map V.bl)/\Q (.bl (bs.all id)) H):=by
 intro pins s σ H xs us Q I r h;obtain⟨p,bs,rfl,hq,q⟩:=h;obtain⟨u,rfl,ru⟩:=vals1 r;cases ru;obtain⟨its,rv,hl,hz⟩:=I.list hq;have hlen:=rv.length;rw[x6] at hlen;have hlt:p<s.heap.objs.size:=let ⟨o,ho,_⟩:=hl.isList;z8 ho
 refine call_all_walk (wpAny_pyIter_list hl.isList ?_);refine⟨s.heap.objs.size,_,_,_,_,_,λi=>bs.getD i false,rfl,Walks.list (show X.A.in1.handled=none from I.ok.hd hc) s.heap.objs.size p (x0 hlt) its.toArray,⟨⟨_,z6 _ rfl,rfl,rfl⟩,hl.isList.at λo e=>z0 _ e⟩,?_,?_⟩
 ·intro i v s' Q' E' hv hQ
  have hv':its[i]?=some v:=by simpa using hv
  have hi:i<bs.length:=by
   have:=(y6.mp hv').1
   omega
  have hx:(bs.map V.bl)[i]?=some (V.bl bs[i]):=by rw[y4,w6 hi];rfl
  obtain⟨u,hu,ru⟩:=rv.get hx;rw[hv'] at hu;cases hu;cases ru;have e:bs.getD i false=bs[i]:=by rw[List.getD_eq_getElem?_getD,w6 hi];rfl
  have hQ':Q' (bs.getD i false) s':=hQ;rw[e] at hQ';exact wpAny_truthy_bool hQ'
 ·intro h' tk hk
  have hw:∀b o,s.heap.get? b=some o->h'.get? b=some o:=λb o e=>hk b o (by
   intro z
   have:b=s.heap.objs.size:=by simpa using z
   subst this;exact absurd (z8 e) (t8 _)) (z0 _ e)
  have e:(List.range its.toArray.size).all (λi=>bs.getD i false)=bs.all id:=by
   rw[y1,<- hlen];clear hlen hq rv q hz;induction bs with
   | nil=>rfl
   | cons b bs ih =>
    rw[v9,List.range_succ_eq_map,z0C,List.all_map,z0C];simp only[List.getD_cons_zero,id];congr 1
  rw[e];exact⟨.bl _,H,I.kept hw,rfl,q⟩
def CDivB (i j:Int):Prop:=0<j/\j<2^64
def v2J:OpR X (binaryOp .FloorDiv) (rI CDivB λi j=>.int (i / j)):=opI λi j _ _ _ _ _ hc q=>by
 have h1:(0:Int)<j:=hc.1;have h2:j<2^64:=hc.2;refine floordiv_int (by omega) (by rw[Int.fdiv_eq_ediv_of_nonneg i (by omega)];exact q) (.inl (PyProof.noPylong_of_log2 ?_))
 have:j.natAbs.log2<64:=(Nat.log2_lt (by omega)).mpr (by omega)
 omega
end
noncomputable def notStar:Expr->Bool
 | .Starred _ _=>false
 | _=>true
def u0v {e:Expr}{es:List Expr}{env:Env} (h:notStar e=true):starEach (e::es) env=(false,eval e env)::starEach es env:=by
 cases e<;>first|rfl|exact absurd h v6
theorem u1b {pos:Pos}{env:Env}:∀{es:List Expr},es.all notStar=true->(backTo pos (starEach es env)).any (·.1)=false
 | [],_=>rfl
 | e::es,h=>by
  rw[z0C,u0] at h;rw[u0v h.1];show(false||(backTo pos (starEach es env)).any (·.1))=false
  rw[u1b h.2];rfl
theorem u8Q {pos:Pos}{env:Env}:∀{es:List Expr},es.all notStar=true->(backTo pos (starEach es env)).all (λx=>!x.1)=true
 | [],_=>rfl
 | e::es,h=>by
  rw[z0C,u0] at h;rw[u0v h.1];show(true&&(backTo pos (starEach es env)).all (λx=>!x.1))=true
  rw[u8Q h.2];rfl
def u0q {e:Expr}{es:List Expr} (h:(e::es).all notStar=true):notStar e=true/\es.all notStar=true:=by
 rw[z0C,u0] at h;exact h
section
variable {X:Cx}{e o:Expr}{es:List Expr}{te to:TE}{t:TA}{x name:Str}{p pos apos cpos:Pos}{id T:String}{r:List V->Hp->VK->Prop}{r3:V->List V->Hp->VK->Prop}
def pac (ha:PE X e te) (hr:PA X es t) (hs:notStar e=true:=by rfl):PA X (e::es) (tCons te t):=pa_cons ha hr (u0v hs)
def pcB (hc:CallR X (.builtin id) r) (hg:Gl X x) (hm:X.mg x=none) (hv:bootBuiltins x=some (.builtin id)) (ha:PA X (e::es) t) (hn:x≠"__name__":=by decide) (hdb:(x==("__debug__":Str))=false:=by decide)
  (hs:(e::es).all notStar=true:=by rfl):PE X (.Call (.Name x p) (e::es) [] pos) (tCB r t):=v2I hc hg hm hv ha hn hdb (u0v (u0q hs).1) (u1b (u0q hs).2)
def pcT (hc:CallR X (.type T) r) (hg:Gl X x) (hm:X.mg x=none) (hv:bootBuiltins x=some (.type T)) (ha:PA X (e::es) t) (hn:x≠"__name__":=by decide) (hdb:(x==("__debug__":Str))=false:=by decide)
  (hs:(e::es).all notStar=true:=by rfl):PE X (.Call (.Name x p) (e::es) [] pos) (tCB r t):=v0B hc hg hm hv ha hn hdb (u0v (u0q hs).1) (u1b (u0q hs).2)
def pbm (pa:PlainAttrs T) (slot:Slot T name id) (hty:typeOf (.builtin id)=pure (.type "method_descriptor")) (hm:MtR X id r3) (ho:PE X o to) (ha:PA X (e::es) t)
  (hs:(e::es).all notStar=true:=by rfl) (hl:decide ((e::es).length<30)=true:=by rfl)
  (hbase:attributeBase o name X.env (eval o X.env)=eval o X.env:=by rfl) (hline:(apos.endLine==cpos.line)=true:=by rfl) :
  PE X (.Call (.Attribute o name apos) (e::es) [] cpos) (tBM X.K T r3 to t):=by
 refine pe_bm pa slot hty hm ho ha hbase ?_ hline (u0v (u0q hs).1) (u1b (u0q hs).2);rw[u8Q hs];have h2:(e::es).length+([]:List Keyword).length+(if ([]:List Keyword).isEmpty then 0 else 1)<30:=by
  have:=of_decide_eq_true hl
  simpa using this
 rw[decide_eq_true h2];rfl
end
def Callee (P:Program) (w:World) (K:W.Frag) (mg:MG) (base:Heap) (k:Nat) (x:Str) (ps:List Str) (sp:Sp):Prop :=
 ∃f fd,FnOk P w K mg base CX0 k f fd ps sp/\Binds K fd ps []/\W.keepIn K (.ref f)=true/\mg x=some (.ref f)
def Glo (mg:MG) (x:Str) (v:V):Prop:=∃u,mg x=some u/\RelV v u
section
variable {X:Cx}{P:Program}{w:World}{K:W.Frag}{mg:MG}{base:Heap}{k k':Nat}{x:Str}{ps:List Str}{sp:Sp}{e:Expr}{es:List Expr}{t:TA}{p pos:Pos}{v:V}
def pe_fn (h:Callee P w K mg base k x ps sp) (hr:Room k' X.A) (hk:k<=k') (ha:PA X (e::es) t) (hg:Gl X x:=by rfl) (eP:X.prog=P:=by rfl) (ew:X.w=w:=by rfl) (eK:X.K=K:=by rfl) (em:X.mg=mg:=by rfl) (eb:X.base=base:=by rfl)
  (hdb:(x==("__debug__":Str))=false:=by decide) (hs:(e::es).all notStar=true:=by rfl) :
  PE X (.Call (.Name x p) (e::es) [] pos) (tCall sp [] E0 t):=by
 subst eP ew eK em eb;obtain⟨f,fd,F,hb,hkp,hm⟩:=h;exact pe_call F (hr.mono hk) hg hm hkp hb .nil pass0 ha hdb (u0v (u0q hs).1) (u1b (u0q hs).2)
def pe_glo (h:Glo mg x v) (hg:Gl X x:=by rfl) (em:X.mg=mg:=by rfl) (hd:(x==("__debug__":Str))=false:=by decide):PE X (.Name x pos) (tC v):=by
 subst em;obtain⟨u,hm,r⟩:=h;exact v0A hg hm r hd
end
section
variable {X:Cx}{pos pos':Pos}{x:Str}{e:Expr}{te:TE}{tg l:Expr}{tl:TE}
def u7g {N:List Str}{i:Nat} (hi:N.findIdx? (λy=>y==x)=some i):N[i]?=some x:=by
 obtain⟨h1,h2,_⟩:=List.findIdx?_eq_some_iff_getElem.mp hi;rw[w6 h1];exact congrArg some (eq_of_beq h2)
def pg_n {i:Nat} (hN:X.N.Nodup) (hi:X.N.findIdx? (λy=>y==x)=some i:=by rfl) (hx:Loc X.env.scope x:=by first|exact Or.inl rfl|exact Or.inr rfl) (hf:X.fn x=true\/X.env.scope.names.lookup x=some .local:=by first|exact .inl rfl|exact .inr rfl) :
  PG X (.Name x pos) (gName i):=pg_name hN (u7g hi) hx hf
def ps_n {i:Nat} (hN:X.N.Nodup) (he:PE X e te) (hi:X.N.findIdx? (λy=>y==x)=some i:=by rfl) (hx:Loc X.env.scope x:=by first|exact Or.inl rfl|exact Or.inr rfl) (hs:swapsWith e (some (.Name x pos')) pos.line X.env=pure false:=by rfl)
  (hf:X.fn x=true\/X.env.scope.names.lookup x=some .local:=by first|exact .inl rfl|exact .inr rfl):PS X (.Assign [.Name x pos'] e pos) (tAsg te (gName i)):=ps_set hN (u7g hi) hx he hs hf
end
mutual
inductive RdV (K:W.Frag) (H:Hp):V->PyData->Prop
 | non:RdV K H .non .none
 | bl (b:Bool):RdV K H (.bl b) (.bool b)
 | int (i:Int):RdV K H (.int i) (.int i)
 | str (z:Str):RdV K H (.str z) (.str z)
 | lst {a:Addr}{xs:List V}{ds:List PyData}:SqL K H a xs->RdVs K H xs ds->RdV K H (.ref a) (.list ds)
 | tup {a:Addr}{xs:List V}{ds:List PyData}:SqT K H a xs->RdVs K H xs ds->RdV K H (.ref a) (.tuple ds)
inductive RdVs (K:W.Frag) (H:Hp):List V->List PyData->Prop
 | nil:RdVs K H [] []
 | cons {x:V}{d:PyData}{xs:List V}{ds:List PyData}:RdV K H x d->RdVs K H xs ds->RdVs K H (x::xs) (d::ds)
end
section
variable {X:Cx}{pins:LO}{σ:St}{H:Hp}{s:Shared}
mutual
theorem RdV.reads (I:Inv X pins σ H s):∀{x:V}{d:PyData}{u:Value},RdV X.K H x d->RelV x u->∃as,Reads s.heap u d as
 | _,_,_,.non,r=>by cases r;exact⟨_,.none⟩
 | _,_,_,.bl b,r=>by cases r;exact⟨_,.bool b⟩
 | _,_,_,.int i,r=>by obtain⟨t,rfl⟩:=r;exact⟨_,.int i t⟩
 | _,_,_,.str z,r=>by obtain⟨t,rfl⟩:=r;exact⟨_,.str z t⟩
 | _,_,_,.lst hq hs,r=>by
  cases r;obtain⟨its,rv,p,hz⟩:=I.list hq;obtain⟨as,h⟩:=RdVs.reads I hs rv;obtain⟨o,ho,hc,n,hd⟩:=p.isList;exact⟨_,.list ho hc hd (by simpa using h)⟩
 | _,_,_,.tup hq hs,r=>by
  cases r;obtain⟨its,rv,p,hz⟩:=I.tuple hq;obtain⟨as,h⟩:=RdVs.reads I hs rv;obtain⟨o,ho,hc,n,hd⟩:=p;exact⟨_,.tuple ho hc hd (by simpa using h)⟩
theorem RdVs.reads (I:Inv X pins σ H s):∀{xs:List V}{ds:List PyData}{us:List Value},RdVs X.K H xs ds->Vals xs us->∃as,ReadsAll s.heap us ds as
 | _,_,_,.nil,r=>by cases r;exact⟨_,.nil⟩
 | _,_,_,.cons h hs,r=>by
  cases r with
  | cons r1 r2 =>
   obtain⟨as,h1⟩:=RdV.reads I h r1;obtain⟨bs,h2⟩:=RdVs.reads I hs r2;exact⟨_,.cons h1 h2⟩
end
end
def Same.seqT {K:W.Frag}{H H':Hp}{a:Addr}{xs:List V} (e:Same H H') (h:SqT K H a xs):SqT K H' a xs:=by
 rcases h with(h|⟨o,h⟩)|h
 ·exact .inl (.inl (e _ _ h))
 ·exact .inl (.inr ⟨o,e _ _ h⟩)
 ·exact .inr h
mutual
theorem RdV.same {K:W.Frag}{H H':Hp} (e:Same H H'):∀{x:V}{d:PyData},RdV K H x d->RdV K H' x d
 | _,_,.non=>.non
 | _,_,.bl b=>.bl b
 | _,_,.int i=>.int i
 | _,_,.str z=>.str z
 | _,_,.lst hq hs=>.lst (e.seq hq) (RdVs.same e hs)
 | _,_,.tup hq hs=>.tup (e.seqT hq) (RdVs.same e hs)
theorem RdVs.same {K:W.Frag}{H H':Hp} (e:Same H H'):∀{xs:List V}{ds:List PyData},RdVs K H xs ds->RdVs K H' xs ds
 | _,_,.nil=>.nil
 | _,_,.cons h hs=>.cons (RdV.same e h) (RdVs.same e hs)
end
section
variable {X:Cx}
def rEqD (K:W.Frag) (neg:Bool):R2:=λx y H Q=>∃d e,RdV K H x d/\RdV K H y e/\SeqAt.shaped d=true/\SeqAt.shaped e=true/\Q (.bl (if neg=true then !PyData.eqv d e else PyData.eqv d e)) H
def op_eqD (hu:X.A.units+64<cLine):OpR X (compareOp .Eq) (rEqD X.K false):=by
 intro pins s σ H x y v u Q I rx ry h;obtain⟨d,e,h1,h2,s1,s2,q⟩:=h;obtain⟨as,r1⟩:=h1.reads I rx;obtain⟨bs,r2⟩:=h2.reads I ry;exact eq_dataH r1 r2 s1 s2 hu ⟨.bl _,H,I,rfl,q⟩
def op_neD (hu:X.A.units+64<cLine):OpR X (compareOp .NotEq) (rEqD X.K true):=by
 intro pins s σ H x y v u Q I rx ry h;obtain⟨d,e,h1,h2,s1,s2,q⟩:=h;obtain⟨as,r1⟩:=h1.reads I rx;obtain⟨bs,r2⟩:=h2.reads I ry;exact ne_dataH r1 r2 s1 s2 hu ⟨.bl _,H,I,rfl,q⟩
end
end L2
namespace L2
open PySem PySem.Spec PyProof.Rows
section
variable {κ:Type} [DecidableEq κ]
noncomputable def valV (kvs:List (κ×V)) (k:κ):Option V:=(kvs.find? λkv=>decide (kv.1=k)).map (·.2)
noncomputable def putK (kvs:List (κ×V)) (k:κ) (v:V):List (κ×V) :=
 if (kvs.any λkv=>decide (kv.1=k))=true then kvs.map (λkv=>if kv.1=k then (kv.1,v) else kv) else kvs++[(k,v)]
def u5p {p:κ×V}{r:List (κ×V)}{k:κ} (e:p.1=k):valV (p::r) k=some p.2:=by simp[valV,u3,e]
def u5q {p:κ×V}{r:List (κ×V)}{k:κ} (e:¬ p.1=k):valV (p::r) k=valV r k:=by simp[valV,u3,e]
theorem u7T (k:κ):∀kvs:List (κ×V),(kvs.any λkv=>decide (kv.1=k))=(valV kvs k).isSome
 | []=>rfl
 | p::r=>by
  rw[List.any_cons];by_cases e:p.1=k
  ·simp only[u5p e,decide_eq_true e,Bool.true_or,Option.isSome_some]
  ·rw[u5q e,decide_eq_false e,Bool.false_or];exact u7T k r
def u2z (kvs:List (κ×V)) (k:κ) (v:V):(putK kvs k v).length<=kvs.length+1:=by
 unfold putK;split
 ·rw[x6];omega
 ·rw[u7,v9,List.length_nil];omega
def RelO.isSome_eq {o:Option V}{u:Option Value} (r:RelO o u):o.isSome=u.isSome:=by
 cases o with
 | none=>cases u with
  | none=>rfl
  | some _=>exact(show False from r).elim
 | some _=>cases u with
  | none=>exact(show False from r).elim
  | some _=>rfl
theorem RelO.getD {o:Option V}{u:Option Value}{d:V}{d':Value} (r:RelO o u) (rd:RelV d d'):RelV (o.getD d) (u.getD d'):=by
 cases o with
 | none=>cases u with
  | none=>exact rd
  | some _=>exact(show False from r).elim
 | some _=>cases u with
  | none=>exact(show False from r).elim
  | some _=>exact r
def KV.val {kvs:List (κ×V)}{vs:List (κ×Value)} (r:KV kvs vs) (k:κ):RelO (valV kvs k) (valueAt vs k):=by
 unfold KV at r;induction r with
 | nil=>exact True.intro
 | @cons p q ps qs h t ih =>
  obtain⟨h1,h2⟩:=h;by_cases e:p.1=k
  ·have e':q.1=k:=h1.symm.trans e
   have b:valueAt (q::qs) k=some q.2:=by simp[valueAt,u3,e']
   rw[u5p e,b];exact h2
  ·have e':¬ q.1=k:=fun z=>e (h1.trans z)
   have b:valueAt (q::qs) k=valueAt qs k:=by simp[valueAt,u3,e']
   rw[u5q e,b];exact ih
theorem KV.any {kvs:List (κ×V)}{vs:List (κ×Value)} (r:KV kvs vs) (k:κ):(kvs.any λkv=>decide (kv.1=k))=vs.any λkv=>decide (kv.1=k):=by
 unfold KV at r;induction r with
 | nil=>rfl
 | cons h t ih=>rw[List.any_cons,List.any_cons,ih,h.1]
def KV.repl {kvs:List (κ×V)}{vs:List (κ×Value)} (r:KV kvs vs) (k:κ) {y:V}{u:Value} (ry:RelV y u) :
  KV (kvs.map λkv=>if kv.1=k then (kv.1,y) else kv) (vs.map λkv=>if kv.1=k then (kv.1,u) else kv):=by
 unfold KV at r |-
 induction r with
 | nil=>exact .nil
 | @cons p q ps qs h t ih =>
  rw[y9,y9];refine .cons ?_ ih;obtain⟨h1,h2⟩:=h;by_cases e:p.1=k
  ·rw[if_pos e,if_pos (h1.symm.trans e)];exact⟨h1,ry⟩
  ·rw[if_neg e,if_neg (λz=>e (h1.trans z))];exact⟨h1,h2⟩
def KV.put {kvs:List (κ×V)}{vs:List (κ×Value)} (r:KV kvs vs) (k:κ) {y:V}{u:Value} (ry:RelV y u):KV (putK kvs k y) (stored vs k u):=by
 unfold putK stored;rw[r.any k];by_cases e:(vs.any λkv=>decide (kv.1=k))=true
 ·rw[if_pos e,if_pos e];exact r.repl k ry
 ·rw[if_neg e,if_neg e];exact Paired.snoc r ⟨rfl,ry⟩
def KV.keys {kvs:List (κ×V)}{vs:List (κ×Value)} (r:KV kvs vs):kvs.map (·.1)=vs.map (·.1):=by
 unfold KV at r;induction r with
 | nil=>rfl
 | cons h t ih=>rw[y9,y9,ih,h.1]
theorem KV.length {kvs:List (κ×V)}{vs:List (κ×Value)} (r:KV kvs vs):kvs.length=vs.length:=Paired.length r
end
def u7H {P:Program}{w:World}{k:Key}{u:Value} (r:RelV (kV k) u):(mixKind P w).is k u=true:=by
 cases k with
 | inl i=>obtain⟨t,e⟩:=(show ∃t,u=Value.int i t from r);subst e;exact u2y P w i t
 | inr x=>obtain⟨t,e⟩:=(show ∃t,u=Value.str x t from r);subst e;exact u2x P w x t
theorem u6H {P:Program}{w:World}:∀{ks:List Key}{us:List Value},Vals (ks.map kV) us->ItemsAre (mixKind P w) ks us
 | [],_,r=>by rw[List.map_nil] at r;cases r;exact .nil
 | k::ks,_,r=>by
  rw[y9] at r;cases r with
  | cons h t=>exact .cons (u7H h) (u6H t)
abbrev KT (H:Hp):List (List Key×V)->List (List Key×Addr×Value)->Prop:=Paired λp q=>p.1=q.1/\H q.2.1=some (.tup (p.1.map kV))/\RelV p.2 q.2.2
def KT.val {H:Hp}{kvs:List (List Key×V)}{xs:List (List Key×Addr×Value)} (r:KT H kvs xs) (k:List Key):RelO (valV kvs k) ((atKey xs k).map (·.2)):=by
 induction r with
 | nil=>exact True.intro
 | @cons p q ps qs h t ih =>
  obtain⟨h1,_,h2⟩:=h;by_cases e:p.1=k
  ·have e':q.1=k:=h1.symm.trans e
   have b:atKey (q::qs) k=some q.2:=by simp[atKey,u3,e']
   rw[u5p e,b];exact h2
  ·have e':¬ q.1=k:=fun z=>e (h1.trans z)
   have b:atKey (q::qs) k=atKey qs k:=by simp[atKey,u3,e']
   rw[u5q e,b];exact ih
def KT.repl {H:Hp}{kvs:List (List Key×V)}{xs:List (List Key×Addr×Value)} (r:KT H kvs xs) (k:List Key) {y:V}{u:Value} (ry:RelV y u) :
  KT H (kvs.map λkv=>if kv.1=k then (kv.1,y) else kv) (xs.map (putAt k u)):=by
 induction r with
 | nil=>exact .nil
 | @cons p q ps qs h t ih =>
  rw[y9,y9];refine .cons ?_ ih;obtain⟨h1,h2,h3⟩:=h;unfold putAt;by_cases e:p.1=k
  ·rw[if_pos e,if_pos (h1.symm.trans e)];exact⟨h1,h2,ry⟩
  ·rw[if_neg e,if_neg (λz=>e (h1.trans z))];exact⟨h1,h2,h3⟩
def KT.put {H:Hp}{kvs:List (List Key×V)}{xs:List (List Key×Addr×Value)} (r:KT H kvs xs) (k:List Key) {b:Addr}{y:V}{u:Value} (hb:H b=some (.tup (k.map kV))) (ry:RelV y u) :
  KT H (putK kvs k y) (storedH xs k b u):=by
 have e:(kvs.any λkv=>decide (kv.1=k))=(atKey xs k).isSome:=by
  rw[u7T,(r.val k).isSome_eq,Option.isSome_map]
 unfold putK storedH;rw[e];by_cases q:(atKey xs k).isSome=true
 ·rw[if_pos q,if_pos q];exact r.repl k ry
 ·rw[if_neg q,if_neg q];exact Paired.snoc r ⟨rfl,hb,ry⟩
def KT.keeps {H H':Hp}{kvs:List (List Key×V)}{xs:List (List Key×Addr×Value)} (r:KT H kvs xs) (ht:∀b ys,H b=some (.tup ys)->H' b=some (.tup ys)):KT H' kvs xs :=
 Paired.mapP r λ_ _ z=>⟨z.1,ht _ _ z.2.1,z.2.2⟩
section
variable {P:Program}{w:World}{H:Hp}{h:Heap}{a:Addr}
def rd_of {u:HO} (ok:HOk P w H h) (e:Rd H a u):ObjOk P w H h a u:=e.ok ok
def u7O {kvs:List (Key×V)} (ok:HOk P w H h) (e:Rd H a (.dK kvs)):kvs.length<=sizeLine/\(a==sysModules)=false/\∃vs,KV kvs vs/\h.DictOf (mixKind P w) a vs :=
 show ObjOk P w H h a (.dK kvs) from rd_of ok e
def dk_of {kvs:List (Key×V)} (ok:HOk P w H h) (e:H a=some (.dK kvs)):kvs.length<=sizeLine/\(a==sysModules)=false/\∃vs,KV kvs vs/\h.DictOf (mixKind P w) a vs:=u7O ok (.inl e)
def u5a {ks:List Key} (ok:HOk P w H h) (e:H a=some (.tup (ks.map kV))):(tupleKind (mixKind P w)).is h ks a:=by
 obtain⟨_,its,r,o,h1,h2,n,h3⟩:=(show ObjOk P w H h a (.tup (ks.map kV)) from ok a _ e)
 exact⟨o,its.toArray,n,h1,h2,h3,by simpa using u6H r⟩
def u7N {kvs:List (List Key×V)} (ok:HOk P w H h) (e:Rd H a (.dT kvs)):kvs.length<=sizeLine/\(a==sysModules)=false /\
  ∃xs,KT H kvs xs/\h.DictOfH (tupleKind (mixKind P w)) a xs:=by
 obtain⟨z,y,xs,r,o,es,ep,h1,h2,h3,h4,h5⟩:=(show ObjOk P w H h a (.dT kvs) from rd_of ok e)
 refine⟨z,y,xs,r,o,es,ep,h1,h2,h3,h4,λx hx=>?_,h5⟩
 have all:∀{l:List (List Key×V)}{m:List (List Key×Addr×Value)},KT H l m->∀x∈m,(tupleKind (mixKind P w)).is h x.1 x.2.1:=by
  intro l m q;induction q with
  | nil=>intro x hx;exact nomatch hx
  | @cons p q ps qs hq t ih =>
   intro x hx;rcases y0.mp hx with e|hx
   ·subst e
    exact u5a ok (by rw[<- hq.1];exact hq.2.1)
   ·exact ih x hx
 exact all r x hx
def dt_of {kvs:List (List Key×V)} (ok:HOk P w H h) (e:H a=some (.dT kvs)):kvs.length<=sizeLine/\(a==sysModules)=false /\
  ∃xs,KT H kvs xs/\h.DictOfH (tupleKind (mixKind P w)) a xs:=u7N ok (.inl e)
end
def DGet (H:Hp) (a:Addr) (y:V) (r:Option V):Prop :=
 (∃kvs k,Rd H a (.dK kvs)/\y=kV k/\r=valV kvs k)\/∃kvs k b,Rd H a (.dT kvs)/\y=.ref b/\H b=some (.tup (k.map kV))/\r=valV kvs k
def DPut (H:Hp) (a:Addr) (y v:V) (H':Hp):Prop :=
 (∃kvs k,H a=some (.dK kvs)/\y=kV k/\kvs.length<sizeLine/\H'=upd H a (.dK (putK kvs k v))) \/
 ∃kvs k b,H a=some (.dT kvs)/\y=.ref b/\H b=some (.tup (k.map kV))/\kvs.length<sizeLine/\H'=upd H a (.dT (putK kvs k v))
theorem DGet.k {H:Hp}{a:Addr}{kvs:List (Key×V)}{k:Key} (e:H a=some (.dK kvs)):DGet H a (kV k) (valV kvs k):=.inl ⟨kvs,k,.inl e,rfl,rfl⟩
theorem DPut.k {H:Hp}{a:Addr}{kvs:List (Key×V)}{k:Key}{v:V} (e:H a=some (.dK kvs)) (hl:kvs.length<sizeLine):DPut H a (kV k) v (upd H a (.dK (putK kvs k v))):=.inl ⟨kvs,k,e,rfl,hl,rfl⟩
section
variable {X:Cx}{pins:LO}{σ:St}{H:Hp}{s:Shared}{a:Addr}{y v:V}{u r:Value}{o:Option V}{A:Around}{E:VP}
def Inv.big (I:Inv X pins σ H s):sysModules<s.heap.objs.size:=by
 have h:mainGlobals<s.heap.objs.size:=(I.mod.glob.keeps I.bk).lt;exact Nat.lt_trans (by decide) h
def v1G {Q:VP} (hu:A.units+1<cLine) (I:Inv X pins σ H s) (g:DGet H a y (some v)) (ry:RelV y u) (h:∀w' s',Inv X pins σ H s'->RelV v w'->Q w' s') :
  wpAny (model X.prog X.w) A (getItem (.ref a) u) Q E s:=by
 rcases g with⟨kvs,k,e,ey,l⟩|⟨kvs,k,b,e,ey,eb,l⟩
 ·subst ey
  obtain⟨z,hd,vs,rel,dd⟩:=u7O I.hok e;obtain⟨w',hw,rw'⟩:=RelO.some_of (v:=v) (o:=valueAt vs k) (by rw[l];exact rel.val k)
  exact wpAny_getItem_of (u7H ry) dd.mapOf hw (h w' _ (I.tok _) rw')
 ·subst ey
  cases (show u=Value.ref b from ry)
  obtain⟨z,hd,xs,rel,dd⟩:=u7N I.hok e;obtain⟨w',hw,rw'⟩:=RelO.some_of (v:=v) (o:=(atKey xs k).map (·.2)) (by rw[l];exact rel.val k)
  obtain⟨p,hp,hp2⟩:=Option.map_eq_some_iff.mp hw;refine wpAny_getItem_heap (tupleKind_room_in1 hu) (u5a I.hok eb) dd hp ?_;rw[hp2];exact h w' _ (I.tok _) rw'
def d_in {Q:VP} (hu:A.units+1<cLine) (I:Inv X pins σ H s) (g:DGet H a y o) (ry:RelV y u) (h:∀s',Inv X pins σ H s'->Q (.bool o.isSome) s') :
  wpAny (model X.prog X.w) A (compareOp .In u (.ref a)) Q E s:=by
 rcases g with⟨kvs,k,e,ey,l⟩|⟨kvs,k,b,e,ey,eb,l⟩
 ·subst ey
  obtain⟨z,hd,vs,rel,dd⟩:=u7O I.hok e;refine wpAny_in_of (u7H ry) hd dd.mapOf ?_;rw[<- (rel.val k).isSome_eq,<- l];exact h _ (I.tok _)
 ·subst ey
  cases (show u=Value.ref b from ry)
  obtain⟨z,hd,xs,rel,dd⟩:=u7N I.hok e;refine wpAny_in_heap (tupleKind_room_in1 hu) (u5a I.hok eb) hd dd ?_;have q:=(rel.val k).isSome_eq;rw[Option.isSome_map] at q;rw[<- q,<- l];exact h _ (I.tok _)
def d_notIn {Q:VP} (hu:A.units+1<cLine) (I:Inv X pins σ H s) (g:DGet H a y o) (ry:RelV y u) (h:∀s',Inv X pins σ H s'->Q (.bool (!o.isSome)) s') :
  wpAny (model X.prog X.w) A (compareOp .NotIn u (.ref a)) Q E s:=by
 rcases g with⟨kvs,k,e,ey,l⟩|⟨kvs,k,b,e,ey,eb,l⟩
 ·subst ey
  obtain⟨z,hd,vs,rel,dd⟩:=u7O I.hok e;refine wpAny_notIn_of (u7H ry) hd dd.mapOf ?_;rw[<- (rel.val k).isSome_eq,<- l];exact h _ (I.tok _)
 ·subst ey
  cases (show u=Value.ref b from ry)
  obtain⟨z,hd,xs,rel,dd⟩:=u7N I.hok e;refine wpAny_notIn_heap (tupleKind_room_in1 hu) (u5a I.hok eb) hd dd ?_;have q:=(rel.val k).isSome_eq;rw[Option.isSome_map] at q;rw[<- q,<- l];exact h _ (I.tok _)
def u4v {h':Heap}{t':Nat}{ob:HO} (I:Inv X pins σ H s) (mu:Mut (H a)) (hs:Heap.SameBut a s.heap h') (he:∃q,h'.get? a=some q) (new:ObjOk X.prog X.w (upd H a ob) h' a ob) :
  Inv X pins σ (upd H a ob) { s with heap:=h',toks:=t' } :=
 I.write (x:=a) (e:=a) mu (.inl rfl) (λb q hb z=>(hs.2 b hb).trans z) he new
def v1B {P:Program}{w:World}{H':Hp}{h':Heap}{kvs:List (Key×V)}{vs:List (Key×Value)} (z:kvs.length<=sizeLine) (hd:(a==sysModules)=false) (rel:KV kvs vs) (dd:h'.DictOf (mixKind P w) a vs) :
  ObjOk P w H' h' a (.dK kvs):=⟨z,hd,vs,rel,dd⟩
def v1F {H':Hp}{Q:Unit->Shared->Prop} (hu:A.units+1<cLine) (I:Inv X pins σ H s) (g:DPut H a y v H') (ry:RelV y u) (rv:RelV v r) (h:∀s',Inv X pins σ H' s'->Q () s') :
  wpAny (model X.prog X.w) A (setItem (.ref a) u r) Q E s:=by
 rcases g with⟨kvs,k,e,ey,l,eH⟩|⟨kvs,k,b,e,ey,eb,l,eH⟩
 ·subst ey eH
  obtain⟨z,hd,vs,rel,dd⟩:=dk_of I.hok e;have hz:vs.length<=sizeLine:=by rw[<- rel.length];exact z
  have hl:(putK kvs k v).length<=sizeLine:=by have:=u2z kvs k v;omega
  refine wpAny_setItem_pairs (hsz:=hz) (u7H ry) dd λh' dd' hs=>h _ ?_
  have he:∃q,h'.get? a=some q:=let ⟨q,_,_,hq,_⟩:=dd';⟨q,hq⟩
  exact u4v I (by rw[e];exact True.intro) hs he (v1B hl hd (rel.put k rv) dd')
 ·subst ey eH
  cases (show u=Value.ref b from ry)
  obtain⟨z,hd,xs,rel,dd⟩:=dt_of I.hok e;have hz:xs.length<=sizeLine:=by rw[<- Paired.length rel];exact z
  have hl:(putK kvs k v).length<=sizeLine:=by have:=u2z kvs k v;omega
  refine wpAny_setItem_heap (hsz:=hz) (tupleKind_room_in1 hu) (u5a I.hok eb) dd λh' dd' hs=>h _ ?_
  obtain⟨q,es,ep,hq,h2,h3,h4,_,h5⟩:=dd';refine u4v I (by rw[e];exact True.intro) hs ⟨q,hq⟩ ⟨hl,hd,_,(rel.put k eb rv).keeps λc ys ec=>?_,q,es,ep,hq,h2,h3,h4,h5⟩
  rw[u0j (ne_of ec e (λz=>nomatch z))]
  exact ec
end
section
variable {X:Cx}{pins:LO}{σ:St}{H:Hp}{s:Shared}{a:Addr}{kvs:List (Key×V)}{k:Key}{u:Value}{A:Around}{E:VP}
def d_clear {Q:VP} (I:Inv X pins σ H s) (e:H a=some (.dK kvs)) (h:∀s',Inv X pins σ (upd H a (.dK [])) s'->Q .none s'):wpAny (model X.prog X.w) A (call (.builtin "dict.clear") [.ref a]) Q E s:=by
 obtain⟨z,hd,vs,rel,dd⟩:=dk_of I.hok e;refine call_meetsIn PySem.F.slot_dict_clear dd.typeIs PySem.F.entry_dict_clear (PySem.F.args_dict_clear_1 _) (meets_dict_clear (mixKind X.prog X.w) a) ⟨vs,dd,by rw[<- rel.length];exact z,λh' dd' hs=>h _ ?_⟩
 have he:∃q,h'.get? a=some q:=let ⟨q,_,_,hq,_⟩:=dd';⟨q,hq⟩
 exact u4v (t':=s.toks) I (by rw[e];exact True.intro) hs he (v1B (q9 _) hd .nil dd')
end
def NoSl (i:Expr):Prop:=∀ov iv,subscripted i false ov iv=operate [ov,iv] (getItem ov iv)
def subD_of {prog:Program}{w:World}{A:Around}{E:VP}{s:Shared}{env:Env}{value slice:Expr}{pos:Pos}{T id:String}{Q:VP}
  (hl:typeLookup (.type T) "__getitem__"=pure (some (.builtin id))) (hs:NoSl slice)
  (h:wpAny (model prog w) A (eval value env) (λo s₁=>wpAny (model prog w) A (eval slice env) (λi s₂=>s₂.TypeIs o T/\wpAny (model prog w) A (getItem o i) Q E s₂) E s₁) E s) :
  wpAny (model prog w) A (eval (.Subscript value slice pos) env) Q E s:=by
 refine Subscript_ (wpAny_mono h (λo s₁ h₁=>wpAny_mono h₁ (λi s₂ h₂=>?_) λ_ _ x=>x) λ_ _ x=>x)
 obtain⟨hT,h₂⟩:=h₂;unfold subscriptTail;refine wpAny_bind ?_;rw[getitemInPython_of_ne hT.not_modules];refine wpAny_bind (wpAny_specialOf hT hl ?_);have fin:wpAny (model prog w) A (subscripted slice false o i) (λr s₃=>wpAny (model prog w) A (letTemporaryGo value o r >>= λ_=>pure r) Q E s₃) E s₂:=by
  rw[hs o i];exact wpAny_operating (wpAny_mono h₂ (λr s₃ h₃=>wpAny_bind (wpAny_letTemporaryGo (wpAny_pure h₃))) λ_ _ x=>x)
 first
  | exact wpAny_pure (wpAny_bind fin)
  | exact wpAny_bind (wpAny_pure (wpAny_bind fin))
  | exact wpAny_bind fin
def u7P {X:Cx}{pins:LO}{σ:St}{H:Hp}{s:Shared}{a:Addr}{y:V}{o:Option V} (I:Inv X pins σ H s) (g:DGet H a y o):s.TypeIs (.ref a) "dict":=by
 rcases g with⟨kvs,k,e,_,_⟩|⟨kvs,k,b,e,_,_,_⟩
 ·obtain ⟨_,_,vs,_,dd⟩:=u7O I.hok e
  exact dd.typeIs
 ·obtain ⟨_,_,xs,_,dd⟩:=u7N I.hok e
  exact dd.typeIs
def tDGet (td ty:TE):TE:=λσ H Q=>td σ H λx H1=>ty σ H1 λy H2=>∃a v,x=.ref a/\DGet H2 a y (some v)/\Q v H2
def sDPut (td ty tv:TE):TS:=λD σ H=>tv σ H λv H1=>td σ H1 λx H2=>ty σ H2 λy H3=>∃a H4,x=.ref a/\DPut H3 a y v H4/\D.nx σ H4
section
variable {X:Cx}{o i e value:Expr}{pos pos' tpos:Pos}{td ty tv:TE}
def u7B (hu:X.A.units+1<cLine) (ho:PE X o td) (hi:PE X i ty) (hs:NoSl i):PE X (.Subscript o i pos) (tDGet td ty):=by
 intro pins s σ H Q I h;refine subD_of PySem.F.slot_dict_getitem.lookup hs (thn (ho pins s σ H _ I h) λu s1 ⟨x,H1,I1,rx,q1⟩=>thn (hi pins s1 σ H1 _ I1 q1) λiv s2 z973=>?_)
 obtain⟨y,H2,I2,ry,a,v,ex,g,q2⟩:=z973;subst ex;obtain rfl:u=Value.ref a:=rx;exact⟨u7P I2 g,v1G hu I2 g ry λw' s3 I3 rw'=>⟨v,H2,I3,rw',q2⟩⟩
def ps_dput (hu:X.A.units+1<cLine) (ho:PE X o td) (hi:PE X i ty) (hv:PE X value tv) (hs:swapsWith value (some (.Subscript o i pos')) pos.line X.env=pure false) :
  PS X (.Assign [.Subscript o i pos'] value pos) (sDPut td ty tv):=by
 intro pins s σ H D I h;refine wpAny_Assign_Subscript (thn (hv pins s σ H _ I h) λr s1 ⟨v,H1,I1,rv,q1⟩=>thn (ho pins s1 σ H1 _ I1 q1) λu s2 ⟨x,H2,I2,rx,q2⟩=>thn (hi pins s2 σ H2 _ I2 q2) λiv s3 z976=>?_) hs
 obtain⟨y,H3,I3,ry,a,H4,ex,g,q3⟩:=z976;subst ex;obtain rfl:u=Value.ref a:=rx;exact v1F hu I3 g ry rv λs4 I4=>⟨σ,H4,I4,q3⟩
end
def u5R {P:Program}{w:World}{H:Hp} (h:Heap) (hb:sysModules<h.objs.size):ObjOk P w H (h.push { cls:=.type "dict",data:=.dict #[] }) h.objs.size (.dK []) :=
 ⟨q9 _,beq_eq_false_iff_ne.mpr (Ne.symm (x0 hb)),[],.nil,Heap.DictOf.new h⟩
def tDNewK:TE:=λ_ H Q=>∀p,H p=none->Q (.ref p) (upd H p (.dK []))
section
variable {X:Cx}{pos:Pos}
def v2F:PE X (.Dict [] [] pos) tDNewK:=λpins s σ H Q I h =>
 wpAny_Dict_empty ⟨.ref s.heap.objs.size,_,I.laid (a:=s.heap.objs.size) (o:=.dK []) (t':=s.toks) (λ_ _ q=>z0 _ q) (z7 _) (u5R s.heap I.big),rfl,h _ (I.hok.fresh (z7 _))⟩
end
noncomputable def tPairs:List (TE×TE)->St->Hp->(List (V×V)->Hp->Prop)->Prop
 | [],_,H,Q=>Q [] H
 | (tk,tv)::r,σ,H,Q=>tk σ H λx H1=>tv σ H1 λy H2=>tPairs r σ H2 λps H3=>Q ((x,y)::ps) H3
abbrev VV:List (V×V)->List (Value×Value)->Prop:=Paired λp q=>RelV p.1 q.1/\RelV p.2 q.2
def PPs (X:Cx) (pos:Pos) (keys:List (Option Expr)) (values:List Expr) (trs:List (TE×TE)):Prop :=
 ∀(pins:LO) (s:Shared) (σ:St) (H:Hp) (Q:List (V×V)->Hp->Prop),Inv X pins σ H s->tPairs trs σ H Q ->
  wpAny (model X.prog X.w) X.A (evalPairs (pairTrees keys values X.env pos)) (λvs s'=>∃ps H',Inv X pins σ H' s'/\VV ps vs/\Q ps H') X.xe s
def pps_nil {X:Cx}{pos:Pos}:PPs X pos [] [] []:=λpins s σ H Q I h=>pairTrees_nil_walk ⟨[],H,I,.nil,h⟩
def v2y {X:Cx}{pos:Pos}{k v:Expr}{ks:List (Option Expr)}{vs:List Expr}{tk tv:TE}{trs:List (TE×TE)} (hk:PE X k tk) (hv:PE X v tv) (hr:PPs X pos ks vs trs) :
  PPs X pos (some k::ks) (v::vs) ((tk,tv)::trs):=λpins s σ H Q I h =>
 pairTrees_cons_walk (thn (hk pins s σ H _ I h) λu s1 ⟨x,H1,I1,rx,q1⟩=>thn (hv pins s1 σ H1 _ I1 q1) λw2 s2 ⟨y,H2,I2,ry,q2⟩ =>
  thn (hr pins s2 σ H2 _ I2 q2) λws s3 z979=>by obtain⟨ps,H3,I3,rel,q3⟩:=z979;exact⟨(x,y)::ps,H3,I3,.cons ⟨rx,ry⟩ rel,q3⟩)
noncomputable def mergeK (kvs more:List (Key×V)):List (Key×V):=more.foldl (λacc kv=>putK acc kv.1 kv.2) kvs
def KV.merge:∀{more:List (Key×V)}{rs:List (Key×Value)}{kvs:List (Key×V)}{vs:List (Key×Value)},KV more rs->KV kvs vs->KV (mergeK kvs more) (merged vs rs):=by
 intro more rs kvs vs r;unfold KV at r;induction r generalizing kvs vs with
 | nil=>intro q;exact q
 | @cons p q ps qs h t ih =>
  intro r0;have e:KV (putK kvs p.1 p.2) (stored vs q.1 q.2):=by
   have:=r0.put p.1 h.2
   rw[<- h.1];exact this
  exact ih e
theorem u2L:∀(more kvs:List (Key×V)),(mergeK kvs more).length<=kvs.length+more.length
 | [],kvs=>by show kvs.length<=kvs.length+0;omega
 | p::r,kvs=>by
  have h1:=u2L r (putK kvs p.1 p.2);have h2:=u2z kvs p.1 p.2;show(mergeK (putK kvs p.1 p.2) r).length<=_;rw[v9];omega
theorem u5l {P:Program}{w:World}:∀{kvs:List (Key×V)}{ws:List (Value×Value)},VV (kvs.map λkv=>(kV kv.1,kv.2)) ws->∃rs,Carries (mixKind P w) ws rs/\KV kvs rs
 | [],_,r=>by rw[List.map_nil] at r;cases r;exact⟨[],True.intro,.nil⟩
 | p::kvs,_,r=>by
  rw[y9] at r;cases r with
  | @cons a b as bs h t =>
   obtain⟨rs,c,q⟩:=u5l (P:=P) (w:=w) t;obtain⟨b1,b2⟩:=b;exact⟨(p.1,b2)::rs,⟨u7H h.1,rfl,c⟩,.cons ⟨rfl,h.2⟩ q⟩
def tDisp (trs:List (TE×TE)):TE:=λσ H Q=>∀p,H p=none->tPairs trs σ (upd H p (.dK [])) λps H2=>H2 p=some (.dK [])/\∃kvs:List (Key×V),ps=kvs.map (λkv=>(kV kv.1,kv.2))/\kvs.length<=15/\Q (.ref p) (upd H2 p (.dK (mergeK [] kvs)))
def pe_disp {X:Cx}{pos:Pos}{keys:List (Option Expr)}{values:List Expr}{trs:List (TE×TE)} (h:PPs X pos keys values trs) (hall:keys.all (·.isSome)=true) (hl:keys.length=values.length) (h0:keys≠[])
  (h15:keys.length<=15):PE X (.Dict keys values pos) (tDisp trs):=by
 intro pins s σ H Q I q;have hn:=I.hok.fresh (z7 s.heap.objs.size);have I1:=I.laid (a:=s.heap.objs.size) (o:=.dK []) (h':=s.heap.push { cls:=.type "dict",data:=.dict #[] }) (t':=s.toks) (λ_ _ q=>z0 _ q) (z7 _) (u5R s.heap I.big)
 refine wpAny_Dict_walk (knd:=mixKind X.prog X.w) hall hl h0 h15 (thn (h pins _ σ _ _ I1 (q _ hn)) λws s2 z980=>?_)
 obtain⟨ps,H2,I2,rel,e,kvs,ep,lk,q2⟩:=z980;subst ep;obtain⟨rs,c,rk⟩:=u5l (P:=X.prog) (w:=X.w) rel;obtain⟨z,hd,vs0,r0,dd⟩:=dk_of I2.hok e;cases r0;refine⟨rs,c,dd,λh' dd' hs=>⟨.ref s.heap.objs.size,_,?_,rfl,q2⟩⟩
 have hz:(mergeK [] kvs).length<=sizeLine:=by
  have h1:=u2L kvs [];rw[List.length_nil] at h1;rw[sizeLine_eq];omega
 have he:∃q,h'.get? s.heap.objs.size=some q:=let ⟨q,_,_,hq,_⟩:=dd';⟨q,hq⟩
 exact u4v I2 (by rw[e];exact True.intro) hs he (v1B hz hd (rk.merge .nil) dd')
structure M2 (X:Cx) (o:Expr) (m:Str) (apos:Pos) (e f:Expr) (cpos:Pos):Prop where
 base:attributeBase o m X.env (eval o X.env)=eval o X.env
 few:((backTo cpos (starEach [e,f] X.env)).all (λx=>!x.1)&&(backToKw cpos (keywordEach [] X.env)).all (λx=>x.1.isSome)
  && decide (([e,f]:List Expr).length+([]:List Keyword).length+(if ([]:List Keyword).isEmpty then 0 else 1)<30))=true
 line:(apos.endLine==cpos.line)=true
 trees:backTo cpos (starEach [e,f] X.env)=[(false,eval e X.env),(false,eval f X.env)]
def IsD (H:Hp) (a:Addr):Prop:=(∃kvs,Rd H a (.dK kvs))\/∃kvs,Rd H a (.dT kvs)
def isD_at {X:Cx}{pins:LO}{σ:St}{H:Hp}{s:Shared}{a:Addr} (I:Inv X pins σ H s) (d:IsD H a) :
  s.TypeIs (.ref a) "dict"/\(∀b,Value.ref a=.ref b->∃ob,s.heap.get? b=some ob/\ob.dict=none)/\(a==sysModules)=false:=by
 rcases d with⟨kvs,e⟩|⟨kvs,e⟩
 ·obtain ⟨_,hd,vs,_,dd⟩:=u7O I.hok e
  refine⟨dd.typeIs,λb q=>?_,hd⟩
  cases q;obtain⟨ob,_,_,h1,h2,_⟩:=dd;exact⟨ob,h1,h2.2.1⟩
 ·obtain ⟨_,hd,xs,_,dd⟩:=u7N I.hok e
  refine⟨dd.typeIs,λb q=>?_,hd⟩
  cases q;obtain⟨ob,_,_,h1,h2,_⟩:=dd;exact⟨ob,h1,h2.2.1⟩
section
variable {X:Cx}{pins:LO}{σ:St}{H:Hp}{s:Shared}{a:Addr}{y d:V}{u r:Value}{o:Option V}{A:Around}{E:VP}
def d_get2 {Q:VP} (hu:A.units+1<cLine) (I:Inv X pins σ H s) (g:DGet H a y o) (ry:RelV y u) (rd:RelV d r) (h:∀w' s',Inv X pins σ H s'->RelV (o.getD d) w'->Q w' s') :
  wpAny (model X.prog X.w) A (call (.builtin "dict.get") [.ref a,u,r]) Q E s:=by
 rcases g with⟨kvs,k,e,ey,l⟩|⟨kvs,k,b,e,ey,eb,l⟩
 ·subst ey
  obtain⟨z,hd,vs,rel,dd⟩:=u7O I.hok e;refine call_meetsIn PySem.F.slot_dict_get dd.typeIs PySem.F.entry_dict_get (PySem.F.args_dict_get_3 _ _ _) (meets_dict_get_default (mixKind X.prog X.w) a (u7H ry) hd r) ⟨_,dd.mapOf,h _ _ (I.tok _) ?_⟩;rw[l];exact(rel.val k).getD rd
 ·subst ey
  cases (show u=Value.ref b from ry)
  obtain⟨z,hd,xs,rel,dd⟩:=u7N I.hok e;refine call_meetsIn PySem.F.slot_dict_get dd.typeIs PySem.F.entry_dict_get (PySem.F.args_dict_get_3 _ _ _) (meetsH_dict_get_default (tupleKind (mixKind X.prog X.w)) a b hd r) ⟨tupleKind_room_in1 hu,k,xs,u5a I.hok eb,dd,h _ _ (I.tok _) ?_⟩;rw[l];exact(rel.val k).getD rd
end
def tDGet2 (td ty tx:TE):TE:=λσ H Q=>td σ H λx H1=>∃a,x=.ref a/\IsD H1 a/\ty σ H1 λy H2=>tx σ H2 λz H3=>∃o,DGet H3 a y o/\Q (o.getD z) H3
section
variable {X:Cx}{o e f:Expr}{apos cpos:Pos}{td ty tx:TE}
def v2G (hu:X.A.units+1<cLine) (ho:PE X o td) (he:PE X e ty) (hf:PE X f tx) (m:M2 X o "get" apos e f cpos):PE X (.Call (.Attribute o "get" apos) [e,f] [] cpos) (tDGet2 td ty tx):=by
 intro pins s σ H Q I h;refine wpAny_Call_method m.base m.few m.line PySem.F.plainAttrs_dict PySem.F.slot_dict_get PySem.F.type_dict_get (thn (ho pins s σ H _ I h) λu s1 z981=>?_)
 obtain⟨x,H1,I1,rx,a,ex,d,q1⟩:=z981;subst ex;obtain rfl:u=Value.ref a:=rx;obtain⟨t1,t2,_⟩:=isD_at I1 d;refine⟨t1,t2,?_⟩;rw[m.trees];refine Calls.callWith_builtin rfl (Calls.evalArgs_plain (Calls.spliced_cons (thn (he pins s1 σ H1 _ I1 q1) λiv s2 ⟨y,H2,I2,ry,q2⟩ =>
  Calls.spliced_cons (thn (hf pins s2 σ H2 _ I2 q2) λfv s3 ⟨z,H3,I3,rz,ov,g,q3⟩=>Calls.spliced_nil ?_))))
 exact d_get2 hu I3 g ry rz λw' s4 I4 rw'=>⟨_,H3,I4,rw',q3⟩
end
end L2
namespace Att
open PySem PySem.W PySem.Calls PyProof.Rows
end Att
namespace L2
open PySem PySem.Spec PyProof.Rows
end L2
namespace L2
open PySem PySem.Spec PyProof.Rows
structure JE (X:Cx) (e:Expr) (t:TE):Prop where
 out:PE X e t
structure JS (X:Cx) (s:Stmt) (t:TS):Prop where
 out:PS X s t
structure JB (X:Cx) (s:List Stmt) (t:TS):Prop where
 out:PSs X s t
section
variable {X:Cx}{a b c e o:Expr}{es rest:List Expr}{ta tb tc te to:TE}{t u:TS}{tA tB':TT}{pos pos' p apos cpos:Pos}{x name:Str}{tr:TA}{v:V}{i:Nat}
def ev (i:Nat) {x:Str}{pos:Pos} (hN:X.N[i]?=some x:=by rfl) (hv:Vis X.env.scope x:=by first|exact Or.inl rfl|exact Or.inr (Or.inl rfl)|exact Or.inr (Or.inr rfl)) (hd:(x==("__debug__":Str))=false:=by decide)
  (hcd:(x==("__classdict__":Str))=false:=by decide):JE X (.Name x pos) (tVar i):=⟨u1U hN hv hd hcd⟩
variable {tg l:Expr}{tl:TE}
variable {st:Stmt}{sts:List Stmt}
def b_one (h1:JS X st t):JB X [st] t:=⟨u7r h1.out⟩
end
section
variable {P:Program}{w:World}{K:W.Frag}{mg:MG}{base:Heap}
def Fun.okJ {x qual:Str}{st:Stmt}{f:Addr}{fd:FuncData}{N ps:List Str}{k:Nat}{sp:Sp} (F:Fun K x qual st f fd) (S:FnScope N ps (defScope st)) (len:∀vs H Q E,sp vs H Q E->vs.length=ps.length)
  (hbody:∀ (cdv:Value) (A:Around) (outer:List Env) (s:Shared) (H:Hp) (vs:List V) (Q:VK) (E:XK),Room k (A.deeper (envOfC qual (defScope st) s.heap.objs.size f cdv))->sp vs H Q E ->
   ∃t,JB (cxOf CX0 P w K mg base N qual (defScope st) f cdv A outer s H E).nox (defBody st) t/\t { nx:=λ_ H'=>Q .non H',rt:=Q } (start N vs) H):FnOk P w K mg base CX0 (k+1) f fd ps sp :=
 F.ok S len λcdv A outer s H vs Q E hr h=>by obtain⟨t,a,b⟩:=hbody cdv A outer s H vs Q E hr h;exact⟨t,a.out,b⟩
end
end L2
namespace KW
open PySem L2 PySem.Spec PyProof.Rows
end KW
namespace L2
open PySem PySem.Spec PyProof.Rows
noncomputable def cutC {α:Type} (xs:List α) (lo hi:Option Int):List α:=(xs.drop (HT.sIx xs.length 0 lo)).take (HT.sIx xs.length xs.length hi - HT.sIx xs.length 0 lo)
def v2v (a b:Nat):sliceRange (a:Int) (b:Int) 1=(List.range (b - a)).map (λk=>a+k):=by
 unfold sliceRange;have h:(if (1:Int) > 0 then (if (a:Int)<b then ((b:Int) - a+1 - 1) / 1 else 0) else (if (a:Int) > b then ((a:Int) - b - 1 - 1) / (-1) else 0)).toNat=b - a:=by
  rw[if_pos (by decide)]
  by_cases h:(a:Int)<b
  ·rw[if_pos h];omega
  ·rw[if_neg h];omega
 simp only[h];refine List.map_congr_left λk _=>?_
 omega
def u8N (v:Int) (n d:Nat):max 0 (min (if v<0 then v+(n:Int) else v) (n:Int))=((HT.sIx n d (some v):Nat):Int):=by
 show max 0 (min (if v<0 then v+(n:Int) else v) (n:Int))=(((if v<0 then (v+(n:Int)).toNat else min v.toNat n):Nat):Int)
 by_cases hv:v<0
 ·simp only[if_pos hv];omega
 ·simp only[if_neg hv];omega
def u7h (l u:Option Int) (n:Nat):Builtin.Str.strSliceIndices l u 1 n=(List.range (HT.sIx n n u - HT.sIx n 0 l)).map (λk=>HT.sIx n 0 l+k):=by
 rw[<- v2v];unfold Builtin.Str.strSliceIndices;simp only[show((1:Int) > 0)=True from by simp,if_true]
 congr 1
 ·cases l with
  | none=>rfl
  | some v=>exact u8N v n 0
 ·cases u with
  | none=>rfl
  | some v=>exact u8N v n n
set_option tactic.hygienic true in
def v0l (z:Str) (l u:Option Int):(Txt.slice z l u).cps.toList=cutC z.cps.toList l u:=by
 have hn:z.cps.toList.length=z.length:=by rw[t0];rfl
 have hl:HT.sIx z.length 0 l<=z.length:=HT.sIx_le _ 0 (q9 _) l;have hu:HT.sIx z.length z.length u<=z.length:=HT.sIx_le _ _ (z7 _) u;unfold Txt.slice cutC;rw[u7h,hn];split
 ·rename_i h
  simp only[beq_self_eq_true,Bool.true_and,x6,List.length_range,beq_iff_eq] at h;have e1:HT.sIx z.length 0 l=0:=by omega
  have e2:HT.sIx z.length z.length u=z.length:=by omega
  rw[e1,e2,List.drop_zero,Nat.sub_zero,List.take_of_length_le (by omega)]
 ·by_cases h:HT.sIx z.length 0 l<=HT.sIx z.length z.length u
  ·have h2:=StrLaws.picks z.cps.toList (HT.sIx z.length z.length u - HT.sIx z.length 0 l) (HT.sIx z.length 0 l) (by omega)
   rw[<- h2];show List.filterMap (λx=>z.cps[x]?) _=_
   have e:(λx=>z.cps[x]?)=(λx:Nat=>z.cps.toList[x]?):=by funext i;simp
   rw[e]
  ·have e:HT.sIx z.length z.length u - HT.sIx z.length 0 l=0:=by omega
   rw[e,List.take_zero];rfl
def sIx_one (n d:Nat):HT.sIx n d (some 1)=min 1 n:=HT.sIx_nat n d 1
def u8Z (z:Str):(Txt.slice z (some 1) none).cps.toList=z.cps.toList.drop 1:=by
 rw[v0l];unfold cutC;rw[sIx_one,HT.sIx_none];by_cases h:1<=z.cps.toList.length
 ·rw[Nat.min_eq_left h,List.take_of_length_le (by rw[z1E];omega)]
 ·have e:z.cps.toList=[]:=List.eq_nil_of_length_eq_zero (by omega)
  rw[e];rfl
abbrev bmV:List Value:=[.type "ValueError",.type "Exception",.type "BaseException",.type "object"]
abbrev tupO (vs:List Value):Obj:={ cls:=.type "tuple",data:=.seq vs.toArray }
abbrev excO (C t:Addr) (dx:Option Addr):Obj:={ cls:=.ref C,dict:=dx,data:=.fields #[.ref t,.none,.none,.none,.bool false,.none] }
noncomputable def onlyV:List Value->Bool
 | .ref _::r=>onlyV r
 | l=>l==bmV
noncomputable def xcB (K:W.Frag) (C f:Addr):Bool:=match K.lookup C with
 | some ⟨.type "type",_,.cls cd,sl⟩=>(match cd.mro,sl.toList with
  | .ref C'::bm,[_,_,_,_,some (.builtin n),_]=>C'==C&&n=="ValueError.__new__"&&!cd.hasDel&&W.tailIn K bmV bm&&cd.hasDict &&
    W.findIn K (.ref C) "__init__"==some (some (.ref f))&&W.typeIn K (.ref f)==some (.type "function")&&W.findIn K (.ref C) "__getattribute__"==some (some (.builtin "BaseException.__getattribute__")) &&
    W.findIn K (.ref C) "__setattr__"==some (some (.builtin "object.__setattr__"))&&W.findIn K (.ref C) "__getattr__"==some none&&W.keepIn K (.ref C)&&onlyV bm &&
    W.findIn K (.ref C) "__class__"==some (some (.builtin "object.__class__"))&&W.specialIn K (.builtin "object.__class__") "__get__"==some (some (.builtin "getset_descriptor.__get__"))&&W.takesIn K (.builtin "object.__class__")==some true&&W.mroIn K C (.type "object")==some true
  | _,_=>false)
 | _=>false
structure XCls (K:W.Frag) (C f:Addr):Prop where
 obj:∃bm N nm q bs sn sub ab col dd k0 k1 k2 k3 k5,K.lookup C=some (excClassObj nm q C N bs bm true sn sub ab col dd k0 k1 k2 k3 k5 "ValueError.__new__")/\W.tailIn K bmV bm=true
 init:W.findIn K (.ref C) "__init__"=some (some (.ref f))
 fn:W.typeIn K (.ref f)=some (.type "function")
 ga:W.findIn K (.ref C) "__getattribute__"=some (some (.builtin "BaseException.__getattribute__"))
 sa:W.findIn K (.ref C) "__setattr__"=some (some (.builtin "object.__setattr__"))
 gt:W.findIn K (.ref C) "__getattr__"=some none
 kp:W.keepIn K (.ref C)=true
 ov:∃cd,W.clsIn K C=some cd/\onlyV cd.mro=true/\cd.hasDict=true
 cl:W.findIn K (.ref C) "__class__"=some (some (.builtin "object.__class__"))
 cg:W.specialIn K (.builtin "object.__class__") "__get__"=some (some (.builtin "getset_descriptor.__get__"))
 ct:W.takesIn K (.builtin "object.__class__")=some true
 co:W.mroIn K C (.type "object")=some true
set_option tactic.hygienic true in
def xcls_of {K:W.Frag}{C f:Addr} (e:xcB K C f=true):XCls K C f:=by
 unfold xcB at e;split at e
 ·rename_i dd cd sl ho
  split at e
  ·rename_i C' bm k0 k1 k2 k3 n k5 hm hs
   simp only[u0,beq_iff_eq,Bool.not_eq_true'] at e;obtain⟨⟨⟨⟨⟨⟨⟨⟨⟨⟨⟨⟨⟨⟨⟨rfl,rfl⟩,hdel⟩,ht⟩,hdi⟩,e1⟩,e2⟩,e3⟩,e4⟩,e5⟩,e6⟩,e7⟩,e8⟩,e9⟩,e10⟩,e11⟩:=e;obtain⟨nm,bs,mro,ns,qn,hd,sn,sub,ab,col,del⟩:=cd;dsimp only at hm hdel hdi;subst hm hdel hdi;have hsl:sl=#[k0,k1,k2,k3,some (.builtin "ValueError.__new__"),k5]:=by
    obtain⟨l⟩:=sl;simp only at hs;rw[hs]
   subst hsl;exact⟨⟨bm,ns,nm,qn,bs,sn,sub,ab,col,dd,k0,k1,k2,k3,k5,ho,ht⟩,e1,e2,e3,e4,e5,e6,⟨_,by unfold W.clsIn;rw[ho],by show onlyV bm=true;exact e7,rfl⟩,e8,e9,e10,e11⟩
  ·cases e
 ·cases e
section
variable {prog:Program}{w:World}{A:Around}{K:W.Frag}{C f:Addr}{h:Heap}{g:Array GenState}{d:Drawn}{t:Nat}{os:OsState}{R:Result->Shared->Prop}
def v3q {rest:List Value} (X:K.In h) (c:XCls K C f) (hz:rest.length<=sizeLine)
  (hq:codeAny (model prog w) (A.under (.builtin "type.__call__" ⟨.ref C::rest,[]⟩)) (.call (.ref f) ⟨.ref (h.objs.size+1)::rest,[]⟩) (W.InitBack (h.objs.size+1) R) ⟨(h.push (tupO rest)).push (excO C h.objs.size none),g,d,t,os⟩) :
  codeAny (model prog w) A (.call (.ref C) ⟨rest,[]⟩) R ⟨h,g,d,t,os⟩:=by
 obtain⟨bm,N,nm,q,bs,sn,sub,ab,col,dd,k0,k1,k2,k3,k5,hK,ht⟩:=c.obj;have T:=W.tail_of_in X ht;have hC:=X _ _ hK;have FV:=PySem.F.excBase_ValueError;have b1:=tc_lookup;have b2:=tc_bind (.ref C);have b3:(⟨h,g,d,t,os⟩:Shared).TypeIs (.ref C) "type":=⟨_,hC,rfl⟩;refine codeAny_of_tree ?_;show wpAny _ _ (callAny (.ref C) _) _ _ _
 repeat (any_goals (first|assumption|with_reducible refine wpAny_loadPart_at hC ?_|wp_step))
 refine⟨rfl,?_⟩;refine codeAny_call_builtin_at (Code.quiet_builtin _ (by decide +kernel)) entry_typeCall (wpAny_check_type_call_sub hC ?_)
 repeat (first|with_reducible refine wpAny_loadPart_at hC ?_|with_reducible refine wpAny_madeBy_exc hC ?_|wp_step)
 refine codeAny_call_builtin_code (Code.quiet_builtin _ FV.quiet) (wpAny_check_new_subU FV (by decide +kernel) T hC ?_)
 refine codeAny_exc_new_subU FV (by decide +kernel) FV T hC ?_ hz
 show wpAny _ (A.under (Code.builtin "type.__call__" ⟨Value.ref C::rest,[]⟩)) _ _ _ ⟨(h.push (tupO rest)).push (excO C h.objs.size none),g,d,t,os⟩;have hk:∀b o,h.get? b=some o->((h.push (tupO rest)).push (excO C h.objs.size none)).get? b=some o:=λb o e=>z0 _ (z0 _ e)
 have X1:K.In ((h.push (tupO rest)).push (excO C h.objs.size none)):=X.keeps hk;have hg:((h.push (tupO rest)).push (excO C h.objs.size none)).get? (h.objs.size+1)=some (excO C h.objs.size none):=by heap_get
 have ty:W.Looks (model prog w) ((h.push (tupO rest)).push (excO C h.objs.size none)) (typeOf (.ref (h.objs.size+1))) (.ref C):=(W.Looks.ld hg).andThen .now;have hcC:(Value.ref C::bm).contains (.ref C)=true:=by simp
 have su:W.Looks (model prog w) ((h.push (tupO rest)).push (excO C h.objs.size none)) (isSubtype (.ref C) (.ref C)) true:=W.looks_mroIn X1 (by unfold W.mroIn W.clsIn;rw[hK];exact congrArg some hcC)
 have li:=W.looks_findIn (M:=model prog w) X1 c.init;have lb:=W.bind_fn (M:=model prog w) X1 (.ref (h.objs.size+1)) c.fn;unfold isInstance callSpecial? specialOf
 repeat (first|with_reducible refine wpAny_call ?_|lk)
 refine codeAny_mono hq λr s' z=>?_
 rcases r with e|(v|_|_|_)<;>first|exact z|exact z.elim|skip
 obtain⟨rfl,z⟩:=z;exact wpAny_pure (wpAny_pure z)
end
theorem u5v (self:Value):∀{l:List Value},onlyV l=true->refuseLoop self "__setattr__" l=pure ()
 | .ref c::r,e=>by
  rw[refuseLoop_ref];exact u5v self (l:=r) (by unfold onlyV at e;exact e)
 | [],e=>by cases (beq_iff_eq.mp (show(([]:List Value)==bmV)=true from e))
 | v::r,e=>by
  cases v<;>first
   | (unfold onlyV at e;rw[beq_iff_eq.mp e];kernel_rfl)
   | (rw[refuseLoop_ref];exact u5v self (l:=r) (by unfold onlyV at e;exact e))
theorem u1H:∀{l:List Value},onlyV l=true->l.contains (.type "BaseException")=true
 | .ref c::r,e=>by
  rw[List.contains_cons,u1H (l:=r) (by unfold onlyV at e;exact e),Bool.or_true]
 | [],e=>by cases (beq_iff_eq.mp (show(([]:List Value)==bmV)=true from e))
 | v::r,e=>by
  cases v<;>first
   | (unfold onlyV at e;rw[beq_iff_eq.mp e];decide +kernel)
   | (rw[List.contains_cons,u1H (l:=r) (by unfold onlyV at e;exact e),Bool.or_true])
theorem u4c:∀{l:List Value},onlyV l=true->l.contains (.type "object")=true
 | .ref c::r,e=>by
  rw[List.contains_cons,u4c (l:=r) (by unfold onlyV at e;exact e),Bool.or_true]
 | [],e=>by cases (beq_iff_eq.mp (show(([]:List Value)==bmV)=true from e))
 | v::r,e=>by
  cases v<;>first
   | (unfold onlyV at e;rw[beq_iff_eq.mp e];decide +kernel)
   | (rw[List.contains_cons,u4c (l:=r) (by unfold onlyV at e;exact e),Bool.or_true])
def ExAt (h:Heap) (e C:Addr) (dx:Option Addr):Prop:=∃t f1 f2 f3 f4 f5 sl,h.get? e=some { cls:=.ref C,dict:=dx,data:=.fields #[.ref t,f1,f2,f3,f4,f5],slots:=sl }
section
variable {prog:Program}{w:World}{A:Around}{E:VP}{s:Shared}{K:W.Frag}{e C f:Addr}{name:Str}{v:Value}{R:Result->Shared->Prop}
def exc_osa {ox:Obj}{od:Option Obj}{tk:Tok} (X:K.In s.heap) (c:XCls K C f) (I:W.InstAt s.heap e ox C od) (hn:W.findIn K (.ref C) name=some none)
  (h:∀ b,wpAny (model prog w) A.in1 (Builtin.ObjectAttr.storeInOwnDict (.ref e) (.ref C) (.str name tk) name v b)
   (λfin s'=>match fin with | .done f=>R (.ok f) s' | .again c'=>c'.quiet=true/\codeAny (model prog w) A c' R s') (λx s'=>R (.error x) s') s) :
  codeAny (model prog w) A (.call (.builtin "object.__setattr__") ⟨[.ref e,.str name tk,v],[]⟩) R s:=by
 have SF:=PySem.F.store_object;obtain⟨cd,hc,ho,_⟩:=c.ov;have ne:cd.mro.isEmpty=false:=by
  cases q:cd.mro with
  | nil=>rw[q] at ho;cases (beq_iff_eq.mp (show(([]:List Value)==bmV)=true from ho))
  | cons _ _=>rfl
 have sub:W.Looks (model prog w) s.heap (isInstance (.ref e) (.type "object")) true :=
  I.type.andThen (W.looks_mroIn X (by unfold W.mroIn;rw[hc,Option.bind_some,if_neg (by rw[ne];decide),u4c ho]))
 refine codeAny_call_builtin SF.slot.plain SF.entry (@W.check_slot (model prog w) _ _ s "object.__setattr__" "object" "__setattr__" (.ref e) [.str name tk,v] [] _ SF.kind SF.split sub (SF.args (.ref e) (.str name tk) v) ?_);have hm:W.Looks (model prog w) s.heap (mroOf (.ref C)) cd.mro:=(W.looks_clsIn X hc).andThen .now;rw[W.osa_eq,refuse_eq];refine wpAny_bind (wpAny_bind (I.type.here (wpAny_bind (hm.here ?_))));rw[u5v _ ho];refine wpAny_pure (wpAny_bind (I.type.here (wpAny_bind ((W.looks_findIn X hn).here (wpAny_bind (wpAny_pure (a:=none) ?_))))));exact h _
set_option maxHeartbeats 4000000 in
def exc_get {Q:VP}{expr:Bool}{dx:Addr}{mA:MG} (X:K.In s.heap) (c:XCls K C f) (he:ExAt s.heap e C (some dx)) (hm:s.heap.Ns1 dx mA) (hn:W.findIn K (.ref C) name=some none) (hv:mA name=some v)
  (hv':W.handedIn v=true) (h:Q v { s with toks:=s.toks+1 }):wpAny (model prog w) A (getAttr (.ref e) name expr) Q E s:=by
 obtain⟨t,f1,f2,f3,f4,f5,sl,he⟩:=he;obtain⟨od,hod,hl⟩:=u6C hm;have I:W.InstAt s.heap e _ C (some od):=⟨he,rfl,rfl,hod⟩;obtain⟨cd,hc,ho,hd⟩:=c.ov;have L0:=I.type (M:=model prog w);have L1:=W.looks_findIn (M:=model prog w) X c.ga;have L2:=W.looks_findIn (M:=model prog w) X c.gt;have hf:W.findObj K C (some od) name=some (.value v):=by
  unfold W.findObj;rw[hc,Option.bind_some,hn,Option.bind_some,Option.bind_some,Option.bind_some];show((W.ownOf cd (some od) name).bind _)=_;unfold W.ownOf;rw[if_pos hd];show((W.lookIn name od).bind _)=_;rw[hl,hv];rfl
 have L3:=W.looks_find (M:=model prog w) X I hf;obtain⟨hh,g,d,tt,os⟩:=s;unfold getAttr getAttrBy;refine wpAny_bind (wpAny_mkText (wpAny_holding (wpAny_bind (L0.at (wpAny_bind (L1.at ?_))))));have FA:=PySem.F.attr_ValueError;have ne:cd.mro.isEmpty=false:=by
  cases q:cd.mro with
  | nil=>rw[q] at ho;cases (beq_iff_eq.mp (show(([]:List Value)==bmV)=true from ho))
  | cons _ _=>rfl
 have sub:W.Looks (model prog w) hh (isInstance (.ref e) (.type "BaseException")) true :=
  L0.andThen (W.looks_mroIn X (by unfold W.mroIn;rw[hc,Option.bind_some,if_neg (by rw[ne];decide),u1H ho]))
 show wpAny _ _ (getAttrByItsOwn _ _ _ _ _ _) _ _ _;unfold getAttrByItsOwn;refine wpAny_bind (L2.at ?_);refine wpAny_bind (wpAny_attempt ?_);have hx0:(expr&&onTheHeap (Value.builtin "BaseException.__getattribute__"))=false:=by cases expr<;>rfl
 unfold callGetattribute;rw[if_neg (by rw[hx0];exact v6)]
 refine wpAny_holding ?_;unfold boundAndCalled;rw[FA.ga.bind];refine wpAny_bind (wpAny_pure (wpAny_call ?_));refine codeAny_call_builtin FA.ga.plain F.entry_bexc_ga (@W.check_slot (model prog w) _ _ ⟨hh,g,d,tt+1,os⟩ "BaseException.__getattribute__" "BaseException" "__getattribute__" (.ref e) [.str name tt] [] _ (by decide +kernel) (by decide +kernel) sub (F.args_bexc_ga (.ref e) (.str name tt)) ?_)
 show wpAny _ _ (Builtin.«object.__getattribute__» ⟨[.ref e,.str name tt],[]⟩) _ _ _;unfold Builtin.«object.__getattribute__»;refine wpAny_bind (wpAny_pure (a:=(Value.ref e,[Value.str name tt])) (wpAny_bind (wpAny_pure (a:=name) (wpAny_bind (L0.at (wpAny_bind (L3.at ?_)))))));refine wpAny_pure ?_;show wpAny _ _ (handedOut v) _ _ _;rw[W.handedOut_of hv'];exact wpAny_pure h
set_option maxHeartbeats 4000000 in
def v1s {Q:Option Value->Shared->Prop}{dx:Option Addr}{od:Option Obj}{ox:Obj} (X:K.In s.heap) (c:XCls K C f) (I:W.InstAt s.heap e ox C od) (h:Q (some (.ref C)) { s with toks:=s.toks+1 }) :
  wpAny (model prog w) A (getAttr? (.ref e) "__class__") Q E s:=by
 obtain⟨cd,hc,ho,hd⟩:=c.ov;have L0:=I.type (M:=model prog w);have L1:=W.looks_findIn (M:=model prog w) X c.ga;have L2:=W.looks_findIn (M:=model prog w) X c.gt;have hf:W.findObj K C od "__class__"=some (.bind (.builtin "getset_descriptor.__get__") (.builtin "object.__class__")):=by
  unfold W.findObj;rw[hc,Option.bind_some,c.cl,Option.bind_some];show((W.specialIn K (.builtin "object.__class__") "__get__").bind _)=_;rw[c.cg,Option.bind_some];show((W.takesIn K (.builtin "object.__class__")).bind _)=_;rw[c.ct,Option.bind_some]
 have L3:=W.looks_find (M:=model prog w) X I hf;have FA:=PySem.F.attr_ValueError;have ne:cd.mro.isEmpty=false:=by
  cases q:cd.mro with
  | nil=>rw[q] at ho;cases (beq_iff_eq.mp (show(([]:List Value)==bmV)=true from ho))
  | cons _ _=>rfl
 have sub:W.Looks (model prog w) s.heap (isInstance (.ref e) (.type "BaseException")) true :=
  L0.andThen (W.looks_mroIn X (by unfold W.mroIn;rw[hc,Option.bind_some,if_neg (by rw[ne];decide),u1H ho]))
 obtain⟨hh,g,d,tt,os⟩:=s;unfold getAttr? getAttrBy? getAttrBy;refine wpAny_bind (wpAny_mkText (wpAny_bind (wpAny_attempt (wpAny_holding (wpAny_bind (L0.at (wpAny_bind (L1.at ?_))))))));show wpAny _ _ (getAttrByItsOwn _ _ _ _ _ _) _ _ _;unfold getAttrByItsOwn;refine wpAny_bind (L2.at ?_);refine wpAny_bind (wpAny_attempt ?_);unfold callGetattribute;rw[if_neg (show ¬ (false&&onTheHeap (Value.builtin "BaseException.__getattribute__"))=true from v6)]
 refine wpAny_holding ?_;unfold boundAndCalled;rw[FA.ga.bind];refine wpAny_bind (wpAny_pure (wpAny_call ?_));refine codeAny_call_builtin FA.ga.plain F.entry_bexc_ga (@W.check_slot (model prog w) _ _ ⟨hh,g,d,tt+1,os⟩ "BaseException.__getattribute__" "BaseException" "__getattribute__" (.ref e) [.str "__class__" tt] [] _ (by decide +kernel) (by decide +kernel) sub (F.args_bexc_ga (.ref e) (.str "__class__" tt)) ?_)
 show wpAny _ _ (Builtin.«object.__getattribute__» ⟨[.ref e,.str "__class__" tt],[]⟩) _ _ _;unfold Builtin.«object.__getattribute__»;refine wpAny_bind (wpAny_pure (a:=(Value.ref e,[Value.str "__class__" tt])) (wpAny_bind (wpAny_pure (a:=Str.ofString "__class__") (wpAny_bind (L0.at (wpAny_bind (L3.at ?_)))))));show wpAny _ _ (holding [_] (call _ [_,.ref e,.ref C]) >>= ret) _ _ _;refine wpAny_bind (wpAny_holding (wpAny_call (W.class_get (s:=⟨hh,g,d,tt+1,os⟩) (ox:=ox) (od:=od) X I c.co ?_)));refine wpAny_pure ?_;show wpAny _ _ (handedOut (.ref C)) _ _ _;exact wpAny_pure (wpAny_pure h)
def v2Z {dx:Option Addr}{od:Option Obj} (c:XCls K C f):W.KitX K (.ref e) (.ref C) (λh=>∃ox od,W.InstAt h e ox C od) where
 ty:=λ_ _ _ ⟨_,_,I⟩=>I.type
 it:=λ_ _ X _=>by
  obtain⟨bm,N,nm,q,bs,sn,sub,ab,col,dd,k0,k1,k2,k3,k5,hK,ht⟩:=c.obj;intro A' Q' E' s' k q;unfold isType loadHead;exact wpAny_bind (wpAny_loadPart (k _ _ (X _ _ hK)) (wpAny_pure q))
 ne:=λh tp dd its n sl X htp=>by
  obtain⟨bm,N,nm,q,bs,sn,sub,ab,col,dd,k0,k1,k2,k3,k5,hK,ht⟩:=c.obj;refine Bool.eq_false_iff.mpr λq=>?_
  have ee:C=tp:=Value.ref.inj (beq_iff_eq.mp q);subst ee;have z:=congrArg Obj.cls (Option.some.inj ((X _ _ hK).symm.trans htp));exact absurd (Value.type.inj z) (by decide)
 ca:=λX z985 k=>by obtain⟨_,_,I⟩:=z985;exact v1s (dx:=none) X c I k
end
noncomputable def XO (C:Addr) (dx:Option Addr) (e:Addr):HO:=.ext λh=>ExAt h e C dx
noncomputable def DXO (dx:Addr) (fs:List (Str×V)):HO:=.ext λh=>∃mA,h.Ns1 dx mA/\(∀f,RelO (fs.lookup f) (mA f))/\PySem.Within mA (fs.map (·.1))
section
variable {P:Program}{w:World}{H:Hp}{h:Heap}{e C dx:Addr}{d:Option Addr}{fs:List (Str×V)}
def xo_ok (x:ExAt h e C d):ObjOk P w H h e (XO C d e) :=
 ⟨x,by obtain⟨_,_,_,_,_,_,_,q⟩:=x;exact⟨_,q⟩,λh1 h2 z986 k=>by obtain⟨t,f1,f2,f3,f4,f5,sl,q⟩:=z986;exact⟨t,f1,f2,f3,f4,f5,sl,k _ q⟩⟩
def v4f {mA:MG} (n:h.Ns1 dx mA) (r:∀f,RelO (fs.lookup f) (mA f)) (z:PySem.Within mA (fs.map (·.1))):ObjOk P w H h dx (DXO dx fs) :=
 ⟨⟨mA,n,r,z⟩,by obtain⟨o,_,_,q,_⟩:=n;exact⟨o,q⟩,λh1 h2 z987 k=>by obtain⟨m,a,b,c⟩:=z987;exact⟨m,a.at k,b,c⟩⟩
def v2b (x:HOk P w H h) (q:H e=some (XO C d e)):ExAt h e C d:=(show ObjOk P w H h e (XO C d e) from x e _ q).1
def dxo_at (x:HOk P w H h) (q:H dx=some (DXO dx fs)):∃mA,h.Ns1 dx mA/\(∀f,RelO (fs.lookup f) (mA f))/\PySem.Within mA (fs.map (·.1)):=(show ObjOk P w H h dx (DXO dx fs) from x dx _ q).1
def ExAt.inst (x:ExAt h e C (some dx)) {od:Obj} (q:h.get? dx=some od):∃ox,W.InstAt h e ox C (some od):=by obtain⟨t,f1,f2,f3,f4,f5,sl,z⟩:=x;exact⟨_,z,rfl,rfl,q⟩
end
section
variable {X:Cx}{pins:LO}{σ:St}{H:Hp}{s:Shared}{a C dx fI:Addr}{fs:List (Str×V)}{f:Str}{v:V}{A:Around}{E:VP}
def xget_ok {b:Bool}{Q:VP} (I:Inv X pins σ H s) (e:H a=some (XO C (some dx) a)) (ed:H dx=some (DXO dx fs)) (c:XCls X.K C fI) (n:NoAttr X.K C f) (l:fs.lookup f=some v)
  (h:∀u s',Inv X pins σ H s'->RelV v u->Q u s'):wpAny (model X.prog X.w) A (getAttr (.ref a) f b) Q E s:=by
 obtain⟨mA,nA,r,_⟩:=dxo_at I.hok ed;obtain⟨u,hu,ru⟩:=RelO.some_of (v:=v) (o:=mA f) (by rw[<- l];exact r f)
 exact exc_get I.kIn c (v2b I.hok e) nA n hu (u6J ru) (h u _ (I.tok _) ru)
end
section
variable {X:Cx}{e o value:Expr}{es:List Expr}{ta tv te:TE}{t:TA}{f x:Str}{p pos pos':Pos}{C fI:Addr}{fd:FuncData}{ps:List Str}{sp:Sp}{k:Nat}{v:V}
def tXFld (K:W.Frag) (ta:TE) (f:Str):TE:=λσ H Q=>ta σ H λx H1=>∃a C fI dx fs v,x=.ref a/\H1 a=some (XO C (some dx) a)/\H1 dx=some (DXO dx fs)/\XCls K C fI/\NoAttr K C f/\fs.lookup f=some v/\Q v H1
def pe_xfld (he:PE X e ta) (hb:attributeBase e f X.env (eval e X.env)=eval e X.env):PE X (.Attribute e f pos) (tXFld X.K ta f):=by
 intro pins s σ H Q I h;refine v1V hb (thn (he pins s σ H _ I h) λu s1 z988=>?_)
 obtain⟨x,H1,I1,rx,a,C,fI,dx,fs,v,ex,ea,ed,c,n,l,q⟩:=z988;subst ex;obtain rfl:u=Value.ref a:=rx;exact xget_ok I1 ea ed c n l λu' s2 I2 ru=>⟨v,H1,I2,ru,q⟩
end
section
variable {X:Cx}{pins:LO}{σ:St}{H:Hp}{s:Shared}{h':Heap}
def Inv.turned2 {t':Nat}{e it p:Addr}{ys:List V} (I:Inv X pins σ H s) (k:∀b o,b≠e->b≠it->s.heap.get? b=some o->h'.get? b=some o) (f1:FpOk X pins H e) (f2:FpOk X pins H it) (hp:s.heap.objs.size<=p)
  (new:ObjOk X.prog X.w (upd H p (.tup ys)) h' p (.tup ys)):Inv X pins σ (upd H p (.tup ys)) { s with heap:=h',toks:=t' }:=by
 have hfr:H p=none:=I.hok.fresh hp;have nin:∀b u,H b=some u->b≠e/\b≠it:=λb u q=>⟨(λz=>by rw[z,f1.1] at q;cases q),(λz=>by rw[z,f2.1] at q;cases q)⟩
 have nch:∀b,b∉[e,it]->b≠e/\b≠it:=λb hb=>⟨λz=>hb (by simp[z]),λz=>hb (by simp[z])⟩
 refine I.call' (ch:=[e,it]) rfl ⟨λb o q n _ hx=>k b o (nch b hx).1 (nch b hx).2 q,λb o q n _ hx=>⟨o.slots,k b o (nch b hx).1 (nch b hx).2 q⟩,λb o q n _=>?_,λb o q hx=>⟨o,k b o (nch b hx).1 (nch b hx).2 q⟩,λb xs q=>?_,λb o u q=>?_,λb ps q=>⟨#[],?_⟩⟩ ?_ I.bare λb hb=>?_
 ·rw[u0j (by rintro rfl;exact absurd (z8 q) (Nat.not_lt.mpr hp))];exact n
 ·rw[u0j (u0o q hfr)];exact q
 ·rw[u0j (u0o q hfr)];exact q
 ·rw[u0j (u0o q hfr),q];simp
 ·intro b u q
  by_cases hb:b=p
  ·subst hb;rw[u0g] at q;cases q;exact new
  ·rw [u0j hb] at q
   refine(I.hok b u q).stay (λc v hc z=>?_) (λc z=>by rw[u0j (u0o z hfr)];exact z) λc xs z=>by rw[u0j (u0o z hfr)];exact z
   rcases hc with rfl|hc
   ·exact k c v (nin c u q).1 (nin c u q).2 z
   ·exact k c v (nin c _ hc).1 (nin c _ hc).2 z
 ·rcases y0.mp hb with rfl | hb
  ·exact⟨f1.2.2.2.1,f1.2.1,f1.2.2.2.2.1,f1.2.2.2.2.2⟩
  ·obtain rfl:b=it:=by simpa using hb
   exact⟨f2.2.2.2.1,f2.2.1,f2.2.2.2.2.1,f2.2.2.2.2.2⟩
end
def Ite (K:W.Frag) (a:Addr):It :=
 ⟨λi H=>∃xs x,SqL K H a xs/\xs[i]?=some x,λi H y H'=>∃p x,H p=none/\y=.ref p/\H'=upd H p (.tup [.int i,x])/\∀xs,SqL K H a xs->xs[i]?=some x,λi H=>∃xs,SqL K H a xs/\xs.length<=i⟩
def u5Z {P:Program}{w:World}{K:W.Frag}{es:List Expr}{k:Nat}{pos:Pos} (a e it:Addr) (hne:e≠it) :
  Turn P w K (.Tuple es k pos) (Ite K a) [e,it] e (λi h=>(∃old,IsEnum h e it (i:Int) old)/\h.IsListIter it a i) where
 mem:=by simp
 obj:=λi h st b hb=>by
  obtain⟨⟨old,q⟩,o,e2,c,d⟩:=st;rcases y0.mp hb with rfl|hb
  ·exact⟨_,q,λv z=>by cases z⟩
  ·obtain rfl:b=it:=by simpa using hb
   exact⟨o,e2,λv z=>by rw[d] at z;cases z⟩
 keep:=λi h h' st k=>⟨by obtain⟨old,q⟩:=st.1;exact⟨old,k e (by simp) _ q⟩,st.2.at λo q=>k it (by simp) o q⟩
 item:=by
  intro X hP hw hK hc i pins s σ H E I hf st hg;subst hP hw hK;obtain⟨xs,x,hq,hx⟩:=hg;obtain⟨its,rv,p,hz⟩:=I.list hq;obtain⟨u,hu,ru⟩:=rv.get hx;obtain⟨⟨old,he⟩,hl⟩:=st;have f1:=hf e (by simp)
  have f2:=hf it (by simp)
  have hel:e<s.heap.objs.size:=z8 he;refine wpAny_pyNext_enum_item he hl p.isList (x:=u) (by simpa using hu) hne λh1 eo li ht hsz kk=>⟨_,rfl,?_⟩
  refine wpAny_letOwnedTupleGo_enum (s:={ s with heap:=h1,toks:=s.toks+1 }) eo λh2 en sb=>?_
  have hpe:s.heap.objs.size≠e:=Nat.ne_of_gt hel;have hfr:H s.heap.objs.size=none:=I.hok.fresh (z7 _);have k2:∀b o,b≠e->b≠it->s.heap.get? b=some o->h2.get? b=some o:=λb o hb hi q=>(sb.2 b hb).trans (kk b o hb hi q)
  have ht2:h2.get? s.heap.objs.size=some { cls:=.type "tuple",data:=.seq #[.int i s.toks,u] }:=(sb.2 _ hpe).trans ht;have I2:=I.turned2 (t':=s.toks+1) (p:=s.heap.objs.size) (ys:=[.int i,x]) k2 f1 f2 (z7 _) ⟨by show 2<=sizeLine;decide,[.int i s.toks,u],.cons ⟨_,rfl⟩ (.cons ru .nil),⟨_,ht2,rfl,_,rfl⟩⟩
  have en':IsEnum h2 e it (((i+1:Nat):Int)) u:=by
   have:((i+1:Nat):Int)=(i:Int)+1:=by omega
   rw[this];exact en
  refine⟨.ref s.heap.objs.size,_,I2,rfl,⟨s.heap.objs.size,x,hfr,rfl,rfl,λys hy=>by rw[I.list_inj hy hq];exact hx⟩,⟨⟨u,en'⟩,?_⟩,λb hb=>?_⟩
  ·obtain ⟨o,q,r⟩:=li
   exact⟨o,(sb.2 it (Ne.symm hne)).trans q,r⟩
  ·have hb':b<s.heap.objs.size:=by
    rcases y0.mp hb with rfl|hb
    ·exact hel
    ·obtain rfl:b=it:=by simpa using hb
     obtain⟨o,q,_⟩:=hl;exact z8 q
   rw[u0j (x0 hb')];exact(hf b hb).1
 done:=by
  intro X hP hw hK hc i pins s σ H E I hf st hg;subst hP hw hK;obtain⟨xs,hq,hx⟩:=hg;obtain⟨its,rv,p,hz⟩:=I.list hq;obtain⟨⟨old,he⟩,hl⟩:=st;obtain⟨f0,f1,f2,f3,f4,f5⟩:=hf it (by simp)
  have hlen:=rv.length;exact wpAny_pyNext_enum_end (I.ok.hd hc) he hl p.isList (by simp;omega) λh' eb=>⟨rfl,I.turned (t':=s.toks) (λb o hb q=>eb b o hb q) f0 f1 f3 f4 f5⟩
 self:=λ_ _ _ _ _ st h=>by
  obtain⟨⟨old,he⟩,_⟩:=st;exact wpAny_pyIter_enum he h
def iEnum (K:W.Frag) (ta:TA):TI:=λσ H R=>ta σ H λvs H1=>∃a xs,vs=[.ref a]/\SqL K H1 a xs/\R (Ite K a) H1
section
variable {X:Cx}{a:Expr}{ta:TA}{p pos tp:Pos}{es:List Expr}{k:Nat}
def pi_enum (hg:Gl X "enumerate") (hm:X.mg "enumerate"=none) (ha:PA X [a] ta) (hs:starEach [a] X.env=[(false,eval a X.env)]:=by rfl):PI X (.Tuple es k tp) (.Call (.Name "enumerate" p) [a] [] pos) (iEnum X.K ta):=by
 intro pins s σ H R I h;refine Call_ (u3s I hg hm (show bootBuiltins "enumerate"=some (.type "enumerate") by decide +kernel) (PyProof.Rows.callWith_type1 (thn (ha pos pins s σ H _ I h) λus s1 ⟨vs,H1,I1,r1,q1⟩=>?_) hs rfl))
 obtain⟨a',xs,e,hq,q⟩:=q1;subst e;obtain⟨u,rfl,ru⟩:=vals1 r1;cases ru;obtain⟨its,rv,pl,hz⟩:=I1.list hq;refine call_enumerate_list pl.isList λh' en li hsz kk=>?_
 refine wpAny_pyIter_enum en ?_;have hne:s1.heap.objs.size+1≠s1.heap.objs.size:=Nat.succ_ne_self _;refine⟨s1.heap.objs.size+1,[s1.heap.objs.size+1,s1.heap.objs.size],_,Ite X.K a',H1,rfl,I1.kept (t':=s1.toks) kk,u5Z a' _ _ hne,⟨⟨_,en⟩,li⟩,λb hb=>?_,q⟩
 have hb':s1.heap.objs.size<=b:=by
  rcases y0.mp hb with rfl|hb
  ·exact Nat.le_succ _
  ·have e:b=s1.heap.objs.size:=by simpa using hb
   rw[e];exact z7 _
 exact I1.fpOk hb' (I1.hok.fresh hb')
end
def un5 {α β γ:Type}{p q:α->β->γ->Prop}{r:Prop} (h:∃a b c,p a b c/\q a b c) (k:∀a b c,p a b c->q a b c->r):r:=by obtain⟨a,b,c,x,y⟩:=h;exact k a b c x y
inductive DK where
 | i (n:Int)|s (z:Str)|t (ks:List DK)
noncomputable instance:DecidableEq DK:=λa b=>_root_.Classical.propDecidable (a=b)
inductive D where
 | non|bl (b:Bool)|int (i:Int)|str (z:Str)|ty (T:String)
 | lst (ds:List D)|tup (ds:List D)|dct (kvs:List (D×D))|ins (C:Addr) (fs:List (Str×D))|exc (C:Addr) (fs:List (Str×D))|dn (hs:List DK->Int) (kvs:List (List DK×D))|hdl (a:Addr)
inductive Res (α:Type) where
 | ok (a:α)|err (x:D)|bad
namespace Res
noncomputable def bind {α β:Type}:Res α->(α->Res β)->Res β
 | .ok a,f=>f a
 | .err x,_=>.err x
 | .bad,_=>.bad
def all {α:Type} (r:Res α) (P:α->Prop) (E:D->Prop):Prop:=match r with
 | .ok a=>P a
 | .err x=>E x
 | .bad=>False
@[simp] theorem bind_ok {α β:Type} (a:α) (f:α->Res β):(Res.ok a).bind f=f a:=rfl
@[simp] theorem bind_err {α β:Type} (x:D) (f:α->Res β):(Res.err x).bind f=.err x:=rfl
@[simp] theorem bind_bad {α β:Type} (f:α->Res β):Res.bad.bind f=.bad:=rfl
def all_bind {α β:Type}{r:Res α}{f:α->Res β}{P:β->Prop}{E:D->Prop}:(r.bind f).all P E↔r.all (λa=>(f a).all P E) E:=by
 cases r<;>exact Iff.rfl
def all_mono {α:Type}{r:Res α}{P Q:α->Prop}{E F:D->Prop} (h:r.all P E) (p:∀a,P a->Q a) (e:∀x,E x->F x):r.all Q F:=by
 cases r with
 | ok a=>exact p a h
 | err x=>exact e x h
 | bad=>exact h
end Res
noncomputable def kD:Key->D
 | .inl i=>.int i
 | .inr z=>.str z
mutual
noncomputable def DK.toD:DK->D
 | .i n=>.int n
 | .s z=>.str z
 | .t ks=>.tup (DK.toDs ks)
noncomputable def DK.toDs:List DK->List D
 | []=>[]
 | k::ks=>k.toD::DK.toDs ks
end
mutual
noncomputable def DK.py:DK->PyData
 | .i n=>.int n
 | .s z=>.str z
 | .t ks=>.tuple (DK.pys ks)
noncomputable def DK.pys:List DK->List PyData
 | []=>[]
 | k::ks=>k.py::DK.pys ks
end
mutual
noncomputable def DK.dep:DK->Nat
 | .i _=>0
 | .s _=>0
 | .t ks=>DK.deps ks+1
noncomputable def DK.deps:List DK->Nat
 | []=>0
 | k::ks=>max k.dep (DK.deps ks)
end
noncomputable def okK (k:List DK):Bool:=decide ((DK.t k).dep<=8)&&SeqAt.shaped (DK.t k).py
noncomputable def NDO (a:Addr) (hs:List DK->Int) (xs:List (List DK×Addr×Value)):HO:=.ext λh=>∃o es ep,h.get? a=some o/\o.ExactDict/\o.data=.dict es ep/\es.toList=xs.map (λx=>⟨hs x.1,.ref x.2.1,x.2.2⟩)/\(xs.map (·.1)).Nodup/\xs.length<=sizeLine/\(a==sysModules)=false
mutual
inductive Rp (K:W.Frag) (H:Hp):V->D->Prop
 | non:Rp K H .non .non
 | bl (b:Bool):Rp K H (.bl b) (.bl b)
 | int (i:Int):Rp K H (.int i) (.int i)
 | str {z:Str} (h:z.length<=sizeLine):Rp K H (.str z) (.str z)
 | ty (T:String):Rp K H (.ty T) (.ty T)
 | lst {a:Addr}{xs:List V}{ds:List D}:Rd H a (.lst xs)->Rps K H xs ds->Rp K H (.ref a) (.lst ds)
 | tup {a:Addr}{xs:List V}{ds:List D}:SqT K H a xs->Rps K H xs ds->Rp K H (.ref a) (.tup ds)
 | dK {a:Addr}{kvs:List (Key×V)}{ps:List (D×D)}:H a=some (.dK kvs)->Rpk K H kvs ps->Rp K H (.ref a) (.dct ps)
 | ins {a C dx:Addr}{fs:List (Str×V)}{gs:List (Str×D)}:H a=some (.ins C dx fs)->Rpf K H fs gs->Rp K H (.ref a) (.ins C gs)
 | exc {a C dx:Addr}{fs:List (Str×V)}{gs:List (Str×D)}:H a=some (XO C (some dx) a)->H dx=some (DXO dx fs)->Rpf K H fs gs->Rp K H (.ref a) (.exc C gs)
 | dn {a:Addr}{hs:List DK->Int}{xs:List (List DK×Addr×Value)}{kvs:List (List DK×D)}:H a=some (NDO a hs xs)->Rpn K H xs kvs->Rp K H (.ref a) (.dn hs kvs)
 | hdl (a:Addr):Rp K H (.ref a) (.hdl a)
inductive Rps (K:W.Frag) (H:Hp):List V->List D->Prop
 | nil:Rps K H [] []
 | cons {x:V}{d:D}{xs:List V}{ds:List D}:Rp K H x d->Rps K H xs ds->Rps K H (x::xs) (d::ds)
inductive Rpk (K:W.Frag) (H:Hp):List (Key×V)->List (D×D)->Prop
 | nil:Rpk K H [] []
 | cons {k:Key}{x:V}{d:D}{xs:List (Key×V)}{ds:List (D×D)}:Rp K H x d->Rpk K H xs ds->Rpk K H ((k,x)::xs) ((kD k,d)::ds)
inductive Rpf (K:W.Frag) (H:Hp):List (Str×V)->List (Str×D)->Prop
 | nil:Rpf K H [] []
 | cons {k:Str}{x:V}{d:D}{xs:List (Str×V)}{ds:List (Str×D)}:Rp K H x d->Rpf K H xs ds->Rpf K H ((k,x)::xs) ((k,d)::ds)
inductive Rpn (K:W.Frag) (H:Hp):List (List DK×Addr×Value)->List (List DK×D)->Prop
 | nil:Rpn K H [] []
 | cons {k:List DK}{q:Addr}{u:Value}{x:V}{d:D}{xs:List (List DK×Addr×Value)}{ds:List (List DK×D)}:okK k=true->Rp K H (.ref q) (DK.t k).toD->RelV x u->Rp K H x d->Rpn K H xs ds->Rpn K H ((k,q,u)::xs) ((k,d)::ds)
end
section
variable {K:W.Frag}{H H':Hp}
def Rd.same (e:Same H H') {a:Addr}{u:HO} (h:Rd H a u):Rd H' a u:=by
 rcases h with h|⟨o,h⟩
 ·exact .inl (e _ _ h)
 ·exact .inr ⟨o,e _ _ h⟩
mutual
theorem Rp.same (e:Same H H'):∀{x:V}{d:D},Rp K H x d->Rp K H' x d
 | _,_,.non=>.non
 | _,_,.bl b=>.bl b
 | _,_,.int i=>.int i
 | _,_,.str h=>.str h
 | _,_,.ty T=>.ty T
 | _,_,.lst hq hs=>.lst (hq.same e) (Rps.same e hs)
 | _,_,.tup hq hs=>.tup (e.seqT hq) (Rps.same e hs)
 | _,_,.dK hq hs=>.dK (e _ _ hq) (Rpk.same e hs)
 | _,_,.ins hq hs=>.ins (e _ _ hq) (Rpf.same e hs)
 | _,_,.exc hq hr hs=>.exc (e _ _ hq) (e _ _ hr) (Rpf.same e hs)
 | _,_,.dn hq hs=>.dn (e _ _ hq) (Rpn.same e hs)
 | _,_,.hdl a=>.hdl a
theorem Rps.same (e:Same H H'):∀{x:List V}{d:List D},Rps K H x d->Rps K H' x d
 | _,_,.nil=>.nil
 | _,_,.cons h hs=>.cons (Rp.same e h) (Rps.same e hs)
theorem Rpk.same (e:Same H H'):∀{x:List (Key×V)}{d:List (D×D)},Rpk K H x d->Rpk K H' x d
 | _,_,.nil=>.nil
 | _,_,.cons h hs=>.cons (Rp.same e h) (Rpk.same e hs)
theorem Rpf.same (e:Same H H'):∀{x:List (Str×V)}{d:List (Str×D)},Rpf K H x d->Rpf K H' x d
 | _,_,.nil=>.nil
 | _,_,.cons h hs=>.cons (Rp.same e h) (Rpf.same e hs)
theorem Rpn.same (e:Same H H'):∀{x:List (List DK×Addr×Value)}{d:List (List DK×D)},Rpn K H x d->Rpn K H' x d
 | _,_,.nil=>.nil
 | _,_,.cons o h r h2 hs=>.cons o (Rp.same e h) r (Rp.same e h2) (Rpn.same e hs)
end
theorem Rps.length:∀{xs:List V}{ds:List D},Rps K H xs ds->xs.length=ds.length
 | _,_,.nil=>rfl
 | _,_,.cons _ hs=>congrArg (·+1) hs.length
theorem Rps.get:∀{xs:List V}{ds:List D}{i:Nat}{d:D},Rps K H xs ds->ds[i]?=some d->∃x,xs[i]?=some x/\Rp K H x d
 | _,_,0,_,.cons h _,e=>by cases e;exact⟨_,rfl,h⟩
 | _,_,i+1,_,.cons _ hs,e=>hs.get (i:=i) (by simpa using e)
theorem Rps.append:∀{xs ys:List V}{ds es:List D},Rps K H xs ds->Rps K H ys es->Rps K H (xs++ys) (ds++es)
 | _,_,_,_,.nil,h=>h
 | _,_,_,_,.cons h hs,h'=>.cons h (hs.append h')
theorem Rps.take:∀{xs:List V}{ds:List D} (n:Nat),Rps K H xs ds->Rps K H (xs.take n) (ds.take n)
 | _,_,0,_=>by simpa using Rps.nil
 | _,_,_+1,.nil=>by simpa using Rps.nil
 | _,_,n+1,.cons h hs=>by simpa using Rps.cons h (hs.take n)
theorem Rps.drop:∀{xs:List V}{ds:List D} (n:Nat),Rps K H xs ds->Rps K H (xs.drop n) (ds.drop n)
 | _,_,0,h=>h
 | _,_,_+1,.nil=>by simpa using Rps.nil
 | _,_,n+1,.cons _ hs=>by simpa using hs.drop n
theorem Rps.rep {xs:List V}{ds:List D} (h:Rps K H xs ds):∀n:Nat,Rps K H (List.replicate n xs).flatten (List.replicate n ds).flatten
 | 0=>.nil
 | n+1=>by simpa[List.replicate_succ] using h.append (h.rep n)
theorem Rpf.lookup:∀{fs:List (Str×V)}{gs:List (Str×D)}{f:Str}{d:D},Rpf K H fs gs->gs.lookup f=some d->∃v,fs.lookup f=some v/\Rp K H v d
 | _,_,f,d,.cons (k:=k) h hs,e=>by
  rw[v8] at e |-
  cases q:f==k with
  | true=>rw[q] at e;cases e;exact⟨_,rfl,h⟩
  | false=>rw[q] at e;exact hs.lookup e
end
structure Stp (F H F' H':Hp):Prop where
 ff:Same F F'
 fh:Same F' H'
 hh:Same H H'
 no:∀a,F a=none->H a≠none->F' a=none
 nz:∀a o u,F' a=some (.frz o u)->F a=some (.frz o u)
section
variable {F H F' H' F'' H'':Hp}{a:Addr}{o:HO}
theorem Stp.refl (h:Same F H):Stp F H F H:=⟨Same.refl F,h,Same.refl H,λ_ q _=>q,λ_ _ _ q=>q⟩
def u2d (e:Same H H') {a:Addr} (h:H a≠none):H' a≠none:=by
 intro q;cases z:H a with
 | none=>exact h z
 | some o=>rw[e a o z] at q;cases q
theorem Stp.trans (x:Stp F H F' H') (y:Stp F' H' F'' H''):Stp F H F'' H'' :=
 ⟨x.ff.trans y.ff,y.fh,x.hh.trans y.hh,λa q r=>y.no a (x.no a q r) (u2d x.hh r),λa o u q=>x.nz a o u (y.nz a o u q)⟩
def v2r (h:Same F H):Same (upd F a o) (upd H a o):=λb u e=>by
 unfold upd at e |-
 by_cases q:b=a
 ·rw[if_pos q] at e |-;exact e
 ·rw[if_neg q] at e |-;exact h b u e
def u0h (h:F a=none):Same F (upd F a o):=λb u e=>by
 unfold upd;by_cases q:b=a
 ·subst q;rw[h] at e;cases e
 ·rw[if_neg q];exact e
def NoZ (o:HO):Prop:=∀x u,o≠.frz x u
def Stp.new (h:Same F H) (n:H a=none) (z:NoZ o:=by intro _ _ q;cases q):Stp F H (upd F a o) (upd H a o) :=
 ⟨u0h (h.free n),v2r h,u0h n,λb q r=>by
  unfold upd;by_cases z:b=a
  ·subst z;exact absurd n r
  ·rw[if_neg z];exact q,λb x u q=>by
  unfold upd at q;by_cases c:b=a
  ·rw[if_pos c] at q;exact absurd (Option.some.inj q) (z x u)
  ·rw[if_neg c] at q;exact q⟩
def v0b {F0 F':Hp}{a:Addr}{h:HO} (z:NoZ h) (k:∀b x u,F' b=some (.frz x u)->F0 b=some (.frz x u)):∀b x u,upd F' a h b=some (.frz x u)->F0 b=some (.frz x u):=λb x u q=>by
 unfold upd at q;by_cases c:b=a
 ·rw[if_pos c] at q;exact absurd (Option.some.inj q) (z x u)
 ·rw[if_neg c] at q;exact k b x u q
def Stp.only (h:Same F H) (e:Same H H'):Stp F H F H':=⟨Same.refl F,h.trans e,e,λ_ q _=>q,λ_ _ _ q=>q⟩
end
inductive OD where
 | l (ds:List D)|d (kvs:List (D×D))|i (a C:Addr) (gs:List (Str×D))|n (hs:List DK->Int) (kvs:List (List DK×D))|p (a:Addr) (o:OD)
noncomputable def OD.toD:OD->D
 | .l ds=>.lst ds
 | .d kvs=>.dct kvs
 | .i _ C gs=>.ins C gs
 | .n hs kvs=>.dn hs kvs
 | .p _ o=>o.toD
inductive Ro (K:W.Frag) (F:Hp) (a:Addr):HO->OD->Prop
 | l {xs:List V}{ds:List D}:Rps K F xs ds->Ro K F a (.lst xs) (.l ds)
 | d {kvs:List (Key×V)}{ps:List (D×D)}:Rpk K F kvs ps->Ro K F a (.dK kvs) (.d ps)
 | i {C dx:Addr}{fs:List (Str×V)}{gs:List (Str×D)}:Rpf K F fs gs->Ro K F a (.ins C dx fs) (.i a C gs)
 | n {hs:List DK->Int}{xs:List (List DK×Addr×Value)}{kvs:List (List DK×D)}:Rpn K F xs kvs->Ro K F a (NDO a hs xs) (.n hs kvs)
 | p {h:HO}{o:OD}:Ro K F a h o->Ro K F a h (.p a o)
theorem Ro.same {K:W.Frag}{F F':Hp}{a:Addr} (e:Same F F') {h:HO}{o:OD} (r:Ro K F a h o):Ro K F' a h o:=by
 induction r with
 | l r=>exact .l (Rps.same e r)
 | d r=>exact .d (Rpk.same e r)
 | i r=>exact .i (Rpf.same e r)
 | n r=>exact .n (Rpn.same e r)
 | p _ ih=>exact .p ih
def Ro.nz {K:W.Frag}{F:Hp}{a:Addr}{h:HO}{o:OD} (r:Ro K F a h o):NoZ h:=by
 induction r with
 | p _ ih=>exact ih
 | _=>intro _ _ q;cases q
def Ro.rp {K:W.Frag}{F:Hp}{a:Addr}{h:HO}{o:OD} (r:Ro K F a h o) (e:F a=some h):Rp K F (.ref a) o.toD:=by
 induction r with
 | l r=>exact .lst (.inl e) r
 | d r=>exact .dK e r
 | i r=>exact .ins e r
 | n r=>exact .dn e r
 | p _ ih=>exact ih e
inductive Sl where
 | val (d:D)|own (o:OD)
abbrev Rho:=List (Option Sl)
structure Rel (K:W.Frag) (B:Hp×Hp) (ρ:Rho) (σ:St) (F H:Hp):Prop where
 st:Stp B.1 B.2 F H
 len:σ.length=ρ.length
 val:∀(i:Nat) d,ρ[i]?=some (some (.val d))->∃v,σ[i]?=some (some v)/\Rp K F v d
 own:∀(i:Nat) o,ρ[i]?=some (some (.own o))->∃a h,σ[i]?=some (some (.ref a))/\F a=none/\B.2 a=none/\H a=some h/\Ro K F a h o
 dis:∀(i j:Nat) o u a,ρ[i]?=some (some (.own o))->ρ[j]?=some (some (.own u))->σ[i]?=some (some (.ref a))->σ[j]?=some (some (.ref a))->i=j
noncomputable def frzS:Sl->Sl
 | .val d=>.val d
 | .own o=>.val o.toD
noncomputable def frz (ρ:Rho):Rho:=ρ.map (Option.map frzS)
section
variable {K:W.Frag}{B:Hp×Hp}{ρ:Rho}{σ:St}{F H F' H':Hp}
theorem Rel.fh (r:Rel K B ρ σ F H):Same F H:=r.st.fh
def Rel.step (r:Rel K B ρ σ F H) (s:Stp F H F' H'):Rel K B ρ σ F' H' where
 st:=r.st.trans s
 len:=r.len
 val i d e:=let ⟨v,h1,h2⟩:=r.val i d e;⟨v,h1,h2.same s.ff⟩
 own i o e:=let ⟨a,h,h1,h2,h3,h4,h5⟩:=r.own i o e;⟨a,h,h1,s.no a h2 (by rw[h4];simp),h3,s.hh a h h4,Ro.same s.ff h5⟩
 dis:=r.dis
def u7J {i:Nat}{x:Sl} (h:(frz ρ)[i]?=some (some x)):∃y,ρ[i]?=some (some y)/\x=frzS y:=by
 unfold frz at h;rw[y4] at h;cases q:ρ[i]? with
 | none=>rw[q] at h;cases h
 | some z =>
  rw[q] at h;cases z with
  | none=>simp at h
  | some y=>simp at h;exact⟨y,rfl,h.symm⟩
open Classical in
theorem Rel.frz (r:Rel K B ρ σ F H):∃F',Same F F'/\Rel K B (frz ρ) σ F' H:=by
 let T:Addr->Prop:=λa=>∃(i:Nat) (o:OD),ρ[i]?=some (some (.own o))/\σ[i]?=some (some (.ref a))
 let F':Hp:=λa=>if T a then H a else F a
 have hT:∀a,T a->F a=none/\B.2 a=none:=λa ⟨i,o,e,q⟩=>by
  obtain⟨b,h,h1,h2,h3,_⟩:=r.own i o e;rw[q] at h1;cases h1;exact⟨h2,h3⟩
 have hZ:∀a,T a->∀x u,H a≠some (.frz x u):=λa ⟨i,o,e,q⟩ x u z=>by
  obtain⟨b,h,h1,h2,h3,h4,h5⟩:=r.own i o e;rw[q] at h1;cases h1;rw[h4] at z;exact h5.nz x u (Option.some.inj z)
 have e1:Same F F':=λa o e=>by
  show(if T a then H a else F a)=some o
  by_cases q:T a
  ·rw[(hT a q).1] at e;cases e
  ·rw[if_neg q];exact e
 have e2:Same F' H:=λa o e=>by
  have e':(if T a then H a else F a)=some o:=e
  by_cases q:T a
  ·rw[if_pos q] at e';exact e'
  ·rw[if_neg q] at e';exact r.fh a o e'
 refine⟨F',e1,⟨⟨r.st.ff.trans e1,e2,r.st.hh,λa q z=>?_,λa x u q=>?_⟩,?_,?_,?_,?_⟩⟩
 ·show (if T a then H a else F a)=none
  by_cases t:T a
  ·exact absurd (hT a t).2 z
  ·rw[if_neg t];exact r.st.no a q z
 ·have q:(if T a then H a else F a)=some (.frz x u):=q
  by_cases t:T a
  ·rw[if_pos t] at q;exact absurd q (hZ a t x u)
  ·rw[if_neg t] at q;exact r.st.nz a x u q
 ·rw[r.len];unfold L2.frz;simp
 ·intro i d e
  obtain⟨y,h1,h2⟩:=u7J e;cases y with
  | val d'=>cases h2;obtain⟨v,q1,q2⟩:=r.val i d h1;exact⟨v,q1,q2.same e1⟩
  | own o =>
   cases h2;obtain⟨a,h,q1,q2,q3,q4,q5⟩:=r.own i o h1;have t:T a:=⟨i,o,h1,q1⟩;exact⟨.ref a,q1,Ro.rp (Ro.same e1 q5) (show(if T a then H a else F a)=some h by rw[if_pos t];exact q4)⟩
 ·intro i o e
  obtain⟨y,h1,h2⟩:=u7J e;cases y<;>cases h2
 ·intro i j o u a e
  obtain⟨y,h1,h2⟩:=u7J e;cases y<;>cases h2
def u0u {α:Type}{l:List α}{i j:Nat}{x y:α} (h:(l.set i x)[j]?=some y):(j=i/\i<l.length/\y=x)\/(j≠i/\l[j]?=some y):=by
 rw[List.getElem?_set] at h;by_cases q:i=j
 ·rw [if_pos q] at h
  by_cases z:i<l.length
  ·rw[if_pos z] at h;exact .inl ⟨q.symm,z,(Option.some.inj h).symm⟩
  ·rw[if_neg z] at h;cases h
 ·rw[if_neg q] at h;exact .inr ⟨λe=>q e.symm,h⟩
def u3P {α:Type}{l:List α}{i:Nat}{x:α} (h:i<l.length):(l.set i x)[i]?=some x:=by simp[h]
def u0B {α:Type}{l:List α}{i j:Nat}{x:α} (h:j≠i):(l.set i x)[j]?=l[j]?:=by rw[List.getElem?_set,if_neg (λe=>h e.symm)]
theorem Rel.set {i:Nat}{v:V}{d:D} (r:Rel K B ρ σ F H) (h:Rp K F v d):Rel K B (ρ.set i (some (.val d))) (σ.set i (some v)) F H where
 st:=r.st
 len:=by simp[r.len]
 val j d' e:=by
  rcases u0u e with⟨rfl,q,z⟩|⟨q,z⟩
  ·cases z;exact⟨v,u3P (r.len ▸ q),h⟩
  ·rw[u0B q];exact r.val j d' z
 own j o e:=by
  rcases u0u e with⟨rfl,q,z⟩|⟨q,z⟩
  ·cases z
  ·rw[u0B q];exact r.own j o z
 dis j k o u a e e':=by
  rcases u0u e with⟨rfl,q,z⟩|⟨q,z⟩
  ·cases z
  ·rcases u0u e' with ⟨rfl,q',z'⟩ | ⟨q',z'⟩
   ·cases z'
   ·rw[u0B q,u0B q'];exact r.dis j k o u a z z'
def Rel.setOwn {i:Nat}{a:Addr}{h:HO}{o:OD} (r:Rel K B ρ σ F H) (h1:F a=none) (h2:B.2 a=none) (h3:H a=some h) (h4:Ro K F a h o)
  (hd:∀(j:Nat) u,ρ[j]?=some (some (.own u))->σ[j]?≠some (some (.ref a))):Rel K B (ρ.set i (some (.own o))) (σ.set i (some (.ref a))) F H where
 st:=r.st
 len:=by simp[r.len]
 val j d' e:=by
  rcases u0u e with⟨rfl,q,z⟩|⟨q,z⟩
  ·cases z
  ·rw[u0B q];exact r.val j d' z
 own j u e:=by
  rcases u0u e with⟨rfl,q,z⟩|⟨q,z⟩
  ·cases z;exact⟨a,h,u3P (r.len ▸ q),h1,h2,h3,h4⟩
  ·rw[u0B q];exact r.own j u z
 dis j k u u' b e e':=by
  rcases u0u e with⟨rfl,q,z⟩|⟨q,z⟩
  ·rcases u0u e' with ⟨rfl,q',z'⟩ | ⟨q',z'⟩
   ·intro _ _;rfl
   ·rw [u0B q',u3P (r.len ▸ q)]
    intro x y;cases x;exact absurd y (hd k u' z')
  ·rcases u0u e' with ⟨rfl,q',z'⟩ | ⟨q',z'⟩
   ·rw [u0B q,u3P (r.len ▸ q')]
    intro x y;cases y;exact absurd x (hd j u z)
   ·rw[u0B q,u0B q'];exact r.dis j k u u' b z z'
def Rel.write {i:Nat}{a:Addr}{h':HO}{o o':OD} (r:Rel K B ρ σ F H) (e:ρ[i]?=some (some (.own o))) (hs:σ[i]?=some (some (.ref a))) (h4:Ro K F a h' o') :
  Rel K B (ρ.set i (some (.own o'))) σ F (upd H a h'):=by
 obtain⟨b,h,q1,q2,q3,q4,q5⟩:=r.own i o e;rw[hs] at q1;cases q1;have e1:∀G:Hp,G a=none->Same G H->Same G (upd H a h'):=λG n s b u x=>by
  unfold upd;by_cases z:b=a
  ·subst z;rw[n] at x;cases x
  ·rw[if_neg z];exact s b u x
 refine⟨⟨r.st.ff,e1 F q2 r.fh,e1 B.2 q3 r.st.hh,r.st.no,r.st.nz⟩,by simp[r.len],?_,?_,?_⟩
 ·intro j d x
  rcases u0u x with⟨rfl,q,z⟩|⟨q,z⟩
  ·cases z
  ·exact r.val j d z
 ·intro j u x
  rcases u0u x with⟨rfl,q,z⟩|⟨q,z⟩
  ·cases z;exact⟨a,h',hs,q2,q3,u0g,h4⟩
  ·obtain ⟨c,g,p1,p2,p3,p4,p5⟩:=r.own j u z
   have ne:c≠a:=λw=>q (by subst w;exact r.dis j i u o c z e p1 hs)
   exact⟨c,g,p1,p2,p3,by rw[u0j ne];exact p4,p5⟩
 ·intro j k u u' c x y
  have f:∀(m:Nat) w,(ρ.set i (some (Sl.own o')))[m]?=some (some (.own w))->∃w',ρ[m]?=some (some (.own w')):=λm w p=>by
   rcases u0u p with⟨rfl,_,_⟩|⟨_,z⟩
   ·exact⟨o,e⟩
   ·exact⟨w,z⟩
  obtain⟨w1,z1⟩:=f j u x;obtain⟨w2,z2⟩:=f k u' y;exact r.dis j k w1 w2 c z1 z2
end
abbrev XQ:=V->St->Hp->Prop
def frz_frz (ρ:Rho):frz (frz ρ)=frz ρ:=by
 unfold frz;rw[u5];congr 1;funext x;cases x with
 | none=>rfl
 | some y=>cases y<;>rfl
def ErrK (K:W.Frag) (xq:XQ) (B:Hp×Hp) (ρ:Rho) (σ:St) (x:D):Prop:=∀v F' H',Rel K B (frz ρ) σ F' H'->Rp K F' v x->xq v σ H'
def liftE (K:W.Frag) (xq:XQ) (f:Rho->Res D):TE:=λσ H Q=>∃B F ρ,Rel K B ρ σ F H /\
 (f ρ).all (λd=>∀v F' H',Stp F H F' H'->Rp K F' v d->Q v H') (ErrK K xq B ρ σ)
def liftA (K:W.Frag) (xq:XQ) (f:Rho->Res (List D)):TA:=λσ H Q=>∃B F ρ,Rel K B ρ σ F H /\
 (f ρ).all (λds=>∀vs F' H',Stp F H F' H'->Rps K F' vs ds->Q vs H') (ErrK K xq B ρ σ)
def liftT (K:W.Frag) (xq:XQ) (f:Rho->Res Bool):TT:=λσ H Q=>∃B F ρ,Rel K B ρ σ F H /\
 (f (frz ρ)).all (λb=>∀H',Stp F H F H'->Q b H') (ErrK K xq B ρ σ)
def liftN (K:W.Frag) (xq:XQ) (f:Rho->Res OD):TE:=λσ H Q=>∃B F ρ,Rel K B ρ σ F H /\
 (f ρ).all (λo=>∀a h F' H',Stp F H F' H'->F' a=none->H a=none->H' a=some h->Ro K F' a h o->Q (.ref a) H') (ErrK K xq B ρ σ)
abbrev FD:=List D->Res D
structure DE (X:Cx) (xq:XQ) (e:Expr) (f:Rho->Res D):Prop where
 out:PE X e (liftE X.K xq f)
structure DN (X:Cx) (xq:XQ) (e:Expr) (f:Rho->Res OD):Prop where
 out:PE X e (liftN X.K xq f)
structure DT (X:Cx) (xq:XQ) (e:Expr) (f:Rho->Res Bool):Prop where
 out:PT X e (liftT X.K xq f)
structure DW (X:Cx) (xq:XQ) (e:Expr) (f:Rho->Res Bool):Prop where
 out:PW X e (liftT X.K xq f)
structure DA (X:Cx) (xq:XQ) (es:List Expr) (f:Rho->Res (List D)):Prop where
 out:PA X es (liftA X.K xq f)
 ns:es.all notStar=true
def rD (K:W.Frag) (g:D->D->Res D):R2:=λx y H Q=>∃F dx dy,Same F H/\Rp K F x dx/\Rp K F y dy/\(g dx dy).all (λd=>∀v F' H',Stp F H F' H'->Rp K F' v d->Q v H') (λ_=>False)
def rDs (K:W.Frag) (g:FD):List V->Hp->VK->Prop:=λxs H Q=>∃F ds,Same F H/\Rps K F xs ds/\(g ds).all (λd=>∀v F' H',Stp F H F' H'->Rp K F' v d->Q v H') (λ_=>False)
section
variable {K:W.Frag}{xq:XQ}{B:Hp×Hp}{ρ:Rho}{σ:St}{F H F' H':Hp}{x:D}
def seqE {α:Type}{fa:Rho->Res D}{g:D->Res α}{P:α->Prop}{T:VK} (R:Rel K B ρ σ F H) (h:((fa ρ).bind g).all P (ErrK K xq B ρ σ))
  (k:∀d v F' H',Stp F H F' H'->Rel K B ρ σ F' H'->Rp K F' v d->(g d).all P (ErrK K xq B ρ σ)->T v H'):liftE K xq fa σ H T :=
 ⟨B,F,ρ,R,Res.all_mono (Res.all_bind.mp h) (λd h' v F' H' s p=>k d v F' H' s (R.step s) p h') (λ_ e=>e)⟩
def seqA {α:Type}{fa:Rho->Res (List D)}{g:List D->Res α}{P:α->Prop}{T:List V->Hp->Prop} (R:Rel K B ρ σ F H) (h:((fa ρ).bind g).all P (ErrK K xq B ρ σ))
  (k:∀d v F' H',Stp F H F' H'->Rel K B ρ σ F' H'->Rps K F' v d->(g d).all P (ErrK K xq B ρ σ)->T v H'):liftA K xq fa σ H T :=
 ⟨B,F,ρ,R,Res.all_mono (Res.all_bind.mp h) (λd h' v F' H' s p=>k d v F' H' s (R.step s) p h') (λ_ e=>e)⟩
end
noncomputable def noE {α:Type}:Res α->Res α
 | .err _=>.bad
 | r=>r
section
variable {K:W.Frag}{xq:XQ}{B:Hp×Hp}{ρ:Rho}{σ:St}{F H F' H':Hp}{x:D}
def doneN {r:Res D}{Q:VK}{E:D->Prop}{F0 H0:Hp} (s:Stp F0 H0 F H) (h:(noE r).all (λd=>∀v F' H',Stp F0 H0 F' H'->Rp K F' v d->Q v H') E) :
  r.all (λd=>∀v F' H',Stp F H F' H'->Rp K F' v d->Q v H') (λ_=>False):=by
 cases r with
 | ok d=>exact λv F' H' s' p=>h v F' H' (s.trans s') p
 | err x=>exact h
 | bad=>exact h
end
noncomputable def getV (ρ:Rho) (i:Nat):Res D:=match ρ[i]? with
 | some (some (.val d))=>.ok d
 | _=>.bad
set_option tactic.hygienic true in
def getV_ok {ρ:Rho}{i:Nat}{P:D->Prop}{E:D->Prop} (h:(getV ρ i).all P E):∃d,ρ[i]?=some (some (.val d))/\P d:=by
 unfold getV at h;split at h
 ·rename_i d e;exact⟨d,e,h⟩
 ·exact h.elim
section
variable {X:Cx}{xq:XQ}{a b c e o:Expr}{es rest:List Expr}{fa fb fc fe:Rho->Res D}{fA fB:Rho->Res Bool}{fs:Rho->Res (List D)}{pos pos' p apos cpos:Pos}{x name:Str}
def DE.of {t:TE} (h:PE X e t) (k:∀B F ρ σ H Q,Rel X.K B ρ σ F H->(fe ρ).all (λd=>∀v F' H',Stp F H F' H'->Rp X.K F' v d->Q v H') (ErrK X.K xq B ρ σ)->t σ H Q):DE X xq e fe :=
 ⟨λpins s σ H Q I z9=>un5 z9 λB F ρ R q=>h pins s σ H Q I (k B F ρ σ H Q R q)⟩
def DT.of {t:TT} (h:PT X e t) (k:∀B F ρ σ H Q,Rel X.K B ρ σ F H->(fA (frz ρ)).all (λb=>∀H',Stp F H F H'->Q b H') (ErrK X.K xq B ρ σ)->t σ H Q):DT X xq e fA :=
 ⟨λpins s σ H Q I z9=>un5 z9 λB F ρ R q=>h pins s σ H Q I (k B F ρ σ H Q R q)⟩
def d_C {v:V}{d:D} (h:PE X e (tC v)) (p:∀F,Rp X.K F v d):DE X xq e (λ_=>.ok d):=DE.of h λB F ρ σ H Q R q=>q v F H (Stp.refl R.fh) (p F)
def u0c {i j pos}:DE X xq (.Constant (.int i) j pos) (λ_=>.ok (.int i)):=d_C pe_int λ_=>.int i
def d_bl {i j pos}:DE X xq (.Constant (.bool i) j pos) (λ_=>.ok (.bl i)):=d_C pe_bl λ_=>.bl i
def u4w {j pos}:DE X xq (.Constant .none j pos) (λ_=>.ok .non):=d_C pe_non λ_=>.non
def u0Q {z:Str}{j pos} (h:z.length<=sizeLine:=by decide):DE X xq (.Constant (.str z) j pos) (λ_=>.ok (.str z)):=d_C pe_str λ_=>.str h
def dv (i:Nat) {x:Str}{pos:Pos} (hN:X.N[i]?=some x:=by rfl) (hv:Vis X.env.scope x:=by first|exact Or.inl rfl|exact Or.inr (Or.inl rfl)|exact Or.inr (Or.inr rfl)) (hd:(x==("__debug__":Str))=false:=by decide)
  (hcd:(x==("__classdict__":Str))=false:=by decide):DE X xq (.Name x pos) (λρ=>getV ρ i) :=
 DE.of (u1U hN hv hd hcd) λB F ρ σ H Q R q=>by
  obtain⟨d,e,h⟩:=getV_ok q;obtain⟨v,h1,h2⟩:=R.val i d e;exact⟨v,h1,h v F H (Stp.refl R.fh) h2⟩
def GloD (K:W.Frag) (mg:MG) (x:Str) (d:D):Prop:=∃v,Glo mg x v/\∀F,Rp K F v d
def u3F {mg:MG}{K:W.Frag}{d:D} (h:GloD K mg x d) (hg:Gl X x:=by rfl) (em:X.mg=mg:=by rfl) (eK:X.K=K:=by rfl) (hd:(x==("__debug__":Str))=false:=by decide):DE X xq (.Name x pos) (λ_=>.ok d):=by
 obtain⟨v,h1,h2⟩:=h;subst eK;exact d_C (pe_glo h1 hg em hd) h2
def d_ty {T:String} (hm:X.mg x=none) (hv:bootBuiltins x=some (.type T)) (hg:Gl X x:=by rfl) (hn:x≠"__name__":=by decide) (hd:(x==("__debug__":Str))=false:=by decide):DE X xq (.Name x pos) (λ_=>.ok (.ty T)) :=
 d_C (v:=.ty T) (pe_bltn hg hm hv rfl hn hd) λ_=>.ty T
def d_op {op:Operator}{g:D->D->Res D} (ho:OpR X (binaryOp op) (rD X.K g)) (ha:DE X xq a fa) (hb:DE X xq b fb):DE X xq (.BinOp a op b pos) (λρ=>(fa ρ).bind λx=>(fb ρ).bind λy=>noE (g x y)) :=
 DE.of (pe_op ho ha.out hb.out) λB F ρ σ H Q R q=>seqE R q λd v F1 H1 s1 R1 p1 q1=>seqE R1 q1 λd2 v2 F2 H2 s2 R2 p2 q2 =>
  ⟨F2,d,d2,R2.fh,p1.same s2.ff,p2,doneN (s1.trans s2) q2⟩
def u7R {op:CmpOp}{g:D->D->Res D} (ho:OpR X (compareOp op) (rD X.K g)) (ha:DE X xq a fa) (hb:DE X xq b fb) (hm:behindInMarks op b=false:=by first|exact nomark _|with_unfolding_all rfl) :
  DE X xq (.Compare a [op] [b] pos) (λρ=>(fa ρ).bind λx=>(fb ρ).bind λy=>noE (g x y)) :=
 DE.of (pe_cmpR ho ha.out hb.out hm) λB F ρ σ H Q R q=>seqE R q λd v F1 H1 s1 R1 p1 q1=>seqE R1 q1 λd2 v2 F2 H2 s2 R2 p2 q2 =>
  ⟨F2,d,d2,R2.fh,p1.same s2.ff,p2,doneN (s1.trans s2) q2⟩
def d_ix {g:D->D->Res D} (ho:IxR X (rD X.K g)) (ha:DE X xq a fa) (hb:DE X xq b fb) (hs:PlainIx b:=by intro _ _;rfl):DE X xq (.Subscript a b pos) (λρ=>(fa ρ).bind λx=>(fb ρ).bind λy=>noE (g x y)) :=
 DE.of (pe_ix ho ha.out hb.out hs) λB F ρ σ H Q R q=>seqE R q λd v F1 H1 s1 R1 p1 q1=>seqE R1 q1 λd2 v2 F2 H2 s2 R2 p2 q2 =>
  ⟨F2,d,d2,R2.fh,p1.same s2.ff,p2,doneN (s1.trans s2) q2⟩
noncomputable def asB:D->Res Bool
 | .bl b=>.ok b
 | _=>.bad
def u4z {d:D}{P:Bool->Prop}{E:D->Prop} (h:(asB d).all P E):∃b,d=.bl b/\P b:=by
 cases d<;>first|exact h.elim|exact⟨_,rfl,h⟩
def Rp.blI {K:W.Frag}{F:Hp}{v:V}{b:Bool} (h:Rp K F v (.bl b)):v=.bl b:=by cases h;rfl
noncomputable def fChain (g g':D->D->Res D) (x y:D) (z:Res D):Res D:=(noE (g x y)).bind λw=>(asB w).bind λc=>if c=true then z.bind λz=>noE (g' y z) else .ok (.bl false)
def v1H {op op':CmpOp}{g g':D->D->Res D} (ho:OpR X (compareOp op) (rD X.K g)) (ho':OpR X (compareOp op') (rD X.K g')) (ha:DE X xq a fa) (hb:DE X xq b fb) (hc:DE X xq c fc)
  (hm:lastMarks [op,op'] [b,c]=false:=by with_unfolding_all rfl):DE X xq (.Compare a [op,op'] [b,c] pos) (λρ=>(fa ρ).bind λx=>(fb ρ).bind λy=>fChain g g' x y (fc ρ)) :=
 DE.of (v2H ho ho' ha.out hb.out hc.out hm) λB F ρ σ H Q R q=>seqE R q λd v F1 H1 s1 R1 p1 q1=>seqE R1 q1 λd2 v2 F2 H2 s2 R2 p2 q2=>by
  refine⟨F2,d,d2,R2.fh,p1.same s2.ff,p2,?_⟩;unfold fChain at q2;have q3:=Res.all_bind.mp q2;generalize g d d2=r at q3;cases r with
  | err x=>exact q3
  | bad=>exact q3
  | ok w =>
   obtain⟨k,rfl,q4⟩:=u4z (Res.all_bind.mp (show((asB w).bind _).all _ _ from q3))
   intro v3 F3 H3 s3 p3;refine⟨k,p3.blI,?_⟩;have s03:=(s1.trans s2).trans s3;cases k with
   | false=>exact q4 (.bl false) F3 H3 s03 (.bl false)
   | true=>exact seqE (R2.step s3) q4 λd4 v4 F4 H4 s4 R4 p4 q5=>⟨F4,d2,d4,R4.fh,(p2.same s3.ff).same s4.ff,p4,doneN (s03.trans s4) q5⟩
def u3E {op} (h:DE X xq a fa):DE X xq (.BoolOp op [a] pos) fa:=⟨pe_one h.out⟩
def u2k (ha:DE X xq a fa) (hb:DE X xq (.BoolOp .And (b::rest) pos) fb):DE X xq (.BoolOp .And (a::b::rest) pos) (λρ=>(fa ρ).bind λx=>(asB x).bind λk=>if k=true then fb ρ else .ok (.bl false)) :=
 DE.of (pe_and ha.out hb.out) λB F ρ σ H Q R q=>seqE R q λd v F1 H1 s1 R1 p1 q1=>by
  obtain⟨k,rfl,q2⟩:=u4z (Res.all_bind.mp q1);refine⟨k,p1.blI,?_⟩;cases k with
  | false=>exact q2 _ F1 H1 s1 (.bl false)
  | true=>exact⟨B,F1,ρ,R1,Res.all_mono q2 (λd k v F' H' s p=>k v F' H' (s1.trans s) p) λ_ e=>e⟩
def d_or (ha:DE X xq a fa) (hb:DE X xq (.BoolOp .Or (b::rest) pos) fb):DE X xq (.BoolOp .Or (a::b::rest) pos) (λρ=>(fa ρ).bind λx=>(asB x).bind λk=>if k=true then .ok (.bl true) else fb ρ) :=
 DE.of (pe_or ha.out hb.out) λB F ρ σ H Q R q=>seqE R q λd v F1 H1 s1 R1 p1 q1=>by
  obtain⟨k,rfl,q2⟩:=u4z (Res.all_bind.mp q1);refine⟨k,p1.blI,?_⟩;cases k with
  | true=>exact q2 _ F1 H1 s1 (.bl true)
  | false=>exact⟨B,F1,ρ,R1,Res.all_mono q2 (λd k v F' H' s p=>k v F' H' (s1.trans s) p) λ_ e=>e⟩
def d_not (ha:DE X xq a fa):DE X xq (.UnaryOp .Not a pos) (λρ=>(fa ρ).bind λx=>(asB x).bind λk=>.ok (.bl (!k))) :=
 DE.of (pe_not ha.out) λB F ρ σ H Q R q=>seqE R q λd v F1 H1 s1 R1 p1 q1=>by
  obtain⟨k,rfl,q2⟩:=u4z (Res.all_bind.mp q1);exact⟨k,p1.blI,q2 _ F1 H1 s1 (.bl _)⟩
theorem ErrK.frz {K:W.Frag}{B:Hp×Hp}{ρ:Rho}{σ:St}{x:D} (h:ErrK K xq B ρ σ x):ErrK K xq B (frz ρ) σ x:=λv F' H' R p=>h v F' H' (frz_frz ρ ▸ R) p
def d_ife (hc:DT X xq c fA) (ha:DE X xq a fa) (hb:DE X xq b fb):DE X xq (.IfExp c a b pos) (λρ=>(fA (frz ρ)).bind λk=>if k=true then fa ρ else fb ρ) :=
 DE.of (v2E hc.out ha.out hb.out) λB F ρ σ H Q R q=>⟨B,F,ρ,R,Res.all_mono (Res.all_bind.mp q) (λk q1 H1 s1=>by
  cases k with
  | true=>exact⟨B,F,ρ,R.step s1,Res.all_mono q1 (λd k v F' H' s p=>k v F' H' (s1.trans s) p) λ_ e=>e⟩
  | false=>exact⟨B,F,ρ,R.step s1,Res.all_mono q1 (λd k v F' H' s p=>k v F' H' (s1.trans s) p) λ_ e=>e⟩) λ_ e=>e⟩
def tfrz {P:Bool->Prop}{K:W.Frag}{B:Hp×Hp}{ρ:Rho}{σ:St}{F H:Hp}{Q:Bool->Hp->Prop} (R:Rel K B ρ σ F H) (h:((fe (frz ρ)).bind asB).all (λb=>∀H',Stp F H F H'->Q b H') (ErrK K xq B ρ σ)) :
  liftE K xq fe σ H (λx H'=>∃k,x=.bl k/\Q k H'):=by
 obtain⟨F1,e1,R1⟩:=R.frz;refine⟨B,F1,L2.frz ρ,R1,Res.all_mono (Res.all_bind.mp h) (λd q v F' H' s p=>?_) λ_ e=>e.frz⟩
 obtain⟨k,rfl,q⟩:=u4z q;exact⟨k,p.blI,q H' (Stp.only R.fh s.hh)⟩
def u0W (h:DE X xq e fe) (he:∀whole,isTrue e X.env whole=(do let v <- whole;standAt e.pos;holding [v] (truthy v)):=by intro _;rfl):DT X xq e (λρ=>(fe ρ).bind asB) :=
 DT.of (pt_val h.out he) λB F ρ σ H Q R q=>tfrz (P:=λ_=>True) R q
def u0l {op:CmpOp}{g:D->D->Res D} (ho:OpR X (compareOp op) (rD X.K g)) (ha:DE X xq a fa) (hb:DE X xq b fb) (hm:behindInMarks op b=false:=by first|exact nomark _|with_unfolding_all rfl) :
  DT X xq (.Compare a [op] [b] pos) (λρ=>(fa ρ).bind λx=>(fb ρ).bind λy=>(noE (g x y)).bind asB) :=
 DT.of (pt_cmpR ho ha.out hb.out hm) λB F ρ σ H Q R q=>by
  obtain⟨F0,e0,R0⟩:=R.frz;have q':=Res.all_mono q (λ_ k=>k) (λx (e:ErrK X.K xq B ρ σ x)=>e.frz)
  refine seqE R0 q' λd v F1 H1 s1 R1 p1 q1=>seqE R1 q1 λd2 v2 F2 H2 s2 R2 p2 q2=>⟨F2,d,d2,R2.fh,p1.same s2.ff,p2,?_⟩
  have q3:=Res.all_bind.mp q2;generalize g d d2=r at q3;cases r with
  | err x=>exact q3
  | bad=>exact q3
  | ok w =>
   obtain⟨k,rfl,q4⟩:=u4z (show(asB w).all _ _ from q3)
   exact λv3 F3 H3 s3 p3=>⟨k,p3.blI,q4 H3 (Stp.only R.fh ((s1.hh.trans s2.hh).trans s3.hh))⟩
def seqT {α:Type}{K:W.Frag}{B:Hp×Hp}{ρ:Rho}{σ:St}{F H:Hp}{g:Bool->Res α}{P:α->Prop}{T:Bool->Hp->Prop} (R:Rel K B ρ σ F H) (h:((fA (frz ρ)).bind g).all P (ErrK K xq B ρ σ))
  (k:∀b H',Stp F H F H'->Rel K B ρ σ F H'->(g b).all P (ErrK K xq B ρ σ)->T b H'):liftT K xq fA σ H T :=
 ⟨B,F,ρ,R,Res.all_mono (Res.all_bind.mp h) (λd h' H' s=>k d H' s (R.step s) h') (λ_ e=>e)⟩
def u1V (ha:DT X xq a fA):DT X xq (.UnaryOp .Not a pos) (λρ=>(fA ρ).bind λk=>.ok (!k)) :=
 DT.of (pt_not ha.out) λB F ρ σ H Q R q=>seqT R q λk H1 s1 R1 q1=>q1 H1 s1
def dt_w (h:DW X xq e fA):DT X xq e fA:=⟨h.out.pt⟩
def u1S (ha:DT X xq a fA):DW X xq (.BoolOp .And [a] pos) fA:=⟨pw_and1 ha.out⟩
def u4s (ha:DT X xq a fA):DW X xq (.BoolOp .Or [a] pos) fA:=⟨pw_or1 ha.out⟩
def u2N (ha:DT X xq a fA) (hb:DW X xq (.BoolOp .And (b::rest) pos) fB):DW X xq (.BoolOp .And (a::b::rest) pos) (λρ=>(fA ρ).bind λk=>if k=true then fB ρ else .ok false) :=
 ⟨λwh pins s σ H Q I z9=>un5 z9 λB F ρ R q=>pw_and ha.out hb.out wh pins s σ H Q I (seqT R q λk H1 s1 R1 q1=>by
  cases k with
  | false=>exact q1 H1 s1
  | true=>exact⟨B,F,ρ,R1,Res.all_mono q1 (λk q H2 s2=>q H2 (s1.trans s2)) λ_ e=>e⟩)⟩
def u7M (ha:DT X xq a fA) (hb:DW X xq (.BoolOp .Or (b::rest) pos) fB):DW X xq (.BoolOp .Or (a::b::rest) pos) (λρ=>(fA ρ).bind λk=>if k=true then .ok true else fB ρ) :=
 ⟨λwh pins s σ H Q I z9=>un5 z9 λB F ρ R q=>pw_or ha.out hb.out wh pins s σ H Q I (seqT R q λk H1 s1 R1 q1=>by
  cases k with
  | true=>exact q1 H1 s1
  | false=>exact⟨B,F,ρ,R1,Res.all_mono q1 (λk q H2 s2=>q H2 (s1.trans s2)) λ_ e=>e⟩)⟩
def u0b:DA X xq [] (λ_=>.ok []):=⟨λpos pins s σ H Q I z9=>un5 z9 λB F ρ R q=>u4T pos pins s σ H Q I (q [] F H (Stp.refl R.fh) .nil),rfl⟩
def u0a (ha:DE X xq e fe) (hr:DA X xq es fs) (hs:notStar e=true:=by rfl):DA X xq (e::es) (λρ=>(fe ρ).bind λd=>(fs ρ).bind λds=>.ok (d::ds)) :=
 ⟨λpos pins s σ H Q I z9=>un5 z9 λB F ρ R q=>pac ha.out hr.out hs pos pins s σ H Q I (seqE R q λd v F1 H1 s1 R1 p1 q1=>seqA R1 q1 λds vs F2 H2 s2 R2 p2 q2 =>
  q2 (v::vs) F2 H2 (s1.trans s2) (.cons (p1.same s2.ff) p2)),by rw[z0C,hs,hr.ns];rfl⟩
noncomputable def szD {α:Type} (ds:List D) (k:Res α):Res α:=if ds.length<=sizeLine then k else .bad
def v0e {α:Type}{ds:List D}{k:Res α}{P:α->Prop}{E:D->Prop} (h:(szD ds k).all P E):ds.length<=sizeLine/\k.all P E:=by
 unfold szD at h;by_cases q:ds.length<=sizeLine
 ·rw[if_pos q] at h;exact⟨q,h⟩
 ·rw[if_neg q] at h;exact h.elim
def u0f {x1} (h:DA X xq es fs):DE X xq (.Tuple es x1 pos) (λρ=>(fs ρ).bind λds=>szD ds (.ok (.tup ds))) :=
 DE.of (pe_tup h.out) λB F ρ σ H Q R q=>seqA R q λds vs F1 H1 s1 R1 p1 q1=>by
  obtain⟨hz,q2⟩:=v0e q1;exact⟨p1.length ▸ hz,λp n=>q2 _ _ _ (s1.trans (Stp.new R1.fh n)) (.tup (.inl (.inl u0g)) (p1.same (Stp.new R1.fh n).ff))⟩
def u1f (h:DA X xq es fs):DE X xq (.List es pos) (λρ=>(fs ρ).bind λds=>szD ds (.ok (.lst ds))) :=
 DE.of (v3O h.out) λB F ρ σ H Q R q=>seqA R q λds vs F1 H1 s1 R1 p1 q1=>by
  obtain⟨hz,q2⟩:=v0e q1;exact⟨p1.length ▸ hz,λp n=>q2 _ _ _ (s1.trans (Stp.new R1.fh n)) (.lst (.inl u0g) (p1.same (Stp.new R1.fh n).ff))⟩
def u3u (h:DA X xq es fs):DN X xq (.List es pos) (λρ=>(fs ρ).bind λds=>szD ds (.ok (.l ds))) :=
 ⟨λpins s σ H Q I z9=>un5 z9 λB F ρ R q=>v3O h.out pins s σ H Q I (seqA R q λds vs F1 H1 s1 R1 p1 q1=>by
  obtain⟨hz,q2⟩:=v0e q1;refine⟨p1.length ▸ hz,λp n=>q2 p _ F1 _ (s1.trans (Stp.only R1.fh (u0h n))) (R1.fh.free n) (s1.hh.free n) u0g (.l p1)⟩)⟩
def DN.de {f:Rho->Res OD} (h:DN X xq e f):DE X xq e (λρ=>(f ρ).bind λo=>.ok o.toD) :=
 ⟨λpins s σ H Q I z9=>un5 z9 λB F ρ R q=>h.out pins s σ H Q I ⟨B,F,ρ,R,Res.all_mono (Res.all_bind.mp q) (λo q1 a hh F' H' s1 n1 n2 e1 r1=>by
  have s2:Stp F H (upd F' a hh) H':=⟨s1.ff.trans (u0h n1),λb u x=>by
   unfold upd at x;by_cases z:b=a
   ·rw[if_pos z] at x;cases x;subst z;exact e1
   ·rw[if_neg z] at x;exact s1.fh b u x,s1.hh,λb x y=>by
   unfold upd;by_cases z:b=a
   ·subst z;exact absurd n2 y
   ·rw[if_neg z];exact s1.no b x y,v0b r1.nz s1.nz⟩
  exact q1 _ _ _ s2 ((Ro.same (u0h n1) r1).rp u0g)) λ_ e=>e⟩⟩
end
inductive Out where
 | nx (ρ:Rho)|rt (d:D)|bk (ρ:Rho)|ct (ρ:Rho)|er (x:D) (ρ:Rho)|bad
namespace Out
def all (o:Out) (N:Rho->Prop) (R:D->Prop) (B C:Rho->Prop) (E:Rho->D->Prop):Prop:=match o with
 | .nx ρ=>N ρ
 | .rt d=>R d
 | .bk ρ=>B ρ
 | .ct ρ=>C ρ
 | .er x ρ=>E ρ x
 | .bad=>False
noncomputable def andThen (o:Out) (f:Rho->Out):Out:=match o with
 | .nx ρ=>f ρ
 | o=>o
@[simp] theorem then_nx (ρ:Rho) (f:Rho->Out):(Out.nx ρ).andThen f=f ρ:=rfl
@[simp] theorem then_rt (d:D) (f:Rho->Out):(Out.rt d).andThen f=.rt d:=rfl
@[simp] theorem then_bk (ρ:Rho) (f:Rho->Out):(Out.bk ρ).andThen f=.bk ρ:=rfl
@[simp] theorem then_ct (ρ:Rho) (f:Rho->Out):(Out.ct ρ).andThen f=.ct ρ:=rfl
@[simp] theorem then_er (x:D) (ρ:Rho) (f:Rho->Out):(Out.er x ρ).andThen f=.er x ρ:=rfl
@[simp] theorem then_bad (f:Rho->Out):Out.bad.andThen f=.bad:=rfl
end Out
noncomputable def Res.go {α:Type} (r:Res α) (ρ:Rho) (k:α->Out):Out:=match r with
 | .ok a=>k a
 | .err x=>.er x (frz ρ)
 | .bad=>.bad
@[simp] theorem go_ok {α:Type} (a:α) (ρ:Rho) (k:α->Out):(Res.ok a).go ρ k=k a:=rfl
@[simp] theorem go_err {α:Type} (x:D) (ρ:Rho) (k:α->Out):(Res.err x).go ρ k=.er x (frz ρ):=rfl
@[simp] theorem go_bad {α:Type} (ρ:Rho) (k:α->Out):Res.bad.go ρ k=.bad:=rfl
def u0F {α:Type}{r:Res α}{ρ:Rho}{k:α->Out}{N:Rho->Prop}{R:D->Prop}{B C:Rho->Prop}{E:Rho->D->Prop} (h:(r.go ρ k).all N R B C E):r.all (λa=>(k a).all N R B C E) (E (frz ρ)):=by
 cases r<;>exact h
def v2g {o:Out}{f:Rho->Out}{N:Rho->Prop}{R:D->Prop}{B C:Rho->Prop}{E:Rho->D->Prop} (h:(o.andThen f).all N R B C E):o.all (λρ=>(f ρ).all N R B C E) R B C E:=by
 cases o<;>exact h
structure OkS (K:W.Frag) (xq:XQ) (B:Hp×Hp) (T:Ends) (o:Out):Prop where
 out:o.all (λρ=>∀σ F H,Rel K B ρ σ F H->T.nx σ H) (λd=>∀v F H,Stp B.1 B.2 F H->Rp K F v d->T.rt v H)
  (λρ=>∀σ F H,Rel K B ρ σ F H->T.bk σ H) (λρ=>∀σ F H,Rel K B ρ σ F H->T.ct σ H) (λρ x=>∀v σ F H,Rel K B ρ σ F H->Rp K F v x->xq v σ H)
def liftS (K:W.Frag) (xq:XQ) (f:Rho->Out):TS:=λT σ H=>∃B F ρ,Rel K B ρ σ F H/\OkS K xq B T (f ρ)
structure DS (X:Cx) (xq:XQ) (st:Stmt) (f:Rho->Out):Prop where
 out:PS X st (liftS X.K xq f)
structure DB (X:Cx) (xq:XQ) (sts:List Stmt) (f:Rho->Out):Prop where
 out:PSs X sts (liftS X.K xq f)
def liftG (K:W.Frag) (ix:List Nat) (g:D->Rho->Res Rho):TG:=λv σ H Q=>∃B F ρ d,Rel K B ρ σ F H/\Rp K F v d /\
 (g d ρ).all (λρ'=>∀σ',Rel K B ρ' σ' F H->σ'.length=σ.length->(∀j,j∉ix->σ'[j]?=σ[j]?)->Q σ' H) (λ_=>False)
def liftGs (K:W.Frag) (ix:List Nat) (g:List D->Rho->Res Rho):TGs:=λvs σ H Q=>∃B F ρ ds,Rel K B ρ σ F H/\Rps K F vs ds /\
 (g ds ρ).all (λρ'=>∀σ',Rel K B ρ' σ' F H->σ'.length=σ.length->(∀j,j∉ix->σ'[j]?=σ[j]?)->Q σ' H) (λ_=>False)
structure DG (X:Cx) (tg:Expr) (ix:List Nat) (g:D->Rho->Res Rho):Prop where
 out:PG X tg (liftG X.K ix g)
structure DGs (X:Cx) (tgs:List Expr) (ix:List Nat) (g:List D->Rho->Res Rho):Prop where
 out:PGs X tgs (liftGs X.K ix g)
structure Feed (K:W.Frag) (F:Hp) (J:It) (ds:List D):Prop where
 go:∀i H,Same F H->i<ds.length->J.go i H
 yld:∀i F1 H x H' d,Same F F1->Same F1 H->ds[i]?=some d->J.yld i H x H'->∃F',Stp F1 H F' H'/\Rp K F' x d
 stop:∀i H,Same F H->ds.length<=i->J.stop i H
def liftI (K:W.Frag) (xq:XQ) (f:Rho->Res (List D)):TI:=λσ H R=>∃B F ρ,Rel K B ρ σ F H /\
 (f ρ).all (λds=>∀J F' H',Stp F H F' H'->Feed K F' J ds->R J H') (ErrK K xq B ρ σ)
structure DI (X:Cx) (xq:XQ) (tg iter:Expr) (f:Rho->Res (List D)):Prop where
 out:PI X tg iter (liftI X.K xq f)
def Feed.list {K:W.Frag}{F:Hp}{a:Addr}{xs:List V}{ds:List D} (h:SqL K F a xs) (r:Rps K F xs ds):Feed K F (Itl K a) ds where
 go i H e hi:=⟨xs,xs[i]'(r.length ▸ hi),e.seq h,by simp[r.length ▸ hi]⟩
 yld i F1 H x H' d e1 e2 hd y:=by
  obtain⟨rfl,y⟩:=y;obtain⟨v,hv,p⟩:=r.get hd
  have:xs[i]?=some x:=y xs ((e1.trans e2).seq h)
  rw[hv] at this;cases this;exact⟨F1,Stp.refl e2,p.same e1⟩
 stop i H e hi:=⟨xs,e.seq h,r.length ▸ hi⟩
def Feed.tup {K:W.Frag}{F:Hp}{a:Addr}{xs:List V}{ds:List D} (h:SqT K F a xs) (r:Rps K F xs ds):Feed K F (Itt K a) ds where
 go i H e hi:=⟨xs,xs[i]'(r.length ▸ hi),e.seqT h,by simp[r.length ▸ hi]⟩
 yld i F1 H x H' d e1 e2 hd y:=by
  obtain⟨rfl,y⟩:=y;obtain⟨v,hv,p⟩:=r.get hd
  have:xs[i]?=some x:=y xs ((e1.trans e2).seqT h)
  rw[hv] at this;cases this;exact⟨F1,Stp.refl e2,p.same e1⟩
 stop i H e hi:=⟨xs,e.seqT h,r.length ▸ hi⟩
def u4d:(1:Nat)<=sizeLine:=by decide
noncomputable def chars (z:Str):List D:=z.cps.toList.map λc=>.str ⟨#[c]⟩
theorem Feed.str {K:W.Frag}{F:Hp} (z:Str):Feed K F (Its z) (chars z) where
 go i H e hi:=by
  show i<z.cps.size;simpa[chars] using hi
 yld i F1 H x H' d e1 e2 hd y:=by
  obtain⟨rfl,c,hc,rfl⟩:=y;have e3:z.cps.toList[i]?=some c:=by simpa using hc
  unfold chars at hd;rw[y4,e3] at hd;cases hd;exact⟨F1,Stp.refl e2,.str (by show(#[c]:Array Nat).size<=sizeLine;exact u4d)⟩
 stop i H e hi:=by
  show z.cps.size<=i;simpa[chars] using hi
noncomputable def intL (lo:Int) (n:Nat):List D:=(List.range n).map λ(i:Nat)=>.int (lo+(i:Int))
def Feed.rng {K:W.Frag}{F:Hp} (lo:Int) (n:Nat):Feed K F (Itr lo n) (intL lo n) where
 go i H e hi:=by
  show i<n;simpa[intL] using hi
 yld i F1 H x H' d e1 e2 hd y:=by
  obtain⟨rfl,rfl⟩:=y;have hi:i<n:=by
   have:=(y6.mp hd).1
   simpa[intL] using this
  unfold intL at hd;rw[y4,List.getElem?_range hi] at hd;cases hd;exact⟨F1,Stp.refl e2,.int _⟩
 stop i H e hi:=by
  show n<=i;simpa[intL] using hi
section
variable {X:Cx}{xq:XQ}{st:Stmt}{sts:List Stmt}{e c tg:Expr}{fe:Rho->Res D}{fT:Rho->Res Bool}{f g:Rho->Out}{pos pos':Pos}{x:Str}
def DS.of {t:TS} (h:PS X st t) (k:∀B F ρ σ H T,Rel X.K B ρ σ F H->OkS X.K xq B T (f ρ)->t T σ H):DS X xq st f :=
 ⟨λpins s σ H T I z9=>un5 z9 λB F ρ R q=>h pins s σ H T I (k B F ρ σ H T R q)⟩
def u0n:DB X xq [] (λρ=>.nx ρ):=⟨λpins s σ H T I z9=>un5 z9 λB F ρ R q=>v0w pins s σ H T I (q.out σ F H R)⟩
def u0e (h:DS X xq st f):DB X xq [st] f:=⟨u7r h.out⟩
def u0d (h1:DS X xq st f) (h2:DB X xq sts g):DB X xq (st::sts) (λρ=>(f ρ).andThen g) :=
 ⟨λpins s σ H T I z9=>un5 z9 λB F ρ R q=>u1l h1.out h2.out pins s σ H T I ⟨B,F,ρ,R,⟨by
  have q1:=v2g q.out;generalize f ρ=o at q1;cases o with
  | nx ρ1=>exact λσ1 F1 H1 R1=>⟨B,F1,ρ1,R1,⟨q1⟩⟩
  | rt d=>exact q1
  | bk r=>exact q1
  | ct r=>exact q1
  | er x r=>exact q1
  | bad=>exact q1⟩⟩⟩
def errOf {K:W.Frag}{B:Hp×Hp}{ρ:Rho}{σ:St}{x:D} (h:∀v σ F H,Rel K B (frz ρ) σ F H->Rp K F v x->xq v σ H):ErrK K xq B ρ σ x:=λv F H R p=>h v σ F H R p
def u0i (he:DE X xq e fe):DS X xq (.Return (some e) pos) (λρ=>(fe (frz ρ)).go ρ λd=>.rt d) :=
 DS.of (ps_ret he.out) λB F ρ σ H T R q=>by
  obtain⟨F1,e1,R1⟩:=R.frz;exact⟨B,F1,frz ρ,R1,Res.all_mono (u0F q.out) (λd q v F' H' s p=>q v F' H' (R1.st.trans s) p) λx q=>(errOf q).frz⟩
def u2G (he:DE X xq e fe) (hs:swapsWith e none pos.line X.env=pure false:=by rfl):DS X xq (.Expr e pos) (λρ=>(fe (frz ρ)).go ρ λ_=>.nx ρ) :=
 DS.of (u4a he.out hs) λB F ρ σ H T R q=>by
  obtain⟨F1,e1,R1⟩:=R.frz;exact⟨B,F1,frz ρ,R1,Res.all_mono (u0F q.out) (λd q v F' H' s p=>q σ F H' (R.step (Stp.only R.fh s.hh))) λx q=>(errOf q).frz⟩
def u0x {a b:List Stmt} (hc:DT X xq c fT) (ha:DB X xq a f) (hb:DB X xq b g):DS X xq (.If c a b pos) (λρ=>(fT (frz ρ)).go ρ λk=>if k=true then f ρ else g ρ) :=
 DS.of (ps_if hc.out ha.out hb.out) λB F ρ σ H T R q=>⟨B,F,ρ,R,Res.all_mono (u0F q.out) (λk q H' s=>by
  cases k with
  | true=>exact⟨B,F,ρ,R.step s,⟨q⟩⟩
  | false=>exact⟨B,F,ρ,R.step s,⟨q⟩⟩) λx q=>errOf q⟩
def ds_n {i:Nat} (hN:X.N.Nodup) (he:DE X xq e fe) (hi:X.N.findIdx? (λy=>y==x)=some i:=by rfl) (hx:Loc X.env.scope x:=by first|exact Or.inl rfl|exact Or.inr rfl) (hs:swapsWith e (some (.Name x pos')) pos.line X.env=pure false:=by rfl)
  (hf:X.fn x=true\/X.env.scope.names.lookup x=some .local:=by first|exact .inl rfl|exact .inr rfl):DS X xq (.Assign [.Name x pos'] e pos) (λρ=>(fe ρ).go ρ λd=>.nx (ρ.set i (some (.val d)))) :=
 DS.of (ps_n hN he.out hi hx hs hf) λB F ρ σ H T R q=>⟨B,F,ρ,R,Res.all_mono (u0F q.out) (λd q v F' H' s p=>q _ F' H' ((R.step s).set p)) λx q=>errOf q⟩
def u1B {i:Nat}{fn:Rho->Res OD} (hN:X.N.Nodup) (he:DN X xq e fn) (hi:X.N.findIdx? (λy=>y==x)=some i:=by rfl) (hx:Loc X.env.scope x:=by first|exact Or.inl rfl|exact Or.inr rfl) (hs:swapsWith e (some (.Name x pos')) pos.line X.env=pure false:=by rfl)
  (hf:X.fn x=true\/X.env.scope.names.lookup x=some .local:=by first|exact .inl rfl|exact .inr rfl):DS X xq (.Assign [.Name x pos'] e pos) (λρ=>(fn ρ).go ρ λo=>.nx (ρ.set i (some (.own o)))) :=
 DS.of (ps_n hN he.out hi hx hs hf) λB F ρ σ H T R q=>⟨B,F,ρ,R,Res.all_mono (u0F q.out) (λo q a h F' H' s n1 n2 e1 r1=>q _ F' H' ((R.step s).setOwn n1 (R.st.hh.free n2) e1 r1 λj u w z=>by
   obtain⟨b,hh,p1,p2,p3,p4,p5⟩:=R.own j u w;rw[p1] at z;cases z;rw[p4] at n2;cases n2)) λx q=>errOf q⟩
noncomputable def flatD:D->Bool
 | .non | .bl _ | .int _ | .str _ | .ty _=>true
 | _=>false
noncomputable def flatC (d:D):Res D:=if flatD d=true then .ok d else .bad
def Rp.flat {K:W.Frag}{F F':Hp}{v:V}{d:D} (h:Rp K F v d) (f:flatD d=true):Rp K F' v d:=by
 cases h<;>first|(cases f;done)|exact .non|exact .bl _|exact .int _|exact .ty _|(exact .str (by assumption))|exact absurd f (by simp[flatD])
theorem DE.flat (h:DE X xq e fe):DE X xq e (λρ=>(fe (frz ρ)).bind flatC) :=
 DE.of h.out λB F ρ σ H Q R q=>by
  obtain⟨F1,e1,R1⟩:=R.frz;refine⟨B,F1,frz ρ,R1,Res.all_mono (Res.all_bind.mp q) (λd q v F' H' s p=>?_) λ_ e=>e.frz⟩
  unfold flatC at q;by_cases z:flatD d=true
  ·rw [if_pos z] at q
   exact q v F H' (Stp.only R.fh s.hh) (p.flat z)
  ·rw[if_neg z] at q;exact q.elim
def DB.fix (h:DB X xq sts f):DB X xq sts (λρ=>f (frz ρ)) :=
 ⟨λpins s σ H T I z9=>un5 z9 λB F ρ R q=>by obtain⟨F1,_,R1⟩:=R.frz;exact h.out pins s σ H T I ⟨B,F1,frz ρ,R1,q⟩⟩
def dg_n {i:Nat} (hN:X.N.Nodup) (hi:X.N.findIdx? (λy=>y==x)=some i:=by rfl) (hx:Loc X.env.scope x:=by first|exact Or.inl rfl|exact Or.inr rfl) (hf:X.fn x=true\/X.env.scope.names.lookup x=some .local:=by first|exact .inl rfl|exact .inr rfl) :
  DG X (.Name x pos) [i] (λd ρ=>.ok (ρ.set i (some (.val d)))) :=
 ⟨λpins s σ H v u Q I rv ⟨B,F,ρ,d,R,p,q⟩=>pg_n hN hi hx hf pins s σ H v u Q I rv (q (σ.set i (some v)) (R.set p) (by simp) λj hj=>by
  rw[u0B (λz=>hj (by simp[z]))])⟩
def u1E:DGs X [] [] (λds ρ=>match ds with | []=>.ok ρ|_=>.bad) :=
 ⟨λpins s σ H vs us Q I rv ⟨B,F,ρ,ds,R,p,q⟩=>pgs_nil pins s σ H vs us Q I rv (by
  cases p with
  | nil=>exact⟨rfl,q σ R rfl λ_ _=>rfl⟩
  | cons _ _=>exact q.elim)⟩
def u0s {ix jx:List Nat}{tgs:List Expr}{g:D->Rho->Res Rho}{gs:List D->Rho->Res Rho} (h1:DG X e ix g) (h2:DGs X tgs jx gs) (hs:(assignEach (e::tgs) X.env).map (·.2)=assign e X.env::(assignEach tgs X.env).map (·.2):=by rfl) :
  DGs X (e::tgs) (ix++jx) (λds ρ=>match ds with|d::r=>(g d ρ).bind (gs r)|_=>.bad) :=
 ⟨λpins s σ H vs us Q I rv ⟨B,F,ρ,ds,R,p,q⟩=>v2B h1.out h2.out hs pins s σ H vs us Q I rv (by
  cases p with
  | nil=>exact q.elim
  | cons p1 p2 =>
   refine⟨_,_,rfl,B,F,ρ,_,R,p1,Res.all_mono (Res.all_bind.mp q) (λρ1 q1 σ1 R1 l1 k1=>⟨B,F,ρ1,_,R1,p2,Res.all_mono q1 (λρ2 q2 σ2 R2 l2 k2=>q2 σ2 R2 (l2.trans l1) λj hj=>?_) λ_ e=>e⟩) λ_ e=>e⟩
   rw[k2 j λz=>hj (w5 _ z),k1 j λz=>hj (u4 _ z)])⟩
noncomputable def asT (n:Nat):D->Res (List D)
 | .tup ds=>if ds.length=n then .ok ds else .bad
 | _=>.bad
def u2O {k n:Nat}{ix:List Nat}{tgs:List Expr}{gs:List D->Rho->Res Rho} (hc:X.calm=true) (h:DGs X tgs ix gs) (hn:(assignEach tgs X.env).length=n:=by rfl) (hst:(assignEach tgs X.env).findIdx? (·.1)=none:=by rfl) :
  DG X (.Tuple tgs k pos) ix (λd ρ=>(asT n d).bind λds=>gs ds ρ) :=
 ⟨λpins s σ H v u Q I rv ⟨B,F,ρ,d,R,p,q⟩=>pg_tup hc h.out hn hst pins s σ H v u Q I rv (by
  have q1:=Res.all_bind.mp q;cases p with
  | @tup a xs ds hq hs =>
   unfold asT at q1;dsimp only at q1;by_cases z:ds.length=n
   ·rw [if_pos z] at q1
    exact⟨a,xs,rfl,R.fh.seqT hq,hs.length.trans z,B,F,ρ,ds,R,hs,q1⟩
   ·rw[if_neg z] at q1;exact q1.elim
  | _=>exact q1.elim)⟩
def ds_unp {k:Nat}{tgs:List Expr}{ix:List Nat}{g:D->Rho->Res Rho} (he:DE X xq e fe) (hg:DG X (.Tuple tgs k pos') ix g) (hs:swapsWithSole [Expr.Tuple tgs k pos'] e pos.line X.env=pure false:=by rfl) (hw:swappedStores [Expr.Tuple tgs k pos'] e X.env=pure none:=by rfl) :
  DS X xq (.Assign [.Tuple tgs k pos'] e pos) (λρ=>(fe ρ).go ρ λd=>(noE (g d ρ)).go ρ λρ'=>.nx ρ') :=
 DS.of (ps_asg he.out hg.out hs hw) λB F ρ σ H T R q=>⟨B,F,ρ,R,Res.all_mono (u0F q.out) (λd q v F' H' s p=>⟨B,F',ρ,d,R.step s,p,by
  have q1:=u0F q;generalize g d ρ=r at q1;cases r with
  | ok ρ'=>exact λσ' R' l k=>q1 σ' F' H' R'
  | err x=>exact q1
  | bad=>exact q1⟩) λx q=>errOf q⟩
def Stp.rebase {B:Hp×Hp}{F H F' H':Hp} (st:Stp B.1 B.2 F H) (s:Stp F B.2 F' H'):Stp B.1 B.2 F' H' :=
 ⟨st.ff.trans s.ff,s.fh,s.hh,λa n z=>s.no a (st.no a n z) z,λa o u q=>st.nz a o u (s.nz a o u q)⟩
def Rel.rebase {K:W.Frag}{B:Hp×Hp}{ρ:Rho}{σ:St}{F H:Hp} (R:Rel K B ρ σ F H):Rel K (F,B.2) ρ σ F H :=
 ⟨⟨Same.refl F,R.st.fh,R.st.hh,λ_ n _=>n,λ_ _ _ q=>q⟩,R.len,R.val,R.own,R.dis⟩
def Rel.unbase {K:W.Frag}{B:Hp×Hp}{ρ:Rho}{σ:St}{F H F' H':Hp} (st:Stp B.1 B.2 F H) (R:Rel K (F,B.2) ρ σ F' H'):Rel K B ρ σ F' H' :=
 ⟨st.rebase R.st,R.len,R.val,R.own,R.dis⟩
theorem OkS.rebase {K:W.Frag}{B:Hp×Hp}{F H:Hp}{T:Ends}{o:Out} (st:Stp B.1 B.2 F H) (q:OkS K xq B T o):OkS K xq (F,B.2) T o:=⟨by
 have q:=q.out;cases o with
 | nx ρ=>exact λσ F' H' R=>q σ F' H' (R.unbase st)
 | rt d=>exact λv F' H' s p=>q v F' H' (st.rebase s) p
 | bk ρ=>exact λσ F' H' R=>q σ F' H' (R.unbase st)
 | ct ρ=>exact λσ F' H' R=>q σ F' H' (R.unbase st)
 | er x ρ=>exact λv σ F' H' R p=>q v σ F' H' (R.unbase st) p
 | bad=>exact q⟩
noncomputable def forD (g:D->Rho->Res Rho) (tb:Rho->Out):List D->Rho->Out
 | [],ρ=>.nx ρ
 | d::ds,ρ=>(noE (g d ρ)).go ρ λρ1=>match tb ρ1 with
  | .nx ρ2=>forD g tb ds ρ2
  | .ct ρ2=>forD g tb ds ρ2
  | .bk ρ2=>.nx ρ2
  | o=>o
def u0A {iter:Expr}{body:List Stmt}{fi:Rho->Res (List D)}{ix:List Nat}{g:D->Rho->Res Rho}{tb:Rho->Out} (hc:X.calm=true) (hi:DI X xq tg iter fi) (hg:DG X tg ix g) (hb:DB X xq body tb)
  (hp:PassesOwn (model X.prog X.w) X.A X.env X.xe:=by exact PassesOwn.never) (hs:∀x,foldedSetIterable iter X.env x=pure x:=by intro _;rfl) :
  DS X xq (.For tg iter body [] pos) (λρ=>(fi ρ).go ρ λds=>forD g tb ds ρ) :=
 DS.of (v3N hp hc hi.out hg.out hb.out hs) λB F ρ σ H T R q=>⟨B,F,ρ,R,Res.all_mono (u0F q.out) (λds q J F0 H0 s0 fd=>by
  have R0:=R.step s0;obtain⟨C,hC⟩:∃C:Hp×Hp,C=(F0,B.2):=⟨_,rfl⟩;refine⟨λi m σ' H'=>m=ds.length - i/\i<=ds.length/\∃ρ' F',Rel X.K C ρ' σ' F' H'/\OkS X.K xq C T (forD g tb (ds.drop i) ρ'),
   ⟨ds.length,rfl,q9 _,ρ,F0,hC ▸ R0.rebase,hC ▸ OkS.rebase R0.st ⟨q⟩⟩,?_⟩
  rintro i m σ' H' ⟨rfl,hi,ρ',F',R',q'⟩;have e0:Same F0 F':=by have:=R'.st.ff;rw[hC] at this;exact this
  by_cases hlt:i<ds.length
  ·right
   refine⟨fd.go i H' (e0.trans R'.fh) hlt,λσ2 H2=>i+1<=ds.length/\∃ρ2 F2,Rel X.K C ρ2 σ2 F2 H2/\OkS X.K xq C T (forD g tb (ds.drop (i+1)) ρ2),
    λσ2 H2 p=>⟨ds.length - (i+1),by omega,rfl,p.1,p.2⟩,λx H2 y=>?_⟩
   have hd:ds[i]?=some ds[i]:=by simp[hlt]
   obtain⟨F2,s2,p2⟩:=fd.yld i F' H' x H2 _ e0 R'.fh hd y;have eqn:ds.drop i=ds[i]::ds.drop (i+1):=by rw[z1C hlt]
   rw[eqn] at q';have q2:=u0F q'.out;refine⟨C,F2,ρ',_,R'.step s2,p2,?_⟩;generalize g ds[i] ρ'=r at q2;cases r with
   | err x=>exact q2
   | bad=>exact q2
   | ok ρ1 =>
    intro σ3 R3 l3 k3;refine⟨C,F2,ρ1,R3,⟨?_⟩⟩;have q3:(match tb ρ1 with | .nx ρ2=>forD g tb (ds.drop (i+1)) ρ2 | .ct ρ2=>forD g tb (ds.drop (i+1)) ρ2 | .bk ρ2=>.nx ρ2|o=>o).all _ _ _ _ _:=q2
    generalize tb ρ1=o at q3;cases o with
    | nx ρ2=>exact λσ4 F4 H4 R4=>⟨hlt,ρ2,F4,R4,⟨q3⟩⟩
    | ct ρ2=>exact λσ4 F4 H4 R4=>⟨hlt,ρ2,F4,R4,⟨q3⟩⟩
    | bk ρ2=>exact q3
    | rt d=>exact q3
    | er x r=>exact q3
    | bad=>exact q3
  ·left
   have e:i=ds.length:=by omega
   subst e;rw[List.drop_length] at q';exact⟨fd.stop _ H' (e0.trans R'.fh) (z7 _),q'.out σ' F' H' R'⟩) λx q=>errOf q⟩
end
section
variable {X:Cx}
def Inv.lstR {pins:LO}{σ:St}{H:Hp}{s:Shared}{l:Addr}{xs:List V} (I:Inv X pins σ H s) (h:Rd H l (.lst xs)) :
  xs.length<=sizeLine/\∃(its:List Value) (n:Nat),Vals xs its/\xs.length=its.length/\s.heap.get? l=some { cls:=.type "list",data:=.seq its.toArray n }:=by
 obtain⟨z,its,n,r,e⟩:=h.ok I.hok;exact⟨z,its,n,r,r.length,e⟩
def rCatR:R2:=λx y H Q=>∃l b xs zs,x=.ref l/\y=.ref b/\Rd H l (.lst xs)/\Rd H b (.lst zs)/\xs.length+zs.length<=sizeLine/\∀p,H p=none->Q (.ref p) (upd H p (.lst (xs++zs)))
def op_catR:OpR X (binaryOp .Add) rCatR:=by
 intro pins s σ H x y v u Q I rx ry h;obtain⟨l,b,xs,zs,rfl,rfl,hH,hB,hz,q⟩:=h;cases rx;cases ry;obtain⟨z,its,n,r,hl,e⟩:=I.lstR hH;obtain⟨z2,its2,n2,r2,hl2,e2⟩:=I.lstR hB;refine PySem.P.add_list e e2 ?_ (by rw[y1,y1,<- hl,<- hl2];exact hz)
 rw[show its.toArray++its2.toArray=(its++its2).toArray by simp]
 exact⟨.ref _,_,I.lnew (t':=s.toks) (r.append r2) (by rw[u7];exact hz),rfl,q _ I.fresh⟩
noncomputable def gd {α:Type} (c:Prop) [Decidable c] (r:Res α):Res α:=if c then r else .bad
def u3D {α:Type}{c:Prop} [Decidable c] {r:Res α}{P:α->Prop}{E:D->Prop} (h:(gd c r).all P E):c/\r.all P E:=by
 unfold gd at h;by_cases q:c
 ·rw[if_pos q] at h;exact⟨q,h⟩
 ·rw[if_neg q] at h;exact h.elim
@[simp] theorem u0r {α:Type}{c:Prop} [Decidable c] {r:Res α} (h:c):gd c r=r:=if_pos h
noncomputable def dAdd:D->D->Res D
 | .int i,.int j=>.ok (.int (i+j))
 | .str x,.str y=>gd (x.length+y.length<=sizeLine) (.ok (.str (x++y)))
 | .lst xs,.lst ys=>gd (xs.length+ys.length<=sizeLine) (.ok (.lst (xs++ys)))
 | _,_=>.bad
def u4B (x y:Str):(x++y).length=x.length+y.length:=by
 show(x.cps++y.cps).size=_;rw[Array.size_append];rfl
def u1g:OpR X (binaryOp .Add) (rD X.K dAdd):=by
 intro pins s σ H x y v u Q I rx ry z996;obtain⟨F,dx,dy,fh,px,py,q⟩:=z996;cases px with
 | int i =>
  cases py with
  | int j=>exact op_add pins s σ H _ _ v u Q I rx ry ⟨i,j,rfl,rfl,q _ F H (Stp.refl fh) (.int _)⟩
  | _=>exact q.elim
 | str hx =>
  cases py with
  | str hy =>
   obtain⟨hz,q⟩:=u3D q;exact u9E pins s σ H _ _ v u Q I rx ry ⟨_,_,rfl,rfl,hz,q _ F H (Stp.refl fh) (.str (by rw[u4B];exact hz))⟩
  | _=>exact q.elim
 | lst hx rx' =>
  cases py with
  | lst hy ry' =>
   obtain⟨hz,q⟩:=u3D q;exact op_catR pins s σ H _ _ v u Q I rx ry ⟨_,_,_,_,rfl,rfl,hx.same fh,hy.same fh,by rw[rx'.length,ry'.length];exact hz,λp n =>
    q _ _ _ (Stp.new fh n) (.lst (.inl u0g) ((rx'.append ry').same (Stp.new fh n).ff))⟩
  | _=>exact q.elim
 | _=>exact q.elim
noncomputable def dI (C:Int->Int->Prop) [∀i j,Decidable (C i j)] (g:Int->Int->D):D->D->Res D
 | .int i,.int j=>gd (C i j) (.ok (g i j))
 | _,_=>.bad
def v2L {f:Value->Value->Sem Value}{C:Int->Int->Prop} [∀i j,Decidable (C i j)] {g:Int->Int->V}{g':Int->Int->D} (h:OpR X f (rI C g)) (hg:∀F i j,Rp X.K F (g i j) (g' i j)):OpR X f (rD X.K (dI C g')):=by
 intro pins s σ H x y v u Q I rx ry z997;obtain⟨F,dx,dy,fh,px,py,q⟩:=z997;cases px with
 | int i =>
  cases py with
  | int j =>
   obtain⟨hz,q⟩:=u3D q;exact h pins s σ H _ _ v u Q I rx ry ⟨i,j,rfl,rfl,hz,q _ F H (Stp.refl fh) (hg F i j)⟩
  | _=>exact q.elim
 | _=>exact q.elim
noncomputable def dI0 (g:Int->Int->D):D->D->Res D
 | .int i,.int j=>.ok (g i j)
 | _,_=>.bad
def u6A {f:Value->Value->Sem Value}{g:Int->Int->V}{g':Int->Int->D} (h:OpR X f (rI0 g)) (hg:∀F i j,Rp X.K F (g i j) (g' i j)):OpR X f (rD X.K (dI0 g')):=by
 intro pins s σ H x y v u Q I rx ry z998;obtain⟨F,dx,dy,fh,px,py,q⟩:=z998;cases px with
 | int i =>
  cases py with
  | int j=>exact h pins s σ H _ _ v u Q I rx ry ⟨i,j,rfl,rfl,q _ F H (Stp.refl fh) (hg F i j)⟩
  | _=>exact q.elim
 | _=>exact q.elim
noncomputable instance (i j:Int):Decidable (CMul i j):=by unfold CMul;infer_instance
noncomputable instance (i j:Int):Decidable (CDivB i j):=by unfold CDivB;infer_instance
noncomputable instance (i j:Int):Decidable (CPow i j):=by unfold CPow;infer_instance
noncomputable abbrev dSub:=dI0 λi j=>.int (i - j)
noncomputable abbrev dMul:=dI CMul λi j=>.int (i*j)
noncomputable abbrev dDiv:=dI CDivB λi j=>.int (i / j)
noncomputable abbrev dMod:=dI (λ_ j=>0<j) λi j=>.int (i%j)
noncomputable abbrev dPow:=dI CPow λi j=>.int (i^j.toNat)
noncomputable abbrev dLt:=dI0 λi j=>.bl (decide (i<j))
noncomputable abbrev dLe:=dI0 λi j=>.bl (decide (i<=j))
noncomputable abbrev dGt:=dI0 λi j=>.bl (decide (j<i))
noncomputable abbrev dGe:=dI0 λi j=>.bl (decide (j<=i))
def o_sub:OpR X (binaryOp .Sub) (rD X.K dSub):=u6A op_sub λ_ _ _=>.int _
def o_mul:OpR X (binaryOp .Mult) (rD X.K dMul):=v2L op_mul λ_ _ _=>.int _
def u9G:OpR X (binaryOp .FloorDiv) (rD X.K dDiv):=v2L v2J λ_ _ _=>.int _
def u1A:OpR X (binaryOp .Mod) (rD X.K dMod):=v2L op_mod λ_ _ _=>.int _
def o_pow:OpR X (binaryOp .Pow) (rD X.K dPow):=v2L op_pow λ_ _ _=>.int _
def o_lt:OpR X (compareOp .Lt) (rD X.K dLt):=u6A op_lt λ_ _ _=>.bl _
def o_le:OpR X (compareOp .LtE) (rD X.K dLe):=u6A op_le λ_ _ _=>.bl _
def o_gt:OpR X (compareOp .Gt) (rD X.K dGt):=u6A op_gt λ_ _ _=>.bl _
def o_ge:OpR X (compareOp .GtE) (rD X.K dGe):=u6A op_ge λ_ _ _=>.bl _
noncomputable def isN:D->Bool
 | .non=>true
 | _=>false
noncomputable def dIs:D->D->Res D
 | d,.non=>.ok (.bl (isN d))
 | _,_=>.bad
noncomputable def dIsNot:D->D->Res D
 | d,.non=>.ok (.bl (!isN d))
 | _,_=>.bad
theorem Rp.isN {K:W.Frag}{F:Hp}{v:V}{d:D} (h:Rp K F v d):decide (v=.non)=L2.isN d:=by
 cases h<;>first|rfl|exact decide_eq_false λe=>nomatch e
def o_is:OpR X (compareOp .Is) (rD X.K dIs):=by
 intro pins s σ H x y v u Q I rx ry z999;obtain⟨F,dx,dy,fh,px,py,q⟩:=z999;cases py with
 | non =>
  have q':∀v F' H',Stp F H F' H'->Rp X.K F' v (.bl (isN dx))->Q v H':=by cases dx<;>exact q
  exact op_isN pins s σ H _ _ v u Q I rx ry ⟨rfl,q' _ F H (Stp.refl fh) (by rw[px.isN];exact .bl _)⟩
 | _=>cases dx<;>exact q.elim
def u4f:OpR X (compareOp .IsNot) (rD X.K dIsNot):=by
 intro pins s σ H x y v u Q I rx ry z9100;obtain⟨F,dx,dy,fh,px,py,q⟩:=z9100;cases py with
 | non =>
  have q':∀v F' H',Stp F H F' H'->Rp X.K F' v (.bl (!isN dx))->Q v H':=by cases dx<;>exact q
  exact op_notN pins s σ H _ _ v u Q I rx ry ⟨rfl,q' _ F H (Stp.refl fh) (by rw[px.isN];exact .bl _)⟩
 | _=>cases dx<;>exact q.elim
mutual
noncomputable def D.py:D->Option PyData
 | .non=>some .none
 | .bl b=>some (.bool b)
 | .int i=>some (.int i)
 | .str z=>some (.str z)
 | .lst ds=>(D.pys ds).map .list
 | .tup ds=>(D.pys ds).map .tuple
 | _=>none
noncomputable def D.pys:List D->Option (List PyData)
 | []=>some []
 | d::ds=>match D.py d,D.pys ds with
  | some a,some as=>some (a::as)
  | _,_=>none
end
mutual
theorem Rp.rd {K:W.Frag}{H:Hp}:∀{v:V}{d:D}{a:PyData},Rp K H v d->d.py=some a->RdV K H v a
 | _,_,_,.non,e=>by simp only[D.py] at e;cases e;exact .non
 | _,_,_,.bl b,e=>by simp only[D.py] at e;cases e;exact .bl b
 | _,_,_,.int i,e=>by simp only[D.py] at e;cases e;exact .int i
 | _,_,_,.str _,e=>by simp only[D.py] at e;cases e;exact .str _
 | _,_,_,.ty _,e=>by simp only[D.py] at e;cases e
 | _,_,_,.lst (ds:=ds) hq hs,e=>by
  simp only[D.py] at e;cases q:D.pys ds with
  | none=>rw[q] at e;cases e
  | some as=>rw[q] at e;cases e;exact .lst (.inl hq) (Rps.rd hs q)
 | _,_,_,.tup (ds:=ds) hq hs,e=>by
  simp only[D.py] at e;cases q:D.pys ds with
  | none=>rw[q] at e;cases e
  | some as=>rw[q] at e;cases e;exact .tup hq (Rps.rd hs q)
 | _,_,_,.dK _ _,e=>by simp only[D.py] at e;cases e
 | _,_,_,.ins _ _,e=>by simp only[D.py] at e;cases e
 | _,_,_,.exc _ _ _,e=>by simp only[D.py] at e;cases e
 | _,_,_,.dn _ _,e=>by simp only[D.py] at e;cases e
 | _,_,_,.hdl _,e=>by simp only[D.py] at e;cases e
theorem Rps.rd {K:W.Frag}{H:Hp}:∀{vs:List V}{ds:List D}{as:List PyData},Rps K H vs ds->D.pys ds=some as->RdVs K H vs as
 | _,_,_,.nil,e=>by simp only[D.pys] at e;cases e;exact .nil
 | _,_,_,.cons (d:=d) (ds:=ds) h hs,e=>by
  simp only[D.pys] at e;cases q:d.py with
  | none=>rw[q] at e;cases e
  | some a =>
   cases q2:D.pys ds with
   | none=>rw[q,q2] at e;cases e
   | some as=>rw[q,q2] at e;cases e;exact .cons (Rp.rd h q) (Rps.rd hs q2)
end
noncomputable def cmpD (d:D):Res PyData:=match d.py with
 | some a=>gd (SeqAt.shaped a=true) (.ok a)
 | none=>.bad
set_option tactic.hygienic true in
def u3k {d:D}{P:PyData->Prop}{E:D->Prop} (h:(cmpD d).all P E):∃a,d.py=some a/\SeqAt.shaped a=true/\P a:=by
 unfold cmpD at h;split at h
 ·rename_i a q;obtain⟨hz,h⟩:=u3D h;exact⟨a,q,hz,h⟩
 ·exact h.elim
noncomputable def dEq (x y:D):Res D:=(cmpD x).bind λa=>(cmpD y).bind λb=>.ok (.bl (PyData.eqv a b))
noncomputable def dNe (x y:D):Res D:=(cmpD x).bind λa=>(cmpD y).bind λb=>.ok (.bl (!PyData.eqv a b))
def o_eq (hu:X.A.units+64<cLine):OpR X (compareOp .Eq) (rD X.K dEq):=by
 intro pins s σ H x y v u Q I rx ry z9101;obtain⟨F,dx,dy,fh,px,py,q⟩:=z9101;obtain⟨a,ea,sa,q⟩:=u3k (Res.all_bind.mp q);obtain⟨b,eb,sb,q⟩:=u3k (Res.all_bind.mp q);exact op_eqD hu pins s σ H _ _ v u Q I rx ry ⟨a,b,(px.rd ea).same fh,(py.rd eb).same fh,sa,sb,q _ F H (Stp.refl fh) (.bl _)⟩
def o_ne (hu:X.A.units+64<cLine):OpR X (compareOp .NotEq) (rD X.K dNe):=by
 intro pins s σ H x y v u Q I rx ry z9102;obtain⟨F,dx,dy,fh,px,py,q⟩:=z9102;obtain⟨a,ea,sa,q⟩:=u3k (Res.all_bind.mp q);obtain⟨b,eb,sb,q⟩:=u3k (Res.all_bind.mp q);exact op_neD hu pins s σ H _ _ v u Q I rx ry ⟨a,b,(px.rd ea).same fh,(py.rd eb).same fh,sa,sb,q _ F H (Stp.refl fh) (.bl _)⟩
noncomputable def dIx:D->D->Res D
 | .lst ds,.int i=>match atI ds i with
  | some d=>.ok d
  | none=>.bad
 | .tup ds,.int i=>match atI ds i with
  | some d=>.ok d
  | none=>.bad
 | .str z,.int i=>match atI z.cps.toList i with
  | some c=>.ok (.str ⟨#[c]⟩)
  | none=>.bad
 | _,_=>.bad
def v4k {K:W.Frag}{F:Hp}{xs:List V}{ds:List D}{i:Int}{d:D} (r:Rps K F xs ds) (h:atI ds i=some d):∃v,atI xs i=some v/\Rp K F v d:=by
 unfold atI at h |-
 rw[r.length];cases q:ixN ds.length i with
 | none=>rw[q] at h;cases h
 | some j=>rw[q] at h;exact r.get h
set_option tactic.hygienic true in
def x_ix:IxR X (rD X.K dIx):=by
 intro value slice pins s σ H x y v u Q I rx ry z9103 hsub;obtain⟨F,dx,dy,fh,px,py,q⟩:=z9103;cases py with
 | int i =>
  cases px with
  | lst hx rs =>
   rename_i ds;cases e:atI ds i with
   | none=>simp only[dIx,e] at q;exact q.elim
   | some d =>
    simp only[dIx,e] at q;obtain⟨w,h1,h2⟩:=v4k rs e;exact ix_list value slice pins s σ H _ _ v u Q I rx ry ⟨_,_,i,w,rfl,rfl,.inl (hx.same fh),h1,q _ F H (Stp.refl fh) h2⟩ hsub
  | tup hx rs =>
   rename_i ds;cases e:atI ds i with
   | none=>simp only[dIx,e] at q;exact q.elim
   | some d =>
    simp only[dIx,e] at q;obtain⟨w,h1,h2⟩:=v4k rs e;exact ix_tup value slice pins s σ H _ _ v u Q I rx ry ⟨_,_,i,w,rfl,rfl,fh.seqT hx,h1,q _ F H (Stp.refl fh) h2⟩ hsub
  | str hz =>
   rename_i z;cases e:atI z.cps.toList i with
   | none=>simp only[dIx,e] at q;exact q.elim
   | some c =>
    simp only[dIx,e] at q;exact ix_str value slice pins s σ H _ _ v u Q I rx ry ⟨_,i,c,rfl,rfl,hz,e,q _ F H (Stp.refl fh) (.str u4d)⟩ hsub
  | _=>exact q.elim
 | _=>cases px<;>exact q.elim
end
noncomputable def items:D->Res (List D)
 | .lst ds=>.ok ds
 | .tup ds=>.ok ds
 | .str z=>.ok (chars z)
 | _=>.bad
section
variable {X:Cx}{xq:XQ}{tg l:Expr}{fl:Rho->Res D}{fa:Rho->Res (List D)}{pos p:Pos}
def u0w (hl:DE X xq l fl):DI X xq tg l (λρ=>(fl ρ).bind items):=⟨λpins s σ H R I z9=>un5 z9 λB F ρ R' q=>by
 have q0:=Res.all_bind.mp q;cases e:fl ρ with
 | bad=>rw[e] at q0;exact q0.elim
 | err x =>
  rw[e] at q0;exact v0z hl.out pins s σ H R I ⟨B,F,ρ,R',by rw[e];exact q0⟩
 | ok d =>
  rw[e] at q0;have go:∀{T:VK},(∀v F' H',Stp F H F' H'->Rp X.K F' v d->T v H')->liftE X.K xq fl σ H T:=λk=>⟨B,F,ρ,R',by rw[e];exact k⟩
  cases d with
  | lst ds =>
   refine v0z hl.out pins s σ H R I (go λv F' H' st p=>?_)
   cases p with
   | lst hq hs=>exact⟨_,rfl,⟨_,.inl (hq.same st.fh)⟩,q0 _ F' H' st (Feed.list (.inl hq) hs)⟩
  | tup ds =>
   refine pi_tup hl.out pins s σ H R I (go λv F' H' st p=>?_)
   cases p with
   | tup hq hs=>exact⟨_,rfl,⟨_,st.fh.seqT hq⟩,q0 _ F' H' st (Feed.tup hq hs)⟩
  | str z =>
   refine pi_str hl.out pins s σ H R I (go λv F' H' st p=>?_)
   cases p with
   | str hz=>exact⟨z,rfl,q0 _ F' H' st (Feed.str z)⟩
  | _=>exact q0.elim⟩
noncomputable def rng1:List D->Res (List D)
 | [.int j]=>gd (-(2^62)<=j/\j<2^62) (.ok (intL 0 j.toNat))
 | _=>.bad
def rps1 {K:W.Frag}{F:Hp}{vs:List V}{d:D} (h:Rps K F vs [d]):∃v,vs=[v]/\Rp K F v d:=by
 cases h with
 | cons h hs=>cases hs;exact⟨_,rfl,h⟩
def rps2 {K:W.Frag}{F:Hp}{vs:List V}{d e:D} (h:Rps K F vs [d,e]):∃v w,vs=[v,w]/\Rp K F v d/\Rp K F w e:=by
 cases h with
 | cons h hs=>obtain⟨w,rfl,q⟩:=rps1 hs;exact⟨_,w,rfl,h,q⟩
set_option tactic.hygienic true in
def u1e {a:Expr} (hm:X.mg "range"=none) (ha:DA X xq [a] fa) (hg:Gl X "range":=by rfl):DI X xq tg (.Call (.Name "range" p) [a] [] pos) (λρ=>(fa ρ).bind rng1) :=
 ⟨λpins s σ H R I z9=>un5 z9 λB F ρ R' q=>v0y hg hm ha.out (u0v (u0q ha.ns).1) pins s σ H R I (seqA R' q λds vs F1 H1 s1 R1 p1 q1=>by
  unfold rng1 at q1;split at q1
  ·rename_i j
   obtain⟨⟨h1,h2⟩,q2⟩:=u3D q1;obtain⟨v,rfl,pv⟩:=rps1 p1;cases pv;exact⟨j,rfl,h1,h2,q2 _ F1 H1 s1 (Feed.rng 0 _)⟩
  ·exact q1.elim)⟩
noncomputable def enumL (ds:List D):List D:=ds.zipIdx.map λp=>.tup [.int (p.2:Nat),p.1]
def Feed.enum {K:W.Frag}{F:Hp}{a:Addr}{xs:List V}{ds:List D} (h:SqL K F a xs) (r:Rps K F xs ds):Feed K F (Ite K a) (enumL ds) where
 go i H e hi:=by
  have hi':i<xs.length:=by rw[r.length];simpa[enumL] using hi
  exact⟨xs,xs[i],e.seq h,by simp[hi']⟩
 yld i F1 H x H' d e1 e2 hd y:=by
  obtain⟨p,v,hp,rfl,rfl,y⟩:=y;have hv:xs[i]?=some v:=y xs ((e1.trans e2).seq h);have hd2:∃d0,ds[i]?=some d0/\d=.tup [.int (i:Nat),d0]:=by
   unfold enumL at hd;rw[y4,List.getElem?_zipIdx] at hd;cases q:ds[i]? with
   | none=>rw[q] at hd;cases hd
   | some d0=>rw[q] at hd;simp at hd;exact⟨d0,rfl,hd.symm⟩
  obtain⟨d0,q0,rfl⟩:=hd2;obtain⟨w,hw,pw⟩:=r.get q0;rw[hv] at hw;cases hw;have s:=Stp.new (o:=.tup [.int (i:Nat),v]) e2 hp;exact⟨_,s,.tup (.inl (.inl u0g)) (.cons (.int _) (.cons (pw.same (e1.trans s.ff)) .nil))⟩
 stop i H e hi:=⟨xs,e.seq h,by rw[r.length];simpa[enumL] using hi⟩
noncomputable def enum1:List D->Res (List D)
 | [.lst ds]=>.ok (enumL ds)
 | _=>.bad
def v1D {es:List Expr}{k:Nat}{tp:Pos}{a:Expr} (hm:X.mg "enumerate"=none) (ha:DA X xq [a] fa) (hg:Gl X "enumerate":=by rfl):DI X xq (.Tuple es k tp) (.Call (.Name "enumerate" p) [a] [] pos) (λρ=>(fa ρ).bind enum1) :=
 ⟨λpins s σ H R I z9=>un5 z9 λB F ρ R' q=>pi_enum hg hm ha.out (u0v (u0q ha.ns).1) pins s σ H R I (seqA R' q λds vs F1 H1 s1 R1 p1 q1=>by
  unfold enum1 at q1;split at q1
  ·obtain ⟨v,rfl,pv⟩:=rps1 p1
   cases pv with
   | lst hq hs=>exact⟨_,_,rfl,.inl (hq.same R1.fh),q1 _ F1 H1 s1 (Feed.enum (.inl hq) hs)⟩
  ·exact q1.elim)⟩
end
noncomputable def rhoC (k:Nat) (outs:List Nat) (ρ:Rho):Rho:=List.replicate k none++outs.map λj=>(ρ[j]?).join
set_option tactic.hygienic true in
def getC {α:Type}{k:Nat}{outs:List Nat}{l:List (Option α)}{i:Nat}{x:α} (h:(List.replicate k none++outs.map λj=>(l[j]?).join)[i]?=some (some x)):k<=i/\∃j,outs[i - k]?=some j/\l[j]?=some (some x):=by
 rw[z0G] at h;split at h
 ·rename_i q
  rw[t4] at h;split at h<;>simp at h
 ·rename_i q
  simp only[z0B] at h q;refine⟨by omega,?_⟩
  rw[y4] at h;cases e:outs[i - k]? with
  | none=>rw[e] at h;cases h
  | some j =>
   rw[e] at h;refine⟨j,rfl,?_⟩;simp only[Option.map_some,Option.some.injEq] at h;cases e2:l[j]? with
   | none=>rw[e2] at h;cases h
   | some y=>rw[e2] at h;simpa using h
def atC {α:Type}{k:Nat}{outs:List Nat}{l:List (Option α)}{i j:Nat} (hi:k<=i) (h:outs[i - k]?=some j):(List.replicate k none++outs.map λj=>(l[j]?).join)[i]?=some ((l[j]?).join):=by
 rw[t9 (by simpa using hi),z0B,y4,h];rfl
def Rel.comp {K:W.Frag}{B:Hp×Hp}{ρ:Rho}{σ:St}{F H:Hp}{k:Nat}{outs:List Nat} (R:Rel K B ρ σ F H) (nd:outs.Nodup):Rel K B (rhoC k outs ρ) (stC k outs σ) F H where
 st:=R.st
 len:=by unfold stC rhoC;simp
 val i d e:=by
  obtain⟨hi,j,h1,h2⟩:=getC e;obtain⟨v,q1,q2⟩:=R.val j d h2;exact⟨v,by unfold stC;rw[atC hi h1,q1];rfl,q2⟩
 own i o e:=by
  obtain⟨hi,j,h1,h2⟩:=getC e;obtain⟨a,h,q1,q2⟩:=R.own j o h2;exact⟨a,h,by unfold stC;rw[atC hi h1,q1];rfl,q2⟩
 dis i i' o u a e e' x y:=by
  obtain⟨hi,j,h1,h2⟩:=getC e;obtain⟨hi',j',h1',h2'⟩:=getC e';obtain⟨_,jx,g1,g2⟩:=getC (l:=σ) x;obtain⟨_,jy,g1',g2'⟩:=getC (l:=σ) y;rw[h1] at g1;cases g1;rw[h1'] at g1';cases g1';have ej:=R.dis j j' o u a h2 h2' g2 g2';subst ej
  have:=(List.getElem?_inj (y6.mp h1).1 nd).mp (h1.trans h1'.symm)
  omega
noncomputable def compD (g:D->Rho->Res Rho) (fT:Rho->Res Bool) (fe:Rho->Res D) (ρ:Rho):List D->Res (List D)
 | []=>.ok []
 | d::ds=>(noE (g d ρ)).bind λρ1=>(noE (fT (frz ρ1))).bind λb=>if b=true then (noE (fe ρ1)).bind λy=>(compD g fT fe ρ ds).bind λys=>.ok (y::ys) else compD g fT fe ρ ds
def xqF:XQ:=λ_ _ _=>False
structure DF (X:Cx) (xq:XQ) (es:List Expr) (f:Rho->Res Bool):Prop where
 out:PIf X es (liftT X.K xq f)
def u3e {α:Type}{r:Res α}{P:α->Prop}{E E':D->Prop} (h:(noE r).all P E):r.all P E':=by
 cases r with
 | ok a=>exact h
 | err x=>exact h.elim
 | bad=>exact h.elim
section
variable {X:Cx}{xq:XQ}{tg iter elt c:Expr}{fA:Rho->Res Bool}{fe:Rho->Res D}{fi:Rho->Res (List D)}{g:D->Rho->Res Rho}{ifs:List Expr}{scope:Scope}{pos:Pos}{ix:List Nat}
def u2l:DF X xq [] (λ_=>.ok true):=⟨λpins s σ H Q I z9=>un5 z9 λB F ρ R q=>pif_nil pins s σ H Q I (q H (Stp.refl R.fh))⟩
def u5j (h:DT X xq c fA):DF X xq [c] fA:=⟨pif_one h.out⟩
def u6Q {K:W.Frag}{k:Nat}{outs:List Nat} (nd:outs.Nodup) (hix:∀j∈ix,j<k) {σ:St}{H:Hp}{Q:VK} (h:liftN K xq (λρ=>(fi ρ).bind λds=>gd (ds.length<=sizeLine) ((compD g fA fe (rhoC k outs ρ) ds).bind λys=>.ok (.l ys))) σ H Q) :
  tComp k outs (liftI K xq fi) (liftG K ix g) (liftT K xqF fA) (liftE K xqF fe) σ H Q:=by
 obtain⟨B,F,ρ,R,q⟩:=h;exact
  ⟨B,F,ρ,R,Res.all_mono (Res.all_bind.mp q) (λds q1 J F0 H0 s0 fd=>by
   obtain⟨hz,q1⟩:=u3D q1
   let T:List D->Prop:=λys=>∀a h F' H',Stp F H F' H'->F' a=none->H a=none->H' a=some h->Ro K F' a h (.l ys)->Q (.ref a) H'
   have q2:(compD g fA fe (rhoC k outs ρ) ds).all T (ErrK K xq B ρ σ):=Res.all_mono (Res.all_bind.mp q1) (λ_ z=>z) λ_ z=>z
   clear q1;refine⟨λi m ys H'=>m=ds.length - i/\i<=ds.length/\∃F' es,Stp F H F' H'/\Same F0 F'/\Rps K F' ys es/\es.length<=i/\(compD g fA fe (rhoC k outs ρ) (ds.drop i)).all (λr=>T (es++r)) (ErrK K xq B ρ σ),
    ⟨ds.length,rfl,q9 _,F0,[],s0,Same.refl _,.nil,z7 _,q2⟩,?_⟩
   rintro i m ys H' ⟨rfl,hi',F',es,st,e0,rs,hl,q3⟩;refine⟨by rw[rs.length];omega,?_⟩
   by_cases hlt:i<ds.length
   ·right
    refine⟨fd.go i H' (e0.trans st.fh) hlt,λys' H2=>i+1<=ds.length/\∃F2 es',Stp F H F2 H2/\Same F0 F2/\Rps K F2 ys' es'/\es'.length<=i+1/\(compD g fA fe (rhoC k outs ρ) (ds.drop (i+1))).all (λr=>T (es'++r)) (ErrK K xq B ρ σ),
     λys' H2 p=>⟨ds.length - (i+1),by omega,rfl,p.1,p.2⟩,λx H2 y=>?_⟩
    have hd:ds[i]?=some ds[i]:=by simp[hlt]
    obtain⟨F2,s2,p2⟩:=fd.yld i F' H' x H2 _ e0 st.fh hd y;rw[z1C hlt] at q3;have R2:Rel K B (rhoC k outs ρ) (stC k outs σ) F2 H2:=((R.step st).step s2).comp nd;have q4:=Res.all_bind.mp (show((noE (g ds[i] (rhoC k outs ρ))).bind _).all _ _ from q3)
    refine⟨B,F2,_,_,R2,p2,u3e (Res.all_mono q4 (λρ1 q5 σ3 R3 l3 k3=>⟨?_,?_⟩) λ_ z=>z)⟩
    ·apply List.ext_getElem?
     intro j;rw[List.getElem?_drop,k3 (k+j) λz=>by have:=hix _ z;omega]
     unfold stC;rw[t9 (by simp),z0B,Nat.add_sub_cancel_left]
    ·refine ⟨B,F2,ρ1,R3,u3e (Res.all_mono (Res.all_bind.mp q5) (fun b q6 H3 s3=>?_) fun _ z=>z)⟩
     have R4:=R3.step s3;cases b with
     | false=>exact⟨hlt,F2,es,(st.trans s2).trans s3,e0.trans s2.ff,rs.same s2.ff,by omega,q6⟩
     | true =>
      refine⟨B,F2,ρ1,R4,u3e (Res.all_mono (Res.all_bind.mp (show((noE (fe ρ1)).bind _).all _ _ from q6)) (λd q7 v F4 H4 s4 p4=>?_) λ_ z=>z)⟩
      refine⟨hlt,F4,es++[d],((st.trans s2).trans s3).trans s4,(e0.trans s2.ff).trans s4.ff,((rs.same s2.ff).same s4.ff).append (.cons p4 .nil),by simp;omega,?_⟩
      exact Res.all_mono (Res.all_bind.mp q7) (λr z=>by
       have z':T (es++d::r):=z;simpa using z') λ_ z=>z
   ·left
    have e:i=ds.length:=by omega
    subst e;rw[List.drop_length] at q3;have q4:T es:=by simpa using(show T (es++[]) from q3)
    exact⟨fd.stop _ H' (e0.trans st.fh) (z7 _),λp n=>q4 p _ F' _ (st.trans (Stp.only st.fh (u0h n))) (st.fh.free n) (st.hh.free n) u0g (.l rs)⟩) λ_ e=>e⟩
def u0Y (own:List Str) (outs:List Nat) (hc:X.calm=true) (ok:CompOk X.env.scope X.N own outs scope) (hi:DI X xq tg iter fi) (hg:∀{cl C s H fp},DG (cxC X own outs scope cl C s H fp) tg ix g) (hf:∀{cl C s H fp},DF (cxC X own outs scope cl C s H fp) xqF ifs fA) (he:∀{cl C s H fp},DE (cxC X own outs scope cl C s H fp) xqF elt fe)
  (nd:outs.Nodup:=by decide) (hix:∀j∈ix,j<own.length:=by decide) (hs:∀x,foldedSetIterable iter X.env x=pure x:=by intro _;rfl) :
  DN X xq (.ListComp elt [⟨tg,iter,ifs,0⟩] scope pos) (λρ=>(fi ρ).bind λds=>gd (ds.length<=sizeLine) ((compD g fA fe (rhoC own.length outs ρ) ds).bind λys=>.ok (.l ys))) :=
 ⟨λpins s σ H Q I h=>pe_comp own outs hc ok hi.out (g:=liftG X.K ix g) (ti:=liftT X.K xqF fA) (te:=liftE X.K xqF fe) (λ{cl C s H fp}=>hg.out) (λ{cl C s H fp}=>hf.out) (λ{cl C s H fp}=>he.out) hs pins s σ H Q I (u6Q nd hix h)⟩
end
section
variable {X:Cx}{xq:XQ}{a b e o:Expr}{es:List Expr}{fe:Rho->Res D}{fs:Rho->Res (List D)}{x:Str}{p pos pos' apos cpos:Pos}
def d_B {id:String}{g:FD} (hc:CallR X (.builtin id) (rDs X.K g)) (hm:X.mg x=none) (hv:bootBuiltins x=some (.builtin id)) (ha:DA X xq (e::es) fs) (hg:Gl X x:=by rfl) (hn:x≠"__name__":=by decide) (hdb:(x==("__debug__":Str))=false:=by decide) :
  DE X xq (.Call (.Name x p) (e::es) [] pos) (λρ=>(fs ρ).bind λds=>noE (g ds)) :=
 DE.of (pcB hc hg hm hv ha.out hn hdb ha.ns) λB F ρ σ H Q R q=>seqA R q λds vs F1 H1 s1 R1 p1 q1=>⟨F1,ds,R1.fh,p1,doneN s1 q1⟩
def d_T {T:String}{g:FD} (hc:CallR X (.type T) (rDs X.K g)) (hm:X.mg x=none) (hv:bootBuiltins x=some (.type T)) (ha:DA X xq (e::es) fs) (hg:Gl X x:=by rfl) (hn:x≠"__name__":=by decide) (hdb:(x==("__debug__":Str))=false:=by decide) :
  DE X xq (.Call (.Name x p) (e::es) [] pos) (λρ=>(fs ρ).bind λds=>noE (g ds)) :=
 DE.of (pcT hc hg hm hv ha.out hn hdb ha.ns) λB F ρ σ H Q R q=>seqA R q λds vs F1 H1 s1 R1 p1 q1=>⟨F1,ds,R1.fh,p1,doneN s1 q1⟩
noncomputable def gLen:List D->Res D
 | [.str z]=>.ok (.int z.length)
 | [.lst ds]=>.ok (.int ds.length)
 | [.tup ds]=>.ok (.int ds.length)
 | _=>.bad
def u1z:CallR X (.builtin "len") (rDs X.K gLen):=by
 intro pins s σ H xs us Q I r z9104;obtain⟨F,ds,fh,ps,q⟩:=z9104;unfold gLen at q;split at q
 ·obtain ⟨v,rfl,pv⟩:=rps1 ps
  cases pv with
  | str hz=>exact u5T pins s σ H _ us Q I r ⟨_,_,rfl,⟨hz,rfl⟩,q _ F H (Stp.refl fh) (.int _)⟩
 ·obtain ⟨v,rfl,pv⟩:=rps1 ps
  cases pv with
  | lst hq hs=>exact u5T pins s σ H _ us Q I r ⟨_,_,rfl,.inl ⟨_,.inl (hq.same fh),rfl⟩,q _ F H (Stp.refl fh) (by rw[hs.length];exact .int _)⟩
 ·obtain ⟨v,rfl,pv⟩:=rps1 ps
  cases pv with
  | tup hq hs=>exact u5T pins s σ H _ us Q I r ⟨_,_,rfl,.inr ⟨_,fh.seqT hq,rfl⟩,q _ F H (Stp.refl fh) (by rw[hs.length];exact .int _)⟩
 ·exact q.elim
noncomputable def tyN:D->Option String
 | .non=>some "NoneType"
 | .bl _=>some "bool"
 | .int _=>some "int"
 | .str _=>some "str"
 | .lst _=>some "list"
 | .tup _=>some "tuple"
 | .dct _=>some "dict"
 | _=>none
noncomputable def isT (t T:String):Option Bool:=if T∈["bool","int","str","list","tuple","dict"] then some (t==T||(t=="bool"&&T=="int")) else none
set_option tactic.hygienic true in
def v0Z (K:W.Frag) {d:D}{t T:String}{b:Bool} (ht:tyN d=some t) (h:isT t T=some b):W.kitOne K (.type t) (.type T)=some b:=by
 unfold isT at h;split at h
 ·rename_i hT
  simp only[y0,z0D,or_false] at hT;cases h;cases d<;>simp only[tyN,Option.some.injEq,reduceCtorEq] at ht<;>subst ht<;>rcases hT with rfl|rfl|rfl|rfl|rfl|rfl<;>rfl
 ·cases h
def v3c {pins:LO}{σ:St}{H:Hp}{s:Shared}{A:Around}{E:VP}{Q:VP}{c:Value}{bb:Bool}{F:Hp}{v:V}{u:Value}{d:D}{t:String} (I:Inv X pins σ H s) (rx:RelV v u) (fh:Same F H) (pv:Rp X.K F v d) (ht:tyN d=some t)
  (e:W.kitOne X.K (.type t) c=some bb) (h:∀tk,Q (.bool bb) { s with toks:=tk }):wpAny (model X.prog X.w) A (call (.builtin "isinstance") [u,c]) Q E s:=by
 cases pv with
 | non=>cases ht;exact u1d I rx .non e h
 | bl y=>cases ht;exact u1d I rx (.bl y) e h
 | int i=>cases ht;exact u1d I rx (.int i) e h
 | str hz=>cases ht;exact u1d I rx (.str _) e h
 | ty T=>cases ht
 | lst hq hs =>
  cases ht;rcases hq with hq|⟨ob,hq⟩
  ·exact u1d I rx (.lst (fh _ _ hq)) e h
  ·exact u1d I rx (.frz (fh _ _ hq)) e h
 | tup hq hs =>
  cases ht;obtain⟨its,r,p,hz⟩:=I.tuple (fh.seqT hq);obtain⟨ob,h1,h2,_⟩:=p;cases (show u=Value.ref _ from rx)
  exact W.kia_one W.kitx_tuple I.kIn ⟨ob,h1,h2⟩ e (λz=>nomatch z) h
 | dK hq hs=>cases ht;exact u1d I rx (.dK (fh _ _ hq)) e h
 | ins hq hs=>cases ht
 | exc hq hr hs=>cases ht
 | dn hq hs=>cases ht
 | hdl a=>cases ht
noncomputable def gIs:List D->Res D
 | [d,.ty T]=>match tyN d with
  | some t=>match isT t T with
   | some b=>.ok (.bl b)
   | none=>.bad
  | none=>.bad
 | _=>.bad
set_option tactic.hygienic true in
def v3y:CallR X (.builtin "isinstance") (rDs X.K gIs):=by
 intro pins s σ H xs us Q I r z9105;obtain⟨F,ds,fh,ps,q⟩:=z9105;unfold gIs at q;split at q
 ·rename_i d T
  obtain⟨v,w,rfl,pv,pw⟩:=rps2 ps;cases pw;cases ht:tyN d with
  | none=>rw[ht] at q;exact q.elim
  | some t =>
   rw[ht] at q;cases hb:isT t T with
   | none=>simp only[hb] at q;exact q.elim
   | some bb =>
    simp only[hb] at q;cases r with
    | cons r1 r2 =>
     cases r2 with
     | cons r2 r3 =>
      cases r3;cases r2;exact v3c I r1 fh pv ht (v0Z X.K ht hb) λtk=>⟨.bl bb,H,I.tok _,rfl,q _ F H (Stp.refl fh) (.bl bb)⟩
 ·exact q.elim
noncomputable def blsOf:List D->Option (List Bool)
 | []=>some []
 | .bl b::r=>(blsOf r).map (b::·)
 | _=>none
theorem u8P {K:W.Frag}{F:Hp}:∀{xs:List V}{ds:List D}{bs:List Bool},Rps K F xs ds->blsOf ds=some bs->xs=bs.map V.bl
 | _,_,_,.nil,e=>by cases e;rfl
 | _,_,_,.cons (d:=d) (ds:=ds) h hs,e=>by
  cases d<;>simp only[blsOf,reduceCtorEq] at e
  cases h;cases q:blsOf ds with
  | none=>rw[q] at e;cases e
  | some bs=>rw[q] at e;cases e;rw[u8P hs q];rfl
noncomputable def gAll:List D->Res D
 | [.lst ds]=>match blsOf ds with
  | some bs=>.ok (.bl (bs.all id))
  | none=>.bad
 | _=>.bad
set_option tactic.hygienic true in
def v1T (hc:X.calm=true):CallR X (.builtin "all") (rDs X.K gAll):=by
 intro pins s σ H xs us Q I r z9106;obtain⟨F,ds,fh,ps,q⟩:=z9106;unfold gAll at q;split at q
 ·rename_i ds
  obtain⟨v,rfl,pv⟩:=rps1 ps;cases pv with
  | lst hq hs =>
   cases hb:blsOf ds with
   | none=>rw[hb] at q;exact q.elim
   | some bs =>
    rw[hb] at q;exact v3x hc pins s σ H _ us Q I r ⟨_,bs,rfl,.inl (u8P hs hb ▸ hq.same fh),q _ F H (Stp.refl fh) (.bl _)⟩
 ·exact q.elim
noncomputable def gTuple:List D->Res D
 | [.lst ds]=>.ok (.tup ds)
 | [.tup ds]=>.ok (.tup ds)
 | _=>.bad
def u4y:CallR X (.type "tuple") (rDs X.K gTuple):=by
 intro pins s σ H xs us Q I r z9107;obtain⟨F,ds,fh,ps,q⟩:=z9107;unfold gTuple at q;split at q
 ·obtain ⟨v,rfl,pv⟩:=rps1 ps
  cases pv with
  | lst hq hs=>exact u2Q pins s σ H _ us Q I r ⟨_,_,rfl,.inl ⟨.inl (hq.same fh),λl n=>q _ _ _ (Stp.new fh n) (.tup (.inl (.inl u0g)) (hs.same (Stp.new fh n).ff))⟩⟩
 ·obtain ⟨v,rfl,pv⟩:=rps1 ps
  cases pv with
  | tup hq hs=>exact u2Q pins s σ H _ us Q I r ⟨_,_,rfl,.inr ⟨fh.seqT hq,q _ F H (Stp.refl fh) (.tup hq hs)⟩⟩
 ·exact q.elim
noncomputable def seqOf:List D->Res OD
 | [.lst ds]=>.ok (.l ds)
 | [.tup ds]=>.ok (.l ds)
 | _=>.bad
def dn_list (hm:X.mg "list"=none) (ha:DA X xq [e] fs) (hg:Gl X "list":=by rfl):DN X xq (.Call (.Name "list" p) [e] [] pos) (λρ=>(fs ρ).bind seqOf) :=
 ⟨λpins s σ H Q I z9=>un5 z9 λB F ρ R q=>pcT (u6V) hg hm rfl ha.out (by decide) (by decide) ha.ns pins s σ H Q I (seqA R q λds vs F1 H1 s1 R1 p1 q1=>by
  unfold seqOf at q1;split at q1
  ·obtain ⟨v,rfl,pv⟩:=rps1 p1
   cases pv with
   | lst hq hs=>exact⟨_,_,rfl,.inl (.inl (hq.same R1.fh)),λl n=>q1 l _ F1 _ (s1.trans (Stp.only R1.fh (u0h n))) (R1.fh.free n) (s1.hh.free n) u0g (.l hs)⟩
  ·obtain ⟨v,rfl,pv⟩:=rps1 p1
   cases pv with
   | tup hq hs=>exact⟨_,_,rfl,.inr (R1.fh.seqT hq),λl n=>q1 l _ F1 _ (s1.trans (Stp.only R1.fh (u0h n))) (R1.fh.free n) (s1.hh.free n) u0g (.l hs)⟩
  ·exact q1.elim)⟩
noncomputable def gMin:List D->Res D
 | [.int i,.int j]=>.ok (.int (if j<i then j else i))
 | _=>.bad
noncomputable def gMax:List D->Res D
 | [.int i,.int j]=>.ok (.int (if j > i then j else i))
 | _=>.bad
def c_max (hc:X.calm=true):CallR X (.builtin "max") (rDs X.K gMax):=by
 intro pins s σ H xs us Q I r z9108;obtain⟨F,ds,fh,ps,q⟩:=z9108;unfold gMax at q;split at q
 ·obtain ⟨v,w,rfl,pv,pw⟩:=rps2 ps
  cases pv;cases pw;exact v1Q hc pins s σ H _ us Q I r ⟨_,_,rfl,q _ F H (Stp.refl fh) (.int _)⟩
 ·exact q.elim
noncomputable def getL (ρ:Rho) (i:Nat):Res (List D):=match ρ[i]? with
 | some (some (.own (.l ds)))=>.ok ds
 | _=>.bad
set_option tactic.hygienic true in
def getL_ok {ρ:Rho}{i:Nat}{P:List D->Prop}{E:D->Prop} (h:(getL ρ i).all P E):∃ds,ρ[i]?=some (some (.own (.l ds)))/\P ds:=by
 unfold getL at h;split at h
 ·rename_i d e;exact⟨d,e,h⟩
 ·exact h.elim
def u0S (i:Nat) (he:DE X xq e fe) (hN:X.N[i]?=some x:=by rfl) (hv:Vis X.env.scope x:=by first|exact Or.inl rfl|exact Or.inr (Or.inl rfl)|exact Or.inr (Or.inr rfl)) (hd:(x==("__debug__":Str))=false:=by decide) (hcd:(x==("__classdict__":Str))=false:=by decide)
  (hs:notStar e=true:=by rfl) (hbase:attributeBase (.Name x p) "append" X.env (eval (.Name x p) X.env)=eval (.Name x p) X.env:=by rfl) (hline:(apos.endLine==cpos.line)=true:=by rfl)
  (hsw:swapsWith (.Call (.Attribute (.Name x p) "append" apos) [e] [] cpos) none pos.line X.env=pure false:=by rfl) :
  DS X xq (.Expr (.Call (.Attribute (.Name x p) "append" apos) [e] [] cpos) pos) (λρ=>(getL ρ i).go ρ λds=>(fe ρ).go ρ λd=>if ds.length<sizeLine then .nx (ρ.set i (some (.own (.l (ds++[d]))))) else .bad) :=
 DS.of (u4a (pbm PySem.F.plainAttrs_list PySem.F.slot_list_append PySem.F.type_list_append u6B (u1U hN hv hd hcd) (pac he.out u4T hs) (by rw[z0C,hs];rfl) rfl hbase hline) hsw) λB F ρ σ H T R q=>by
  obtain⟨ds,e1,q1⟩:=getL_ok (u0F q.out);obtain⟨l,h,h1,h2,h3,h4,h5⟩:=R.own i _ e1;cases h5 with
  | l hs =>
   refine⟨.ref l,h1,.inl ⟨rfl,_,.inl (.inl h4)⟩,B,F,ρ,R,Res.all_mono (u0F q1) (λd q2 v F' H' st pv=>?_) λ_ z=>errOf z⟩
   by_cases hz:ds.length<sizeLine
   ·rw [if_pos hz] at q2
    have R':=R.step st;refine⟨l,_,v,rfl,rfl,st.hh _ _ h4,by rw[hs.length];exact hz,q2 σ F' _ (R'.write (e:=e1) h1 (.l ((hs.same st.ff).append (.cons pv .nil))))⟩
   ·rw[if_neg hz] at q2;exact q2.elim
def spF (K:W.Frag) (f:FD):Sp:=λvs H Q _=>∃F ds,Same F H/\Rps K F vs ds/\(noE (f ds)).all (λd=>∀v F' H',Stp F H F' H'->Rp K F' v d->Q v H') (λ_=>False)
def d_fn {P:Program}{w:World}{K:W.Frag}{mg:MG}{base:Heap}{k k':Nat}{ps:List Str}{f:FD} (h:Callee P w K mg base k x ps (spF K f)) (hr:Room k' X.A) (ha:DA X xq (e::es) fs) (hk:k<=k':=by decide) (hg:Gl X x:=by rfl)
  (eP:X.prog=P:=by rfl) (ew:X.w=w:=by rfl) (eK:X.K=K:=by rfl) (em:X.mg=mg:=by rfl) (eb:X.base=base:=by rfl) (hdb:(x==("__debug__":Str))=false:=by decide):DE X xq (.Call (.Name x p) (e::es) [] pos) (λρ=>(fs ρ).bind λds=>noE (f ds)) :=
 DE.of (pe_fn h hr hk ha.out hg eP ew eK em eb hdb ha.ns) λB F ρ σ H Q R q=>seqA R q λds vs F1 H1 s1 R1 p1 q1=>by
  subst eK;refine⟨F1,ds,R1.fh,by rw[List.append_nil];exact p1,?_⟩
  cases e:f ds with
  | ok d=>rw[e] at q1;exact λv F' H' st pv=>q1 v F' H' (s1.trans st) pv
  | err x=>rw[e] at q1;exact q1.elim
  | bad=>rw[e] at q1;exact q1.elim
noncomputable def outR:Out->Res D
 | .nx _=>.ok .non
 | .rt d=>.ok d
 | .er x _=>.err x
 | _=>.bad
noncomputable def startD (n:Nat) (ds:List D):Rho:=ds.map (λd=>some (.val d))++List.replicate (n - ds.length) none
set_option tactic.hygienic true in
def Rps.begin {K:W.Frag}{F H:Hp}{N:List Str}{vs:List V}{ds:List D} (fh:Same F H) (r:Rps K F vs ds):Rel K (F,H) (startD N.length ds) (start N vs) F H where
 st:=Stp.refl fh
 len:=by unfold startD L2.start;simp[r.length]
 val i d e:=by
  unfold startD at e;unfold L2.start;rw[z0G] at e;split at e
  ·rename_i hi
   rw[y4] at e;cases q:ds[i]? with
   | none=>rw[q] at e;cases e
   | some d' =>
    rw[q] at e;cases e;obtain⟨v,hv,p⟩:=r.get q;exact⟨v,by rw[z0H (by have:=(y6.mp hv).1;simpa using this),y4,hv];rfl,p⟩
  ·rw [t4] at e
   split at e<;>simp at e
 own i o e:=by
  unfold startD at e;rw[z0G] at e;split at e
  ·rw [y4] at e
   cases q:ds[i]? with
   | none=>rw[q] at e;cases e
   | some d'=>rw[q] at e;cases e
  ·rw [t4] at e
   split at e<;>simp at e
 dis i j o u a e:=by
  exfalso;unfold startD at e
  rw[z0G] at e;split at e
  ·rw [y4] at e
   cases q:ds[i]? with
   | none=>rw[q] at e;cases e
   | some d'=>rw[q] at e;cases e
  ·rw [t4] at e
   split at e<;>simp at e
end
section
variable {P:Program}{w:World}{K:W.Frag}{mg:MG}{base:Heap}
def Fun.okD {x qual:Str}{st:Stmt}{f:Addr}{fd:FuncData}{N ps:List Str}{k:Nat}{g:FD} (F:Fun K x qual st f fd) (S:FnScope N ps (defScope st)) (len:∀ds d,g ds=.ok d->ds.length=ps.length)
  (hbody:∀ (cdv:Value) (A:Around) (outer:List Env) (s:Shared) (H:Hp) (E:XK),Room k (A.deeper (envOfC qual (defScope st) s.heap.objs.size f cdv)) ->
   ∃t,DB (cxOf CX0 P w K mg base N qual (defScope st) f cdv A outer s H E).nox xqF (defBody st) t/\∀ds d,g ds=.ok d->outR (t (startD N.length ds))=.ok d):FnOk P w K mg base CX0 (k+1) f fd ps (spF K g) :=
 F.ok S (λvs H Q E ⟨G,ds,fh,r,q⟩=>by
  rw[r.length];cases e:g ds with
  | ok d=>exact len ds d e
  | err x=>rw[e] at q;exact q.elim
  | bad=>rw[e] at q;exact q.elim) λcdv A outer s H vs Q E hr ⟨G,ds,fh,r,q⟩=>by
  obtain⟨t,h1,h2⟩:=hbody cdv A outer s H E hr;refine⟨_,h1.out,(G,H),G,_,r.begin fh,⟨?_⟩⟩;cases e:g ds with
  | err x=>rw[e] at q;exact q.elim
  | bad=>rw[e] at q;exact q.elim
  | ok d =>
   rw[e] at q;have z:=h2 ds d e;generalize t (startD N.length ds)=o at z;cases o with
   | nx ρ=>cases z;exact λσ F' H' R=>q .non F' H' R.st .non
   | rt d'=>cases z;exact λv F' H' st pv=>q v F' H' st pv
   | bk ρ=>cases z
   | ct ρ=>cases z
   | er x ρ=>cases z
   | bad=>cases z
end
section
variable {M:Model}{A:Around}{E:VP}{s:Shared}
def v1x {base:Heap}{env:Env}{outer:List Env}{L e:Addr}{oe:Obj}{vs:Array Value}{head:Value}{nx:Bool}{Q:Unit->Shared->Prop} (c1:A.frames=some (env::outer)) (c2:s.heap.FunFrames base (env::outer)) (c3:env.frame=some L)
  (c4:s.heap.get? e=some oe) (c5:oe.data=.fields vs) (c6:1<vs.size) (c7:e∉frs (env::outer))
  (k:∀ h' oT ts,(∀ b o,b∉frs (env::outer)->b≠e->s.heap.get? b=some o->h'.get? b=some o)->(∀ b o,b≠e->s.heap.get? b=some o->∃ sl,h'.get? b=some { o with slots:=sl }) ->
   h'.get? e=some (oe.mapFields (·.setIfInBounds 1 (.ref s.heap.objs.size)))->h'.get? s.heap.objs.size=some oT->oT.data=.fields ts->ts[3]?=some (rawInt L)->Q () { s with heap:=h' }) :
  wpAny M A (do setField (.ref e) 1 (<- EntryCells.newEntry head (<- frameOf env) .none (rawInt L) .none (<- entryPlaceOf L nx))) Q E s:=by
 refine wpAny_bind (wpAny_frameOf_fun c1 c2 c3 λg hg=>?_)
 refine wpAny_bind (wpAny_entryPlaceOf λpl hp=>?_)
 unfold EntryCells.newEntry newFields;refine wpAny_bind (wpAny_newObj_type ?_ (hp.sizeOk5 _ _ _ _ _));obtain⟨g1,g2,g3⟩:=hg;have ge:g.get? e=some oe:=(g2 e c7).trans c4;have lt:e<g.objs.size:=z8 ge;generalize hnt:({ cls:=.type "traceback",dict:=none,data:=.fields ([head,.ref L,.none,rawInt L,.none]++(if pl.isEmpty then List.replicate 6 Value.none else pl)).toArray }:Obj)=nt
 have ge2:(g.push nt).get? e=some oe:=z0 nt ge;refine wpAny_setField ge2 c5 c6 ?_;have nf:nt.isFreed=false:=by subst hnt;rfl
 have at_T:(g.push nt).get? g.objs.size=some nt:=z6 g nf;have ne:e≠g.objs.size:=x0 lt;rw[g1];refine k _ nt ([head,.ref L,.none,rawInt L,.none]++(if pl.isEmpty then List.replicate 6 Value.none else pl)).toArray (λb o b1 b2 b3=>?_) (λb o b2 b4=>?_) ?_ ?_ (by subst hnt;rfl) (by first|(simp;done)|(rcases hp with rfl|⟨_,_,_,_,_,_,_,rfl⟩<;>simp))
 ·rw[u9 _ _ (Ne.symm b2)];exact z0 nt ((g2 b b1).trans b3)
 ·obtain ⟨sl,q⟩:=g3 b o b4
  exact⟨sl,by rw[u9 _ _ (Ne.symm b2)];exact z0 nt q⟩
 ·exact r9 _ ge2 (Obj.isFreed_of_fields (Obj.data_mapFields c5 _))
 ·rw[<- g1,u9 _ _ ne];exact at_T
end
def Tb (n:Nat) (h:Heap) (H:Hp) (e:Addr) (fl:Value):Prop:=n<=e/\∃oe vs,h.get? e=some oe/\oe.data=.fields vs/\1<vs.size /\
 ((vs[1]?=some .none/\fl=.none)\/∃T oT ts,vs[1]?=some (.ref T)/\T≠e/\n<=T/\H T=none/\h.get? T=some oT/\oT.data=.fields ts/\ts[3]?=some fl)
def Tr (n:Nat) (h:Heap) (H:Hp) (e:Addr) (fl:Value):Prop:=n<=e/\∃oe vs,h.get? e=some oe/\oe.data=.fields vs/\1<vs.size /\
 ∃T oT ts,vs[1]?=some (.ref T)/\T≠e/\n<=T/\H T=none/\h.get? T=some oT/\oT.data=.fields ts/\ts[3]?=some fl
def Tr.tb {n:Nat}{h:Heap}{H:Hp}{e:Addr}{fl:Value} (x:Tr n h H e fl):Tb n h H e fl:=by obtain⟨a,oe,vs,b,c,d,f⟩:=x;exact⟨a,oe,vs,b,c,d,.inr f⟩
def Tb.mono {m n:Nat}{h:Heap}{H:Hp}{e:Addr}{fl:Value} (x:Tb n h H e fl) (q:m<=n):Tb m h H e fl:=by
 obtain⟨a,oe,vs,b,c,d,f⟩:=x;refine⟨y7 q a,oe,vs,b,c,d,?_⟩;rcases f with f|⟨T,oT,ts,f1,f2,f3,f4⟩
 ·exact .inl f
 ·exact .inr ⟨T,oT,ts,f1,f2,y7 q f3,f4⟩
structure Old (X:Cx) (pins:LO) (n:Nat):Prop where
 s0:X.s₀.heap.objs.size<=n
 loc:X.env.locals<n
 cel:∀x c,X.env.cells.lookup x=some c->c<n
 pin:∀p∈X.pn++pins,p.1<n
def Inv.old {X:Cx}{pins:LO}{σ:St}{H:Hp}{s:Shared} (I:Inv X pins σ H s):Old X pins s.heap.objs.size :=
 ⟨I.sz,I.lt,λx c e=>by obtain⟨_,q⟩:=I.cell x c e;exact q.lt,λp hp=>z8 (I.pin p hp).1⟩
section
variable {X:Cx}{pins:LO}{σ:St}{H:Hp}{s:Shared}{n:Nat}{e C:Addr}{d:Option Addr}{h':Heap}
def Inv.flown {ch:List Addr}{t':Nat} (I:Inv X pins σ H s) (hst:X.stack=X.env::X.outer/\X.env.frame=some X.env.locals) (o:Old X pins n) (hch:∀b∈ch,n<=b) (hx:H e=some (XO C d e)) (hxe:ExAt h' e C d)
  (k1:∀b u,b∉frs X.stack->b≠e->b∉ch->s.heap.get? b=some u->h'.get? b=some u) (k2:∀b u,b≠e->b∉ch->s.heap.get? b=some u->∃sl,h'.get? b=some { u with slots:=sl })
  (k3:∀b∈ch,H b=none) (k4:∃u,h'.get? e=some u):Inv X pins σ H { s with heap:=h',toks:=t' }:=by
 have hfr:frs X.stack=X.env.locals::X.fs:=by
  rw[hst.1];unfold frs;rw[List.filterMap_cons,hst.2];rfl
 have ne:∀b,H b=none->b≠e:=λb hb z=>by subst z;rw[hx] at hb;cases hb
 refine I.step (ch:=ch) (h':=h') (H':=H) (g':=s.gens) (d':=s.drawn) (t':=t') (λb hb=>⟨.inr (y7 o.s0 (hch b hb)),λz=>?_,λx c q z=>?_,λp hp z=>?_⟩)
  (λb u b1 b2 b3 b4 b5=>k1 b u (by rw[hfr];simp[b1,b2]) (ne b b5) b3 b4) (λb u b1 b2 b3 b4 b5=>k2 b u (ne b b5) b3 b4) (λ_ _ _ _ z=>z) (λb u b3 b4=>?_) (λ_ _ z=>z) (λ_ _ _ z=>z) (λb ps z=>⟨#[],by simpa using z⟩) (λm hm=>?_) ?_ I.bare
 ·have w1:=o.loc;have w2:=hch b hb;subst z;exact absurd (y3 w1 w2) (t8 _)
 ·have w1:=o.cel x c q;have w2:=hch b hb;subst z;exact absurd (y3 w1 w2) (t8 _)
 ·have w1:=o.pin p hp;have w2:=hch b hb;rw[z] at w1;exact absurd (y3 w1 w2) (t8 _)
 ·by_cases z:b=e
  ·subst z;exact k4
  ·obtain⟨sl,q⟩:=k2 b u z b3 b4;exact⟨_,q⟩
 ·obtain ⟨u,es,ep,hu,hd,rr⟩:=hm
  have l1:X.env.locals≠e:=ne _ I.free;have l2:X.env.locals∉ch:=λz=>absurd (y3 o.loc (hch _ z)) (t8 _)
  obtain⟨sl,q⟩:=k2 _ u l1 l2 hu;exact⟨_,es,ep,q,hd,rr⟩
 ·intro a u q
  by_cases z:a=e
  ·subst z
   rw[hx] at q;cases q;exact xo_ok hxe
  ·refine ObjOk.stay (I.hok a u q) (fun b v hb hv=>k1 b v (fun y=>?_) (fun y=>?_) (fun y=>?_) hv) (fun _ y=>y) (fun _ _ y=>y)
   ·rcases hb with rfl | hb
    ·rw[I.stkFree _ y] at q;cases q
    ·rw[I.stkFree _ y] at hb;cases hb
   ·rcases hb with rfl | hb
    ·exact z y
    ·subst y;rw[hx] at hb;unfold XO at hb;cases hb
   ·rcases hb with rfl | hb
    ·rw[k3 _ y] at q;cases q
    ·rw[k3 _ y] at hb;cases hb
end
def v3r {h h':Heap}{e C:Addr}{d:Option Addr}{oe:Obj}{v:Value} (x:ExAt h e C d) (q:h.get? e=some oe) (q':h'.get? e=some (oe.mapFields (·.setIfInBounds 1 v))):ExAt h' e C d:=by
 obtain⟨t,f1,f2,f3,f4,f5,sl,z⟩:=x;rw[q] at z;cases z;exact⟨t,v,f2,f3,f4,f5,sl,q'⟩
def v1u {h h':Heap}{e C:Addr}{d:Option Addr}{oe:Obj} (x:ExAt h e C d) (q:h.get? e=some oe) (q':h'.get? e=some oe):ExAt h' e C d:=by
 obtain⟨t,f1,f2,f3,f4,f5,sl,z⟩:=x;rw[q] at z;cases z;exact⟨t,f1,f2,f3,f4,f5,sl,q'⟩
def u5g {o:Obj}{vs:Array Value}{i:Nat}{v:Value} (h:o.data=.fields vs) (hi:i<vs.size):∃ws:Array Value,(o.mapFields (·.setIfInBounds i v)).data=.fields ws/\ws.size=vs.size/\ws[i]?=some v/\∀j,j≠i->ws[j]?=vs[j]?:=by
 refine⟨vs.setIfInBounds i v,Obj.data_mapFields h _,by simp,by simp[hi],λj hj=>?_⟩
 rw[Array.getElem?_setIfInBounds_ne (Ne.symm hj)]
section
variable {X:Cx}{pins:LO}{σ:St}{H:Hp}{s:Shared}{n:Nat}{e C:Addr}{d:Option Addr}{E:VP}{M:Model}
def rawne (L:Addr):((Value.none==rawInt L)=true)=False:=by simp[rawInt]
def u5f {fl w:Value}{T:Addr}{Q:Unit->Shared->Prop}{oe oT:Obj}{vs ts:Array Value} (I:Inv X pins σ H s) (hst:X.stack=X.env::X.outer/\X.env.frame=some X.env.locals) (o:Old X pins n) (hx:H e=some (XO C d e))
  (a0:n<=e) (a1:s.heap.get? e=some oe) (a2:oe.data=.fields vs) (a3:1<vs.size) (a4:vs[1]?=some (.ref T)) (a5:T≠e) (a6:n<=T) (a7:H T=none) (a8:s.heap.get? T=some oT) (a9:oT.data=.fields ts) (a10:ts[3]?=some fl)
  (k:∀s',Inv X pins σ H s'->Tr n s'.heap H e w->s'.heap.get? e=some oe->Q () s'):wpAny M X.A (setField (.ref T) 3 w) Q E s:=by
 have hz:3<ts.size:=(Array.getElem?_eq_some_iff.mp a10).1;refine wpAny_setField a8 a9 hz ?_;obtain⟨ws,w1,w2,w3,w4⟩:=u5g (v:=w) a9 hz;have kT:=r9 (Obj.mapFields (·.setIfInBounds 3 w)) a8 (Obj.isFreed_of_fields w1)
 have ko:∀b u,b≠T->s.heap.get? b=some u->(s.heap.update T (Obj.mapFields (·.setIfInBounds 3 w))).get? b=some u:=λb u hb q=>by
  rw[u9 _ _ (Ne.symm hb)];exact q
 have ke:=ko e oe (Ne.symm a5) a1;refine k _ (I.flown (ch:=[T]) (t':=s.toks) hst o (λb hb=>by rw[w9.mp hb];exact a6) hx (v1u (v2b I.hok hx) a1 ke) (λb u _ _ hb q=>ko b u (λz=>hb (by simp[z])) q)
  (λb u _ hb q=>⟨u.slots,ko b u (λz=>hb (by simp[z])) q⟩) (λb hb=>by rw[w9.mp hb];exact a7) ⟨_,ke⟩) ⟨a0,oe,vs,ke,a2,a3,T,_,ws,a4,a5,a6,a7,kT,w1,w3⟩ ke
def u8g {head:Value}{nx:Bool}{Q:Unit->Shared->Prop}{oe:Obj}{vs:Array Value} (I:Inv X pins σ H s) (hst:X.stack=X.env::X.outer/\X.env.frame=some X.env.locals) (o:Old X pins n) (hx:H e=some (XO C d e))
  (a0:n<=e) (a1:s.heap.get? e=some oe) (a2:oe.data=.fields vs) (a3:1<vs.size) (k:∀s',Inv X pins σ H s'->Tr n s'.heap H e (rawInt X.env.locals)->Q () s') :
  wpAny M X.A (do setField (.ref e) 1 (<- EntryCells.newEntry head (<- frameOf X.env) .none (rawInt X.env.locals) .none (<- entryPlaceOf X.env.locals nx))) Q E s:=by
 have fr:X.A.frames=some (X.env::X.outer):=by rw[I.ok.frames,hst.1]
 have ff:s.heap.FunFrames X.base (X.env::X.outer):=hst.1 ▸ I.stack;have nm:e∉frs (X.env::X.outer):=λz=>by
  have:=I.stkFree e (by rw[hst.1];exact z)
  rw[hx] at this;cases this
 refine v1x fr ff hst.2 a1 a2 a3 nm λh' oT ts k1 k2 k3 k4 k5 k6=>?_
 have lt:e<s.heap.objs.size:=z8 a1;have fz:=I.hok.fresh (z7 s.heap.objs.size);obtain⟨ws,w1,w2,w3,w4⟩:=u5g (v:=.ref s.heap.objs.size) a2 a3;refine k _ (I.flown (ch:=[]) (t':=s.toks) hst o (λb hb=>by cases hb) hx (v3r (v2b I.hok hx) a1 k3) (λb u hb he _ q=>k1 b u (by rw[<- hst.1];exact hb) he q) (λb u he _ q=>k2 b u he q) (λb hb=>by cases hb) ⟨_,k3⟩)
  ⟨a0,_,ws,k3,w1,by omega,s.heap.objs.size,oT,ts,w3,Nat.ne_of_gt lt,y7 a0 (Nat.le_of_lt lt),fz,k4,k5,k6⟩
def u7C {fl:Value}{Q:Unit->Shared->Prop} (I:Inv X pins σ H s) (hst:X.stack=X.env::X.outer/\X.env.frame=some X.env.locals) (o:Old X pins n) (hx:H e=some (XO C d e)) (tb:Tb n s.heap H e fl) (hfl:fl=.none\/fl=rawInt X.env.locals)
  (k:∀s',Inv X pins σ H s'->Tr n s'.heap H e (rawInt X.env.locals)->Q () s'):wpAny M X.A (noteFrame (.ref e) X.env) Q E s:=by
 obtain⟨a0,oe,vs,a1,a2,a3,tb⟩:=tb;unfold noteFrame;simp only[hst.2];rcases tb with⟨t1,t2⟩|⟨T,oT,ts,a4,a5,a6,a7,a8,a9,a10⟩
 ·refine wpAny_bind (wpAny_field a1 a2 t1 ?_)
  rw[if_neg (by decide)]
  exact u8g I hst o hx a0 a1 a2 a3 k
 ·refine wpAny_bind (wpAny_field a1 a2 a4 ?_)
  rw[if_pos (show(Value.ref T != Value.none)=true by simp)]
  refine wpAny_bind (wpAny_field a8 a9 a10 ?_);rcases hfl with rfl|rfl
  ·rw [if_neg (by rw [rawne];exact id)]
   refine wpAny_bind (u5f I hst o hx a0 a1 a2 a3 a4 a5 a6 a7 a8 a9 a10 λs' I' _ ke=>?_)
   exact u8g I' hst o hx a0 ke a2 a3 k
  ·rw [if_pos (by simp)]
   exact wpAny_pure (k s I ⟨a0,oe,vs,a1,a2,a3,T,oT,ts,a4,a5,a6,a7,a8,a9,a10⟩)
def u2f {fl:Value}{f:Option Addr}{Q:Unit->Shared->Prop} (I:Inv X pins σ H s) (hst:X.stack=X.env::X.outer/\X.env.frame=some X.env.locals) (o:Old X pins n) (hx:H e=some (XO C d e)) (tr:Tr n s.heap H e fl)
  (k:∀s',Inv X pins σ H s'->Tr n s'.heap H e (f.elim .none λf=>rawInt f)->Q () s'):wpAny M X.A (setFlight (.ref e) f) Q E s:=by
 obtain⟨a0,oe,vs,a1,a2,a3,T,oT,ts,a4,a5,a6,a7,a8,a9,a10⟩:=tr;unfold setFlight;refine wpAny_bind (wpAny_field a1 a2 a4 ?_);rw[if_pos (show(Value.ref T != Value.none)=true by simp)]
 exact u5f I hst o hx a0 a1 a2 a3 a4 a5 a6 a7 a8 a9 a10 λs' I' t _=>k s' I' t
def v2W {fl:Value}{Q:Unit->Shared->Prop} (I:Inv X pins σ H s) (hst:X.stack=X.env::X.outer/\X.env.frame=some X.env.locals) (o:Old X pins n) (hx:H e=some (XO C d e)) (tb:Tb n s.heap H e fl) (hfl:fl=.none\/fl=rawInt X.env.locals)
  (k:∀s',Inv X pins σ H s'->Tr n s'.heap H e .none->Q () s'):wpAny M X.A (leaving X.env (.ref e)) Q E s:=by
 unfold leaving;exact wpAny_bind (u7C I hst o hx tb hfl λs' I' tr=>u2f (f:=none) I' hst o hx tr k)
end
noncomputable def CXe (P:Program) (w:World):CXT:=λouter H s E u s'=>∃(e C:Addr) (d:Option Addr) (H':Hp),u=.ref e/\s'.os=s.os/\AllBare s'.gens/\Un (frs outer) [] H H' s.heap s'.heap/\HOk P w H' s'.heap/\H' e=some (XO C d e) /\
 Tb s.heap.objs.size s'.heap H' e .none/\E (.ref e) none H'
def Fly (X:Cx) (xq:XQ) (u:Value) (s':Shared):Prop:=∃(n:Nat) (e C:Addr) (d:Option Addr) (σ:St) (H:Hp) (fl:Value),Old X [] n/\u=.ref e/\Inv X [] σ H s'/\H e=some (XO C d e)/\Tb n s'.heap H e fl/\(fl=.none\/fl=rawInt X.env.locals)/\xq (.ref e) σ H
structure XqOk (X:Cx) (xq:XQ):Prop where
 st:X.stack=X.env::X.outer/\X.env.frame=some X.env.locals
 xe:∀u s',Fly X xq u s'->X.xe u s'
 ps:PassesOwn (model X.prog X.w) X.A X.env X.xe
section
variable {X:Cx}{xq:XQ}{M:Model}
def u9P (hst:X.stack=X.env::X.outer/\X.env.frame=some X.env.locals):PassesOwn M X.A X.env (Fly X xq):=by
 rintro u s' ⟨n,e,C,d,σ,H,fl,o,rfl,I,hx,tb,hfl,q⟩;refine u7C I hst o hx tb hfl λs2 I2 tr=>?_
 have tr':=tr;obtain⟨a0,oe,vs,a1,a2,a3,T,oT,ts,a4,a5,a6,a7,a8,a9,a10⟩:=tr';unfold cameBackBy;refine wpAny_bind (wpAny_field a1 a2 a4 ?_);rw[if_neg (show ¬ ((Value.ref T==Value.none)=true) by simp),hst.2]
 exact u2f (f:=some X.env.locals) I2 hst o hx tr λs3 I3 tr3=>⟨n,e,C,d,σ,H,_,o,rfl,I3,hx,tr3.tb,.inr rfl,q⟩
def Old.unwish {E:VP}{pins:LO}{n:Nat} (o:Old (X.wish E) pins n):Old X pins n:=⟨o.s0,o.loc,o.cel,o.pin⟩
theorem Fly.unwish {E:VP}{u:Value}{s':Shared} (h:Fly (X.wish E) xq u s'):Fly X xq u s':=by
 obtain⟨n,e,C,d,σ,H,fl,o,rfl,I,hx,tb,hfl,q⟩:=h;exact⟨n,e,C,d,σ,H,fl,o.unwish,rfl,I.unwish,hx,tb,hfl,q⟩
def u5W (hst:X.stack=X.env::X.outer/\X.env.frame=some X.env.locals):XqOk (X.wish (Fly X xq)) xq:=⟨hst,λ_ _ h=>h.unwish,u9P (X:=X) hst⟩
def Inv.bare0 {pins:LO}{σ:St}{H:Hp}{s:Shared} (I:Inv X pins σ H s):Inv X [] σ H s:=I.pins_of λp hp=>absurd hp (by simp)
def Old.bare0 {pins:LO}{n:Nat} (o:Old X pins n):Old X [] n:=⟨o.s0,o.loc,o.cel,λp hp=>o.pin p (by simp at hp;exact u4 _ hp)⟩
def v3p {pins:LO}{σ:St}{H:Hp}{s s':Shared}{u:Value} (I:Inv X pins σ H s) (h:CXe X.prog X.w X.stack H s (λu _ H'=>∃a,u=.ref a/\xq (.ref a) σ H') u s'):Fly X xq u s':=by
 obtain⟨e,C,d,H',rfl,os,bare,un,hok,hx,tb,a,ha,q⟩:=h;cases ha;have I':Inv X pins σ H' s':=I.call' (ch:=[]) os un hok bare λb z=>absurd z (by simp)
 exact⟨_,e,C,d,σ,H',.none,I.old.bare0,rfl,I'.bare0,hx,tb,.inl rfl,q⟩
end
def spX (K:W.Frag) (f:FD):Sp:=λvs H Q E=>∃F ds,Same F H/\Rps K F vs ds/\(f ds).all (λd=>∀v F' H',Stp F H F' H'->Rp K F' v d->Q v H') (λx=>∀a F' H',Stp F H F' H'->Rp K F' (.ref a) x->E (.ref a) none H')
def CalleeX (P:Program) (w:World) (K:W.Frag) (mg:MG) (base:Heap) (k:Nat) (x:Str) (ps:List Str) (f:FD):Prop :=
 ∃a fd,FnOk P w K mg base (CXe P w) k a fd ps (spX K f)/\Binds K fd ps []/\W.keepIn K (.ref a)=true/\mg x=some (.ref a)
section
variable {X:Cx}{xq:XQ}{e:Expr}{es:List Expr}{fs:Rho->Res (List D)}{x:Str}{p pos:Pos}
def run_fnX {k:Nat}{f:Addr}{fd:FuncData}{ps:List Str}{sp:Sp}{ds:List Value}{dvs:List V}{pins:LO}{σ:St}{H:Hp}{s:Shared}{Q:VK}{us:List Value}{vs:List V} (hq:XqOk X xq) (F:FnOk X.prog X.w X.K X.mg X.base (CXe X.prog X.w) k f fd ps sp) (hr:Room k X.A)
  (hb:Binds X.K fd ps ds) (hd:Vals dvs ds) (I:Inv X pins σ H s) (r:Vals vs us) (h:sp (vs++dvs) H Q (λu _ H'=>∃a,u=.ref a/\xq (.ref a) σ H')):wpAny (model X.prog X.w) X.A (call (.ref f) us) (EP X pins σ Q) X.xe s:=by
 have r2:Vals (vs++dvs) (us++ds):=r.append hd;have hl:(us++ds).length=ps.length:=by rw[<- r2.length];exact F.len _ _ _ _ h
 refine wpAny_call (codeAny_mono (F.run X.A X.stack s H ⟨us,[]⟩ (us++ds) (vs++dvs) Q _ hr I.env0 (hb s us I.kIn hl) r2 h) λr s' hc=>?_)
 cases r with
 | error e=>exact hq.xe _ _ (v3p I hc)
 | ok fl =>
  cases fl with
  | ret u=>exact I.after hc
  | next=>exact False.elim hc
  | brk=>exact False.elim hc
  | cont=>exact False.elim hc
def errR {K:W.Frag}{B:Hp×Hp}{ρ:Rho}{σ:St}{F H F' H':Hp}{d:D}{v:V} (R:Rel K B ρ σ F H) (s:Stp F H F' H') (p:Rp K F' v d) (q:ErrK K xq B ρ σ d):xq v σ H':=by
 obtain⟨F1,e1,R1⟩:=(R.step s).frz;exact q v F1 H' R1 (p.same e1)
def spX_of {K:W.Frag}{B:Hp×Hp}{ρ:Rho}{σ:St}{F H F0 H0:Hp}{f:FD}{ds:List D}{vs:List V}{Q:VK} (R:Rel K B ρ σ F H) (pv:Rps K F vs ds) (s0:Stp F0 H0 F H) (q:(f ds).all (λd=>∀v F' H',Stp F0 H0 F' H'->Rp K F' v d->Q v H') (ErrK K xq B ρ σ)) :
  spX K f vs H Q (λu _ H'=>∃a,u=.ref a/\xq (.ref a) σ H') :=
 ⟨F,ds,R.fh,pv,Res.all_mono q (λd k v F' H' st p=>k v F' H' (s0.trans st) p) λx k a F' H' st p=>⟨a,rfl,errR R st p k⟩⟩
def d_fnX {P:Program}{w:World}{K:W.Frag}{mg:MG}{base:Heap}{k k':Nat}{ps:List Str}{f:FD} (hq:XqOk X xq) (h:CalleeX P w K mg base k x ps f) (hr:Room k' X.A) (ha:DA X xq (e::es) fs) (hk:k<=k':=by decide) (hg:Gl X x:=by rfl)
  (eP:X.prog=P:=by rfl) (ew:X.w=w:=by rfl) (eK:X.K=K:=by rfl) (em:X.mg=mg:=by rfl) (eb:X.base=base:=by rfl) (hdb:(x==("__debug__":Str))=false:=by decide):DE X xq (.Call (.Name x p) (e::es) [] pos) (λρ=>(fs ρ).bind f) :=
 ⟨λpins s σ H Q I z9=>un5 z9 λB F ρ R q=>by
  subst eP ew eK em eb;obtain⟨a,fd,G,hb,hkp,hm⟩:=h;refine wpAny_Call_Name_kw (u3f I hg hm ?_ hdb);refine W.callWith_K (h₀:=X.base) I.ok.mod.kin hkp (thn (ha.out pos pins s σ H _ I (seqA R q λds vs F1 H1 s1 R1 p1 q1=>show spX X.K f (vs++[]) H1 Q (λu _ H'=>∃a,u=.ref a/\xq (.ref a) σ H') from by rw[List.append_nil];exact spX_of R1 p1 s1 q1)) λus s1 ⟨vs,H1,I1,r,q⟩=>⟨I1.kIn,?_⟩) (u0v (u0q ha.ns).1) (u1b (u0q ha.ns).2)
  exact run_fnX hq G (hr.mono hk) hb .nil I1 r q⟩
end
section
variable {P:Program}{w:World}{K:W.Frag}{mg:MG}{base:Heap}
abbrev xq0 (E:XK):XQ:=λv _ H'=>∀a,v=.ref a->E (.ref a) none H'
noncomputable abbrev cxR (P:Program) (w:World) (K:W.Frag) (mg:MG) (base:Heap) (N:List Str) (qual:Str) (scope:Scope) (f:Addr) (cdv:Value) (A:Around) (outer:List Env) (s:Shared) (H:Hp) (E:XK):Cx :=
 (cxOf (CXe P w) P w K mg base N qual scope f cdv A outer s H E).wish (Fly (cxOf (CXe P w) P w K mg base N qual scope f cdv A outer s H E) (xq0 E))
def PSs.wishTo {X:Cx}{E:VP}{sts:List Stmt}{t:TS} (h:PSs (X.wish E) sts t) (k:∀u s',E u s'->X.xe u s'):PSs X sts t:=λpins s σ H T I hw =>
 wpAny_mono (h pins s σ H T (I.wish _) hw) (λ_ _ q=>q.unwish) k
def Fun.okX {x qual:Str}{st:Stmt}{f:Addr}{fd:FuncData}{N ps:List Str}{k:Nat}{g:FD} (F:Fun K x qual st f fd) (S:FnScope N ps (defScope st)) (len:∀ds,g ds≠.bad->ds.length=ps.length)
  (hbody:∀ (cdv:Value) (A:Around) (outer:List Env) (s:Shared) (H:Hp) (E:XK),Room k (A.deeper (envOfC qual (defScope st) s.heap.objs.size f cdv))->XqOk (cxR P w K mg base N qual (defScope st) f cdv A outer s H E) (xq0 E) ->
   ∃t,DB (cxR P w K mg base N qual (defScope st) f cdv A outer s H E) (xq0 E) (defBody st) t/\∀ds,g ds≠.bad->outR (t (startD N.length ds))=g ds):FnOk P w K mg base (CXe P w) (k+1) f fd ps (spX K g):=by
 obtain⟨oc,od,kV,doc,pm,an,cdv,ct,osl,rfl,lk,hcd⟩:=F.ex;have nb:∀vs H Q E,spX K g vs H Q E->∃G ds,Same G H/\Rps K G vs ds/\g ds≠.bad/\(g ds).all (λd=>∀v F' H',Stp G H F' H'->Rp K F' v d->Q v H') (λx=>∀a F' H',Stp G H F' H'->Rp K F' (.ref a) x->E (.ref a) none H'):=λvs H Q E ⟨G,ds,fh,r,q⟩ =>
  ⟨G,ds,fh,r,λz=>by rw[z] at q;exact q,q⟩
 refine fn_of lk hcd S (λvs H Q E h=>?_) λA outer s H vs Q E hr hsp=>?_
 ·obtain ⟨G,ds,fh,r,z,q⟩:=nb vs H Q E h
  rw[r.length];exact len ds z
 ·obtain ⟨G,ds,fh,r,z,q⟩:=nb vs H Q E hsp
  have hst:(cxOf (CXe P w) P w K mg base N qual (defScope st) f cdv A outer s H E).stack=(cxOf (CXe P w) P w K mg base N qual (defScope st) f cdv A outer s H E).env::(cxOf (CXe P w) P w K mg base N qual (defScope st) f cdv A outer s H E).outer/\(cxOf (CXe P w) P w K mg base N qual (defScope st) f cdv A outer s H E).env.frame=some (cxOf (CXe P w) P w K mg base N qual (defScope st) f cdv A outer s H E).env.locals:=⟨rfl,rfl⟩;obtain⟨t,h1,h2⟩:=hbody cdv A outer s H E hr (u5W hst);refine⟨_,PSs.wishTo h1.out ?_,(G,H),G,_,r.begin fh,⟨?_⟩⟩
  ·rintro u s' ⟨n,e,C,d,σ,H',fl,o,rfl,I,hx,tb,hfl,q⟩
   refine v2W I hst o hx tb hfl λs2 I2 tr=>?_
   exact⟨e,C,d,H',rfl,I2.os,I2.bare,I2.base,I2.hok,hx,tr.tb.mono o.s0,q e rfl⟩
  ·have y:=h2 ds z
   rw[<- y] at q;generalize t (startD N.length ds)=o at q;cases o with
   | nx ρ=>exact λσ F' H' R=>q .non F' H' R.st .non
   | rt d'=>exact λv F' H' st pv=>q v F' H' st pv
   | bk ρ=>exact q.elim
   | ct ρ=>exact q.elim
   | er x ρ=>exact λv σ F' H' R pv a ea=>by subst ea;exact q a F' H' R.st pv
   | bad=>exact q.elim
end
def ExFr (h:Heap) (e C:Addr) (dx:Option Addr):Prop:=∃t sl,h.get? e=some { cls:=.ref C,dict:=dx,data:=.fields #[.ref t,.none,.none,.none,.bool false,.none],slots:=sl }
def ExFr.at {h:Heap}{e C:Addr}{dx:Option Addr} (x:ExFr h e C dx):ExAt h e C dx:=by obtain⟨t,sl,q⟩:=x;exact⟨t,_,_,_,_,_,sl,q⟩
noncomputable def XF (C:Addr) (dx:Option Addr) (e:Addr) (n:Nat):HO:=.ext λh=>ExFr h e C dx/\n<=e
section
variable {P:Program}{w:World}{H:Hp}{h:Heap}{e C dx:Addr}{d:Option Addr}{n:Nat}
def xf_ok (x:ExFr h e C d) (hn:n<=e):ObjOk P w H h e (XF C d e n) :=
 ⟨⟨x,hn⟩,by obtain⟨_,_,q⟩:=x;exact⟨_,q⟩,λh1 h2 z9113 k=>by obtain⟨⟨t,sl,q⟩,z⟩:=z9113;exact⟨⟨t,sl,k _ q⟩,z⟩⟩
def xf_at (x:HOk P w H h) (q:H e=some (XF C d e n)):ExFr h e C d/\n<=e:=(show ObjOk P w H h e (XF C d e n) from x e _ q).1
def HOk.xo (x:HOk P w H h) (q:H e=some (XF C d e n)):HOk P w (upd H e (XO C d e)) h:=λb u z=>by
 by_cases y:b=e
 ·subst y
  rw[u0g] at z;cases z;exact xo_ok (xf_at x q).1.at
 ·rw [u0j y] at z
  exact ObjOk.stay (x b u z) (λ_ _ _ v=>v) (λc v=>by
   rw[u0j (λt=>by subst t;rw[q] at v;unfold XF at v;cases v)];exact v) (λc xs v=>by
   rw[u0j (λt=>by subst t;rw[q] at v;unfold XF at v;cases v)];exact v)
end
section
variable {X:Cx}{pins:LO}{σ:St}{H:Hp}{s:Shared}{a C dx fI:Addr}{fs:List (Str×V)}{f:Str}{v:V}{A:Around}{E:VP}{n:Nat}{d:Option Addr}
theorem Inv.xo (I:Inv X pins σ H s) (q:H a=some (XF C d a n)):Inv X pins σ (upd H a (XO C d a)) s:=by
 have hok:=I.hok.xo q;have nn:∀b,H b=none->upd H a (XO C d a) b=none:=λb z=>by
  rw[u0j (λt=>by subst t;rw[q] at z;cases z)];exact z
 have st:∀b u,H b=some u->(∀φ,u≠.ext φ)->upd H a (XO C d a) b=some u:=λb u z y=>by
  rw[u0j (λt=>by subst t;rw[q] at z;cases z;exact y _ rfl)];exact z
 exact I.un (h':=s.heap) (t':=s.toks) ⟨λ_ _ x _ _ _=>x,λ_ o x _ _ _=>⟨o.slots,x⟩,λb _ _ z _=>nn b z,λ_ o x _=>⟨o,x⟩,λb xs z=>st b _ z (λ_ y=>nomatch y),λb o u z=>st b _ z (λ_ y=>nomatch y),λb ps z=>⟨#[],by rw[Array.append_empty];exact st b _ z (λ_ y=>nomatch y)⟩⟩ hok
def v1t {prog:Program}{w:World}{K:W.Frag}{e:Addr}{name:Str}{v:Value}{Q:Unit->Shared->Prop} (X:K.In s.heap) (c:XCls K C fI) (he:ExFr s.heap e C none) (hn:W.findIn K (.ref C) name=some none)
  (h:∀h1 h',ExFr h1 e C (some s.heap.objs.size)->(∀b o,b≠e->(s.heap.push W.emptyDict).get? b=some o->h1.get? b=some o)->h'.Ns1 s.heap.objs.size (λy=>if y=name then some v else none)->Heap.SameBut s.heap.objs.size h1 h'->Q () { s with heap:=h',toks:=s.toks+2 }) :
  wpAny (model prog w) A (setAttr (.ref e) name v) Q E s:=by
 obtain⟨t,sl,he⟩:=he;have I:W.InstAt s.heap e _ C none:=⟨he,rfl,rfl,True.intro⟩;refine W.set_plain X I c.sa (exc_osa (s:={ s with toks:=s.toks+1 }) X c I hn λb=>?_)
 obtain⟨cd,hc,_,hd⟩:=c.ov;have hlt:e<s.heap.objs.size:=z8 he;refine wpAny_bind (wpAny_pure (wpAny_bind (wpAny_bind (wpAny_loadPart he (wpAny_bind (W.Looks.here (s:={ s with toks:=s.toks+1 }) (W.looks_clsIn X hc) ?_))))))
 rw[hd];refine wpAny_bind (wpAny_alloc (wpAny_bind (wpAny_update (s:={ s with heap:=s.heap.push W.emptyDict,toks:=s.toks+1 }) (z0 _ he) ?_)))
 have hne:e≠s.heap.objs.size:=x0 hlt;have hd0:((s.heap.push W.emptyDict).update e λo=>{ o with dict:=some s.heap.objs.size }).get? s.heap.objs.size=some W.emptyDict:=by
  rw[u9 _ _ hne];exact z6 _ rfl
 have he1:((s.heap.push W.emptyDict).update e λo=>{ o with dict:=some s.heap.objs.size }).get? e=some { cls:=.ref C,dict:=some s.heap.objs.size,data:=.fields #[.ref t,.none,.none,.none,.bool false,.none],slots:=sl } :=
  r9 _ (z0 _ he) rfl
 have hk1:∀b o,b≠e->(s.heap.push W.emptyDict).get? b=some o->((s.heap.push W.emptyDict).update e λo=>{ o with dict:=some s.heap.objs.size }).get? b=some o:=λb o hb q=>by
  rw[u9 _ _ (Ne.symm hb)];exact q
 have hns:((s.heap.push W.emptyDict).update e λo=>{ o with dict:=some s.heap.objs.size }).Ns1 s.heap.objs.size (λ_=>none) :=
  Heap.Ns1.of_empty ⟨_,#[],_,hd0,rfl,λx hx=>absurd hx (by simp),λ_=>rfl⟩
 generalize (s.heap.push W.emptyDict).update e (λo=>{ o with dict:=some s.heap.objs.size })=h1 at hd0 he1 hk1 hns |-
 refine wpAny_pure (a:=some s.heap.objs.size) (wpAny_bind (wpAny_pure (wpAny_bind ?_)));refine wpAny_nsSet1 (s:={ s with heap:=h1,toks:=s.toks+1 }) hns λh' hn2 hs2=>?_
 obtain⟨oD,esD,epD,hoD,hdD,hcD⟩:=hn2.count (PySem.Within.cons name v (ns:=[]) (λy u=>absurd rfl u))
 refine wpAny_bind (wpAny_lookBehind hoD (by rw[hdD];exact pastItsLine_dict (y7 hcD (by rw[List.length_singleton,sizeLine_eq];decide))) ?_)
 exact wpAny_pure (h h1 _ ⟨t,sl,he1⟩ hk1 hn2 hs2)
def u9W {y:V}{u:Value}{Q:Unit->Shared->Prop} (I:Inv X pins σ H s) (e:H a=some (XF C none a n)) (c:XCls X.K C fI) (na:NoAttr X.K C f) (ry:RelV y u)
  (h:∀dx s',H dx=none->dx≠a->Inv X pins σ (upd (upd H dx (DXO dx [(f,y)])) a (XF C (some dx) a n)) s'->Q () s'):wpAny (model X.prog X.w) A (setAttr (.ref a) f u) Q E s:=by
 obtain⟨hx,hn⟩:=xf_at I.hok e;have hfr:H s.heap.objs.size=none:=I.hok.fresh (z7 _);have hne:s.heap.objs.size≠a:=(u0o e hfr).symm;refine v1t I.kIn c hx na λh1 h' x1 k1 n2 sb=>h s.heap.objs.size _ hfr hne ?_
 have e0:(s.heap.push W.emptyDict).get? s.heap.objs.size=some W.emptyDict:=z6 s.heap rfl;have n0:(s.heap.push W.emptyDict).Ns1 s.heap.objs.size (λ_=>none):=Heap.Ns1.of_empty ⟨_,#[],_,e0,rfl,λx hx=>absurd hx (by simp),λ_=>rfl⟩
 have I1:=I.laid (a:=s.heap.objs.size) (o:=DXO s.heap.objs.size []) (h':=s.heap.push W.emptyDict) (t':=s.toks) (λb u q=>z0 _ q) (z7 _) (v4f n0 (λ_=>True.intro) (λy hy=>absurd rfl hy))
 have ea:upd H s.heap.objs.size (DXO s.heap.objs.size []) a=some (XF C none a n):=by rw[u0j hne.symm];exact e
 have I2:=I1.write (x:=a) (e:=a) (o:=XF C (some s.heap.objs.size) a n) (h':=h1) (t':=s.toks) (by rw[ea];exact True.intro) (.inl rfl) (λb q hb z=>k1 b q hb z) (by obtain⟨_,_,q⟩:=x1;exact⟨_,q⟩) (xf_ok x1 hn)
 have ed:upd (upd H s.heap.objs.size (DXO s.heap.objs.size [])) a (XF C (some s.heap.objs.size) a n) s.heap.objs.size=some (DXO s.heap.objs.size []):=by rw[u0j hne,u0g]
 have I3:=I2.write (x:=s.heap.objs.size) (e:=s.heap.objs.size) (o:=DXO s.heap.objs.size [(f,y)]) (h':=h') (t':=s.toks+2) (by rw[ed];exact True.intro) (.inl rfl) (λb q hb z=>(sb.2 b hb).trans z) (by obtain⟨o,_,_,q,_⟩:=n2;exact⟨o,q⟩) (v4f n2 (λg=>by
  show RelO (List.lookup g [(f,y)]) (if g=f then some u else none)
  by_cases q:g=f
  ·subst q;rw[if_pos rfl];simp only[List.lookup,beq_self_eq_true];exact ry
  ·rw[if_neg q];simp only[List.lookup,beq_eq_false_iff_ne.mpr q];exact True.intro) (λg hg=>by
  by_cases q:g=f
  ·rw[q];exact z5
  ·exact absurd (if_neg q) hg))
 have eq:upd (upd (upd H s.heap.objs.size (DXO s.heap.objs.size [])) a (XF C (some s.heap.objs.size) a n)) s.heap.objs.size (DXO s.heap.objs.size [(f,y)])=upd (upd H s.heap.objs.size (DXO s.heap.objs.size [(f,y)])) a (XF C (some s.heap.objs.size) a n):=by
  funext b;unfold upd;by_cases q1:b=s.heap.objs.size
  ·rw[if_pos q1,if_neg (by rw[q1];exact hne),if_pos q1]
  ·rw [if_neg q1]
   by_cases q2:b=a
   ·rw[if_pos q2,if_pos q2]
   ·rw[if_neg q2,if_neg q2,if_neg q1,if_neg q1]
 rw[eq] at I3;exact I3
def Inv.xfmade (I:Inv X pins σ H s) (us:List Value):Inv X pins σ (upd H (s.heap.objs.size+1) (XF C none (s.heap.objs.size+1) s.heap.objs.size)) { s with heap:=(s.heap.push (tupO us)).push (excO C s.heap.objs.size none) }:=by
 have I1:=I.kept (t':=s.toks) (h':=s.heap.push (tupO us)) (λb u q=>z0 _ q)
 refine I1.laid (a:=s.heap.objs.size+1) (o:=XF C none (s.heap.objs.size+1) s.heap.objs.size) (t':=s.toks) (λb u q=>z0 _ q) (Nat.le_of_eq (Heap.size_push _ _)) ?_
 have:=z6 (s.heap.push (tupO us)) (o:=excO C s.heap.objs.size none) rfl
 rw[Heap.size_push] at this;exact xf_ok ⟨_,_,this⟩ (Nat.le_succ _)
end
section
variable {M:Model}{A:Around}{E:VP}{env:Env}{K:W.Frag}{C f:Addr}
def XCls.base (c:XCls K C f):∃bm N nm q bs sn sub ab col dd k0 k1 k2 k3 k5,K.lookup C=some (excClassObj nm q C N bs bm true sn sub ab col dd k0 k1 k2 k3 k5 "ValueError.__new__")/\(Value.ref C::bm).contains (.type "BaseException")=true:=by
 obtain⟨bm,N,nm,q,bs,sn,sub,ab,col,dd,k0,k1,k2,k3,k5,hK,ht⟩:=c.obj;obtain⟨cd,hc,ho,_⟩:=c.ov;refine⟨bm,N,nm,q,bs,sn,sub,ab,col,dd,k0,k1,k2,k3,k5,hK,?_⟩;unfold W.clsIn at hc;rw[hK] at hc;cases hc;exact u1H ho
def u9o {s:Shared}{x:Sem Value}{Q:Flow->Shared->Prop} (hh:A.handled=none)
  (h:wpAny M A x (fun v s₁=>∃ (e t C f:Addr) (dx:Option Addr) (sl:Array (Option Value)) (K:W.Frag),v=.ref e/\K.In s₁.heap/\XCls K C f /\
   s₁.heap.get? e=some { cls:=.ref C,dict:=dx,data:=.fields #[.ref t,.none,.none,.none,.bool false,.none],slots:=sl }/\E (.ref e) s₁) E s):wpAny M A (raiseStmt env (some x) none) Q E s:=by
 unfold raiseStmt;refine wpAny_bind (wpAny_mono h (λv s₁ h₁=>?_) λ_ _ x=>x)
 obtain⟨e,t,C,f,dx,sl,K,rfl,KI,c,he,hE⟩:=h₁;obtain⟨bm,N,nm,q,bs,sn,sub,ab,col,dd,k0,k1,k2,k3,k5,hK,hb⟩:=c.base;have hC:=KI _ _ hK;obtain⟨hp,g,d,tk,os⟩:=s₁
 repeat (first|(with_reducible refine wpAny_loadPart_at he ?_)|(with_reducible refine wpAny_loadPart_at hC ?_)|((with_reducible refine wpAny_isSubtype_exc hC ?_);rw[hb])|wp_step)
 exact wpAny_raiseNew_none hh hE
end
def spXI (C:Addr) (fls:List Str):Sp:=λvs H Q _=>∃a args n,vs=.ref a::args/\args.length=fls.length/\H a=some (XF C none a n)/\∀dx,H dx=none->dx≠a->Q .non (upd (upd H dx (DXO dx (fls.zip args))) a (XF C (some dx) a n))
section
variable {X:Cx}{e o value:Expr}{es:List Expr}{ta tv:TE}{f x:Str}{p pos pos' cpos:Pos}{C fI:Addr}{fd:FuncData}{ps fls:List Str}{k:Nat}
def sXF (K:W.Frag) (ta tv:TE) (f:Str):TS:=λT σ H=>tv σ H λy H1=>ta σ H1 λx H2=>∃a C fI n,x=.ref a/\XCls K C fI/\NoAttr K C f/\H2 a=some (XF C none a n)/\∀dx,H2 dx=none->dx≠a->T.nx σ (upd (upd H2 dx (DXO dx [(f,y)])) a (XF C (some dx) a n))
def ps_xf (ha:PE X o ta) (hv:PE X value tv) (hs:swapsWith value (some (.Attribute o f pos')) pos.line X.env=pure false:=by rfl):PS X (.Assign [.Attribute o f pos'] value pos) (sXF X.K ta tv f):=by
 intro pins s σ H T I h;refine plainObj_wpAny_Assign_Attribute (thn (hv pins s σ H _ I h) λu s1 ⟨y,H1,I1,ry,q⟩=>thn (ha pins s1 σ H1 _ I1 q) λov s2 z9115=>?_) hs
 obtain⟨x,H2,I2,rx,a,C,fI,n,ex,c,na,ea,q2⟩:=z9115;subst ex;obtain rfl:ov=Value.ref a:=rx;exact u9W I2 ea c na ry λdx s3 h1 h2 I3=>⟨σ,_,I3,q2 dx h1 h2⟩
def run_xf {pins:LO}{σ:St}{H:Hp}{s:Shared}{Q:VP}{us:List Value}{vs:List V} (c:XCls X.K C fI) (F:FnOk X.prog X.w X.K X.mg X.base CX0 k fI fd ps (spXI C fls)) (hr:Room (k+1) X.A) (hb:Binds X.K fd ps [])
  (I:Inv X pins σ H s) (r:Vals vs us) (hz:vs.length<=1000) (hn:vs.length=fls.length)
  (h:∀a dx s',H a=none->H dx=none->dx≠a->Inv X pins σ (upd (upd H dx (DXO dx (fls.zip vs))) a (XF C (some dx) a s.heap.objs.size)) s'->Q (.ref a) s'):wpAny (model X.prog X.w) X.A (call (.ref C) us) Q X.xe s:=by
 have h1:H (s.heap.objs.size+1)=none:=I.hok.fresh (Nat.le_succ _);have I2:=Inv.xfmade (C:=C) I us;have r2:Vals (V.ref (s.heap.objs.size+1)::vs) (Value.ref (s.heap.objs.size+1)::us):=.cons rfl r;have hq:spXI C fls (.ref (s.heap.objs.size+1)::vs) (upd H (s.heap.objs.size+1) (XF C none (s.heap.objs.size+1) s.heap.objs.size)) (λv H2=>v=.non/\∃dx,H dx=none/\dx≠s.heap.objs.size+1/\H2=upd (upd H dx (DXO dx (fls.zip vs))) (s.heap.objs.size+1) (XF C (some dx) (s.heap.objs.size+1) s.heap.objs.size)) E0:=by
  refine⟨_,_,_,rfl,hn,u0g,λdx d1 d2=>⟨rfl,dx,?_,d2,?_⟩⟩
  ·rw[u0j d2] at d1;exact d1
  ·funext b
   unfold upd;by_cases q1:b=s.heap.objs.size+1
   ·rw[if_pos q1,if_pos q1]
   ·rw[if_neg q1,if_neg q1,if_neg q1]
 have hl:(Value.ref (s.heap.objs.size+1)::us++[]).length=ps.length:=by
  have e:=r2.length;rw[F.len _ _ _ _ hq] at e;rw[List.append_nil];exact e.symm
 refine wpAny_call ?_;obtain⟨hh,g,d,tt,os⟩:=s;refine v3q (f:=fI) I.kIn c (by rw[<- r.length,sizeLine_eq];omega) ?_
 refine codeAny_mono (F.run _ X.stack _ _ ⟨Value.ref (hh.objs.size+1)::us,[]⟩ (Value.ref (hh.objs.size+1)::us) _ _ E0 (hr.make C us []) (I2.env0.make C us []) (by have:=hb _ (Value.ref (hh.objs.size+1)::us) I2.kIn hl;rwa [List.append_nil] at this) r2 hq) λr s' hq'=>?_
 cases r with
 | error e=>exact False.elim hq'
 | ok fl =>
  cases fl with
  | ret u =>
   obtain⟨v,H',I3,rv,ev,dx,q1,q2,q3⟩:=I2.after hq';subst ev q3;exact⟨rv,h _ dx s' h1 q1 q2 I3⟩
  | next=>exact False.elim hq'
  | brk=>exact False.elim hq'
  | cont=>exact False.elim hq'
def XCalleeF (P:Program) (w:World) (K:W.Frag) (mg:MG) (base:Heap) (k:Nat) (x:Str) (C:Addr) (ps fls:List Str):Prop :=
 ∃f fd,XCls K C f/\FnOk P w K mg base CX0 k f fd ps (spXI C fls)/\Binds K fd ps []/\mg x=some (.ref C)
theorem Rps.zip {K:W.Frag}{F:Hp}:∀{vs:List V}{ds:List D} (fls:List Str),Rps K F vs ds->Rpf K F (fls.zip vs) (fls.zip ds)
 | _,_,[],_=>by simpa using Rpf.nil
 | _,_,_::_,.nil=>by simpa using Rpf.nil
 | _,_,f::fls,.cons h hs=>.cons h (hs.zip fls)
def u8F {xq:XQ}{fs:Rho->Res (List D)}{P:Program}{w:World}{K:W.Frag}{mg:MG}{base:Heap}{k':Nat} (hq:XqOk X xq) (hc:X.calm=true) (h:XCalleeF P w K mg base k x C ps fls) (hr:Room k' X.A) (ha:DA X xq (e::es) fs) (hk:k+1<=k':=by decide) (hg:Gl X x:=by rfl)
  (eP:X.prog=P:=by rfl) (ew:X.w=w:=by rfl) (eK:X.K=K:=by rfl) (em:X.mg=mg:=by rfl) (eb:X.base=base:=by rfl) (hdb:(x==("__debug__":Str))=false:=by decide) :
  DS X xq (.Raise (some (.Call (.Name x p) (e::es) [] cpos)) none pos) (λρ=>(fs ρ).go ρ λds=>if ds.length=fls.length/\ds.length<=1000 then .er (.exc C (fls.zip ds)) (frz ρ) else .bad):=by
 subst eP ew eK em eb;obtain⟨f,fd,c,F,hb,hm⟩:=h;refine⟨λpins s σ H T I z9116=>?_⟩
 obtain⟨B,G,ρ,R,q⟩:=z9116;rw[arm_exec_Raise];refine wpAny_bind (wpAny_standAt ?_);refine u9o (I.ok.hd hc) ?_;refine wpAny_bind (m:=eval (.Call (.Name x p) (e::es) [] cpos) X.env) (wpAny_Call_Name_kw (u3f I hg hm ?_ hdb));refine W.callWith_K (h₀:=X.base) I.ok.mod.kin c.kp (thn (ha.out cpos pins s σ H (λvs H1=>∃G1 ds,Rel X.K B ρ σ G1 H1/\Rps X.K G1 vs ds/\ds.length=fls.length/\ds.length<=1000/\∀v σ F H,Rel X.K B (frz ρ) σ F H->Rp X.K F v (.exc C (fls.zip ds))->xq v σ H) I ?_) λus s1 ⟨vs,H1,I1,r,G1,ds,R1,p1,l1,l2,q1⟩=>⟨I1.kIn,?_⟩) (u0v (u0q ha.ns).1) (u1b (u0q ha.ns).2)
 ·refine ⟨B,G,ρ,R,Res.all_mono (u0F q.out) (fun ds z vs G1 H1 st p1=>?_) fun _ z=>errOf z⟩
  by_cases hz:ds.length=fls.length/\ds.length<=1000
  ·rw [if_pos hz] at z
   exact⟨G1,ds,R.step st,p1,hz.1,hz.2,z⟩
  ·rw[if_neg hz] at z;exact z.elim
 ·refine run_xf c F (hr.mono hk) hb I1 r (by rw [p1.length];exact l2) (p1.length.trans l1) fun a dx s2 n1 n2 n3 I2=>wpAny_bind (wpAny_standAt (wpAny_pure ?_))
  have xa:=xf_at I2.hok u0g;obtain⟨⟨t,sl,z⟩,hn⟩:=xa;refine⟨a,t,C,f,some dx,sl,X.K,rfl,I2.kIn,c,z,hq.xe _ _ ?_⟩;have I3:=I2.xo u0g;rw[upd_upd] at I3;refine⟨_,a,C,some dx,σ,_,.none,I1.old.bare0,rfl,I3.bare0,u0g,⟨hn,_,_,z,rfl,by show 1<6;decide,.inl ⟨rfl,rfl⟩⟩,.inl rfl,?_⟩
  have s1:=Stp.new (o:=DXO dx (fls.zip vs)) R1.fh n2;have n1':upd H1 dx (DXO dx (fls.zip vs)) a=none:=by rw[u0j (Ne.symm n3)];exact n1
  have s2:=s1.trans (Stp.new (o:=XO C (some dx) a) s1.fh n1');obtain⟨G3,e3,R3⟩:=(R1.step s2).frz;refine q1 _ σ G3 _ R3 (Rp.same e3 (.exc u0g (by rw[u0j n3];exact u0g) ((p1.zip fls).same s2.ff)))
end
def XBase (K:W.Frag) (C:Addr):Prop:=∃bm N nm q bs sn sub ab col dd k0 k1 k2 k3 k5,K.lookup C=some (excClassObj nm q C N bs bm true sn sub ab col dd k0 k1 k2 k3 k5 "ValueError.__new__")/\(Value.ref C::bm).contains (.type "BaseException")=true
noncomputable def xbB (K:W.Frag) (C:Addr):Bool:=match K.lookup C with
 | some ⟨.type "type",_,.cls cd,sl⟩=>(match cd.mro,sl.toList with
  | .ref C'::bm,[_,_,_,_,some (.builtin n),_]=>C'==C&&n=="ValueError.__new__"&&!cd.hasDel&&cd.hasDict&&(Value.ref C::bm).contains (.type "BaseException")
  | _,_=>false)
 | _=>false
set_option tactic.hygienic true in
def u5o {K:W.Frag}{C:Addr} (e:xbB K C=true):XBase K C:=by
 unfold xbB at e;split at e
 ·rename_i dd cd sl ho
  split at e
  ·rename_i C' bm k0 k1 k2 k3 n k5 hm hs
   simp only[u0,beq_iff_eq,Bool.not_eq_true'] at e;obtain⟨⟨⟨⟨rfl,rfl⟩,hdel⟩,hdi⟩,hb⟩:=e;obtain⟨nm,bs,mro,ns,qn,hd,sn,sub,ab,col,del⟩:=cd;dsimp only at hm hdel hdi;subst hm hdel hdi;have hsl:sl=#[k0,k1,k2,k3,some (.builtin "ValueError.__new__"),k5]:=by
    obtain⟨l⟩:=sl;simp only at hs;rw[hs]
   subst hsl;exact⟨bm,ns,nm,qn,bs,sn,sub,ab,col,dd,k0,k1,k2,k3,k5,ho,hb⟩
  ·cases e
 ·cases e
noncomputable def subK (K:W.Frag) (C C':Addr):Bool:=match W.clsIn K C with
 | some cd=>cd.mro.contains (.ref C')
 | none=>false
section
variable {M:Model}{A:Around}{E:VP}{s:Shared}{K:W.Frag}{C C' e:Addr}
def v1r {Q:Bool->Shared->Prop}{oe:Obj} (KI:K.In s.heap) (c:XBase K C) (c':XBase K C') (he:s.heap.get? e=some oe) (hcls:oe.cls=.ref C) (hq:Q (subK K C C') s):wpAny M A (excMatches (.ref e) (.ref C')) Q E s:=by
 obtain⟨bm,N,nm,q,bs,sn,sub,ab,col,dd,k0,k1,k2,k3,k5,hK,hb⟩:=c;obtain⟨bm',N',nm',q',bs',sn',sub',ab',col',dd',j0,j1,j2,j3,j5,hK',hb'⟩:=c';have hC:=KI _ _ hK;have hC':=KI _ _ hK';have hs:subK K C C'=(Value.ref C::bm).contains (.ref C'):=by
  unfold subK W.clsIn;rw[hK]
 rw[hs] at hq;have f:=tc_notTuple;obtain⟨hp,g,d,tk,os⟩:=s;unfold excMatches
 repeat (first|((with_reducible refine wpAny_loadPart_at he ?_);rw[hcls])|(with_reducible refine wpAny_loadPart_at hC' ?_)|((with_reducible refine wpAny_isSubtype_exc hC' ?_);rw[hb'])|((with_reducible refine wpAny_isSubtype_exc hC ?_);generalize hz:(Value.ref C::bm).contains (.ref C')=z at hq |-;cases z)|wp_step)
 all_goals (wp_walk;exact hq)
end
section
variable {X:Cx}{pins:LO}{σ:St}{H:Hp}{s:Shared}{M:Model}{A:Around}{E:VP}
def Inv.gone {i:Nat}{n:Str}{m:MG}{w:Option Value}{h':Heap}{t':Nat} (I:Inv X pins σ H s) (hN:X.N.Nodup) (hi:X.N[i]?=some n) (hl:∀(j:Nat) (x:Str) (v:V),X.N[j]?=some x->σ[j]?=some (some v)->Vis X.env.scope x->∃u,RelV v u/\Look X.env s.heap m x u)
  (hn':h'.Ns X.env.locals (λx=>if x=n then w else m x)) (hs:Heap.SameBut X.env.locals s.heap h'):Inv X pins (σ.set i none) H { s with heap:=h',toks:=t' }:=by
 have ne:∀b,b≠X.env.locals->h'.get? b=s.heap.get? b:=hs.2;have old:∀b o,X.s₀.heap.get? b=some o->b≠X.env.locals:=λb o e=>x0 (y3 (z8 e) I.ok.above)
 refine⟨I.ok,I.os,I.bare,⟨λb o e z hb hx=>(ne b (old b o e)).trans (I.base.keep b o e z hb hx),λb o e z hb hx=>?_,I.base.free,λb o e hx=>?_,I.base.tups,I.base.frzs,I.base.tbls⟩,⟨_,hn',λj x v e1 e2 e3=>?_⟩,λx c e=>?_,I.free,I.freeC,λp hp=>?_,λa o e=>?_,by simp[I.len]⟩
 ·obtain ⟨sl,q⟩:=I.base.slot b o e z hb hx
  exact⟨sl,(ne b (old b o e)).trans q⟩
 ·obtain ⟨o',q⟩:=I.base.there b o e hx
  exact⟨o',(ne b (old b o e)).trans q⟩
 ·by_cases hj:j=i
  ·subst hj
   rw[z0J (by rw[I.len];exact(y6.mp hi).1)] at e2
   cases e2
  ·rw [List.getElem?_set_ne (Ne.symm hj)] at e2
   obtain⟨u,r,q⟩:=hl j x v e1 e2 e3;refine⟨u,r,?_⟩;rcases q with⟨k,q⟩|⟨k,c,q,z⟩
   ·have nx:x≠n:=fun y=>hj (u5F hN e1 (y ▸ hi))
    exact .inl ⟨k,by show(if x=n then w else m x)=some u;rw[if_neg nx];exact q⟩
   ·exact .inr ⟨k,c,q,z.sameBut hs (I.cne x c q)⟩
 ·obtain ⟨v,z⟩:=I.cell x c e
  exact⟨v,z.sameBut hs (I.cne x c e)⟩
 ·obtain ⟨q,z,nl,nf,d⟩:=I.pin p hp
  exact⟨(ne p.1 nl).trans q,z,nl,nf,d⟩
 ·refine (I.hok a o e).stay (fun c u hc q=>(ne c ?_).trans q) (fun _ q=>q) fun _ _ q=>q
  rintro rfl;rcases hc with rfl|hc
  ·rw[I.free] at e;cases e
  ·rw[I.free] at hc;cases hc
def u5H {i:Nat}{n:Str}{pos:Pos}{Q:Unit->Shared->Prop} (I:Inv X pins σ H s) (hN:X.N.Nodup) (hi:X.N[i]?=some n) (hl:X.env.scope.names.lookup n=some .local) (hk:X.env.kindOf n=some .local)
  (h:∀s',Inv X pins (σ.set i none) H s'->Q () s'):wpAny M A (do bindName X.env n .none;unbindBehindTheSuite X.env n pos) Q E s:=by
 have hp:(X.env.scope.kind==.class||(X.env.scope.kind==.module&&X.env.locals != X.env.globals))=false:=by rw[I.ok.kind];rfl
 refine wpAny_bind (wpAny_bindName (u3H (v:=.non) I hN hi (.inl hl) rfl (λs1 I1=>?_) (.inr hl)))
 obtain⟨m,hn,hlo⟩:=id I1.loc;have hiσ:i<σ.length:=by rw[I.len];exact(y6.mp hi).1
 obtain⟨u,ru,lk⟩:=hlo i n .non hi (by rw[z0J hiσ]) (.inl hl)
 have hm:m n=some .none:=by
  cases ru;rcases lk with⟨_,q⟩|⟨k,_⟩
  ·exact q
  ·rw[hk] at k;rcases k with k|k<;>cases k
 unfold unbindBehindTheSuite;refine wpAny_onRaise ?_;unfold unbindName;refine wpAny_bind (wpAny_point (wpAny_bind ?_));unfold deleteName;simp only[hk,hp];rw[if_neg (by decide)]
 refine wpAny_bind (wpAny_nsDel_keeps hn λh2 w hn2 hs2=>?_)
 rw[hm];simp only[if_true,Option.isSome_some,Bool.not_true,v7,if_false];refine wpAny_pure (wpAny_point ?_);have I2:=I1.gone (t':=s1.toks) hN hi hlo hn2 hs2;rw[List.set_set] at I2;exact h _ I2
end
abbrev cxH (X:Cx) (e:Addr):Cx:={ X with A:=X.A.mark (some (.ref e)),calm:=false,xe:=λ_ _=>False }
section
variable {X:Cx}{xq:XQ}{pins:LO}{σ:St}{H:Hp}{s:Shared}{e:Addr}
def Inv.toH (I:Inv X pins σ H s) (e:Addr):Inv (cxH X e) pins σ H s :=
 ⟨⟨I.ok.mod,I.ok.kind,I.ok.glob,I.ok.blt,I.ok.above,I.ok.inj,I.ok.has,I.ok.cab,(λz=>nomatch z),I.ok.frames,I.ok.stk,I.ok.exf,I.ok.bs,I.ok.bsz,I.ok.noex,I.ok.exfs,I.ok.funs,I.ok.frf⟩,I.os,I.bare,I.base,I.loc,I.cell,I.free,I.freeC,I.pin,I.hok,I.len⟩
def Inv.ofH (J:X.Ok) (I:Inv (cxH X e) pins σ H s):Inv X pins σ H s:=⟨J,I.os,I.bare,I.base,I.loc,I.cell,I.free,I.freeC,I.pin,I.hok,I.len⟩
def Rel.unset {K:W.Frag}{B:Hp×Hp}{ρ:Rho}{F:Hp}{i:Nat} (r:Rel K B ρ σ F H):Rel K B (ρ.set i none) (σ.set i none) F H where
 st:=r.st
 len:=by simp[r.len]
 val j d e:=by
  rcases u0u e with⟨rfl,q,z⟩|⟨q,z⟩
  ·cases z
  ·rw[u0B q];exact r.val j d z
 own j o e:=by
  rcases u0u e with⟨rfl,q,z⟩|⟨q,z⟩
  ·cases z
  ·rw[u0B q];exact r.own j o z
 dis j k o u a x y:=by
  rcases u0u x with⟨rfl,q,z⟩|⟨q,z⟩
  ·cases z
  ·rcases u0u y with ⟨rfl,q',z'⟩ | ⟨q',z'⟩
   ·cases z'
   ·rw[u0B q,u0B q'];exact r.dis j k o u a z z'
def PH (X:Cx) (xq:XQ) (hs:List ExceptHandler) (hd:D->Rho->Out):Prop:=∀(pins:LO) (s:Shared) (σ:St) (H:Hp) (B:Hp×Hp) (F:Hp) (ρ:Rho) (x:D) (e:Addr) (n:Nat) (T:Ends),Inv X pins σ H s->Old X pins n->Tr n s.heap H e .none ->
 Rel X.K B ρ σ F H->Rp X.K F (.ref e) x->OkS X.K xq B T (hd x ρ)->wpAny (model X.prog X.w) X.A (handleBy (.ref e) X.env hs) (SP X pins T) X.xe s
structure DH (X:Cx) (xq:XQ) (hs:List ExceptHandler) (hd:D->Rho->Out):Prop where
 out:PH X xq hs hd
noncomputable def isE:D->Bool
 | .exc _ _=>true
 | _=>false
set_option tactic.hygienic true in
def dh_nil (hq:XqOk X xq):DH X xq [] (λx ρ=>if isE x=true then .er x (frz ρ) else .bad):=⟨λpins s σ H B F ρ x e n T I o tr R p q=>by
 cases p with
 | exc h1 h2 h3 =>
  rename_i C dx fs gs;have q':∀v σ F H,Rel X.K B (frz ρ) σ F H->Rp X.K F v (.exc C gs)->xq v σ H:=q.out;have hx:=R.fh _ _ h1;refine wpAny_handleBy_nil ?_;unfold PySem.passOn;have tr':=tr;obtain⟨a0,oe,vs,a1,a2,a3,t,oT,ts,a4,a5,a6,a7,a8,a9,a10⟩:=tr';refine wpAny_bind (wpAny_field a1 a2 a4 ?_);rw[if_neg (show ¬ ((Value.ref t==Value.none)=true) by simp),hq.st.2]
  refine wpAny_bind (u2f (f:=some X.env.locals) I hq.st o hx tr λs3 I3 tr3=>wpAny_throw (hq.xe _ _ ?_))
  obtain⟨F1,e1,R1⟩:=R.frz;exact⟨n,e,C,some dx,σ,H,_,o.bare0,rfl,I3.bare0,hx,tr3.tb,.inr rfl,q' _ σ F1 H R1 (Rp.same e1 (.exc h1 h2 h3))⟩
 | _=>exact q.out.elim⟩
noncomputable def unset (i:Nat):Out->Out
 | .nx ρ=>.nx (ρ.set i none)
 | .rt d=>.rt d
 | .bk ρ=>.bk (ρ.set i none)
 | .ct ρ=>.ct (ρ.set i none)
 | _=>.bad
noncomputable def hdAs (K:W.Frag) (C':Addr) (i:Nat) (fb:Rho->Out) (rest:D->Rho->Out) (x:D) (ρ:Rho):Out:=match x with
 | .exc C gs=>if xbB K C=true then (if subK K C C'=true then unset i (fb (ρ.set i (some (.val (.exc C gs))))) else rest (.exc C gs) ρ) else .bad
 | _=>.bad
set_option tactic.hygienic true in
def dh_as {cn nm:Str}{C':Addr}{i:Nat}{p pos:Pos}{b0:Stmt}{bs:List Stmt}{rest:List ExceptHandler}{fb:Rho->Out}{hr:D->Rho->Out} (hst:X.stack=X.env::X.outer/\X.env.frame=some X.env.locals) (hN:X.N.Nodup) (hm:X.mg cn=some (.ref C')) (hb:XBase X.K C')
  (hsu:∀e,DB (cxH X e) xqF (b0::bs) fb) (hrs:DH X xq rest hr) (hi:X.N[i]?=some nm:=by rfl) (hl:X.env.scope.names.lookup nm=some .local:=by rfl) (hk:X.env.kindOf nm=some .local:=by rfl) (hg:Gl X cn:=by rfl) (hdb:(cn==("__debug__":Str))=false:=by decide) :
  DH X xq (.ExceptHandler (some (.Name cn p)) (some nm) (b0::bs) pos::rest) (hdAs X.K C' i fb hr):=⟨λpins s σ H B F ρ x e n T I o tr R pe q=>by
 cases pe with
 | exc h1 h2 h3 =>
  rename_i C dx fs gs;have hx:=R.fh _ _ h1;have q:=q.out;unfold hdAs at q;dsimp only at q;by_cases hc:xbB X.K C=true
  ·rw [if_pos hc] at q
   obtain⟨oe,he,hcls⟩:∃oe,s.heap.get? e=some oe/\oe.cls=.ref C:=by
    obtain⟨t,f1,f2,f3,f4,f5,sl,z⟩:=v2b I.hok hx;exact⟨_,z,rfl⟩
   have IH:=I.toH e;refine wpAny_handleBy_cons (codeAny_handlers_test (u3f IH hg hm (v1r I.kIn (u5o hc) hb he hcls ?_) hdb)) (by intro z;cases z)
   cases hsb:subK X.K C C' with
   | false =>
    rw[hsb] at q;exact hrs.out pins s σ H B F ρ _ e n T I o tr R (.exc h1 h2 h3) ⟨q⟩
   | true =>
    rw[hsb] at q;refine codeAny_handlers_suite_as (u2f (X:=cxH X e) (f:=none) IH hst ⟨o.s0,o.loc,o.cel,o.pin⟩ hx tr λs2 I2 tr2=>?_)
    refine u3H (X:=cxH X e) (v:=.ref e) I2 hN hi (.inl hl) rfl (λs3 I3=>?_) (.inr hl)
    have R3:Rel X.K B (ρ.set i (some (.val (.exc C gs)))) (σ.set i (some (.ref e))) F H:=R.set (.exc h1 h2 h3);refine wpAny_mono ((hsu e).out pins s3 _ H { nx:=λσ' H'=>T.nx (σ'.set i none) H',rt:=T.rt,bk:=λσ' H'=>T.bk (σ'.set i none) H',ct:=λσ' H'=>T.ct (σ'.set i none) H' } I3 ⟨B,F,_,R3,⟨?_⟩⟩) (λf s4 z=>?_) λ_ _ z=>False.elim z
    ·generalize fb (ρ.set i (some (Sl.val (D.exc C gs))))=out at q
     cases out with
     | nx r=>exact λσ' F' H' R'=>q _ F' H' R'.unset
     | rt d=>exact q
     | bk r=>exact λσ' F' H' R'=>q _ F' H' R'.unset
     | ct r=>exact λσ' F' H' R'=>q _ F' H' R'.unset
     | er y r=>exact q.elim
     | bad=>exact q.elim
    ·cases f with
     | next=>obtain⟨σ',H',I4,z⟩:=z;exact u5H (Inv.ofH I.ok I4) hN hi hl hk λs5 I5=>⟨_,H',I5,z⟩
     | brk=>obtain⟨σ',H',I4,z⟩:=z;exact u5H (Inv.ofH I.ok I4) hN hi hl hk λs5 I5=>⟨_,H',I5,z⟩
     | cont=>obtain⟨σ',H',I4,z⟩:=z;exact u5H (Inv.ofH I.ok I4) hN hi hl hk λs5 I5=>⟨_,H',I5,z⟩
     | ret u=>obtain⟨v,σ',H',I4,r,z⟩:=z;exact u5H (Inv.ofH I.ok I4) hN hi hl hk λs5 I5=>⟨v,_,H',I5,r,z⟩
  ·rw[if_neg hc] at q;exact q.elim
 | _=>exact q.out.elim⟩
noncomputable def hdNo (K:W.Frag) (C':Addr) (fb:Rho->Out) (rest:D->Rho->Out) (x:D) (ρ:Rho):Out:=match x with
 | .exc C gs=>if xbB K C=true then (if subK K C C'=true then (match fb ρ with | .er _ _=>.bad|o=>o) else rest (.exc C gs) ρ) else .bad
 | _=>.bad
abbrev cxP (X:Cx) (pn:LO):Cx:={ X with pn:=X.pn++pn }
abbrev cxT (X:Cx) (pn:LO) (xq:XQ):Cx:=(cxP X pn).wish (Fly (cxP X pn) xq)
def Inv.toP (I:Inv X pins σ H s):Inv (cxP X pins) [] σ H s :=
 ⟨⟨I.ok.mod,I.ok.kind,I.ok.glob,I.ok.blt,I.ok.above,I.ok.inj,I.ok.has,I.ok.cab,I.ok.hd,I.ok.frames,I.ok.stk,I.ok.exf,I.ok.bs,I.ok.bsz,I.ok.noex,I.ok.exfs,I.ok.funs,I.ok.frf⟩,I.os,I.bare,I.base,I.loc,I.cell,I.free,I.freeC,λp hp=>I.pin p (by simpa using hp),I.hok,I.len⟩
def Inv.ofP (I:Inv (cxP X pins) [] σ H s):Inv X pins σ H s :=
 ⟨⟨I.ok.mod,I.ok.kind,I.ok.glob,I.ok.blt,I.ok.above,I.ok.inj,I.ok.has,I.ok.cab,I.ok.hd,I.ok.frames,I.ok.stk,I.ok.exf,I.ok.bs,I.ok.bsz,I.ok.noex,I.ok.exfs,I.ok.funs,I.ok.frf⟩,I.os,I.bare,I.base,I.loc,I.cell,I.free,I.freeC,λp hp=>I.pin p (by simpa using hp),I.hok,I.len⟩
def Old.ofP {n:Nat} (o:Old (cxP X pins) [] n):Old X pins n:=⟨o.s0,o.loc,o.cel,λp hp=>o.pin p (by simpa using hp)⟩
noncomputable def catchD (hd:D->Rho->Out):Out->Out
 | .er x ρ=>hd x ρ
 | o=>o
def ds_try {body:List Stmt}{h0:ExceptHandler}{hs:List ExceptHandler}{pos:Pos}{fb:Rho->Out}{hd:D->Rho->Out} (hst:X.stack=X.env::X.outer/\X.env.frame=some X.env.locals)
  (hb:∀pn xq',XqOk (cxT X pn xq') xq'->DB (cxT X pn xq') xq' body fb) (hh:DH X xq (h0::hs) hd) :
  DS X xq (.Try body (h0::hs) [] [] pos) (λρ=>catchD hd (fb ρ)):=⟨λpins s σ H T I z9=>un5 z9 λB F ρ R q=>by
 rw[arm_exec_Try];refine wpAny_bind (wpAny_standAt (wpAny_tryStmt_except ?_))
 let xq':XQ:=λv σ' H'=>∃ρ' F' x,Rel X.K B ρ' σ' F' H'/\Rp X.K F' v x/\OkS X.K xq B T (hd x ρ')
 have hq':XqOk (cxT X pins xq') xq':=u5W (X:=cxP X pins) hst;refine wpAny_mono ((hb pins xq' hq').out [] s σ H T (I.toP.wish _) ⟨B,F,ρ,R,⟨?_⟩⟩) (λf s1 z=>?_) λu s1 z=>?_
 ·have q:=q.out
  dsimp only at q;generalize fb ρ=out at q;cases out with
  | nx r=>exact q
  | rt d=>exact q
  | bk r=>exact q
  | ct r=>exact q
  | er x r=>exact λv σ' F' H' R' p'=>⟨r,F',x,R',p',⟨q⟩⟩
  | bad=>exact q.elim
 ·cases f with
  | next=>obtain⟨σ',H',I4,z⟩:=z;exact wpAny_execs_nil ⟨σ',H',I4.unwish.ofP,z⟩
  | brk=>obtain⟨σ',H',I4,z⟩:=z;exact⟨σ',H',I4.unwish.ofP,z⟩
  | cont=>obtain⟨σ',H',I4,z⟩:=z;exact⟨σ',H',I4.unwish.ofP,z⟩
  | ret u=>obtain⟨v,σ',H',I4,r,z⟩:=z;exact⟨v,σ',H',I4.unwish.ofP,r,z⟩
 ·obtain ⟨n,e,C,d,σ',H',fl,o,rfl,I1,hx,tb,hfl,ρ',F',x,R',p',q'⟩:=z
  refine u7C (X:=cxP X pins) I1 hst o hx tb hfl λs2 I2 tr2=>?_
  refine u2f (X:=cxP X pins) (f:=none) I2 hst o hx tr2 λs3 I3 tr3=>?_
  exact hh.out pins s3 σ' H' B F' ρ' x e n T I3.ofP o.ofP tr3 R' p' q'⟩
noncomputable def dXf (K:W.Frag) (f:Str):D->Res D
 | .exc _ gs=>match gs.lookup f with
  | some d=>.ok d
  | none=>.bad
 | _=>.bad
def XRead (K:W.Frag) (f:Str) (Cs:List Addr):Prop:=∀C∈Cs,(∃fI,XCls K C fI)/\NoAttr K C f
set_option tactic.hygienic true in
def v4i {o:Expr}{f:Str}{fo:Rho->Res D}{pos:Pos}{Cs:List Addr}{K:W.Frag} (hr:XRead K f Cs) (ho:DE X xq o fo) (eK:X.K=K:=by rfl) (hb:attributeBase o f X.env (eval o X.env)=eval o X.env:=by rfl) :
  DE X xq (.Attribute o f pos) (λρ=>(fo ρ).bind λx=>match x with | .exc C gs=>if C∈Cs then (match gs.lookup f with|some d=>.ok d|none=>.bad) else .bad|_=>.bad):=by
 subst eK;refine DE.of (pe_xfld ho.out hb) λB F ρ σ H Q R q=>seqE R q λd v F1 H1 s1 R1 p1 q1=>?_
 cases p1 with
 | exc h1 h2 h3 =>
  rename_i C dx fs gs;have q1:(if C∈Cs then (match gs.lookup f with|some d=>Res.ok d|none=>.bad) else .bad).all _ _:=q1
  by_cases hc:C∈Cs
  ·rw [if_pos hc] at q1
   cases hl:gs.lookup f with
   | none=>rw[hl] at q1;exact q1.elim
   | some d =>
    rw[hl] at q1;obtain⟨v,hv,pv⟩:=h3.lookup hl;obtain⟨⟨fI,c⟩,na⟩:=hr C hc;exact⟨_,C,fI,dx,fs,v,rfl,R1.fh _ _ h1,R1.fh _ _ h2,c,na,hv,q1 v F1 H1 s1 pv⟩
  ·rw[if_neg hc] at q1;exact q1.elim
 | _=>exact q1.elim
end
mutual
noncomputable def DK.hash (w:World):DK->Int
 | .i n=>keyH w (.inl n)
 | .s z=>keyH w (.inr z)
 | .t ks=>reduceHash (Builtin.Tuple.tupleHashOf (DK.hashes w ks))
noncomputable def DK.hashes (w:World):List DK->List Int
 | []=>[]
 | k::ks=>k.hash w::DK.hashes w ks
end
mutual
noncomputable def DK.drw:DK->Nat
 | .i _=>1
 | .s _=>1
 | .t ks=>DK.drws ks+1
noncomputable def DK.drws:List DK->Nat
 | []=>0
 | k::ks=>k.drw+DK.drws ks
end
mutual
inductive KAt (h:Heap):DK->Value->Prop
 | i (n:Int) (t:Tok):KAt h (.i n) (.int n t)
 | s (z:Str) (t:Tok):KAt h (.s z) (.str z t)
 | t {a:Addr}{o:Obj}{its:Array Value}{n:Nat}{ks:List DK}:h.get? a=some o->o.cls=.type "tuple"->o.data=.seq its n->KAts h ks its.toList->KAt h (.t ks) (.ref a)
inductive KAts (h:Heap):List DK->List Value->Prop
 | nil:KAts h [] []
 | cons {k:DK}{v:Value}{ks:List DK}{vs:List Value}:KAt h k v->KAts h ks vs->KAts h (k::ks) (v::vs)
end
mutual
theorem KAt.inj {h:Heap}:∀{x y:DK}{v:Value},KAt h x v->KAt h y v->x=y
 | _,_,_,.i _ _,.i _ _=>rfl
 | _,_,_,.s _ _,.s _ _=>rfl
 | _,_,_,.t p1 _ p2 p3,.t q1 _ q2 q3=>by
  rw[p1] at q1;cases q1;rw[p2] at q2;cases q2;rw[KAts.inj p3 q3]
theorem KAts.inj {h:Heap}:∀{x y:List DK}{v:List Value},KAts h x v->KAts h y v->x=y
 | _,_,_,.nil,.nil=>rfl
 | _,_,_,.cons p ps,.cons q qs=>by rw[KAt.inj p q,KAts.inj ps qs]
end
mutual
theorem KAt.moved {h h':Heap} (k:∀b o its n,h.get? b=some o->o.data=.seq its n->h'.get? b=some o):∀{x:DK}{v:Value},KAt h x v->KAt h' x v
 | _,_,.i n t=>.i n t
 | _,_,.s n t=>.s n t
 | _,_,.t p1 pc p2 p3=>.t (k _ _ _ _ p1 p2) pc p2 (KAts.moved k p3)
theorem KAts.moved {h h':Heap} (k:∀b o its n,h.get? b=some o->o.data=.seq its n->h'.get? b=some o):∀{x:List DK}{v:List Value},KAts h x v->KAts h' x v
 | _,_,.nil=>.nil
 | _,_,.cons p ps=>.cons (KAt.moved k p) (KAts.moved k ps)
end
mutual
theorem KAt.reads {h:Heap}:∀{x:DK}{v:Value},KAt h x v->∃as,Reads h v x.py as
 | _,_,.i n t=>⟨_,.int n t⟩
 | _,_,.s z t=>⟨_,.str z t⟩
 | _,_,.t p1 pc p2 p3=>let ⟨_,q⟩:=KAts.reads p3;⟨_,by rw[DK.py];exact .tuple p1 pc p2 q⟩
theorem KAts.reads {h:Heap}:∀{x:List DK}{v:List Value},KAts h x v->∃as,ReadsAll h v (DK.pys x) as
 | _,_,.nil=>⟨_,.nil⟩
 | _,_,.cons p ps=>let ⟨_,q⟩:=KAt.reads p;by obtain⟨_,qs⟩:=KAts.reads ps;exact⟨_,.cons q qs⟩
end
mutual
theorem DK.eqv_iff:∀x y:DK,PyData.eqv x.py y.py=true↔x=y
 | .i n,.i m=>by simp[DK.py,PyData.eqv]
 | .s n,.s m=>by simp[DK.py,PyData.eqv]
 | .t n,.t m=>by simp only[DK.py,PyData.eqv,DK.t.injEq];exact DK.eqvs_iff n m
 | .i _,.s _=>by simp[DK.py,PyData.eqv]
 | .i _,.t _=>by simp[DK.py,PyData.eqv]
 | .s _,.i _=>by simp[DK.py,PyData.eqv]
 | .s _,.t _=>by simp[DK.py,PyData.eqv]
 | .t _,.i _=>by simp[DK.py,PyData.eqv]
 | .t _,.s _=>by simp[DK.py,PyData.eqv]
theorem DK.eqvs_iff:∀x y:List DK,PyData.eqvAll (DK.pys x) (DK.pys y)=true↔x=y
 | [],[]=>by simp[DK.pys,PyData.eqvAll]
 | a::x,b::y=>by simp only[DK.pys,PyData.eqvAll,u0,List.cons.injEq];rw[DK.eqv_iff a b,DK.eqvs_iff x y]
 | [],_::_=>by simp[DK.pys,PyData.eqvAll]
 | _::_,[]=>by simp[DK.pys,PyData.eqvAll]
end
def DK.eqv_dec (x y:DK):PyData.eqv x.py y.py=decide (x=y):=by
 rw[z0I,DK.eqv_iff];simp
section
variable {prog:Program}{w:World}
set_option maxHeartbeats 1000000 in
def v3b (d:Nat):∀{k:DK}{v:Value}{A:Around}{E:VP}{s:Shared}{Q:Int->Shared->Prop},k.dep<=d->A.units+d<cLine->KAt s.heap k v->Q (k.hash w) { s with toks:=s.toks+k.drw }->wpAny (model prog w) A (PySem.pyHash v) Q E s:=by
 induction d with
 | zero =>
  intro k v A E s Q hd hu p q;cases p with
  | i n t=>exact(mixKind prog w).pyHash (k:=.inl n) (u2y prog w n t) q
  | s z t=>exact(mixKind prog w).pyHash (k:=.inr z) (u2x prog w z t) q
  | t p1 pc p2 p3=>simp[DK.dep] at hd
 | succ d ih =>
  intro k v A E s Q hd hu p q;cases p with
  | i n t=>exact(mixKind prog w).pyHash (k:=.inl n) (u2y prog w n t) q
  | s z t=>exact(mixKind prog w).pyHash (k:=.inr z) (u2x prog w z t) q
  | @t a o its n ks p1 pc p2 p3 =>
   have ty:s.TypeIs (.ref a) "tuple":=⟨o,p1,pc⟩;have hds:DK.deps ks<=d:=by simpa[DK.dep] using hd
   unfold PySem.pyHash
   first|unfold pyHashByItsType|skip
   first|refine wpAny_bind (wpAny_cRoomFor_or (.inr (by omega)) ?_)|skip
   refine wpAny_bind (wpAny_specialOf ty F.slot_tuple_hash.lookup ?_);show wpAny _ _ (if (some (Value.builtin "tuple.__hash__")==some Value.none)=true then _ else _) _ _ _
   rw[if_neg (by rw[beq_builtin_none];simp)]
   refine wpAny_bind (wpAny_specialOf ty F.slot_tuple_hash.lookup ?_);show wpAny _ _ (callSpecialIfBoundUnlessNone? (.ref a) "__hash__" _ >>= _) _ _ _;refine wpAny_bind (wpAny_callSpecialIfBoundUnlessNone?_slot ty F.slot_tuple_hash (wpAny_call_entry F.slot_tuple_hash ty F.entry_tuple_hash ?_ (F.args_tuple_hash_1 _)));show wpAny _ _ (Builtin.Tuple.tupleItemsOf (.ref a) >>= _) _ _ _;refine wpAny_bind (wpAny_tupleItemsOf p1 p2 ?_);refine wpAny_bind ?_;rw[<- Array.forIn_toList];refine wpAny_forIn_list _ (λrest (b:Array Int) s'=>∃l r,DK.hashes w ks=l++DK.hashes w r/\KAts s.heap r rest/\DK.deps r<=d/\b.toList=l/\∃c,c+DK.drws r=DK.drws ks/\s'={ s with toks:=s.toks+c }) _ ?_ ?_ _ _ ⟨[],ks,rfl,p3,hds,rfl,0,Nat.zero_add _,rfl⟩
   ·rintro x rest b s' ⟨l,r,e1,e2,e3,e4,c,e5,rfl⟩
    cases e2 with
    | @cons k _ r' _ f1 f2 =>
     simp only[DK.deps] at e3;refine wpAny_bind (ih (k:=k) (by omega) (by show A.units+1+d<cLine;omega) f1 ?_)
     first
      | exact wpAny_pure ⟨l++[k.hash w],r',by rw[e1];simp[DK.hashes],f2,by omega,by simp[e4],c+k.drw,by rw[<- e5];simp[DK.drws,Nat.add_assoc],by simp[Nat.add_assoc]⟩
      | exact wpAny_bind (wpAny_pure (wpAny_pure ⟨l++[k.hash w],r',by rw[e1];simp[DK.hashes],f2,by omega,by simp[e4],c+k.drw,by rw[<- e5];simp[DK.drws,Nat.add_assoc],by simp[Nat.add_assoc]⟩))
   ·rintro b s' ⟨l,r,e1,e2,e3,e4,c,e5,rfl⟩
    cases e2;have e6:DK.hashes w ks=b.toList:=by rw[e1,e4];simp[DK.hashes]
    have e7:c=DK.drws ks:=by rw[<- e5];simp[DK.drws]
    subst e7;simp only[DK.hash,DK.drw] at q;rw[e6] at q;show wpAny _ _ (retInt (Builtin.Tuple.tupleHashOf b.toList)) _ _ _;refine wpAny_ret_mkInt ?_;show wpAny _ _ (if (decide (-(2:Int)^63<=Builtin.Tuple.tupleHashOf b.toList)&&decide (Builtin.Tuple.tupleHashOf b.toList<2^63))=true then _ else _) _ _ _
    unfold reduceHash at q;by_cases hr:(decide (-(2:Int)^63<=Builtin.Tuple.tupleHashOf b.toList)&&decide (Builtin.Tuple.tupleHashOf b.toList<2^63))=true
    ·rw [if_pos hr] at q |-
     exact wpAny_pure (by simpa[Nat.add_assoc] using q)
    ·rw [if_neg hr] at q |-
     exact wpAny_bind (wpAny_rule (wpAny_pure (by simpa[Nat.add_assoc] using q)))
def v0V (d:Nat):∀{k:DK}{v:Value}{A:Around}{E:VP}{s:Shared}{Q:Bool->Shared->Prop},k.dep<=d->KAt s.heap k v->Q true s->wpAny (model prog w) A (eqIsQuiet d v) Q E s:=by
 induction d with
 | zero =>
  intro k v A E s Q hd p q;cases p with
  | i n t=>rw[eqIsQuiet_byValue _ rfl];exact wpAny_pure q
  | s z t=>rw[eqIsQuiet_byValue _ rfl];exact wpAny_pure q
  | t p1 pc p2 p3=>simp[DK.dep] at hd
 | succ d ih =>
  intro k v A E s Q hd p q;cases p with
  | i n t=>rw[eqIsQuiet_byValue _ rfl];exact wpAny_pure q
  | s z t=>rw[eqIsQuiet_byValue _ rfl];exact wpAny_pure q
  | @t a o its n ks p1 pc p2 p3 =>
   have ty:s.TypeIs (.ref a) "tuple":=⟨o,p1,pc⟩;have hds:DK.deps ks<=d:=by simpa[DK.dep] using hd
   unfold eqIsQuiet;refine wpAny_bind (wpAny_specialOf ty F.slot_tuple_eq.lookup ?_);show wpAny _ _ (isInstance (.ref a) (.type "tuple") >>= _) _ _ _;refine wpAny_bind (wpAny_isInstance ty isSubtype_tuple_tuple ?_);simp only[Bool.not_true,v7,if_false];refine wpAny_bind (wpAny_seqItems p1 p2 ?_);refine wpAny_bind ?_;show wpAny _ _ (forIn its _ _) _ _ _;rw[<- Array.forIn_toList];refine wpAny_forIn_list _ (λrest r s'=>r.1=none/\s'=s/\∃l,KAts s.heap l rest/\DK.deps l<=d) _ ?_ ?_ _ _ ⟨rfl,rfl,ks,p3,hds⟩
   ·rintro v rest r s' ⟨hr,rfl,l,e1,e2⟩
    cases e1 with
    | cons f1 f2 =>
     simp only[DK.deps] at e2;refine wpAny_bind (ih (by omega) f1 ?_)
     simp only[Bool.not_true,v7,if_false];exact wpAny_pure ⟨rfl,rfl,_,f2,by omega⟩
   ·rintro ⟨r1,r2⟩ s' ⟨hr,rfl,_⟩
    simp only at hr;subst hr;exact wpAny_pure q
noncomputable def nestKind (prog:Program) (w:World):HeapKind prog w (List DK) where
 is h ks a:=KAt h (.t ks) (.ref a)/\(DK.t ks).dep<=8/\SeqAt.shaped (DK.t ks).py=true
 hash ks:=(DK.t ks).hash w
 draws ks:=(DK.t ks).drw
 room A:=A.units+80<cLine
 inj p q:=by have:=p.1.inj q.1;cases this;rfl
 keeps p hd he sb:=⟨p.1.moved (λb o its n q1 q2=>(sb.2 b (λz=>by
  subst z;rw[q1] at hd;cases hd;rw[q2] at he;cases he)).trans q1),p.2⟩
 pyHash hu p q:=v3b 8 p.2.1 (by omega) p.1 q
 eqBool:=λ{A E s x y a b Q} hu p r q=>by
  obtain⟨as,ra⟩:=p.1.reads;obtain⟨bs,rb⟩:=r.1.reads;refine SeqAt.eqBoolOverData _ _ _ _ _ _ _ _ _ _ _ _ ra rb (SeqAt.canLay_of_shaped p.2.2) (SeqAt.canLay_of_shaped r.2.2) ?_ ?_
  ·have:=SeqAt.depth_of_shaped p.2.2
   have h2:min (DK.t x).py.depth (DK.t y).py.depth<=(DK.t x).py.depth:=Nat.min_le_left _ _;omega
  ·rw[DK.eqv_dec];simpa using q
 quiet p q:=v0V 8 p.2.1 p.1 q
end
noncomputable def cmpDs:List D->Res (List PyData)
 | []=>.ok []
 | d::ds=>(cmpD d).bind λa=>(cmpDs ds).bind λas=>.ok (a::as)
noncomputable def inS (i j:Str):Bool:=!(Builtin.Str.occurrences j i 0 j.length 1).isEmpty
noncomputable def inD (x:D) (ds:List D) (neg:Bool):Res D:=(cmpD x).bind λa=>(cmpDs ds).bind λas=>.ok (.bl (if neg=true then !(as.any λb=>PyData.eqv b a) else as.any λb=>PyData.eqv b a))
noncomputable def dInG (neg:Bool):D->D->Res D
 | x,.lst ds=>inD x ds neg
 | x,.tup ds=>inD x ds neg
 | .str i,.str j=>.ok (.bl (if neg=true then !inS i j else inS i j))
 | _,_=>.bad
def u5S (neg:Bool) (x:D) (ds:List D):dInG neg x (.lst ds)=inD x ds neg:=by cases x<;>rfl
def v1I (neg:Bool) (x:D) (ds:List D):dInG neg x (.tup ds)=inD x ds neg:=by cases x<;>rfl
noncomputable abbrev dIn:=dInG false
noncomputable abbrev dNotIn:=dInG true
section
variable {X:Cx}{pins:LO}{σ:St}{H:Hp}{s:Shared}
noncomputable def eqR (h:Heap) (a:PyData) (u:Value):Bool:=@decide (∃d as,Reads h u d as/\PyData.eqv d a=true) (_root_.Classical.propDecidable _)
def v4e {h:Heap}{a d:PyData}{u:Value}{as:List Addr} (r:Reads h u d as):eqR h a u=PyData.eqv d a:=by
 unfold eqR;rw[z0I,@decide_eq_true_iff _ (_root_.Classical.propDecidable _)];constructor
 ·rintro ⟨d',as',r',q⟩
  rw[(r.unique d' as' r').1];exact q
 ·exact λq=>⟨d,as,r,q⟩
def u9R {d:D}{ds:List D}{bs:List PyData} (h:cmpDs (d::ds)=.ok bs):∃b r,d.py=some b/\SeqAt.shaped b=true/\cmpDs ds=.ok r/\bs=b::r:=by
 unfold cmpDs at h;cases e:cmpD d with
 | err x=>rw[e] at h;cases h
 | bad=>rw[e] at h;cases h
 | ok b =>
  rw[e] at h;obtain⟨b',q1,q2,q3⟩:=u3k (P:=λz=>z=b) (E:=λ_=>False) (by rw[e];exact rfl)
  subst q3;cases e2:cmpDs ds with
  | err x=>rw[e2] at h;cases h
  | bad=>rw[e2] at h;cases h
  | ok r=>rw[e2] at h;cases h;exact⟨_,r,q1,q2,rfl,rfl⟩
theorem u7c {F:Hp}{a:PyData}{v:Value}{vs:List Addr}{A:Around} (I:Inv X pins σ H s) (fh:Same F H) (rv:Reads s.heap v a vs) (sa:SeqAt.shaped a=true) (hu:A.units+64<cLine):∀{xs:List V}{ds:List D}{its:List Value}{bs:List PyData},Rps X.K F xs ds->Vals xs its->cmpDs ds=.ok bs ->
  (∀u∈its,SeqAt.EqAt A s u v (eqR s.heap a u))/\its.any (eqR s.heap a)=bs.any λb=>PyData.eqv b a
 | _,_,_,_,.nil,.nil,e=>by cases e;exact⟨(λu hu=>by cases hu),rfl⟩
 | _,_,_,_,.cons h hs,.cons r rs,e=>by
  obtain⟨b,r',q1,q2,q3,rfl⟩:=u9R e;obtain⟨i1,i2⟩:=u7c I fh rv sa hu hs rs q3;obtain⟨as,ru⟩:=((h.rd q1).same fh).reads I r;refine⟨λu hu'=>?_,by rw[List.any_cons,List.any_cons,i2,v4e ru]⟩
  rcases y0.mp hu' with rfl|hu'
  ·rw [v4e ru]
   refine SeqAt.eqAt_reads _ _ _ _ _ _ _ _ ru rv (SeqAt.canLay_of_shaped q2) (SeqAt.canLay_of_shaped sa) ?_
   have:=SeqAt.depth_of_shaped q2
   have h2:min b.depth a.depth<=b.depth:=Nat.min_le_left _ _;omega
  ·exact i1 u hu'
def u8s {x:D}{ds:List D}{neg:Bool}{P:D->Prop}{E:D->Prop} (h:(inD x ds neg).all P E):∃a bs,x.py=some a/\SeqAt.shaped a=true/\cmpDs ds=.ok bs/\P (.bl (if neg=true then !(bs.any λb=>PyData.eqv b a) else bs.any λb=>PyData.eqv b a))\/∃y,cmpDs ds=.err y:=by
 unfold inD at h;obtain⟨a,q1,q2,q⟩:=u3k (Res.all_bind.mp h);cases e:cmpDs ds with
 | ok bs=>rw[e] at q;exact⟨a,bs,.inl ⟨q1,q2,rfl,q⟩⟩
 | err y=>exact⟨a,[],.inr ⟨y,rfl⟩⟩
 | bad=>rw[e] at q;exact q.elim
theorem u1y:∀(ds:List D) (y:D),cmpDs ds≠.err y
 | [],_,h=>by cases h
 | d::ds,y,h=>by
  unfold cmpDs at h;cases e:cmpD d with
  | err x =>
   unfold cmpD at e;split at e
   ·unfold gd at e;split at e<;>cases e
   ·cases e
  | bad=>rw[e] at h;cases h
  | ok b =>
   rw[e] at h;cases e2:cmpDs ds with
   | err x=>exact u1y ds x e2
   | bad=>rw[e2] at h;cases h
   | ok r=>rw[e2] at h;cases h
def o_in (hu:X.A.units+100<cLine):OpR X (compareOp .In) (rD X.K dIn):=by
 intro pins s σ H x y v u Q I rx ry z9118;obtain⟨F,dx,dy,fh,px,py,q⟩:=z9118;have hu':X.A.in1.units+64<cLine:=by show X.A.units+1+64<cLine;omega
 cases py with
 | lst hq hs =>
  unfold dIn at q;rw[u5S] at q;obtain⟨a,bs,⟨q1,q2,q3,q4⟩|⟨y,q3⟩⟩:=u8s q
  ·obtain ⟨its,r,pl,hz⟩:=I.list (.inl (hq.same fh))
   obtain⟨as,rv⟩:=((px.rd q1).same fh).reads I rx;obtain⟨h1,h2⟩:=u7c I fh rv q2 hu' hs r q3;cases ry;refine SeqAt.in_listAt (eqR s.heap a) pl.isList (λw hw=>h1 w (by simpa using hw)) ⟨.bl _,H,I,rfl,?_⟩
   rw[show its.toArray.any (eqR s.heap a)=its.any (eqR s.heap a) by simp,h2]
   exact q4 _ F H (Stp.refl fh) (.bl _)
  ·exact absurd q3 (u1y _ _)
 | tup hq hs =>
  unfold dIn at q;rw[v1I] at q;obtain⟨a,bs,⟨q1,q2,q3,q4⟩|⟨y,q3⟩⟩:=u8s q
  ·obtain ⟨its,r,pl,hz⟩:=I.tuple (fh.seqT hq)
   obtain⟨as,rv⟩:=((px.rd q1).same fh).reads I rx;obtain⟨h1,h2⟩:=u7c I fh rv q2 hu' hs r q3;cases ry;refine SeqAt.in_tupleAt (eqR s.heap a) pl (λw hw=>h1 w (by simpa using hw)) ⟨.bl _,H,I,rfl,?_⟩
   rw[show its.toArray.any (eqR s.heap a)=its.any (eqR s.heap a) by simp,h2]
   exact q4 _ F H (Stp.refl fh) (.bl _)
  ·exact absurd q3 (u1y _ _)
 | str hz =>
  cases px with
  | str hz'=>exact v0C pins s σ H _ _ v u Q I rx ry ⟨_,_,rfl,rfl,q _ F H (Stp.refl fh) (.bl _)⟩
  | _=>exact q.elim
 | _=>cases dx<;>exact q.elim
def u4e (hu:X.A.units+100<cLine):OpR X (compareOp .NotIn) (rD X.K dNotIn):=by
 intro pins s σ H x y v u Q I rx ry z9119;obtain⟨F,dx,dy,fh,px,py,q⟩:=z9119;have hu':X.A.in1.units+64<cLine:=by show X.A.units+1+64<cLine;omega
 cases py with
 | lst hq hs =>
  unfold dNotIn at q;rw[u5S] at q;obtain⟨a,bs,⟨q1,q2,q3,q4⟩|⟨y,q3⟩⟩:=u8s q
  ·obtain ⟨its,r,pl,hz⟩:=I.list (.inl (hq.same fh))
   obtain⟨as,rv⟩:=((px.rd q1).same fh).reads I rx;obtain⟨h1,h2⟩:=u7c I fh rv q2 hu' hs r q3;cases ry;refine SeqAt.notIn_listAt (eqR s.heap a) pl.isList (λw hw=>h1 w (by simpa using hw)) ⟨.bl _,H,I,rfl,?_⟩
   rw[show its.toArray.any (eqR s.heap a)=its.any (eqR s.heap a) by simp,h2]
   exact q4 _ F H (Stp.refl fh) (.bl _)
  ·exact absurd q3 (u1y _ _)
 | tup hq hs =>
  unfold dNotIn at q;rw[v1I] at q;obtain⟨a,bs,⟨q1,q2,q3,q4⟩|⟨y,q3⟩⟩:=u8s q
  ·obtain ⟨its,r,pl,hz⟩:=I.tuple (fh.seqT hq)
   obtain⟨as,rv⟩:=((px.rd q1).same fh).reads I rx;obtain⟨h1,h2⟩:=u7c I fh rv q2 hu' hs r q3;cases ry;refine SeqAt.notIn_tupleAt (eqR s.heap a) pl (λw hw=>h1 w (by simpa using hw)) ⟨.bl _,H,I,rfl,?_⟩
   rw[show its.toArray.any (eqR s.heap a)=its.any (eqR s.heap a) by simp,h2]
   exact q4 _ F H (Stp.refl fh) (.bl _)
  ·exact absurd q3 (u1y _ _)
 | str hz =>
  cases px with
  | str hz'=>exact u6y pins s σ H _ _ v u Q I rx ry ⟨_,_,rfl,rfl,q _ F H (Stp.refl fh) (.bl _)⟩
  | _=>exact q.elim
 | _=>cases dx<;>exact q.elim
end
noncomputable def liftO (K:W.Frag) (xq:XQ) (f:Rho->Res (Option Int)):TO:=λσ H Q=>∃B F ρ,Rel K B ρ σ F H /\
 (f ρ).all (λo=>∀F' H',Stp F H F' H'->Q o H') (ErrK K xq B ρ σ)
structure DO (X:Cx) (xq:XQ) (e:Option Expr) (f:Rho->Res (Option Int)):Prop where
 out:PO X e (liftO X.K xq f)
noncomputable def asI:D->Res (Option Int)
 | .int i=>.ok (some i)
 | _=>.bad
noncomputable def dSl (d:D) (lo hi:Option Int):Res D:=match d with
 | .lst ds=>.ok (.lst (cutC ds lo hi))
 | .tup ds=>if HT.sIx ds.length 0 lo=0/\HT.sIx ds.length ds.length hi=ds.length then .bad else .ok (.tup (cutC ds lo hi))
 | .str z=>.ok (.str (Txt.slice z lo hi))
 | _=>.bad
section
variable {X:Cx}{xq:XQ}{e:Expr}{lo hi:Option Expr}{fe:Rho->Res D}{fl fh:Rho->Res (Option Int)}{p2 pos:Pos}
def u5Q:DO X xq none (λ_=>.ok none):=⟨λpins s σ H Q I z9=>un5 z9 λB F ρ R q=>po_none pins s σ H Q I (q F H (Stp.refl R.fh))⟩
def u5P (h:DE X xq e fe):DO X xq (some e) (λρ=>(fe ρ).bind asI):=⟨λpins s σ H Q I z9=>un5 z9 λB F ρ R q=>po_some h.out pins s σ H Q I (seqE R q λd v F1 H1 s1 R1 p1 q1=>by
 cases p1 with
 | int i=>exact⟨i,rfl,q1 F1 H1 s1⟩
 | _=>exact q1.elim)⟩
def rSlD (K:W.Frag):V->Option Int->Option Int->Hp->VK->Prop:=λx lo hi H Q=>∃F d,Same F H/\Rp K F x d/\(dSl d lo hi).all (λd'=>∀v F' H',Stp F H F' H'->Rp K F' v d'->Q v H') (λ_=>False)
def Rps.cut {K:W.Frag}{F:Hp}{xs:List V}{ds:List D} (r:Rps K F xs ds) (lo hi:Option Int):Rps K F (cutV xs lo hi) (cutC ds lo hi):=by
 unfold cutV cutC;rw[r.length];exact(r.drop _).take _
set_option tactic.hygienic true in
def sl_D:SlR X (rSlD X.K):=by
 intro pins s σ H x v vl vu lo hi sl Q I rx hs pl pu z9120;obtain⟨F,d,fh,px,q⟩:=z9120;cases px with
 | lst hq rs=>exact sl_list pins s σ H _ v vl vu lo hi sl Q I rx hs pl pu ⟨_,_,rfl,.inl (hq.same fh),λp n=>q _ _ _ (Stp.new fh n) (.lst (.inl u0g) ((rs.cut lo hi).same (Stp.new fh n).ff))⟩
 | tup hq rs =>
  unfold dSl at q;dsimp only at q;split at q
  ·exact q.elim
  ·rename_i nw
   exact sl_tup pins s σ H _ v vl vu lo hi sl Q I rx hs pl pu ⟨_,_,rfl,fh.seqT hq,by rw[rs.length];exact nw,λp n=>q _ _ _ (Stp.new fh n) (.tup (.inl (.inl u0g)) ((rs.cut lo hi).same (Stp.new fh n).ff))⟩
 | str hz=>exact sl_str pins s σ H _ v vl vu lo hi sl Q I rx hs pl pu ⟨_,rfl,hz,q _ F H (Stp.refl fh) (.str (y7 (Txt.slice_le _ _ _) hz))⟩
 | _=>exact q.elim
def d_sl (he:DE X xq e fe) (hl:DO X xq lo fl) (hu:DO X xq hi fh):DE X xq (.Subscript e (.Slice lo hi none p2) pos) (λρ=>(fe ρ).bind λd=>(fl ρ).bind λl=>(fh ρ).bind λu=>dSl d l u) :=
 DE.of (v2C sl_D he.out hl.out hu.out) λB F ρ σ H Q R q=>seqE R q λd v F1 H1 s1 R1 p1 q1 =>
  ⟨B,F1,ρ,R1,Res.all_mono (Res.all_bind.mp q1) (λl q2 F2 H2 s2=>⟨B,F2,ρ,R1.step s2,Res.all_mono (Res.all_bind.mp q2) (λu q3 F3 H3 s3=>by
   refine⟨F3,d,((R1.step s2).step s3).fh,(p1.same s2.ff).same s3.ff,?_⟩;cases hd:dSl d l u with
   | ok d'=>rw[hd] at q3;exact λv' F' H' st pv=>q3 v' F' H' (((s1.trans s2).trans s3).trans st) pv
   | err x=>unfold dSl at hd;split at hd<;>first|cases hd|(split at hd<;>cases hd)
   | bad=>rw[hd] at q3;exact q3) λ_ z=>z⟩) λ_ z=>z⟩
def u5O {tg iter elt:Expr}{ifs:List Expr}{scope:Scope}{fi:Rho->Res (List D)}{g:D->Rho->Res Rho}{fA:Rho->Res Bool}{ix:List Nat}{x:Str}{i:Nat}{py spos:Pos} (own:List Str) (outs:List Nat) (hc:X.calm=true) (ok:CompOk X.env.scope X.N own outs scope) (hN:X.N.Nodup) (hi:DI X xq tg iter fi) (hg:∀{cl C s H fp},DG (cxC X own outs scope cl C s H fp) tg ix g) (hf:∀{cl C s H fp},DF (cxC X own outs scope cl C s H fp) xqF ifs fA) (he:∀{cl C s H fp},DE (cxC X own outs scope cl C s H fp) xqF elt fe)
  (nd:outs.Nodup:=by decide) (hix:∀j∈ix,j<own.length:=by decide) (hy:X.N.findIdx? (λy=>y==x)=some i:=by rfl) (hx:X.env.scope.names.lookup x=some .local:=by rfl)
  (hsw:swapsWith (.ListComp elt [⟨tg,iter,ifs,0⟩] scope pos) (some (.Name x py)) spos.line X.env=pure true:=by rfl) (hs:∀x,foldedSetIterable iter X.env x=pure x:=by intro _;rfl) :
  DS X xq (.Assign [.Name x py] (.ListComp elt [⟨tg,iter,ifs,0⟩] scope pos) spos) (λρ=>((fi ρ).bind λds=>gd (ds.length<=sizeLine) ((compD g fA fe (rhoC own.length outs ρ) ds).bind λys=>.ok (OD.l ys))).go ρ λo=>.nx (ρ.set i (some (.val o.toD)))) :=
 DS.of (u9p own outs hc ok hN (u7g hy) hx hi.out (g:=liftG X.K ix g) (ti:=liftT X.K xqF fA) (te:=liftE X.K xqF fe) (λ{cl C s H fp}=>hg.out) (λ{cl C s H fp}=>hf.out) (λ{cl C s H fp}=>he.out) hsw hs) λB F ρ σ H T R q =>
  u6Q nd hix ⟨B,F,ρ,R,Res.all_mono (u0F q.out) (λo q a hh F' H' s1 n1 n2 e1 r1=>by
   have s2:Stp F H (upd F' a hh) H':=⟨s1.ff.trans (u0h n1),λb u x=>by
    unfold upd at x;by_cases z:b=a
    ·rw[if_pos z] at x;cases x;subst z;exact e1
    ·rw[if_neg z] at x;exact s1.fh b u x,s1.hh,λb x y=>by
    unfold upd;by_cases z:b=a
    ·subst z;exact absurd n2 y
    ·rw[if_neg z];exact s1.no b x y,v0b r1.nz s1.nz⟩
   exact q _ _ _ ((R.step s2).set ((Ro.same (u0h n1) r1).rp u0g))) λx q=>errOf q⟩
end
@[simp] theorem u4W {α:Type} (a:α):noE (Res.ok a)=.ok a:=rfl
@[simp] theorem noE_bad {α:Type}:noE (Res.bad:Res α)=.bad:=rfl
@[simp] theorem asB_bl (b:Bool):asB (.bl b)=.ok b:=rfl
@[simp] theorem dI0_ii (g:Int->Int->D) (i j:Int):dI0 g (.int i) (.int j)=.ok (g i j):=rfl
@[simp] theorem u0Z (C:Int->Int->Prop) [∀i j,Decidable (C i j)] (g:Int->Int->D) (i j:Int):dI C g (.int i) (.int j)=gd (C i j) (.ok (g i j)):=rfl
@[simp] theorem outR_nx (ρ:Rho):outR (.nx ρ)=.ok .non:=rfl
@[simp] theorem outR_rt (d:D):outR (.rt d)=.ok d:=rfl
@[simp] theorem outR_er (x:D) (ρ:Rho):outR (.er x ρ)=.err x:=rfl
@[simp] theorem frz_nil:frz []=[]:=rfl
@[simp] theorem frz_val (d:D) (ρ:Rho):frz (some (.val d)::ρ)=some (.val d)::frz ρ:=rfl
@[simp] theorem frz_own (o:OD) (ρ:Rho):frz (some (.own o)::ρ)=some (.val o.toD)::frz ρ:=rfl
@[simp] theorem frz_none (ρ:Rho):frz (none::ρ)=none::frz ρ:=rfl
@[simp] theorem frz_rep (n:Nat):frz (List.replicate n none)=List.replicate n none:=by unfold frz;simp
@[simp] theorem getV_zero (d:D) (ρ:Rho):getV (some (.val d)::ρ) 0=.ok d:=rfl
@[simp] theorem getV_succ (x:Option Sl) (ρ:Rho) (i:Nat):getV (x::ρ) (i+1)=getV ρ i:=rfl
@[simp] theorem getL_zero (ds:List D) (ρ:Rho):getL (some (.own (.l ds))::ρ) 0=.ok ds:=rfl
@[simp] theorem getL_succ (x:Option Sl) (ρ:Rho) (i:Nat):getL (x::ρ) (i+1)=getL ρ i:=rfl
@[simp] theorem v2f (ds:List D):(OD.l ds).toD=.lst ds:=rfl
@[simp] theorem szD_pos {α:Type}{ds:List D}{k:Res α} (h:ds.length<=sizeLine):szD ds k=k:=if_pos h
@[simp] theorem unset_nx (i:Nat) (ρ:Rho):unset i (.nx ρ)=.nx (ρ.set i none):=rfl
@[simp] theorem catch_nx (hd:D->Rho->Out) (ρ:Rho):catchD hd (.nx ρ)=.nx ρ:=rfl
@[simp] theorem catch_rt (hd:D->Rho->Out) (d:D):catchD hd (.rt d)=.rt d:=rfl
@[simp] theorem catch_er (hd:D->Rho->Out) (x:D) (ρ:Rho):catchD hd (.er x ρ)=hd x ρ:=rfl
@[simp] theorem chain_eq (g g':D->D->Res D) (x y:D) (z:Res D):fChain g g' x y z=(noE (g x y)).bind λw=>(asB w).bind λc=>if c=true then z.bind λz=>noE (g' y z) else .ok (.bl false):=rfl
theorem u1x {g:D->Rho->Res Rho}{fT:Rho->Res Bool}{fe:Rho->Res D}{ρ:Rho} (h:D->D):∀{ds:List D},(∀d∈ds,∃ρ1,g d ρ=.ok ρ1/\fT (frz ρ1)=.ok true/\fe ρ1=.ok (h d))->compD g fT fe ρ ds=.ok (ds.map h)
 | [],_=>rfl
 | d::ds,k=>by
  obtain⟨ρ1,k1,k2,k3⟩:=k d z5;simp[compD,k1,k2,k3,u1x h λx hx=>k x (z4 _ hx)]
noncomputable def hashW (w:World) (k:List DK):Int:=(DK.t k).hash w
mutual
noncomputable def dkOf:D->Option DK
 | .int n=>some (.i n)
 | .str z=>some (.s z)
 | .tup ds=>(dksOf ds).map .t
 | _=>none
noncomputable def dksOf:List D->Option (List DK)
 | []=>some []
 | d::ds=>match dkOf d,dksOf ds with
  | some k,some ks=>some (k::ks)
  | _,_=>none
end
mutual
theorem v3u:∀(d:D) (k:DK),dkOf d=some k->k.toD=d
 | .int n,k,e=>by simp only[dkOf] at e;cases e;rfl
 | .str n,k,e=>by simp only[dkOf] at e;cases e;rfl
 | .tup ds,k,e=>by
  simp only[dkOf] at e;cases q:dksOf ds with
  | none=>rw[q] at e;cases e
  | some ks=>rw[q] at e;cases e;simp only[DK.toD];rw[u4u ds ks q]
 | .non,_,e | .bl _,_,e | .ty _,_,e | .lst _,_,e | .dct _,_,e | .ins _ _,_,e | .exc _ _,_,e | .dn _ _,_,e | .hdl _,_,e=>by simp only[dkOf] at e;cases e
theorem u4u:∀(ds:List D) (ks:List DK),dksOf ds=some ks->DK.toDs ks=ds
 | [],_,e=>by simp only[dksOf] at e;cases e;rfl
 | d::ds,_,e=>by
  simp only[dksOf] at e;cases q:dkOf d with
  | none=>rw[q] at e;cases e
  | some k =>
   cases q2:dksOf ds with
   | none=>rw[q,q2] at e;cases e
   | some ks=>rw[q,q2] at e;cases e;simp only[DK.toDs];rw[v3u d k q,u4u ds ks q2]
end
noncomputable def keyOf:D->Res (List DK)
 | .tup ds=>match dksOf ds with
  | some ks=>gd (okK ks=true) (.ok ks)
  | none=>.bad
 | _=>.bad
def u8o {d:D}{P:List DK->Prop}{E:D->Prop} (h:(keyOf d).all P E):∃ks,(DK.t ks).toD=d/\okK ks=true/\P ks:=by
 cases d with
 | tup ds =>
  simp only[keyOf] at h;cases q:dksOf ds with
  | none=>rw[q] at h;exact h.elim
  | some ks =>
   rw[q] at h;obtain⟨h1,h2⟩:=u3D h;exact⟨ks,by simp only[DK.toD];rw[u4u ds ks q],h1,h2⟩
 | _=>exact h.elim
section
variable {X:Cx}{pins:LO}{σ:St}{H:Hp}{s:Shared}{F:Hp}
mutual
theorem v3Y (I:Inv X pins σ H s) (fh:Same F H):∀(k:DK) {v:V}{u:Value},Rp X.K F v k.toD->RelV v u->KAt s.heap k u
 | .i n,_,_,p,r=>by simp only[DK.toD] at p;cases p;obtain⟨t,rfl⟩:=r;exact .i n t
 | .s n,_,_,p,r=>by simp only[DK.toD] at p;cases p;obtain⟨t,rfl⟩:=r;exact .s n t
 | .t ks,_,_,p,r=>by
  simp only[DK.toD] at p;cases p with
  | tup hq hs =>
   cases r;obtain⟨its,rv,pl,_⟩:=I.tuple (fh.seqT hq);obtain⟨o,ho,hc,n,hd⟩:=pl;exact .t ho hc hd (by simpa using v0U I fh ks hs rv)
theorem v0U (I:Inv X pins σ H s) (fh:Same F H):∀(ks:List DK) {vs:List V}{us:List Value},Rps X.K F vs (DK.toDs ks)->Vals vs us->KAts s.heap ks us
 | [],_,_,p,r=>by simp only[DK.toDs] at p;cases p;cases r;exact .nil
 | k::ks,_,_,p,r=>by
  simp only[DK.toDs] at p;cases p with
  | cons p1 p2 =>
   cases r with
   | cons r1 r2=>exact .cons (v3Y I fh k p1 r1) (v0U I fh ks p2 r2)
end
def nk_is (I:Inv X pins σ H s) (fh:Same F H) {k:List DK}{q:Addr} (o:okK k=true) (p:Rp X.K F (.ref q) (DK.t k).toD):(nestKind X.prog X.w).is s.heap k q:=by
 unfold okK at o;rw[u0] at o;exact⟨v3Y I fh _ p rfl,of_decide_eq_true o.1,o.2⟩
theorem Rpn.each (I:Inv X pins σ H s) (fh:Same F H):∀{xs:List (List DK×Addr×Value)}{kvs:List (List DK×D)},Rpn X.K F xs kvs->∀x∈xs,(nestKind X.prog X.w).is s.heap x.1 x.2.1
 | _,_,.nil,x,hx=>by cases hx
 | _,_,.cons o h r h2 hs,x,hx=>by
  rcases y0.mp hx with rfl|hx
  ·exact nk_is I fh o h
  ·exact hs.each I fh x hx
def nd_of {a:Addr}{xs:List (List DK×Addr×Value)}{kvs:List (List DK×D)} (I:Inv X pins σ H s) (fh:Same F H) (e:H a=some (NDO a (hashW X.w) xs)) (r:Rpn X.K F xs kvs):s.heap.DictOfH (nestKind X.prog X.w) a xs/\xs.length<=sizeLine/\(a==sysModules)=false:=by
 obtain⟨o,es,ep,h1,h2,h3,h4,h5,h6,h7⟩:=(show ObjOk X.prog X.w H s.heap a (NDO a (hashW X.w) xs) from I.hok a _ e).1
 exact⟨⟨o,es,ep,h1,h2,h3,h4,r.each I fh,h5⟩,h6,h7⟩
theorem Rpn.at {k:List DK}:∀{xs:List (List DK×Addr×Value)}{kvs:List (List DK×D)},Rpn X.K F xs kvs->((atKey xs k).isSome=true↔k∈kvs.map (·.1))
 | _,_,.nil=>by simp[atKey]
 | _,_,.cons (k:=k') o h r h2 hs=>by
  have ih:=hs.at (k:=k);by_cases e:k'=k
  ·subst e;simp[atKey]
  ·have e':¬ k=k':=fun z=>e z.symm
   simp only[atKey,u3,e,decide_false,y9,y0,e',false_or] at ih |-
   exact ih
def Rpn.atB {k:List DK}{xs:List (List DK×Addr×Value)}{kvs:List (List DK×D)} (r:Rpn X.K F xs kvs):(atKey xs k).isSome=decide (k∈kvs.map (·.1)):=by
 rw[z0I,decide_eq_true_iff];exact r.at
noncomputable def inN (w:World) (neg:Bool) (x:D) (hs:List DK->Int) (kvs:List (List DK×D)):Res D:=(keyOf x).bind λk=>@ite _ (hs=hashW w) (_root_.Classical.propDecidable _) (.ok (.bl (if neg=true then !decide (k∈kvs.map (·.1)) else decide (k∈kvs.map (·.1))))) .bad
noncomputable def dInN (w:World) (neg:Bool):D->D->Res D
 | x,.dn hs kvs=>inN w neg x hs kvs
 | x,y=>dInG neg x y
def v1J (w:World) (neg:Bool) (x:D) (hs:List DK->Int) (kvs:List (List DK×D)):dInN w neg x (.dn hs kvs)=inN w neg x hs kvs:=by unfold dInN;rfl
set_option tactic.hygienic true in
def v2M (hu:X.A.units+200<cLine):OpR X (compareOp .In) (rD X.K (dInN X.w false)):=by
 intro pins s σ H x y v u Q I rx ry z9121;obtain⟨F,dx,dy,fh,px,py,q⟩:=z9121;cases py with
 | dn hq hr =>
  rw[v1J] at q;unfold inN at q;obtain⟨k,e,ok,q2⟩:=u8o (Res.all_bind.mp q);clear q;split at q2
  ·rename_i hh
   subst hh;subst e;have px':=px;simp only[DK.toD] at px';cases px' with
   | tup _ _ =>
    cases rx;cases ry;obtain⟨dd,hz,hd⟩:=nd_of I fh (fh _ _ hq) hr;refine wpAny_in_heap (knd:=nestKind X.prog X.w) (by show X.A.units+1+80<cLine;omega) (nk_is I fh ok px) hd dd ?_
    rw[hr.atB];exact⟨.bl _,H,I.tok _,rfl,q2 _ F H (Stp.refl fh) (.bl _)⟩
  ·exact q2.elim
 | lst hq hs=>exact o_in (by omega) pins s σ H x _ v u Q I rx ry ⟨F,dx,_,fh,px,.lst hq hs,q⟩
 | tup hq hs=>exact o_in (by omega) pins s σ H x _ v u Q I rx ry ⟨F,dx,_,fh,px,.tup hq hs,q⟩
 | str hz=>exact o_in (by omega) pins s σ H x _ v u Q I rx ry ⟨F,dx,_,fh,px,.str hz,q⟩
 | _=>cases dx<;>exact q.elim
noncomputable def putN (kvs:List (List DK×D)) (k:List DK) (d:D):List (List DK×D):=if k∈kvs.map (·.1) then kvs.map (λp=>if p.1=k then (p.1,d) else p) else kvs++[(k,d)]
theorem Rpn.length:∀{xs:List (List DK×Addr×Value)}{kvs:List (List DK×D)},Rpn X.K F xs kvs->xs.length=kvs.length
 | _,_,.nil=>rfl
 | _,_,.cons _ _ _ _ hs=>congrArg (·+1) hs.length
theorem Rpn.mapped {k:List DK}{d:D}{v:V}{u:Value} (ru:RelV v u) (pd:Rp X.K F v d):∀{xs:List (List DK×Addr×Value)}{kvs:List (List DK×D)},Rpn X.K F xs kvs->Rpn X.K F (xs.map (putAt k u)) (kvs.map (λp=>if p.1=k then (p.1,d) else p))
 | _,_,.nil=>.nil
 | _,_,.cons (k:=k') o h r h2 hs=>by
  by_cases e:k'=k
  ·subst e
   simp only[y9,putAt,if_true];exact .cons o h ru pd (hs.mapped ru pd)
  ·simp only [y9,putAt,if_neg e]
   exact .cons o h r h2 (hs.mapped ru pd)
theorem Rpn.snoc {k:List DK}{q:Addr}{d:D}{v:V}{u:Value} (o:okK k=true) (pk:Rp X.K F (.ref q) (DK.t k).toD) (ru:RelV v u) (pd:Rp X.K F v d):∀{xs:List (List DK×Addr×Value)}{kvs:List (List DK×D)},Rpn X.K F xs kvs->Rpn X.K F (xs++[(k,q,u)]) (kvs++[(k,d)])
 | _,_,.nil=>.cons o pk ru pd .nil
 | _,_,.cons o' h r h2 hs=>.cons o' h r h2 (hs.snoc o pk ru pd)
def Rpn.put {k:List DK}{q:Addr}{d:D}{v:V}{u:Value}{xs:List (List DK×Addr×Value)}{kvs:List (List DK×D)} (o:okK k=true) (pk:Rp X.K F (.ref q) (DK.t k).toD) (ru:RelV v u) (pd:Rp X.K F v d) (r:Rpn X.K F xs kvs):Rpn X.K F (storedH xs k q u) (putN kvs k d):=by
 unfold storedH putN;by_cases e:k∈kvs.map (·.1)
 ·rw[if_pos e,if_pos (r.at.mpr e)];exact r.mapped ru pd
 ·rw[if_neg e,if_neg (λz=>e (r.at.mp z))];exact r.snoc o pk ru pd
def dn_new {xq:XQ}{pos:Pos}:DN X xq (.Dict [] [] pos) (λ_=>.ok (.n (hashW X.w) [])):=⟨λpins s σ H Q I z9=>un5 z9 λB F ρ R q=>by
 refine wpAny_Dict_empty ⟨.ref s.heap.objs.size,_,I.laid (a:=s.heap.objs.size) (o:=NDO s.heap.objs.size (hashW X.w) []) (t':=s.toks) (λ_ _ z=>z0 _ z) (z7 _) ?_,rfl,?_⟩
 ·refine ⟨⟨_,#[],_,z6 _ rfl,⟨rfl,rfl,rfl⟩,rfl,rfl,List.nodup_nil,q9 _,?_⟩,⟨_,z6 _ rfl⟩,fun h1 h2 z9122 k=>by obtain ⟨o,es,ep,e1,e2⟩:=z9122;exact ⟨o,es,ep,k _ e1,e2⟩⟩
  exact(u5R (P:=X.prog) (w:=X.w) (H:=H) s.heap I.big).2.1
 ·have n:=I.hok.fresh (z7 s.heap.objs.size)
  exact q _ _ F _ (Stp.only R.fh (u0h n)) (R.fh.free n) n u0g (.n .nil)⟩
def u6P {xq:XQ}{pos:Pos}:DN X xq (.Dict [] [] pos) (λ_=>.ok (.d [])):=⟨λpins s σ H Q I z9=>un5 z9 λB F ρ R q=>v2F pins s σ H Q I λd n=>q d _ F _ (Stp.only R.fh (u0h n)) (R.fh.free n) n u0g (.d .nil)⟩
end
noncomputable def getN (ρ:Rho) (i:Nat):Res ((List DK->Int)×List (List DK×D)):=match ρ[i]? with
 | some (some (.own (.n hs kvs)))=>.ok (hs,kvs)
 | _=>.bad
set_option tactic.hygienic true in
def getN_ok {ρ:Rho}{i:Nat}{P:(List DK->Int)×List (List DK×D)->Prop}{E:D->Prop} (h:(getN ρ i).all P E):∃hs kvs,ρ[i]?=some (some (.own (.n hs kvs)))/\P (hs,kvs):=by
 unfold getN at h;split at h
 ·rename_i hs kvs e;exact⟨hs,kvs,e,h⟩
 ·exact h.elim
def u8X {xs:List (List DK×Addr×Value)}{k:List DK}{a:Addr}{u:Value}:(storedH xs k a u).length<=xs.length+1:=by
 unfold storedH;split
 ·simp
 ·simp
section
variable {X:Cx}{xq:XQ}{i value:Expr}{fi fv:Rho->Res D}{x:Str}{p pos pos':Pos}
noncomputable def fPutN (w:World) (j:Nat) (fi fv:Rho->Res D) (ρ:Rho):Out:=(fv ρ).go ρ λd=>(getN ρ j).go ρ λo=>(fi ρ).go ρ λkd=>(keyOf kd).go ρ λk =>
 @ite _ (o.1=hashW w/\o.2.length<sizeLine) (_root_.Classical.propDecidable _) (.nx (ρ.set j (some (.own (.n o.1 (putN o.2 k d)))))) .bad
set_option tactic.hygienic true in
def ds_putN (j:Nat) (hu:X.A.units+200<cLine) (hi:DE X xq i fi) (hv:DE X xq value fv) (hN:X.N[j]?=some x:=by rfl) (hvs:Vis X.env.scope x:=by first|exact Or.inl rfl|exact Or.inr (Or.inl rfl)|exact Or.inr (Or.inr rfl)) (hd:(x==("__debug__":Str))=false:=by decide) (hcd:(x==("__classdict__":Str))=false:=by decide)
  (hs:swapsWith value (some (.Subscript (.Name x p) i pos')) pos.line X.env=pure false:=by rfl):DS X xq (.Assign [.Subscript (.Name x p) i pos'] value pos) (fPutN X.w j fi fv):=⟨λpins s σ H T I z9=>un5 z9 λB F ρ R q=>by
 have q:=q.out;unfold fPutN at q;refine wpAny_Assign_Subscript (thn (hv.out pins s σ H (λv H1=>∃d F1 a,σ[j]?=some (some (.ref a))/\Stp F H F1 H1/\Rp X.K F1 v d/\∃hs kvs,ρ[j]?=some (some (.own (.n hs kvs)))/\((fi ρ).go ρ λkd=>(keyOf kd).go ρ λk=>@ite _ (hs=hashW X.w/\kvs.length<sizeLine) (_root_.Classical.propDecidable _) (.nx (ρ.set j (some (.own (.n hs (putN kvs k d)))))) .bad).all
  (λρ=>∀σ F H,Rel X.K B ρ σ F H->T.nx σ H) (λd=>∀v F H,Stp B.1 B.2 F H->Rp X.K F v d->T.rt v H) (λρ=>∀σ F H,Rel X.K B ρ σ F H->T.bk σ H) (λρ=>∀σ F H,Rel X.K B ρ σ F H->T.ct σ H) (λρ x=>∀v σ F H,Rel X.K B ρ σ F H->Rp X.K F v x->xq v σ H)) I ?_) λr s1 ⟨v,H1,I1,rv,d,F1,a,ha,st1,pv,hh,kvs,eo,q1⟩ =>
  thn (u1U hN hvs hd hcd pins s1 σ H1 (λx H2=>x=.ref a/\H2=H1) I1 ⟨.ref a,ha,rfl,rfl⟩) λu s2 ⟨y,H2,I2,ry,ey,eH⟩=>?_) hs
 ·refine ⟨B,F,ρ,R,Res.all_mono (u0F q) (fun d q1 v F1 H1 st pv=>?_) fun _ z=>errOf z⟩
  obtain⟨hh,kvs,eo,q2⟩:=getN_ok (u0F q1);obtain⟨a,h,h1,_⟩:=R.own j _ eo;exact⟨d,F1,a,h1,st,pv,hh,kvs,eo,q2⟩
 ·subst ey eH
  cases ry;have R1:=R.step st1;refine thn (hi.out pins s2 σ H2 (λy H3=>∃F3 k,Stp F1 H2 F3 H3/\Rp X.K F3 y (DK.t k).toD/\okK k=true/\hh=hashW X.w/\kvs.length<sizeLine/\∀σ F H,Rel X.K B (ρ.set j (some (.own (.n hh (putN kvs k d))))) σ F H->T.nx σ H) I2 ?_) λiv s3 ⟨y,H3,I3,ry,F3,k,st3,pk,ok,eh,hl,q3⟩=>?_
  ·refine ⟨B,F1,ρ,R1,Res.all_mono (u0F q1) (fun kd q2 y F3 H3 st3 py=>?_) fun _ z=>errOf z⟩
   obtain⟨k,ek,ok,q3⟩:=u8o (u0F q2);subst ek;split at q3
   ·rename_i c;exact⟨F3,k,st3,py,ok,c.1,c.2,q3⟩
   ·exact q3.elim
  ·subst eh
   have R3:=R1.step st3;obtain⟨a',h,h1,h2,h3,h4,h5⟩:=R3.own j _ eo;rw[ha] at h1;cases h1;cases h5 with
   | n hr =>
    have pk':=pk;simp only[DK.toD] at pk';cases pk' with
    | @tup b _ _ _ _ =>
     cases ry;obtain⟨dd,hz,hsy⟩:=nd_of I3 R3.fh h4 hr;refine wpAny_setItem_heap (knd:=nestKind X.prog X.w) (hsz:=hz) (by show X.A.units+1+80<cLine;omega) (nk_is I3 R3.fh ok pk) dd λh' dd' sb=>?_
     obtain⟨o,es,ep,e1,e2,e3,e4,_,e5⟩:=dd';have pv3:=pv.same st3.ff;refine⟨σ,_,u4v (ob:=NDO a (hashW X.w) (storedH _ k b r)) I3 (by rw[h4];exact True.intro) sb ⟨o,e1⟩ ⟨⟨o,es,ep,e1,e2,e3,e4,e5,?_,hsy⟩,⟨o,e1⟩,λg1 g2 z9126 kk=>by obtain⟨o,es,ep,f1,f2⟩:=z9126;exact⟨o,es,ep,kk _ f1,f2⟩⟩,q3 σ F3 _ (R3.write (e:=eo) ha (.n (hr.put ok pk rv pv3)))⟩
     exact y7 u8X (by rw[hr.length];omega)⟩
end
noncomputable def keyK:D->Res Key
 | .int i=>.ok (.inl i)
 | .str z=>.ok (.inr z)
 | _=>.bad
def u2e {K:W.Frag}{F:Hp}{v:V}{d:D}{P:Key->Prop}{E:D->Prop} (p:Rp K F v d) (h:(keyK d).all P E):∃k,v=kV k/\P k:=by
 cases p with
 | int i=>exact⟨.inl i,rfl,h⟩
 | str _=>exact⟨.inr _,rfl,h⟩
 | _=>exact h.elim
noncomputable def eqK:D->Key->Bool
 | .int i,.inl j=>decide (i=j)
 | .str a,.inr b=>decide (a=b)
 | _,_=>false
def u5h (k' k:Key):eqK (kD k') k=decide (k'=k):=by
 cases k'<;>cases k<;>simp[eqK,kD]
noncomputable def putD (ps:List (D×D)) (k:Key) (d:D):List (D×D):=if ps.any (λp=>eqK p.1 k)=true then ps.map (λp=>if eqK p.1 k=true then (p.1,d) else p) else ps++[(kD k,d)]
noncomputable def valD (ps:List (D×D)) (k:Key):Option D:=(ps.find? λp=>eqK p.1 k).map (·.2)
section
variable {K:W.Frag}{F:Hp}
theorem Rpk.length:∀{kvs:List (Key×V)}{ps:List (D×D)},Rpk K F kvs ps->kvs.length=ps.length
 | _,_,.nil=>rfl
 | _,_,.cons _ hs=>congrArg (·+1) hs.length
theorem Rpk.any {k:Key}:∀{kvs:List (Key×V)}{ps:List (D×D)},Rpk K F kvs ps->(kvs.any λkv=>decide (kv.1=k))=ps.any (λp=>eqK p.1 k)
 | _,_,.nil=>rfl
 | _,_,.cons h hs=>by simp only[List.any_cons,u5h,hs.any]
theorem Rpk.mapped {k:Key}{d:D}{v:V} (pd:Rp K F v d):∀{kvs:List (Key×V)}{ps:List (D×D)},Rpk K F kvs ps->Rpk K F (kvs.map (λkv=>if kv.1=k then (kv.1,v) else kv)) (ps.map (λp=>if eqK p.1 k=true then (p.1,d) else p))
 | _,_,.nil=>.nil
 | _,_,.cons (k:=k') h hs=>by
  by_cases e:k'=k
  ·simp only[y9,u5h,e,decide_true,if_true];exact .cons pd (hs.mapped pd)
  ·simp only[y9,u5h,e,decide_false,if_false];exact .cons h (hs.mapped pd)
theorem Rpk.snoc {k:Key}{d:D}{v:V} (pd:Rp K F v d):∀{kvs:List (Key×V)}{ps:List (D×D)},Rpk K F kvs ps->Rpk K F (kvs++[(k,v)]) (ps++[(kD k,d)])
 | _,_,.nil=>.cons pd .nil
 | _,_,.cons h hs=>.cons h (hs.snoc pd)
def Rpk.put {k:Key}{d:D}{v:V}{kvs:List (Key×V)}{ps:List (D×D)} (pd:Rp K F v d) (r:Rpk K F kvs ps):Rpk K F (putK kvs k v) (putD ps k d):=by
 unfold putK putD;rw[r.any (k:=k)];split
 ·exact r.mapped pd
 ·exact r.snoc pd
theorem Rpk.val {k:Key}:∀{kvs:List (Key×V)}{ps:List (D×D)},Rpk K F kvs ps->(match valD ps k with|some d=>∃v,valV kvs k=some v/\Rp K F v d|none=>valV kvs k=none)
 | _,_,.nil=>rfl
 | _,_,.cons (k:=k') h hs=>by
  have ih:=hs.val (k:=k);by_cases e:k'=k
  ·subst e;simp only[valD,valV,u3,u5h,decide_true,Option.map_some];exact⟨_,rfl,h⟩
  ·simp only[valD,valV,u3,u5h,e,decide_false] at ih |-;exact ih
end
noncomputable def getD' (ρ:Rho) (i:Nat):Res (List (D×D)):=match ρ[i]? with
 | some (some (.own (.d kvs)))=>.ok kvs
 | _=>.bad
set_option tactic.hygienic true in
def getD'_ok {ρ:Rho}{i:Nat}{P:List (D×D)->Prop}{E:D->Prop} (h:(getD' ρ i).all P E):∃kvs,ρ[i]?=some (some (.own (.d kvs)))/\P kvs:=by
 unfold getD' at h;split at h
 ·rename_i kvs e;exact⟨kvs,e,h⟩
 ·exact h.elim
section
variable {X:Cx}{xq:XQ}{i value:Expr}{fi fv:Rho->Res D}{x:Str}{p pos pos':Pos}
noncomputable def fPutD (j:Nat) (fi fv:Rho->Res D) (ρ:Rho):Out:=(fv ρ).go ρ λd=>(getD' ρ j).go ρ λps=>(fi ρ).go ρ λkd=>(keyK kd).go ρ λk=>if ps.length<sizeLine then .nx (ρ.set j (some (.own (.d (putD ps k d))))) else .bad
def u4t (j:Nat) (hu:X.A.units+200<cLine) (hi:DE X xq i fi) (hv:DE X xq value fv) (hN:X.N[j]?=some x:=by rfl) (hvs:Vis X.env.scope x:=by first|exact Or.inl rfl|exact Or.inr (Or.inl rfl)|exact Or.inr (Or.inr rfl)) (hd:(x==("__debug__":Str))=false:=by decide) (hcd:(x==("__classdict__":Str))=false:=by decide)
  (hs:swapsWith value (some (.Subscript (.Name x p) i pos')) pos.line X.env=pure false:=by rfl):DS X xq (.Assign [.Subscript (.Name x p) i pos'] value pos) (fPutD j fi fv) :=
 DS.of (ps_dput (by omega) (u1U hN hvs hd hcd) hi.out hv.out hs) λB F ρ σ H T R q=>by
  have q:=q.out;unfold fPutD at q;refine⟨B,F,ρ,R,Res.all_mono (u0F q) (λd q1 v F1 H1 st pv=>?_) λ_ z=>errOf z⟩
  obtain⟨ps,eo,q2⟩:=getD'_ok (u0F q1);have R1:=R.step st;obtain⟨a,h,h1,h2,h3,h4,h5⟩:=R1.own j _ eo;refine⟨.ref a,h1,B,F1,ρ,R1,Res.all_mono (u0F q2) (λkd q3 y F3 H3 st3 py=>?_) λ_ z=>errOf z⟩
  have R3:=R1.step st3;obtain⟨k,ek,q4⟩:=u2e py (u0F q3);subst ek;obtain⟨a',h',g1,g2,g3,g4,g5⟩:=R3.own j _ eo;rw[h1] at g1;cases g1;cases g5 with
  | d hr =>
   by_cases hz:ps.length<sizeLine
   ·rw [if_pos hz] at q4
    exact⟨a,_,rfl,DPut.k g4 (by rw[hr.length];exact hz),q4 σ F3 _ (R3.write (e:=eo) h1 (.d (hr.put (pv.same st3.ff))))⟩
   ·rw[if_neg hz] at q4;exact q4.elim
noncomputable def dInA (w:World) (neg:Bool):D->D->Res D
 | x,.dct ps=>(keyK x).bind λk=>.ok (.bl (if neg=true then !(valD ps k).isSome else (valD ps k).isSome))
 | x,y=>dInN w neg x y
def u8K (w:World) (neg:Bool) (x:D) (ps:List (D×D)):dInA w neg x (.dct ps)=(keyK x).bind λk=>.ok (.bl (if neg=true then !(valD ps k).isSome else (valD ps k).isSome)):=by unfold dInA;rfl
def o_inA (hu:X.A.units+200<cLine):OpR X (compareOp .In) (rD X.K (dInA X.w false)):=by
 intro pins s σ H x y v u Q I rx ry z9127;obtain⟨F,dx,dy,fh,px,py,q⟩:=z9127;cases py with
 | @dK a kvs ps hq hr =>
  rw[u8K] at q;obtain⟨k,ek,q2⟩:=u2e px (Res.all_bind.mp q);subst ek;cases ry;refine d_in (by omega) I (DGet.k (fh _ _ hq)) rx λs' I'=>⟨.bl _,H,I',rfl,?_⟩
  have:=hr.val (k:=k)
  cases e:valD ps k with
  | none=>rw[e] at this q2;rw[this];exact q2 _ F H (Stp.refl fh) (.bl _)
  | some d=>rw[e] at this q2;obtain⟨z,hz,_⟩:=this;rw[hz];exact q2 _ F H (Stp.refl fh) (.bl _)
 | lst hq hs=>exact v2M hu pins s σ H x _ v u Q I rx ry ⟨F,dx,_,fh,px,.lst hq hs,q⟩
 | tup hq hs=>exact v2M hu pins s σ H x _ v u Q I rx ry ⟨F,dx,_,fh,px,.tup hq hs,q⟩
 | str hz=>exact v2M hu pins s σ H x _ v u Q I rx ry ⟨F,dx,_,fh,px,.str hz,q⟩
 | dn hq hs=>exact v2M hu pins s σ H x _ v u Q I rx ry ⟨F,dx,_,fh,px,.dn hq hs,q⟩
 | _=>cases dx<;>exact q.elim
end
noncomputable def fldD (C0:Addr) (f:Str):D->Res D
 | .ins C gs=>if C=C0 then (match gs.lookup f with|some d=>.ok d|none=>.bad) else .bad
 | _=>.bad
noncomputable def getI (ρ:Rho) (j:Nat):Res (Addr×Addr×List (Str×D)):=match ρ[j]? with
 | some (some (.own (.i a C gs)))=>.ok (a,C,gs)
 | _=>.bad
set_option tactic.hygienic true in
def v1j {ρ:Rho}{i:Nat}{P:Addr×Addr×List (Str×D)->Prop}{E:D->Prop} (h:(getI ρ i).all P E):∃a C gs,ρ[i]?=some (some (.own (.i a C gs)))/\P (a,C,gs):=by
 unfold getI at h;split at h
 ·rename_i a C gs e;exact⟨a,C,gs,e,h⟩
 ·exact h.elim
section
variable {X:Cx}{xq:XQ}{o e value:Expr}{es:List Expr}{fo fv:Rho->Res D}{fs:Rho->Res (List D)}{f x m:Str}{p pos pos' apos:Pos}{C0:Addr}
def u4M {K:W.Frag} (c:Cls K C0) (n:NoAttr K C0 f) (ho:DE X xq o fo) (eK:X.K=K:=by rfl) (hb:attributeBase o f X.env (eval o X.env)=eval o X.env:=by rfl):DE X xq (.Attribute o f pos) (λρ=>(fo ρ).bind (fldD C0 f)):=by
 subst eK;refine DE.of (v3P ho.out hb) λB F ρ σ H Q R q=>seqE R q λd v F1 H1 s1 R1 p1 q1=>?_
 cases p1 with
 | @ins a C dx gs0 gs h1 h2 =>
  unfold fldD at q1;dsimp only at q1;by_cases hc:C=C0
  ·rw [if_pos hc] at q1
   subst hc;cases hl:gs.lookup f with
   | none=>rw[hl] at q1;exact q1.elim
   | some d =>
    rw[hl] at q1;obtain⟨v,hv,pv⟩:=h2.lookup hl;exact⟨a,C,dx,gs0,v,rfl,R1.fh _ _ h1,c,n,hv,q1 v F1 H1 s1 pv⟩
  ·rw[if_neg hc] at q1;exact q1.elim
 | _=>exact q1.elim
def d_fldO {K:W.Frag} (j:Nat) (c:Cls K C0) (n:NoAttr K C0 f) (eK:X.K=K:=by rfl) (hN:X.N[j]?=some x:=by rfl) (hvs:Vis X.env.scope x:=by first|exact Or.inl rfl|exact Or.inr (Or.inl rfl)|exact Or.inr (Or.inr rfl)) (hd:(x==("__debug__":Str))=false:=by decide) (hcd:(x==("__classdict__":Str))=false:=by decide)
  (hb:attributeBase (.Name x p) f X.env (eval (.Name x p) X.env)=eval (.Name x p) X.env:=by rfl):DE X xq (.Attribute (.Name x p) f pos) (λρ=>(getI ρ j).bind λt=>if t.2.1=C0 then (match t.2.2.lookup f with|some d=>.ok d|none=>.bad) else .bad):=by
 subst eK;refine DE.of (v3P (u1U hN hvs hd hcd) hb) λB F ρ σ H Q R q=>?_
 obtain⟨a,C,gs,e1,q1⟩:=v1j (Res.all_bind.mp q);obtain⟨a',h,h1,h2,h3,h4,h5⟩:=R.own j _ e1;cases h5 with
 | @i _ dx fs0 _ hr =>
  dsimp only at q1;by_cases hc:C=C0
  ·rw [if_pos hc] at q1
   subst hc;cases hl:gs.lookup f with
   | none=>rw[hl] at q1;exact q1.elim
   | some d =>
    rw[hl] at q1;obtain⟨v,hv,pv⟩:=hr.lookup hl;exact⟨.ref a,h1,a,C,dx,fs0,v,rfl,h4,c,n,hv,q1 v F H (Stp.refl R.fh) pv⟩
  ·rw[if_neg hc] at q1;exact q1.elim
theorem Rpf.length {K:W.Frag}{F:Hp}:∀{fs:List (Str×V)}{gs:List (Str×D)},Rpf K F fs gs->fs.length=gs.length
 | _,_,.nil=>rfl
 | _,_,.cons _ hs=>congrArg (·+1) hs.length
noncomputable def putG (f:Str) (d:D):List (Str×D)->List (Str×D)
 | []=>[(f,d)]
 | (g,x)::r=>if g=f then (g,d)::r else (g,x)::putG f d r
theorem Rpf.put {K:W.Frag}{F:Hp}{f:Str}{v:V}{d:D} (pd:Rp K F v d):∀{fs:List (Str×V)}{gs:List (Str×D)},Rpf K F fs gs->Rpf K F (putF f v fs) (putG f d gs)
 | _,_,.nil=>.cons pd .nil
 | _,_,.cons (k:=k) h hs=>by
  unfold putF putG;by_cases e:k=f
  ·rw[if_pos e,if_pos e];exact .cons pd hs
  ·rw[if_neg e,if_neg e];exact .cons h (hs.put pd)
def v1z {K:W.Frag} (j:Nat) (c:Cls K C0) (n:NoAttr K C0 f) (hv:DE X xq value fv) (eK:X.K=K:=by rfl) (hN:X.N[j]?=some x:=by rfl) (hvs:Vis X.env.scope x:=by first|exact Or.inl rfl|exact Or.inr (Or.inl rfl)|exact Or.inr (Or.inr rfl)) (hd:(x==("__debug__":Str))=false:=by decide) (hcd:(x==("__classdict__":Str))=false:=by decide)
  (hs:swapsWith value (some (.Attribute (.Name x p) f pos')) pos.line X.env=pure false:=by rfl) :
  DS X xq (.Assign [.Attribute (.Name x p) f pos'] value pos) (λρ=>(fv ρ).go ρ λd=>(getI ρ j).go ρ λt=>if t.2.1=C0/\t.2.2.length<1000 then .nx (ρ.set j (some (.own (.i t.1 t.2.1 (putG f d t.2.2))))) else .bad):=by
 subst eK;refine DS.of (ps_fld (u1U hN hvs hd hcd) hv.out hs) λB F ρ σ H T R q=>⟨B,F,ρ,R,Res.all_mono (u0F q.out) (λd q1 v F1 H1 st pv=>?_) λ_ z=>errOf z⟩
 obtain⟨a,C,gs,e1,q2⟩:=v1j (u0F q1);have R1:=R.step st;obtain⟨a',h,h1,h2,h3,h4,h5⟩:=R1.own j _ e1;cases h5 with
 | @i _ dx fs0 _ hr =>
  dsimp only at q2;by_cases hc:C=C0/\gs.length<1000
  ·rw [if_pos hc] at q2
   obtain⟨rfl,hl⟩:=hc;exact⟨.ref a,h1,a,C,dx,fs0,rfl,h4,c,n,by rw[hr.length];exact hl,q2 σ F1 _ (R1.write (e:=e1) h1 (.i (hr.put pv)))⟩
  ·rw[if_neg hc] at q2;exact q2.elim
noncomputable def isI (C0:Addr) (m:Str) (x:D):Res D:=match x with
 | .ins C gs=>if C=C0/\gs.lookup m=none then .ok x else .bad
 | _=>.bad
theorem u4j {K:W.Frag}{F:Hp}{m:Str}:∀{fs:List (Str×V)}{gs:List (Str×D)},Rpf K F fs gs->gs.lookup m=none->fs.lookup m=none
 | _,_,.nil,_=>rfl
 | _,_,.cons (k:=k) h hs,e=>by
  rw[v8] at e |-
  cases q:m==k with
  | true=>rw[q] at e;cases e
  | false=>rw[q] at e;exact u4j hs e
def v3Z {K:W.Frag}{F:Hp}{v:V}{d:D}{m:Str}{P:D->Prop}{E:D->Prop} (p:Rp K F v d) (h:(isI C0 m d).all P E):∃a dx fs,v=.ref a/\F a=some (.ins C0 dx fs)/\fs.lookup m=none/\P d:=by
 cases p with
 | @ins a C dx fs gs h1 h2 =>
  unfold isI at h;dsimp only at h;by_cases hc:C=C0/\gs.lookup m=none
  ·rw [if_pos hc] at h
   obtain⟨rfl,hl⟩:=hc;exact⟨a,dx,fs,rfl,h1,u4j h2 hl,h⟩
  ·rw[if_neg hc] at h;exact h.elim
 | _=>exact h.elim
end
noncomputable def wo (H:Hp) (a:Addr):Hp:=λb=>if b=a then none else H b
def wo_at (H:Hp) (a:Addr):wo H a a=none:=if_pos rfl
def wo_ne {H:Hp}{a b:Addr} (h:b≠a):wo H a b=H b:=if_neg h
def u9Y (H:Hp) (a:Addr):Same (wo H a) H:=λb o e=>by
 by_cases z:b=a
 ·subst z;rw[wo_at] at e;cases e
 ·rw[wo_ne z] at e;exact e
noncomputable def startI (n:Nat) (a C:Addr) (ds:List D):Rho:=some (.own (.i a C []))::startD (n - 1) ds
noncomputable def outI (a C:Addr):Out->Res (List (Str×D))
 | .nx ρ=>match ρ[(0:Nat)]? with
  | some (some (.own (.i a' C' gs)))=>if a'=a/\C'=C then .ok gs else .bad
  | _=>.bad
 | .er x _=>.err x
 | _=>.bad
def u2U {n:Nat}{ds:List D}{i:Nat}{o:OD}:(startD n ds)[i]?≠some (some (.own o)):=λe=>by
 unfold startD at e;rw[z0G] at e;split at e
 ·rw [y4] at e
  cases q:ds[i]? with
  | none=>rw[q] at e;cases e
  | some d'=>rw[q] at e;cases e
 ·rw [t4] at e
  split at e<;>simp at e
def v1U {K:W.Frag}{F H:Hp}{N:List Str}{a C dx:Addr}{rest:List V}{ds:List D} (fh:Same F H) (fa:F a=none) (ha:H a=some (.ins C dx [])) (r:Rps K F rest ds) :
  Rel K (F,wo H a) (startI N.length a C ds) (start N (.ref a::rest)) F H:=by
 have e:start N (.ref a::rest)=some (.ref a)::start N.tail rest:=by
  unfold start;rw[y9,List.cons_append,v9,List.length_tail,Nat.sub_sub,Nat.add_comm 1]
 have R0:Rel K (F,H) (startD (N.length - 1) ds) (start N.tail rest) F H:=by
  have:=r.begin (N:=N.tail) fh
  rwa [List.length_tail] at this
 rw[e];unfold startI;refine⟨⟨Same.refl F,fh,u9Y H a,λ_ n _=>n,λ_ _ _ q=>q⟩,by simp[R0.len],λi d q=>?_,λi o q=>?_,λi j o u b q1 q2 x y=>?_⟩
 ·cases i with
  | zero=>cases q
  | succ i=>exact R0.val i d q
 ·cases i with
  | zero=>cases q;exact⟨a,_,rfl,fa,wo_at H a,ha,.i .nil⟩
  | succ i=>exact absurd q u2U
 ·cases i with
  | zero =>
   cases j with
   | zero=>rfl
   | succ j=>exact absurd q2 u2U
  | succ i=>exact absurd q1 u2U
section
variable {X:Cx}{pins:LO}{σ:St}{H:Hp}{s:Shared}{F:Hp}
def v3X {v:V}{u:Value}{d:D}{t:String} (I:Inv X pins σ H s) (rx:RelV v u) (fh:Same F H) (pv:Rp X.K F v d) (ht:tyN d=some t):∃Hh:Heap->Prop,W.KitX X.K u (.type t) Hh/\Hh s.heap/\u≠.builtin "__main__.__loader__#opaque":=by
 cases pv with
 | non=>cases ht;cases (show u=Value.none from rx);exact⟨_,W.kitx_none,True.intro,λz=>nomatch z⟩
 | bl y=>cases ht;cases (show u=Value.bool y from rx);exact⟨_,W.kitx_bool,True.intro,λz=>nomatch z⟩
 | int i=>cases ht;obtain⟨t,q⟩:=(show ∃t,u=Value.int i t from rx);cases q;exact⟨_,W.kitx_int,True.intro,λz=>nomatch z⟩
 | @str z hz=>cases ht;obtain⟨t,q⟩:=(show ∃t,u=Value.str z t from rx);cases q;exact⟨_,W.kitx_str,True.intro,λz=>nomatch z⟩
 | ty T=>cases ht
 | @lst a xs ds hq hs =>
  cases ht;cases (show u=Value.ref a from rx)
  obtain⟨z,its,n,r,hl,e⟩:=I.lstR (hq.same fh);exact⟨_,W.kitx_list,⟨_,e,rfl⟩,λz=>nomatch z⟩
 | @tup a xs ds hq hs =>
  cases ht;cases (show u=Value.ref a from rx)
  obtain⟨its,r,p,hz⟩:=I.tuple (fh.seqT hq);obtain⟨ob,h1,h2,_⟩:=p;exact⟨_,W.kitx_tuple,⟨ob,h1,h2⟩,λz=>nomatch z⟩
 | @dK a kvs ps hq hs =>
  cases ht;cases (show u=Value.ref a from rx)
  obtain⟨_,_,vs,_,p⟩:=(show ObjOk X.prog X.w H s.heap a (.dK kvs) from I.hok a _ (fh _ _ hq))
  obtain⟨ob,es,ep,h1,h2,_⟩:=p;exact⟨_,W.kitx_dict,⟨ob,h1,h2.1⟩,λz=>nomatch z⟩
 | ins hq hs=>cases ht
 | exc hq hr hs=>cases ht
 | dn hq hs=>cases ht
 | hdl a=>cases ht
noncomputable def isTs (t:String):List String->Option Bool
 | []=>some false
 | T::r=>match isT t T with
  | some true=>some true
  | some false=>isTs t r
  | none=>none
theorem u8p (K:W.Frag) {d:D}{t:String} (ht:tyN d=some t):∀{Ts:List String}{b:Bool},isTs t Ts=some b->W.kitAny K (.type t) (Ts.map Value.type)=some b
 | [],_,e=>by cases e;rfl
 | T::r,b,e=>by
  simp only[isTs] at e;cases q:isT t T with
  | none=>rw[q] at e;cases e
  | some c =>
   rw[q] at e;simp only[y9,W.kitAny,v0Z K ht q];cases c with
   | true=>exact e
   | false=>exact u8p K ht e
noncomputable def tysOf:List D->Option (List String)
 | []=>some []
 | .ty T::r=>(tysOf r).map (T::·)
 | _=>none
theorem u4O {K:W.Frag}:∀{ts:List D}{Ts:List String}{xs:List V}{us:List Value},tysOf ts=some Ts->Rps K F xs ts->Vals xs us->us=Ts.map Value.type
 | [],_,_,_,e,p,r=>by cases e;cases p;cases r;rfl
 | d::ts,Ts,_,_,e,p,r=>by
  cases d<;>simp only[tysOf,reduceCtorEq] at e
  cases q:tysOf ts with
  | none=>rw[q] at e;cases e
  | some Ts' =>
   rw[q] at e;cases e;cases p with
   | cons p1 p2 =>
    cases p1;cases r with
    | cons r1 r2=>cases r1;rw[u4O q p2 r2];rfl
noncomputable def isAny (d:D) (ts:List D):Res D:=match tyN d with
 | some t=>match tysOf ts with
  | some Ts=>match isTs t Ts with
   | some b=>.ok (.bl b)
   | none=>.bad
  | none=>.bad
 | none=>.bad
noncomputable def gIsA:List D->Res D
 | [d,.tup ts]=>isAny d ts
 | ds=>gIs ds
set_option tactic.hygienic true in
def u3G:CallR X (.builtin "isinstance") (rDs X.K gIsA):=by
 intro pins s σ H xs us Q I r z9128;obtain⟨F,ds,fh,ps,q⟩:=z9128;unfold gIsA at q;split at q
 ·rename_i d ts
  obtain⟨v,w,rfl,pv,pw⟩:=rps2 ps;unfold isAny at q;cases ht:tyN d with
  | none=>rw[ht] at q;exact q.elim
  | some t =>
   rw[ht] at q;cases hT:tysOf ts with
   | none=>simp only[hT] at q;exact q.elim
   | some Ts =>
    simp only[hT] at q;cases hb:isTs t Ts with
    | none=>simp only[hb] at q;exact q.elim
    | some bb =>
     simp only[hb] at q;cases pw with
     | @tup a zs _ hq hs =>
      obtain⟨u,u',rfl,ru,ru'⟩:=vals2 r;cases ru';obtain⟨its,rv,p,hz⟩:=I.tuple (fh.seqT hq);obtain⟨⟨cls,dd,data,sl⟩,ho,hc,n,hd⟩:=p;dsimp only at hc hd;subst hc hd;obtain⟨Hh,Z,hh,ne⟩:=v3X I ru fh pv ht;have ei:=u4O hT hs rv;exact W.kia_tup Z I.kIn hh ho (by rw[ei];exact u8p X.K ht hb) ne λtk=>⟨.bl bb,H,I.tok _,rfl,q _ F H (Stp.refl fh) (.bl bb)⟩
 ·exact v3y pins s σ H xs us Q I r ⟨F,ds,fh,ps,q⟩
end
section
variable {X:Cx}{xq:XQ}{a b c:Expr}{fa fb fc:Rho->Res D}{pos:Pos}
def u9S {K:W.Frag}{g g':D->D->Res D}{σ:St}{H:Hp}{Q:VK} (h:liftE K xq (λρ=>(fa ρ).bind λx=>(fb ρ).bind λy=>fChain g g' x y (fc ρ)) σ H Q):tChain (rD K g) (rD K g') (liftE K xq fa) (liftE K xq fb) (liftE K xq fc) σ H Q:=by
 obtain⟨B,F,ρ,R,q⟩:=h;exact seqE R q λd v F1 H1 s1 R1 p1 q1=>seqE R1 q1 λd2 v2 F2 H2 s2 R2 p2 q2=>by
  refine⟨F2,d,d2,R2.fh,p1.same s2.ff,p2,?_⟩;unfold fChain at q2;have q3:=Res.all_bind.mp q2;generalize g d d2=r at q3;cases r with
  | err x=>exact q3
  | bad=>exact q3
  | ok w =>
   obtain⟨k,rfl,q4⟩:=u4z (Res.all_bind.mp (show((asB w).bind _).all _ _ from q3))
   intro v3 F3 H3 s3 p3;refine⟨k,p3.blI,?_⟩;have s03:=(s1.trans s2).trans s3;cases k with
   | false=>exact q4 (.bl false) F3 H3 s03 (.bl false)
   | true=>exact seqE (R2.step s3) q4 λd4 v4 F4 H4 s4 R4 p4 q5=>⟨F4,d2,d4,R4.fh,(p2.same s3.ff).same s4.ff,p4,doneN (s03.trans s4) q5⟩
def u8D {op op':CmpOp}{g g':D->D->Res D} (ho:OpR X (compareOp op) (rD X.K g)) (ho':OpR X (compareOp op') (rD X.K g')) (ha:DE X xq a fa) (hb:DE X xq b fb) (hc:DE X xq c fc) (hm:lastMarks [op,op'] [b,c]=false:=by with_unfolding_all rfl) :
  DT X xq (.Compare a [op,op'] [b,c] pos) (λρ=>((fa ρ).bind λx=>(fb ρ).bind λy=>fChain g g' x y (fc ρ)).bind asB) :=
 DT.of (v2w ho ho' ha.out hb.out hc.out hm) λB F ρ σ H Q R q=>u9S (tfrz (P:=λ_=>True) R q)
end
def u5C (t:SetTable) (n:Nat):(t.orStandIn n).led=t.led:=by
 unfold SetTable.orStandIn
 split<;>rfl
def u9L (t:SetTable) (es:Array (Int×Value)) (h:Int) (x:Value):(layNew t es h x).2.1.led=t.led:=by
 unfold layNew;split
 ·exact u5C _ _
 ·rfl
def u3q {t t':SetTable}{hs:Array Int}{n:Nat}{o:Array Nat} (e:t.relaid hs n=some (t',o)):t'.led=t.led/\t'.plain=t.plain:=by
 unfold SetTable.relaid SetTable.laid at e;cases q:SetTable.layClean (SetTable.sizeAbove n - 1) hs with
 | none=>rw[q] at e;cases e
 | some ow=>rw[q] at e;cases e;exact⟨rfl,rfl⟩
set_option tactic.hygienic true in
def u6n (t:SetTable) (es:Array (Int×Value)) (n:Nat):(relayAll t es n).2.1.led=t.led:=by
 unfold relayAll;split
 ·rename_i t' order e
  dsimp only;split
  ·exact(u3q e).1
  ·rfl
 ·rfl
set_option tactic.hygienic true in
def u4G (t:SetTable) (es:Array (Int×Value)) (n:Nat) (q:t.plain=false):(relayAll t es n).2.1.plain=false:=by
 unfold relayAll;split
 ·rename_i t' order e
  dsimp only;split
  ·exact(u3q e).2.trans q
  ·rfl
 ·rfl
noncomputable def addT (ss:List Str) (x:Str):List Str:=if x∈ss then ss else ss++[x]
def SetT (P:Program) (w:World) (h:Heap) (a:Addr) (ss:List Str):Prop :=
 ∃o es ep t,h.get? a=some o/\o.ExactSet/\o.data=.set es ep t/\ElemsOf (PySem.strKind P w) es.toList/\(es.toList.map λe=>strOf e.2).Perm ss/\ss.Nodup/\es.size<scanBound/\t.fits es.size=true /\
  t.led=(!w.params.followText "set-order")/\(0<es.size->t.plain=false)
section
variable {P:Program}{w:World}{A:Around}{E:VP}{s:Shared}
def u8C {es:List (Int×Value)} (h:ElemsOf (PySem.strKind P w) es) {e:Int×Value} (he:e∈es):∃x t,e.2=.str x t:=by
 obtain⟨⟨k,hk,_⟩,_⟩:=h e he;obtain⟨t,q⟩:=Value.isStrOf_shape hk;exact⟨k,t,q⟩
def v1y {es:List (Int×Value)} (h:ElemsOf (PySem.strKind P w) es) {e:Int×Value} (he:e∈es) (x:Str):(PySem.strKind P w).is x e.2=decide (strOf e.2=x):=by
 obtain⟨y,t,q⟩:=u8C h he;rw[q];show Value.isStrOf x (.str y t)=_;show(y==x)=decide (y=x);by_cases q:y=x
 ·subst q;simp
 ·rw[decide_eq_false q];exact beq_eq_false_iff_ne.mpr q
def v1n {es:List (Int×Value)}{x:Str}{ss:List Str} (h:ElemsOf (PySem.strKind P w) es) (p:(es.map λe=>strOf e.2).Perm ss) (q:es.findIdx? (λe=>(PySem.strKind P w).is x e.2)=none):x∉ss:=λm=>by
 obtain⟨e,he,ee⟩:=x5.mp (p.mem_iff.mpr m)
 have:=List.findIdx?_eq_none_iff.mp q e he
 rw[v1y h he,decide_eq_false_iff_not] at this;exact this ee
def v1m {es:List (Int×Value)}{x:Str}{ss:List Str}{j:Nat} (h:ElemsOf (PySem.strKind P w) es) (p:(es.map λe=>strOf e.2).Perm ss) (q:es.findIdx? (λe=>(PySem.strKind P w).is x e.2)=some j):x∈ss:=by
 obtain⟨hj,hp,_⟩:=List.findIdx?_eq_some_iff_getElem.mp q;have he:es[j]∈es:=z0A hj;rw[v1y h he,decide_eq_true_eq] at hp;exact p.mem_iff.mp (x5.mpr ⟨_,he,hp⟩)
def storeT {a:Addr}{o:Obj}{es es':Array (Int×Value)}{ep:Nat}{t t':SetTable}{ss:List Str} (ho:s.heap.get? a=some o) (hex:o.ExactSet) (hd:o.data=.set es ep t) (el:ElemsOf (PySem.strKind P w) es'.toList)
  (p:(es'.toList.map λe=>strOf e.2).Perm ss) (nd:ss.Nodup) (hb:es'.size<scanBound) (hf:t'.fits es'.size=true) (hl:t'.led=(!w.params.followText "set-order")) (hp:t'.plain=false) :
  (s.heap.update a (Obj.putSet es' t')).get? a=some { o with data:=.set es' (ep+1) t' }/\SetT P w (s.heap.update a (Obj.putSet es' t')) a ss:=by
 obtain⟨g,_⟩:=SetOf_store (knd:=PySem.strKind P w) (S':=λk=>es'.toList.any λe=>(PySem.strKind P w).is k e.2) ho hex hd el (λk=>List.any_eq_true) hb hf
 exact⟨g,_,es',ep+1,t',g,hex,rfl,el,p,nd,hb,hf,hl,λ_=>hp⟩
def u7d {g:Bool->Sem Unit} (hg:∀(b:Bool) (s₁:Shared) (Q':Unit->Shared->Prop),Q' () s₁->wpAny (model P w) A (g b) Q' E s₁) {a:Addr}{o:Obj}{es es1:Array (Int×Value)}{ep:Nat}{t t2:SetTable}{ss:List Str}
  (ho:s.heap.get? a=some o) (hex:o.ExactSet) (hd:o.data=.set es ep t) (el:ElemsOf (PySem.strKind P w) es1.toList) (p:(es1.toList.map λe=>strOf e.2).Perm ss) (nd:ss.Nodup) (hb:es1.size<scanBound)
  (hf:t2.fits es1.size=true) (hl:t2.led=(!w.params.followText "set-order")) (hp:t2.plain=false) {wd:Bool}{R:Option Bool->Shared->Prop} (h:∀h',Heap.SameBut a s.heap h'->SetT P w h' a ss->R (some true) { s with heap:=h' }) :
  wpAny (model P w) A (do
    storeSet a es1 t2
    if (!wd&&t2.tooFull)=true then do
        g (relayAll t2 es1 (SetTable.grown es1.size)).2.2
        storeSet a (relayAll t2 es1 (SetTable.grown es1.size)).1 (relayAll t2 es1 (SetTable.grown es1.size)).2.1
        pure (some true)
     else pure (some true)) R E s:=by
 refine wpAny_bind (wpAny_storeSet_of ho hd ?_ (fits_of_scanBound hb));obtain⟨o1,S1⟩:=storeT ho hex hd el p nd hb hf hl hp;have sb:=Heap.SameBut.update s.heap a (Obj.putSet es1 t2);split
 ·have q1:=relayAll_perm t2 es1 (SetTable.grown es1.size)
  have q2:=relayAll_fits t2 es1 (SetTable.grown es1.size);have q3:=u6n t2 es1 (SetTable.grown es1.size);have q4:=u4G t2 es1 (SetTable.grown es1.size) hp;generalize relayAll t2 es1 (SetTable.grown es1.size)=Z at q1 q2 q3 q4 |-
  obtain⟨es2,t3,gv⟩:=Z;dsimp only at q1 q2 q3 q4 |-
  have z:es2.size=es1.size:=by have:=q1.length_eq;simpa using this
  refine wpAny_bind (hg _ _ _ ?_);refine wpAny_bind (wpAny_storeSet_of o1 rfl ?_ (fits_of_scanBound (z ▸ hb)));obtain⟨_,S2⟩:=storeT (s:={ s with heap:=s.heap.update a (Obj.putSet es1 t2) }) o1 hex rfl (el.perm q1) ((q1.map _).trans p) nd (z ▸ hb) q2 (q3.trans hl) q4
  exact wpAny_pure (h _ (sb.trans (Heap.SameBut.update _ a _)) S2)
 ·exact wpAny_pure (h _ sb S1)
set_option tactic.hygienic true in
def setAddT {a:Addr}{ss:List Str}{x:Str}{tk:Tok}{Q:Bool->Shared->Prop} (hS:SetT P w s.heap a ss) (hr:ss.length+1<scanBound)
  (h:∀r h',Heap.SameBut a s.heap h'->SetT P w h' a (addT ss x)->Q r { s with heap:=h' }):wpAny (model P w) A (setAddHashed a (.str x tk) ((PySem.strKind P w).hash x)) Q E s:=by
 obtain⟨o,es,ep,t,ho,hex,hd,el,p,nd,hb,hf,hl,hp⟩:=id hS;have hn:es.size=ss.length:=by have:=p.length_eq;simpa using this
 have hk:(PySem.strKind P w).is x (.str x tk)=true:=strKind_is P w x tk;unfold setAddHashed setAddHashedIn;refine wpAny_holding (wpAny_bind (wpAny_setState_of ho hd hf ?_));dsimp only;rw[byScan_of (knd:=PySem.strKind P w) (x:=.str x tk) rfl hb el];simp only[↓reduceIte];unfold setAddByScan;refine wpAny_bind ?_;refine wpAny_bind (wpAny_rule ?_);refine wpAny_bind (wpAny_setScan_of hk ho hd hf el ?_);cases hr':List.findIdx? (λe=>(PySem.strKind P w).is x e.2) es.toList with
 | some j =>
  dsimp only;refine wpAny_pure (wpAny_pure ?_);have m:=v1m el p hr'
  have:=h false s.heap (Heap.SameBut.refl a s.heap) (by unfold addT;rw[if_pos m];exact hS)
  exact this
 | none =>
  dsimp only;have m:=v1n el p hr';have q1:=layNew_perm t es ((PySem.strKind P w).hash x) (.str x tk);have q2:=layNew_fits t es ((PySem.strKind P w).hash x) (.str x tk);have q3:=u9L t es ((PySem.strKind P w).hash x) (.str x tk);generalize layNew t es ((PySem.strKind P w).hash x) (.str x tk)=Z at q1 q2 q3 |-
  obtain⟨es1,t1,wd,gv⟩:=Z;dsimp only at q1 q2 q3 |-
  rw[Array.toList_push] at q1;have el1:ElemsOf (PySem.strKind P w) es1.toList:=(el.push hk rfl).perm q1;have p1:(es1.toList.map λe=>strOf e.2).Perm (addT ss x):=by
   unfold addT;rw[if_neg m];refine(q1.map _).trans ?_;rw[v5];exact p.append (List.Perm.refl _)
  have nd1:(addT ss x).Nodup:=by
   unfold addT;rw[if_neg m,List.nodup_append];exact⟨nd,by simp,λy hy z hz e=>by rw[w9] at hz;subst hz;subst e;exact m hy⟩
  have hb1:es1.size<scanBound:=by
   have:=q1.length_eq
   simp at this;omega
  have hg:∀(b:Bool) (s₁:Shared) (Q':Unit->Shared->Prop),Q' () s₁->wpAny (model P w) A (match b with|true=>rule "set.scan.the-table-gave-way" | false=>pure ()) Q' E s₁:=λb s₁ Q' hq=>by
   cases b<;>first|exact wpAny_pure hq|exact wpAny_rule hq
  refine wpAny_bind (hg _ _ _ ?_);split
  ·refine wpAny_bind ?_
   rw[hashByValue_scannable 8 (x:=.str x tk) rfl];refine wpAny_pure ?_;refine u7d hg ho hex hd el1 p1 nd1 hb1 ?_ ?_ ?_ λh' sb S'=>wpAny_pure (h true h' sb S')
   ·exact SetTable.fits_plain_off q2
   ·exact q3.trans hl
   ·rfl
  ·rename_i hpl
   refine wpAny_bind (wpAny_pure ?_);simp only[↓reduceIte];exact u7d hg ho hex hd el1 p1 nd1 hb1 q2 (q3.trans hl) (by simpa using hpl) λh' sb S'=>wpAny_pure (h true h' sb S')
end
noncomputable def setOfT (ss:List Str):List Str:=ss.foldl addT []
def u8R (ss:List Str) (x:Str):(addT ss x).length<=ss.length+1:=by unfold addT;split<;>simp
theorem u4q:∀(xs ss:List Str),(xs.foldl addT ss).length<=ss.length+xs.length
 | [],ss=>by simp
 | x::xs,ss=>by
  have:=u4q xs (addT ss x)
  have:=u8R ss x
  simp only[r6,v9];omega
theorem u6M:∀(xs ss:List Str) (y:Str),y∈xs.foldl addT ss↔y∈ss\/y∈xs
 | [],ss,y=>by simp
 | x::xs,ss,y=>by
  rw[r6,u6M xs,y0];unfold addT;by_cases q:x∈ss
  ·rw [if_pos q]
   constructor
   ·rintro (h | h)
    ·exact .inl h
    ·exact .inr (.inr h)
   ·rintro (h | rfl | h)
    ·exact .inl h
    ·exact .inl q
    ·exact .inr h
  ·rw[if_neg q,v1,w9,or_assoc]
def u1n {ss:List Str}{y:Str}:y∈setOfT ss↔y∈ss:=by unfold setOfT;rw[u6M];simp
set_option tactic.hygienic true in
def u5n {ss:List Str}{x:Str} (h:ss.Nodup):(addT ss x).Nodup:=by
 unfold addT;split
 ·exact h
 ·rename_i m
  rw[List.nodup_append];exact⟨h,by simp,λy hy z hz e=>by rw[w9] at hz;subst hz;subst e;exact m hy⟩
theorem u4p:∀(xs ss:List Str),ss.Nodup->(xs.foldl addT ss).Nodup
 | [],_,h=>h
 | _::xs,_,h=>u4p xs _ (u5n h)
def u3n (ss:List Str):(setOfT ss).Nodup:=u4p ss [] List.nodup_nil
theorem u4P:∀{vs:List Value}{ss:List Str},StrsAre vs ss->∀(i:Nat) (v:Value),vs[i]?=some v->∃x t,ss[i]?=some x/\v=.str x t
 | _,_,.cons x t h,0,v,e=>by cases e;exact⟨x,t,rfl,rfl⟩
 | _,_,.cons x t h,i+1,v,e=>u4P h i v (by simpa using e)
section
variable {P:Program}{w:World}{A:Around}{E:VP}{s:Shared}
def SetT.keep {h h':Heap}{a:Addr}{ss:List Str} (x:SetT P w h a ss) (k:∀o,h.get? a=some o->h'.get? a=some o):SetT P w h' a ss:=by
 obtain⟨o,es,ep,t,ho,r⟩:=x;exact⟨o,es,ep,t,k _ ho,r⟩
theorem SetT.fresh {h:Heap}{a:Addr} (e:h.get? a=some { cls:=.type "set",dict:=none,data:=.set #[] 0 (.fresh 0 0 (!w.params.followText "set-order")) }):SetT P w h a [] :=
 ⟨_,#[],0,_,e,⟨rfl,rfl,rfl⟩,rfl,λe he=>by simp at he,List.Perm.refl _,List.nodup_nil,by decide,by rfl,rfl,λq=>absurd q (by decide)⟩
def v2p {I:Addr}{fp wr:List Addr}{G:Array GenState->Array GenState->Prop}{n:Nat}{Pp:Nat->Value->Prop}{St:Nat->Shared->Prop}{R:Result->Shared->Prop}{ss:List Str}
  (W:WalksS P w A.in1 I fp wr G n Pp St) (S:Addr) (hSf:S∉fp) (hn:ss.length=n) (hv:∀i v,Pp i v->∃x t,ss[i]?=some x/\v=.str x t) (hb:n+1<scanBound) :
  ∀(k i:Nat) (s:Shared),n - i=k->i<=n->St i s->SetT P w s.heap S (setOfT (ss.take i))->(∀s',Moved (S::wr) G s s'->SetT P w s'.heap S (setOfT ss)->R (.ok (.ret .none)) s') ->
   codeAny (model P w) A (.builtin "set.update.loop" ⟨[.ref S,.ref I],[]⟩) R s:=by
 have hSw:S∉wr:=λh=>hSf (W.sub _ h)
 have up:∀b∈wr,b∈S::wr:=λb hb=>z4 _ hb
 intro k;induction k with
 | zero =>
  intro i s hk hi st hS hR;have e:i=n:=by omega
  subst e;refine codeAny_builtin F.entry_set_update_loop ?_;rw[Around.under_plainId F.plain_set_update_loop _];refine wpAny_bind (m:=pyNext (.ref I)) (W.done s _ _ st λs' hm=>?_)
  refine wpAny_pure (hR s' (hm.mono up) ?_);have q:=hS.keep (h':=s'.heap) λo=>hm.heap S o hSw
  rwa [List.take_of_length_le (by omega)] at q
 | succ k ih =>
  intro i s hk hi st hS hR;have lt:i<n:=by omega
  refine codeAny_builtin F.entry_set_update_loop ?_;rw[Around.under_plainId F.plain_set_update_loop _];refine wpAny_bind (m:=pyNext (.ref I)) (W.item i s _ _ lt st λv s' pv st' hm=>?_)
  obtain⟨x,t,hx,rfl⟩:=hv i v pv;have S1:=hS.keep (h':=s'.heap) λo=>hm.heap S o hSw
  show wpAny _ A.in1 (holding [Value.str x t] (setAdd S (.str x t)) >>= _) _ _ s';refine wpAny_bind (wpAny_holding ?_);unfold setAdd;refine wpAny_holding (wpAny_bind ((PySem.strKind P w).pyHash (k:=x) (strKind_is P w x t) ?_));have room:(setOfT (ss.take i)).length+1<scanBound:=by
   have:=u4q (ss.take i) []
   have:(ss.take i).length<=i:=by simp;omega
   unfold setOfT;simp only[List.length_nil,Nat.zero_add] at *
   omega
  refine setAddT (s:={ s' with toks:=s'.toks+1 }) S1 room λr h' sb S2=>?_
  have e2:addT (setOfT (ss.take i)) x=setOfT (ss.take (i+1)):=by
   unfold setOfT;rw[List.take_add_one,hx];simp
  rw[e2] at S2;refine wpAny_pure ⟨plainId_quiet F.plain_set_update_loop _,ih (i+1) _ (by omega) lt (W.frame _ s' _ _ st' (Nat.le_succ _) λb hb o e=>?_) S2 λs'' hm2 S3=>?_⟩
  ·rw[sb.2 b (λh:b=S=>hSf (h ▸ hb))];exact e
  ·exact hR s'' (Moved.trans W.gtrans ((hm.mono up).then_heap (Nat.le_succ _) λb o hb e=>by rw[sb.2 b (λh:b=S=>hb (h ▸ z5))];exact e) hm2) S3
def set_new {a:Value}{Q₁:VP}
  (h:Q₁ (.ref s.heap.objs.size) { s with heap:=s.heap.push { cls:=.type "set",dict:=none,data:=.set #[] 0 (.fresh 0 0 (!w.params.followText "set-order")) } }) :
  codeAny (model P w) A (.call (.builtin "set.__new__") ⟨[.type "set",a],[]⟩) (wants Q₁ E) s:=by
 refine codeAny_of_tree (wpAny_bind (m:=checkBuiltinCall "set.__new__" ⟨[.type "set",a],[]⟩) (wpAny_of_eq (F.newCall_set_1 a) (wpAny_pure ⟨plainId_quiet F.plain_set_new _,codeAny_builtin F.entry_set_new ?_⟩)));rw[Around.under_plainId F.plain_set_new _];unfold Builtin.«set.__new__» Builtin.Frozenset.newClass;have hsub:=sub_set_self;obtain⟨hp,g,d,tk,os⟩:=s;dsimp only
 wp_walk
 refine wpAny_askSetting (wpAny_pure ?_);simp only[newObj];exact wpAny_bind (wpAny_alloc (wpAny_pure (wpAny_pure h)))
abbrev eSet (w:World):Obj:={ cls:=.type "set",dict:=none,data:=.set #[] 0 (.fresh 0 0 (!w.params.followText "set-order")) }
def SetMade (P:Program) (w:World) (s:Shared) (ss:List Str) (s₂:Shared):Prop:=∃h' tk,s₂={ s with heap:=h',toks:=tk }/\SetT P w h' s.heap.objs.size (setOfT ss)/\∀b o,b<s.heap.objs.size->s.heap.get? b=some o->h'.get? b=some o
set_option maxHeartbeats 3200000 in
def v2n {l:Addr}{items:Array Value}{ss:List Str} (hh:A.handled=none) (hl:s.heap.IsList l items) (hi:StrsAre items.toList ss) (hb:items.size+1<scanBound) :
  wpAny (model P w) A.in1 (Builtin.«set.__init__» ⟨[.ref s.heap.objs.size,.ref l],[]⟩)
   (λfin s'=>match fin with | .done f=>wants (λr s₂=>r=.none/\SetMade P w s ss s₂) E (.ok f) s' | .again c'=>c'.quiet=true/\codeAny (model P w) A c' (wants (λr s₂=>r=.none/\SetMade P w s ss s₂) E) s')
   (λe s'=>wants (λr s₂=>r=.none/\SetMade P w s ss s₂) E (.error e) s') { s with heap:=s.heap.push (eSet w) }:=by
 have hS:(s.heap.push (eSet w)).get? s.heap.objs.size=some (eSet w):=z6 _ rfl;have hT:Shared.TypeIs { s with heap:=s.heap.push (eSet w) } (.ref s.heap.objs.size) "set":=⟨_,hS,rfl⟩
 obtain⟨⟨oc,od,odt,osl⟩,hol,hcl,nl,hdl⟩:=hl;simp only at hcl hdl;subst hcl;subst hdl;have hol':(s.heap.push (eSet w)).get? l=some { cls:=.type "list",dict:=od,data:=.seq items nl,slots:=osl }:=z0 _ hol;have k1:=F.sub_list_set;have k2:=F.sub_list_frozenset;have k3:(Value.type "list"==Value.type "dict")=false:=by decide
 have hl1:(s.heap.push (eSet w)).IsList l items:=⟨_,hol',rfl,nl,rfl⟩;unfold Builtin.«set.__init__» noKeywords Builtin.Frozenset.updateFrom;generalize hPI:pyIter=PI
 wp_walk
 subst hPI;refine wpAny_pyIter_list hl1 (wpAny_bind (wpAny_runValue ?_));have lS:l<s.heap.objs.size:=z8 hol;have h3:A.in1.in1.handled=none:=by simp[hh]
 have z:(s.heap.push (eSet w)).objs.size=s.heap.objs.size+1:=Heap.size_push ..;have nI:l≠(s.heap.push (eSet w)).objs.size:=by rw[z];exact x0 (Nat.lt_succ_of_lt lS)
 have nS:s.heap.objs.size∉[(s.heap.push (eSet w)).objs.size,l]:=by
  rw[z];simp only[y0,z0D,or_false,not_or];exact⟨x0 (Nat.lt_succ_self _),Nat.ne_of_gt lS⟩
 have hlen:ss.length=items.size:=by
  have e:=hi.strs
  have:(items.toList.map strOf).length=ss.length:=by rw[e]
  simpa using this.symm
 refine v2p (ss:=ss) ((Walks.list h3 _ l nI items).toS) s.heap.objs.size nS hlen (λi v hv=>u4P hi i v (by rw[t7];exact hv)) hb (items.size - 0) 0 _ (by omega) (q9 _)
  ⟨⟨_,z6 _ rfl,rfl,rfl⟩,hl1.push _⟩ (SetT.fresh (z0 _ hS)) ?_
 intro s' hm hS';obtain⟨h',g',d',tk',os'⟩:=s';have eg:g'=s.gens:=hm.gens;have ed:d'=s.drawn:=hm.drawn;have eo:os'=s.os:=hm.os;subst eg;subst ed;subst eo;refine wpAny_pure ?_;show wpAny _ _ (ret Value.none) _ _ _;refine wpAny_pure ⟨rfl,h',tk',rfl,hS',λb o hb e=>hm.heap b o ?_ (z0 _ (z0 _ e))⟩
 simp only[y0,z0D,or_false,not_or,z];exact⟨x0 hb,x0 (Nat.lt_succ_of_lt hb)⟩
set_option maxHeartbeats 3200000 in
def v2q {l:Addr}{items:Array Value}{ss:List Str}{Q:VP} (hh:A.handled=none) (hl:s.heap.IsList l items) (hi:StrsAre items.toList ss) (hb:items.size+1<scanBound)
  (h:∀s₂,SetMade P w s ss s₂->Q (.ref s.heap.objs.size) s₂):wpAny (model P w) A (call (.type "set") [.ref l]) Q E s:=by
 obtain⟨c,tl,hmro⟩:=F.called_set.mro;have hmade:=F.called_set.made;have hsub:=F.called_set.sub;refine wpAny_call (codeAny_of_tree (show wpAny _ _ (callAny (.type "set") _) _ _ _ from wpAny_pure ⟨Code.quiet_builtin _ (by decide +kernel),codeAny_builtin F.entry_type_call ?_⟩))
 rw[Around.under_plain (weight_type_call_type "set" [.ref l] []) rfl];have h1:=F.called_set.notType;have h2:=F.called_set.canCreate;have hct:=F.typeCall_set_1 (.ref l)
 repeat (any_goals (first|assumption|wp_step))
 refine codeAny_mono (set_new (a:=.ref l) (E:=E) (Q₁:=λobj s₁=>obj=.ref s.heap.objs.size/\s₁={ s with heap:=s.heap.push (eSet w) }) ⟨rfl,rfl⟩) λr s₁ hr=>?_
 cases r with
 | error e=>exact hr
 | ok fl =>
  cases fl with
  | ret obj =>
   obtain⟨rfl,rfl⟩:=hr;have hT:Shared.TypeIs { s with heap:=s.heap.push (eSet w) } (.ref s.heap.objs.size) "set":=⟨_,z6 _ rfl,rfl⟩
   have hli:=F.called_set.init.lookup;have hbi:=F.called_set.init.bind (.ref s.heap.objs.size)
   repeat (any_goals (first|assumption|wp_step))
   refine codeAny_mono (codeAny_call_builtin (R:=wants (λr s₂=>r=.none/\SetMade P w s ss s₂) E) F.called_set.init.plain F.entry_set_init (check_set_init_1 hT (v2n (by simp[hh]) hl hi hb))) λr₂ s₂ hr₂=>?_
   cases r₂ with
   | error e=>exact hr₂
   | ok fl₂ =>
    cases fl₂ with
    | ret r =>
     obtain⟨rfl,m⟩:=hr₂
     repeat (any_goals (first|assumption|wp_step))
     exact h _ m
    | _=>exact hr₂.elim
  | _=>exact hr.elim
end
def u6O:entryFor table "set.__iter__"=some Builtin.«frozenset.__iter__»:=entryFor_alias (id':="frozenset.__iter__") (by kernel_rfl) rfl (by decide +kernel) (by kernel_rfl)
def u0p:Slot "set_iterator" "__next__" "set_iterator.__next__":=.of (owner:="set_iterator") (n:="__next__") (by rw[typeLookup_type,builtinLookup_eq_fast];kernel_rfl) (by decide +kernel) (by decide +kernel)
 (by decide +kernel) (by first|exact .inl (by decide +kernel)|exact .inr (by decide +kernel)) (by rw[isSubtype_type];kernel_rfl)
def u3m:Slot "set_iterator" "__iter__" "set_iterator.__iter__":=.of (owner:="set_iterator") (n:="__iter__") (by rw[typeLookup_type,builtinLookup_eq_fast];kernel_rfl) (by decide +kernel) (by decide +kernel)
 (by decide +kernel) (by first|exact .inl (by decide +kernel)|exact .inr (by decide +kernel)) (by rw[isSubtype_type];kernel_rfl)
def u1m:entryFor table "set_iterator.__next__"=some Builtin.«set_iterator.__next__»:=entryFor_of_tree (by kernel_rfl)
def u5N:entryFor table "set_iterator.__iter__"=some Builtin.«dict_keyiterator.__iter__»:=entryFor_alias (id':="dict_keyiterator.__iter__") (by kernel_rfl) rfl (by decide +kernel) (by kernel_rfl)
def u8e:Manifest.owners.lookup (String.ofList ['r','o','t','a','r','e','t','i','_','t','e','s'].reverse)=some Manifest.sig_set_iterator:=by kernel_rfl
def u1C (a:Value):argsOk "set_iterator.__next__" ⟨[a],[]⟩:=by
 unfold argsOk;rw[signature?_of (id:="set_iterator.__next__") (n:=['_','_','t','x','e','n','_','_']) (o:=['r','o','t','a','r','e','t','i','_','t','e','s']) (by kernel_rfl) u8e]
 kernel_rfl
def u7b (a:Value):argsOk "set_iterator.__iter__" ⟨[a],[]⟩:=by
 unfold argsOk;rw[signature?_of (id:="set_iterator.__iter__") (n:=['_','_','r','e','t','i','_','_']) (o:=['r','o','t','a','r','e','t','i','_','t','e','s']) (by kernel_rfl) u8e]
 kernel_rfl
def SIt (h:Heap) (I:Addr) (first:Value) (i:Nat) (a:Addr) (n ep:Nat):Prop:=∃o,h.get? I=some o/\o.cls=.type "set_iterator"/\o.data=.fields #[first,.int i 0,.ref a,.int n 0,.int ep 0]
def SAt (h:Heap) (a:Addr) (es:Array (Int×Value)) (ep:Nat) (t:SetTable):Prop:=∃o,h.get? a=some o/\o.data=.set es ep t/\t.fits es.size=true
def SIt.at {h h':Heap}{I:Addr}{first:Value}{i:Nat}{a:Addr}{n ep:Nat} (x:SIt h I first i a n ep) (k:∀o,h.get? I=some o->h'.get? I=some o):SIt h' I first i a n ep:=by obtain⟨o,ho,r⟩:=x;exact⟨o,k _ ho,r⟩
def SAt.at {h h':Heap}{a:Addr}{es:Array (Int×Value)}{ep:Nat}{t:SetTable} (x:SAt h a es ep t) (k:∀o,h.get? a=some o->h'.get? a=some o):SAt h' a es ep t:=by obtain⟨o,ho,r⟩:=x;exact⟨o,k _ ho,r⟩
section
variable {P:Program}{w:World}{A:Around}{E:VP}{s:Shared}{I a:Addr}{first:Value}{i ep:Nat}{es:Array (Int×Value)}{t:SetTable}
def SIt.ty (x:SIt s.heap I first i a n ep):s.TypeIs (.ref I) "set_iterator":=by obtain⟨o,ho,hc,_⟩:=x;exact⟨o,ho,hc⟩
def u7i {Q:VP} (x:SIt s.heap I first i a n ep) (h:Q (.ref I) s):wpAny (model P w) A (pyIter (.ref I)) Q E s:=by
 refine wpAny_pyIter_slot x.ty u3m (wpAny_call_entry u3m x.ty u5N ?_ (u7b _));exact(show wpAny _ _ (ret (.ref I)) _ _ s from wpAny_pure ⟨_,rfl,"set_iterator",_,x.ty,u0p.lookup,h⟩)
def u4Q {k:Nat}{v:Value}{vs:Array Value}{Q:Unit->Shared->Prop}{o:Obj} (ho:s.heap.get? I=some o) (hc:o.cls=.type "set_iterator") (hd:o.data=.fields vs) (hk:k<vs.size)
  (h:∀h' o',h'.get? I=some o'->o'.cls=.type "set_iterator"->o'.data=.fields (vs.setIfInBounds k v)->Heap.SameBut I s.heap h'->Q () { s with heap:=h' }):wpAny (model P w) A (setField (.ref I) k v) Q E s :=
 wpAny_setField ho hd hk (h _ _ (r9 _ ho (Obj.isFreed_of_fields (Obj.data_mapFields hd _))) ((Obj.cls_mapFields ..).trans hc) (Obj.data_mapFields hd _) (Heap.SameBut.update ..))
def Kept (I:Addr) (h h':Heap):Prop:=∀b o,b≠I->h.get? b=some o->h'.get? b=some o
def v0m {slot nx:Nat}{x:Value}{Q:Option Value->Shared->Prop} (X:SIt s.heap I (.int slot 0) i a es.size ep) (S:SAt s.heap a es ep t)
  (hn:∀(B:Around) (R:Option (Value×Nat)->Shared->Prop) (E':VP),R (some (x,nx)) s->wpAny (model P w) B (setNext a slot i ep) R E' s)
  (hQ:∀h',SIt h' I (.int nx 0) (i+1) a es.size ep->Kept I s.heap h'->Q (some x) { s with heap:=h' }):wpAny (model P w) A (pyNext (.ref I)) Q E s:=by
 obtain⟨o,ho,hc,hd⟩:=id X;obtain⟨os,hos,hds,hf⟩:=id S;unfold pyNext;refine wpAny_bind (wpAny_attempt (wpAny_callSpecial?_slot (name:=Str.ofString "__next__") X.ty u0p (wpAny_call_entry u0p X.ty u1m ?_ (u1C _))));unfold Builtin.«set_iterator.__next__»;refine wpAny_bind (wpAny_pure ?_);refine wpAny_bind (wpAny_fieldsOf ho hd ?_);refine wpAny_bind (m:=setEntries a) (wpAny_setEntries_of hos hds hf ?_);rw[if_neg (by simp)]
 refine wpAny_bind (m:=setNext a slot i ep) (hn _ _ _ ?_);refine wpAny_bind (u4Q ho hc hd (by simp) λh1 o1 g1 c1 d1 b1=>?_)
 refine wpAny_bind (u4Q (s:={ s with heap:=h1 }) g1 c1 d1 (by simp) λh2 o2 g2 c2 d2 b2=>?_)
 exact wpAny_pure ⟨x,rfl,wpAny_pure (hQ h2 ⟨o2,g2,c2,by rw[d2];simp[rawInt]⟩ λb ob nb e=>(b2.extBut b ob nb (b1.extBut b ob nb e)))⟩
def v0n {slot:Nat}{Q:Option Value->Shared->Prop} (hh:A.handled=none) (X:SIt s.heap I (.int slot 0) i a es.size ep) (S:SAt s.heap a es ep t)
  (hn:∀(B:Around) (R:Option (Value×Nat)->Shared->Prop) (E':VP),R none s->wpAny (model P w) B (setNext a slot i ep) R E' s)
  (hQ:∀h',Kept I s.heap h'->Q none { s with heap:=h' }):wpAny (model P w) A (pyNext (.ref I)) Q E s:=by
 obtain⟨o,ho,hc,hd⟩:=id X;obtain⟨os,hos,hds,hf⟩:=id S;unfold pyNext;refine wpAny_bind (wpAny_attempt (wpAny_callSpecial?_slot (name:=Str.ofString "__next__") X.ty u0p (wpAny_call_entry u0p X.ty u1m ?_ (u1C _))));unfold Builtin.«set_iterator.__next__»;refine wpAny_bind (wpAny_pure ?_);refine wpAny_bind (wpAny_fieldsOf ho hd ?_);refine wpAny_bind (m:=setEntries a) (wpAny_setEntries_of hos hds hf ?_);rw[if_neg (by simp)]
 refine wpAny_bind (m:=setNext a slot i ep) (hn _ _ _ ?_);refine wpAny_bind (u4Q ho hc hd (by simp) λh1 o1 g1 c1 d1 b1=>?_)
 refine wpAny_bind (m:=newExc (.type "StopIteration") []) ?_;simp only[newExc,newTuple];refine wpAny_bind (wpAny_newObj_type (Q:=_) ?_ (by size_fits));refine wpAny_bind (m:=firstArgMember _ _) (wpAny_of_eq (a:=Value.none) (by first|rfl|(simp only[firstArgMember];rfl)) (wpAny_newObj_type ?_ (by size_fits)))
 simp only[raiseNew];refine wpAny_bind (wpAny_handled ?_);rw[show A.in1.handled=none from hh]
 refine wpAny_bind (wpAny_pure (wpAny_throw ?_));refine wpAny_bind (wpAny_isInstance (T:="StopIteration") (b:=true) ⟨_,z6 _ rfl,rfl⟩ isSubtype_stop ?_);exact wpAny_pure (hQ _ λb ob nb e=>z0 _ (z0 _ (b1.extBut b ob nb e)))
def v2j {tp:Addr}{pl:Array Value}{place m:Nat}{tk:Tok}{e:Int×Value}{ot:Obj}{Q:Option Value->Shared->Prop} (X:SIt s.heap I (.ref tp) i a es.size ep) (S:SAt s.heap a es ep t) (hot:s.heap.get? tp=some ot) (hpt:ot.data=.seq pl m)
  (hp:pl[i]?=some (.int place tk)) (he:es[place]?=some e) (hQ:∀h',SIt h' I (.ref tp) (i+1) a es.size ep->Kept I s.heap h'->Q (some e.2) { s with heap:=h' }):wpAny (model P w) A (pyNext (.ref I)) Q E s:=by
 obtain⟨o,ho,hc,hd⟩:=id X;obtain⟨os,hos,hds,hf⟩:=id S;unfold pyNext;refine wpAny_bind (wpAny_attempt (wpAny_callSpecial?_slot (name:=Str.ofString "__next__") X.ty u0p (wpAny_call_entry u0p X.ty u1m ?_ (u1C _))));unfold Builtin.«set_iterator.__next__»;refine wpAny_bind (wpAny_pure ?_);refine wpAny_bind (wpAny_fieldsOf ho hd ?_);refine wpAny_bind (m:=setEntries a) (wpAny_setEntries_of hos hds hf ?_);rw[if_neg (by simp)]
 refine wpAny_bind (m:=seqItems? (.ref tp)) (wpAny_seqItems hot hpt ?_);simp only[Int.toNat_natCast,hp];refine wpAny_bind ?_;unfold setNextDrawn;refine wpAny_bind (wpAny_setState_of hos hds hf ?_);simp only[bne_self_eq_false,v7,if_false,he];refine wpAny_pure (wpAny_bind (u4Q ho hc hd (by simp) λh1 o1 g1 c1 d1 b1=>?_))
 exact wpAny_pure ⟨e.2,rfl,wpAny_pure (hQ h1 ⟨o1,g1,c1,by rw[d1];simp[rawInt]⟩ λb ob nb e=>b1.extBut b ob nb e)⟩
def v2k {tp:Addr}{pl:Array Value}{m:Nat}{ot:Obj}{Q:Option Value->Shared->Prop} (hh:A.handled=none) (X:SIt s.heap I (.ref tp) i a es.size ep) (S:SAt s.heap a es ep t) (hot:s.heap.get? tp=some ot) (hpt:ot.data=.seq pl m)
  (hp:pl[i]?=none) (hQ:∀h',Kept I s.heap h'->Q none { s with heap:=h' }):wpAny (model P w) A (pyNext (.ref I)) Q E s:=by
 obtain⟨o,ho,hc,hd⟩:=id X;obtain⟨os,hos,hds,hf⟩:=id S;unfold pyNext;refine wpAny_bind (wpAny_attempt (wpAny_callSpecial?_slot (name:=Str.ofString "__next__") X.ty u0p (wpAny_call_entry u0p X.ty u1m ?_ (u1C _))));unfold Builtin.«set_iterator.__next__»;refine wpAny_bind (wpAny_pure ?_);refine wpAny_bind (wpAny_fieldsOf ho hd ?_);refine wpAny_bind (m:=setEntries a) (wpAny_setEntries_of hos hds hf ?_);rw[if_neg (by simp)]
 refine wpAny_bind (m:=seqItems? (.ref tp)) (wpAny_seqItems hot hpt ?_);simp only[Int.toNat_natCast,hp];refine wpAny_bind (u4Q ho hc hd (by simp) λh1 o1 g1 c1 d1 b1=>?_)
 refine wpAny_bind (u4Q (s:={ s with heap:=h1 }) g1 c1 d1 (by simp) λh2 o2 g2 c2 d2 b2=>?_)
 refine wpAny_bind (m:=newExc (.type "StopIteration") []) ?_;simp only[newExc,newTuple];refine wpAny_bind (wpAny_newObj_type (Q:=_) ?_ (by size_fits));refine wpAny_bind (m:=firstArgMember _ _) (wpAny_of_eq (a:=Value.none) (by first|rfl|(simp only[firstArgMember];rfl)) (wpAny_newObj_type ?_ (by size_fits)))
 simp only[raiseNew];refine wpAny_bind (wpAny_handled ?_);rw[show A.in1.handled=none from hh]
 refine wpAny_bind (wpAny_pure (wpAny_throw ?_));refine wpAny_bind (wpAny_isInstance (T:="StopIteration") (b:=true) ⟨_,z6 _ rfl,rfl⟩ isSubtype_stop ?_);exact wpAny_pure (hQ _ λb ob nb e=>z0 _ (z0 _ (b2.extBut b ob nb (b1.extBut b ob nb e))))
end
theorem u5r {α:Type}:∀(l:List α) (i:Nat) (h:i<l.length),(l[i]::l.eraseIdx i).Perm l
 | x::l,0,_=>List.Perm.refl _
 | x::l,i+1,h=>(List.Perm.swap x _ _).trans ((u5r l i (by simpa using h)).cons x)
theorem u6x {α:Type} (f:Nat->Nat):∀(n k:Nat) (l:List α) (out:Array α),l.length=n->(pickOrder.go f n k l out).toList.Perm (out.toList++l)
 | 0,k,l,out,h=>by
  have:l=[]:=List.eq_nil_of_length_eq_zero h
  subst this;simp[pickOrder.go]
 | n+1,k,l,out,h=>by
  have lt:f k%l.length<l.length:=Nat.mod_lt _ (by omega)
  unfold pickOrder.go;rw[w6 lt];refine(u6x f n (k+1) _ _ (by rw[List.length_eraseIdx,if_pos lt];omega)).trans ?_
  rw[Array.toList_push,List.append_assoc];exact List.Perm.append_left _ (u5r l _ lt)
def u4L {α:Type} (f:Nat->Nat) (xs:Array α):(pickOrder f xs).toList.Perm xs.toList:=by
 have:=u6x f xs.size 0 xs.toList #[] (by simp)
 simpa[pickOrder] using this
section
variable {P:Program}{w:World}{A:Around}{E:VP}{s:Shared}
def u9X {src:Source}{n:Nat}{Q:Nat->Shared->Prop} (hn:n≠0) (h:∀i d,i<n->Q i { s with drawn:=d }):wpAny (model P w) A (choose src n) Q E s :=
 λ_ _ _=>⟨hn,h _ _ (Nat.mod_lt _ (Nat.pos_of_ne_zero hn))⟩
theorem u3t {α:Type}:∀(n:Nat) (xs:List α) (s:Shared) (Q:List α->Shared->Prop),xs.length=n->(∀ys d,ys.Perm xs->Q ys { s with drawn:=d })->wpAny (model P w) A (drawOrder n xs) Q E s
 | 0,xs,s,Q,e,h=>by
  have:xs=[]:=List.eq_nil_of_length_eq_zero e
  subst this;exact wpAny_pure (h [] s.drawn (List.Perm.refl _))
 | n+1,[],s,Q,e,h=>by cases e
 | n+1,x::xs,s,Q,e,h=>by
  show wpAny _ _ (choose .order (x::xs).length >>= _) _ _ s;refine wpAny_bind (u9X (by simp) λi d hi=>?_)
  rw[w6 hi];refine wpAny_bind (u3t n _ _ _ (by rw[List.length_eraseIdx,if_pos hi];omega) λys d' p=>?_)
  exact wpAny_pure (h _ d' ((p.cons _).trans (u5r _ _ hi)))
variable {a I:Addr}{ep:Nat}{es:Array (Int×Value)}{t:SetTable}
def u9Z (hh:A.handled=none) (ne:a≠I) (ht:w.params.followText "set-order"=true):Walks P w A I [I,a] [I] (pickOrder (w.params.setOrder a ep) es).toList.length
  (λi v=>(((pickOrder (w.params.setOrder a ep) es).toList.map (·.2)))[i]?=some v) (λi h=>SIt h I (.int 0 0) i a es.size ep/\SAt h a es ep t) where
 sub:=λb hb=>by simp at hb;simp[hb]
 frame:=λi h h' st k=>⟨st.1.at λo=>k I (by simp) o,st.2.at λo=>k a (by simp) o⟩
 item:=λi s Q E hi st hQ=>by
  obtain⟨os,hos,hds,hf⟩:=id st.2;refine v0m (slot:=0) (nx:=0) (x:=(pickOrder (w.params.setOrder a ep) es).toList[i].2) st.1 st.2 (λB R E' r=>?_) λh' X' k=>?_
  ·unfold setNext
   refine wpAny_bind (wpAny_setState_of hos hds hf ?_);unfold setsByText;refine wpAny_bind (wpAny_bind (wpAny_askSetting (wpAny_pure ?_)));dsimp only;simp only[show((model P w).w.params.followText "set-order")=true from ht,if_true,bne_self_eq_false,v7,if_false]
   refine wpAny_bind ?_;unfold setWalk setsByText;refine wpAny_bind (wpAny_setState_of hos hds hf ?_);refine wpAny_bind (wpAny_bind (wpAny_askSetting (wpAny_pure ?_)));simp only[show((model P w).w.params.followText "set-order")=true from ht,if_true]
   refine wpAny_bind (wpAny_askSetting (wpAny_pure (wpAny_pure ?_)));have q:(pickOrder ((model P w).w.params.setOrder a ep) es)[i]?=some ((pickOrder (w.params.setOrder a ep) es).toList[i]):=by
    rw[<- t7];exact w6 hi
   rw[q];exact r
  ·exact hQ _ h' s.toks (by rw[y4,w6 hi];rfl) ⟨X',st.2.at λo e=>k a o ne e⟩ λb o hb e=>k b o (λq=>hb (by simp[q])) e
 done:=λs Q E st hQ=>by
  obtain⟨os,hos,hds,hf⟩:=id st.2;refine v0n (slot:=0) hh st.1 st.2 (λB R E' r=>?_) λh' k=>hQ h' s.toks λb o hb e=>k b o (λq=>hb (by simp[q])) e
  unfold setNext;refine wpAny_bind (wpAny_setState_of hos hds hf ?_);unfold setsByText;refine wpAny_bind (wpAny_bind (wpAny_askSetting (wpAny_pure ?_)));dsimp only;simp only[show((model P w).w.params.followText "set-order")=true from ht,if_true,bne_self_eq_false,v7,if_false]
  refine wpAny_bind ?_;unfold setWalk setsByText;refine wpAny_bind (wpAny_setState_of hos hds hf ?_);refine wpAny_bind (wpAny_bind (wpAny_askSetting (wpAny_pure ?_)));simp only[show((model P w).w.params.followText "set-order")=true from ht,if_true]
  refine wpAny_bind (wpAny_askSetting (wpAny_pure (wpAny_pure ?_)));have q:(pickOrder ((model P w).w.params.setOrder a ep) es)[(pickOrder (w.params.setOrder a ep) es).toList.length]?=none:=by
   rw[Array.getElem?_eq_none (by rw[t0];exact z7 _)]
  rw[q];exact r
 self:=λ_ _ _ _ st h=>u7i st.1 h
def u5D {α:Type}{xs:Array α} (h:xs.size=1):∃x,xs=#[x]:=by
 obtain⟨l⟩:=xs
 match l,h with
 | [x],_=>exact⟨x,rfl⟩
def u7a (p j:Nat):SetTable.below #[p] j=if p<j then 1 else 0:=by
 unfold SetTable.below;simp[SetTable.below.go]
def u8h (hds:SAt s.heap a es ep t) (h1:es.size<=1) (ht:w.params.followText "set-order"=false) (hl:t.led=true) {slot i:Nat}{R:Option (Value×Nat)->Shared->Prop}
  (r:R (match es[SetTable.below t.place slot]?,t.place[SetTable.below t.place slot]? with|some (_,x),some j=>some (x,j+1)|_,_=>none) s):wpAny (model P w) A (setNext a slot i ep) R E s:=by
 obtain⟨os,hos,hd,hf⟩:=hds;unfold setNext;refine wpAny_bind (wpAny_setState_of hos hd hf ?_);unfold setsByText;refine wpAny_bind (wpAny_bind (wpAny_askSetting (wpAny_pure ?_)));dsimp only;simp only[show((model P w).w.params.followText "set-order")=false from ht,v7,if_false]
 have z:(!t.plain&&decide (es.size > 1))=false:=by rw[decide_eq_false (by omega),Bool.and_false]
 show wpAny _ _ (if (!t.plain&&decide (es.size > 1))=true then _ else _) _ _ s
 rw[z];simp only[v7,if_false];have z2:(!t.led&&!es.isEmpty)=false:=by rw[hl];rfl
 show wpAny _ _ ((if (!t.led&&!es.isEmpty)=true then _ else _) >>= _) _ _ s
 rw[z2];exact wpAny_bind (wpAny_pure (wpAny_pure r))
def v2c (hh:A.handled=none) (ne:a≠I) (ht:w.params.followText "set-order"=false) (h1:es.size<=1) (hl:t.led=true) (hf:t.fits es.size=true):Walks P w A I [I,a] [I] es.toList.length (λi v=>(es.toList.map (·.2))[i]?=some v)
  (λi h=>SIt h I (.int ((if i=0 then 0 else t.place.getD 0 0+1:Nat):Nat) 0) i a es.size ep/\SAt h a es ep t) where
 sub:=λb hb=>by simp at hb;simp[hb]
 frame:=λi h h' st k=>⟨st.1.at λo=>k I (by simp) o,st.2.at λo=>k a (by simp) o⟩
 item:=λi s Q E hi st hQ=>by
  have hz:es.size=1:=by have:es.toList.length=es.size:=t0;omega
  have i0:i=0:=by have:es.toList.length=es.size:=t0;omega
  subst i0;obtain⟨p,hp⟩:∃p,t.place=#[p]:=by
   have:t.place.size=1:=by have:=(u6.mp hf).1;rw[hz] at this;simpa using this
   exact u5D this
  obtain⟨e,he⟩:∃e,es=#[e]:=u5D hz;subst he;refine v0m (slot:=0) (nx:=p+1) (x:=e.2) st.1 st.2 (λB R E' r=>u8h st.2 h1 ht hl ?_) λh' X' k=>?_
  ·rw[hp,u7a];simpa using r
  ·refine hQ _ h' s.toks (by simp) ⟨?_,st.2.at fun o e=>k a o ne e⟩ fun b o hb e=>k b o (fun q=>hb (by simp [q])) e
   rw[hp];simpa using X'
 done:=λs Q E st hQ=>by
  refine v0n hh st.1 st.2 (λB R E' r=>u8h st.2 h1 ht hl ?_) λh' k=>hQ h' s.toks λb o hb e=>k b o (λq=>hb (by simp[q])) e
  by_cases hz:es.size=0
  ·have:es=#[]:=Array.eq_empty_of_size_eq_zero hz
   subst this;simpa using r
  ·have hz:es.size=1:=by omega
   obtain⟨p,hp⟩:∃p,t.place=#[p]:=by
    have:t.place.size=1:=by have:=(u6.mp hf).1;rw[hz] at this;simpa using this
    exact u5D this
   obtain⟨e,he⟩:∃e,es=#[e]:=u5D hz;subst he;rw[hp];simpa[u7a] using r
 self:=λ_ _ _ _ st h=>u7i st.1 h
def u8S {tp:Addr}{ys:List Nat} (hh:A.handled=none) (ne:a≠I) (nt:tp≠I) (hy:∀j∈ys,j<es.size):Walks P w A I [I,a,tp] [I] ys.length (λi v=>(ys.map λj=>(es.getD j default).2)[i]?=some v)
  (λi h=>SIt h I (.ref tp) i a es.size ep/\SAt h a es ep t/\∃o m,h.get? tp=some o/\o.data=.seq (ys.map λ(j:Nat)=>rawInt j).toArray m) where
 sub:=λb hb=>by simp at hb;simp[hb]
 frame:=λi h h' st k=>⟨st.1.at λo=>k I (by simp) o,st.2.1.at λo=>k a (by simp) o,by obtain⟨o,m,x,y⟩:=st.2.2;exact⟨o,m,k tp (by simp) o x,y⟩⟩
 item:=λi s Q E hi st hQ=>by
  obtain⟨o,m,ho,hd⟩:=st.2.2;have lt:=hy ys[i] (z0A hi);refine v2j (place:=ys[i]) (tk:=0) (e:=es[ys[i]]) st.1 st.2.1 ho hd (by simp[hi,rawInt]) (z1D lt) λh' X' k=>?_
  refine hQ _ h' s.toks ?_ ⟨X',st.2.1.at λo e=>k a o ne e,o,m,k tp o nt ho,hd⟩ λb o hb e=>k b o (λq=>hb (by simp[q])) e
  rw[y4,w6 hi];simp[Array.getD,lt]
 done:=λs Q E st hQ=>by
  obtain⟨o,m,ho,hd⟩:=st.2.2;exact v2k hh st.1 st.2.1 ho hd (by simp) λh' k=>hQ h' s.toks λb o hb e=>k b o (λq=>hb (by simp[q])) e
 self:=λ_ _ _ _ st h=>u7i st.1 h
end
def Fwd (s s':Shared):Prop:=(∀b o,s.heap.get? b=some o->s'.heap.get? b=some o)/\s'.os=s.os/\s'.gens=s.gens
section
variable {P:Program}{w:World}{A:Around}{E:VP}{s:Shared}
def u7f {es l:List (Int×Value)}{ss:List Str} (el:ElemsOf (PySem.strKind P w) es) (p:(es.map λe=>strOf e.2).Perm ss) (q:l.Perm es):∃ss',StrsAre (l.map (·.2)) ss'/\ss'.Perm ss :=
 ⟨_,strsAre_map _ λv hv=>by
  obtain⟨e,he,rfl⟩:=x5.mp hv;exact u8C el (q.mem_iff.mp he),by
  rw[u5];exact(q.map _).trans p⟩
def u9n {es:Array (Int×Value)}{ys:List Nat} (p:ys.Perm (List.range es.size)):(ys.map λj=>es.getD j default).Perm es.toList:=by
 refine(p.map _).trans (List.Perm.of_eq ?_);apply List.ext_getElem
 ·simp
 ·intro i h1 h2
  simp at h1;simp[Array.getD,h1]
def v2m {a:Addr}{ss:List Str}{Q:VP} (S:SetT P w s.heap a ss) (hh:A.handled=none)
  (h:∀s₁ I fp vs St,Fwd s s₁->(∀b∈fp,b=a\/s.heap.objs.size<=b)->s.heap.objs.size<=I->Walks P w A I fp [I] vs.length (λi v=>vs[i]?=some v) St->St 0 s₁.heap->(∃ss',StrsAre vs ss'/\ss'.Perm ss)->Q (.ref I) s₁) :
  wpAny (model P w) A (pyIter (.ref a)) Q E s:=by
 obtain⟨o,es,ep,t,ho,hex,hd,el,p,nd,hb,hf,hl,hp⟩:=id S;have hT:s.TypeIs (.ref a) "set":=⟨o,ho,hex.1⟩;have la:a<s.heap.objs.size:=z8 ho;refine wpAny_pyIter_slot hT F.slot_set_iter (wpAny_call_entry F.slot_set_iter hT u6O ?_ (F.args_set_iter_1 _));unfold Builtin.«frozenset.__iter__»;refine wpAny_bind (m:=Builtin.Frozenset.slot0 "__iter__" _) (wpAny_pure ?_);refine wpAny_bind ?_;unfold Builtin.Frozenset.sizeOf;refine wpAny_bind (wpAny_setEntries_of ho hd hf (wpAny_pure ?_));refine wpAny_bind ?_;unfold setDrawn setsByText;refine wpAny_bind (wpAny_setState_of ho hd hf (wpAny_bind (wpAny_bind (wpAny_askSetting (wpAny_pure (wpAny_pure ?_))))));dsimp only;by_cases ht:w.params.followText "set-order"=true
 ·simp only [show ((model P w).w.params.followText "set-order")=true from ht,Bool.not_true,Bool.false_and,v7,if_false]
  refine wpAny_bind (wpAny_pure (wpAny_bind ?_));unfold setEpoch;refine wpAny_bind (wpAny_setState_of ho hd hf (wpAny_pure (wpAny_bind (wpAny_newObj_type (wpAny_pure ⟨_,rfl,"set_iterator",_,⟨_,z6 _ rfl,rfl⟩,u0p.lookup,?_⟩)))));refine h _ s.heap.objs.size _ _ _ ⟨λb o e=>z0 _ e,rfl,rfl⟩ ?_ (z7 _) ((x6 (f:=λe:Int×Value=>e.2) (as:=(pickOrder (w.params.setOrder a ep) es).toList)).symm ▸ u9Z (t:=t) hh (x0 la) ht)
   ⟨⟨_,z6 _ rfl,rfl,rfl⟩,⟨o,z0 _ ho,hd,hf⟩⟩ (u7f el p (u4L _ _))
  intro b hb;simp at hb;rcases hb with rfl|rfl
  ·exact .inr (z7 _)
  ·exact .inl rfl
 ·have ht:w.params.followText "set-order"=false:=by simpa using ht
  have hl:t.led=true:=by rw[hl,ht];rfl
  by_cases h1:es.size<=1
  ·have z:(!false&&(!t.plain&&decide (es.size > 1)))=false:=by rw [decide_eq_false (by omega),Bool.and_false];rfl
   simp only[show((model P w).w.params.followText "set-order")=false from ht]
   show wpAny _ _ (if (!false&&(!t.plain&&decide (es.size > 1)))=true then _ else _) _ _ _
   rw[z];simp only[v7,if_false];refine wpAny_bind (wpAny_pure (wpAny_bind ?_));unfold setEpoch;refine wpAny_bind (wpAny_setState_of ho hd hf (wpAny_pure (wpAny_bind (wpAny_newObj_type (wpAny_pure ⟨_,rfl,"set_iterator",_,⟨_,z6 _ rfl,rfl⟩,u0p.lookup,?_⟩)))));refine h _ s.heap.objs.size _ _ _ ⟨λb o e=>z0 _ e,rfl,rfl⟩ ?_ (z7 _) ((x6 (f:=λe:Int×Value=>e.2) (as:=es.toList)).symm ▸ v2c (t:=t) (ep:=ep) hh (x0 la) ht h1 hl hf)
    ⟨⟨_,z6 _ rfl,rfl,rfl⟩,⟨o,z0 _ ho,hd,hf⟩⟩ (u7f el p (List.Perm.refl _))
   intro b hb;simp at hb;rcases hb with rfl|rfl
   ·exact .inr (z7 _)
   ·exact .inl rfl
  ·have z:(!false&&(!t.plain&&decide (es.size > 1)))=true:=by rw [hp (by omega),decide_eq_true (by omega)];rfl
   simp only[show((model P w).w.params.followText "set-order")=false from ht]
   show wpAny _ _ (if (!false&&(!t.plain&&decide (es.size > 1)))=true then _ else _) _ _ _
   rw[z];simp only[if_true];refine wpAny_bind (u3t _ _ _ _ (by simp) λys d py=>?_)
   have hy:ys.length=es.size:=by rw[py.length_eq];simp
   have hs:es.size<=sizeLine:=fits_of_scanBound hb;unfold newTuple;refine wpAny_bind (wpAny_newObj_type (wpAny_bind ?_) (show(ys.map λ(j:Nat)=>rawInt j).toArray.size<=sizeLine by simpa[hy] using hs))
   unfold setEpoch;refine wpAny_bind (wpAny_setState_of (o:=o) (z0 _ ho) hd hf (wpAny_pure (wpAny_bind (wpAny_newObj_type (wpAny_pure ⟨_,rfl,"set_iterator",_,⟨_,z6 _ rfl,rfl⟩,u0p.lookup,?_⟩)))));have zz:(s.heap.push { cls:=.type "tuple",data:=.seq (ys.map λ(j:Nat)=>rawInt j).toArray }).objs.size=s.heap.objs.size+1:=Heap.size_push ..
   have em:(ys.map λj=>(es.getD j default).2)=(ys.map λj=>es.getD j default).map (·.2):=by rw[u5];rfl
   refine h _ _ _ (ys.map λj=>(es.getD j default).2) _ ⟨λb o e=>z0 _ (z0 _ e),rfl,rfl⟩ ?_ (by rw[zz];exact Nat.le_succ _)
    ((x6 (f:=λj=>(es.getD j default).2) (as:=ys)).symm ▸ u8S (t:=t) (ep:=ep) (tp:=s.heap.objs.size) hh (by rw[zz];exact x0 (Nat.lt_succ_of_lt la)) (by rw[zz];exact x0 (Nat.lt_succ_self _)) λj hj=>by simpa using py.mem_iff.mp hj)
    ⟨⟨_,z6 _ rfl,rfl,rfl⟩,⟨o,z0 _ (z0 _ ho),hd,hf⟩,_,_,z0 _ (z6 _ rfl),rfl⟩ (em ▸ u7f el p (u9n py))
   intro b hb;simp[zz] at hb;rcases hb with rfl|rfl|rfl
   ·exact .inr (Nat.le_succ _)
   ·exact .inl rfl
   ·exact .inr (z7 _)
end
end L2
namespace L2
open PySem PySem.Spec PyProof.Rows PySem.W PySem.Calls
section
variable {P:Program}{w:World}{A:Around}{E:VP}{s:Shared}
def v2o {r:Addr}{Q:Bool->Shared->Prop} (hT:s.TypeIs (.ref r) "set") (h:Q false s):wpAny (model P w) A (Builtin.List.listLengthHint (.ref r)) Q E s:=by
 unfold Builtin.List.listLengthHint;refine wpAny_bind (wpAny_specialOf hT PySem.F.slot_set_len.lookup ?_);generalize hid:("set.__len__":String)=id0
 wp_delta
 rw[show splitId id0=some ("set","__len__") from by subst hid;decide +kernel]
 subst hid;refine wpAny_bind (wpAny_isInstance (T:="set") (b:=true) hT (by rw[isSubtype_type];kernel_rfl) ?_)
 refine wpAny_ite_split (λq=>absurd q (by decide)) (λ_=>wpAny_ite_split (λ_=>?_) (λq=>absurd (by decide +kernel) q))
 exact wpAny_bind (wpAny_typeOf hT (wpAny_pure h))
def u9b {a S:Addr}{ss:List Str}{res:Value}{c₀:Nat}{R:Result->Shared->Prop} (T:SetT P w s.heap a ss) (hh:A.handled=none) (ne:S≠a) (hS:s.heap.get? S=some { cls:=.type "list",data:=.seq #[] c₀ }) (hz:ss.length<=sizeLine)
  (hR:∀s' acc c',(∀b o,b≠S->s.heap.get? b=some o->s'.heap.get? b=some o)->s'.os=s.os->s'.gens=s.gens->s'.heap.get? S=some { cls:=.type "list",dict:=none,data:=.seq acc c',slots:=#[] }->(∃ss',StrsAre acc.toList ss'/\ss'.Perm ss)->R (.ok (.ret res)) s') :
  wpAny (model P w) A.in1 (Builtin.List.listExtendWith (.ref S) (.ref a) res)
   (λfin s'=>match fin with | .done f=>R (.ok f) s' | .again c'=>c'.quiet=true/\codeAny (model P w) A c' R s') (λe s'=>R (.error e) s') s:=by
 obtain⟨o,es,ep,t,ho,hex,_⟩:=id T;have hT:s.TypeIs (.ref a) "set":=⟨o,ho,hex.1⟩;unfold Builtin.List.listExtendWith;refine wpAny_bind (wpAny_typeOf (T:="set") hT ?_);have k1:Builtin.List.listSameRef (.ref S) (.ref a)=false:=by simp[Builtin.List.listSameRef,ne]
 simp only[k1,show(Value.type "set"==Value.type "list")=false by decide,show(Value.type "set"==Value.type "tuple")=false by decide,Bool.or_false,v7,if_false]
 refine wpAny_bind (v2m T hh λs₁ I fp vs St fw hfp hI W st sv=>?_)
 have hS₁:=fw.1 _ _ hS;have lS:S<s.heap.objs.size:=z8 hS;have nf:S∉fp:=λm=>by
  rcases hfp S m with e|e
  ·exact ne e
  ·exact t8 _ (y3 lS e)
 obtain⟨ss',hv,hp⟩:=sv;have hn:vs.length<=sizeLine:=by
  have e1:(vs.map strOf).length=ss'.length:=by rw[hv.strs]
  have e2:=hp.length_eq;simp at e1;omega
 have key:∀(h:Heap) (c₁:Nat),St 0 h->(∀b o,b≠S->s.heap.get? b=some o->h.get? b=some o)->h.get? S=some { cls:=.type "list",data:=.seq #[] c₁ } ->
   codeAny (model P w) A (.builtin "list.extend.loop" ⟨[.ref S,.ref I,res],[]⟩) R { s₁ with heap:=h }:=λh c₁ st hk hS=>by
  refine codeAny_extend_loopS W.toS hn S nf res vs.length 0 _ #[] c₁ rfl (q9 _) st hS (ItemsOf.nil _) λs' acc c' hm hS' hacc=>?_
  refine hR s' acc c' (λb o hb e=>hm.heap b o (λm=>?_) (hk b o hb e)) (hm.os.trans fw.2.1) (hm.gens.trans fw.2.2) hS' ⟨ss',?_,hp⟩
  ·rcases y0.mp m with e' | m
   ·exact hb e'
   ·rw [w9] at m
    subst m;exact t8 _ (y3 (z8 e) hI)
  ·have:acc.toList=vs:=List.ext_getElem? λj=>by
    by_cases lt:j<acc.toList.length
    ·rw [w6 lt]
     have:=hacc.2 j acc.toList[j] (by rw[<- t7];exact w6 lt)
     exact this.symm
    ·rw[List.getElem?_eq_none (by omega),List.getElem?_eq_none (by have:=hacc.1;simp at lt;omega)]
   rw[this];exact hv
 refine wpAny_bind (wpAny_holding (v2o ⟨o,fw.1 _ _ ho,hex.1⟩ ?_));refine wpAny_ite_split (λ_=>?_) (λ_=>wpAny_pure ⟨plainId_quiet PySem.F.plain_extend_loop _,key _ c₀ st (λb o _ e=>fw.1 b o e) hS₁⟩)
 refine wpAny_bind (wpAny_rule (wpAny_bind (m:=updateSeq S (·.push .none) >>= λ_=>updateSeq S (·.pop)) ?_))
 refine wpAny_bind (wpAny_updateSeq hS₁ rfl ?_);have hS₂:=r9 (Obj.mapSeq (·.push Value.none)) hS₁ rfl
 refine wpAny_updateSeq (hz:=by seq_fits) hS₂ rfl ?_
 have hS₃:=r9 (Obj.mapSeq (·.pop)) hS₂ rfl
 have oth:∀b o,b≠S->s₁.heap.get? b=some o->((s₁.heap.update S (Obj.mapSeq (·.push Value.none))).update S (Obj.mapSeq (·.pop))).get? b=some o:=λb o hb e=>(u9 _ _ (Ne.symm hb)).trans ((u9 _ _ (Ne.symm hb)).trans e)
 exact wpAny_pure ⟨plainId_quiet PySem.F.plain_extend_loop _,key _ _ (W.frame 0 _ _ st λb hb o e=>oth b o (λq=>nf (q ▸ hb)) e) (λb o hb e=>oth b o hb (fw.1 b o e)) hS₃⟩
def u7l {a:Addr}{ss:List Str}{R:List Value->Shared->Prop} (T:SetT P w s.heap a ss) (hh:A.handled=none) (hz:ss.length<=sizeLine) (h:∀s' vs ss',Fwd s s'->StrsAre vs ss'->ss'.Perm ss->R vs s'):wpAny (model P w) A (collect (.ref a)) R E s:=by
 obtain⟨o,es,ep,t,ho,_⟩:=id T;have la:a<s.heap.objs.size:=z8 ho;unfold collect;refine wpAny_bind (wpAny_runValue (codeAny_builtin entry_proto_collect' ?_));rw[Around.under_plainId PySem.F.plain_proto_collect _];refine wpAny_bind (m:=newList []) (wpAny_newObj_type (wpAny_pure ⟨plainId_quiet PySem.F.plain_list_iadd _,codeAny_builtin entry_list_iadd' ?_⟩));rw[Around.under_plainId PySem.F.plain_list_iadd _];have hS₁:(s.heap.push { cls:=.type "list",data:=.seq ([]:List Value).toArray }).get? s.heap.objs.size=some { cls:=.type "list",data:=.seq #[] }:=z6 _ rfl;have key:=u9b (A:=A) (s:={ s with heap:=s.heap.push { cls:=.type "list",data:=.seq ([]:List Value).toArray } }) (res:=.ref s.heap.objs.size)
  (R:=λ(q:Result) (s':Shared)=>∃acc c' ss',q=.ok (.ret (.ref s.heap.objs.size))/\Fwd s s'/\s'.heap.get? s.heap.objs.size=some { cls:=.type "list",dict:=none,data:=.seq acc c',slots:=#[] }/\StrsAre acc.toList ss'/\ss'.Perm ss)
  (T.keep λo e=>z0 _ e) hh (Nat.ne_of_gt la) hS₁ hz
  (λs' acc c' hk h1 h2 hS' hv=>⟨acc,c',hv.choose,rfl,⟨λb o e=>hk b o (x0 (z8 e)) (z0 _ e),h1,h2⟩,hS',hv.choose_spec.1,hv.choose_spec.2⟩)
 refine wpAny_mono key (λfin s' x=>?_) λe s' x=>?_
 ·cases fin with
  | done f =>
   obtain⟨acc,c',ss',e,fw,hS',hv,hp⟩:=x;cases e;exact wpAny_bind (m:=load s.heap.objs.size) (wpAny_load hS' (wpAny_pure (h s' _ ss' fw hv hp)))
  | again c₁ =>
   refine⟨x.1,codeAny_mono x.2 λq s₂ y=>?_⟩
   obtain⟨acc,c',ss',rfl,fw,hS',hv,hp⟩:=y;exact wpAny_bind (m:=load s.heap.objs.size) (wpAny_load hS' (wpAny_pure (h s₂ _ ss' fw hv hp)))
 ·obtain ⟨_,_,_,e',_⟩:=x
  cases e'
end
end L2
namespace L2
open PySem PySem.Spec PyProof.Rows PySem.W PySem.Calls
def leS (a b:Str):Prop:=ltCps b.cps.toList a.cps.toList=false
def u2A {a b:Str}:leS a b↔a.cps.toList<=b.cps.toList:=by
 unfold leS;rw[ltCps_eq,decide_eq_false_iff_not];exact List.not_lt
def u6E {a b c:Str} (h:leS a b) (k:leS b c):leS a c:=u2A.mpr (List.le_trans (u2A.mp h) (u2A.mp k))
def v2X {a b:Str} (h:leS a b) (k:leS b a):a=b:=by
 have e:=List.le_antisymm (u2A.mp h) (u2A.mp k);obtain⟨⟨l⟩⟩:=a;obtain⟨⟨m⟩⟩:=b;simp only at e;rw[e]
def v0P (a b:Str):leS a b\/leS b a:=by
 rw[u2A,u2A];exact List.le_total _ _
theorem u4S:∀(l:List Str) (p:Str),risingS p l=true->(∀x∈l,leS p x)/\l.Pairwise leS
 | [],_,_=>⟨λx h=>(z0D h).elim,.nil⟩
 | y::l,p,h=>by
  unfold risingS at h;rw[u0,Bool.not_eq_true'] at h;obtain⟨h1,h2⟩:=u4S l y h.2;exact⟨λx hx=>by
   rcases y0.mp hx with rfl|hx
   ·exact h.1
   ·exact u6E h.1 (h1 x hx),.cons h1 h2⟩
def v0i {l:List Str} (h:sortedS l=true):l.Pairwise leS:=by
 cases l with
 | nil=>exact .nil
 | cons x l=>obtain⟨h1,h2⟩:=u4S l x h;exact .cons h1 h2
theorem u2m:∀{l m:List Str},l.Perm m->l.Pairwise leS->m.Pairwise leS->l=m
 | [],m,p,_,_=>(List.Perm.nil_eq p)
 | x::l,m,p,hl,hm=>by
  cases m with
  | nil=>exact absurd p.length_eq (by simp)
  | cons y m =>
   have e:x=y:=by
    have hx:x∈y::m:=p.mem_iff.mp z5;have hy:y∈x::l:=p.mem_iff.mpr z5;rcases y0.mp hx with e|hx
    ·exact e
    ·rcases y0.mp hy with e | hy
     ·exact e.symm
     ·exact v2X ((List.pairwise_cons.mp hl).1 y hy) ((List.pairwise_cons.mp hm).1 x hx)
   subst e;rw[u2m p.cons_inv (List.pairwise_cons.mp hl).2 (List.pairwise_cons.mp hm).2]
noncomputable def insT (x:Str):List Str->List Str
 | []=>[x]
 | y::l=>if ltCps y.cps.toList x.cps.toList=true then y::insT x l else x::y::l
noncomputable def sortT:List Str->List Str
 | []=>[]
 | x::l=>insT x (sortT l)
theorem u4n (x:Str):∀l:List Str,(insT x l).Perm (x::l)
 | []=>List.Perm.refl _
 | y::l=>by
  unfold insT;split
  ·exact((u4n x l).cons y).trans (List.Perm.swap x y l)
  ·exact List.Perm.refl _
theorem u0R:∀l:List Str,(sortT l).Perm l
 | []=>List.Perm.refl _
 | x::l=>(u4n x _).trans ((u0R l).cons x)
set_option tactic.hygienic true in
theorem v1c (x:Str):∀{l:List Str},l.Pairwise leS->(insT x l).Pairwise leS
 | [],_=>List.pairwise_singleton ..
 | y::l,h=>by
  unfold insT;obtain⟨h1,h2⟩:=List.pairwise_cons.mp h;split
  ·rename_i q
   refine .cons (λz hz=>?_) (v1c x h2)
   rcases y0.mp ((u4n x l).mem_iff.mp hz) with rfl|hz
   ·rcases v0P y z with t | t
    ·exact t
    ·unfold leS at t;rw[q] at t;cases t
   ·exact h1 z hz
  ·rename_i q
   have q':leS x y:=by unfold leS;simpa using q
   exact .cons (λz hz=>by
    rcases y0.mp hz with rfl|hz
    ·exact q'
    ·exact u6E q' (h1 z hz)) h
theorem u3I:∀l:List Str,(sortT l).Pairwise leS
 | []=>.nil
 | x::l=>v1c x (u3I l)
def v2i {l ss:List Str} (p:l.Perm ss) (h:sortedS l=true):l=sortT ss:=u2m (p.trans (u0R ss).symm) (v0i h) (u3I ss)
def u1q {ss:List Str}{x:Str}:x∈sortT ss↔x∈ss:=(u0R ss).mem_iff
def u1r (ss:List Str):(sortT ss).length=ss.length:=(u0R ss).length_eq
section
variable {P:Program}{w:World}{A:Around}{E:VP}{s:Shared}
def u3O {a:Addr}{ss:List Str}{Q:VP} (h64:ss.length<64)
  (hc:∀(B:Around) (E':VP) (R:List Value->Shared->Prop),B.handled=A.handled->(∀s' vs ss',Fwd s s'->StrsAre vs ss'->ss'.Perm ss->R vs s')->wpAny (model P w) B (collect (.ref a)) R E' s)
  (h:∀s' s'' D out n,Fwd s s'->Fwd s' s''->s'.heap.objs.size<=D->s''.heap.get? D=some (seqObj "list" out n)->StrsAre out.toList (sortT ss)->Q (.ref D) s''):wpAny (model P w) A (call (.builtin "sorted") [.ref a]) Q E s:=by
 refine Calls.call_function_entry kind_sorted plain_sorted entry_sorted (args_sorted1 _) ?_;unfold Builtin.«sorted»;refine wpAny_bind (m:=checkCount "sorted" 1 1 _) (wpAny_pure (wpAny_bind (hc _ _ _ rfl λs' vs ss' fw hv hp=>?_)))
 have hn:vs.length=ss.length:=by
  have:(vs.map strOf).length=ss'.length:=by rw[hv.strs]
  rw[<- hp.length_eq,<- this,x6]
 refine wpAny_bind (wpAny_newList ?_ (by rw[hn,sizeLine_eq];omega))
 have ho:(s'.heap.push (seqObj "list" vs.toArray 0)).get? s'.heap.objs.size=some (seqObj "list" vs.toArray 0):=z6 _ rfl;have z:(s'.heap.push (seqObj "list" vs.toArray 0)).objs.size=s'.heap.objs.size+1:=Heap.size_push ..;refine wpAny_bind (wpAny_holding (wpAny_call_entry slot_list_sort ⟨_,ho,rfl⟩ entry_list_sort (list_sort_treeK strKind_oneLt ho hv.keysOf (λv₁ v₂ rest e=>keyKind_strs (by rw[<- e];exact hv)) (by omega) λst' a1 a2=>⟨_,rfl,?_⟩) (args_list_sort _)))
 refine wpAny_pure ⟨_,rfl,?_⟩;obtain⟨ss2,h1,h2,h3⟩:=sorted_out_str hv a1 a2;obtain⟨n,hD⟩:=sortedHeap_at (out:=(arrOf st').map (·.2)) ho
 refine h s' _ s'.heap.objs.size _ n fw ⟨λb o e=>?_,rfl,rfl⟩ (z7 _) hD ?_
 ·have lt:=z8 e
  have k:=sortedHeap_old (h:=s'.heap.push (seqObj "list" vs.toArray 0)) (a:=s'.heap.objs.size) (b:=b) (vs:=vs) (out:=(arrOf st').map (·.2)) (x0 lt) (by rw[z];exact Nat.lt_succ_of_lt lt)
  rw[z0 _ e] at k;exact k
 ·rw [<- v2i (h2.trans hp) h3]
  exact h1
end
end L2
namespace L2
open PySem PySem.Spec PyProof.Rows PySem.W PySem.Calls
noncomputable def STO (P:Program) (w:World) (a:Addr) (ss:List Str):HO:=.ext λh=>SetT P w h a ss
theorem u6a:∀{vs:List Value}{ss:List Str},StrsAre vs ss->Vals (ss.map V.str) vs
 | _,_,.nil=>.nil
 | _,_,.cons x t h=>.cons ⟨t,rfl⟩ (u6a h)
theorem u3M:∀{vs:List Value}{ss:List Str},Vals (ss.map V.str) vs->StrsAre vs ss
 | _,[],.nil=>.nil
 | _,_::_,.cons ⟨t,e⟩ h=>by subst e;exact .cons _ t (u3M h)
section
variable {X:Cx}{pins:LO}{σ:St}{H:Hp}{s:Shared}
def Inv.alike {s':Shared} (I:Inv X pins σ H s) (e1:s'.heap=s.heap) (e2:s'.os=s.os) (e3:s'.gens=s.gens):Inv X pins σ H s' :=
 ⟨I.ok,e2.trans I.os,e3 ▸ I.bare,e1 ▸ I.base,e1 ▸ I.loc,e1 ▸ I.cell,I.free,I.freeC,e1 ▸ I.pin,e1 ▸ I.hok,I.len⟩
def Inv.fwd {s':Shared} (I:Inv X pins σ H s) (f:Fwd s s'):Inv X pins σ H s':=(I.kept (h':=s'.heap) (t':=s'.toks) f.1).alike rfl f.2.1 f.2.2
def Inv.laidF {s':Shared}{a:Addr}{o:HO} (I:Inv X pins σ H s) (f:Fwd s s') (hp:s.heap.objs.size<=a) (new:ObjOk X.prog X.w (upd H a o) s'.heap a o):Inv X pins σ (upd H a o) s' :=
 (I.laid (h':=s'.heap) (t':=s'.toks) f.1 hp new).alike rfl f.2.1 f.2.2
def v1P (hc:X.calm=true):CallR X (.type "set") (λxs H Q=>∃l ss,xs=[.ref l]/\SqL X.K H l (ss.map V.str)/\ss.length+1<scanBound/\∀p,H p=none->Q (.ref p) (upd H p (STO X.prog X.w p (setOfT ss)))):=by
 intro pins s σ H xs us Q I r z9130;obtain⟨l,ss,e,hq,hb,q⟩:=z9130;subst e;obtain⟨u,rfl,ru⟩:=vals1 r;cases ru;obtain⟨its,rv,hl,hz⟩:=I.list hq;have hv:=u3M rv;have hn:its.length=ss.length:=by have:=rv.length;simpa using this.symm
 refine v2q (ss:=ss) (items:=its.toArray) (I.ok.hd hc) hl.isList (by simpa using hv) (by simpa[hn] using hb) λs₂ ⟨h',tk,e,S,k⟩=>?_
 subst e;have kk:∀b u,s.heap.get? b=some u->h'.get? b=some u:=λb u e=>k b u (z8 e) e
 obtain⟨o,es,ep,t,ho,rest⟩:=id S;exact⟨.ref s.heap.objs.size,_,I.laid (a:=s.heap.objs.size) (o:=STO X.prog X.w s.heap.objs.size (setOfT ss)) kk (z7 _) ⟨S,⟨o,ho⟩,λh1 h2 x y=>x.keep y⟩,rfl,q _ (I.hok.fresh (z7 _))⟩
def u4g {s' s'':Shared}{D:Addr}{out:Array Value}{n:Nat}{ss:List Str}{Q:VK} (I:Inv X pins σ H s) (f1:Fwd s s') (f2:Fwd s' s'') (hD:s'.heap.objs.size<=D) (g:s''.heap.get? D=some (seqObj "list" out n)) (hv:StrsAre out.toList ss) (hz:ss.length<=sizeLine)
  (q:∀p,H p=none->Q (.ref p) (upd H p (.lst (ss.map V.str)))):EP X pins σ Q (.ref D) s'' :=
 ⟨.ref D,_,(I.fwd f1).laidF (o:=.lst (ss.map V.str)) f2 hD ⟨by simpa using hz,out.toList,n,u6a hv,by simpa using g⟩,rfl,q D ((I.fwd f1).hok.fresh hD)⟩
def u6U (hc:X.calm=true):CallR X (.builtin "sorted") (λxs H Q=>∃a ss,xs=[.ref a]/\H a=some (STO X.prog X.w a ss)/\ss.length<64/\∀p,H p=none->Q (.ref p) (upd H p (.lst ((sortT ss).map V.str)))):=by
 intro pins s σ H xs us Q I r z9131;obtain⟨a,ss,e,ha,h64,q⟩:=z9131;subst e;obtain⟨u,rfl,ru⟩:=vals1 r;cases ru;have S:SetT X.prog X.w s.heap a ss:=(show ObjOk X.prog X.w H s.heap a (STO X.prog X.w a ss) from I.hok a _ ha).1
 have hz:ss.length<=sizeLine:=by rw[sizeLine_eq];omega
 refine u3O h64 (λB E' R hB k=>u7l S (hB.trans (I.ok.hd hc)) hz k) λs' s'' D out n f1 f2 hD g hv=>u4g I f1 f2 hD g hv (by rw[u1r];exact hz) q
def u9U (hc:X.calm=true):CallR X (.builtin "sorted") (λxs H Q=>∃a kvs ss,xs=[.ref a]/\H a=some (.dK kvs)/\kvs.map (·.1)=ss.map Sum.inr/\ss.length<64/\∀p,H p=none->Q (.ref p) (upd H p (.lst ((sortT ss).map V.str)))):=by
 intro pins s σ H xs us Q I r z9132;obtain⟨a,kvs,ss,e,ha,hk,h64,q⟩:=z9132;subst e;obtain⟨u,rfl,ru⟩:=vals1 r;cases ru;obtain⟨_,hS,vs,rk,m⟩:kvs.length<=sizeLine/\(a==sysModules)=false/\∃vs,KV kvs vs/\s.heap.DictOf (mixKind X.prog X.w) a vs:=I.hok a _ ha;obtain⟨ep,m⟩:=m.dictAt;have hz:ss.length<=sizeLine:=by rw[sizeLine_eq];omega
 have ek:vs.map (·.1)=ss.map Sum.inr:=rk.keys.symm.trans hk
 have hn:vs.length=ss.length:=by have:=congrArg List.length ek;simpa using this
 refine u3O h64 (λB E' R hB k=>kdu_collect (kdl_dict (kvs:=vs) hS) (hB.trans (I.ok.hd hc)) m (hn ▸ hz) λh' tk acc hkeep hacc=>k _ _ ss ⟨hkeep,rfl,rfl⟩ ?_ (List.Perm.refl _)) λs' s'' D out n f1 f2 hD g hv=>u4g I f1 f2 hD g hv (by rw[u1r];exact hz) q
 have hl:acc.toList.length=ss.length:=by rw[t0,hacc.1,hn]
 have key:∀(j:Nat) (v:Value),acc.toList[j]?=some v->∃x t,ss[j]?=some x/\v=.str x t:=λj v e=>by
  obtain⟨k,y,e1,e2⟩:=hacc.2 j v (by rw[<- t7];exact e)
  have e3:(vs.map (·.1))[j]?=some k:=by rw[y4,e1];rfl
  rw[ek,y4] at e3;cases e4:ss[j]? with
  | none=>rw[e4] at e3;cases e3
  | some x =>
   rw[e4] at e3;cases e3;rcases u0y ((u9I X.prog X.w _ _).symm.trans e2) with⟨_,_,e5,_⟩|⟨z,t,e5,e6⟩
   ·cases e5
   ·cases e5;exact⟨_,t,rfl,e6⟩
 have go:∀(vs:List Value) (ss:List Str),vs.length=ss.length->(∀(j:Nat) (v:Value),vs[j]?=some v->∃x t,ss[j]?=some x/\v=.str x t)->StrsAre vs ss:=by
  intro vs;induction vs with
  | nil=>intro ss e _;cases ss with|nil=>exact .nil|cons _ _=>cases e
  | cons v vs ih =>
   intro ss e h;cases ss with
   | nil=>cases e
   | cons x ss =>
    obtain⟨z,t,e1,e2⟩:=h 0 v rfl;cases e1;subst e2;exact .cons _ t (ih ss (by simpa using e) λj v q=>h (j+1) v (by simpa using q))
 exact go _ _ hl key
end
noncomputable def strsOf:List D->Option (List Str)
 | []=>some []
 | .str z::ds=>(strsOf ds).map (z::·)
 | _=>none
theorem u3N {K:W.Frag}{F:Hp}:∀{xs:List V}{ds:List D}{ss:List Str},Rps K F xs ds->strsOf ds=some ss->xs=ss.map V.str/\∀z∈ss,z.length<=sizeLine
 | _,_,_,.nil,e=>by cases e;exact⟨rfl,λ_ h=>(z0D h).elim⟩
 | _,d::ds,ss,.cons h hs,e=>by
  cases h with
  | str hz =>
   unfold strsOf at e;cases q:strsOf ds with
   | none=>rw[q] at e;cases e
   | some ts =>
    rw[q] at e;cases e;obtain⟨e1,e2⟩:=u3N hs q;rw[e1];exact⟨rfl,λz hz'=>by
     rcases y0.mp hz' with rfl|h
     ·exact hz
     ·exact e2 z h⟩
  | _=>cases e
theorem u3J {K:W.Frag}{F:Hp}:∀{ss:List Str},(∀z∈ss,z.length<=sizeLine)->Rps K F (ss.map V.str) (ss.map D.str)
 | [],_=>.nil
 | z::ss,h=>.cons (.str (h z z5)) (u3J λy hy=>h y (z4 _ hy))
noncomputable def gSS:D->Res D
 | .lst ds=>match strsOf ds with
  | some ss=>gd (ss.length<64) (.ok (.lst ((sortT (setOfT ss)).map D.str)))
  | none=>.bad
 | _=>.bad
noncomputable def keyStrs:List (D×D)->Option (List Str)
 | []=>some []
 | (.str z,_)::ps=>(keyStrs ps).map (z::·)
 | _=>none
noncomputable def gSD:List D->Res D
 | [.dct ps]=>match keyStrs ps with
  | some ss=>gd (ss.length<64/\∀z∈ss,z.length<=sizeLine) (.ok (.lst ((sortT ss).map D.str)))
  | none=>.bad
 | _=>.bad
theorem u5b {K:W.Frag}{F:Hp}:∀{kvs:List (Key×V)}{ps:List (D×D)}{ss:List Str},Rpk K F kvs ps->keyStrs ps=some ss->kvs.map (·.1)=ss.map Sum.inr
 | _,_,_,.nil,e=>by cases e;rfl
 | _,_,ss,.cons (k:=k) (ds:=ds) h hs,e=>by
  cases k with
  | inl i=>cases e
  | inr z =>
   unfold keyStrs kD at e;cases q:keyStrs ds with
   | none=>simp only[q] at e;cases e
   | some ts =>
    simp only[q] at e;cases e;rw[y9,u5b hs q];rfl
section
variable {X:Cx}{xq:XQ}{e:Expr}{fs:Rho->Res (List D)}{p p2 pos pos2:Pos}
noncomputable def one1 {α:Type} (g:D->Res α):List D->Res α
 | [d]=>g d
 | _=>.bad
set_option tactic.hygienic true in
def v4j (hc:X.calm=true) (hm:X.mg "sorted"=none) (hm2:X.mg "set"=none) (ha:DA X xq [e] fs) (hg:Gl X "sorted":=by rfl) (hg2:Gl X "set":=by rfl) :
  DE X xq (.Call (.Name "sorted" p) [.Call (.Name "set" p2) [e] [] pos2] [] pos) (λρ=>(fs ρ).bind λds=>noE (one1 gSS ds)) :=
 DE.of (pcB (u6U hc) hg hm (by decide +kernel) (pac (pcT (v1P hc) hg2 hm2 (by decide +kernel) ha.out (by decide) (by decide) ha.ns) u4T) (by decide) (by decide) rfl) λB F ρ σ H Q R q=>seqA R q λds vs F1 H1 s1 R1 p1 q1=>by
  unfold one1 at q1;split at q1
  ·rename_i d
   obtain⟨v,rfl,pv⟩:=rps1 p1;unfold gSS at q1;split at q1
   ·rename_i dl
    split at q1
    ·rename_i ss hs
     have q2:(gd (ss.length<64) (Res.ok (D.lst ((sortT (setOfT ss)).map D.str)))).all _ (λ_=>True):=u3e q1
     obtain⟨h64,q3⟩:=u3D q2;cases pv with
     | lst hq hr =>
      obtain⟨e1,e2⟩:=u3N hr hs;subst e1;have hl:(setOfT ss).length<=ss.length:=by have:=u4q ss [];simpa[setOfT] using this
      have em:∀z∈sortT (setOfT ss),z.length<=sizeLine:=λz hz=>e2 z (u1n.mp (u1q.mp hz))
      refine⟨_,ss,rfl,.inl (hq.same R1.fh),by unfold scanBound;omega,λa na=>?_⟩
      refine⟨a,setOfT ss,rfl,u0g,by omega,λb nb=>?_⟩
      have f1:=Stp.new (o:=STO X.prog X.w a (setOfT ss)) R1.fh na;have f2:=Stp.new (o:=.lst ((sortT (setOfT ss)).map V.str)) f1.fh nb;exact q3 _ _ _ ((s1.trans f1).trans f2) (.lst (.inl u0g) (u3J em))
    ·exact q1.elim
   ·exact q1.elim
  ·exact q1.elim
set_option tactic.hygienic true in
def v1R (hc:X.calm=true):CallR X (.builtin "sorted") (rDs X.K gSD):=by
 intro pins s σ H xs us Q I r z9133;obtain⟨F,ds,fh,ps,q⟩:=z9133;unfold gSD at q;split at q
 ·rename_i kd
  obtain⟨v,rfl,pv⟩:=rps1 ps;cases hk:keyStrs kd with
  | none=>simp only[hk] at q;exact q.elim
  | some ss =>
   simp only[hk] at q;obtain⟨⟨h64,hz⟩,q⟩:=u3D q;cases pv with
   | dK ha hr=>exact u9U hc pins s σ H _ us Q I r ⟨_,_,ss,rfl,fh _ _ ha,u5b hr hk,h64,λb nb=>q _ _ _ (Stp.new fh nb) (.lst (.inl u0g) (u3J λz h=>hz z (u1q.mp h)))⟩
 ·exact q.elim
end
mutual
noncomputable def selfD:D->Bool
 | .non | .bl _ | .int _ | .str _=>true
 | .lst ds | .tup ds=>selfDs ds
 | .dct ps=>ps.isEmpty
 | _=>false
noncomputable def selfDs:List D->Bool
 | []=>true
 | d::ds=>selfD d&&selfDs ds
end
def u3C:fillsNumberSlot (.type "tuple") "mul"=pure false:=PySem.fillsNumberSlot_seq (id:="tuple.__mul__") (r:=some (.builtin "tuple.__rmul__")) F.slot_tuple_mul.lookup (by decide +kernel) F.slot_tuple_rmul.lookup (by decide +kernel)
def u6m:seqRepeat? (.type "tuple")=pure (some (.builtin "tuple.__mul__")):=by
 unfold seqRepeat?;rw[PySem.seqSlot_of (T:="tuple") (name:="__mul__") (id:="tuple.__mul__") F.slot_tuple_mul.lookup (by decide +kernel),PySem.seqSlot_of (T:="tuple") (name:="__rmul__") (id:="tuple.__rmul__") F.slot_tuple_rmul.lookup (by decide +kernel)]
 rfl
section
variable {P:Program}{w:World}{A:Around}{E:VP}{s:Shared}{X:Cx}
def u9m {k:Int}{t:Tok}{l:Addr}{o:Obj}{items:Array Value}{n:Nat}{Q:VP} (ho:s.heap.get? l=some o) (hc:o.cls=.type "tuple") (hd:o.data=.seq items n) (h:Q .notImplemented s) :
  wpAny (model P w) A (call (.builtin "int.__rmul__") [.int k t,.ref l]) Q E s:=by
 refine wpAny_call_entry F.slot_int_rmul (typeIs_int s k t) F.entry_int_rmul ?_ (F.args_int_rmul_2 _ _);obtain⟨hp,g,d,tk,os⟩:=s;obtain⟨oc,od,odt,osl⟩:=o;simp only at hc hd;subst hc;subst hd
 wp_walk
 exact⟨_,rfl,h⟩
def v0I {k:Int}{t:Tok}{l:Addr}{o:Obj}{items:Array Value}{n:Nat}{Q:VP} (ho:s.heap.get? l=some o) (hc:o.cls=.type "tuple") (hd:o.data=.seq items n) (hk:2<=k) (hk2:k<=1000) (hi:items.isEmpty=false) (hz:items.size*k.toNat<=sizeLine)
  (h:Q (.ref s.heap.objs.size) { s with heap:=s.heap.push { cls:=.type "tuple",data:=.seq ((List.replicate k.toNat items).foldl (λx1 x2=>x1++x2) #[]) } }):wpAny (model P w) A (call (.builtin "tuple.__mul__") [.ref l,.int k t]) Q E s:=by
 refine wpAny_call_entry F.slot_tuple_mul ⟨o,ho,hc⟩ F.entry_tuple_mul ?_ (F.args_tuple_mul_2 _ _);obtain⟨hp,g,d,tk,os⟩:=s;obtain⟨oc,od,odt,osl⟩:=o;simp only at hc hd;subst hc;subst hd;unfold Builtin.«tuple.__mul__»
 wp_walk
 have z1:(k.toNat:Int)=k:=Int.toNat_of_nonneg (by omega)
 have z2:((items.size:Nat):Int)*k<=sizeLine:=by
  rw[<- z1]
  exact_mod_cast hz
 have z3:(sizeLine:Int)=16777216:=by rw[sizeLine_eq];rfl
 rw[if_neg (by rw[decide_eq_false (by omega),decide_eq_false (by omega)];decide)]
 dsimp only;refine wpAny_bind ?_;unfold Builtin.Tuple.tupleItemsOf;refine wpAny_bind (wpAny_seqItems ho rfl (wpAny_pure ?_));rw[if_neg (by rw[hi,show(k==1)=false from beq_eq_false_iff_ne.mpr (by omega)];decide),if_neg (by rw[hi,decide_eq_false (by omega)];decide),if_neg (by rw[z3] at z2;omega),if_neg (by unfold Builtin.Tuple.tupleTooMany;rw[decide_eq_true_eq];omega)]
 have sz:((List.replicate k.toNat items).foldl (λx1 x2=>x1++x2) #[]).size<=sizeLine:=by
  have g:∀(n:Nat) (a:Array Value),((List.replicate n items).foldl (λx1 x2=>x1++x2) a).size=a.size+n*items.size:=by
   intro n;induction n with
   | zero=>simp
   | succ n ih =>
    intro a;rw[List.replicate_succ,r6,ih,Array.size_append,Nat.succ_mul];omega
  rw[g,Nat.mul_comm];simpa using hz
 unfold Builtin.Tuple.tupleExact;exact wpAny_bind (wpAny_newObj_type (wpAny_pure ⟨_,rfl,h⟩) sz)
def rRepT (K:W.Frag):R2:=λx y H Q=>∃l k xs,x=.ref l/\y=.int k/\SqT K H l xs/\2<=k/\k<=1000/\xs≠[]/\xs.length*k.toNat<=sizeLine/\∀p,H p=none->Q (.ref p) (upd H p (.tup (List.replicate k.toNat xs).flatten))
def op_repT:OpR X (binaryOp .Mult) (rRepT X.K):=by
 intro pins s σ H x y v u Q I rx ry h;obtain⟨l,k,xs,rfl,rfl,hq,h1,h2,hn,hz,q⟩:=h;cases rx;obtain⟨t,rfl⟩:=ry;obtain⟨its,r,hT,_⟩:=I.tuple hq;obtain⟨o,ho,hc,n,hd⟩:=hT;have hl:=r.length;have hlen:its.toArray.size*k.toNat<=sizeLine:=by rw[y1,<- hl];exact hz
 have hne:its.toArray.isEmpty=false:=by
  cases its with
  | nil=>cases xs with|nil=>exact absurd rfl hn|cons _ _=>cases hl
  | cons a b=>rfl
 have hnew:List.foldl (λx1 x2=>x1++x2) #[] (List.replicate k.toNat its.toArray)=(List.replicate k.toNat its).flatten.toArray:=by
  have:=u4o its k.toNat []
  rwa [List.nil_append] at this
 refine wpAny_binaryOp_repeat_ref (T:="tuple") (U:="int") (by decide) ⟨o,ho,hc⟩ (λs'=>typeIs_int s' k t) u3C F.fills_int_mul F.slot_int_rmul u6m F.slot_int_index.lookup
  (u9m ho hc hd ⟨rfl,⟨o,ho,hc⟩,v0I ho hc hd h1 h2 hne hlen ?_⟩)
 rw[hnew];exact⟨.ref _,_,I.laid (a:=s.heap.objs.size) (o:=.tup (List.replicate k.toNat xs).flatten) (t':=s.toks) (λ_ _ e=>z0 _ e) (z7 _) ⟨by rw[v0O,Nat.mul_comm];exact hz,_,r.rep k.toNat,_,z6 _ rfl,rfl,_,rfl⟩,rfl,q _ (I.hok.fresh (z7 _))⟩
def rRepR:R2:=λx y H Q=>∃l k xs,x=.ref l/\y=.int k/\Rd H l (.lst xs)/\-(2^63)<=k/\k<2^63/\xs.length*k.toNat<=sizeLine /\
 ∀p,H p=none->Q (.ref p) (upd H p (.lst (List.replicate k.toNat xs).flatten))
def op_repR:OpR X (binaryOp .Mult) rRepR:=by
 intro pins s σ H x y v u Q I rx ry h;obtain⟨l,k,xs,rfl,rfl,hH,h1,h2,hz,q⟩:=h;cases rx;obtain⟨t,rfl⟩:=ry;obtain⟨z,its,n,r,hl,e⟩:=I.lstR hH;have hlen:its.toArray.size*k.toNat<=sizeLine:=by rw[y1,<- hl];exact hz
 have hcap:¬ its.toArray.size*k.toNat > (2^63 - 1) / 8:=by
  have:(sizeLine:Nat)<=(2^63 - 1) / 8:=by decide
  omega
 have hfit:¬ (!Builtin.List.listFitsIndex k)=true:=by
  rw[fitsIndex_both h1 h2];exact v6
 have hlong:¬ Builtin.List.listTooLong (its.toArray.size*k.toNat)=true:=by
  rw[notLongL hlen];exact v6
 have hnew:List.foldl (λx1 x2=>x1++x2) #[] (List.replicate (if its.toArray.isEmpty=true then 0 else k.toNat) its.toArray)=(List.replicate k.toNat its).flatten.toArray:=by
  have f0:∀m:Nat,List.foldl (λx1 x2=>x1++x2) #[] (List.replicate m its.toArray)=(List.replicate m its).flatten.toArray:=λm=>by
   have:=u4o its m []
   rw[List.nil_append] at this;exact this
  rw[f0];cases its with
  | nil=>simp
  | cons a r'=>rw[if_neg (by simp)]
 refine wpAny_binaryOp_repeat_ref (T:="list") (U:="int") (by decide) ⟨_,e,rfl⟩ (λs'=>typeIs_int s' k t) noFill_list_mul F.fills_int_mul F.slot_int_rmul repeat_list F.slot_int_index.lookup
  (call_meets F.slot_int_rmul (typeIs_int s k t) F.entry_int_rmul (F.args_int_rmul_2 _ _) (int___rmul___int_list k t l its.toArray n)
   ⟨e,rfl,⟨_,e,rfl⟩,call_meets F.slot_list_mul ⟨_,e,rfl⟩ F.entry_list_mul (F.args_list_mul_2 _ _) (AutoListH.list___mul___list_int_3 l its.toArray n k t hfit hcap hlong) ⟨e,?_⟩⟩)
 rw[hnew];exact⟨.ref _,_,I.lnew (t':=s.toks) (r.rep k.toNat) (by rw[v0O,Nat.mul_comm];exact hz),rfl,q _ I.fresh⟩
noncomputable def dMulX:D->D->Res D
 | .int i,.int j=>dMul (.int i) (.int j)
 | .lst ds,.int k=>gd (-(2^63)<=k/\k<2^63/\ds.length*k.toNat<=sizeLine) (.ok (.lst (List.replicate k.toNat ds).flatten))
 | .tup ds,.int k=>gd (2<=k/\k<=1000/\ds.isEmpty=false/\ds.length*k.toNat<=sizeLine) (.ok (.tup (List.replicate k.toNat ds).flatten))
 | _,_=>.bad
def u2K:OpR X (binaryOp .Mult) (rD X.K dMulX):=by
 intro pins s σ H x y v u Q I rx ry z9134;obtain⟨F,dx,dy,fh,px,py,q⟩:=z9134;unfold dMulX at q;split at q
 ·exact o_mul pins s σ H x y v u Q I rx ry ⟨F,_,_,fh,px,py,q⟩
 ·obtain ⟨⟨h1,h2,h3⟩,q⟩:=u3D q
  cases py;cases px with
  | lst hq hs=>exact op_repR pins s σ H _ _ v u Q I rx ry ⟨_,_,_,rfl,rfl,hq.same fh,h1,h2,by rw[hs.length];exact h3,λp n=>q _ _ _ (Stp.new fh n) (.lst (.inl u0g) ((hs.rep _).same (Stp.new fh n).ff))⟩
 ·obtain ⟨⟨h1,h2,h3,h4⟩,q⟩:=u3D q
  cases py;cases px with
  | tup hq hs=>exact op_repT pins s σ H _ _ v u Q I rx ry ⟨_,_,_,rfl,rfl,fh.seqT hq,h1,h2,(λe=>by subst e;cases hs;cases h3),by rw[hs.length];exact h4,λp n=>q _ _ _ (Stp.new fh n) (.tup (.inl (.inl u0g)) ((hs.rep _).same (Stp.new fh n).ff))⟩
 ·exact q.elim
end
section
variable {P:Program}{w:World}{A:Around}{E:VP}
theorem u8G {it l:Addr}{items:Array Value} (ne:l≠it):∀(n i:Nat) (s:Shared) (Q:List Value->Shared->Prop),s.heap.IsListIter it l i->s.heap.IsList l items->i+n<=items.size ->
  (∀h',h'.IsListIter it l (i+n)->Heap.SameBut it s.heap h'->Q ((items.toList.drop i).take n) { s with heap:=h' })->wpAny (model P w) A (draw (.ref it) n) Q E s
 | 0,i,s,Q,hit,_,_,hQ=>wpAny_pure (by simpa using hQ s.heap hit (Heap.SameBut.refl ..))
 | n+1,i,s,Q,hit,ht,hle,hQ=>by
  have lt:i<items.size:=by omega
  refine wpAny_bind (m:=pyNext (.ref it)) (wpAny_pyNext_list_item hit ht (x:=items[i]) (by simp[lt]) λh₁ hit₁ hs₁=>wpAny_bind (wpAny_holding (u8G ne n (i+1) _ _ hit₁ (ht.extBut hs₁.extBut ne) (by omega) λh₂ hit₂ hs₂=>wpAny_pure ?_)))
  have q:=hQ h₂ (by rw[show i+(n+1)=i+1+n by omega];exact hit₂) (hs₁.trans hs₂)
  rw[show items.toList.drop i=items[i]::items.toList.drop (i+1) by simp[z1C,lt],List.take_succ_cons] at q
  exact q
def u8T {s:Shared}{l:Addr}{items:Array Value}{targets:List (Bool×(Value->Sem Unit))}{Q:Unit->Shared->Prop} (hh:A.handled=none) (ht:s.heap.IsList l items) (hn:targets.length=items.size) (hst:targets.findIdx? (·.1)=none)
  (h:∀h',Heap.ExtBut s.heap.objs.size s.heap h'->wpAny (model P w) A (assignInOrder (targets.map (·.2)) items.toList) Q E { s with heap:=h' }):wpAny (model P w) A (unpack (.ref l) targets) Q E s:=by
 have ne:l≠s.heap.objs.size:=by obtain⟨o,ho,_⟩:=id ht;exact x0 (z8 ho)
 unfold unpack;rw[hn,hst];refine wpAny_bind (wpAny_holding ?_);unfold unpackItems;refine wpAny_bind ?_;unfold notIterableAtAll;refine wpAny_bind (wpAny_specialOf ht.typeIs slot_list_iter.lookup (wpAny_pure ?_));simp only[v7,if_false];refine wpAny_bind (wpAny_holding (wpAny_pyIter_list ht (wpAny_bind (wpAny_holding (u8G ne items.size 0 _ _ ⟨_,z6 _ rfl,rfl,rfl⟩ (ht.push _) (by omega) λh₁ hit₁ hs₁=>?_)))))
 rw[List.drop_zero,List.take_of_length_le (by simp),if_neg (by simp)]
 refine wpAny_bind (wpAny_holding (wpAny_pyNext_list_end hh hit₁ ((ht.push _).extBut hs₁.extBut ne) (by simp) λh₂ he₂=>?_))
 simp only[Option.isSome_none,v7,if_false];exact wpAny_pure (h h₂ λb o hb e=>he₂ b o hb (hs₁.extBut b o hb (z0 _ e)))
end
section
variable {X:Cx}{xq:XQ}{e:Expr}{es:List Expr}{fe:Rho->Res D}{pos:Pos}
def gLst (K:W.Frag) (n:Nat) (t:TGs):TG:=λv σ H Q=>∃a xs,v=.ref a/\SqL K H a xs/\xs.length=n/\t xs σ H Q
def pg_lst {k:Nat}{t:TGs}{n:Nat} (hc:X.calm=true) (h:PGs X es t) (hn:(assignEach es X.env).length=n:=by rfl) (hst:(assignEach es X.env).findIdx? (·.1)=none:=by rfl):PG X (.Tuple es k pos) (gLst X.K n t):=by
 intro pins s σ H v u Q I r z9135;obtain⟨a,xs,e1,hq,hl,hw⟩:=z9135;subst e1;cases r;obtain⟨its,rv,ht,hz⟩:=I.list hq;rw[assign_Tuple];refine wpAny_bind (wpAny_standAt (u8T (I.ok.hd hc) ht.isList (by simp[hn,<- hl,rv.length]) hst λh' hx=>?_))
 have I1:Inv X pins σ H { s with heap:=h' }:=I.kept (t':=s.toks) λb o e=>hx b o (x0 (z8 e)) e
 exact h pins _ σ H xs _ Q I1 (by simpa using rv) hw
noncomputable def asL (n:Nat):D->Res (List D)
 | .lst ds=>if ds.length=n then .ok ds else .bad
 | _=>.bad
def dg_lst {k n:Nat}{ix:List Nat}{tgs:List Expr}{gs:List D->Rho->Res Rho} (hc:X.calm=true) (h:DGs X tgs ix gs) (hn:(assignEach tgs X.env).length=n:=by rfl) (hst:(assignEach tgs X.env).findIdx? (·.1)=none:=by rfl) :
  DG X (.Tuple tgs k pos) ix (λd ρ=>(asL n d).bind λds=>gs ds ρ) :=
 ⟨λpins s σ H v u Q I rv ⟨B,F,ρ,d,R,p,q⟩=>pg_lst hc h.out hn hst pins s σ H v u Q I rv (by
  have q1:=Res.all_bind.mp q;cases p with
  | @lst a xs ds hq hs =>
   unfold asL at q1;dsimp only at q1;by_cases z:ds.length=n
   ·rw [if_pos z] at q1
    exact⟨a,xs,rfl,.inl (hq.same R.fh),hs.length.trans z,B,F,ρ,ds,R,hs,q1⟩
   ·rw[if_neg z] at q1;exact q1.elim
  | _=>exact q1.elim)⟩
end
noncomputable def runT (n m:Nat) (t:Rho->Out) (ds:List D):Res D:=if ds.length=m then noE (outR (t (startD n ds))) else .bad
noncomputable def runX (n m:Nat) (t:Rho->Out) (ds:List D):Res D:=if ds.length=m then outR (t (startD n ds)) else .bad
section
variable {P:Program}{w:World}{K:W.Frag}{mg:MG}{base:Heap}
def Fun.okT {x qual:Str}{st:Stmt}{f:Addr}{fd:FuncData}{N ps:List Str}{k:Nat}{t:Rho->Out} (F:Fun K x qual st f fd) (S:FnScope N ps (defScope st))
  (hbody:∀(cdv:Value) (A:Around) (outer:List Env) (s:Shared) (H:Hp) (E:XK),Room k (A.deeper (envOfC qual (defScope st) s.heap.objs.size f cdv))->DB (cxOf CX0 P w K mg base N qual (defScope st) f cdv A outer s H E).nox xqF (defBody st) t) :
  FnOk P w K mg base CX0 (k+1) f fd ps (spF K (runT N.length ps.length t)):=by
 refine F.okD S (λds d h=>?_) λcdv A outer s H E hr=>⟨t,hbody cdv A outer s H E hr,λds d h=>?_⟩
 ·unfold runT at h
  split at h
  ·assumption
  ·cases h
 ·unfold runT at h
  split at h
  ·cases q:outR (t (startD N.length ds)) with
   | ok d'=>rw[q] at h;exact h
   | err x=>rw[q] at h;cases h
   | bad=>rw[q] at h;cases h
  ·cases h
set_option tactic.hygienic true in
def Fun.okTX {x qual:Str}{st:Stmt}{f:Addr}{fd:FuncData}{N ps:List Str}{k:Nat}{t:Rho->Out} (F:Fun K x qual st f fd) (S:FnScope N ps (defScope st))
  (hbody:∀ (cdv:Value) (A:Around) (outer:List Env) (s:Shared) (H:Hp) (E:XK),Room k (A.deeper (envOfC qual (defScope st) s.heap.objs.size f cdv))->XqOk (cxR P w K mg base N qual (defScope st) f cdv A outer s H E) (xq0 E) ->
   DB (cxR P w K mg base N qual (defScope st) f cdv A outer s H E) (xq0 E) (defBody st) t):FnOk P w K mg base (CXe P w) (k+1) f fd ps (spX K (runX N.length ps.length t)):=by
 refine F.okX S (λds h=>?_) λcdv A outer s H E hr hq=>⟨t,hbody cdv A outer s H E hr hq,λds h=>?_⟩
 ·unfold runX at h
  split at h
  ·assumption
  ·exact absurd rfl h
 ·unfold runX at h |-
  split at h
  ·rename_i q;rw[if_pos q]
  ·exact absurd rfl h
end
section
variable {X:Cx}{w:World}{K:W.Frag}
def o_inW (hu:X.A.units+200<cLine) (ew:X.w=w:=by rfl):OpR X (compareOp .In) (rD X.K (dInA w false)):=by subst ew;exact o_inA hu
def dn_newW {xq:XQ}{pos:Pos} (ew:X.w=w:=by rfl):DN X xq (.Dict [] [] pos) (λ_=>.ok (.n (hashW w) [])):=by subst ew;exact dn_new
def v4h {xq:XQ}{cn nm:Str}{C':Addr}{i:Nat}{p pos:Pos}{b0:Stmt}{bs:List Stmt}{rest:List ExceptHandler}{fb:Rho->Out}{hr:D->Rho->Out} (hst:X.stack=X.env::X.outer/\X.env.frame=some X.env.locals) (hN:X.N.Nodup) (hm:X.mg cn=some (.ref C')) (hb:XBase K C')
  (hsu:∀e,DB (cxH X e) xqF (b0::bs) fb) (hrs:DH X xq rest hr) (eK:X.K=K:=by rfl) (hi:X.N[i]?=some nm:=by rfl) (hl:X.env.scope.names.lookup nm=some .local:=by rfl) (hk:X.env.kindOf nm=some .local:=by rfl) (hg:Gl X cn:=by rfl) (hdb:(cn==("__debug__":Str))=false:=by decide) :
  DH X xq (.ExceptHandler (some (.Name cn p)) (some nm) (b0::bs) pos::rest) (hdAs K C' i fb hr):=by subst eK;exact dh_as hst hN hm hb hsu hrs hi hl hk hg hdb
end
section
variable {X:Cx}{xq:XQ}{i value:Expr}{fi fv:Rho->Res D}{x:Str}{p pos pos':Pos}{w:World}
def ds_putW (j:Nat) (hu:X.A.units+200<cLine) (hi:DE X xq i fi) (hv:DE X xq value fv) (ew:X.w=w:=by rfl) (hN:X.N[j]?=some x:=by rfl) (hvs:Vis X.env.scope x:=by first|exact Or.inl rfl|exact Or.inr (Or.inl rfl)|exact Or.inr (Or.inr rfl)) (hd:(x==("__debug__":Str))=false:=by decide) (hcd:(x==("__classdict__":Str))=false:=by decide)
  (hs:swapsWith value (some (.Subscript (.Name x p) i pos')) pos.line X.env=pure false:=by rfl):DS X xq (.Assign [.Subscript (.Name x p) i pos'] value pos) (fPutN w j fi fv):=by subst ew;exact ds_putN j hu hi hv hN hvs hd hcd hs
end
structure FunD (K:W.Frag) (x qual:Str) (st:Stmt) (f:Addr) (fd:FuncData):Prop where
 ex:∃(oc:Value) (od:Option Addr) (dV kV doc pm:Value) (an:Option Addr) (cdv ct:Value) (osl:Array (Option Value)),
  fd=W.fnOf x qual (defArgs st) (defBody st) (defScope st) dV kV doc pm an cdv ct/\K.lookup f=some ⟨oc,od,.func fd,osl⟩/\W.codeIn K cdv qual=true
noncomputable def gIxK (x y:D):Res D:=match x with
 | .dct ps=>(keyK y).bind λk=>match valD ps k with
  | some d=>.ok d
  | none=>.bad
 | _=>.bad
noncomputable def asDct:D->Res (List (D×D))
 | .dct ps=>.ok ps
 | _=>.bad
noncomputable def gGetK (ps:List (D×D)) (y z:D):Res D:=(keyK y).bind λk=>.ok ((valD ps k).getD z)
section
variable {X:Cx}{xq:XQ}{o i e f:Expr}{fo fi ff:Rho->Res D}{pos apos cpos:Pos}
def u7Q (hu:X.A.units+1<cLine) (ho:DE X xq o fo) (hi:DE X xq i fi) (hs:NoSl i:=by intro _ _;rfl):DE X xq (.Subscript o i pos) (λρ=>(fo ρ).bind λx=>(fi ρ).bind λy=>gIxK x y) :=
 DE.of (u7B hu ho.out hi.out hs) λB F ρ σ H Q R q=>seqE R q λd v F1 H1 s1 R1 p1 q1=>seqE R1 q1 λd2 v2 F2 H2 s2 R2 p2 q2=>by
  have p1':=p1.same s2.ff;cases p1' with
  | @dK a kvs ps hq hr =>
   obtain⟨k,ek,q3⟩:=u2e p2 (Res.all_bind.mp q2);subst ek
   have:=hr.val (k:=k)
   cases e:valD ps k with
   | none=>rw[e] at q3;exact q3.elim
   | some d3 =>
    rw[e] at this q3;obtain⟨z,hz,pz⟩:=this;refine⟨a,z,rfl,?_,q3 z F2 H2 (s1.trans s2) pz⟩;have g:=DGet.k (k:=k) (R2.fh _ _ hq);rw[hz] at g;exact g
  | _=>exact q2.elim
def u8J (hu:X.A.units+1<cLine) (ho:DE X xq o fo) (he:DE X xq e fi) (hf:DE X xq f ff) (m:M2 X o "get" apos e f cpos:=by exact⟨rfl,rfl,rfl,rfl⟩):DE X xq (.Call (.Attribute o "get" apos) [e,f] [] cpos) (λρ=>(fo ρ).bind λx=>(asDct x).bind λps=>(fi ρ).bind λy=>(ff ρ).bind λz=>gGetK ps y z) :=
 DE.of (v2G hu ho.out he.out hf.out m) λB F ρ σ H Q R q=>seqE R q λd v F1 H1 s1 R1 p1 q1=>by
  have isd:∀{a:Addr}{kvs:List (Key×V)},F1 a=some (.dK kvs)->IsD H1 a:=λhq=>.inl ⟨_,.inl (R1.fh _ _ hq)⟩
  cases p1 with
  | @dK a kvs ps hq hr =>
   refine⟨a,rfl,isd hq,seqE R1 q1 λd2 v2 F2 H2 s2 R2 p2 q2=>seqE R2 q2 λd3 v3 F3 H3 s3 R3 p3 q3=>?_⟩
   have hr3:=(Rp.dK (s3.ff _ _ (s2.ff _ _ hq)) (hr.same (s2.ff.trans s3.ff)):Rp X.K F3 (.ref a) (.dct ps));obtain⟨k,ek,q4⟩:=u2e (p2.same s3.ff) (Res.all_bind.mp q3);subst ek;have hv:=(hr.same (s2.ff.trans s3.ff)).val (k:=k);refine⟨valV kvs k,DGet.k (R3.fh _ _ (s3.ff _ _ (s2.ff _ _ hq))),?_⟩;cases ev:valD ps k with
   | none =>
    rw[ev] at hv q4;rw[hv];exact q4 _ F3 H3 ((s1.trans s2).trans s3) p3
   | some d4 =>
    rw[ev] at hv q4;obtain⟨z,hz,pz⟩:=hv;rw[hz];exact q4 _ F3 H3 ((s1.trans s2).trans s3) pz
  | _=>exact q1.elim
end
section
variable {P:Program}{w:World}{A:Around}{E:VP}{s:Shared}
def nx_tup {j q:Addr}{i:Nat}{ys:Array Value}{x:Value}{Q:VP} (hj:s.heap.IsTupleIter j q i) (hq:s.heap.IsTuple q ys) (hx:ys[i]?=some x)
  (k:∀h',h'.IsTupleIter j q (i+1)->Heap.SameBut j s.heap h'->Q x { s with heap:=h' }):wpAny (model P w) A (Builtin.SmallTypes.nextOf (.ref j)) Q E s:=by
 obtain⟨oj,e1,e2,e3⟩:=id hj;obtain⟨oq,e4,-,n,e5⟩:=hq;unfold Builtin.SmallTypes.nextOf;refine wpAny_bind (wpAny_callSpecial?_slot (name:=Str.ofString "__next__") hj.typeIs F.slot_tuple_iterator_next (wpAny_call_entry F.slot_tuple_iterator_next hj.typeIs F.entry_tuple_iterator_next ?_ (F.args_tuple_iterator_next_1 _)));show wpAny _ _ (field (.ref j) 0 >>= _) _ _ s;refine wpAny_bind (wpAny_field e1 e3 (x:=.ref q) rfl ?_);show wpAny _ _ (if (Value.ref q==Value.none)=true then _ else _) _ _ s
 rw[if_neg (show ¬ ((Value.ref q==Value.none)=true) from v6)]
 show wpAny _ _ (field (.ref j) 1 >>= _) _ _ s;refine wpAny_bind (wpAny_field e1 e3 (x:=.int i 0) rfl ?_);show wpAny _ _ (seqItems? (.ref q) >>= _) _ _ s;refine wpAny_bind (wpAny_seqItems e4 e5 ?_);simp only[Int.toNat_natCast,hx];exact wpAny_bind (wpAny_setField e1 e3 (by simp) (wpAny_pure ⟨x,rfl,wpAny_pure (k _ ⟨_,r9 _ e1 (Obj.isFreed_of_fields (Obj.data_mapFields e3 _)),(Obj.cls_mapFields ..).trans e2,by rw[Obj.data_mapFields e3];simp[rawInt]⟩ (Heap.SameBut.update ..))⟩))
def u4U {j q:Addr}{i:Nat}{ys:Array Value}{Q:VP} (hn:A.handled=none) (hj:s.heap.IsTupleIter j q i) (hq:s.heap.IsTuple q ys) (hx:ys[i]?=none)
  (k:∀h' u,Heap.ExtBut j s.heap h'->(∃o,h'.get? u=some o/\o.cls=.type "StopIteration")->E (.ref u) { s with heap:=h' }):wpAny (model P w) A (Builtin.SmallTypes.nextOf (.ref j)) Q E s:=by
 obtain⟨oj,e1,e2,e3⟩:=id hj;obtain⟨oq,e4,-,n,e5⟩:=hq;unfold Builtin.SmallTypes.nextOf;refine wpAny_bind (wpAny_callSpecial?_slot (name:=Str.ofString "__next__") hj.typeIs F.slot_tuple_iterator_next (wpAny_call_entry F.slot_tuple_iterator_next hj.typeIs F.entry_tuple_iterator_next ?_ (F.args_tuple_iterator_next_1 _)));show wpAny _ _ (field (.ref j) 0 >>= _) _ _ s;refine wpAny_bind (wpAny_field e1 e3 (x:=.ref q) rfl ?_);show wpAny _ _ (if (Value.ref q==Value.none)=true then _ else _) _ _ s
 rw[if_neg (show ¬ ((Value.ref q==Value.none)=true) from v6)]
 show wpAny _ _ (field (.ref j) 1 >>= _) _ _ s;refine wpAny_bind (wpAny_field e1 e3 (x:=.int i 0) rfl ?_);show wpAny _ _ (seqItems? (.ref q) >>= _) _ _ s;refine wpAny_bind (wpAny_seqItems e4 e5 ?_);simp only[Int.toNat_natCast,hx];refine wpAny_bind (wpAny_rule (wpAny_bind (wpAny_setField e1 e3 (by simp) ?_)))
 show wpAny _ _ (newExc (.type "StopIteration") [] >>= _) _ _ _;refine wpAny_bind ?_;simp only[newExc,newTuple];refine wpAny_bind (wpAny_newObj_type (wpAny_bind (m:=firstArgMember _ _) (wpAny_of_eq (a:=Value.none) (by first|rfl|(simp only[firstArgMember];rfl)) (wpAny_newObj_type ?_ (by size_fits)))) (by size_fits))
 simp only[raiseNew];refine wpAny_bind (wpAny_handled ?_)
 first|rw[show A.in1.handled=none from hn] | rw[hn]
 exact wpAny_bind (wpAny_pure (wpAny_throw (k _ _ (((Heap.SameBut.update ..).extBut.push _).push _) ⟨_,z6 _ rfl,rfl⟩)))
def drawT (hn:A.handled=none) (j q:Addr) (hne:q≠j) (ys:Array Value):Draws P w A j [j,q] ys.size (λi v=>ys[i]?=some v) (λi h=>h.IsTupleIter j q i/\h.IsTuple q ys) where
 live:=λ_ _ st=>let ⟨o,ho,_⟩:=st.1;⟨o,ho⟩
 frame:=λ_ _ _ st k=>⟨by obtain⟨o,a,b⟩:=st.1;exact⟨o,k j (by simp) o a,b⟩,by obtain⟨o,a,b⟩:=st.2;exact⟨o,k q (by simp) o a,b⟩⟩
 item:=λi s Q E hi st k=>nx_tup st.1 st.2 (x:=ys[i]) (by simp[hi]) λh' a b=>k _ h' s.toks (by simp[hi]) ⟨a,st.2.extBut b.extBut hne⟩ b
 done:=λs Q E st k=>u4U hn st.1 st.2 (by simp) k
abbrev tIt (l:Addr):Obj:={ cls:=.type "tuple_iterator",data:=.fields #[.ref l,.int 0 0] }
abbrev eOb (j:Addr):Obj:={ cls:=.type "enumerate",data:=.fields #[.none,.bool false,.ref j,rawInt 0,.none,.none] }
set_option tactic.hygienic true in
def v0L (l:Addr) (ys:Array Value) (n:Nat) (dct:Option Addr) (sl:Array (Option Value)) :
  Meets (Builtin.«enumerate.__new__» ⟨[.type "enumerate",.ref l],[]⟩) (λ_ R s=>s.heap.get? l=some { cls:=.type "tuple",dict:=dct,data:=.seq ys n,slots:=sl } /\
   R (.ok (.ret (.ref (s.heap.push (tIt l)).objs.size))) { s with heap:=(s.heap.push (tIt l)).push (eOb s.heap.objs.size) }) :=
 .of_wp λprog w A R s h=>by
  obtain⟨hp,g,d,tk,os⟩:=s;obtain⟨hl,h⟩:=h;have z1:=sub_enumerate;have hL:Heap.IsTuple (Shared.heap ⟨hp,g,d,tk,os⟩) l ys:=⟨_,hl,rfl,n,rfl⟩
  wp_walk using AutoSeq1.wpAny_loadPart' hl
  refine wpAny_stack_any λst=>wpAny_pure ?_
  split
  ·rename_i c _ _ _ _ _
   cases (c==Value.type "enumerate")<;>(wp_walk using AutoSeq1.wpAny_loadPart' hl,wpAny_pyIter_tuple hL;exact⟨_,rfl,h⟩)
  ·wp_walk using AutoSeq1.wpAny_loadPart' hl,wpAny_pyIter_tuple hL
   exact⟨_,rfl,h⟩
def v3w {l:Addr}{ys:Array Value}{Q:VP} (hL:s.heap.IsTuple l ys)
  (h:∀h',IsEnum h' (s.heap.objs.size+1) s.heap.objs.size 0 .none->h'.IsTupleIter s.heap.objs.size l 0->(∀b o,s.heap.get? b=some o->h'.get? b=some o)->Q (.ref (s.heap.objs.size+1)) { s with heap:=h' }) :
  wpAny (model P w) A (call (.type "enumerate") [.ref l]) Q E s:=by
 obtain⟨⟨c,dct,dt,sl⟩,hl,hc,n,hd⟩:=hL;obtain rfl:c=.type "tuple":=hc;obtain rfl:dt=.seq ys n:=hd;refine callType_new F.called_enumerate (by decide) (F.typeCall_enumerate_1 _) (F.newCall_enumerate_1 _) (λobj=>F.args_object_init_2 obj _) F.entry_enumerate_new (v0L l ys n dct sl) ⟨hl,?_⟩
 have hz:(s.heap.push (tIt l)).objs.size=s.heap.objs.size+1:=Heap.size_push ..;show _/\_;rw[hz];have he:IsEnum ((s.heap.push (tIt l)).push (eOb s.heap.objs.size)) (s.heap.objs.size+1) s.heap.objs.size 0 .none:=by
  have:=z6 (s.heap.push (tIt l)) (o:=eOb s.heap.objs.size) rfl
  rw[hz] at this;exact this
 exact⟨⟨_,he,rfl⟩,h _ he ⟨_,z0 _ (z6 _ rfl),rfl,rfl⟩ λb o x=>z0 _ (z0 _ x)⟩
end
def IteT (K:W.Frag) (a:Addr):It :=
 ⟨λi H=>∃xs x,SqT K H a xs/\xs[i]?=some x,λi H y H'=>∃p x,H p=none/\y=.ref p/\H'=upd H p (.tup [.int i,x])/\∀xs,SqT K H a xs->xs[i]?=some x,λi H=>∃xs,SqT K H a xs/\xs.length<=i⟩
def v2e {P:Program}{w:World}{K:W.Frag}{es:List Expr}{k:Nat}{pos:Pos} (a e it:Addr) (hne:e≠it) :
  Turn P w K (.Tuple es k pos) (IteT K a) [e,it] e (λi h=>(∃old,IsEnum h e it (i:Int) old)/\h.IsTupleIter it a i) where
 mem:=by simp
 obj:=λi h st b hb=>by
  obtain⟨⟨old,q⟩,o,e2,c,d⟩:=st;rcases y0.mp hb with rfl|hb
  ·exact⟨_,q,λv z=>by cases z⟩
  ·obtain rfl:b=it:=by simpa using hb
   exact⟨o,e2,λv z=>by rw[d] at z;cases z⟩
 keep:=λi h h' st k=>⟨by obtain⟨old,q⟩:=st.1;exact⟨old,k e (by simp) _ q⟩,by obtain⟨o,a,b⟩:=st.2;exact⟨o,k it (by simp) o a,b⟩⟩
 item:=by
  intro X hP hw hK hc i pins s σ H E I hf st hg;subst hP hw hK;obtain⟨xs,x,hq,hx⟩:=hg;obtain⟨its,rv,p,hz⟩:=I.tuple hq;have p:s.heap.IsTuple a its.toArray:=p;obtain⟨u,hu,ru⟩:=rv.get hx;obtain⟨⟨old,he⟩,hl⟩:=st;have f1:=hf e (by simp)
  have f2:=hf it (by simp)
  have hel:e<s.heap.objs.size:=z8 he;have hae:a≠e:=by
   rintro rfl;obtain⟨o,e1,e2,_⟩:=p;rw[he] at e1;cases e1;injection e2 with e2;exact absurd e2 (by decide)
  have hai:a≠it:=by
   rintro rfl;obtain⟨o,e1,e2,_⟩:=p;obtain⟨o',e3,e4,_⟩:=hl;rw[e1] at e3;cases e3;rw[e2] at e4;injection e4 with e4;exact absurd e4 (by decide)
  have hil:i<its.toArray.size:=by
   have:=(y6.mp hu).1
   simpa using this
  refine wpAny_pyNext_enum_itemD (drawT (A:=X.A.in1) (I.ok.hd hc) it a hai its.toArray) he ⟨hl,p⟩ hil hne (λz=>by
   rcases y0.mp z with z|z
   ·exact hne z
   ·exact hae (w9.mp z).symm) λy h1 tk hy eo li ht hsz kk=>⟨_,rfl,?_⟩
  obtain rfl:y=u:=by
   have:its[i]?=some y:=by simpa using hy
   rw[hu] at this;cases this;rfl
  refine wpAny_letOwnedTupleGo_enum (s:={ s with heap:=h1,toks:=tk+1 }) eo λh2 en sb=>?_
  have hpe:s.heap.objs.size≠e:=Nat.ne_of_gt hel;have hfr:H s.heap.objs.size=none:=I.hok.fresh (z7 _);have k2:∀b o,b≠e->b≠it->s.heap.get? b=some o->h2.get? b=some o:=λb o hb hi q=>(sb.2 b hb).trans (kk b o hb hi q)
  have ht2:h2.get? s.heap.objs.size=some { cls:=.type "tuple",data:=.seq #[.int i tk,y] }:=(sb.2 _ hpe).trans ht;have I2:=I.turned2 (t':=tk+1) (p:=s.heap.objs.size) (ys:=[.int i,x]) k2 f1 f2 (z7 _) ⟨by show 2<=sizeLine;decide,[.int i tk,y],.cons ⟨_,rfl⟩ (.cons ru .nil),⟨_,ht2,rfl,_,rfl⟩⟩
  have en':IsEnum h2 e it (((i+1:Nat):Int)) y:=by
   have:((i+1:Nat):Int)=(i:Int)+1:=by omega
   rw[this];exact en
  refine⟨.ref s.heap.objs.size,_,I2,rfl,⟨s.heap.objs.size,x,hfr,rfl,rfl,λys hy=>by rw[I.tuple_inj hy hq];exact hx⟩,⟨⟨y,en'⟩,?_⟩,λb hb=>?_⟩
  ·obtain ⟨o,q,r⟩:=li.1
   exact⟨o,(sb.2 it (Ne.symm hne)).trans q,r⟩
  ·have hb':b<s.heap.objs.size:=by
    rcases y0.mp hb with rfl|hb
    ·exact hel
    ·obtain rfl:b=it:=by simpa using hb
     obtain⟨o,q,_⟩:=hl;exact z8 q
   rw[u0j (x0 hb')];exact(hf b hb).1
 done:=by
  intro X hP hw hK hc i pins s σ H E I hf st hg;subst hP hw hK;obtain⟨xs,hq,hx⟩:=hg;obtain⟨its,rv,p,hz⟩:=I.tuple hq;have p:s.heap.IsTuple a its.toArray:=p;obtain⟨⟨old,he⟩,hl⟩:=st;obtain⟨f0,f1,f2,f3,f4,f5⟩:=hf it (by simp)
  have hlen:=rv.length;unfold pyNext;have hT:s.TypeIs (.ref e) "enumerate":=⟨_,he,rfl⟩;refine wpAny_bind (wpAny_attempt (wpAny_callSpecial?_slot (name:=Str.ofString "__next__") hT F.slot_enumerate_next (wpAny_call_entry F.slot_enumerate_next hT F.entry_enumerate_next ?_ (F.args_enumerate_next_1 _))));show wpAny _ _ (field (.ref e) 2 >>= _) _ _ _;refine wpAny_bind (wpAny_field he rfl (x:=.ref it) rfl (wpAny_bind (u4U (by first|exact I.ok.hd hc|exact(I.ok.hd hc)) hl p (by simp;omega) λh' u eb hu=>?_)))
  obtain⟨o,ho,hcl⟩:=hu;exact wpAny_bind (wpAny_isInstance (T:="StopIteration") (b:=true) ⟨o,ho,hcl⟩ isSubtype_stop (wpAny_pure ⟨rfl,I.turned (t':=s.toks) (λb o hb q=>eb b o hb q) f0 f1 f3 f4 f5⟩))
 self:=λ_ _ _ _ _ st h=>by
  obtain⟨⟨old,he⟩,_⟩:=st;exact wpAny_pyIter_enum he h
def iEnT (K:W.Frag) (ta:TA):TI:=λσ H R=>ta σ H λvs H1=>(∃a xs,vs=[.ref a]/\SqL K H1 a xs/\R (Ite K a) H1)\/∃a xs,vs=[.ref a]/\SqT K H1 a xs/\R (IteT K a) H1
section
variable {X:Cx}{xq:XQ}{a:Expr}{ta:TA}{p pos tp:Pos}{es:List Expr}{k:Nat}{fa:Rho->Res (List D)}
def pi_enT (hg:Gl X "enumerate") (hm:X.mg "enumerate"=none) (ha:PA X [a] ta) (hs:starEach [a] X.env=[(false,eval a X.env)]:=by rfl):PI X (.Tuple es k tp) (.Call (.Name "enumerate" p) [a] [] pos) (iEnT X.K ta):=by
 intro pins s σ H R I h;refine Call_ (u3s I hg hm (show bootBuiltins "enumerate"=some (.type "enumerate") by decide +kernel) (PyProof.Rows.callWith_type1 (thn (ha pos pins s σ H _ I h) λus s1 ⟨vs,H1,I1,r1,q1⟩=>?_) hs rfl))
 have hne:s1.heap.objs.size+1≠s1.heap.objs.size:=Nat.succ_ne_self _;have hfp:∀b∈[s1.heap.objs.size+1,s1.heap.objs.size],s1.heap.objs.size<=b:=λb hb=>by
  rcases y0.mp hb with rfl|hb
  ·exact Nat.le_succ _
  ·have e:b=s1.heap.objs.size:=by simpa using hb
   rw[e];exact z7 _
 rcases q1 with⟨a',xs,e,hq,q⟩|⟨a',xs,e,hq,q⟩
 ·subst e
  obtain⟨u,rfl,ru⟩:=vals1 r1;cases ru;obtain⟨its,rv,pl,hz⟩:=I1.list hq;refine call_enumerate_list pl.isList λh' en li hsz kk=>wpAny_pyIter_enum en ?_
  exact⟨s1.heap.objs.size+1,[s1.heap.objs.size+1,s1.heap.objs.size],_,Ite X.K a',H1,rfl,I1.kept (t':=s1.toks) kk,u5Z a' _ _ hne,⟨⟨_,en⟩,li⟩,λb hb=>I1.fpOk (hfp b hb) (I1.hok.fresh (hfp b hb)),q⟩
 ·subst e
  obtain⟨u,rfl,ru⟩:=vals1 r1;cases ru;obtain⟨its,rv,pl,hz⟩:=I1.tuple hq;refine v3w (show s1.heap.IsTuple a' its.toArray from pl) λh' en li kk=>wpAny_pyIter_enum en ?_
  exact⟨s1.heap.objs.size+1,[s1.heap.objs.size+1,s1.heap.objs.size],_,IteT X.K a',H1,rfl,I1.kept (t':=s1.toks) kk,v2e a' _ _ hne,⟨⟨_,en⟩,li⟩,λb hb=>I1.fpOk (hfp b hb) (I1.hok.fresh (hfp b hb)),q⟩
def Feed.enT {K:W.Frag}{F:Hp}{a:Addr}{xs:List V}{ds:List D} (h:SqT K F a xs) (r:Rps K F xs ds):Feed K F (IteT K a) (enumL ds) where
 go i H e hi:=by
  have hi':i<xs.length:=by rw[r.length];simpa[enumL] using hi
  exact⟨xs,xs[i],e.seqT h,by simp[hi']⟩
 yld i F1 H x H' d e1 e2 hd y:=by
  obtain⟨p,v,hp,rfl,rfl,y⟩:=y;have hv:xs[i]?=some v:=y xs ((e1.trans e2).seqT h);have hd2:∃d0,ds[i]?=some d0/\d=.tup [.int (i:Nat),d0]:=by
   unfold enumL at hd;rw[y4,List.getElem?_zipIdx] at hd;cases q:ds[i]? with
   | none=>rw[q] at hd;cases hd
   | some d0=>rw[q] at hd;simp at hd;exact⟨d0,rfl,hd.symm⟩
  obtain⟨d0,q0,rfl⟩:=hd2;obtain⟨w,hw,pw⟩:=r.get q0;rw[hv] at hw;cases hw;have s:=Stp.new (o:=.tup [.int (i:Nat),v]) e2 hp;exact⟨_,s,.tup (.inl (.inl u0g)) (.cons (.int _) (.cons (pw.same (e1.trans s.ff)) .nil))⟩
 stop i H e hi:=⟨xs,e.seqT h,by rw[r.length];simpa[enumL] using hi⟩
noncomputable def enum2:List D->Res (List D)
 | [.lst ds]=>.ok (enumL ds)
 | [.tup ds]=>.ok (enumL ds)
 | _=>.bad
def v1E {tp:Pos} (hm:X.mg "enumerate"=none) (ha:DA X xq [a] fa) (hg:Gl X "enumerate":=by rfl):DI X xq (.Tuple es k tp) (.Call (.Name "enumerate" p) [a] [] pos) (λρ=>(fa ρ).bind enum2) :=
 ⟨λpins s σ H R I z9=>un5 z9 λB F ρ R' q=>pi_enT hg hm ha.out (u0v (u0q ha.ns).1) pins s σ H R I (seqA R' q λds vs F1 H1 s1 R1 p1 q1=>by
  unfold enum2 at q1;split at q1
  ·obtain ⟨v,rfl,pv⟩:=rps1 p1
   cases pv with
   | lst hq hs=>exact .inl ⟨_,_,rfl,.inl (hq.same R1.fh),q1 _ F1 H1 s1 (Feed.enum (.inl hq) hs)⟩
  ·obtain ⟨v,rfl,pv⟩:=rps1 p1
   cases pv with
   | tup hq hs=>exact .inr ⟨_,_,rfl,R1.fh.seqT hq,q1 _ F1 H1 s1 (Feed.enT hq hs)⟩
  ·exact q1.elim)⟩
end
section
variable {X:Cx}{xq:XQ}{st:Stmt}{sts:List Stmt}{e o:Expr}{es:List Expr}{fn:Rho->Res OD}{fe:Rho->Res D}{fs:Rho->Res (List D)}{f:Rho->Out}{g:Rho->OutN}{pos p p2 pos2 apos cpos:Pos}{x:Str}
def v2s {H H':Hp}{a:Addr}{u:HO} (h:Same H H') (n:H a=none):Same H (upd H' a u):=λb v e=>by
 unfold upd;by_cases z:b=a
 ·subst z;rw[n] at e;cases e
 ·rw[if_neg z];exact h b v e
end
end L2
namespace L2
open PySem PySem.Spec PyProof.Rows
variable {X:Cx}{xq:XQ}
variable {X:Cx}{xq:XQ}
noncomputable def shS:Sl->Option D
 | .val d=>some d
 | .own _=>none
noncomputable def shp (ρ:Rho):List (Option (Option D)):=ρ.map (Option.map shS)
def u5t (ρ:Rho) (i:Nat):(shp ρ)[i]?=(ρ[i]?).map (Option.map shS):=by unfold shp;rw[y4]
def u7j {ρ ρ':Rho} (h:shp ρ'=shp ρ) {i:Nat}{o:OD} (e:ρ[i]?=some (some (.own o))):∃o',ρ'[i]?=some (some (.own o')):=by
 have z:(shp ρ')[i]?=(shp ρ)[i]?:=by rw[h]
 rw[u5t,u5t,e] at z;cases q:ρ'[i]? with
 | none=>rw[q] at z;cases z
 | some y =>
  rw[q] at z;cases y with
  | none=>cases z
  | some s =>
   cases s with
   | val d=>cases z
   | own o'=>exact⟨o',rfl⟩
def NotOwn (ρ:Rho) (σ:St) (b:Addr):Prop:=∀(i:Nat) o,ρ[i]?=some (some (.own o))->σ[i]?≠some (some (.ref b))
def NotOwn.of {ρ ρ':Rho}{σ:St}{b:Addr} (h:shp ρ'=shp ρ) (n:NotOwn ρ σ b):NotOwn ρ' σ b:=λi o e=>by obtain⟨o',e'⟩:=u7j h.symm e;exact n i o' e'
structure Mv (K:W.Frag) (B:Hp×Hp) (ρ:Rho) (σ:St) (F H:Hp) (ρ':Rho) (F' H':Hp):Prop where
 rel:Rel K B ρ' σ F' H'
 sh:shp ρ'=shp ρ
 ff:Same F F'
 hh:∀b o,NotOwn ρ σ b->H b=some o->H' b=some o
 no:∀b,F b=none->H b≠none->F' b=none
section
variable {K:W.Frag}{B:Hp×Hp}{ρ ρ' ρ1 ρ2:Rho}{σ:St}{F H F' H' F1 H1 F2 H2:Hp}
theorem Mv.refl (R:Rel K B ρ σ F H):Mv K B ρ σ F H ρ F H:=⟨R,rfl,Same.refl F,λ_ _ _ e=>e,λ_ n _=>n⟩
theorem Mv.step (m:Mv K B ρ σ F H ρ1 F1 H1) (s:Stp F1 H1 F2 H2):Mv K B ρ σ F H ρ1 F2 H2 where
 rel:=m.rel.step s
 sh:=m.sh
 ff:=m.ff.trans s.ff
 hh b o n e:=s.hh b o (m.hh b o n e)
 no b n e:=by
  refine s.no b (m.no b n e) ?_;by_cases q:NotOwn ρ σ b
  ·cases z:H b with
   | none=>exact absurd z e
   | some o=>rw[m.hh b o q z];simp
  ·unfold NotOwn at q
   simp only[Classical.not_forall] at q;obtain⟨i,o,e1,e2⟩:=q;obtain⟨o',e3⟩:=u7j m.sh e1;obtain⟨a,h,p1,p2,p3,p4,p5⟩:=m.rel.own i o' e3;have e2:σ[i]?=some (some (.ref b)):=Classical.not_not.mp e2;rw[e2] at p1;cases p1;rw[p4];simp
def Mv.of (R:Rel K B ρ σ F H) (s:Stp F H F' H'):Mv K B ρ σ F H ρ F' H':=(Mv.refl R).step s
def Mv.dom (m:Mv K B ρ σ F H ρ1 F1 H1) {b:Addr} (e:H b≠none):H1 b≠none:=by
 by_cases q:NotOwn ρ σ b
 ·cases z:H b with
  | none=>exact absurd z e
  | some o=>rw[m.hh b o q z];simp
 ·unfold NotOwn at q
  simp only[Classical.not_forall] at q;obtain⟨i,o,e1,e2⟩:=q;obtain⟨o',e3⟩:=u7j m.sh e1;obtain⟨a,h,p1,p2,p3,p4,p5⟩:=m.rel.own i o' e3;have e2:σ[i]?=some (some (.ref b)):=Classical.not_not.mp e2;rw[e2] at p1;cases p1;rw[p4];simp
theorem Mv.trans (x:Mv K B ρ σ F H ρ1 F1 H1) (y:Mv K B ρ1 σ F1 H1 ρ2 F2 H2):Mv K B ρ σ F H ρ2 F2 H2 :=
 ⟨y.rel,y.sh.trans x.sh,x.ff.trans y.ff,λb o n e=>y.hh b o (n.of x.sh) (x.hh b o n e),λb n e=>y.no b (x.no b n e) (x.dom e)⟩
end
def liftX (K:W.Frag) (f:Rho->Res (D×Rho)):TE:=λσ H Q=>∃B F ρ,Rel K B ρ σ F H /\
 (f ρ).all (λr=>∀v F' H',Mv K B ρ σ F H r.2 F' H'->Rp K F' v r.1->Q v H') (λ_=>False)
inductive Ag where
 | v (d:D)|o (j:Nat)
inductive Agr (K:W.Frag) (F:Hp) (σ:St):List V->List Ag->Prop
 | nil:Agr K F σ [] []
 | v {x:V}{d:D}{xs:List V}{as:List Ag}:Rp K F x d->Agr K F σ xs as->Agr K F σ (x::xs) (.v d::as)
 | o {x:V}{j:Nat}{xs:List V}{as:List Ag}:σ[j]?=some (some x)->Agr K F σ xs as->Agr K F σ (x::xs) (.o j::as)
def liftXA (K:W.Frag) (f:Rho->Res (List Ag×Rho)):TA:=λσ H Q=>∃B F ρ,Rel K B ρ σ F H /\
 (f ρ).all (λr=>∀vs F' H',Mv K B ρ σ F H r.2 F' H'->Agr K F' σ vs r.1->Q vs H') (λ_=>False)
structure DX (X:Cx) (e:Expr) (f:Rho->Res (D×Rho)):Prop where
 out:PE X e (liftX X.K f)
structure DXA (X:Cx) (es:List Expr) (f:Rho->Res (List Ag×Rho)):Prop where
 out:PA X es (liftXA X.K f)
 ns:es.all notStar=true
section
variable {K:W.Frag}{B:Hp×Hp}{ρ ρ2:Rho}{σ:St}{F H F' H' F2 H2:Hp}
def seqX {α:Type}{fa:Rho->Res (D×Rho)}{g:D×Rho->Res α}{P:α->Prop}{T:VK} (R:Rel K B ρ σ F H) (h:((fa ρ).bind g).all P (λ_=>False))
  (k:∀r v F' H',Mv K B ρ σ F H r.2 F' H'->Rp K F' v r.1->(g r).all P (λ_=>False)->T v H'):liftX K fa σ H T :=
 ⟨B,F,ρ,R,Res.all_mono (Res.all_bind.mp h) (λr h' v F' H' m p=>k r v F' H' m p h') (λ_ e=>e)⟩
def seqXA {α:Type}{fa:Rho->Res (List Ag×Rho)}{g:List Ag×Rho->Res α}{P:α->Prop}{T:List V->Hp->Prop} (R:Rel K B ρ σ F H) (h:((fa ρ).bind g).all P (λ_=>False))
  (k:∀r v F' H',Mv K B ρ σ F H r.2 F' H'->Agr K F' σ v r.1->(g r).all P (λ_=>False)->T v H'):liftXA K fa σ H T :=
 ⟨B,F,ρ,R,Res.all_mono (Res.all_bind.mp h) (λr h' v F' H' m p=>k r v F' H' m p h') (λ_ e=>e)⟩
end
section
variable {X:Cx}{xq:XQ}{a b c e:Expr}{es:List Expr}{fa fb fx:Rho->Res (D×Rho)}{fe:Rho->Res D}{fs:Rho->Res (List Ag×Rho)}{pos pos' p apos cpos:Pos}{x:Str}
def DX.of {t:TE} (h:PE X e t) (k:∀B F ρ σ H Q,Rel X.K B ρ σ F H->(fx ρ).all (λr=>∀v F' H',Mv X.K B ρ σ F H r.2 F' H'->Rp X.K F' v r.1->Q v H') (λ_=>False)->t σ H Q):DX X e fx :=
 ⟨λpins s σ H Q I z9=>un5 z9 λB F ρ R q=>h pins s σ H Q I (k B F ρ σ H Q R q)⟩
def x_pure (h:DE X xq e fe):DX X e (λρ=>(noE (fe ρ)).bind λd=>.ok (d,ρ)) :=
 DX.of h.out λB F ρ σ H Q R q=>⟨B,F,ρ,R,u3e (Res.all_mono (Res.all_bind.mp q) (λd q v F' H' s p=>q v F' H' (Mv.of R s) p) λ_ z=>z)⟩
def xa_nil:DXA X [] (λρ=>.ok ([],ρ)):=⟨λpos pins s σ H Q I z9=>un5 z9 λB F ρ R q=>u4T pos pins s σ H Q I (q [] F H (Mv.refl R) .nil),rfl⟩
def xa_cons (ha:DX X e fx) (hr:DXA X es fs) (hs:notStar e=true:=by rfl):DXA X (e::es) (λρ=>(fx ρ).bind λd=>(fs d.2).bind λr=>.ok (.v d.1::r.1,r.2)) :=
 ⟨λpos pins s σ H Q I z9=>un5 z9 λB F ρ R q=>pac ha.out hr.out hs pos pins s σ H Q I (seqX R q λd v F1 H1 m1 p1 q1=>seqXA m1.rel q1 λr vs F2 H2 m2 p2 q2 =>
  q2 (v::vs) F2 H2 (m1.trans m2) (.v (p1.same m2.ff) p2)),by rw[z0C,hs,hr.ns];rfl⟩
noncomputable def agv:List Ag->Res (List D)
 | []=>.ok []
 | .v d::as=>(agv as).bind λds=>.ok (d::ds)
 | _=>.bad
theorem v1Z {K:W.Frag}{F:Hp}{σ:St}:∀{vs:List V}{as:List Ag}{ds:List D},Agr K F σ vs as->agv as=.ok ds->Rps K F vs ds
 | _,_,_,.nil,e=>by cases e;exact .nil
 | _,_,_,.v (as:=as) h hs,e=>by
  rw[agv] at e;cases q:agv as with
  | ok es=>rw[q] at e;cases e;exact .cons h (v1Z hs q)
  | err x=>rw[q] at e;cases e
  | bad=>rw[q] at e;cases e
 | _,_,_,.o _ _,e=>by cases e
end
section
variable {X:Cx}{xq:XQ}{a b c e:Expr}{es:List Expr}{fx:Rho->Res (D×Rho)}{fs:Rho->Res (List Ag×Rho)}{pos pos' p apos cpos:Pos}{x:Str}
def dsx_n {i:Nat} (hN:X.N.Nodup) (he:DX X e fx) (hi:X.N.findIdx? (λy=>y==x)=some i:=by rfl) (hx:Loc X.env.scope x:=by first|exact Or.inl rfl|exact Or.inr rfl) (hs:swapsWith e (some (.Name x pos')) pos.line X.env=pure false:=by rfl)
  (hf:X.fn x=true\/X.env.scope.names.lookup x=some .local:=by first|exact .inl rfl|exact .inr rfl):DS X xq (.Assign [.Name x pos'] e pos) (λρ=>(noE (fx ρ)).go ρ λr=>.nx (r.2.set i (some (.val r.1)))) :=
 DS.of (ps_n hN he.out hi hx hs hf) λB F ρ σ H T R q=>⟨B,F,ρ,R,u3e (Res.all_mono (u0F q.out) (λr q v F' H' m p=>q _ F' H' (m.rel.set p)) λ_ z=>z)⟩
end
noncomputable def whileD (fT:Rho->Res Bool) (tb:Rho->Out):Nat->Rho->Out
 | 0,_=>.bad
 | n+1,ρ=>(fT (frz ρ)).go ρ λb=>if b=true then (match tb ρ with
  | .nx ρ2=>whileD fT tb n ρ2
  | .ct ρ2=>whileD fT tb n ρ2
  | .bk ρ2=>.nx ρ2
  | o=>o) else .nx ρ
def notBad:Out->Prop
 | .bad=>False
 | _=>True
open Classical in
noncomputable def wD (fT:Rho->Res Bool) (tb:Rho->Out) (ρ:Rho):Out:=if h:∃n,notBad (whileD fT tb n ρ) then whileD fT tb h.choose ρ else .bad
theorem u2H {fT:Rho->Res Bool}{tb:Rho->Out}:∀{n:Nat}{ρ:Rho},notBad (whileD fT tb n ρ)->∀{m:Nat},n<=m->whileD fT tb m ρ=whileD fT tb n ρ
 | 0,ρ,h,m,_=>h.elim
 | n+1,ρ,h,0,hm=>absurd hm (by omega)
 | n+1,ρ,h,m+1,hm=>by
  rw[whileD] at h;rw[whileD,whileD];cases e:fT (frz ρ) with
  | bad=>rfl
  | err x=>rfl
  | ok b =>
   rw[e] at h;cases b with
   | false=>rfl
   | true =>
    simp only[go_ok,if_true] at h |-
    cases q:tb ρ with
    | nx ρ2=>rw[q] at h;exact u2H h (by omega)
    | ct ρ2=>rw[q] at h;exact u2H h (by omega)
    | _=>rfl
def wD_eq {fT:Rho->Res Bool}{tb:Rho->Out}{n:Nat}{ρ:Rho}{o:Out} (e:whileD fT tb n ρ=o) (h:notBad o):wD fT tb ρ=o:=by
 have ex:∃n,notBad (whileD fT tb n ρ):=⟨n,by rw[e];exact h⟩
 unfold wD;rw[dif_pos ex];have h1:=ex.choose_spec;rcases Nat.le_total ex.choose n with c|c
 ·rw[<- u2H h1 c,e]
 ·rw[u2H (by rw[e];exact h:notBad (whileD fT tb n ρ)) c,e]
section
variable {X:Cx}{xq:XQ}{c:Expr}{body:List Stmt}{fT:Rho->Res Bool}{tb:Rho->Out}{pos:Pos}
def u8E (hc:DT X xq c fT) (hb:DB X xq body tb) (hp:PassesOwn (model X.prog X.w) X.A X.env X.xe:=by exact PassesOwn.never):DS X xq (.While c body [] pos) (wD fT tb) :=
 DS.of (v2x hp hc.out hb.out) λB F ρ σ H T R q=>by
  obtain⟨n,q⟩:∃n,OkS X.K xq B T (whileD fT tb n ρ):=by
   unfold wD at q;split at q
   ·exact⟨_,q⟩
   ·exact q.out.elim
  refine⟨λm σ' H'=>∃ρ' F',Rel X.K B ρ' σ' F' H'/\OkS X.K xq B T (whileD fT tb m ρ'),⟨n,ρ,F,R,q⟩,?_⟩
  rintro m σ1 H1 ⟨ρ1,F1,R1,q1⟩;cases m with
  | zero=>exact q1.out.elim
  | succ m =>
   have q1:=q1.out;rw[whileD] at q1;refine⟨B,F1,ρ1,R1,Res.all_mono (u0F q1) (λb q2 H2 s2=>?_) λ_ z=>errOf z⟩
   have R2:=R1.step s2;cases b with
   | false=>exact q2 σ1 F1 H2 R2
   | true =>
    rw[if_pos rfl] at q2;show ∃N:St->Hp->Prop,_/\_;refine⟨λσ' H'=>∃ρ' F',Rel X.K B ρ' σ' F' H'/\OkS X.K xq B T (whileD fT tb m ρ'),λσ' H' p=>⟨m,Nat.lt_succ_self m,p⟩,B,F1,ρ1,R2,⟨?_⟩⟩
    generalize tb ρ1=o at q2;cases o with
    | nx ρ2=>exact λσ4 F4 H4 R4=>⟨ρ2,F4,R4,⟨q2⟩⟩
    | ct ρ2=>exact λσ4 F4 H4 R4=>⟨ρ2,F4,R4,⟨q2⟩⟩
    | bk ρ2=>exact q2
    | rt d=>exact q2
    | er x r=>exact q2
    | bad=>exact q2
end
noncomputable def getW (ρ:Rho) (i:Nat):Res ((List D->OD)×List D):=match ρ[i]? with
 | some (some (.own (.l ds)))=>.ok (OD.l,ds)
 | some (some (.own (.p a (.l ds))))=>.ok (λes=>.p a (.l es),ds)
 | _=>.bad
set_option tactic.hygienic true in
def v1i {K:W.Frag}{B:Hp×Hp}{ρ:Rho}{σ:St}{F H:Hp}{i:Nat}{P:(List D->OD)×List D->Prop}{E:D->Prop} (R:Rel K B ρ σ F H) (h:(getW ρ i).all P E) :
  ∃o a xs ds mk,ρ[i]?=some (some (.own o))/\σ[i]?=some (some (.ref a))/\H a=some (.lst xs)/\Rps K F xs ds/\(∀ys es F',Rps K F' ys es->Ro K F' a (.lst ys) (mk es))/\P (mk,ds):=by
 unfold getW at h;split at h
 ·rename_i ds e
  obtain⟨a,h',p1,p2,p3,p4,p5⟩:=R.own i _ e;cases p5 with
  | l r=>exact⟨_,a,_,ds,_,e,p1,p4,r,λys es F' q=>.l q,h⟩
 ·rename_i a0 ds e
  obtain⟨a,h',p1,p2,p3,p4,p5⟩:=R.own i _ e;cases p5 with
  | p p5 =>
   cases p5 with
   | l r=>exact⟨_,_,_,ds,_,e,p1,p4,r,λys es F' q=>.p (.l q),h⟩
 ·exact h.elim
theorem Mv.write {K:W.Frag}{B:Hp×Hp}{ρ:Rho}{σ:St}{F H:Hp}{i:Nat}{a:Addr}{h':HO}{o o':OD} (R:Rel K B ρ σ F H) (e:ρ[i]?=some (some (.own o))) (hs:σ[i]?=some (some (.ref a))) (h4:Ro K F a h' o') :
  Mv K B ρ σ F H (ρ.set i (some (.own o'))) F (upd H a h'):=by
 refine⟨R.write e hs h4,?_,Same.refl F,λb u n q=>?_,λb n _=>n⟩
 ·apply List.ext_getElem?
  intro j;rw[u5t,u5t];by_cases c:j=i
  ·subst c;rw[u3P (y6.mp e).1,e];rfl
  ·rw[u0B c]
 ·rw[u0j (λz=>by subst z;exact n i o e hs)];exact q
def tyN_mem {d:D}{t:String} (h:tyN d=some t):t∈["NoneType","bool","int","str","list","tuple","dict"]:=by
 cases d<;>simp only[tyN,Option.some.injEq,reduceCtorEq] at h<;>subst h<;>decide
structure InK (K:W.Frag) (C:Addr):Prop where
 cl:Cls K C
 ha:W.findIn K (.ref C) "__class__"=some (some (.builtin "object.__class__"))
 hn:W.specialIn K (.builtin "object.__class__") "__get__"=some (some (.builtin "getset_descriptor.__get__"))
 ht:W.takesIn K (.builtin "object.__class__")=some true
 hm:W.mroIn K C (.type "object")=some true
structure IsO (K:W.Frag) (C:Addr) (ti tx:List (Addr×Bool)):Prop where
 i:∀p∈ti,InK K p.1/\W.kitOne K (.ref p.1) (.ref C)=some p.2
 x:∀p∈tx,(∃f,XCls K p.1 f)/\W.kitOne K (.ref p.1) (.ref C)=some p.2
 b:∀T∈["NoneType","bool","int","str","list","tuple","dict"],W.kitOne K (.type T) (.ref C)=some false
noncomputable def lookB (t:List (Addr×Bool)) (C:Addr):Res D:=match t.lookup C with
 | some b=>.ok (.bl b)
 | none=>.bad
noncomputable def isO (ti tx:List (Addr×Bool)) (d:D):Res D:=match d with
 | .ins C _=>lookB ti C
 | .exc C _=>lookB tx C
 | d=>match tyN d with
  | some _=>.ok (.bl false)
  | none=>.bad
def u7F {t:List (Addr×Bool)}{C:Addr}{b:Bool} (h:t.lookup C=some b):(C,b)∈t:=by
 induction t with
 | nil=>cases h
 | cons p r ih =>
  obtain⟨k,v⟩:=p;rw[v8] at h;by_cases q:(C==k)=true
  ·rw [q] at h
   cases h;rw[beq_iff_eq.mp q];exact z5
  ·rw [Bool.eq_false_iff.mpr q] at h
   exact z4 _ (ih h)
def rIsO (K:W.Frag) (C:Addr) (ti tx:List (Addr×Bool)):List V->Hp->VK->Prop:=λxs H Q=>∃v F d b,xs=[v,.ref C]/\Same F H/\Rp K F v d/\isO ti tx d=.ok (.bl b)/\Q (.bl b) H
section
variable {X:Cx}{xq:XQ}{e:Expr}{fe:Rho->Res D}{x c:Str}{p pc pos:Pos}{C:Addr}{ti tx:List (Addr×Bool)}
def isO_bl {d y:D} (h:isO ti tx d=.ok y):∃b,y=.bl b:=by
 unfold isO lookB at h;split at h
 ·split at h<;>cases h;exact⟨_,rfl⟩
 ·split at h<;>cases h;exact⟨_,rfl⟩
 ·split at h<;>cases h;exact⟨_,rfl⟩
def isO_err {d y:D}:isO ti tx d≠.err y:=by
 intro h;unfold isO lookB at h;split at h
 ·split at h<;>cases h
 ·split at h<;>cases h
 ·split at h<;>cases h
def u8j {t:List (Addr×Bool)}{C:Addr}{b:Bool} (h:lookB t C=.ok (.bl b)):(C,b)∈t:=by
 unfold lookB at h;cases q:t.lookup C with
 | none=>rw[q] at h;cases h
 | some b'=>rw[q] at h;cases h;exact u7F q
set_option tactic.hygienic true in
def c_isO (h:IsO X.K C ti tx):CallR X (.builtin "isinstance") (rIsO X.K C ti tx):=by
 intro pins s σ H xs us Q I r z9138;obtain⟨v,F,d,b,exs,fh,pv,hd,q⟩:=z9138;subst exs;obtain⟨u,u',rfl,ru,ru'⟩:=vals2 r;cases (show u'=Value.ref C from ru')
 have fin:∀tk,∃v H',Inv X pins σ H' { s with toks:=tk }/\RelV v (.bool b)/\Q v H':=λtk=>⟨.bl b,H,I.tok _,rfl,q⟩
 cases ht:tyN d with
 | some t =>
  obtain⟨Hh,Z,hh,ne⟩:=v3X I ru fh pv ht;have eb:b=false:=by
   cases d<;>simp only[tyN,reduceCtorEq] at ht<;>(unfold isO at hd;simp only[tyN] at hd;cases hd;rfl)
  subst eb;exact W.kia_one Z I.kIn hh (h.b t (tyN_mem ht)) ne λtk=>fin tk
 | none =>
  cases pv with
  | @ins a C' dx fs gs h1 h2 =>
   cases (show u=Value.ref a from ru)
   obtain⟨K1,e⟩:=h.i _ (u8j (show lookB ti C'=.ok (.bl b) from hd))
   exact u1d I (show RelV (.ref a) (.ref a) from rfl) (.ins (fh _ _ h1) K1.cl K1.ha K1.hn K1.ht K1.hm) e fin
  | @exc a C' dx fs gs h1 h2 h3 =>
   cases (show u=Value.ref a from ru)
   obtain⟨⟨f,K1⟩,e⟩:=h.x _ (u8j (show lookB tx C'=.ok (.bl b) from hd))
   obtain⟨xa,_⟩:=(show ObjOk X.prog X.w H s.heap a (XO C' (some dx) a) from I.hok a _ (fh _ _ h1))
   obtain⟨⟨mA,n,_⟩,_⟩:=(show ObjOk X.prog X.w H s.heap dx (DXO dx fs) from I.hok dx _ (fh _ _ h2))
   obtain⟨od,_,_,qd,_⟩:=n;obtain⟨ox,J⟩:=xa.inst qd;exact W.kia_one (v2Z (dx:=none) (od:=none) K1) I.kIn ⟨ox,_,J⟩ e (λz=>nomatch z) fin
  | ty T=>simp only[isO,tyN] at hd;cases hd
  | dn _ _=>simp only[isO,tyN] at hd;cases hd
  | hdl _=>simp only[isO,tyN] at hd;cases hd
  | _=>cases ht
def v3v {K:W.Frag}{mg:MG} (h:IsO K C ti tx) (hC:mg c=some (.ref C)) (hm:mg x=none) (hv:bootBuiltins x=some (.builtin "isinstance")) (ha:DE X xq e fe) (eK:X.K=K:=by rfl) (em:X.mg=mg:=by rfl) (hs:notStar e=true:=by rfl) (hg:Gl X x:=by rfl) (hgc:Gl X c:=by rfl)
  (hn:x≠"__name__":=by decide) (hdb:(x==("__debug__":Str))=false:=by decide) (hdc:(c==("__debug__":Str))=false:=by decide) :
  DE X xq (.Call (.Name x p) [e,.Name c pc] [] pos) (λρ=>(fe ρ).bind (isO ti tx)):=by
 subst eK em;refine DE.of (pcB (c_isO h) hg hm hv (pac ha.out (pac (v0A hgc hC (show RelV (.ref C) (.ref C) from rfl) hdc) u4T) hs) hn hdb (by simp only[z0C,hs];rfl)) λB F ρ σ H Q R q=>seqE R q λd v F1 H1 s1 R1 p1 q1=>?_
 cases hd:isO ti tx d with
 | bad=>rw[hd] at q1;exact q1.elim
 | err y=>exact absurd hd isO_err
 | ok y =>
  rw[hd] at q1;obtain⟨b,rfl⟩:=isO_bl hd;exact⟨v,F1,d,b,rfl,R1.fh,p1,hd,q1 _ _ _ s1 (.bl b)⟩
end
noncomputable def popAtW (ρ:Rho) (i:Nat) (y:D) (w:(List D->OD)×List D):Res (D×Rho):=match y with
 | .int (.ofNat k)=>if k<2^63 then (match w.2[k]? with
  | some d=>.ok (d,ρ.set i (some (.own (w.1 (w.2.eraseIdx k)))))
  | none=>.bad) else .bad
 | _=>.bad
theorem v3H {K:W.Frag}{F:Hp}:∀{xs:List V}{ds:List D}{k:Nat}{d:D},Rps K F xs ds->ds[k]?=some d->∃y,xs[k]?=some y/\Rp K F y d
 | _,_,0,_,.cons h _,e=>by simp at e;subst e;exact⟨_,rfl,h⟩
 | _,_,k+1,_,.cons _ hs,e=>by simp at e;obtain⟨y,h1,h2⟩:=v3H hs e;exact⟨y,by simpa using h1,h2⟩
theorem u6k {K:W.Frag}{F:Hp}:∀{xs:List V}{ds:List D} (k:Nat),Rps K F xs ds->Rps K F (xs.eraseIdx k) (ds.eraseIdx k)
 | _,_,_,.nil=>by simp;exact .nil
 | _,_,0,.cons _ hs=>by simpa using hs
 | _,_,k+1,.cons h hs=>by simpa using .cons h (u6k k hs)
noncomputable def popL (ρ:Rho) (i:Nat):List D->Res (D×Rho)
 | [y]=>(getW ρ i).bind (popAtW ρ i y)
 | _=>.bad
section
variable {X:Cx}{xq:XQ}{x:Str}{p apos cpos:Pos}{a b e:Expr}{es:List Expr}{fs:Rho->Res (List Ag×Rho)}
set_option tactic.hygienic true in
def x_popAt (i:Nat) (ha:DXA X [e] fs) (hN:X.N[i]?=some x:=by rfl) (hv:Vis X.env.scope x:=by first|exact Or.inl rfl|exact Or.inr (Or.inl rfl)|exact Or.inr (Or.inr rfl)) (hd:(x==("__debug__":Str))=false:=by decide) (hcd:(x==("__classdict__":Str))=false:=by decide)
  (hbase:attributeBase (.Name x p) "pop" X.env (eval (.Name x p) X.env)=eval (.Name x p) X.env:=by rfl) (hline:(apos.endLine==cpos.line)=true:=by rfl) :
  DX X (.Call (.Attribute (.Name x p) "pop" apos) [e] [] cpos) (λρ=>(getW ρ i).bind λ_=>(fs ρ).bind λr=>(noE (agv r.1)).bind λds=>popL r.2 i ds) :=
 DX.of (pbm PySem.F.plainAttrs_list PySem.F.slot_list_pop PySem.F.type_list_pop v2R (u1U hN hv hd hcd) ha.out (hbase:=hbase) (hline:=hline) (hs:=ha.ns)) λB F ρ σ H Q R q=>by
  obtain⟨o0,l0,xs0,ds0,mk0,_,e0,h0,_,_,q⟩:=v1i R (Res.all_bind.mp q);refine⟨.ref l0,e0,.inl ⟨rfl,_,.inl (.inl h0)⟩,seqXA R q λr vs F1 H1 m1 p1 q1=>?_⟩
  cases w:agv r.1 with
  | err x=>rw[w] at q1;exact q1.elim
  | bad=>rw[w] at q1;exact q1.elim
  | ok ds =>
   rw[w] at q1;have rp:=v1Z p1 w
   replace q1:(popL r.2 i ds).all _ _:=q1
   match ds,rp,q1 with
   | [y],.cons py .nil,q1 =>
    obtain⟨o,l,xs,es,mk,e1,e2,e3,rr,hmk,q2⟩:=v1i m1.rel (Res.all_bind.mp q1);obtain rfl:l0=l:=by
     have:=Option.some.inj (Option.some.inj (e0.symm.trans e2))
     injection this
    unfold popAtW at q2;dsimp only at q2;split at q2
    ·rename_i k
     cases py;split at q2
     ·rename_i h63
      split at q2
      ·rename_i d hd
       obtain⟨z,hz,pz⟩:=v3H rr hd;have hk:k<xs.length:=(y6.mp hz).1;have hk:@LT.lt Int _ (k:Int) (2^63):=by omega
       refine⟨l0,xs,(k:Int),k,z,rfl,rfl,e3,by omega,hk,?_,hz,q2 z F1 _ (m1.trans (Mv.write m1.rel e1 e2 (hmk _ _ F1 (u6k k rr)))) pz⟩
       unfold seqIndex?;simp;omega
      ·exact q2.elim
     ·exact q2.elim
    ·exact q2.elim
   | [],_,q1=>exact q1.elim
   | _::_::_,_,q1=>exact q1.elim
end
def MCalleeF (P:Program) (w:World) (K:W.Frag) (mg:MG) (base:Heap) (k:Nat) (C:Addr) (m:Str) (ps:List Str) (f:FD):Prop :=
 ∃a fd,Cls K C/\Meth K C m a/\FnOk P w K mg base CX0 k a fd ps (spF K f)/\Binds K fd ps []
def spIni (K:W.Frag) (C:Addr) (g:List D->Res (List (Str×D))):Sp:=λvs H Q _=>∃F a dx rest ds,vs=.ref a::rest/\Same F H/\F a=none/\H a=some (.ins C dx [])/\Rps K F rest ds /\
 (g ds).all (λgs=>∀dx' fs F' H',Stp F (wo H a) F' H'->F' a=none->H' a=some (.ins C dx' fs)->Rpf K F' fs gs->Q .non H') (λ_=>False)
section
variable {X:Cx}{xq:XQ}{o e:Expr}{es:List Expr}{fo:Rho->Res D}{fs:Rho->Res (List D)}{f m:Str}{p pos apos:Pos}{C0:Addr}
def v3F {K:W.Frag}{f:FD}{vs:List V}{ds:List D}{F F1 H H1:Hp}{Q:VK}{E:D->Prop} (fh:Same F1 H1) (p:Rps K F1 vs ds) (s1:Stp F H F1 H1) (q:(noE (f ds)).all (λd=>∀v F' H',Stp F H F' H'->Rp K F' v d->Q v H') E):spF K f vs H1 Q E0:=by
 refine⟨F1,ds,fh,p,?_⟩;cases e:f ds with
 | ok d=>rw[e] at q;exact λv F' H' st pv=>q v F' H' (s1.trans st) pv
 | err x=>rw[e] at q;exact q.elim
 | bad=>rw[e] at q;exact q.elim
end
section
variable {X:Cx}{xq:XQ}{e:Expr}{st:Stmt}{sts:List Stmt}
def u1W:DS X xq st (λ_=>.bad):=⟨λpins s σ H T I z9=>un5 z9 λB F ρ R q=>False.elim q.out⟩
end
def KCal (P:Program) (w:World) (K:W.Frag) (mg:MG) (base:Heap) (k:Nat) (x:Str) (C:Addr) (ps:List Str) (dds:List D) (g:List D->Res (List (Str×D))):Prop :=
 ∃f fd dvs ds0,Mk K C f/\FnOk P w K mg base CX0 k f fd ps (spIni K C g)/\Binds K fd ps ds0/\Vals dvs ds0/\(∀F,Rps K F dvs dds)/\mg x=some (.ref C)
section
variable {P:Program}{w:World}{K:W.Frag}{mg:MG}{base:Heap}
set_option tactic.hygienic true in
def FunD.okI0 {x qual:Str}{st:Stmt}{f C:Addr}{fd:FuncData}{N ps:List Str}{k:Nat}{g:List D->Res (List (Str×D))} (F:FunD K x qual st f fd) (S:FnScope N ps (defScope st)) (len:∀ds gs,g ds=.ok gs->ds.length+1=ps.length)
  (hbody:∀ (cdv:Value) (A:Around) (outer:List Env) (s:Shared) (H:Hp) (E:XK),Room k (A.deeper (envOfC qual (defScope st) s.heap.objs.size f cdv)) ->
   ∃t,DB (cxOf CX0 P w K mg base N qual (defScope st) f cdv A outer s H E).nox xqF (defBody st) t/\∀a ds gs,g ds=.ok gs->outI a C (t (startI N.length a C ds))=.ok gs):FnOk P w K mg base CX0 (k+1) f fd ps (spIni K C g):=by
 obtain⟨oc,od,dV,kV,doc,pm,an,cdv,ct,osl,rfl,lk,hcd⟩:=F.ex;refine fn_of lk hcd S (λvs H Q E ⟨G,a,dx,rest,ds,e1,fh,fa,ha,r,q⟩=>by
  subst e1;rw[v9,r.length];cases e:g ds with
  | ok d=>exact len ds d e
  | err x=>rw[e] at q;exact q.elim
  | bad=>rw[e] at q;exact q.elim) λA outer s H vs Q E hr ⟨G,a,dx,rest,ds,e1,fh,fa,ha,r,q⟩=>?_
 subst e1;obtain⟨t,h1,h2⟩:=hbody cdv A outer s H E hr;refine⟨_,h1.out.nox,(G,wo H a),G,_,v1U fh fa ha r,⟨?_⟩⟩;cases e:g ds with
 | err x=>rw[e] at q;exact q.elim
 | bad=>rw[e] at q;exact q.elim
 | ok gs =>
  rw[e] at q;have z:=h2 a ds gs e;generalize t (startI N.length a C ds)=o at z;cases o with
  | nx ρ =>
   intro σ F' H' R;unfold outI at z;dsimp only at z;split at z
   ·rename_i a' C' gs' e
    split at z
    ·rename_i c
     obtain⟨rfl,rfl⟩:=c;cases z;obtain⟨b,h,p1,p2,p3,p4,p5⟩:=R.own 0 _ e;cases p5 with
     | i hr=>exact q _ _ F' H' R.st p2 p4 hr
    ·cases z
   ·cases z
  | _=>cases z
end
section
variable {X:Cx}{xq:XQ}{o e:Expr}{es:List Expr}{fo:Rho->Res D}{fs:Rho->Res (List D)}{x m:Str}{p pos apos:Pos}{C C0:Addr}
def d_makeG {P:Program}{w:World}{K:W.Frag}{mg:MG}{base:Heap}{k k':Nat}{ps:List Str}{dds:List D}{g:List D->Res (List (Str×D))} (h:KCal P w K mg base k x C ps dds g) (hr:Room k' X.A) (ha:DA X xq (e::es) fs) (hk:k+1<=k':=by decide) (hg:Gl X x:=by rfl)
  (eP:X.prog=P:=by rfl) (ew:X.w=w:=by rfl) (eK:X.K=K:=by rfl) (em:X.mg=mg:=by rfl) (eb:X.base=base:=by rfl) (hdb:(x==("__debug__":Str))=false:=by decide) :
  DE X xq (.Call (.Name x p) (e::es) [] pos) (λρ=>(fs ρ).bind λds=>(noE (g (ds++dds))).bind λgs=>.ok (.ins C gs)):=by
 subst eP ew eK em eb;obtain⟨fi,fd,dvs,ds0,M,G,hb,hd,pd,hm⟩:=h;refine DE.of (pe_make M G (hr.mono hk) hg hm hb hd pass0 ha.out hdb (u0v (u0q ha.ns).1) (u1b (u0q ha.ns).2)) λB F ρ σ H Q R q=>seqA R q λds vs F1 H1 s1 R1 p1 q1 y dx n1 n2 n3=>?_
 have sH:Same H1 (wo (upd (upd H1 dx (.own y)) y (.ins C dx [])) y):=λb o e=>by
  have b1:b≠y:=λz=>by subst z;rw[n1] at e;cases e
  have b2:b≠dx:=λz=>by subst z;rw[n2] at e;cases e
  rw[wo_ne b1,u0j b1,u0j b2];exact e
 refine⟨F1,y,dx,_,ds++dds,rfl,R1.fh.trans (sH.trans (u9Y _ _)),R1.fh.free n1,u0g,p1.append (pd F1),?_⟩;cases eg:g (ds++dds) with
 | bad=>rw[eg] at q1;exact q1.elim
 | err z=>rw[eg] at q1;exact q1.elim
 | ok gs =>
  rw[eg] at q1;intro dx' fs0 F' H' st fa ha' pf;refine⟨rfl,?_⟩;have st2:Stp F1 H1 (upd F' y (.ins C dx' fs0)) H':=⟨st.ff.trans (u0h fa),λb u z=>by
   unfold upd at z;by_cases zz:b=y
   ·rw[if_pos zz] at z;cases z;subst zz;exact ha'
   ·rw[if_neg zz] at z;exact st.fh b u z,sH.trans st.hh,λb z1 z2=>by
   unfold upd;by_cases zz:b=y
   ·subst zz;exact absurd n1 z2
   ·rw[if_neg zz];exact st.no b z1 (u2d sH z2),v0b (by intro _ _ q;cases q) st.nz⟩
  exact q1 _ _ _ (s1.trans st2) (.ins u0g (pf.same (u0h fa)))
def d_mG {P:Program}{w:World}{K:W.Frag}{mg:MG}{base:Heap}{k k':Nat}{ps:List Str}{f:FD}{pl:Sem Bool} (h:MCalleeF P w K mg base k C0 m ps f) (hr:Room k' X.A) (ho:DE X xq o fo) (ha:DA X xq (e::es) fs) (hk:k<=k':=by decide)
  (eP:X.prog=P:=by rfl) (ew:X.w=w:=by rfl) (eK:X.K=K:=by rfl) (em:X.mg=mg:=by rfl) (eb:X.base=base:=by rfl)
  (ht:eval (.Call (.Attribute o m apos) (e::es) [] pos) X.env=(do
   let ov <- eval o X.env
   standAt apos.atName
   let (f,first) <- holding [ov] (getMethod ov m pl)
   callWith pos f first (backTo pos (starEach (e::es) X.env)) (backToKw pos (keywordEach [] X.env))):=by rfl) :
  DE X xq (.Call (.Attribute o m apos) (e::es) [] pos) (λρ=>(fo ρ).bind λx=>(isI C0 m x).bind λx=>(fs ρ).bind λds=>noE (f (x::ds))):=by
 subst eP ew eK em eb;obtain⟨fa,fd,c,hm,G,hb⟩:=h;refine DE.of (pe_meth ho.out c hm G (hr.mono hk) hb .nil pass0 ha.out (u0v (u0q ha.ns).1) (u1b (u0q ha.ns).2) ht) λB F ρ σ H Q R q=>seqE R q λd v F1 H1 s1 R1 p1 q1=>?_
 obtain⟨a,dx,fs0,rfl,e1,e2,q2⟩:=v3Z p1 (Res.all_bind.mp q1);exact⟨a,dx,fs0,rfl,R1.fh _ _ e1,e2,seqA R1 q2 λds vs F2 H2 s2 R2 p2 q3=>by rw[List.append_nil];exact v3F R2.fh (.cons (p1.same s2.ff) p2) (s1.trans s2) q3⟩
def d_mG0 {P:Program}{w:World}{K:W.Frag}{mg:MG}{base:Heap}{k k':Nat}{ps:List Str}{f:FD}{pl:Sem Bool} (h:MCalleeF P w K mg base k C0 m ps f) (hr:Room k' X.A) (ho:DE X xq o fo) (hk:k<=k':=by decide)
  (eP:X.prog=P:=by rfl) (ew:X.w=w:=by rfl) (eK:X.K=K:=by rfl) (em:X.mg=mg:=by rfl) (eb:X.base=base:=by rfl)
  (ht:eval (.Call (.Attribute o m apos) [] [] pos) X.env=(do
   let ov <- eval o X.env
   standAt apos.atName
   let (f,first) <- holding [ov] (getMethod ov m pl)
   callWith pos f first (backTo pos (starEach [] X.env)) (backToKw pos (keywordEach [] X.env))):=by rfl) :
  DE X xq (.Call (.Attribute o m apos) [] [] pos) (λρ=>(fo ρ).bind λx=>(isI C0 m x).bind λx=>noE (f [x])):=by
 subst eP ew eK em eb;obtain⟨fa,fd,c,hm,G,hb⟩:=h;refine DE.of (v2D ho.out c hm G (hr.mono hk) hb .nil pass0 ht) λB F ρ σ H Q R q=>seqE R q λd v F1 H1 s1 R1 p1 q1=>?_
 obtain⟨a,dx,fs0,rfl,e1,e2,q2⟩:=v3Z p1 (Res.all_bind.mp q1);exact⟨a,dx,fs0,rfl,R1.fh _ _ e1,e2,v3F R1.fh (.cons p1 .nil) s1 q2⟩
end
noncomputable def rngN:List D->Res OD
 | [.int j]=>gd (0<=j/\j<=1000) (.ok (.l (intL 0 j.toNat)))
 | _=>.bad
section
variable {X:Cx}{xq:XQ}{a:Expr}{fa:Rho->Res (List D)}{p p2 pos pos2:Pos}
def v2d {acc:Array Value}{n:Nat} (h:ItemsOf (λi v=>∃t,v=Value.int (0+(i:Int)*1) t) acc n):Vals ((List.range n).map λ(i:Nat)=>V.int (0+(i:Int))) acc.toList:=by
 obtain⟨h1,h2⟩:=h;subst h1
 have:∀(l:List Value) (k:Nat),(∀j v,l[j]?=some v->∃t,v=Value.int (((k+j:Nat):Int)) t)->Vals ((List.range' k l.length).map λ(i:Nat)=>V.int (0+(i:Int))) l:=by
  intro l;induction l with
  | nil=>intro k _;exact .nil
  | cons v l ih =>
   intro k h;refine .cons ?_ (ih (k+1) λj v e=>?_)
   ·obtain ⟨t,e⟩:=h 0 v rfl
    exact⟨t,by rw[e];simp⟩
   ·obtain ⟨t,e⟩:=h (j+1) v (by simpa using e)
    exact⟨t,by rw[e,show k+(j+1)=k+1+j by omega]⟩
 have:=this acc.toList 0 λj v e=>by
  obtain⟨t,e⟩:=h2 j v (by simpa using e)
  exact⟨t,by rw[e];simp⟩
 rw[List.range_eq_range'];simpa using this
def line_of' {n:Nat} (h:n<=1000):n<=sizeLine:=y7 h (by decide)
theorem u8b {K:W.Frag}{F:Hp}:∀(l:List Nat),Rps K F (l.map λ(i:Nat)=>V.int (0+(i:Int))) (l.map λ(i:Nat)=>D.int (0+(i:Int)))
 | []=>.nil
 | i::l=>.cons (.int _) (u8b l)
set_option tactic.hygienic true in
def dn_rng (hc:X.calm=true) (hm:X.mg "list"=none) (hm2:X.mg "range"=none) (ha:DA X xq [a] fa) (hg:Gl X "list":=by rfl) (hg2:Gl X "range":=by rfl) :
  DN X xq (.Call (.Name "list" p) [.Call (.Name "range" p2) [a] [] pos2] [] pos) (λρ=>(fa ρ).bind rngN):=⟨λpins s σ H Q I z9=>un5 z9 λB F ρ R q=>by
 refine Call_ (u3s I hg hm (show bootBuiltins "list"=some (.type "list") by decide +kernel) (PyProof.Rows.callWith_type1 ?_ rfl rfl))
 show wpAny _ _ (spliced ((false,eval (.Call (.Name "range" p2) [a] [] pos2) X.env)::[])) _ _ s;refine Calls.spliced_cons ?_;refine Call_ (u3s I hg2 hm2 boot_range (PyProof.Rows.callWith_type1 (thn (ha.out pos2 pins s σ H (λvs H1=>∃j F1,vs=[.int j]/\(0<=j/\j<=1000)/\Stp F H F1 H1 /\
   (∀a h F' H',Stp F H F' H'->F' a=none->H a=none->H' a=some h->Ro X.K F' a h (.l (intL 0 j.toNat))->Q (.ref a) H')) I (seqA R q λds vs F1 H1 s1 R1 p1 q1=>?_)) λus s1 ⟨vs,H1,I1,r1,q1⟩=>?_) (u0v (u0q ha.ns).1) (u1b (u0q ha.ns).2)))
 ·unfold rngN at q1
  split at q1
  ·rename_i j
   obtain⟨v,rfl,pv⟩:=rps1 p1;cases pv;unfold gd at q1;split at q1
   ·rename_i c
    exact⟨j,F1,rfl,c,s1,q1⟩
   ·exact False.elim q1
  ·exact False.elim q1
 ·obtain ⟨j,F1,e,hj,st1,q⟩:=q1
  subst e;obtain⟨u1,rfl,ru1⟩:=vals1 r1;obtain⟨t,rfl⟩:=(show ∃t,u1=Value.int j t from ru1)
  have hh:X.A.handled=none:=I1.ok.hd hc;refine call_range_1 ?_;refine Calls.spliced_nil ?_;refine call_list_range hh (IsRange.new ..) (small_one (by omega) (by omega) (by omega) (by omega)) (show Builtin.Range.rangeSize 0 j 1=((j.toNat:Nat):Int) by rw[rangeSize_one];split<;>omega) (by omega) λh' tk acc c kk eS it=>?_
  have lA:s1.heap.objs.size<=s1.heap.objs.size+1:=Nat.le_succ _;have fS:H1 (s1.heap.objs.size+1)=none:=I1.hok.fresh lA;have I2:=I1.laid (h':=h') (t':=tk) (a:=s1.heap.objs.size+1) (o:=.lst ((List.range j.toNat).map λ(i:Nat)=>V.int (0+(i:Int)))) (λb o e=>kk b o (z0 _ e)) lA ⟨line_of' (by simp;omega),acc.toList,c,v2d it,by simpa using eS⟩
  exact⟨.ref (s1.heap.objs.size+1),_,I2,by show Value.ref _=Value.ref _;simp[Heap.push],q _ _ F1 _ (st1.trans ⟨Same.refl _,st1.fh.trans (u0h fS),u0h fS,λb f1 hb=>f1,λ_ _ _ q=>q⟩) (st1.fh.free fS) (st1.hh.free fS) u0g (.l (u8b _))⟩⟩
end
end L2
namespace L2
open PySem PySem.Spec PyProof.Rows PySem.W PySem.Calls
noncomputable def gSA:List D->Res D
 | [.lst ds]=>match strsOf ds with
  | some ss=>gd (ss.length<64) (.ok (.lst ((sortT ss).map D.str)))
  | none=>.bad
 | ds=>gSD ds
section
variable {X:Cx}{xq:XQ}{e i:Expr}{fi:Rho->Res D}{fs:Rho->Res (List D)}{p p2 pos pos2:Pos}
def u9T (hc:X.calm=true):CallR X (.builtin "sorted") (λxs H Q=>∃l ss,xs=[.ref l]/\SqL X.K H l (ss.map V.str)/\ss.length<64/\∀p,H p=none->Q (.ref p) (upd H p (.lst ((sortT ss).map V.str)))):=by
 intro pins s σ H xs us Q I r z9142;obtain⟨l,ss,e,hq,h64,q⟩:=z9142;subst e;obtain⟨u,rfl,ru⟩:=vals1 r;cases ru;obtain⟨its,rv,hl,hz⟩:=I.list hq;have hv:=u3M rv;have hz2:ss.length<=sizeLine:=by rw[sizeLine_eq];omega
 have hi:its.length<=sizeLine:=by have:=rv.length;rw[<- this];simpa using hz2
 refine u3O h64 (λB E' R hB k=>collect_list (vs:=its) hl.isList (k _ its ss ⟨λb o e=>?_,rfl,rfl⟩ hv (List.Perm.refl _)) hi) λs' s'' D out n f1 f2 hD g hv=>u4g I f1 f2 hD g hv (by rw[u1r];exact hz2) q
 show(Heap.update _ _ _).get? b=some o;have lt:=z8 e;rw[Heap.get?_update_ne _ _ _ _ (x0 lt)];exact z0 _ e
set_option tactic.hygienic true in
def v1S (hc:X.calm=true):CallR X (.builtin "sorted") (rDs X.K gSA):=by
 intro pins s σ H xs us Q I r z9143;obtain⟨F,ds,fh,ps,q⟩:=z9143;unfold gSA at q;split at q
 ·rename_i dl
  obtain⟨v,rfl,pv⟩:=rps1 ps;cases hk:strsOf dl with
  | none=>simp only[hk] at q;exact q.elim
  | some ss =>
   simp only[hk] at q;obtain⟨h64,q⟩:=u3D q;cases pv with
   | lst hq hr =>
    obtain⟨e1,e2⟩:=u3N hr hk;subst e1;exact u9T hc pins s σ H _ us Q I r ⟨_,ss,rfl,.inl (hq.same fh),h64,λb nb=>q _ _ _ (Stp.new fh nb) (.lst (.inl u0g) (u3J λz h=>e2 z (u1q.mp h)))⟩
 ·exact v1R hc pins s σ H _ us Q I r ⟨F,ds,fh,ps,q⟩
noncomputable def inK:D->D->Res D
 | x,.dct ps=>(keyK x).bind λk=>.ok (.bl (valD ps k).isSome)
 | _,_=>.bad
def o_inK (hu:X.A.units+200<cLine):OpR X (compareOp .In) (rD X.K inK):=by
 intro pins s σ H x y v u Q I rx ry z9144;obtain⟨F,dx,dy,fh,px,py,q⟩:=z9144;cases py with
 | @dK a kvs ps hq hr =>
  obtain⟨k,ek,q2⟩:=u2e px (Res.all_bind.mp (show((keyK dx).bind _).all _ _ from q))
  subst ek;cases ry;refine d_in (by omega) I (DGet.k (fh _ _ hq)) rx λs' I'=>⟨.bl _,H,I',rfl,?_⟩
  have:=hr.val (k:=k)
  cases e:valD ps k with
  | none=>rw[e] at this q2;rw[this];exact q2 _ F H (Stp.refl fh) (.bl _)
  | some d=>rw[e] at this q2;obtain⟨z,hz,_⟩:=this;rw[hz];exact q2 _ F H (Stp.refl fh) (.bl _)
 | _=>cases dx<;>exact False.elim q
noncomputable def nInK:D->D->Res D
 | x,.dct ps=>(keyK x).bind λk=>.ok (.bl (!(valD ps k).isSome))
 | _,_=>.bad
def u6z (hu:X.A.units+200<cLine):OpR X (compareOp .NotIn) (rD X.K nInK):=by
 intro pins s σ H x y v u Q I rx ry z9145;obtain⟨F,dx,dy,fh,px,py,q⟩:=z9145;cases py with
 | @dK a kvs ps hq hr =>
  obtain⟨k,ek,q2⟩:=u2e px (Res.all_bind.mp (show((keyK dx).bind _).all _ _ from q))
  subst ek;cases ry;refine d_notIn (by omega) I (DGet.k (fh _ _ hq)) rx λs' I'=>⟨.bl _,H,I',rfl,?_⟩
  have:=hr.val (k:=k)
  cases e:valD ps k with
  | none=>rw[e] at this q2;rw[this];exact q2 _ F H (Stp.refl fh) (.bl _)
  | some d=>rw[e] at this q2;obtain⟨z,hz,_⟩:=this;rw[hz];exact q2 _ F H (Stp.refl fh) (.bl _)
 | _=>cases dx<;>exact False.elim q
def d_ixD {x:Str} (j:Nat) (hu:X.A.units+1<cLine) (hi:DE X xq i fi) (hN:X.N[j]?=some x:=by rfl) (hvs:Vis X.env.scope x:=by first|exact Or.inl rfl|exact Or.inr (Or.inl rfl)|exact Or.inr (Or.inr rfl)) (hd:(x==("__debug__":Str))=false:=by decide) (hcd:(x==("__classdict__":Str))=false:=by decide)
  (hs:NoSl i:=by intro _ _;rfl):DE X xq (.Subscript (.Name x p) i pos) (λρ=>(getD' ρ j).bind λps=>(fi ρ).bind (gIxK (.dct ps))) :=
 DE.of (u7B hu (u1U hN hvs hd hcd) hi.out hs) λB F ρ σ H Q R q=>by
  obtain⟨ps,eo,q1⟩:=getD'_ok (Res.all_bind.mp q);obtain⟨a,h,g1,g2,g3,g4,g5⟩:=R.own j _ eo;refine⟨.ref a,g1,seqE R q1 λd v F1 H1 s1 R1 p1 q2=>?_⟩
  obtain⟨a',h',k1,k2,k3,k4,k5⟩:=R1.own j _ eo;rw[g1] at k1;cases k1;cases k5 with
  | d hr =>
   obtain⟨k,ek,q3⟩:=u2e p1 (Res.all_bind.mp (show((keyK d).bind _).all _ _ from q2))
   subst ek
   have:=hr.val (k:=k)
   cases e:valD ps k with
   | none=>rw[e] at q3;exact q3.elim
   | some d3 =>
    rw[e] at this q3;obtain⟨z,hz,pz⟩:=this;refine⟨a,z,rfl,?_,q3 z F1 H1 s1 pz⟩;have g:=DGet.k (k:=k) k4;rw[hz] at g;exact g
def v3t {fk fv:Rho->Res D}{k v:Expr} (hk:DE X xq k fk) (hv:DE X xq v fv):DN X xq (.Dict [some k] [v] pos) (λρ=>(fk ρ).bind λx=>(fv ρ).bind λy=>(keyK x).bind λc=>.ok (.d [(kD c,y)])) :=
 ⟨λpins s σ H Q I z9=>un5 z9 λB F ρ R q=>pe_disp (v2y hk.out hv.out pps_nil) rfl rfl (by simp) (by simp) pins s σ H Q I λa n=>by
  have s0:Stp F H F (upd H a (.dK [])):=Stp.only R.fh (u0h n);have hn:F a=none:=R.fh.free n;refine seqE (R.step s0) q λx vx F1 H1 s1 R1 p1 q1=>seqE R1 q1 λy vy F2 H2 s2 R2 p2 q2=>?_
  obtain⟨c,ec,q3⟩:=u2e (p1.same s2.ff) (Res.all_bind.mp q2);subst ec;have s12:=s1.trans s2;have f2:F2 a=none:=s12.no a hn (by rw[u0g];simp)
  have h2:H2 a=some (.dK []):=s12.hh a _ u0g;refine⟨h2,[(c,vy)],rfl,by simp,?_⟩
  have fin:Stp F H F2 (upd H2 a (.dK [(c,vy)])):=⟨s12.ff,λb o e=>?_,λb o e=>?_,λb e1 e2=>s12.no b e1 (u2d s0.hh e2),s12.nz⟩
  ·exact q3 a _ F2 _ fin f2 n u0g (.d (.cons p2 .nil))
  ·have ne:b≠a:=fun z=>by subst z;rw [f2] at e;cases e
   unfold upd;rw[if_neg ne];exact s12.fh b o e
  ·have ne:b≠a:=fun z=>by subst z;rw [n] at e;cases e
   unfold upd;rw[if_neg ne];exact s12.hh b o (s0.hh b o e)⟩
end
end L2
namespace K19
open PySem L2 KW PySem.Spec PyProof.Rows
def bc {a:Prop} (h:¬a->False):a:=Classical.byContradiction h
def top (i:Nat):Stmt:=PySem.Challenge.pw_rulestable_k19_ways_and_live_rules.main.body.getD i (.Pass ⟨0,0,0,0⟩)
def meth (i j:Nat):Stmt:=match top i with
 | .ClassDef (body:=b) ..=>b.getD j (.Pass ⟨0,0,0,0⟩)
 | _=>.Pass ⟨0,0,0,0⟩
def hu1 {A:Around}{k:Nat} (hr:Room k A):A.units+1<cLine:=by have:=hr.un;omega
def hu64 {A:Around}{k:Nat} (hr:Room k A):A.units+64<cLine:=by have:=hr.un;omega
def hu100 {A:Around}{k:Nat} (hr:Room k A):A.units+100<cLine:=by have:=hr.un;omega
def hu200 {A:Around}{k:Nat} (hr:Room k A):A.units+200<cLine:=by have:=hr.un;omega
structure Adr where
 Vast:Addr
 Dead:Addr
 TableError:Addr
 Grammar:Addr
structure Txt (P:Program) (w:World) (K:W.Frag) (mg:MG) (A:Adr):Prop where
 z_isinstance:mg "isinstance"=none
 z_str:mg "str"=none
 z_int:mg "int"=none
 z_bool:mg "bool"=none
 z_list:mg "list"=none
 z_tuple:mg "tuple"=none
 z_dict:mg "dict"=none
 z_len:mg "len"=none
 z_all:mg "all"=none
 z_any:mg "any"=none
 z_range:mg "range"=none
 z_enumerate:mg "enumerate"=none
 z_sorted:mg "sorted"=none
 z_set:mg "set"=none
 z_zip:mg "zip"=none
 z_max:mg "max"=none
 g_SIDES:GloD K mg "SIDES" (.tup [(.str "left"),(.str "right"),(.str "none")])
 g_MOST_IN_BODY:GloD K mg "MOST_IN_BODY" (.int 4)
 g_MOST_IN_RANK:GloD K mg "MOST_IN_RANK" (.int 10)
 g_MOST_RULES:GloD K mg "MOST_RULES" (.int 20)
 g_MOST_HEADS:GloD K mg "MOST_HEADS" (.int 8)
 g_MOST_SIGNS:GloD K mg "MOST_SIGNS" (.int 10)
 g_MOST_RANKS:GloD K mg "MOST_RANKS" (.int 6)
 g_LONGEST:GloD K mg "LONGEST" (.int 6)
 g_IN_SIGNS:GloD K mg "IN_SIGNS" (.str "abcdefghijklmnopqrstuvwxyz0123456789+-*/()[]=<>,;.!?^&")
 g_GREAT:GloD K mg "GREAT" (.str "ABCDEFGHIJKLMNOPQRSTUVWXYZ")
 g_SMALL_AND_FIGURES:GloD K mg "SMALL_AND_FIGURES" (.str "abcdefghijklmnopqrstuvwxyz0123456789")
 g_MOST_SIZE:GloD K mg "MOST_SIZE" (.int 40)
 m_Vast:mg "Vast"=some (.ref A.Vast)
 b_Vast:XBase K A.Vast
 m_Dead:mg "Dead"=some (.ref A.Dead)
 b_Dead:XBase K A.Dead
 m_TableError:mg "TableError"=some (.ref A.TableError)
 b_TableError:XBase K A.TableError
 cls:Cls K A.Grammar
 na_rules:NoAttr K A.Grammar "rules"
 na_ranks:NoAttr K A.Grammar "ranks"
 na_start:NoAttr K A.Grammar "start"
 x_number:XRead K "number" [A.Dead]
 x_head:XRead K "head" [A.Vast]
 o_TableError:IsO K A.TableError [] [(A.Dead,true),(A.Vast,true)]
 o_Vast:IsO K A.Vast [] [(A.Dead,false)]
 o_Dead:IsO K A.Dead [] [(A.Vast,false)]
 ne_dv:A.Dead≠A.Vast
abbrev u3b:Stmt:=top 15
def u7n:FnScope ["thing"] ["thing"] (defScope u3b):=⟨rfl,rfl,rfl,by decide +kernel,rfl,by decide +kernel,by decide +kernel⟩
abbrev u1w:Stmt:=top 16
def u3y:FnScope ["thing"] ["thing"] (defScope u1w):=⟨rfl,rfl,rfl,by decide +kernel,rfl,by decide +kernel,by decide +kernel⟩
abbrev u2h:Stmt:=top 17
def u7p:FnScope ["text","allowed"] ["text","allowed"] (defScope u2h):=⟨rfl,rfl,rfl,by decide +kernel,rfl,by decide +kernel,by decide +kernel⟩
abbrev u3U:Stmt:=top 18
def u9d:FnScope ["thing"] ["thing"] (defScope u3U):=⟨rfl,rfl,rfl,by decide +kernel,rfl,by decide +kernel,by decide +kernel⟩
abbrev u3Z:Stmt:=top 19
def u9i:FnScope ["thing"] ["thing"] (defScope u3Z):=⟨rfl,rfl,rfl,by decide +kernel,rfl,by decide +kernel,by decide +kernel⟩
abbrev u2t:Stmt:=top 20
def u6i:FnScope ["thing"] ["thing"] (defScope u2t):=⟨rfl,rfl,rfl,by decide +kernel,rfl,by decide +kernel,by decide +kernel⟩
abbrev u3Y:Stmt:=top 29
def u9h:FnScope ["thing"] ["thing"] (defScope u3Y):=⟨rfl,rfl,rfl,by decide +kernel,rfl,by decide +kernel,by decide +kernel⟩
abbrev u2J:Stmt:=top 30
def u9j:FnScope ["thing"] ["thing"] (defScope u2J):=⟨rfl,rfl,rfl,by decide +kernel,rfl,by decide +kernel,by decide +kernel⟩
abbrev u3W:Stmt:=top 31
def u9f:FnScope ["thing"] ["thing"] (defScope u3W):=⟨rfl,rfl,rfl,by decide +kernel,rfl,by decide +kernel,by decide +kernel⟩
abbrev u3V:Stmt:=top 32
def u9e:FnScope ["thing"] ["thing"] (defScope u3V):=⟨rfl,rfl,rfl,by decide +kernel,rfl,by decide +kernel,by decide +kernel⟩
abbrev u0V:Stmt:=top 33
def u3z:FnScope ["thing"] ["thing"] (defScope u0V):=⟨rfl,rfl,rfl,by decide +kernel,rfl,by decide +kernel,by decide +kernel⟩
abbrev u3X:Stmt:=top 34
def u9g:FnScope ["thing"] ["thing"] (defScope u3X):=⟨rfl,rfl,rfl,by decide +kernel,rfl,by decide +kernel,by decide +kernel⟩
abbrev u2g:Stmt:=top 35
def u7o:FnScope ["rules"] ["rules"] (defScope u2g):=⟨rfl,rfl,rfl,by decide +kernel,rfl,by decide +kernel,by decide +kernel⟩
abbrev u2W:Stmt:=top 36
def u1J:FnScope ["rules","found","rule","symbol"] ["rules"] (defScope u2W):=⟨rfl,rfl,rfl,by decide +kernel,rfl,by decide +kernel,by decide +kernel⟩
abbrev u1Z:Stmt:=top 37
def u1j:FnScope ["rules","ahead","number","rule"] ["rules"] (defScope u1Z):=⟨rfl,rfl,rfl,by decide +kernel,rfl,by decide +kernel,by decide +kernel⟩
abbrev u0T:Stmt:=top 38
def u0C:FnScope ["rules","known","rule","symbol"] ["rules"] (defScope u0T):=⟨rfl,rfl,rfl,by decide +kernel,rfl,by decide +kernel,by decide +kernel⟩
abbrev u0U:Stmt:=top 39
def u0N:FnScope ["rules","heads","signs"] ["rules"] (defScope u0U):=⟨rfl,rfl,rfl,by decide +kernel,rfl,by decide +kernel,by decide +kernel⟩
abbrev u2a:Stmt:=top 40
def u1k:FnScope ["ranks","ahead","rank","sign"] ["ranks"] (defScope u2a):=⟨rfl,rfl,rfl,by decide +kernel,rfl,by decide +kernel,by decide +kernel⟩
abbrev u1P:Stmt:=top 44
def u4E:FnScope ["grammar"] ["grammar"] (defScope u1P):=⟨rfl,rfl,rfl,by decide +kernel,rfl,by decide +kernel,by decide +kernel⟩
abbrev u1a:Stmt:=top 45
def u3Q:FnScope ["grammar"] ["grammar"] (defScope u1a):=⟨rfl,rfl,rfl,by decide +kernel,rfl,by decide +kernel,by decide +kernel⟩
abbrev u3R:Stmt:=top 46
def u1G:FnScope ["body","sizes","size","symbol"] ["body","sizes"] (defScope u3R):=⟨rfl,rfl,rfl,by decide +kernel,rfl,by decide +kernel,by decide +kernel⟩
abbrev u2V:Stmt:=top 47
def u0H:FnScope ["grammar","numbers","sizes","changed","number","head","size"] ["grammar","numbers"] (defScope u2V):=⟨rfl,rfl,rfl,by decide +kernel,rfl,by decide +kernel,by decide +kernel⟩
abbrev u1L:Stmt:=top 48
def u4C:FnScope ["grammar"] ["grammar"] (defScope u1L):=⟨rfl,rfl,rfl,by decide +kernel,rfl,by decide +kernel,by decide +kernel⟩
abbrev u1Y:Stmt:=top 49
def u1i:FnScope ["grammar","whole","bare","head"] ["grammar"] (defScope u1Y):=⟨rfl,rfl,rfl,by decide +kernel,rfl,by decide +kernel,by decide +kernel⟩
abbrev u0G:Stmt:=top 50
def u1s:FnScope ["grammar","sizes"] ["grammar"] (defScope u0G):=⟨rfl,rfl,rfl,by decide +kernel,rfl,by decide +kernel,by decide +kernel⟩
abbrev u2I:Stmt:=top 51
def u0K:FnScope ["grammar","numbers","ways","waiting","head","own","number","place","symbol"] ["grammar"] (defScope u2I):=⟨rfl,rfl,rfl,by decide +kernel,rfl,by decide +kernel,by decide +kernel⟩
abbrev u7Z:Stmt:=top 52
def v0p:FnScope ["grammar","ways"] ["grammar"] (defScope u7Z):=⟨rfl,rfl,rfl,by decide +kernel,rfl,by decide +kernel,by decide +kernel⟩
abbrev u2b:Stmt:=top 53
def u1K:FnScope ["grammar","alive","number"] ["grammar"] (defScope u2b):=⟨rfl,rfl,rfl,by decide +kernel,rfl,by decide +kernel,by decide +kernel⟩
abbrev u3a:Stmt:=top 55
def u7m:FnScope ["_law_script","_law_k"] ["_law_script","_law_k"] (defScope u3a):=⟨rfl,rfl,rfl,by decide +kernel,rfl,by decide +kernel,by decide +kernel⟩
abbrev u2Z:Stmt:=top 56
def u2n:FnScope ["_law_cell_here","_law_k","_law_number"] ["_law_cell_here","_law_k"] (defScope u2Z):=⟨rfl,rfl,rfl,by decide +kernel,rfl,by decide +kernel,by decide +kernel⟩
abbrev u3T:Stmt:=top 57
def u1o:FnScope ["_law_script","_law_at","_law_base","_law_count","_law_cell_here","_law_left","_law_found","_law_k"] ["_law_script","_law_at","_law_base","_law_count"] (defScope u3T):=⟨rfl,rfl,rfl,by decide +kernel,rfl,by decide +kernel,by decide +kernel⟩
abbrev u2r:Stmt:=top 58
def u3o:FnScope ["_law_number","_law_some"] ["_law_number"] (defScope u2r):=⟨rfl,rfl,rfl,by decide +kernel,rfl,by decide +kernel,by decide +kernel⟩
abbrev u2c:Stmt:=top 59
def u5u:FnScope ["_law_number","_law_heads","_law_signs"] ["_law_number","_law_heads","_law_signs"] (defScope u2c):=⟨rfl,rfl,rfl,by decide +kernel,rfl,by decide +kernel,by decide +kernel⟩
abbrev u1N:Stmt:=top 60
def u0z:FnScope ["_law_script","_law_at","_law_letters","_law_some","_law_draws","_law_tails","_law_heads","_law_k","_law_letter"] ["_law_script","_law_at"] (defScope u1N):=⟨rfl,rfl,rfl,by decide +kernel,rfl,by decide +kernel,by decide +kernel⟩
abbrev u1u:Stmt:=top 61
def u0m:FnScope ["_law_script","_law_at","_law_heads","_law_signs","_law_draws","_law_rules_here","_law_head","_law_body","_law_k","_law_row_here"] ["_law_script","_law_at"] (defScope u1u):=⟨rfl,rfl,rfl,by decide +kernel,rfl,by decide +kernel,by decide +kernel⟩
abbrev u1O:Stmt:=top 62
def u4D:FnScope ["_law_symbol_here"] ["_law_symbol_here"] (defScope u1O):=⟨rfl,rfl,rfl,by decide +kernel,rfl,by decide +kernel,by decide +kernel⟩
abbrev u2q:Stmt:=top 63
def u1c:FnScope ["_law_sizes_here","_law_body","_law_total_here","_law_symbol_here"] ["_law_sizes_here","_law_body"] (defScope u2q):=⟨rfl,rfl,rfl,by decide +kernel,rfl,by decide +kernel,by decide +kernel⟩
abbrev u1M:Stmt:=top 64
def u0I:FnScope ["_law_rules_here","_law_empty","_law_sizes_here","_law_turn","_law_head","_law_body","_law_total_here"] ["_law_rules_here","_law_empty"] (defScope u1M):=⟨rfl,rfl,rfl,by decide +kernel,rfl,by decide +kernel,by decide +kernel⟩
abbrev u1v:Stmt:=top 65
def u3p:FnScope ["_law_rules_here","_law_sizes_here","_law_bare","_law_heads"] ["_law_rules_here","_law_sizes_here","_law_bare"] (defScope u1v):=⟨rfl,rfl,rfl,by decide +kernel,rfl,by decide +kernel,by decide +kernel⟩
abbrev u2s:Stmt:=top 67
def u0J:FnScope ["_law_rules_here","_law_sizes_here","_law_found","_law_turn","_law_head","_law_body","_law_symbol_here"] ["_law_rules_here","_law_sizes_here"] (defScope u2s):=⟨rfl,rfl,rfl,by decide +kernel,rfl,by decide +kernel,by decide +kernel⟩
abbrev u2X:Stmt:=top 68
def u0O:FnScope ["_law_rules_here","_law_found","_law_sizes_here","_law_heads","_law_head","_law_here","_law_number","_law_place"] ["_law_rules_here","_law_found","_law_sizes_here"] (defScope u2X):=⟨rfl,rfl,rfl,by decide +kernel,rfl,by decide +kernel,by decide +kernel⟩
abbrev u2Y:Stmt:=top 69
def u0P:FnScope ["_law_grammar","_law_found","e"] ["_law_grammar"] (defScope u2Y):=⟨rfl,rfl,rfl,by decide +kernel,rfl,by decide +kernel,by decide +kernel⟩
abbrev u4F:Stmt:=top 70
def u1h:FnScope ["_law_script","_law_rules_here","_law_grammar","_law_sizes_here","_law_bare","_law_found","_law_heads","_law_due","_law_number","_law_rule","_law_head","_law_dead","_law_great_here","_law_told_here"] ["_law_script"] (defScope u4F):=⟨rfl,rfl,rfl,by decide +kernel,rfl,by decide +kernel,by decide +kernel⟩
abbrev u3S:Stmt:=meth 41 1
def u9c:FnScope ["self"] ["self"] (defScope u3S):=⟨rfl,rfl,rfl,by decide +kernel,rfl,by decide +kernel,by decide +kernel⟩
abbrev v0q:Stmt:=meth 41 2
abbrev u1t:Stmt:=meth 41 4
def u3x:FnScope ["self","number"] ["self","number"] (defScope u1t):=⟨rfl,rfl,rfl,by decide +kernel,rfl,by decide +kernel,by decide +kernel⟩
abbrev u2o:Stmt:=meth 41 5
def u6g:FnScope ["self","number"] ["self","number"] (defScope u2o):=⟨rfl,rfl,rfl,by decide +kernel,rfl,by decide +kernel,by decide +kernel⟩
abbrev u2p:Stmt:=meth 41 6
def u6h:FnScope ["self","number"] ["self","number"] (defScope u2p):=⟨rfl,rfl,rfl,by decide +kernel,rfl,by decide +kernel,by decide +kernel⟩
noncomputable def isStrD:D->Bool
 | .str _=>true
 | _=>false
noncomputable def isTupD:D->Bool
 | .tup _=>true
 | _=>false
def a_str {d:D} (h:selfD d=true):gIsA [d,.ty "str"]=.ok (.bl (isStrD d)):=by cases d<;>first|rfl|simp[selfD] at h
def a_tup {d:D} (h:selfD d=true):gIsA [d,.ty "tuple"]=.ok (.bl (isTupD d)):=by cases d<;>first|rfl|simp[selfD] at h
noncomputable def signT:Str:="abcdefghijklmnopqrstuvwxyz0123456789+-*/()[]=<>,;.!?^&"
noncomputable def greatT:Str:="ABCDEFGHIJKLMNOPQRSTUVWXYZ"
noncomputable def smallT:Str:="abcdefghijklmnopqrstuvwxyz0123456789"
@[simp] theorem fold_sign:Str.ofString "abcdefghijklmnopqrstuvwxyz0123456789+-*/()[]=<>,;.!?^&"=signT:=rfl
@[simp] theorem fold_great:Str.ofString "ABCDEFGHIJKLMNOPQRSTUVWXYZ"=greatT:=rfl
@[simp] theorem fold_small:Str.ofString "abcdefghijklmnopqrstuvwxyz0123456789"=smallT:=rfl
noncomputable def fstC (z:Str):Str:=⟨#[z.cps.getD 0 0]⟩
noncomputable def tailC (z:Str):Str:=Txt.slice z (some 1) none
noncomputable def onlyS (z a:Str):Bool:=z.cps.toList.all λc=>inS ⟨#[c]⟩ a
noncomputable def shortS (z:Str):Bool:=decide (1<=z.length)&&decide (z.length<=6)
noncomputable def sgnS (z:Str):Bool:=shortS z&&onlyS z signT
noncomputable def hdS (z:Str):Bool:=shortS z&&(inS (fstC z) greatT&&onlyS (tailC z) smallT)
noncomputable def sgnD:D->Bool
 | .str z=>sgnS z
 | _=>false
noncomputable def hdD:D->Bool
 | .str z=>hdS z
 | _=>false
noncomputable def shortD:D->Bool
 | .str z=>shortS z
 | _=>false
noncomputable def symD (d:D):Bool:=sgnD d||hdD d
noncomputable def pairD:D->Bool
 | .tup [_,_]=>true
 | _=>false
noncomputable def bodyD:D->Bool
 | .tup ds=>decide (ds.length<=4)&&ds.all symD
 | _=>false
noncomputable def ruleD:D->Bool
 | .tup [h,b]=>hdD h&&bodyD b
 | _=>false
noncomputable def goodS (z:Str):Bool:=PyData.strOk z&&decide (z.length<=1000)
mutual
noncomputable def goodD:D->Bool
 | .non | .bl _ | .int _=>true
 | .str z=>goodS z
 | .lst ds | .tup ds=>goodDs ds
 | .dct ps=>ps.isEmpty
 | _=>false
noncomputable def goodDs:List D->Bool
 | []=>true
 | d::ds=>goodD d&&goodDs ds
end
mutual
theorem u1I:∀{d:D},goodD d=true->selfD d=true
 | .non,_ | .bl _,_ | .int _,_ | .str _,_=>rfl
 | .lst ds,h=>u3h (ds:=ds) h
 | .tup ds,h=>u3h (ds:=ds) h
 | .dct ps,h=>h
 | .ty _,h=>by simp[goodD] at h
 | .ins _ _,h=>by simp[goodD] at h
 | .exc _ _,h=>by simp[goodD] at h
 | .dn _ _,h=>by simp[goodD] at h
 | .hdl _,h=>by simp[goodD] at h
theorem u3h:∀{ds:List D},goodDs ds=true->selfDs ds=true
 | [],_=>rfl
 | d::ds,h=>by
  have h:=u6.mp h;exact u6.mpr ⟨u1I h.1,u3h h.2⟩
end
theorem u8u:∀{ds:List D},goodDs ds=true->∀d∈ds,goodD d=true
 | [],_,d,h=>(z0D h).elim
 | x::ds,hs,d,h=>by
  have hs:=u6.mp hs;rcases y0.mp h with rfl|h
  ·exact hs.1
  ·exact u8u hs.2 d h
theorem v1g:∀{ds:List D},(∀d∈ds,goodD d=true)->goodDs ds=true
 | [],_=>rfl
 | x::ds,h=>u6.mpr ⟨h x z5,v1g λd k=>h d (z4 _ k)⟩
def u2j {ds:List D} (h:goodD (.tup ds)=true):∀d∈ds,goodD d=true:=u8u (by simpa[goodD] using h)
def P1 (p:D->Bool) (G:FD):Prop:=∀d,goodD d=true->G [d]=.ok (.bl (p d))
theorem u2R {α:Type} (p:α->Bool):∀l:List α,blsOf (l.map λd=>D.bl (p d))=some (l.map p)
 | []=>rfl
 | x::l=>by simp[blsOf,u2R p l]
def v1O (z:Str):(chars z).length=z.length:=by unfold chars;rw[x6,t0];rfl
def u0D {n:Nat} (h:n<=1000):n<=sizeLine:=y7 h (by decide)
def u7X {z:Str} (h:shortS z=true):z.length<=6:=by
 unfold shortS at h;simp at h;exact h.2
@[simp] theorem v3o {α:Type} (p:α->Bool) (l:List α):gAll [.lst (l.map λd=>D.bl (p d))]=.ok (.bl (l.all p)):=by
 show(match blsOf (l.map λd=>D.bl (p d)) with|some bs=>Res.ok (D.bl (bs.all id))|none=>.bad)=_
 rw[u2R];simp[List.all_map,Function.comp_def]
noncomputable def chIn (a:Str):D->Bool
 | .str c=>inS c a
 | _=>false
def v1Y (z a:Str):((chars z).all λd=>chIn a d)=onlyS z a:=by
 unfold chars onlyS;rw[List.all_map];rfl
def v1K (z:Str):z.cps.toList.length=z.length:=by rw[t0];rfl
def ix0 {z:Str} (c:shortS z=true):dIx (.str z) (.int 0)=.ok (.str (fstC z)):=by
 have h:0<z.length:=by unfold shortS at c;simp at c;omega
 have e:atI z.cps.toList 0=some (z.cps.getD 0 0):=by
  have:=u5U (xs:=z.cps.toList) (j:=0) (v:=z.cps.getD 0 0) (by
   have h':0<z.cps.size:=h;rw[t7];simp[Array.getD,h'])
  exact this
 show(match atI z.cps.toList 0 with|some c=>Res.ok (D.str ⟨#[c]⟩)|none=>.bad)=_
 rw[e];rfl
def sl1 (z:Str):dSl (.str z) (some 1) none=.ok (.str (tailC z)):=rfl
def v0k (z:Str):(tailC z).length<=z.length:=by
 unfold tailC;rw[<- v1K,<- v1K,u8Z,z1E];omega
noncomputable def sideD:D->Bool
 | .str z=>z=="left"||(z=="right"||z=="none")
 | _=>false
noncomputable def rsgD:D->Bool
 | .tup ds=>decide (1<=ds.length)&&(decide (ds.length<=10)&&ds.all sgnD)
 | _=>false
noncomputable def rankD:D->Bool
 | .tup [s,b]=>sideD s&&rsgD b
 | _=>false
def v3l {z:Str} (h:goodD (.str z)=true):PyData.strOk z=true/\z.length<=1000:=by simpa[goodD,goodS] using h
def u1F {z:Str} (h:PyData.strOk z=true):cmpD (.str z)=.ok (.str z):=by
 have:SeqAt.shaped (.str z)=true:=by simp[SeqAt.shaped,PyData.canLay0,h,PyData.depth]
 simp[cmpD,D.py,this]
def u2D (a b:Str):PyData.eqv (.str a) (.str b)=(a==b):=rfl
def v2h (a b:Str):(a==b)=(b==a):=by
 rw[z0I];simp only[beq_iff_eq];exact eq_comm
def v3g {z:Str} (h:PyData.strOk z=true):dIn (.str z) (.tup [.str "left",.str "right",.str "none"])=.ok (.bl (sideD (.str z))):=by
 have e1:cmpD (.str "left")=.ok (.str "left"):=u1F (by decide +kernel)
 have e2:cmpD (.str "right")=.ok (.str "right"):=u1F (by decide +kernel)
 have e3:cmpD (.str "none")=.ok (.str "none"):=u1F (by decide +kernel)
 show inD (.str z) _ false=_;simp[inD,cmpDs,u1F h,e1,e2,e3,sideD,u2D,v2h z]
@[simp] theorem len_strK (z:Str):gLen [.str z]=.ok (.int z.length):=rfl
@[simp] theorem len_tup (ds:List D):gLen [.tup ds]=.ok (.int ds.length):=rfl
@[simp] theorem len_lst (ds:List D):gLen [.lst ds]=.ok (.int ds.length):=rfl
def eq_int (i j:Int):dEq (.int i) (.int j)=.ok (.bl (i==j)):=rfl
def v0W {ds:List D}{i:Nat}{d:D} (h:ds[i]?=some d):dIx (.tup ds) (.int i)=.ok d:=by
 show(match atI ds i with|some d=>Res.ok d|none=>.bad)=_
 rw[u5U h]
def u2B {ds:List D}{i:Nat}{d:D} (h:ds[i]?=some d):dIx (.lst ds) (.int i)=.ok d:=by
 show(match atI ds i with|some d=>Res.ok d|none=>.bad)=_
 rw[u5U h]
def ix_0 (x:D) (l:List D):dIx (.tup (x::l)) (.int 0)=.ok x:=v0W (i:=0) rfl
def ix_1 (x y:D) (l:List D):dIx (.tup (x::y::l)) (.int 1)=.ok y:=v0W (i:=1) rfl
def ixl_0 (x:D) (l:List D):dIx (.lst (x::l)) (.int 0)=.ok x:=u2B (i:=0) rfl
section
variable {P:Program}{w:World}{K:W.Frag}{mg:MG}{base:Heap}{f:Addr}{fd:FuncData}{A:Adr}
set_option tactic.hygienic true in
def u3A (F:Fun K "is_short_text" "is_short_text" u1w f fd) (T:Txt P w K mg A):∃G,FnOk P w K mg base CX0 1 f fd ["thing"] (spF K G)/\P1 shortD G:=by
 refine⟨_,F.okT (k:=0) u3y (λcdv Ar outer s H E hr=>u0e (u0i (u2k (d_B u3G T.z_isinstance (by decide +kernel) (u0a (dv 0) (u0a (d_ty T.z_str (T:="str") (by decide +kernel)) u0b))) (u3E (v1H o_le o_le u0c (d_B u1z T.z_len (by decide +kernel) (u0a (dv 0) u0b)) (u3F T.g_LONGEST)))))),?_⟩
 intro d h;simp[runT,startD,a_str (u1I h)];cases d<;>simp[isStrD,shortD,gLen]
 rename_i z;unfold shortS;by_cases c:1<=z.length
 ·have c':(1:Int)<=z.length:=by omega
  simp[c,c'];omega
 ·have c':¬ (1:Int)<=z.length:=by omega
  simp[c,c']
def u7A (F:Fun K "has_only" "has_only" u2h f fd) (T:Txt P w K mg A):∃G,FnOk P w K mg base CX0 1 f fd ["text","allowed"] (spF K G)/\∀z a,z.length<=1000->G [.str z,.str a]=.ok (.bl (onlyS z a)):=by
 refine⟨_,F.okT (k:=0) u7p (λcdv Ar outer s H E hr=>u0e (u0i (d_B (v1T rfl) T.z_all (by decide +kernel) (u0a (DN.de (u0Y ["mark"] [1] rfl (u0t (sc:=defScope u2h) (N:=["text","allowed"]) (by decide +kernel)) (u0w (dv 0)) (dg_n (show(["mark","allowed"]:List Str).Nodup by decide +kernel)) u2l (u7R (o_in (hu100 hr)) (dv 0) (dv 1)))) u0b)))),?_⟩
 intro z a hz;simp[runT,startD];rw[show items (.str z)=.ok (chars z) from rfl,Res.bind_ok,u0r (by rw[v1O];exact u0D hz),u1x (λd=>D.bl (chIn a d)) (λd hd=>?_)]
 ·simp only[Res.bind_ok,v2f,v3o,u4W,go_ok,outR_rt,v1Y]
 ·obtain ⟨c,_,rfl⟩:=x5.mp hd
  refine⟨_,rfl,rfl,?_⟩;simp[rhoC];rfl
set_option tactic.hygienic true in
def u9t {a0j:FD} (a0w:Callee P w K mg base 1 "is_short_text" ["thing"] (spF K a0j)) {a1e:FD} (a1y:Callee P w K mg base 1 "has_only" ["text","allowed"] (spF K a1e)) (a3o:P1 shortD a0j) (a3y:∀z a,z.length<=1000->a1e [.str z,.str a]=.ok (.bl (onlyS z a))) (F:Fun K "is_sign" "is_sign" u3U f fd) (T:Txt P w K mg A):∃G,FnOk P w K mg base CX0 2 f fd ["thing"] (spF K G)/\P1 sgnD G:=by
 refine⟨_,F.okT (k:=1) u9d (λcdv Ar outer s H E hr=>u0e (u0i (u2k (d_fn a0w hr (u0a (dv 0) u0b)) (u3E (d_fn a1y hr (u0a (dv 0) (u0a (u3F T.g_IN_SIGNS) u0b))))))),?_⟩
 intro d h;simp[runT,startD,a3o d h];cases d<;>simp[shortD,sgnD,sgnS]
 rename_i z;by_cases c:shortS z=true
 ·simp[c,a3y z _ (by have:=u7X c;omega)]
 ·simp[c]
set_option tactic.hygienic true in
def u9y {a0j:FD} (a0w:Callee P w K mg base 1 "is_short_text" ["thing"] (spF K a0j)) {a1e:FD} (a1y:Callee P w K mg base 1 "has_only" ["text","allowed"] (spF K a1e)) (a3o:P1 shortD a0j) (a3y:∀z a,z.length<=1000->a1e [.str z,.str a]=.ok (.bl (onlyS z a))) (F:Fun K "is_head" "is_head" u3Z f fd) (T:Txt P w K mg A):∃G,FnOk P w K mg base CX0 2 f fd ["thing"] (spF K G)/\P1 hdD G:=by
 refine⟨_,F.okT (k:=1) u9i (λcdv Ar outer s H E hr=>u0e (u0i (u2k (d_fn a0w hr (u0a (dv 0) u0b)) (u2k (u7R (o_in (hu100 hr)) (d_ix x_ix (dv 0) u0c) (u3F T.g_GREAT)) (u3E (d_fn a1y hr (u0a (d_sl (dv 0) (u5P u0c) u5Q) (u0a (u3F T.g_SMALL_AND_FIGURES) u0b)))))))),?_⟩
 intro d h;simp[runT,startD,a3o d h];cases d<;>simp[shortD,hdD,hdS]
 rename_i z;by_cases c:shortS z=true
 ·have e2:(tailC z).length<=1000:=by
   have:=v0k z
   have:=u7X c
   omega
  simp[c,ix0 c,asI,sl1,dIn,dInG,a3y _ smallT e2];by_cases k:inS (fstC z) greatT=true<;>simp[k]
 ·simp[c]
def u6w {a0i:FD} (a0v:Callee P w K mg base 2 "is_sign" ["thing"] (spF K a0i)) {a0d:FD} (a0p:Callee P w K mg base 2 "is_head" ["thing"] (spF K a0d)) (a0u:P1 sgnD a0i) (a0k:P1 hdD a0d) (F:Fun K "is_symbol" "is_symbol" u2t f fd) (T:Txt P w K mg A):∃G,FnOk P w K mg base CX0 3 f fd ["thing"] (spF K G)/\P1 symD G:=by
 refine⟨_,F.okT (k:=2) u6i (λcdv Ar outer s H E hr=>u0e (u0i (d_or (d_fn a0v hr (u0a (dv 0) u0b)) (u3E (d_fn a0p hr (u0a (dv 0) u0b)))))),?_⟩
 intro d h;simp[runT,startD,a0u d h,a0k d h,symD];by_cases c:sgnD d=true<;>simp[c]
set_option tactic.hygienic true in
def u9x (F:Fun K "is_pair" "is_pair" u3Y f fd) (T:Txt P w K mg A):∃G,FnOk P w K mg base CX0 1 f fd ["thing"] (spF K G)/\P1 pairD G:=by
 refine⟨_,F.okT (k:=0) u9h (λcdv Ar outer s H E hr=>u0e (u0i (u2k (d_B u3G T.z_isinstance (by decide +kernel) (u0a (dv 0) (u0a (d_ty T.z_tuple (T:="tuple") (by decide +kernel)) u0b))) (u3E (u7R (o_eq (hu64 hr)) (d_B u1z T.z_len (by decide +kernel) (u0a (dv 0) u0b)) u0c))))),?_⟩
 intro d h;simp[runT,startD,a_tup (u1I h)];cases d<;>simp[isTupD,pairD,gLen]
 rename_i ds;rw[eq_int]
 match ds with
 | []=>rfl
 | [_]=>rfl
 | [_,_]=>rfl
 | _::_::_::l=>simp[pairD];omega
set_option tactic.hygienic true in
def u9z {a2q:FD} (a3r:Callee P w K mg base 3 "is_symbol" ["thing"] (spF K a2q)) (a3q:P1 symD a2q) (F:Fun K "is_body" "is_body" u2J f fd) (T:Txt P w K mg A):∃G,FnOk P w K mg base CX0 4 f fd ["thing"] (spF K G)/\P1 bodyD G:=by
 refine⟨_,F.okT (k:=3) u9j (λcdv Ar outer s H E hr=>u0e (u0i (u2k (d_B u3G T.z_isinstance (by decide +kernel) (u0a (dv 0) (u0a (d_ty T.z_tuple (T:="tuple") (by decide +kernel)) u0b))) (u2k (u7R o_le (d_B u1z T.z_len (by decide +kernel) (u0a (dv 0) u0b)) (u3F T.g_MOST_IN_BODY)) (u3E (d_B (v1T rfl) T.z_all (by decide +kernel) (u0a (DN.de (u0Y ["part"] [] rfl (u0t (sc:=defScope u2J) (N:=["thing"]) (by decide +kernel)) (u0w (dv 0)) (dg_n (show(["part"]:List Str).Nodup by decide +kernel)) u2l (d_fn a3r hr (u0a (dv 0) u0b)))) u0b))))))),?_⟩
 intro d h;simp[runT,startD,a_tup (u1I h)];cases d<;>simp[isTupD,bodyD,gLen]
 rename_i ds;by_cases c:ds.length<=4
 ·have c':(ds.length:Int)<=4:=by omega
  simp[c,c'];rw[show items (.tup ds)=.ok ds from rfl,Res.bind_ok,u0r (u0D (by omega)),u1x (λd=>D.bl (symD d)) (λd hd=>?_)]
  ·simp
  ·exact⟨_,rfl,rfl,by simp[rhoC,a3q d (u2j h d hd)]⟩
 ·have c':¬ (ds.length:Int)<=4:=by omega
  simp[c,c']
set_option tactic.hygienic true in
def u9v {a1l:FD} (a2k:Callee P w K mg base 1 "is_pair" ["thing"] (spF K a1l)) {a0d:FD} (a0p:Callee P w K mg base 2 "is_head" ["thing"] (spF K a0d)) {a3n:FD} (a4i:Callee P w K mg base 4 "is_body" ["thing"] (spF K a3n)) (a2h:P1 pairD a1l) (a0k:P1 hdD a0d) (a4e:P1 bodyD a3n) (F:Fun K "is_rule" "is_rule" u3W f fd) (T:Txt P w K mg A):∃G,FnOk P w K mg base CX0 5 f fd ["thing"] (spF K G)/\P1 ruleD G:=by
 refine⟨_,F.okT (k:=4) u9f (λcdv Ar outer s H E hr=>u0e (u0i (u2k (d_fn a2k hr (u0a (dv 0) u0b)) (u2k (d_fn a0p hr (u0a (d_ix x_ix (dv 0) u0c) u0b)) (u3E (d_fn a4i hr (u0a (d_ix x_ix (dv 0) u0c) u0b))))))),?_⟩
 intro d h;simp[runT,startD,a2h d h];cases d<;>simp[pairD,ruleD]
 rename_i ds
 match ds,h with
 | [],_=>simp[pairD,ruleD]
 | [_],_=>simp[pairD,ruleD]
 | _::_::_::_,_=>simp[pairD,ruleD]
 | [x,y],h =>
  have h1:=a0k x (u2j h x (by simp))
  have h2:=a4e y (u2j h y (by simp))
  simp[pairD,ruleD,ix_0,ix_1,h1,h2];by_cases c:hdD x=true<;>simp[c]
set_option tactic.hygienic true in
def u9u (F:Fun K "is_side" "is_side" u3V f fd) (T:Txt P w K mg A):∃G,FnOk P w K mg base CX0 1 f fd ["thing"] (spF K G)/\P1 sideD G:=by
 refine⟨_,F.okT (k:=0) u9e (λcdv Ar outer s H E hr=>u0e (u0i (u2k (d_B u3G T.z_isinstance (by decide +kernel) (u0a (dv 0) (u0a (d_ty T.z_str (T:="str") (by decide +kernel)) u0b))) (u3E (u7R (o_in (hu100 hr)) (dv 0) (u3F T.g_SIDES)))))),?_⟩
 intro d h;simp[runT,startD,a_str (u1I h)];cases d<;>simp[isStrD]
 case str z=>rw[v3g (v3l h).1];simp
 all_goals rfl
set_option tactic.hygienic true in
def u3B {a0i:FD} (a0v:Callee P w K mg base 2 "is_sign" ["thing"] (spF K a0i)) (a0u:P1 sgnD a0i) (F:Fun K "is_rank_signs" "is_rank_signs" u0V f fd) (T:Txt P w K mg A):∃G,FnOk P w K mg base CX0 3 f fd ["thing"] (spF K G)/\P1 rsgD G:=by
 refine⟨_,F.okT (k:=2) u3z (λcdv Ar outer s H E hr=>u0e (u0i (u2k (d_B u3G T.z_isinstance (by decide +kernel) (u0a (dv 0) (u0a (d_ty T.z_tuple (T:="tuple") (by decide +kernel)) u0b))) (u2k (v1H o_le o_le u0c (d_B u1z T.z_len (by decide +kernel) (u0a (dv 0) u0b)) (u3F T.g_MOST_IN_RANK)) (u3E (d_B (v1T rfl) T.z_all (by decide +kernel) (u0a (DN.de (u0Y ["part"] [] rfl (u0t (sc:=defScope u0V) (N:=["thing"]) (by decide +kernel)) (u0w (dv 0)) (dg_n (show(["part"]:List Str).Nodup by decide +kernel)) u2l (d_fn a0v hr (u0a (dv 0) u0b)))) u0b))))))),?_⟩
 intro d h;simp[runT,startD,a_tup (u1I h)];cases d<;>simp[isTupD,rsgD,gLen]
 rename_i ds;by_cases c0:1<=ds.length
 ·have c0':(1:Int)<=ds.length:=by omega
  by_cases c:ds.length<=10
  ·have c':(ds.length:Int)<=10:=by omega
   simp[c,c',c0,c0'];rw[show items (.tup ds)=.ok ds from rfl,Res.bind_ok,u0r (u0D (by omega)),u1x (λd=>D.bl (sgnD d)) (λd hd=>?_)]
   ·simp
   ·exact⟨_,rfl,rfl,by simp[rhoC,a0u d (u2j h d hd)]⟩
  ·have c':¬ (ds.length:Int)<=10:=by omega
   simp[c,c',c0,c0']
 ·have c0':¬ (1:Int)<=ds.length:=by omega
  simp[c0,c0']
set_option tactic.hygienic true in
def u9w {a1l:FD} (a2k:Callee P w K mg base 1 "is_pair" ["thing"] (spF K a1l)) {a3k:FD} (a4f:Callee P w K mg base 1 "is_side" ["thing"] (spF K a3k)) {a1k:FD} (a2j:Callee P w K mg base 3 "is_rank_signs" ["thing"] (spF K a1k)) (a2h:P1 pairD a1l) (a4b:P1 sideD a3k) (a2g:P1 rsgD a1k) (F:Fun K "is_rank" "is_rank" u3X f fd) (T:Txt P w K mg A):∃G,FnOk P w K mg base CX0 4 f fd ["thing"] (spF K G)/\P1 rankD G:=by
 refine⟨_,F.okT (k:=3) u9g (λcdv Ar outer s H E hr=>u0e (u0i (u2k (d_fn a2k hr (u0a (dv 0) u0b)) (u2k (d_fn a4f hr (u0a (d_ix x_ix (dv 0) u0c) u0b)) (u3E (d_fn a2j hr (u0a (d_ix x_ix (dv 0) u0c) u0b))))))),?_⟩
 intro d h;simp[runT,startD,a2h d h];cases d<;>simp[pairD,rankD]
 rename_i ds
 match ds,h with
 | [],_=>simp[pairD,rankD]
 | [_],_=>simp[pairD,rankD]
 | _::_::_::_,_=>simp[pairD,rankD]
 | [x,y],h =>
  have h1:=a4b x (u2j h x (by simp))
  have h2:=a2g y (u2j h y (by simp))
  simp[pairD,rankD,ix_0,ix_1,h1,h2];by_cases c:sideD x=true<;>simp[c]
end
abbrev RR:=Str×List Str
noncomputable def rT (p:RR):D:=.tup [.str p.1,.tup (p.2.map D.str)]
theorem u2T:∀ss:List Str,strsOf (ss.map D.str)=some ss
 | []=>rfl
 | z::ss=>by simp[strsOf,u2T ss]
structure OkR (p:RR):Prop where
 h:hdS p.1=true
 l:p.2.length<=4
 s:∀b∈p.2,(sgnS b||hdS b)=true
 gh:goodS p.1=true
 gs:∀b∈p.2,goodS b=true
def ok_rule {p:RR} (o:OkR p):ruleD (rT p)=true:=by
 obtain⟨z,ss⟩:=p;simp only[rT,ruleD,hdD,bodyD,u0,x6,decide_eq_true_eq,List.all_map,List.all_eq_true];exact⟨o.h,o.l,λb hb=>o.s b hb⟩
noncomputable def pyR (p:RR):PyData:=.tuple [.str p.1,.tuple (p.2.map PyData.str)]
theorem u5w:∀ss:List Str,D.pys (ss.map D.str)=some (ss.map PyData.str)
 | []=>rfl
 | z::ss=>by simp[D.pys,D.py,u5w ss]
theorem u3K:∀{ss:List Str},(∀b∈ss,goodS b=true)->PyData.canLayAll0 (ss.map PyData.str)=true
 | [],_=>rfl
 | z::ss,h=>by
  have h1:=h z z5;have h2:=u3K λb hb=>h b (z4 _ hb)
  simp[goodS] at h1;simp[PyData.canLayAll0,PyData.canLay0,h1.1,h2]
theorem u3L:∀ss:List Str,PyData.depthAll (ss.map PyData.str)<=1
 | []=>by simp[PyData.depthAll]
 | z::ss=>by
  have:=u3L ss
  simp[PyData.depthAll,PyData.depth];omega
def u8M {p:RR} (o:OkR p):cmpD (rT p)=.ok (pyR p):=by
 have h1:=o.gh;simp[goodS] at h1;have e:(rT p).py=some (pyR p):=by
  simp[rT,D.py,D.pys,u5w,pyR]
 have s:SeqAt.shaped (pyR p)=true:=by
  have d:=u3L p.2;simp[SeqAt.shaped,pyR,PyData.canLay0,PyData.canLayAll0,h1.1,u3K o.gs,PyData.depth,PyData.depthAll];omega
 unfold cmpD;rw[e];simp[s]
theorem u2E:∀as bs:List Str,PyData.eqvAll (as.map PyData.str) (bs.map PyData.str)=decide (as=bs)
 | [],[]=>rfl
 | [],_::_=>rfl
 | _::_,[]=>rfl
 | a::as,b::bs=>by
  show(PyData.eqv (.str a) (.str b)&&PyData.eqvAll (as.map PyData.str) (bs.map PyData.str))=_;rw[u2E as bs,u2D];by_cases c:a=b<;>simp[c]
def u8A (p q:RR):PyData.eqv (pyR p) (pyR q)=decide (p=q):=by
 obtain⟨a,as⟩:=p;obtain⟨b,bs⟩:=q;show(PyData.eqv (.str a) (.str b)&&(PyData.eqvAll (as.map PyData.str) (bs.map PyData.str)&&true))=_;rw[u2E,u2D];by_cases c:a=b<;>simp[c]
@[simp] theorem u1p {α:Type}{ds:List D}{k:Res α} (h:ds.length<=1000):szD ds k=k:=szD_pos (u0D h)
def v1w (k:Nat) (d:D) (ds:List D):(((d::ds).zipIdx k).map λp=>D.tup [.int (p.2:Nat),p.1])=.tup [.int (k:Nat),d]::((ds.zipIdx (k+1)).map λp=>D.tup [.int (p.2:Nat),p.1]):=rfl
noncomputable def isStop:Out->Bool
 | .rt _=>true
 | .er _ _=>true
 | _=>false
def StepOk {α β γ:Type} (S:α->List γ->Rho->Prop) (go:α->List γ->β) (Q:β->Out->Prop) (a:α) (d:γ) (ds:List γ) (o:Out):Prop :=
 (∃a' ρ2,(o=.nx ρ2\/o=.ct ρ2)/\S a' ds ρ2/\go a (d::ds)=go a' ds)\/(isStop o=true/\Q (go a (d::ds)) o)
def u0X {α β γ:Type}{S:α->List γ->Rho->Prop}{go:α->List γ->β}{Q:β->Out->Prop}{a:α}{d:γ}{ds:List γ}{ρ:Rho} (a':α) (h:S a' ds ρ) (e:go a (d::ds)=go a' ds):StepOk S go Q a d ds (.nx ρ):=.inl ⟨a',ρ,.inl rfl,h,e⟩
def v0g {α β γ:Type}{S:α->List γ->Rho->Prop}{go:α->List γ->β}{Q:β->Out->Prop}{a:α}{d:γ}{v:D}{ds:List γ} (h:Q (go a (d::ds)) (.rt v)):StepOk S go Q a d ds (.rt v):=.inr ⟨rfl,h⟩
def v0h {α β γ:Type}{S:α->List γ->Rho->Prop}{go:α->List γ->β}{Q:β->Out->Prop}{a:α}{d:γ}{v:D}{ds:List γ}{ρ:Rho} (h:Q (go a (d::ds)) (.er v ρ)):StepOk S go Q a d ds (.er v ρ):=.inr ⟨rfl,h⟩
theorem u0L {α β γ:Type}{g:D->Rho->Res Rho}{tb:Rho->Out} (c:γ->D) (S:α->List γ->Rho->Prop) (go:α->List γ->β) (Q:β->Out->Prop) (nil:∀a ρ,S a [] ρ->Q (go a []) (.nx ρ))
  (cons:∀a d ds ρ,S a (d::ds) ρ->∃ρ1,g (c d) ρ=.ok ρ1/\StepOk S go Q a d ds (tb ρ1)) :
  ∀ds a ρ,S a ds ρ->Q (go a ds) (forD g tb (ds.map c) ρ)
 | [],a,ρ,h=>nil a ρ h
 | d::ds,a,ρ,h=>by
  obtain⟨ρ1,e,k⟩:=cons a d ds ρ h;simp only[y9,forD,e,u4W,go_ok];rcases k with⟨a',ρ2,k1,k2,k3⟩|⟨k1,k2⟩
  ·rw [k3]
   rcases k1 with k1|k1<;>rw[k1]<;>exact u0L c S go Q nil cons ds a' ρ2 k2
  ·generalize tb ρ1=o at k1 k2 |-
   cases o<;>first|exact k2|cases k1
noncomputable def keyR (p:RR):List DK:=[.s p.1,.t (p.2.map DK.s)]
theorem u8H:∀ss:List Str,dksOf (ss.map D.str)=some (ss.map DK.s)
 | []=>rfl
 | z::ss=>by simp[dksOf,dkOf,u8H ss]
theorem v4g:∀ss:List Str,DK.pys (ss.map DK.s)=ss.map PyData.str
 | []=>rfl
 | z::ss=>by simp[DK.pys,DK.py,v4g ss]
theorem v1C:∀ss:List Str,DK.deps (ss.map DK.s)=0
 | []=>rfl
 | z::ss=>by simp[DK.deps,DK.dep,v1C ss]
def v2K {p:RR} (o:OkR p):okK (keyR p)=true:=by
 have e:(DK.t (keyR p)).py=pyR p:=by simp[keyR,DK.py,DK.pys,v4g,pyR]
 have d:=u3L p.2;have h1:=o.gh;simp[goodS] at h1;unfold okK;rw[e];have s:SeqAt.shaped (pyR p)=true:=by
  simp[SeqAt.shaped,pyR,PyData.canLay0,PyData.canLayAll0,h1.1,u3K o.gs,PyData.depth,PyData.depthAll];omega
 simp[s,keyR,DK.dep,DK.deps,v1C]
def u8m {p:RR} (o:OkR p):keyOf (rT p)=.ok (keyR p):=by
 have e:dksOf [D.str p.1,.tup (p.2.map D.str)]=some (keyR p):=by simp[dksOf,dkOf,u8H,keyR]
 show(match dksOf [D.str p.1,.tup (p.2.map D.str)] with|some ks=>gd (okK ks=true) (.ok ks)|none=>.bad)=_
 rw[e];simp[v2K o]
def u8n {p q:RR} (h:keyR p=keyR q):p=q:=by
 obtain⟨a,as⟩:=p;obtain⟨b,bs⟩:=q;simp only[keyR,List.cons.injEq,DK.s.injEq,DK.t.injEq,and_true] at h;obtain⟨rfl,h⟩:=h
 have:∀as bs:List Str,as.map DK.s=bs.map DK.s->as=bs:=by
  intro as;induction as with
  | nil=>intro bs h;cases bs with|nil=>rfl|cons _ _=>cases h
  | cons x as ih =>
   intro bs h;cases bs with
   | nil=>cases h
   | cons y bs =>
    simp only[y9,List.cons.injEq,DK.s.injEq] at h;rw[h.1,ih bs h.2]
 rw[this as bs h]
def in_keys {w:World}{p:RR}{rs:List RR}{kvs:List (List DK×D)} (o:OkR p) (e:kvs.map (·.1)=rs.map keyR):dInA w false (rT p) (.dn (hashW w) kvs)=.ok (.bl (decide (p∈rs))):=by
 have q:dInA w false (rT p) (.dn (hashW w) kvs)=inN w false (rT p) (hashW w) kvs:=by
  unfold dInA;exact v1J w false _ _ _
 rw[q];unfold inN;rw[u8m o,Res.bind_ok,if_pos rfl,e]
 have:(keyR p∈rs.map keyR)↔p∈rs:=by
  rw[x5];exact⟨λz9146=>by obtain⟨q,hq,e⟩:=z9146;exact u8n e ▸ hq,λh=>⟨p,h,rfl⟩⟩
 simp[this]
def put_key {w:World}{p:RR}{kvs:List (List DK×D)}{fi:Rho->Res D}{fv:Rho->Res D}{ρ:Rho} (o:OkR p) (hl:kvs.length<=100) (hv:fv ρ=.ok (.bl true)) (hi:fi ρ=.ok (rT p)) (hg:getN ρ 1=.ok (hashW w,kvs)) :
  fPutN w 1 fi fv ρ=.nx (ρ.set 1 (some (.own (.n (hashW w) (putN kvs (keyR p) (.bl true)))))):=by
 unfold fPutN;rw[hv,go_ok,hg,go_ok,hi,go_ok,u8m o,go_ok,if_pos ⟨rfl,t5 hl (by decide)⟩]
def v3a {p:RR}{rs:List RR}{kvs:List (List DK×D)}{d:D} (e:kvs.map (·.1)=rs.map keyR) (n:¬ p∈rs):(putN kvs (keyR p) d).map (·.1)=(rs++[p]).map keyR:=by
 unfold putN
 have:¬ keyR p∈kvs.map (·.1):=by
  rw[e,x5];exact λ⟨q,hq,z⟩=>n (u8n z ▸ hq)
 rw[if_neg this,v5,v5,e];rfl
@[simp] theorem items_lst (ds:List D):items (.lst ds)=.ok ds:=rfl
@[simp] theorem items_tup (ds:List D):items (.tup ds)=.ok ds:=rfl
theorem u6S:∀{hs:List Str},(∀b∈hs,goodS b=true)->cmpDs (hs.map D.str)=.ok (hs.map PyData.str)
 | [],_=>rfl
 | z::hs,h=>by
  have h1:=h z z5;simp[goodS] at h1;simp[cmpDs,u1F h1.1,u6S λb hb=>h b (z4 _ hb)]
def u7I {z:Str}{hs:List Str} (g:goodS z=true) (gs:∀b∈hs,goodS b=true) (neg:Bool):inD (.str z) (hs.map D.str) neg=.ok (.bl (if neg=true then !decide (z∈hs) else decide (z∈hs))):=by
 simp[goodS] at g;have e:((hs.map PyData.str).any λb=>PyData.eqv b (.str z))=decide (z∈hs):=by
  rw[List.any_map,z0I,List.any_eq_true,decide_eq_true_eq];constructor
  ·rintro ⟨q,hq,e⟩
   simp only[Function.comp,u2D,beq_iff_eq] at e;rw[<- e];exact hq
  ·intro h
   exact⟨z,h,by simp only[Function.comp,u2D,beq_iff_eq]⟩
 simp only[inD,u1F g.1,u6S gs,Res.bind_ok,e]
def u4V {z:Str}{hs:List Str} (g:goodS z=true) (gs:∀b∈hs,goodS b=true):dNotIn (.str z) (.lst (hs.map D.str))=.ok (.bl (!decide (z∈hs))):=by
 rw[show dNotIn (.str z) (.lst (hs.map D.str))=inD (.str z) (hs.map D.str) true from u5S true _ _,u7I g gs]
 rfl
noncomputable def hsOf (rs:List RR):List Str:=rs.map (·.1)
noncomputable def headsL (rs:List RR):List Str:=sortT (setOfT (hsOf rs))
noncomputable def addSg (ss:List Str) (b:Str):List Str:=if sgnS b=true then addT ss b else ss
noncomputable def sgL (ss:List Str) (rs:List RR):List Str:=rs.foldl (λss p=>p.2.foldl addSg ss) ss
def u5d {rs:List RR} (h:∀p∈rs,OkR p):∀b∈headsL rs,goodS b=true:=λb hb=>by
 obtain⟨p,hp,rfl⟩:=x5.mp (u1n.mp (u1q.mp hb));exact(h p hp).gh
noncomputable def hd1:D->D
 | .tup (.str h::_)=>.str h
 | _=>.non
def v1f (rs:List RR):((rs.map rT).map hd1)=(hsOf rs).map D.str:=by
 unfold hsOf;rw[u5,u5];rfl
@[simp] theorem u8w {ss:List Str} (h:ss.length<64):gSS (.lst (ss.map D.str))=.ok (.lst ((sortT (setOfT ss)).map D.str)):=by
 show(match strsOf (ss.map D.str) with|some ss=>gd (ss.length<64) (Res.ok (D.lst ((sortT (setOfT ss)).map D.str)))|none=>.bad)=_
 rw[u2T];simp[h]
def u7L (z b:Str):eqK (.str z) (.inr b)=decide (z=b):=by
 have:=u5h (.inr z) (.inr b)
 rw[show kD (.inr z)=D.str z from rfl] at this
 rw[this];by_cases c:z=b<;>simp[c]
theorem u5V {b:Str}:∀{ps:List (D×D)}{ss:List Str},ps.map (·.1)=ss.map D.str->ps.any (λp=>eqK p.1 (.inr b))=decide (b∈ss)
 | [],[],_=>rfl
 | [],_::_,e=>by cases e
 | _::_,[],e=>by cases e
 | (k,d)::ps,z::ss,e=>by
  simp only[y9,List.cons.injEq] at e;rw[List.any_cons,u5V e.2,e.1,u7L];by_cases c:z=b
  ·subst c;simp
  ·have c':¬ b=z:=fun h=>c h.symm
   simp[c,c']
def u6G {ps:List (D×D)}{ss:List Str}{b:Str}{d:D} (e:ps.map (·.1)=ss.map D.str):(putD ps (.inr b) d).map (·.1)=(addT ss b).map D.str:=by
 unfold putD addT;rw[u5V e];by_cases c:b∈ss
 ·rw [if_pos (by simpa using c),if_pos c,<- e,u5]
  refine List.map_congr_left λp _=>?_
  simp only[Function.comp]
  split<;>rfl
 ·rw [if_neg (by simpa using c),if_neg c,v5,v5,e]
  rfl
theorem u3g:∀{ps:List (D×D)}{ss:List Str},ps.map (·.1)=ss.map D.str->keyStrs ps=some ss
 | [],[],_=>rfl
 | [],_::_,e=>by cases e
 | _::_,[],e=>by cases e
 | (k,d)::ps,z::ss,e=>by
  simp only[y9,List.cons.injEq] at e;obtain⟨rfl,e⟩:=e;simp[keyStrs,u3g e]
def val_key {b:Str}{ps:List (D×D)}{ss:List Str} (e:ps.map (·.1)=ss.map D.str):(valD ps (.inr b)).isSome=decide (b∈ss):=by
 rw[<- u5V e];unfold valD;rw[Option.isSome_map];clear e;induction ps with
 | nil=>rfl
 | cons p ps ih =>
  rw[u3,List.any_cons];cases q:eqK p.1 (.inr b)
  ·simpa using ih
  ·rfl
def v3A {P:Str->Prop}{ss:List Str}{b:Str} (h:∀z∈ss,P z) (hb:P b):∀z∈addT ss b,P z:=λz hz=>by
 unfold addT at hz;split at hz
 ·exact h z hz
 ·rcases v1.mp hz with q | q
  ·exact h z q
  ·rw[w9.mp q];exact hb
def v2a {P:Str->Prop}{ss:List Str}{b:Str} (h:∀z∈ss,P z) (hb:sgnS b=true->P b):∀z∈addSg ss b,P z:=by
 unfold addSg;by_cases c:sgnS b=true
 ·rw[if_pos c];exact v3A h (hb c)
 ·rw[if_neg c];exact h
theorem u8z {P:Str->Prop}:∀{bs ss:List Str},(∀z∈ss,P z)->(∀b∈bs,sgnS b=true->P b)->∀z∈bs.foldl addSg ss,P z
 | [],_,h,_=>h
 | b::bs,ss,h,hb=>u8z (bs:=bs) (v2a h (hb b z5)) λx hx=>hb x (z4 _ hx)
theorem u7k {P:Str->Prop}:∀{rs:List RR}{ss:List Str},(∀z∈ss,P z)->(∀p∈rs,∀b∈p.2,sgnS b=true->P b)->∀z∈sgL ss rs,P z
 | [],_,h,_=>h
 | p::rs,ss,h,hb=>u7k (rs:=rs) (u8z h (hb p z5)) λq hq=>hb q (z4 _ hq)
theorem v3G:∀{rs:List RR}{ss:List Str},ss.Nodup->(sgL ss rs).Nodup
 | [],_,h=>h
 | p::rs,ss,h=>v3G (rs:=rs) (by
  show(p.2.foldl addSg ss).Nodup
  have:∀(bs ss:List Str),ss.Nodup->(bs.foldl addSg ss).Nodup:=by
   intro bs;induction bs with
   | nil=>intro ss h;exact h
   | cons b bs ih =>
    intro ss h;refine ih _ ?_;unfold addSg;split
    ·exact u5n h
    ·exact h
  exact this _ _ h)
def u7e {ss pool:List Str} (nd:ss.Nodup) (h:∀z∈ss,z∈pool):ss.length<=pool.length:=by
 induction ss generalizing pool with
 | nil=>simp
 | cons z ss ih =>
  obtain⟨h1,h2⟩:=z1A.mp nd;have hz:=h z z5
  have:=ih (pool:=pool.erase z) h2 λy hy=>(List.mem_erase_of_ne (λe:y=z=>h1 (e ▸ hy))).mpr (h y (z4 _ hy))
  rw[List.length_erase_of_mem hz] at this
  have:0<pool.length:=List.length_pos_of_mem hz
  simp only[v9];omega
structure Few (rs:List RR):Prop where
 ok:∀p∈rs,OkR p
 n:rs.length<=20
 s:(sgL [] rs).length<64
def Ssg (ds:D) (ss:List Str) (rs:List RR) (ρ:Rho):Prop:=(∀p∈rs,OkR p)/\ss.length+4*rs.length<=200/\∃kvs x y,ρ=[some (.val ds),some (.own (.d kvs)),x,y]/\kvs.map (·.1)=ss.map D.str
def Qsg (ds:D) (ss:List Str) (o:Out):Prop:=∃kvs x y,o=.nx [some (.val ds),some (.own (.d kvs)),x,y]/\kvs.map (·.1)=ss.map D.str
def Ssi (ds:D) (r:Option Sl) (ss:List Str) (bs:List Str) (ρ:Rho):Prop:=(∀b∈bs,goodS b=true)/\ss.length+bs.length<=200/\∃kvs y,ρ=[some (.val ds),some (.own (.d kvs)),r,y]/\kvs.map (·.1)=ss.map D.str
def u4A (ss:List Str) (b:Str):(addSg ss b).length<=ss.length+1:=by
 unfold addSg;split
 ·exact u8R ss b
 ·omega
theorem u5e:∀(bs ss:List Str),(bs.foldl addSg ss).length<=ss.length+bs.length
 | [],ss=>by simp
 | b::bs,ss=>by
  have:=u5e bs (addSg ss b)
  have:=u4A ss b
  simp only[r6,v9];omega
def v3L {b:Str}{kvs:List (D×D)}{ss:List Str}{fi fv:Rho->Res D}{ρ:Rho} (hl:kvs.length<=1000) (hv:fv ρ=.ok (.bl true)) (hi:fi ρ=.ok (.str b)) (hg:getD' ρ 1=.ok kvs) :
  fPutD 1 fi fv ρ=.nx (ρ.set 1 (some (.own (.d (putD kvs (.inr b) (.bl true)))))):=by
 unfold fPutD;rw[hv,go_ok,hg,go_ok,hi,go_ok,show keyK (.str b)=.ok (.inr b) from rfl,go_ok,if_pos (t5 hl (by decide))]
abbrev dN (n:Nat):D:=.int (n:Int)
def v1b (k m:Nat):intL (k:Int) (m+1)=dN k::intL ((k+1:Nat):Int) m:=by
 simp[intL,List.range_succ_eq_map,Function.comp_def,dN];intro a _;omega
theorem u6L {g:D->Rho->Res Rho}{tb:Rho->Out} (n:Nat) (S:Nat->Rho->Prop) (Q:Out->Prop) (nil:∀ρ,S n ρ->Q (.nx ρ))
  (cons:∀k ρ,k<n->S k ρ->∃ρ1,g (dN k) ρ=.ok ρ1/\((∃ρ2,tb ρ1=.nx ρ2/\S (k+1) ρ2)\/∃v,tb ρ1=.rt v/\Q (.rt v))):∀m k ρ,k+m=n->S k ρ->Q (forD g tb (intL (k:Int) m) ρ)
 | 0,k,ρ,e,h=>by subst e;exact nil ρ h
 | m+1,k,ρ,e,h=>by
  rw[v1b];obtain⟨ρ1,e1,z⟩:=cons k ρ (by omega) h
  simp only[forD,e1,u4W,go_ok];rcases z with⟨ρ2,k1,k2⟩|⟨v,k1,k2⟩
  ·rw[k1];exact u6L n S Q nil cons m (k+1) ρ2 (by omega) k2
  ·rw[k1];exact k2
def u2M {g:D->Rho->Res Rho}{tb:Rho->Out}{n:Nat} (S:Nat->Rho->Prop) (Q:Out->Prop) {ρ:Rho} (h0:S 0 ρ) (nil:∀ρ,S n ρ->Q (.nx ρ))
  (cons:∀k ρ,k<n->S k ρ->∃ρ1,g (dN k) ρ=.ok ρ1/\((∃ρ2,tb ρ1=.nx ρ2/\S (k+1) ρ2)\/∃v,tb ρ1=.rt v/\Q (.rt v))):Q (forD g tb (intL 0 n) ρ) :=
 u6L n S Q nil cons n 0 ρ (by omega) h0
theorem u8L {P:D->Prop}{g:D->Rho->Res Rho}{fT:Rho->Res Bool}{fe:Rho->Res D}{ρ:Rho}:∀{ds:List D},(∀d∈ds,∃ρ1 y,g d ρ=.ok ρ1/\fT (frz ρ1)=.ok true/\fe ρ1=.ok y/\P y)->∃ys,compD g fT fe ρ ds=.ok ys/\ys.length=ds.length/\∀y∈ys,P y
 | [],_=>⟨[],rfl,rfl,λy h=>(nomatch h)⟩
 | d::ds,h=>by
  obtain⟨ρ1,y,e1,e2,e3,hp⟩:=h d z5;obtain⟨ys,e,hl,hy⟩:=u8L (ds:=ds) λx hx=>h x (z4 _ hx)
  refine⟨y::ys,?_,by simp[hl],λz hz=>?_⟩
  ·simp[compD,e1,e2,e3,e]
  ·rcases y0.mp hz with rfl | hz
   ·exact hp
   ·exact hy z hz
def u8q {n:Nat}{d:D} (h:d∈intL 0 n):∃k,k<n/\d=dN k:=by
 simp[intL] at h;obtain⟨k,hk,e⟩:=h;exact⟨k,hk,e.symm⟩
def u8r (n:Nat):(intL 0 n).length=n:=by simp[intL]
theorem pull {α:Type}{c:α->D}{p:α->Prop}:∀{ys:List D},(∀y∈ys,∃z,y=c z/\p z)->∃zs:List α,ys=zs.map c/\∀z∈zs,p z
 | [],_=>⟨[],rfl,λz h=>(nomatch h)⟩
 | y::ys,h=>by
  obtain⟨z,e,hz⟩:=h y z5;obtain⟨zs,e2,hzs⟩:=pull (ys:=ys) λx hx=>h x (z4 _ hx)
  refine⟨z::zs,by rw[e,e2];rfl,λx hx=>?_⟩
  rcases y0.mp hx with rfl|hx
  ·exact hz
  ·exact hzs x hx
def ix_m {α:Type}{c:α->D}{rs:List α}{i:Nat} (h:i<rs.length):dIx (.lst (rs.map c)) (.int (i:Int))=.ok (c rs[i]):=u2B (by rw[y4,w6 h];rfl)
def v0X {α:Type}{c:α->D}{rs:List α}{i:Nat} (h:i<rs.length):∃x,x∈rs/\dIx (.lst (rs.map c)) (.int (i:Int))=.ok (c x):=⟨rs[i],z0A h,ix_m h⟩
def modN (a:Nat) (b:Nat) (h:0<b):∃m:Nat,(a:Int)%(b:Int)=(m:Int)/\m<b:=⟨a%b,rfl,Nat.mod_lt _ h⟩
def modI (a:Int) {b:Nat} (h:0<b):∃m:Nat,a%(b:Int)=(m:Int)/\m<b:=by
 have h1:=Int.emod_nonneg a (show(b:Int)≠0 by omega)
 have h2:=Int.emod_lt_of_pos a (show(0:Int)<(b:Int) by omega)
 exact⟨(a%b).toNat,by omega,by omega⟩
def modZ (a:Int) {b:Int} (h:0<b):∃m:Nat,a%b=(m:Int)/\(m:Int)<b:=by
 have h1:=Int.emod_nonneg a (show b≠0 by omega)
 have h2:=Int.emod_lt_of_pos a h;exact⟨(a%b).toNat,by omega,by omega⟩
@[simp] theorem u0k (i j:Int):dMulX (.int i) (.int j)=gd (CMul i j) (.ok (.int (i*j))):=Eq.trans rfl rfl
@[simp] theorem add_ii (i j:Int):dAdd (.int i) (.int j)=.ok (.int (i+j)):=Eq.trans rfl rfl
def u0M {i j:Int} (h:0<j):dMod (.int i) (.int j)=.ok (.int (i%j)):=if_pos h
def u5i {i j:Int} (h:0<j) (h2:j<2^64):dDiv (.int i) (.int j)=.ok (.int (i / j)):=if_pos ⟨h,h2⟩
def u9k {n:Nat} (h:n<=1000):rng1 [.int (n:Int)]=.ok (intL 0 n):=by
 show gd _ _=_;rw[u0r (by omega),Int.toNat_natCast]
def u7q {n:Nat} (j:Int) (e:j=n) (h:n<=1000):rng1 [.int j]=.ok (intL 0 n):=by rw[e,u9k h]
def bindN {α β:Type} (a:α) (f:α->Res β):(Res.ok a).bind f=f a:=Eq.trans rfl rfl
def goN {α:Type} (a:α) (ρ:Rho) (k:α->Out):(Res.ok a).go ρ k=k a:=Eq.trans rfl rfl
def thenN (ρ:Rho) (f:Rho->Out):(Out.nx ρ).andThen f=f ρ:=Eq.trans rfl rfl
def cut_n {α:Type} (xs:List α) (n:Nat):cutC xs none (some (n:Int))=xs.take n:=by
 unfold cutC;rw[HT.sIx_none,HT.sIx_nat];simp[List.take_eq_take_min]
def th {Q:Out->Prop}{a:Out}{f:Rho->Out}{ρ:Rho} (h:a=.nx ρ) (k:Q (f ρ)):Q (a.andThen f):=by rw[h];exact k
def goq {α:Type}{Q:Out->Prop}{r:Res α}{ρ:Rho}{k:α->Out}{v:α} (h:r=.ok v) (q:Q (k v)):Q (r.go ρ k):=by rw[h];exact q
def thq {Q T:Out->Prop}{a:Out}{f:Rho->Out} (q:T a) (k:∀o,T o->Q (o.andThen f)):Q (a.andThen f):=k _ q
def RetsX (r:Res D) (o:Out):Prop:=outR o=r
def runX1 {n m:Nat}{t:Rho->Out}{ds:List D}{r:Res D} (hl:ds.length=m) (h:RetsX r (t (startD n ds))):runX n m t ds=r:=by unfold runX;rw[if_pos hl];exact h
def Rets (v:D) (o:Out):Prop:=o=.rt v
def run1 {n m:Nat}{t:Rho->Out}{ds:List D}{v:D} (hl:ds.length=m) (h:Rets v (t (startD n ds))):runT n m t ds=.ok v:=by unfold runT;rw[if_pos hl,h];rfl
def asg {α:Type}{Q:Out->Prop}{r:Res α}{ρ ρ2:Rho}{k:α->Out}{f:Rho->Out} (v:α) (h:r=.ok v) (e:k v=.nx ρ2) (q:Q (f ρ2)):Q ((r.go ρ k).andThen f):=by rw[h];exact th e q
def brn {Q:Out->Prop}{r:Res Bool}{ρ:Rho}{k:Bool->Out}{f:Rho->Out} (b:Bool) (h:r=.ok b) (t:b=true->Q ((k true).andThen f)) (e:b=false->Q ((k false).andThen f)):Q ((r.go ρ k).andThen f):=by
 rw[h];cases b
 ·exact e rfl
 ·exact t rfl
def StO {γ:Type} (S:List γ->Rho->Prop) (Q:Out->Prop) (xs:List γ) (o:Out):Prop:=(∃ρ2,o=.nx ρ2/\S xs ρ2)\/∃v,o=.rt v/\Q (.rt v)
def br1 {Q:Out->Prop}{r:Res Bool}{ρ:Rho}{k:Bool->Out} (b:Bool) (h:r=.ok b) (t:b=true->Q (k true)) (e:b=false->Q (k false)):Q (r.go ρ k):=by
 rw[h];cases b
 ·exact e rfl
 ·exact t rfl
theorem u1R {γ:Type}{g:D->Rho->Res Rho}{tb:Rho->Out} (c:γ->D) (S:List γ->Rho->Prop) (Q:Out->Prop) (nil:∀ρ,S [] ρ->Q (.nx ρ))
  (cons:∀x xs ρ,S (x::xs) ρ->∃ρ1,g (c x) ρ=.ok ρ1/\StO S Q xs (tb ρ1)):∀xs ρ,S xs ρ->Q (forD g tb (xs.map c) ρ)
 | [],ρ,h=>nil ρ h
 | x::xs,ρ,h=>by
  obtain⟨ρ1,e,z⟩:=cons x xs ρ h;simp only[y9,forD,e,u4W,go_ok];rcases z with⟨ρ2,k1,k2⟩|⟨v,k1,k2⟩
  ·rw[k1];exact u1R c S Q nil cons xs ρ2 k2
  ·rw[k1];exact k2
theorem u5K {γ:Type}{g:D->Rho->Res Rho}{tb:Rho->Out} (c:γ->D) (S:Nat->List γ->Rho->Prop) (Q:Out->Prop) (nil:∀k ρ,S k [] ρ->Q (.nx ρ))
  (cons:∀k x xs ρ,S k (x::xs) ρ->∃ρ1,g (.tup [dN k,c x]) ρ=.ok ρ1/\((∃ρ2,tb ρ1=.nx ρ2/\S (k+1) xs ρ2)\/∃v,tb ρ1=.rt v/\Q (.rt v))):∀xs k ρ,S k xs ρ->Q (forD g tb (((xs.map c).zipIdx k).map λp=>.tup [.int (p.2:Nat),p.1]) ρ)
 | [],k,ρ,h=>nil k ρ h
 | x::xs,k,ρ,h=>by
  obtain⟨ρ1,e,z⟩:=cons k x xs ρ h;rw[y9,v1w];simp only[forD,e,u4W,go_ok];rcases z with⟨ρ2,k1,k2⟩|⟨v,k1,k2⟩
  ·rw[k1];exact u5K c S Q nil cons xs (k+1) ρ2 k2
  ·rw[k1];exact k2
theorem u7K {γ:Type}{g:D->Rho->Res Rho}{tb:Rho->Out} (c:γ->D) (S:List γ->Rho->Prop) (Q:Out->Prop) (nil:∀ρ,S [] ρ->Q (.nx ρ)):∀xs:List γ,
  (∀x∈xs,∀ys ρ,S (x::ys) ρ->∃ρ1,g (c x) ρ=.ok ρ1/\StO S Q ys (tb ρ1))->∀ρ,S xs ρ->Q (forD g tb (xs.map c) ρ)
 | [],_,ρ,h=>nil ρ h
 | x::xs,k,ρ,h=>by
  obtain⟨ρ1,e,z⟩:=k x z5 xs ρ h;simp only[y9,forD,e,u4W,go_ok];rcases z with⟨ρ2,k1,k2⟩|⟨v,k1,k2⟩
  ·rw[k1];exact u7K c S Q nil xs (λy hy=>k y (z4 _ hy)) ρ2 k2
  ·rw[k1];exact k2
noncomputable abbrev dR (rs:List RR):D:=.lst (rs.map rT)
def good_rT {p:RR} (h:goodS p.1=true) (k:∀b∈p.2,goodS b=true):goodD (rT p)=true:=by
 show goodDs [.str p.1,.tup (p.2.map D.str)]=true
 have:goodDs (p.2.map D.str)=true:=v1g λd hd=>by
  obtain⟨b,hb,rfl⟩:=x5.mp hd;exact k b hb
 simp only[goodDs,goodD,h,this];rfl
def in_dct {w:World}{b:Str}{kvs:List (D×D)}{ks:List Str} (e:kvs.map (·.1)=ks.map D.str):dInA w false (.str b) (.dct kvs)=.ok (.bl (decide (b∈ks))):=by
 rw[u8K,show keyK (.str b)=.ok (.inr b) from rfl,Res.bind_ok,val_key e]
 rfl
def run0 {n m:Nat}{t:Rho->Out}{ds:List D} (hl:ds.length=m) (h:∃ρ,t (startD n ds)=.nx ρ):runT n m t ds=.ok .non:=by
 obtain⟨ρ,e⟩:=h;unfold runT;rw[if_pos hl,e];rfl
structure OkQ (q:RR):Prop where
 g:goodD (rT q)=true
 r:rankD (rT q)=true
 l:q.2.length<=10
structure GOk (rs kk:List RR):Prop where
 f:Few rs
 n:1<=rs.length
 nd:rs.Nodup
 kn:∀p∈rs,∀b∈p.2,hdS b=true->b∈headsL rs
 hs:(headsL rs).length<=8
 ss:(sgL [] rs).length<=10
 k:∀q∈kk,OkQ q
 k6:kk.length<=6
 kd:(kk.flatMap (·.2)).Nodup
inductive Snr (w:World) (rs:List RR) (k:Nat) (xs:List RR) (ρ:Rho):Prop
 | mk (ys:List RR) (kvs:List (List DK×D)) (x y:Option Sl) (e:rs=ys++xs) (hk:k=ys.length) (eρ:ρ=[some (.val (dR rs)),some (.own (.n (hashW w) kvs)),x,y]) (ek:kvs.map (·.1)=ys.map keyR)
inductive Skn (a b:D) (xs:List RR) (ρ:Rho):Prop
 | mk (x y:Option Sl) (e:ρ=[some (.val a),some (.val b),x,y])
inductive Ski (a b c:D) (xs:List Str) (ρ:Rho):Prop
 | mk (y:Option Sl) (e:ρ=[some (.val a),some (.val b),some (.val c),y])
inductive Srk (a:D) (kk:List RR) (xs:List RR) (ρ:Rho):Prop
 | mk (ys:List RR) (kvs:List (D×D)) (x y:Option Sl) (e:kk=ys++xs) (eρ:ρ=[some (.val a),some (.own (.d kvs)),x,y]) (ek:kvs.map (·.1)=(ys.flatMap (·.2)).map D.str)
inductive Sri (a c:D) (zs bs:List Str) (xs:List Str) (ρ:Rho):Prop
 | mk (ys:List Str) (kvs:List (D×D)) (y:Option Sl) (e:bs=ys++xs) (eρ:ρ=[some (.val a),some (.own (.d kvs)),some (.val c),y]) (ek:kvs.map (·.1)=(zs++ys).map D.str)
section
variable {P:Program}{w:World}{K:W.Frag}{mg:MG}{base:Heap}{f:Addr}{fd:FuncData}{A:Adr}
def u7z (F:Fun K "heads_in" "heads_in" u2g f fd) (T:Txt P w K mg A):∃G,FnOk P w K mg base CX0 1 f fd ["rules"] (spF K G)/\∀(rs:List RR) (d:D),items d=.ok (rs.map rT)->rs.length<64->G [d]=.ok (.lst ((headsL rs).map D.str)):=by
 refine⟨_,F.okT (k:=0) u7o (λcdv Ar outer s H E hr=>u0e (u0i (v4j rfl T.z_sorted T.z_set (u0a (DN.de (u0Y ["rule"] [] rfl (u0t (sc:=defScope u2g) (N:=["rules"]) (by decide +kernel)) (u0w (dv 0)) (dg_n (show(["rule"]:List Str).Nodup by decide +kernel)) u2l (d_ix x_ix (dv 0) u0c))) u0b)))),?_⟩
 intro rs d hi hl;simp[runT,startD,hi];rw[u0r (u0D (by omega)),u1x hd1 (λd hd=>?_)]
 ·simp only [v1f,Res.bind_ok,v2f,one1]
  rw[u8w (by simpa[hsOf] using hl)]
  simp[headsL]
 ·obtain ⟨p,_,rfl⟩:=x5.mp hd
  exact⟨_,rfl,rfl,by simp[rhoC,rT,ix_0,hd1]⟩
def u7t {a0i:FD} (a0v:Callee P w K mg base 2 "is_sign" ["thing"] (spF K a0i)) (a0u:P1 sgnD a0i) (F:Fun K "signs_in" "signs_in" u2W f fd) (T:Txt P w K mg A):∃G,FnOk P w K mg base CX0 3 f fd ["rules"] (spF K G)/\∀(rs:List RR) (d:D),items d=.ok (rs.map rT)->Few rs->G [d]=.ok (.lst ((sortT (sgL [] rs)).map D.str)):=by
 refine⟨_,F.okT (k:=2) u1J (λcdv Ar outer s H E hr=>u0d (u1B u1J.nd u6P)
  (u0d (u0A rfl (u0w (dv 0)) (dg_n u1J.nd)
  (u0e (u0A rfl (u0w (d_ix x_ix (dv 2) u0c)) (dg_n u1J.nd)
   (u0e (u0x (u0W (d_fn a0v hr (u0a (dv 3) u0b))) (u0e (u4t 1 (hu200 hr) (dv 3) d_bl)) u0n)))))
  (u0e (u0i (d_B (v1R rfl) T.z_sorted (by decide +kernel) (u0a (dv 1) u0b)))))),?_⟩
 intro rs d hi fw;simp[runT,startD,hi];have key:∀o,Qsg d (sgL [] rs) o->noE (outR (o.andThen λρ=>(((getV (frz ρ) 1).bind λd=>Res.ok [d]).bind λds=>noE (gSD ds)).go ρ λd=>Out.rt d))=.ok (.lst ((sortT (sgL [] rs)).map D.str)):=by
  rintro o ⟨kvs,x,y,rfl,ek⟩;have e:gSD [.dct kvs]=.ok (.lst ((sortT (sgL [] rs)).map D.str)):=by
   show(match keyStrs kvs with|some ss=>gd (ss.length<64/\∀z∈ss,z.length<=sizeLine) (Res.ok (D.lst ((sortT ss).map D.str)))|none=>.bad)=_
   rw[u3g ek];simp only;refine u0r ⟨fw.s,λz hz=>?_⟩
   have:=u7k (P:=λz=>goodS z=true) (ss:=[]) (rs:=rs) (λz h=>(nomatch h)) (λp hp b hb _=>(fw.ok p hp).gs b hb) z hz
   simp[goodS] at this;exact u0D this.2
  simp[OD.toD,e]
 apply key;refine u0L rT (Ssg d) sgL (Qsg _) ?_ ?_ rs [] _ ⟨fw.ok,by have:=fw.n;simp;omega,[],none,none,rfl,rfl⟩
 ·intro ss ρ hY
  refine bc λhZ=>?_
  obtain⟨_,_,kvs,x,y,rfl,ek⟩:=hY;refine hZ ?_;exact⟨kvs,x,y,rfl,ek⟩
 ·intro ss p ps ρ hY
  refine bc λhZ=>?_
  obtain⟨ok,hl,kvs,x,y,rfl,ek⟩:=hY;refine hZ ?_;have op:=ok p z5;refine⟨_,rfl,?_⟩;simp[rT,ix_1];generalize hI:forD _ _ _ _=o;have q:Qsg d (p.2.foldl addSg ss) o:=by
   rw[<- hI];refine u0L D.str (Ssi d (some (.val (rT p)))) (λss bs=>bs.foldl addSg ss) (Qsg _) ?_ ?_ p.2 ss _ ⟨op.gs,by have:=op.l;simp at hl;omega,kvs,y,rfl,ek⟩
   ·rintro ss ρ ⟨_,_,kvs,y,rfl,ek⟩
    exact⟨kvs,_,y,rfl,ek⟩
   ·rintro ss b bs ρ ⟨gs,hl,kvs,y,rfl,ek⟩
    have hk:kvs.length=ss.length:=by have:=congrArg List.length ek;simpa using this
    refine⟨_,rfl,?_⟩;simp[a0u (.str b) (by simpa[goodD] using gs b z5),sgnD]
    by_cases c:sgnS b=true
    ·simp only [c,if_true]
     rw[v3L (ss:=ss) (kvs:=kvs) (b:=b) (by simp at hl;omega) rfl rfl rfl]
     exact u0X (addSg ss b) ⟨λz hz=>gs z (z4 _ hz),by have:=u4A ss b;simp at hl;omega,_,_,rfl,by unfold addSg;rw[if_pos c];exact u6G ek⟩ rfl
    ·simp only [c]
     exact u0X (addSg ss b) ⟨λz hz=>gs z (z4 _ hz),by have:=u4A ss b;simp at hl;omega,_,_,rfl,by unfold addSg;rw[if_neg c];exact ek⟩ rfl
  obtain⟨kvs',x',y',rfl,ek'⟩:=q;exact u0X (p.2.foldl addSg ss) ⟨λz hz=>ok z (z4 _ hz),by have:=u5e p.2 ss;have:=op.l;simp at hl;omega,_,_,_,rfl,ek'⟩ rfl
def u5y {a3l:FD} (a4g:Callee P w K mg base 5 "is_rule" ["thing"] (spF K a3l)) (a4c:P1 ruleD a3l) (F:Fun K "need_rules" "need_rules" u1Z f fd) (T:Txt P w K mg A):∃G,FnOk P w K mg base CX0 6 f fd ["rules"] (spF K G)/\∀rs:List RR,(∀p∈rs,OkR p)->1<=rs.length->rs.length<=20->rs.Nodup->G [dR rs]=.ok .non:=by
 refine⟨_,F.okT (k:=5) u1j (λcdv Ar outer s H E hr=>u0d (u0x (u1V (u0W (d_B u3G T.z_isinstance (by decide +kernel) (u0a (dv 0) (u0a (d_ty T.z_list (T:="list") (by decide +kernel)) u0b))))) (u0e u1W) u0n)
  (u0d (u0x (u1V (u8D o_le o_le u0c (d_B u1z T.z_len (by decide +kernel) (u0a (dv 0) u0b)) (u3F T.g_MOST_RULES))) (u0e u1W) u0n)
  (u0d (u1B u1j.nd dn_newW)
  (u0e (u0A rfl (v1D T.z_enumerate (u0a (dv 0) u0b)) (u2O (n:=2) rfl (u0s (dg_n u1j.nd) (u0s (dg_n u1j.nd) u1E)))
  (u0d (u0x (u1V (u0W (d_fn a4g hr (u0a (dv 3) u0b)))) (u0e u1W) u0n)
   (u0d (u0x (u0l (o_inW (hu200 hr)) (dv 3) (dv 1)) (u0e u1W) u0n)
   (u0e (ds_putW 1 (hu200 hr) (dv 3) d_bl))))))))),?_⟩
 intro rs ok l1 l2 nd;refine run0 rfl ?_;have c1:(1:Int)<=rs.length:=by omega
 have c2:(rs.length:Int)<=20:=by omega
 have i1:gIsA [dR rs,.ty "list"]=.ok (.bl true):=rfl;refine brn (Q:=λo=>∃ρ,o=.nx ρ) false (by simp[startD,i1]) (λc=>by cases c) λ_=>?_
 refine th (Q:=λo=>∃ρ,o=.nx ρ) rfl ?_
 refine brn (Q:=λo=>∃ρ,o=.nx ρ) false (by simp[startD,gLen,c1,c2]) (λc=>by cases c) λ_=>?_
 refine th (Q:=λo=>∃ρ,o=.nx ρ) rfl ?_
 refine th (Q:=λo=>∃ρ,o=.nx ρ) rfl ?_
 refine goq (Q:=λo=>∃ρ,o=.nx ρ) (v:=enumL (rs.map rT)) rfl ?_
 refine u5K rT (Snr w rs) (λo=>∃ρ,o=.nx ρ) (λk ρ _=>⟨ρ,rfl⟩) ?_ rs 0 _ ⟨[],[],none,none,rfl,rfl,rfl,rfl⟩
 rintro k p xs ρ ⟨ys,kvs,x,y,e,hk,rfl,ek⟩;have m:p∈rs:=by rw[e];simp
 have op:=ok p m;have np:p∉ys:=λz=>by rw[e] at nd;exact(List.nodup_append.mp nd).2.2 p z p z5 rfl
 have hl:kvs.length=ys.length:=by have:=congrArg List.length ek;simpa using this
 have hy:ys.length<=rs.length:=by rw[e];simp
 refine⟨_,rfl,.inl ⟨_,?_,ys++[p],putN kvs (keyR p) (.bl true),some (.val (dN k)),some (.val (rT p)),by rw[e,List.append_assoc];rfl,by rw[hk];simp,rfl,v3a ek np⟩⟩
 refine brn (Q:=λo=>o=_) false (by simp[a4c _ (good_rT op.gh op.gs),ok_rule op]) (λc=>by cases c) λ_=>?_
 refine th (Q:=λo=>o=_) rfl ?_
 refine brn (Q:=λo=>o=_) false (by simp[OD.toD,in_keys (w:=w) op ek,np]) (λc=>by cases c) λ_=>?_
 refine th (Q:=λo=>o=_) rfl ?_
 exact put_key (w:=w) (kvs:=kvs) op (by omega) rfl rfl rfl
def u2u {a0m:FD} (a1c:Callee P w K mg base 1 "heads_in" ["rules"] (spF K a0m)) {a0d:FD} (a0p:Callee P w K mg base 2 "is_head" ["thing"] (spF K a0d)) (a1f:∀(rs:List RR) (d:D),items d=.ok (rs.map rT)->rs.length<64->a0m [d]=.ok (.lst ((headsL rs).map D.str))) (a0k:P1 hdD a0d) (F:Fun K "need_known_heads" "need_known_heads" u0T f fd) (T:Txt P w K mg A):∃G,FnOk P w K mg base CX0 3 f fd ["rules"] (spF K G)/\∀rs:List RR,Few rs->(∀p∈rs,∀b∈p.2,hdS b=true->b∈headsL rs)->G [dR rs]=.ok .non:=by
 refine⟨_,F.okT (k:=2) u0C (λcdv Ar outer s H E hr=>u0d (ds_n u0C.nd (d_fn a1c hr (u0a (dv 0) u0b)))
  (u0e (u0A rfl (u0w (dv 0)) (dg_n u0C.nd)
  (u0e (u0A rfl (u0w (d_ix x_ix (dv 2) u0c)) (dg_n u0C.nd)
   (u0e (u0x (dt_w (u2N (u0W (d_fn a0p hr (u0a (dv 3) u0b))) (u1S (u0l (u4e (hu100 hr)) (dv 3) (dv 1))))) (u0e u1W) u0n))))))),?_⟩
 intro rs fw kn;have n20:=fw.n;refine run0 rfl ?_;refine asg (Q:=λo=>∃ρ,o=.nx ρ) (.lst ((headsL rs).map D.str)) (by simp[startD,a1f rs (dR rs) rfl (by omega)]) rfl ?_
 refine goq (Q:=λo=>∃ρ,o=.nx ρ) (v:=rs.map rT) rfl ?_
 refine u7K rT (Skn (dR rs) (.lst ((headsL rs).map D.str))) (λo=>∃ρ,o=.nx ρ) (λρ _=>⟨ρ,rfl⟩) rs (λp hp xs ρ hS=>?_) _ ⟨none,none,rfl⟩
 obtain⟨x,y,rfl⟩:=hS;have op:=fw.ok p hp;refine⟨_,rfl,?_⟩;refine goq (Q:=StO _ _ _) (v:=p.2.map D.str) (by simp[rT,ix_1]) ?_
 refine u7K D.str (Ski (dR rs) (.lst ((headsL rs).map D.str)) (rT p)) (StO _ _ _) (λρ hS=>?_) p.2 (λb hb bs ρ hS=>?_) _ ⟨y,rfl⟩
 ·obtain ⟨y,rfl⟩:=hS
  exact .inl ⟨_,rfl,_,y,rfl⟩
 ·obtain ⟨y,rfl⟩:=hS
  refine⟨_,rfl,.inl ⟨_,?_,some (.val (.str b)),rfl⟩⟩;refine br1 (Q:=λo=>o=_) false ?_ (λc=>by cases c) λ_=>rfl
  by_cases c:hdS b=true
  ·simp[a0k (.str b) (op.gs b hb),hdD,c,u4V (op.gs b hb) (u5d fw.ok),kn p hp b hb c]
  ·simp[a0k (.str b) (op.gs b hb),hdD,c]
def u2v {a0m:FD} (a1c:Callee P w K mg base 1 "heads_in" ["rules"] (spF K a0m)) {a2t:FD} (a3v:Callee P w K mg base 3 "signs_in" ["rules"] (spF K a2t)) (a1f:∀(rs:List RR) (d:D),items d=.ok (rs.map rT)->rs.length<64->a0m [d]=.ok (.lst ((headsL rs).map D.str))) (a4o:∀(rs:List RR) (d:D),items d=.ok (rs.map rT)->Few rs->a2t [d]=.ok (.lst ((sortT (sgL [] rs)).map D.str))) (F:Fun K "need_few_symbols" "need_few_symbols" u0U f fd) (T:Txt P w K mg A):∃G,FnOk P w K mg base CX0 4 f fd ["rules"] (spF K G)/\∀rs:List RR,Few rs->(headsL rs).length<=8->(sgL [] rs).length<=10->G [dR rs]=.ok .non:=by
 refine⟨_,F.okT (k:=3) u0N (λcdv Ar outer s H E hr=>u0d (ds_n u0N.nd (d_fn a1c hr (u0a (dv 0) u0b)))
  (u0d (u0x (u0l o_gt (d_B u1z T.z_len (by decide +kernel) (u0a (dv 1) u0b)) (u3F T.g_MOST_HEADS)) (u0e u1W) u0n)
  (u0d (ds_n u0N.nd (d_fn a3v hr (u0a (dv 0) u0b)))
  (u0e (u0x (u0l o_gt (d_B u1z T.z_len (by decide +kernel) (u0a (dv 2) u0b)) (u3F T.g_MOST_SIGNS)) (u0e u1W) u0n))))),?_⟩
 intro rs fw h8 s10;have n20:=fw.n;have c1:¬ (8:Int)<(headsL rs).length:=by omega
 have c2:¬ (10:Int)<(sgL [] rs).length:=by omega
 simp[runT,startD,a1f rs (dR rs) rfl (by omega),gLen,c1,a4o rs (dR rs) rfl fw,u1r,c2]
def u5z {a3m:FD} (a4h:Callee P w K mg base 4 "is_rank" ["thing"] (spF K a3m)) (a4d:P1 rankD a3m) (F:Fun K "need_ranks" "need_ranks" u2a f fd) (T:Txt P w K mg A):∃G,FnOk P w K mg base CX0 5 f fd ["ranks"] (spF K G)/\∀(kk:List RR) (d:D),d=.lst (kk.map rT)\/d=.tup (kk.map rT)->(∀q∈kk,OkQ q)->kk.length<=6->(kk.flatMap (·.2)).Nodup->G [d]=.ok .non:=by
 refine⟨_,F.okT (k:=4) u1k (λcdv Ar outer s H E hr=>u0d (u0x (u1V (u0W (d_B u3G T.z_isinstance (by decide +kernel) (u0a (dv 0) (u0a (u0f (u0a (d_ty T.z_list (T:="list") (by decide +kernel)) (u0a (d_ty T.z_tuple (T:="tuple") (by decide +kernel)) u0b))) u0b))))) (u0e u1W) u0n)
  (u0d (u0x (u0l o_gt (d_B u1z T.z_len (by decide +kernel) (u0a (dv 0) u0b)) (u3F T.g_MOST_RANKS)) (u0e u1W) u0n)
  (u0d (u1B u1k.nd u6P)
  (u0e (u0A rfl (u0w (dv 0)) (dg_n u1k.nd)
  (u0d (u0x (u1V (u0W (d_fn a4h hr (u0a (dv 2) u0b)))) (u0e u1W) u0n)
   (u0e (u0A rfl (u0w (d_ix x_ix (dv 2) u0c)) (dg_n u1k.nd)
   (u0d (u0x (u0l (o_inW (hu200 hr)) (dv 3) (dv 1)) (u0e u1W) u0n)
    (u0e (u4t 1 (hu200 hr) (dv 3) d_bl))))))))))),?_⟩
 intro kk d hd ok k6 kd;have i1:gIsA [d,.tup [.ty "list",.ty "tuple"]]=.ok (.bl true):=by rcases hd with rfl|rfl<;>rfl
 have i2:gLen [d]=.ok (.int kk.length):=by rcases hd with rfl|rfl<;>simp[gLen]
 have i3:items d=.ok (kk.map rT):=by rcases hd with rfl|rfl<;>rfl
 have c1:¬ (6:Int)<kk.length:=by omega
 have l60:(kk.flatMap (·.2)).length<=60:=by
  have:∀xs:List RR,(∀q∈xs,OkQ q)->(xs.flatMap (·.2)).length<=10*xs.length:=by
   intro xs;induction xs with
   | nil=>intro _;simp
   | cons q xs ih =>
    intro h;have h1:=ih λz hz=>h z (z4 _ hz)
    have h2:=(h q z5).l;simp only[List.flatMap_cons,u7,v9];omega
  have:=this kk ok
  omega
 refine run0 rfl ?_;refine brn (Q:=λo=>∃ρ,o=.nx ρ) false (by simp[startD,i1]) (λc=>by cases c) λ_=>?_
 refine th (Q:=λo=>∃ρ,o=.nx ρ) rfl ?_
 refine brn (Q:=λo=>∃ρ,o=.nx ρ) false (by simp[startD,i2,c1]) (λc=>by cases c) λ_=>?_
 refine th (Q:=λo=>∃ρ,o=.nx ρ) rfl ?_
 refine th (Q:=λo=>∃ρ,o=.nx ρ) rfl ?_
 refine goq (Q:=λo=>∃ρ,o=.nx ρ) (v:=kk.map rT) (by simp[startD,i3]) ?_
 refine u1R rT (Srk d kk) (λo=>∃ρ,o=.nx ρ) (λρ _=>⟨ρ,rfl⟩) ?_ kk _ ⟨[],[],none,none,rfl,rfl,rfl⟩
 rintro q xs ρ ⟨ys,kvs,x,y,e,rfl,ek⟩;have oq:=ok q (by rw[e];simp)
 rw[e,List.flatMap_append,List.flatMap_cons] at kd l60;refine⟨_,rfl,?_⟩;refine brn (Q:=StO _ _ _) false (by simp[a4d _ oq.g,oq.r]) (λc=>by cases c) λ_=>?_
 refine th (Q:=StO _ _ _) rfl ?_;refine goq (Q:=StO _ _ _) (v:=q.2.map D.str) (by simp[rT,ix_1]) ?_
 refine u1R D.str (Sri d (rT q) (ys.flatMap (·.2)) q.2) (StO _ _ _) ?_ ?_ q.2 _ ⟨[],kvs,y,rfl,rfl,by rw[List.append_nil];exact ek⟩
 ·rintro ρ ⟨zs,kvs,y,e2,rfl,ek⟩
  rw[List.append_nil] at e2;refine .inl ⟨_,rfl,ys++[q],kvs,_,y,by rw[e,List.append_assoc];rfl,rfl,?_⟩
  rw[ek,List.flatMap_append,<- e2];simp
 ·rintro b bs ρ ⟨zs,kvs,y,e2,rfl,ek⟩
  rw[e2] at kd l60;have nb:b∉ys.flatMap (·.2)++zs:=λz=>by
   rw[<- List.append_assoc,<- List.append_assoc,List.append_assoc (ys.flatMap (·.2)++zs),List.nodup_append] at kd
   exact kd.2.2 b z b (by simp) rfl
  have hl:kvs.length=(ys.flatMap (·.2)++zs).length:=by have:=congrArg List.length ek;simpa using this
  simp only[u7] at l60 hl;refine⟨_,rfl,.inl ⟨_,?_,zs++[b],putD kvs (.inr b) (.bl true),some (.val (.str b)),by rw[e2,List.append_assoc];rfl,rfl,?_⟩⟩
  ·refine brn (Q:=fun o=>o=_) false (by simp [OD.toD,in_dct (w:=w) ek,nb]) (fun c=>by cases c) fun _=>?_
   refine th (Q:=λo=>o=_) rfl ?_
   exact v3L (ss:=ys.flatMap (·.2)++zs) (kvs:=kvs) (b:=b) (by omega) rfl rfl rfl
  ·rw [u6G ek,<- List.append_assoc]
   unfold addT;rw[if_neg nb]
end
abbrev u0E:Stmt:=meth 41 0
def u4R:FnScope ["self","rules","ranks","told"] ["self","rules","ranks"] (defScope u0E):=⟨rfl,rfl,rfl,by decide +kernel,rfl,by decide +kernel,by decide +kernel⟩
def ne_rr:Str.ofString "rules"≠Str.ofString "ranks":=by decide +kernel
def ne_rs:Str.ofString "rules"≠Str.ofString "start":=by decide +kernel
def ne_ks:Str.ofString "ranks"≠Str.ofString "start":=by decide +kernel
noncomputable def toldD:D->D
 | .non=>.tup []
 | d=>d
noncomputable def itemsD:D->List D
 | .lst ds=>ds
 | .tup ds=>ds
 | _=>[]
noncomputable def strt:D->D
 | .lst (.tup (x::_)::_)=>x
 | _=>.non
noncomputable def gFlds (r k:D):List (Str×D):=[("rules",.tup (itemsD r)),("ranks",.tup (itemsD (toldD k))),("start",strt r)]
inductive GHand (r k:D):Prop
 | mk (rs kk:List RR) (o:GOk rs kk) (er:r=dR rs) (ek:toldD k=.lst (kk.map rT)\/toldD k=.tup (kk.map rT))
open Classical in
noncomputable def gInit:List D->Res (List (Str×D))
 | [r,k]=>if GHand r k then .ok (gFlds r k) else .bad
 | _=>.bad
def v3n {rs kk:List RR}{k:D} (o:GOk rs kk) (ek:toldD k=.lst (kk.map rT)\/toldD k=.tup (kk.map rT)):gInit [dR rs,k]=.ok (gFlds (dR rs) (dR kk)):=by
 have z:gInit [dR rs,k]=.ok (gFlds (dR rs) k):=if_pos ⟨rs,kk,o,rfl,ek⟩;rw[z];unfold gFlds;rcases ek with e|e<;>rw[e]<;>rfl
set_option tactic.hygienic true in
def u8x {ds:List D}{gs:List (Str×D)} (h:gInit ds=.ok gs):∃r k,ds=[r,k]/\GHand r k/\gs=gFlds r k:=by
 unfold gInit at h;split at h
 ·split at h
  ·rename_i c
   cases h;exact⟨_,_,rfl,c,rfl⟩
  ·cases h
 ·cases h
section
variable {P:Program}{w:World}{K:W.Frag}{mg:MG}{base:Heap}{f:Addr}{fd:FuncData}{A:Adr}
def u9A {a2b:FD} (a3c:Callee P w K mg base 6 "need_rules" ["rules"] (spF K a2b)) {a0z:FD} (a1u:Callee P w K mg base 3 "need_known_heads" ["rules"] (spF K a0z)) {a1a:FD} (a1v:Callee P w K mg base 4 "need_few_symbols" ["rules"] (spF K a1a)) {a2c:FD} (a3d:Callee P w K mg base 5 "need_ranks" ["ranks"] (spF K a2c)) (p_nr:∀rs:List RR,(∀p∈rs,OkR p)->1<=rs.length->rs.length<=20->rs.Nodup->a2b [dR rs]=.ok .non) (p_nk:∀rs:List RR,Few rs->(∀p∈rs,∀b∈p.2,hdS b=true->b∈headsL rs)->a0z [dR rs]=.ok .non) (p_nf:∀rs:List RR,Few rs->(headsL rs).length<=8->(sgL [] rs).length<=10->a1a [dR rs]=.ok .non) (p_nn:∀(kk:List RR) (d:D),d=.lst (kk.map rT)\/d=.tup (kk.map rT)->(∀q∈kk,OkQ q)->kk.length<=6->(kk.flatMap (·.2)).Nodup->a2c [d]=.ok .non) (F:FunD K "__init__" "Grammar.__init__" u0E f fd) (T:Txt P w K mg A):FnOk P w K mg base CX0 7 f fd ["self","rules","ranks"] (spIni K A.Grammar gInit):=by
 refine F.okI0 (k:=6) u4R (λds gs h=>?_) (λcdv Ar outer s H E hr=>⟨_,u0d (u2G (d_fn a3c hr (u0a (dv 1) u0b)))
  (u0d (u2G (d_fn a1u hr (u0a (dv 1) u0b)))
  (u0d (u2G (d_fn a1v hr (u0a (dv 1) u0b)))
  (u0d (ds_n u4R.nd (d_ife (u0l o_is (dv 2) u4w) (u0f u0b) (dv 2)))
  (u0d (u2G (d_fn a3d hr (u0a (dv 3) u0b)))
  (u0d (v1z 0 T.cls T.na_rules (d_T u4y T.z_tuple (by decide +kernel) (u0a (dv 1) u0b)))
  (u0d (v1z 0 T.cls T.na_ranks (d_T u4y T.z_tuple (by decide +kernel) (u0a (dv 3) u0b)))
  (u0e (v1z 0 T.cls T.na_start (d_ix x_ix (d_ix x_ix (d_fldO 0 T.cls (T.na_rules)) u0c) u0c))))))))),λa ds gs h=>?_⟩)
 ·obtain ⟨r,k,rfl,_⟩:=u8x h
  rfl
 obtain⟨r,k,rfl,⟨rs,kk,o,rfl,ek⟩,rfl⟩:=u8x h;have e1:=p_nr rs o.f.ok o.n o.f.n o.nd;have e2:=p_nk rs o.f o.kn;have e3:=p_nf rs o.f o.hs o.ss;have e4:=p_nn kk _ ek o.k o.k6 o.kd;have e5:(if isN k=true then Res.ok (D.tup []) else Res.ok k)=Res.ok (toldD k):=by cases k<;>rfl
 have ei:gTuple [toldD k]=.ok (.tup (itemsD (toldD k))):=by rcases ek with e|e<;>rw[e]<;>rfl
 have er:gTuple [dR rs]=.ok (.tup (rs.map rT)):=rfl;obtain⟨p,ps,ep⟩:∃p ps,rs=p::ps:=by
  cases rs with
  | nil=>exact absurd o.n (by simp)
  | cons p ps=>exact⟨p,ps,rfl⟩
 have i2:dIx (.tup (rs.map rT)) (.int 0)=.ok (rT p):=by rw[ep];exact ix_0 _ _
 have i3:dIx (rT p) (.int 0)=.ok (.str p.1):=ix_0 _ _;have i4:strt (dR rs)=.str p.1:=by rw[ep];rfl
 have i5:itemsD (dR rs)=rs.map rT:=rfl;simp[startI,startD,dIs,e1,e2,e3,outI,e5,e4,er,ei,getI,putG,i2,i3,gFlds,i4,i5,ne_rr,ne_rs,ne_ks,List.lookup]
end
end K19
namespace Bk
section
variable {α:Type} (isH:α->Bool)
noncomputable def sz (f:α->Option Nat):List α->Option Nat
 | []=>some 1
 | b::bs=>match sz f bs with
  | none=>none
  | some t=>if isH b=true then (f b).map (t+·) else some (t+1)
def Le (x y:Option Nat):Prop:=∀t,y=some t->∃s,x=some s/\s<=t
def Le.refl (x:Option Nat):Le x x:=λt h=>⟨t,h,z7 _⟩
def Le.trans {x y z:Option Nat} (h:Le x y) (k:Le y z):Le x z:=λt e=>by
 obtain⟨s,e1,l1⟩:=k t e;obtain⟨r,e2,l2⟩:=h s e1;exact⟨r,e2,y7 l2 l1⟩
theorem u2S {f g:α->Option Nat}:∀{bs:List α},(∀b∈bs,isH b=true->Le (f b) (g b))->Le (sz isH f bs) (sz isH g bs)
 | [],_=>Le.refl _
 | b::bs,h=>λt e=>by
  have ih:=u2S (bs:=bs) λx m=>h x (z4 _ m)
  simp only[sz] at e |-
  cases q:sz isH g bs with
  | none=>rw[q] at e;cases e
  | some u =>
   rw[q] at e;obtain⟨v,ev,lv⟩:=ih u q;rw[ev];simp only at e |-
   by_cases c:isH b=true
   ·rw [if_pos c] at e |-
    cases k:g b with
    | none=>rw[k] at e;cases e
    | some w =>
     rw[k] at e;simp only[Option.map_some,Option.some.injEq] at e;subst e;obtain⟨w',ew,lw⟩:=h b z5 c w k;exact⟨v+w',by rw[ew];rfl,Nat.add_le_add lv lw⟩
   ·rw [if_neg c] at e |-
    cases e;exact⟨v+1,rfl,Nat.add_le_add_right lv 1⟩
theorem u7U {f:α->Option Nat}:∀{bs:List α}{t:Nat},sz isH f bs=some t->1<=t/\∀b∈bs,isH b=true->∃s,f b=some s/\s<t
 | [],t,e=>by cases e;exact⟨z7 _,λ_ m=>nomatch m⟩
 | b::bs,t,e=>by
  simp only[sz] at e;cases q:sz isH f bs with
  | none=>rw[q] at e;cases e
  | some u =>
   rw[q] at e;obtain⟨i1,i2⟩:=u7U q;simp only at e;by_cases c:isH b=true
   ·rw [if_pos c] at e
    cases k:f b with
    | none=>rw[k] at e;cases e
    | some w =>
     rw[k] at e;simp only[Option.map_some,Option.some.injEq] at e;subst e;refine⟨by omega,λx m hx=>?_⟩
     rcases y0.mp m with rfl|m
     ·exact⟨w,k,by omega⟩
     ·obtain ⟨s,e,l⟩:=i2 x m hx
      exact⟨s,e,by omega⟩
   ·rw [if_neg c] at e
    cases e;refine⟨by omega,λx m hx=>?_⟩
    rcases y0.mp m with rfl|m
    ·exact absurd hx c
    ·obtain ⟨s,e,l⟩:=i2 x m hx
     exact⟨s,e,by omega⟩
noncomputable def mn:Option Nat->Option Nat->Option Nat
 | none,y=>y
 | x,none=>x
 | some a,some b=>some (min a b)
def mn_l (x y:Option Nat):Le (mn x y) x:=λt e=>by
 subst e;cases y with
 | none=>exact⟨t,rfl,z7 _⟩
 | some b=>exact⟨min t b,rfl,Nat.min_le_left _ _⟩
def mn_r (x y:Option Nat):Le (mn x y) y:=λt e=>by
 subst e;cases x with
 | none=>exact⟨t,rfl,z7 _⟩
 | some b=>exact⟨min b t,rfl,Nat.min_le_right _ _⟩
def mn_at {x y:Option Nat}{t:Nat} (h:mn x y=some t):x=some t\/y=some t:=by
 cases x with
 | none=>exact .inr h
 | some a =>
  cases y with
  | none=>exact .inl h
  | some b =>
   cases h;rcases Nat.le_total a b with l|l
   ·rw[Nat.min_eq_left l];exact .inl rfl
   ·rw[Nat.min_eq_right l];exact .inr rfl
variable [DecidableEq α] (R:List (α×List α))
noncomputable def lst (g:List α->Option Nat) (h:α):List (α×List α)->Option Nat
 | []=>none
 | p::ps=>if p.1=h then mn (g p.2) (lst g h ps) else lst g h ps
theorem v3U {g:List α->Option Nat}{p:α×List α}:∀{ps:List (α×List α)},p∈ps->Le (lst g p.1 ps) (g p.2)
 | q::ps,m=>by
  rw[lst];rcases y0.mp m with rfl|m
  ·rw[if_pos rfl];exact mn_l _ _
  ·have ih:=v3U (g:=g) m
   split
   ·exact(mn_r _ _).trans ih
   ·exact ih
set_option tactic.hygienic true in
theorem u4h {g:List α->Option Nat}{h:α}{t:Nat}:∀{ps:List (α×List α)},lst g h ps=some t->∃p∈ps,p.1=h/\g p.2=some t
 | q::ps,e=>by
  rw[lst] at e;split at e
  ·rename_i c
   rcases mn_at e with e|e
   ·exact⟨q,z5,c,e⟩
   ·obtain ⟨p,m,r⟩:=u4h e
    exact⟨p,z4 _ m,r⟩
  ·obtain ⟨p,m,r⟩:=u4h e
   exact⟨p,z4 _ m,r⟩
noncomputable def L:Nat->α->Option Nat
 | 0,_=>none
 | d+1,h=>lst (sz isH (L d)) h R
def L_le {d:Nat}{p:α×List α} (m:p∈R):Le (L isH R (d+1) p.1) (sz isH (L isH R d) p.2):=v3U m
theorem v4o:∀(d:Nat) (h:α),Le (L isH R (d+1) h) (L isH R d h)
 | 0,h=>λt e=>nomatch e
 | d+1,h=>λt e=>by
  obtain⟨p,m,rfl,e2⟩:=u4h (show lst _ h R=some t from e)
  exact((L_le isH R m).trans (u2S isH λb _ _=>v4o d b)) t e2
def L_up {d e:Nat} (l:d<=e) (h:α):Le (L isH R e h) (L isH R d h):=by
 induction l with
 | refl=>exact Le.refl _
 | step _ ih=>exact(v4o isH R _ h).trans ih
def Closed (f:α->Option Nat):Prop:=∀p∈R,Le (f p.1) (sz isH f p.2)
theorem Closed.le {f:α->Option Nat} (c:Closed isH R f):∀(d:Nat) (h:α),Le (f h) (L isH R d h)
 | 0,h=>λt e=>nomatch e
 | d+1,h=>λt e=>by
  obtain⟨p,m,rfl,e2⟩:=u4h (show lst _ h R=some t from e)
  exact((c p m).trans (u2S isH λb _ _=>c.le d b)) t e2
def Sound (f:α->Option Nat):Prop:=∀h t,f h=some t->∃d s,L isH R d h=some s/\s<=t
theorem Sound.sz {f:α->Option Nat} (c:Sound isH R f):∀{bs:List α}{t:Nat},sz isH f bs=some t->∃d,∀e,d<=e->∃s,Bk.sz isH (L isH R e) bs=some s/\s<=t
 | [],t,e=>by cases e;exact⟨0,λ_ _=>⟨1,rfl,z7 _⟩⟩
 | b::bs,t,e=>by
  simp only[Bk.sz] at e;cases q:Bk.sz isH f bs with
  | none=>rw[q] at e;cases e
  | some u =>
   rw[q] at e;obtain⟨d,hd⟩:=Sound.sz c q;simp only at e;by_cases k:isH b=true
   ·rw [if_pos k] at e
    cases z:f b with
    | none=>rw[z] at e;cases e
    | some w =>
     rw[z] at e;simp only[Option.map_some,Option.some.injEq] at e;subst e;obtain⟨d2,s2,e2,l2⟩:=c b w z;refine⟨max d d2,λi hi=>?_⟩
     obtain⟨s,es,ls⟩:=hd i (by omega)
     obtain⟨s3,e3,l3⟩:=L_up isH R (show d2<=i by omega) b s2 e2
     exact⟨s+s3,by simp only[Bk.sz,es,if_pos k,e3];rfl,by omega⟩
   ·rw [if_neg k] at e
    cases e;refine⟨d,λi hi=>?_⟩
    obtain⟨s,es,ls⟩:=hd i hi;exact⟨s+1,by simp only[Bk.sz,es,if_neg k],by omega⟩
def Sound.put {f:α->Option Nat} (c:Sound isH R f) {p:α×List α} (m:p∈R) {t:Nat} (e:Bk.sz isH f p.2=some t):Sound isH R (λh=>if h=p.1 then some t else f h):=λh u eu=>by
 have eu:(if h=p.1 then some t else f h)=some u:=eu
 by_cases k:h=p.1
 ·subst k
  rw[if_pos rfl] at eu;cases eu;obtain⟨d,hd⟩:=Sound.sz isH R c e;obtain⟨s,es,ls⟩:=hd d (z7 _);obtain⟨r,er,lr⟩:=L_le isH R m s es;exact⟨d+1,r,er,y7 lr ls⟩
 ·rw [if_neg k] at eu
  exact c h u eu
structure Fin (h:α) (t:Nat):Prop where
 at_:∃d,L isH R d h=some t
 le:∀d s,L isH R d h=some s->t<=s
def v4d {h:α}{d t:Nat} (e:L isH R d h=some t):∃s,Fin isH R h s/\s<=t:=by
 induction t using Nat.strongRecOn generalizing d with
 | ind t ih =>
  by_cases c:∃d2 s,L isH R d2 h=some s/\s<t
  ·obtain ⟨d2,s,e2,l⟩:=c
   obtain⟨r,hr,lr⟩:=ih s l e2;exact⟨r,hr,by omega⟩
  ·exact⟨t,⟨⟨d,e⟩,λd2 s e2=>Nat.le_of_not_lt λl=>c ⟨d2,s,e2,l⟩⟩,z7 _⟩
def v1o {h:α}{s t:Nat} (a:Fin isH R h s) (b:Fin isH R h t):s=t:=by
 obtain⟨d,e⟩:=a.at_;obtain⟨d2,e2⟩:=b.at_;exact Nat.le_antisymm (a.le _ _ e2) (b.le _ _ e)
open Classical in
noncomputable def rk (t:Nat):Nat:=(R.filter λp=>decide (∃s,Fin isH R p.1 s/\s<t)).length
theorem u4r {β:Type}{p q:β->Bool}:∀{l:List β},(∀x∈l,p x=true->q x=true)->(∃x∈l,q x=true/\p x=false)->(l.filter p).length<(l.filter q).length
 | [],_,⟨_,m,_⟩=>nomatch m
 | y::l,h,⟨x,m,hx,nx⟩=>by
  have le:∀{l:List β},(∀x∈l,p x=true->q x=true)->(l.filter p).length<=(l.filter q).length:=by
   intro l;induction l with
   | nil=>intro _;exact z7 _
   | cons z l ih =>
    intro h;have i:=ih λx m=>h x (z4 _ m)
    have hz:=h z z5;rw[List.filter_cons,List.filter_cons];cases a:p z<;>cases b:q z<;>simp_all<;>omega
  rw[List.filter_cons,List.filter_cons];rcases y0.mp m with rfl|m
  ·have:=le fun x m=>h x (z4 _ m)
   simp[hx,nx];omega
  ·have:=u4r (fun x m=>h x (z4 _ m)) ⟨x,m,hx,nx⟩
   have hy:=h y z5;cases a:p y<;>cases b:q y<;>simp_all<;>omega
def u8t {h:α}{d t:Nat} (e:L isH R d h=some t):∃p∈R,p.1=h:=by
 cases d with
 | zero=>cases e
 | succ d =>
  obtain⟨p,m,k,_⟩:=u4h (show lst _ h R=some t from e)
  exact⟨p,m,k⟩
open Classical in
def v1p {h:α}{t:Nat} (a:Fin isH R h t):Le (L isH R (rk isH R t+1) h) (some t):=by
 induction t using Nat.strongRecOn generalizing h with
 | ind t ih =>
  obtain⟨d,e⟩:=a.at_;cases d with
  | zero=>cases e
  | succ d =>
   obtain⟨p,m,rfl,ep⟩:=u4h (show lst _ h R=some t from e)
   refine(L_le isH R m).trans ?_;rw[<- ep];refine u2S isH λb mb hb=>λu eu=>?_
   obtain⟨u2,e2,l2⟩:=(u7U isH ep).2 b mb hb;rw[eu] at e2;cases e2;obtain⟨s,fs,ls⟩:=v4d isH R eu;obtain⟨r,er,lr⟩:=ih s (by omega) fs s rfl
   obtain⟨q,mq,eq⟩:=u8t isH R eu;have lt:rk isH R s<rk isH R t:=by
    unfold rk;refine u4r (λx _ hx=>?_) ⟨q,mq,?_,?_⟩
    ·obtain ⟨z,fz,lz⟩:=of_decide_eq_true hx
     exact decide_eq_true ⟨z,fz,by omega⟩
    ·exact decide_eq_true ⟨s,by rw[eq];exact fs,by omega⟩
    ·refine decide_eq_false fun z9148=>?_
     obtain⟨z,fz,lz⟩:=z9148;rw[eq] at fz;rw[v1o isH R fz fs] at lz;omega
   obtain⟨r2,er2,lr2⟩:=L_up isH R (show rk isH R s+1<=rk isH R t by omega) b r er
   exact⟨r2,er2,by omega⟩
open Classical in
def L_all {h:α}{d:Nat}:Le (L isH R R.length h) (L isH R d h):=λt e=>by
 obtain⟨s,fs,ls⟩:=v4d isH R e;obtain⟨r,er,lr⟩:=v1p isH R fs s rfl;obtain⟨q,mq,eq⟩:=u8t isH R e;have lt:rk isH R s<R.length:=by
  have:=u4r (p:=λp=>decide (∃z,Fin isH R p.1 z/\z<s)) (q:=λ_=>true) (l:=R) (λ_ _ _=>rfl) ⟨q,mq,rfl,by
   refine decide_eq_false λz9149=>?_
   obtain⟨z,fz,lz⟩:=z9149;rw[eq] at fz;rw[v1o isH R fz fs] at lz
   omega⟩
  rw[List.filter_eq_self.mpr λ_ _=>rfl] at this
  exact this
 obtain⟨r2,er2,lr2⟩:=L_up isH R (show rk isH R s+1<=R.length by omega) h r er
 exact⟨r2,er2,by omega⟩
def u8k {f:α->Option Nat} (s:Sound isH R f) (l:∀h,Le (f h) (L isH R R.length h)) (h:α):f h=L isH R R.length h:=by
 cases e:L isH R R.length h with
 | none =>
  cases k:f h with
  | none=>rfl
  | some t =>
   obtain⟨d,r,er,_⟩:=s h t k;obtain⟨z,ez,_⟩:=L_all isH R r er;rw[e] at ez;cases ez
 | some t =>
  obtain⟨r,er,lr⟩:=l h t e;obtain⟨d,u,eu,lu⟩:=s h r er;obtain⟨z,ez,lz⟩:=L_all isH R u eu;rw[e] at ez;cases ez;rw[er,Nat.le_antisymm lr (y7 lz lu)]
end
end Bk
namespace Bk
section
variable {α:Type} (isH:α->Bool) [DecidableEq α] (R:List (α×List α))
noncomputable def low:Option Nat->Option Nat->Bool
 | some t,some s=>decide (t<s)
 | some _,none=>true
 | none,_=>false
noncomputable def stp (f:α->Option Nat) (p:α×List α):α->Option Nat:=λh=>if low (sz isH f p.2) (f p.1)=true/\h=p.1 then sz isH f p.2 else f h
def low_le {x y:Option Nat} (h:low x y=true):Le x y:=λt e=>by
 subst e;cases x with
 | none=>cases h
 | some s=>exact⟨s,rfl,Nat.le_of_lt (by simpa[low] using h)⟩
def v3V {x y:Option Nat} (h:low x y=false):Le y x:=λt e=>by
 subst e;cases y with
 | none=>cases h
 | some s=>exact⟨s,rfl,by simpa[low] using h⟩
set_option tactic.hygienic true in
def u7W (f:α->Option Nat) (p:α×List α) (h:α):Le (stp isH f p h) (f h):=by
 unfold stp;split
 ·rename_i c
  rw[c.2];exact low_le c.1
 ·exact Le.refl _
set_option tactic.hygienic true in
def stp_at (f:α->Option Nat) (p:α×List α):Le (stp isH f p p.1) (sz isH f p.2):=by
 unfold stp;split
 ·exact Le.refl _
 ·rename_i c
  exact v3V (by simpa using c)
set_option tactic.hygienic true in
def v0f {f:α->Option Nat} (s:Sound isH R f) {p:α×List α} (m:p∈R):Sound isH R (stp isH f p):=by
 intro h t e;unfold stp at e;split at e
 ·rename_i c
  exact Sound.put isH R s m e h t (if_pos c.2)
 ·exact s h t e
noncomputable def rnd (f:α->Option Nat) (ps:List (α×List α)):α->Option Nat:=ps.foldl (stp isH) f
theorem v3I:∀(ps:List (α×List α)) (f:α->Option Nat) (h:α),Le (rnd isH f ps h) (f h)
 | [],f,h=>Le.refl _
 | p::ps,f,h=>(v3I ps (stp isH f p) h).trans (u7W isH f p h)
theorem v3J {p:α×List α}:∀{ps:List (α×List α)}{f:α->Option Nat},p∈ps->Le (rnd isH f ps p.1) (sz isH f p.2)
 | q::ps,f,m=>by
  rcases y0.mp m with rfl|m
  ·exact(v3I isH ps _ _).trans (stp_at isH f p)
  ·exact(v3J (f:=stp isH f q) m).trans (u2S isH λb _ _=>u7W isH f q b)
theorem u6l:∀{ps:List (α×List α)}{f:α->Option Nat},Sound isH R f->(∀p∈ps,p∈R)->Sound isH R (rnd isH f ps)
 | [],_,s,_=>s
 | p::ps,f,s,h=>u6l (ps:=ps) (f:=stp isH f p) (v0f isH R s (h p z5)) λq m=>h q (z4 _ m)
noncomputable def rnds (ps:List (α×List α)):Nat->α->Option Nat
 | 0=>λ_=>none
 | n+1=>rnd isH (rnds ps n) ps
def u9H:Sound isH R (λ_=>none):=λ_ _ e=>nomatch e
theorem u3c:∀n,Sound isH R (rnds isH R n)
 | 0=>u9H isH R
 | n+1=>u6l isH R (u3c n) λ_ m=>m
theorem v0u:∀(n:Nat) (h:α),Le (rnds isH R n h) (L isH R n h)
 | 0,h=>λt e=>nomatch e
 | n+1,h=>λt e=>by
  obtain⟨p,m,rfl,e2⟩:=u4h (show lst _ h R=some t from e)
  exact((v3J isH (f:=rnds isH R n) m).trans (u2S isH λb _ _=>v0u n b)) t e2
def u3d {n:Nat} (l:R.length<=n) (h:α):rnds isH R n h=L isH R R.length h :=
 u8k isH R (u3c isH R n) (λh=>(v0u isH R n h).trans (L_up isH R l h)) h
def v1l {f:α->Option Nat} (s:Sound isH R f) (c:Closed isH R f) (h:α):f h=L isH R R.length h:=u8k isH R s (λh=>c.le isH R _ h) h
def u6b {f:α->Option Nat}{p:α×List α} (h:low (sz isH f p.2) (f p.1)=false):stp isH f p=f:=by
 funext x;unfold stp;rw[h];simp
end
end Bk
namespace Bk
section
variable {α:Type} (isH:α->Bool) [DecidableEq α] (R:List (α×List α)) (fr:α×List α->Bool) (st:α)
inductive Rch:α->Prop
 | st:Rch st
 | go {p:α×List α}{b:α}:Rch p.1->p∈R->fr p=true->b∈p.2->isH b=true->Rch b
def Shut (S:List α) (P:α->Prop):Prop:=∀p∈R,p.1∈S->P p.1->fr p=true->∀b∈p.2,isH b=true->b∈S
def v3K {S:List α} (h:st∈S) (c:Shut isH R fr S λ_=>True) {b:α} (r:Rch isH R fr st b):b∈S:=by
 induction r with
 | st=>exact h
 | go _ m f mb hb ih=>exact c _ m ih trivial f _ mb hb
noncomputable def adH (S:List α) (b:α):List α:=if isH b=true/\b∉S then S++[b] else S
noncomputable def grw (S:List α) (p:α×List α):List α:=if p.1∈S/\fr p=true then p.2.foldl (adH isH) S else S
def v4n (S:List α) (b:α):∃T,adH isH S b=S++T:=by
 unfold adH;split
 ·exact⟨_,rfl⟩
 ·exact⟨[],by simp⟩
theorem u5L {β:Type}{g:List α->β->List α} (h:∀S b,∃T,g S b=S++T):∀(bs:List β) (S:List α),∃T,bs.foldl g S=S++T
 | [],S=>⟨[],by simp⟩
 | b::bs,S=>by
  obtain⟨T,e⟩:=h S b;obtain⟨U,e2⟩:=u5L h bs (g S b);exact⟨T++U,by rw[r6,e2,e,List.append_assoc]⟩
def v4b (S:List α) (p:α×List α):∃T,grw isH fr S p=S++T:=by
 unfold grw;split
 ·exact u5L (v4n isH) _ _
 ·exact⟨[],by simp⟩
set_option tactic.hygienic true in
def adH_nd {S:List α}{b:α} (h:S.Nodup):(adH isH S b).Nodup:=by
 unfold adH;split
 ·rename_i c
  exact List.nodup_append.mpr ⟨h,by simp,λx m y k e=>c.2 (by simp at k;rw[<- k,<- e];exact m)⟩
 ·exact h
theorem u5M {β γ:Type}{g:γ->β->γ}{P:γ->Prop}:∀{bs:List β}{S:γ},P S->(∀S,∀b∈bs,P S->P (g S b))->P (bs.foldl g S)
 | [],S,h,_=>h
 | b::bs,S,h,k=>u5M (bs:=bs) (k S b z5 h) λS x m=>k S x (z4 _ m)
structure Gd (S:List α):Prop where
 nd:S.Nodup
 r:∀x∈S,Rch isH R fr st x
set_option tactic.hygienic true in
def v4m {S:List α}{b:α} (h:Gd isH R fr st S) (hb:isH b=true->Rch isH R fr st b):Gd isH R fr st (adH isH S b):=⟨adH_nd isH h.nd,λx m=>by
 unfold adH at m;split at m
 ·rename_i c
  rcases v1.mp m with m|m
  ·exact h.r x m
  ·simp at m;subst m;exact hb c.1
 ·exact h.r x m⟩
set_option tactic.hygienic true in
def v4a {S:List α}{p:α×List α} (h:Gd isH R fr st S) (m:p∈R):Gd isH R fr st (grw isH fr S p):=by
 unfold grw;split
 ·rename_i c
  exact u5M (P:=Gd isH R fr st) h λS b mb h2=>v4m isH R fr st h2 λhb=>.go (h.r _ c.1) m c.2 mb hb
 ·exact h
noncomputable def rr (S:List α):List α:=R.foldl (grw isH fr) S
def rr_gd {S:List α} (h:Gd isH R fr st S):Gd isH R fr st (rr isH R fr S):=u5M (P:=Gd isH R fr st) h λ_ _ m h=>v4a isH R fr st h m
def rr_ex (S:List α):∃T,rr isH R fr S=S++T:=u5L (v4b isH fr) _ _
def v3z {β:Type}{S T U:List β} (h:(S++T)++U=S):T=[]:=by
 have:=congrArg List.length h
 rw[u7,u7] at this;exact List.eq_nil_of_length_eq_zero (by omega)
theorem u3j {β:Type}{g:List α->β->List α} (h:∀S b,∃T,g S b=S++T):∀{bs:List β}{S:List α},bs.foldl g S=S->∀b∈bs,g S b=S
 | b::bs,S,e,x,m=>by
  obtain⟨T,e1⟩:=h S b;obtain⟨U,e2⟩:=u5L h bs (g S b);have e:bs.foldl g (g S b)=S:=e
  have:T=[]:=v3z (S:=S) (U:=U) (by rw[<- e1,<- e2,e])
  rw[this,List.append_nil] at e1;rcases y0.mp m with rfl|m
  ·exact e1
  ·rw [e1] at e
   exact u3j h e x m
def rr_shut {S:List α} (e:rr isH R fr S=S):Shut isH R fr S λ_=>True:=λp m hp _ f b mb hb=>by
 have e1:=u3j (v4b isH fr) e p m;unfold grw at e1;rw[if_pos ⟨hp,f⟩] at e1;have e2:=u3j (v4n isH) e1 b mb;unfold adH at e2;refine Classical.byContradiction λn=>?_
 rw[if_pos ⟨hb,n⟩] at e2
 have:=congrArg List.length e2
 simp at this
noncomputable def rrs:Nat->List α->List α
 | 0,S=>S
 | n+1,S=>rr isH R fr (rrs n S)
theorem u6j {S:List α} (h:Gd isH R fr st S):∀n,Gd isH R fr st (rrs isH R fr n S)
 | 0=>h
 | n+1=>rr_gd isH R fr st (u6j h n)
theorem v0t {S:List α}:∀n,rr isH R fr (rrs isH R fr n S)=rrs isH R fr n S\/S.length+n+1<=(rrs isH R fr (n+1) S).length
 | 0=>by
  obtain⟨T,e⟩:=rr_ex isH R fr S;cases T with
  | nil=>exact .inl (by rw[List.append_nil] at e;exact e)
  | cons t T=>refine .inr ?_;show _<=(rr isH R fr S).length;rw[e];simp
 | n+1=>by
  rcases v0t (S:=S) n with h|h
  ·refine .inl ?_
   have:rrs isH R fr (n+1) S=rrs isH R fr n S:=h
   rw[this,h]
  ·obtain ⟨T,e⟩:=rr_ex isH R fr (rrs isH R fr (n+1) S)
   cases T with
   | nil=>exact .inl (by rw[List.append_nil] at e;exact e)
   | cons t T=>refine .inr ?_;show _<=(rr isH R fr (rrs isH R fr (n+1) S)).length;rw[e];simp;omega
variable (kn:∀p∈R,∀b∈p.2,isH b=true->b∈R.map (·.1)) (ks:st∈R.map (·.1))
include kn ks
def u8c {b:α} (r:Rch isH R fr st b):b∈R.map (·.1):=by
 cases r with
 | st=>exact ks
 | go _ m _ mb hb=>exact kn _ m _ mb hb
def u6K {S:List α} (h:Gd isH R fr st S):S.length<=R.length:=by
 have:=List.Nodup.length_le_of_subset h.nd λx m=>u8c isH R fr st kn ks (h.r x m)
 simpa using this
def rrs_mem {x:α}:x∈rrs isH R fr R.length [st]↔Rch isH R fr st x:=by
 have g0:Gd isH R fr st [st]:=⟨by simp,λx m=>by simp at m;subst m;exact .st⟩
 refine⟨λm=>(u6j isH R fr st g0 _).r x m,λr=>?_⟩
 have sub:∀n,st∈rrs isH R fr n [st]:=by
  intro n;induction n with
  | zero=>exact w9.mpr rfl
  | succ n ih=>obtain⟨T,e⟩:=rr_ex isH R fr (rrs isH R fr n [st]);show st∈rr isH R fr _;rw[e];exact u4 _ ih
 rcases v0t isH R fr (S:=[st]) R.length with e|l
 ·exact v3K isH R fr st (sub _) (rr_shut isH R fr e) r
 ·have:=u6K isH R fr st kn ks (u6j isH R fr st g0 (R.length+1))
  simp at l;omega
end
end Bk
namespace Bk
section
variable {α:Type} (isH:α->Bool) [DecidableEq α] (R:List (α×List α)) (fr:α×List α->Bool) (st:α)
abbrev Wy (α:Type):=List (α×List (Nat×Nat))
noncomputable def lk {β:Type} (W:List (α×β)) (h:α):Option β:=match W with
 | []=>none
 | (k,l)::W=>if k=h then some l else lk W h
set_option tactic.hygienic true in
theorem u4Y {β:Type}{h:α}{l:β}:∀{W:List (α×β)},lk W h=some l->(h,l)∈W
 | (k,m)::W,e=>by
  rw[lk] at e;split at e
  ·rename_i c;cases e;subst c;exact z5
  ·exact z4 _ (u4Y e)
set_option tactic.hygienic true in
theorem u4Z {β:Type}{h:α}:∀{W:List (α×β)},h∈W.map (·.1)->∃l,lk W h=some l
 | (k,m)::W,e=>by
  rw[lk];split
  ·exact⟨m,rfl⟩
  ·rename_i c
   rcases y0.mp e with e|e
   ·exact absurd e.symm c
   ·exact u4Z e
set_option tactic.hygienic true in
theorem v0N {β:Type}{h:α}{l:β}{V:List (α×β)}:∀{W:List (α×β)},lk W h=some l->lk (W++V) h=some l
 | (k,m)::W,e=>by
  rw[lk] at e;rw[List.cons_append,lk];split
  ·rename_i c;rw[if_pos c] at e;exact e
  ·rename_i c;rw[if_neg c] at e;exact v0N e
theorem v2U {β:Type}{h:α}:∀{W:List (α×β)},h∉W.map (·.1)->lk W h=none
 | [],_=>rfl
 | (k,m)::W,e=>by
  rw[lk,if_neg λc=>e (by rw[<- c];exact z5)]
  exact v2U λz=>e (z4 _ z)
def v0M {β:Type}{W:List (α×β)}{h:α}:(lk W h).isSome=decide (h∈W.map (·.1)):=by
 by_cases c:h∈W.map (·.1)
 ·obtain ⟨l,e⟩:=u4Z c
  rw[e,decide_eq_true c];rfl
 ·rw[v2U c,decide_eq_false c];rfl
noncomputable def pt {β:Type} (W:List (α×β)) (h:α) (x:β):List (α×β):=if h∈W.map (·.1) then W.map (λp=>if p.1=h then (p.1,x) else p) else W++[(h,x)]
theorem u7G {β:Type}{h:α}{V:List (α×β)}:∀{W:List (α×β)},h∉W.map (·.1)->lk (W++V) h=lk V h
 | [],_=>rfl
 | (k,m)::W,e=>by
  rw[List.cons_append,lk,if_neg λc=>e (by rw[<- c];exact z5)]
  exact u7G λz=>e (z4 _ z)
def lk_map {β:Type}{h:α}{x:β}{y:α}:∀{W:List (α×β)},h∈W.map (·.1)->lk (W.map λp=>if p.1=h then (p.1,x) else p) y=if y=h then some x else lk W y:=by
 have:∀{W:List (α×β)},lk (W.map λp=>if p.1=h then (p.1,x) else p) y=if y=h/\h∈W.map (·.1) then some x else lk W y:=by
  intro W;induction W with
  | nil=>simp[lk]
  | cons p W ih =>
   obtain⟨k,m⟩:=p;rw[y9,y9];by_cases c:k=h
   ·subst c
    have e1:(if ((k,m):α×β).1=k then (((k,m):α×β).1,x) else (k,m))=(k,x):=if_pos rfl
    rw[e1,lk,lk];by_cases d:k=y
    ·subst d;simp
    ·have d2:¬ y=k:=fun z=>d z.symm
     rw[if_neg d,if_neg d,ih];simp[d2]
   ·have e1:(if ((k,m):α×β).1=h then (((k,m):α×β).1,x) else (k,m))=(k,m):=if_neg c
    rw[e1,lk,lk];by_cases d:k=y
    ·subst d;simp[c]
    ·rw [if_neg d,if_neg d,ih]
     by_cases e:y=h
     ·subst e
      have:(y∈k::W.map (·.1))↔y∈W.map (·.1):=⟨λz=>(y0.mp z).elim (λq=>absurd q.symm c) id,z4 _⟩
      simp only[this]
     ·simp[e]
 intro W m;rw[this];by_cases e:y=h<;>simp[e,m]
set_option tactic.hygienic true in
def lk_pt {β:Type}{W:List (α×β)}{h:α}{x:β}{y:α}:lk (pt W h x) y=if y=h then some x else lk W y:=by
 unfold pt;split
 ·rename_i c;exact lk_map c
 ·rename_i c
  by_cases e:y=h
  ·subst e;rw[if_pos rfl,u7G c];simp[lk]
  ·rw [if_neg e]
   by_cases k:y∈W.map (·.1)
   ·obtain ⟨l,q⟩:=u4Z k
    rw[q,v0N q]
   ·rw[v2U k,u7G k];simp[lk,Ne.symm e]
def v0R {β:Type}{W:List (α×β)}{h:α}{x:β}:(pt W h x).map (·.1)=if h∈W.map (·.1) then W.map (·.1) else W.map (·.1)++[h]:=by
 unfold pt;split
 ·rw [u5]
  refine List.map_congr_left λp _=>?_
  simp only[Function.comp]
  split<;>rfl
 ·simp
set_option tactic.hygienic true in
def nd_pt {β:Type}{W:List (α×β)}{h:α}{x:β} (n:(W.map (·.1)).Nodup):((pt W h x).map (·.1)).Nodup:=by
 rw[v0R];split
 ·exact n
 ·rename_i c
  exact List.nodup_append.mpr ⟨n,by simp,λx m y k e=>c (by simp at k;rw[<- k,<- e];exact m)⟩
def sub_pt {β:Type}{W:List (α×β)}{h:α}{x:β}{P:α->Prop} (n:∀y∈W.map (·.1),P y) (k:P h):∀y∈(pt W h x).map (·.1),P y:=by
 rw[v0R];split
 ·exact n
 ·intro y m
  rcases v1.mp m with m|m
  ·exact n y m
  ·simp at m;subst m;exact k
noncomputable def chk:α->List (Nat×Nat)->Option α
 | h,[]=>some h
 | h,(n,k)::l=>match R[n]? with
  | none=>none
  | some p=>if p.1=h/\fr p=true then match p.2[k]? with
   | none=>none
   | some b=>chk b l
   else none
set_option tactic.hygienic true in
theorem v1N {n k:Nat}{p:α×List α}{b:α} (e1:R[n]?=some p) (f:fr p=true) (e2:p.2[k]?=some b):∀{l:List (Nat×Nat)}{h:α},chk R fr h l=some p.1->chk R fr h (l++[(n,k)])=some b
 | [],h,e=>by
  cases e;simp[chk,e1,f,e2]
 | (m,j)::l,h,e=>by
  rw[chk] at e;rw[List.cons_append,chk];cases q:R[m]? with
  | none=>rw[q] at e;cases e
  | some u =>
   rw[q] at e;simp only at e |-
   split at e
   ·rename_i c
    rw[if_pos c];cases z:u.2[j]? with
    | none=>rw[z] at e;cases e
    | some v =>
     rw[z] at e;exact v1N e1 f e2 e
   ·cases e
structure BI (X:α->Prop) (W:Wy α) (Q:List α):Prop where
 nd:(W.map (·.1)).Nodup
 s:lk W st=some []
 way:∀h l,(h,l)∈W->chk R fr st l=some h/\l.length<W.length
 r:∀h∈W.map (·.1),Rch isH R fr st h
 q:∀x∈Q,x∈W.map (·.1)
 sh:Shut isH R fr (W.map (·.1)) λh=>h∉Q/\¬ X h
def bi_st:BI isH R fr st (λ_=>False) [(st,[])] [st] where
 nd:=by simp
 s:=by simp[lk]
 way h l m:=by simp at m;obtain⟨rfl,rfl⟩:=m;exact⟨rfl,by simp⟩
 r h m:=by simp at m;subst m;exact .st
 q x m:=by simpa using m
 sh p m h c:=by simp at h;exact absurd (by simp[h]) c.1
def BI.pop {W:Wy α}{Q:List α}{hd:α} (b:BI isH R fr st (λ_=>False) W (hd::Q)):BI isH R fr st (·=hd) W Q :=
 ⟨b.nd,b.s,b.way,b.r,λx m=>b.q x (z4 _ m),λp m h c=>b.sh p m h ⟨λz=>(y0.mp z).elim c.2 c.1,λz=>z⟩⟩
def BI.done {W:Wy α}{Q:List α}{hd:α} (b:BI isH R fr st (·=hd) W Q) (h:∀p∈R,p.1=hd->fr p=true->∀x∈p.2,isH x=true->x∈W.map (·.1)):BI isH R fr st (λ_=>False) W Q :=
 ⟨b.nd,b.s,b.way,b.r,b.q,λp m k c f=>by
  by_cases e:p.1=hd
  ·exact h p m e f
  ·exact b.sh p m k ⟨c.1,e⟩ f⟩
def BI.add {X:α->Prop}{W:Wy α}{Q:List α} (B:BI isH R fr st X W Q) {n k:Nat}{p:α×List α}{b:α}{l:List (Nat×Nat)} (e1:R[n]?=some p) (f:fr p=true) (e2:p.2[k]?=some b) (hl:lk W p.1=some l) (hb:isH b=true) (nb:b∉W.map (·.1)) :
  BI isH R fr st X (W++[(b,l++[(n,k)])]) (Q++[b]):=by
 have ml:=u4Y hl;obtain⟨w1,w2⟩:=B.way _ _ ml;have mk:p.1∈W.map (·.1):=x5.mpr ⟨_,ml,rfl⟩
 refine⟨?_,v0N B.s,λh m mh=>?_,λh mh=>?_,λx mx=>?_,λq m hq c fq x mx hx=>?_⟩
 ·rw [v5]
  exact List.nodup_append.mpr ⟨B.nd,by simp,λx m y k e=>nb (by simp at k;rw[<- k,<- e];exact m)⟩
 ·rw [u7]
  rcases v1.mp mh with m2|m2
  ·obtain ⟨a1,a2⟩:=B.way _ _ m2
   exact⟨a1,by omega⟩
  ·simp at m2
   obtain⟨rfl,rfl⟩:=m2;exact⟨v1N R fr e1 f e2 w1,by simp;omega⟩
 ·rw [v5] at mh
  rcases v1.mp mh with m2|m2
  ·exact B.r h m2
  ·simp at m2
   subst m2;exact .go (B.r _ mk) (List.mem_of_getElem? e1) f (List.mem_of_getElem? e2) hb
 ·rw [v5]
  rcases v1.mp mx with m2|m2
  ·exact u4 _ (B.q x m2)
  ·exact w5 _ (by simpa using m2)
 ·rw [v5] at hq |-
  rcases v1.mp hq with m2|m2
  ·exact u4 _ (B.sh q m m2 ⟨λz=>c.1 (u4 _ z),c.2⟩ fq x mx hx)
  ·simp at m2
   exact absurd (by rw[m2];simp) c.1
def BI.end {W:Wy α} (b:BI isH R fr st (λ_=>False) W []) {x:α}:x∈W.map (·.1)↔Rch isH R fr st x :=
 ⟨b.r x,v3K isH R fr st (x5.mpr ⟨_,u4Y b.s,rfl⟩) λp m h _=>b.sh p m h ⟨λz=>(nomatch z),λz=>z⟩⟩
end
end Bk
namespace K19
open PySem L2 KW PySem.Spec PyProof.Rows
open Bk
noncomputable def kv {β:Type} (g:β->D) (m:List (Str×β)):List (D×D):=m.map λp=>(D.str p.1,g p.2)
def v0Q {β:Type} (g:β->D) (m:List (Str×β)):(kv g m).map (·.1)=(m.map (·.1)).map D.str:=by
 unfold kv;rw[u5,u5];rfl
theorem u1T {β:Type} (g:β->D) (h:Str):∀m:List (Str×β),valD (kv g m) (.inr h)=(lk m h).map g
 | []=>rfl
 | (k,x)::m=>by
  have ih:=u1T g h m;unfold valD kv at ih |-
  rw[y9,u3,lk];simp only[u7L];by_cases c:k=h
  ·rw[if_pos c,decide_eq_true c];rfl
  ·rw[if_neg c,decide_eq_false c];exact ih
def v3M {β:Type} (g:β->D) (m:List (Str×β)) (h:Str) (x:β):putD (kv g m) (.inr h) (g x)=kv g (pt m h x):=by
 unfold putD pt;rw[u5V (v0Q g m)];by_cases c:h∈m.map (·.1)
 ·rw [if_pos (decide_eq_true c),if_pos c]
  unfold kv;rw[u5,u5];refine List.map_congr_left λp _=>?_
  simp only[Function.comp,u7L];by_cases d:p.1=h<;>simp[d]
 ·rw [if_neg (by simpa using c),if_neg c]
  unfold kv;rw[v5];rfl
def v3W {β:Type} (g:β->D) (m:List (Str×β)):(kv g m).length=m.length:=x6 ..
noncomputable def oD:Option Nat->D
 | none=>.non
 | some t=>.int t
noncomputable def nD (t:Nat):D:=.int t
structure OkB (b:Str):Prop where
 g:goodS b=true
 i:inS (fstC b) greatT=hdS b
 s:sgnS b=!hdS b
 l:shortS b=true
noncomputable def sa (f:Str->Option Nat):Nat->List Str->Option Nat
 | a,[]=>some a
 | a,b::bs=>if hdS b=true then match f b with
  | none=>none
  | some w=>sa f (a+w) bs
  else sa f (a+1) bs
theorem sa_sz (f:Str->Option Nat):∀(bs:List Str) (a:Nat),sa f (a+1) bs=(sz hdS f bs).map (·+a)
 | [],a=>by simp[sa,sz];omega
 | b::bs,a=>by
  rw[sa,sz];by_cases c:hdS b=true
  ·rw [if_pos c]
   cases e:f b with
   | none=>cases sz hdS f bs<;>simp[c]
   | some w =>
    simp only;rw[show a+1+w=(a+w)+1 by omega,sa_sz f bs]
    cases sz hdS f bs with
    | none=>simp
    | some t=>simp[c];omega
  ·rw [if_neg c,sa_sz f bs]
   cases sz hdS f bs with
   | none=>simp
   | some t=>simp[c];omega
def sa_1 (f:Str->Option Nat) (bs:List Str):sa f 1 bs=sz hdS f bs:=by
 have:=sa_sz f bs 0
 simpa using this
def addN (a b:Nat):dAdd (.int (a:Int)) (.int (b:Int))=.ok (.int ((a+b:Nat):Int)):=by simp[dAdd]
def brI {Q:Out->Prop}{r:Res Bool}{ρ:Rho}{A B:Out} (b:Bool) (h:r=.ok b) (t:b=true->Q A) (e:b=false->Q B):Q (r.go ρ λb=>if b=true then A else B):=by
 rw[h];cases b with
 | true=>exact t rfl
 | false=>exact e rfl
def brT {Q:Out->Prop}{r:Res Bool}{ρ:Rho}{A B:Out}{f:Rho->Out} (b:Bool) (h:r=.ok b) (t:b=true->Q (A.andThen f)) (e:b=false->Q (B.andThen f)):Q ((r.go ρ λb=>if b=true then A else B).andThen f):=by
 rw[h];cases b with
 | true=>exact t rfl
 | false=>exact e rfl
def SzG (G:FD):Prop:=∀(bs:List Str) (m:List (Str×Nat)),(∀b∈bs,OkB b)->G [.tup (bs.map D.str),.dct (kv nD m)]=.ok (oD (sz hdS (lk m) bs))
def Ssz (x y:D) (a:Nat) (bs:List Str) (ρ:Rho):Prop:=(∀b∈bs,OkB b)/\∃z,ρ=[some (.val x),some (.val y),some (.val (.int a)),z]
def Qsz (x y:D) (r:Option Nat) (o:Out):Prop:=match r with
 | none=>o=.rt .non
 | some t=>∃z,o=.nx [some (.val x),some (.val y),some (.val (.int t)),z]
section
variable {P:Program}{w:World}{K:W.Frag}{mg:MG}{base:Heap}{f:Addr}{fd:FuncData}{A:Adr}
def u9q {a0i:FD} (a0v:Callee P w K mg base 2 "is_sign" ["thing"] (spF K a0i)) (a0u:P1 sgnD a0i) (F:Fun K "size_by" "size_by" u3R f fd) (T:Txt P w K mg A):∃G,FnOk P w K mg base CX0 3 f fd ["body","sizes"] (spF K G)/\SzG G:=by
 refine⟨_,F.okT (k:=2) u1G (λcdv Ar outer s H E hr=>u0d (ds_n u1G.nd u0c)
  (u0d (u0A rfl (u0w (dv 0)) (dg_n u1G.nd)
  (u0e (u0x (u0W (d_fn a0v hr (u0a (dv 3) u0b))) (u0e (ds_n u1G.nd (d_op u1g (dv 2) u0c))) (u0e (u0x (u0l (o_inK (hu200 hr)) (dv 3) (dv 1)) (u0e (ds_n u1G.nd (d_op u1g (dv 2) (u7Q (hu1 hr) (dv 1) (dv 3))))) (u0e (u0i u4w)))))))
  (u0e (u0i (dv 2))))),?_⟩
 intro bs m ok;refine run1 rfl ?_;refine asg (Q:=Rets _) (.int 1) rfl rfl ?_;refine thq (T:=Qsz (.tup (bs.map D.str)) (.dct (kv nD m)) (sa (lk m) 1 bs)) ?_ ?_
 ·refine goq (Q:=Qsz _ _ _) (v:=bs.map D.str) rfl ?_
  refine u0L D.str (Ssz _ _) (sa (lk m)) (Qsz _ _) ?_ ?_ bs 1 _ ⟨ok,none,rfl⟩
  ·rintro a ρ ⟨_,z,rfl⟩
   exact⟨z,rfl⟩
  ·rintro a b bs ρ ⟨ok,z,rfl⟩
   have ob:=ok b z5;have ob2:∀b∈bs,OkB b:=λx mx=>ok x (z4 _ mx)
   refine⟨_,rfl,?_⟩;refine brI (sgnS b) (by simp[a0u (.str b) (by simpa[goodD] using ob.g),sgnD]) (λc=>?_) λc=>?_
   ·have nh:¬ hdS b=true:=by have:=ob.s;rw [c] at this;simpa using this.symm
    refine goq (Q:=StepOk _ _ _ _ _ _) (v:=D.int ((a+1:Nat):Int)) (by simp[dAdd]) ?_
    exact u0X (a+1) ⟨ob2,_,rfl⟩ (by rw[sa,if_neg nh])
   ·have hh:hdS b=true:=by have:=ob.s;rw [c] at this;simpa using this.symm
    refine brI (lk m b).isSome (by simp[inK,keyK,u1T]) (λc=>?_) λc=>?_
    ·obtain ⟨t,e⟩:=Option.isSome_iff_exists.mp c
     refine goq (Q:=StepOk _ _ _ _ _ _) (v:=D.int ((a+t:Nat):Int)) (by simp[gIxK,keyK,u1T,e,nD,dAdd]) ?_
     exact u0X (a+t) ⟨ob2,_,rfl⟩ (by rw[sa,if_pos hh,e])
    ·have e:lk m b=none:=by simpa using c
     refine v0g ?_;rw[sa,if_pos hh,e];rfl
 ·intro o q
  rw[sa_1] at q;cases e:sz hdS (lk m) bs with
  | none=>rw[e] at q;cases q;rfl
  | some t=>rw[e] at q;obtain⟨z,rfl⟩:=q;rfl
def u4I (F:Fun K "_law_is_head" "_law_is_head" u1O f fd) (T:Txt P w K mg A):∃G,FnOk P w K mg base CX0 1 f fd ["_law_symbol_here"] (spF K G)/\∀b:Str,OkB b->G [.str b]=.ok (.bl (hdS b)):=by
 refine⟨_,F.okT (k:=0) u4D (λcdv Ar outer s H E hr=>u0e (u0i (u7R (o_in (hu100 hr)) (d_ix x_ix (dv 0) u0c) u0Q))),?_⟩
 intro b ob;have e0:dIx (.str b) (.int 0)=.ok (.str (fstC b)):=ix0 ob.l;simp[runT,startD,e0,dIn,dInG,ob.i]
end
end K19
namespace Bk
section
variable {α:Type} (isH:α->Bool) [DecidableEq α] (R:List (α×List α))
def Le.anti {x y:Option Nat} (h:Le x y) (k:Le y x):x=y:=by
 cases x with
 | none =>
  cases y with
  | none=>rfl
  | some t=>obtain⟨s,e,_⟩:=h t rfl;cases e
 | some s =>
  obtain⟨t,e,l⟩:=k s rfl;subst e;obtain⟨u,e,l2⟩:=h t rfl;cases e;rw[Nat.le_antisymm l l2]
def low_ne {x y:Option Nat} (h:low x y=true):x≠y:=λe=>by
 subst e;cases x with
 | none=>cases h
 | some t=>simp[low] at h
structure Rd (f0:α->Option Nat) (qs:List (α×List α)) (f:α->Option Nat) (c:Bool):Prop where
 r:rnd isH f qs=rnd isH f0 R
 le:∀h,Le (f h) (f0 h)
 t:c=true->∃h,f h≠f0 h
 n:c=false->f=f0/\∀p∈R,p∈qs\/low (sz isH f0 p.2) (f0 p.1)=false
def rd_0 (f0:α->Option Nat):Rd isH R f0 R f0 false:=⟨rfl,λ_=>Le.refl _,λz=>(nomatch z),λ_=>⟨rfl,λp m=>.inl m⟩⟩
def Rd.go {f0 f:α->Option Nat}{p:α×List α}{qs:List (α×List α)}{c:Bool} (h:Rd isH R f0 (p::qs) f c):Rd isH R f0 qs (stp isH f p) (c||low (sz isH f p.2) (f p.1)) where
 r:=h.r
 le x:=(u7W isH f p x).trans (h.le x)
 t e:=by
  cases c with
  | true =>
   obtain⟨x,ne⟩:=h.t rfl;refine⟨x,λz=>ne (Le.anti (h.le x) ?_)⟩
   rw[<- z];exact u7W isH f p x
  | false =>
   have e:low (sz isH f p.2) (f p.1)=true:=by simpa using e
   refine⟨p.1,?_⟩;rw[<- (h.n rfl).1];unfold stp;rw[if_pos ⟨e,rfl⟩];exact low_ne e
 n e:=by
  cases c with
  | true=>simp at e
  | false =>
   have e:low (sz isH f p.2) (f p.1)=false:=by simpa using e
   obtain⟨n1,n2⟩:=h.n rfl;refine⟨by rw[u6b isH e,n1],λq m=>?_⟩
   rcases n2 q m with k|k
   ·rcases y0.mp k with rfl | k
    ·rw[n1] at e;exact .inr e
    ·exact .inl k
   ·exact .inr k
def Rd.end {f0 f:α->Option Nat}{c:Bool} (h:Rd isH R f0 [] f c):f=rnd isH f0 R/\(c=false->f=f0/\Closed isH R f)/\(c=true->rnd isH f0 R≠f0):=by
 have e:f=rnd isH f0 R:=h.r;refine⟨e,λk=>?_,λk z=>?_⟩
 ·obtain ⟨n1,n2⟩:=h.n k
  refine⟨n1,λp m=>?_⟩
  rw[n1];exact v3V ((n2 p m).resolve_left λz=>nomatch z)
 ·obtain ⟨x,ne⟩:=h.t k
  rw[<- e] at z;exact ne (by rw[z])
def u9l {k:Nat} (l:R.length<=k):rnd isH (rnds isH R k) R=rnds isH R k:=by
 funext h;show rnds isH R (k+1) h=_;rw[u3d isH R (by omega),u3d isH R l]
def Lp (n:Nat) (f:α->Option Nat) (c:Bool):Prop:=(c=true/\∃k,k<=R.length/\n=R.length+1 - k/\f=rnds isH R k)\/(c=false/\f=L isH R R.length)
def lp_0:Lp isH R (R.length+1) (λ_=>none) true:=.inl ⟨rfl,0,q9 _,rfl,rfl⟩
def Lp.go {n:Nat}{f g:α->Option Nat}{c:Bool} (h:Lp isH R n f true) (r:Rd isH R f [] g c):∃n2,n2<n/\Lp isH R n2 g c:=by
 rcases h with⟨_,k,l,en,rfl⟩|⟨z,_⟩
 ·obtain ⟨e1,e2,e3⟩:=r.end
  cases c with
  | true =>
   have l2:k+1<=R.length:=by
    refine Nat.lt_of_not_le λz=>e3 rfl (u9l isH R z)
   exact⟨R.length+1 - (k+1),by omega,.inl ⟨rfl,k+1,l2,rfl,e1⟩⟩
  | false =>
   obtain⟨a,b⟩:=e2 rfl;refine⟨0,by omega,.inr ⟨rfl,?_⟩⟩
   funext h;refine v1l isH R ?_ b h;rw[a];exact u3c isH R k
 ·cases z
end
end Bk
namespace K19
open PySem L2 KW PySem.Spec PyProof.Rows
open Bk
noncomputable abbrev gI (A:Adr) (rs kk:List RR):D:=.ins A.Grammar (gFlds (dR rs) (dR kk))
def u2C {A:Adr} (rs kk:List RR):fldD A.Grammar "rules" (gI A rs kk)=.ok (.tup (rs.map rT)):=by
 simp[fldD,gFlds,List.lookup,itemsD]
def f_start {A:Adr} (rs kk:List RR):fldD A.Grammar "start" (gI A rs kk)=.ok (strt (dR rs)):=by
 have h1:(Str.ofString "start"==Str.ofString "rules")=false:=by decide +kernel
 have h2:(Str.ofString "start"==Str.ofString "ranks")=false:=by decide +kernel
 simp[fldD,gFlds,List.lookup,h1,h2]
def v3d {A:Adr}{m:Str} (h:(m=="rules")=false/\(m=="ranks")=false/\(m=="start")=false) (rs kk:List RR):isI A.Grammar m (gI A rs kk)=.ok (gI A rs kk):=by
 have:(gFlds (dR rs) (dR kk)).lookup m=none:=by
  unfold gFlds;rw[v8,h.1,v8,h.2.1,v8,h.2.2];rfl
 show(if A.Grammar=A.Grammar/\_ then Res.ok _ else .bad)=_
 rw[if_pos ⟨rfl,this⟩]
@[simp] theorem isI_heads {A:Adr} (rs kk:List RR):isI A.Grammar (Str.ofString "heads") (gI A rs kk)=.ok (gI A rs kk):=v3d ⟨by decide +kernel,by decide +kernel,by decide +kernel⟩ rs kk
@[simp] theorem isI_need {A:Adr} (rs kk:List RR):isI A.Grammar (Str.ofString "need_number") (gI A rs kk)=.ok (gI A rs kk):=v3d ⟨by decide +kernel,by decide +kernel,by decide +kernel⟩ rs kk
@[simp] theorem isI_head_of {A:Adr} (rs kk:List RR):isI A.Grammar (Str.ofString "head_of") (gI A rs kk)=.ok (gI A rs kk):=v3d ⟨by decide +kernel,by decide +kernel,by decide +kernel⟩ rs kk
@[simp] theorem isI_body_of {A:Adr} (rs kk:List RR):isI A.Grammar (Str.ofString "body_of") (gI A rs kk)=.ok (gI A rs kk):=v3d ⟨by decide +kernel,by decide +kernel,by decide +kernel⟩ rs kk
theorem compF {γ:Type} (c:γ->D) (p:γ->Bool) (e:γ->D) {g:D->Rho->Res Rho}{fT:Rho->Res Bool}{fe:Rho->Res D}{ρ:Rho}:∀{xs:List γ},(∀x∈xs,∃ρ1,g (c x) ρ=.ok ρ1/\fT (frz ρ1)=.ok (p x)/\(p x=true->fe ρ1=.ok (e x)))->compD g fT fe ρ (xs.map c)=.ok ((xs.filter p).map e)
 | [],_=>rfl
 | x::xs,k=>by
  obtain⟨ρ1,k1,k2,k3⟩:=k x z5;have ih:=compF c p e (xs:=xs) λy hy=>k y (z4 _ hy)
  cases h:p x with
  | true=>simp[compD,k1,k2,h,k3 h,ih]
  | false=>simp[compD,k1,k2,h,ih]
def compM {γ:Type} (c:γ->D) (e:γ->D) {g:D->Rho->Res Rho}{fT:Rho->Res Bool}{fe:Rho->Res D}{ρ:Rho}{xs:List γ} (h:∀x∈xs,∃ρ1,g (c x) ρ=.ok ρ1/\fT (frz ρ1)=.ok true/\fe ρ1=.ok (e x)):compD g fT fe ρ (xs.map c)=.ok (xs.map e):=by
 rw[compF c (λ_=>true) e λx hx=>?_,List.filter_eq_self.mpr λ_ _=>rfl]
 obtain⟨ρ1,a,b,d⟩:=h x hx;exact⟨ρ1,a,b,λ_=>d⟩
structure Whole (G:FD):Prop where
 i:∀i,G [.int i]=.ok (.bl true)
abbrev NR:=List (Nat×RR)
noncomputable def nums (ps:NR):D:=.lst (ps.map λq=>dN q.1)
noncomputable def allN (rs:List RR):NR:=rs.zipIdx.map λq=>(q.2,q.1)
noncomputable def bareN (rs:List RR):NR:=(allN rs).filter λq=>q.2.2.all hdS
def u3v {rs:List RR}{q:Nat×RR} (m:q∈allN rs):rs[q.1]?=some q.2:=by
 obtain⟨z,mz,rfl⟩:=x5.mp m;exact List.mem_zipIdx_iff_getElem?.mp mz
def v1W (rs:List RR):(allN rs).map (·.2)=rs:=by
 unfold allN;rw[u5];exact List.zipIdx_map_fst 0 rs
def v1X (rs:List RR):(allN rs).map (·.1)=List.range rs.length:=by
 unfold allN;rw[u5]
 have:=List.zipIdx_map_snd 0 rs
 rw[List.range_eq_range'];exact this
def v2N (rs:List RR):nums (allN rs)=.lst (intL 0 rs.length):=by
 unfold nums intL;rw[<- v1X,u5];congr 1;refine List.map_congr_left λq _=>?_
 simp[dN]
def u8B (rs:List RR):enumL (rs.map rT)=(allN rs).map λq=>.tup [dN q.1,rT q.2]:=by
 unfold enumL allN;rw[u5,List.zipIdx_map,u5];rfl
structure Gg (rs:List RR):Prop where
 f:Few rs
 n:1<=rs.length
 b:∀p∈rs,OkB p.1/\∀b∈p.2,OkB b
 kn:∀p∈rs,∀b∈p.2,hdS b=true->b∈rs.map (·.1)
def TtG (G:FD):Prop:=∀(bs:List Str) (m:List (Str×Nat)),(∀b∈bs,OkB b)->G [.dct (kv nD m),.tup (bs.map D.str)]=.ok (oD (sz hdS (lk m) bs))
section
variable {P:Program}{w:World}{K:W.Frag}{mg:MG}{base:Heap}{f:Addr}{fd:FuncData}{A:Adr}
def u7y (F:Fun K "is_whole" "is_whole" u3b f fd) (T:Txt P w K mg A):∃G,FnOk P w K mg base CX0 1 f fd ["thing"] (spF K G)/\Whole G:=by
 refine⟨_,F.okT (k:=0) u7n (λcdv Ar outer s H E hr=>u0e (u0i (u2k (d_B u3G T.z_isinstance (by decide +kernel) (u0a (dv 0) (u0a (d_ty T.z_int (T:="int") (by decide +kernel)) u0b))) (u3E (d_not (d_B u3G T.z_isinstance (by decide +kernel) (u0a (dv 0) (u0a (d_ty T.z_bool (T:="bool") (by decide +kernel)) u0b)))))))),?_⟩
 exact⟨λi=>by simp[runT,startD];rfl⟩
def v2z {a0m:FD} (a1c:Callee P w K mg base 1 "heads_in" ["rules"] (spF K a0m)) (a1f:∀(rs:List RR) (d:D),items d=.ok (rs.map rT)->rs.length<64->a0m [d]=.ok (.lst ((headsL rs).map D.str))) (F:Fun K "heads" "Grammar.heads" u3S f fd) (T:Txt P w K mg A):∃G,FnOk P w K mg base CX0 2 f fd ["self"] (spF K G)/\∀rs kk,rs.length<64->G [gI A rs kk]=.ok (.lst ((headsL rs).map D.str)):=by
 refine⟨_,F.okT (k:=1) u9c (λcdv Ar outer s H E hr=>u0e (u0i (d_fn a1c hr (u0a (u4M T.cls T.na_rules (dv 0)) u0b)))),?_⟩
 intro rs kk g;simp[runT,startD,u2C,a1f rs (.tup (rs.map rT)) rfl g]
def u4K {a2y:FD} (a3w:Callee P w K mg base 1 "is_whole" ["thing"] (spF K a2y)) (a4m:Whole a2y) (F:Fun K "need_number" "Grammar.need_number" u1t f fd) (T:Txt P w K mg A):∃G,FnOk P w K mg base CX0 2 f fd ["self","number"] (spF K G)/\∀rs kk (n:Nat),n<rs.length->rs.length<=1000->G [gI A rs kk,dN n]=.ok .non:=by
 refine⟨_,F.okT (k:=1) u3x (λcdv Ar outer s H E hr=>u0e (u0x (dt_w (u7M (u1V (u0W (d_fn a3w hr (u0a (dv 1) u0b)))) (u4s (u1V (u8D o_le o_lt u0c (dv 1) (d_B u1z T.z_len (by decide +kernel) (u0a (u4M T.cls T.na_rules (dv 0)) u0b))))))) (u0e u1W) u0n)),?_⟩
 intro rs kk n hn hl;have h0:((0:Int)<=(n:Int)):=Int.natCast_nonneg n;have h1:((n:Int)<((rs.map rT).length:Nat)):=by rw[x6];omega
 simp[runT,startD,a4m.i,u2C];rw[if_neg (by omega)]
 rfl
def u9B {a0g:FD} (m_need_number:MCalleeF P w K mg base 2 A.Grammar "need_number" ["self","number"] a0g) (a3z:∀rs kk (n:Nat),n<rs.length->rs.length<=1000->a0g [gI A rs kk,dN n]=.ok .non) (F:Fun K "head_of" "Grammar.head_of" u2o f fd) (T:Txt P w K mg A):∃G,FnOk P w K mg base CX0 3 f fd ["self","number"] (spF K G)/\∀rs kk (n:Nat) p,rs[n]?=some p->rs.length<=1000->G [gI A rs kk,dN n]=.ok (.str p.1):=by
 refine⟨_,F.okT (k:=2) u6g (λcdv Ar outer s H E hr=>u0d (u2G (d_mG m_need_number hr (dv 0) (u0a (dv 1) u0b)))
  (u0e (u0i (d_ix x_ix (d_ix x_ix (u4M T.cls T.na_rules (dv 0)) (dv 1)) u0c)))),?_⟩
 intro rs kk n p hn hl;have hlt:=(y6.mp hn).1;have e1:dIx (.tup (rs.map rT)) (dN n)=.ok (rT p):=v0W (by rw[y4,hn];rfl)
 simp[runT,startD,a3z rs kk n hlt hl,u2C,e1];rfl
def u9C {a0g:FD} (m_need_number:MCalleeF P w K mg base 2 A.Grammar "need_number" ["self","number"] a0g) (a3z:∀rs kk (n:Nat),n<rs.length->rs.length<=1000->a0g [gI A rs kk,dN n]=.ok .non) (F:Fun K "body_of" "Grammar.body_of" u2p f fd) (T:Txt P w K mg A):∃G,FnOk P w K mg base CX0 3 f fd ["self","number"] (spF K G)/\∀rs kk (n:Nat) p,rs[n]?=some p->rs.length<=1000->G [gI A rs kk,dN n]=.ok (.tup (p.2.map D.str)):=by
 refine⟨_,F.okT (k:=2) u6h (λcdv Ar outer s H E hr=>u0d (u2G (d_mG m_need_number hr (dv 0) (u0a (dv 1) u0b)))
  (u0e (u0i (d_ix x_ix (d_ix x_ix (u4M T.cls T.na_rules (dv 0)) (dv 1)) u0c)))),?_⟩
 intro rs kk n p hn hl;have hlt:=(y6.mp hn).1;have e1:dIx (.tup (rs.map rT)) (dN n)=.ok (rT p):=v0W (by rw[y4,hn];rfl)
 simp[runT,startD,a3z rs kk n hlt hl,u2C,e1];rfl
def u4J (F:Fun K "all_numbers" "all_numbers" u1P f fd) (T:Txt P w K mg A):∃G,FnOk P w K mg base CX0 1 f fd ["grammar"] (spF K G)/\∀rs kk,rs.length<=1000->G [gI A rs kk]=.ok (nums (allN rs)):=by
 refine⟨_,F.okT (k:=0) u4E (λcdv Ar outer s H E hr=>u0e (u0i (DN.de (dn_rng rfl T.z_list T.z_range (u0a (d_B u1z T.z_len (by decide +kernel) (u0a (u4M T.cls T.na_rules (dv 0)) u0b)) u0b))))),?_⟩
 intro rs kk hl;have h1:((rs.length:Nat):Int)<=1000:=by omega
 simp[runT,startD,u2C,gLen,rngN,gd,h1,v2N,OD.toD]
def u4b {a0d:FD} (a0p:Callee P w K mg base 2 "is_head" ["thing"] (spF K a0d)) (a0k:P1 hdD a0d) (F:Fun K "bare_numbers" "bare_numbers" u1a f fd) (T:Txt P w K mg A):∃G,FnOk P w K mg base CX0 3 f fd ["grammar"] (spF K G)/\∀rs kk,Gg rs->G [gI A rs kk]=.ok (nums (bareN rs)):=by
 refine⟨_,F.okT (k:=2) u3Q (λcdv Ar outer s H E hr=>u0e (u0i (DN.de (u0Y ["number","rule"] [] rfl (u0t (sc:=defScope u1a) (N:=["grammar"]) (by decide +kernel)) (v1E T.z_enumerate (u0a (u4M T.cls T.na_rules (dv 0)) u0b)) (u2O (n:=2) rfl (u0s (dg_n (show(["number","rule"]:List Str).Nodup by decide +kernel)) (u0s (dg_n (show(["number","rule"]:List Str).Nodup by decide +kernel)) u1E))) (u5j (u0W (d_B (v1T rfl) T.z_all (by decide +kernel) (u0a (DN.de (u0Y ["symbol"] [] rfl (u0t (sc:={ kind:=.function,names:=[(".0",.local),("number",.local),("rule",.local),("all",.globalImplicit)],isGenerator:=false,isCoroutine:=false }) (N:=["number","rule"]) (by decide +kernel)) (u0w (d_ix x_ix (dv 1) u0c)) (dg_n (show(["symbol"]:List Str).Nodup by decide +kernel)) u2l (d_fn a0p hr (u0a (dv 0) u0b)))) u0b)))) (dv 0))))),?_⟩
 intro rs kk g;have n20:=g.f.n;have hB:∀q∈allN rs,∀b∈q.2.2,OkB b:=λq m=>(g.b q.2 (List.mem_of_getElem? (u3v m))).2
 simp[runT,startD,u2C,enum2];rw[u8B,u0r (u0D (by rw[x6];unfold allN;simp;omega)),compF (λq:Nat×RR=>D.tup [dN q.1,rT q.2]) (λq=>q.2.2.all hdS) (λq=>dN q.1) λq m=>?_]
 ·simp [OD.toD]
  rfl
 ·refine ⟨_,rfl,?_,fun _=>rfl⟩
  have hb:=hB q m;have l4:=(g.f.ok q.2 (List.mem_of_getElem? (u3v m))).l;simp[frz,frzS,rhoC,rT,ix_1];rw[u0r (u0D (by omega)),compM D.str (λb=>D.bl (hdS b)) λb mb=>⟨_,rfl,rfl,by simp[a0k (.str b) (by simpa[goodD] using(hb b mb).g),hdD]⟩]
  have e:blsOf (q.2.2.map λb=>D.bl (hdS b))=some (q.2.2.map hdS):=u2R hdS _
  simp[OD.toD,gAll,e]
def u6p {a0c:FD} (a0l:Callee P w K mg base 1 "_law_is_head" ["_law_symbol_here"] (spF K a0c)) (a3a:∀b:Str,OkB b->a0c [.str b]=.ok (.bl (hdS b))) (F:Fun K "_law_total" "_law_total" u2q f fd) (T:Txt P w K mg A):∃G,FnOk P w K mg base CX0 2 f fd ["_law_sizes_here","_law_body"] (spF K G)/\TtG G:=by
 refine⟨_,F.okT (k:=1) u1c (λcdv Ar outer s H E hr=>u0d (ds_n u1c.nd u0c)
  (u0d (u0A rfl (u0w (dv 1)) (dg_n u1c.nd)
  (u0e (u0x (u0W (d_fn a0l hr (u0a (dv 3) u0b))) (u0d (u0x (u0l (u6z (hu200 hr)) (dv 3) (dv 0)) (u0e (u0i u4w)) u0n)
    (u0e (ds_n u1c.nd (d_op u1g (dv 2) (u7Q (hu1 hr) (dv 0) (dv 3)))))) (u0e (ds_n u1c.nd (d_op u1g (dv 2) u0c))))))
  (u0e (u0i (dv 2))))),?_⟩
 intro bs m ok;refine run1 rfl ?_;refine asg (Q:=Rets _) (.int 1) rfl rfl ?_;refine thq (T:=Qsz (.dct (kv nD m)) (.tup (bs.map D.str)) (sa (lk m) 1 bs)) ?_ ?_
 ·refine goq (Q:=Qsz _ _ _) (v:=bs.map D.str) rfl ?_
  refine u0L D.str (Ssz _ _) (sa (lk m)) (Qsz _ _) ?_ ?_ bs 1 _ ⟨ok,none,rfl⟩
  ·rintro a ρ ⟨_,z,rfl⟩
   exact⟨z,rfl⟩
  ·rintro a b bs ρ ⟨ok,z,rfl⟩
   have ob:=ok b z5;have ob2:∀b∈bs,OkB b:=λx mx=>ok x (z4 _ mx)
   refine⟨_,rfl,?_⟩;refine brI (hdS b) (by simp[a3a b ob]) (λhh=>?_) λc=>?_
   ·refine brT (!(lk m b).isSome) (by simp [nInK,keyK,u1T]) (fun c=>?_) fun c=>?_
    ·have e:lk m b=none:=by simpa using c
     refine v0g (v:=.non) ?_;rw[sa,if_pos hh,e];rfl
    ·obtain ⟨t,e⟩:=Option.isSome_iff_exists.mp (show (lk m b).isSome=true by simpa using c)
     refine th (Q:=StepOk _ _ _ _ _ _) rfl ?_;refine goq (Q:=StepOk _ _ _ _ _ _) (v:=D.int ((a+t:Nat):Int)) (by simp[gIxK,keyK,u1T,e,nD,dAdd]) ?_
     exact u0X (a+t) ⟨ob2,_,rfl⟩ (by rw[sa,if_pos hh,e])
   ·have nh:¬ hdS b=true:=by rw [c];simp
    refine goq (Q:=StepOk _ _ _ _ _ _) (v:=D.int ((a+1:Nat):Int)) (by simp[dAdd]) ?_
    exact u0X (a+1) ⟨ob2,_,rfl⟩ (by rw[sa,if_neg nh])
 ·intro o q
  rw[sa_1] at q;cases e:sz hdS (lk m) bs with
  | none=>rw[e] at q;cases q;rfl
  | some t=>rw[e] at q;obtain⟨z,rfl⟩:=q;rfl
end
open Bk
def v3B {fT:Rho->Res Bool}{tb:Rho->Out} (S:Nat->Rho->Prop) (Q:Out->Prop) (hQ:∀o,Q o->notBad o)
  (step:∀n ρ,S n ρ->(fT (frz ρ)=.ok false/\Q (.nx ρ))\/(fT (frz ρ)=.ok true/\((∃ρ2 n2,n2<n/\tb ρ=.nx ρ2/\S n2 ρ2)\/∃v,tb ρ=.rt v/\Q (.rt v)))) (n:Nat) (ρ:Rho) (h:S n ρ):Q (wD fT tb ρ):=by
 suffices ∃k,Q (whileD fT tb k ρ) by
  obtain⟨k,q⟩:=this;rw[wD_eq rfl (hQ _ q)];exact q
 induction n using Nat.strongRecOn generalizing ρ with
 | ind n ih =>
  rcases step n ρ h with⟨e,q⟩|⟨e,⟨ρ2,n2,l,e2,h2⟩|⟨v,e2,q⟩⟩
  ·exact⟨1,by simp only[whileD,e,go_ok];exact q⟩
  ·obtain ⟨k,q⟩:=ih n2 l ρ2 h2
   exact⟨k+1,by simp only[whileD,e,go_ok,e2];exact q⟩
  ·exact⟨1,by simp only[whileD,e,go_ok,e2];exact q⟩
def u4X {β:Type} (g:β->D) (m:List (Str×β)) (h:Str):nInK (.str h) (.dct (kv g m))=.ok (.bl (!(lk m h).isSome)):=by
 show((keyK (.str h)).bind λk=>Res.ok (D.bl (!(valD (kv g m) k).isSome)))=_
 show Res.ok (D.bl (!(valD (kv g m) (.inr h)).isSome))=_;rw[u1T,Option.isSome_map]
def in_kv {β:Type} (g:β->D) (m:List (Str×β)) (h:Str):inK (.str h) (.dct (kv g m))=.ok (.bl (lk m h).isSome):=by
 show Res.ok (D.bl (valD (kv g m) (.inr h)).isSome)=_;rw[u1T,Option.isSome_map]
def u9M {β:Type}{g:β->D}{m:List (Str×β)}{h:Str}{x:β} (e:lk m h=some x):gIxK (.dct (kv g m)) (.str h)=.ok (g x):=by
 show(match valD (kv g m) (.inr h) with|some d=>Res.ok d|none=>.bad)=_
 rw[u1T,e];rfl
def v1k (x:Option Nat):flatC (oD x)=.ok (oD x):=by cases x<;>rfl
def RetP (P:D->Prop) (o:Out):Prop:=∃v,o=.rt v/\P v
def run2 {n m:Nat}{t:Rho->Out}{ds:List D}{P:D->Prop} (hl:ds.length=m) (h:RetP P (t (startD n ds))):∃d,runT n m t ds=.ok d/\P d:=by
 obtain⟨v,e,p⟩:=h;exact⟨v,run1 hl e,p⟩
structure Wm {β:Type} (rs:List RR) (m:List (Str×β)):Prop where
 nd:(m.map (·.1)).Nodup
 h:∀x∈m.map (·.1),x∈rs.map (·.1)
def Wm.len {β:Type}{rs:List RR}{m:List (Str×β)} (w:Wm rs m):m.length<=rs.length:=by
 have:=List.Nodup.length_le_of_subset w.nd w.h
 simpa using this
theorem Wm.pt {β:Type}{rs:List RR}{m:List (Str×β)} (w:Wm rs m) {h:Str}{x:β} (k:h∈rs.map (·.1)):Wm rs (Bk.pt m h x):=⟨nd_pt w.nd,sub_pt w.h k⟩
def put_n {b:Str}{j:Nat}{m:List (Str×Nat)}{t:Nat}{fi fv:Rho->Res D}{ρ:Rho} (hl:m.length<=1000) (hv:fv ρ=.ok (nD t)) (hi:fi ρ=.ok (.str b)) (hg:getD' ρ j=.ok (kv nD m)) :
  fPutD j fi fv ρ=.nx (ρ.set j (some (.own (.d (kv nD (pt m b t)))))):=by
 unfold fPutD;rw[hv,go_ok,hg,go_ok,hi,go_ok,show keyK (.str b)=.ok (.inr b) from rfl,go_ok,if_pos (t5 (by rw[v3W];exact hl) (by decide)),v3M]
def v3E {m:List (Str×Nat)}{p:RR}{t:Nat} (e:sz hdS (lk m) p.2=some t) (l:low (some t) (lk m p.1)=true):lk (pt m p.1 t)=stp hdS (lk m) p:=by
 funext x;rw[lk_pt];unfold stp;rw[e];by_cases c:x=p.1<;>simp[c,l]
noncomputable abbrev Lz (R:List RR):Str->Option Nat:=L hdS R R.length
def inS2 (g nm:D) (rs:List RR) (ps:NR) (n:Nat) (ρ:Rho):Prop:=∃m c x y z,ρ=[some (.val g),some (.val nm),some (.own (.d (kv nD m))),some (.val (.bl c)),x,y,z]/\Wm rs m/\Lp hdS (ps.map (·.2)) n (lk m) c
def inQ2 (g nm:D) (rs:List RR) (ps:NR) (o:Out):Prop:=∃m x,o=.nx (some (.val g)::some (.val nm)::some (.own (.d (kv nD m)))::x)/\Wm rs m/\lk m=Lz (ps.map (·.2))
def inS3 (g nm:D) (rs:List RR) (ps:NR) (f0:Str->Option Nat) (qs:NR) (ρ:Rho):Prop:=∃m c x y z,ρ=[some (.val g),some (.val nm),some (.own (.d (kv nD m))),some (.val (.bl c)),x,y,z]/\Wm rs m/\Rd hdS (ps.map (·.2)) f0 (qs.map (·.2)) (lk m) c/\∀q∈qs,rs[q.1]?=some q.2
def PSz (rs:List RR) (ps:NR) (d:D):Prop:=∃m,d=.dct (kv nD m)/\Wm rs m/\lk m=Lz (ps.map (·.2))
def SzsG (A:Adr) (G:FD):Prop:=∀rs kk (ps:NR),Gg rs->(∀q∈ps,rs[q.1]?=some q.2)->∃d,G [gI A rs kk,nums ps]=.ok d/\PSz rs ps d
section
variable {P:Program}{w:World}{K:W.Frag}{mg:MG}{base:Heap}{f:Addr}{fd:FuncData}{A:Adr}
def u7s {a1i:FD} (a2i:Callee P w K mg base 3 "size_by" ["body","sizes"] (spF K a1i)) {a0h:FD} (m_head_of:MCalleeF P w K mg base 3 A.Grammar "head_of" ["self","number"] a0h) {a0x:FD} (m_body_of:MCalleeF P w K mg base 3 A.Grammar "body_of" ["self","number"] a0x) (a3x:SzG a1i) (a0n:∀rs kk (n:Nat) p,rs[n]?=some p->rs.length<=1000->a0h [gI A rs kk,dN n]=.ok (.str p.1)) (a1b:∀rs kk (n:Nat) p,rs[n]?=some p->rs.length<=1000->a0x [gI A rs kk,dN n]=.ok (.tup (p.2.map D.str))) (F:Fun K "sizes_by" "sizes_by" u2V f fd) (T:Txt P w K mg A):∃G,FnOk P w K mg base CX0 4 f fd ["grammar","numbers"] (spF K G)/\SzsG A G:=by
 refine⟨_,F.okT (k:=3) u0H (λcdv Ar outer s H E hr=>u0d (u1B u0H.nd u6P)
  (u0d (ds_n u0H.nd d_bl)
  (u0d (u8E (u0W (dv 3)) (u0d (ds_n u0H.nd d_bl)
   (u0e (u0A rfl (u0w (dv 1)) (dg_n u0H.nd)
   (u0d (ds_n u0H.nd (d_mG m_head_of hr (dv 0) (u0a (dv 4) u0b)))
    (u0d (ds_n u0H.nd (DE.flat (d_fn a2i hr (u0a (d_mG m_body_of hr (dv 0) (u0a (dv 4) u0b)) (u0a (dv 2) u0b)))))
    (u0e (u0x (dt_w (u2N (u0l u4f (dv 6) u4w) (u1S (dt_w (u7M (u0l (u6z (hu200 hr)) (dv 5) (dv 2)) (u4s (u0l o_lt (dv 6) (u7Q (hu1 hr) (dv 2) (dv 5))))))))) (u0d (u4t 2 (hu200 hr) (dv 5) (dv 6))
     (u0e (ds_n u0H.nd d_bl))) u0n))))))))
  (u0e (u0i (dv 2)))))),?_⟩
 intro rs kk ps g hp;have n20:=g.f.n;refine run2 rfl ?_;refine asg (Q:=RetP _) (.d []) rfl rfl ?_;refine asg (Q:=RetP _) (.bl true) rfl rfl ?_;refine thq (T:=inQ2 (gI A rs kk) (nums ps) rs ps) ?_ (by
  rintro o ⟨m,x,rfl,w,e⟩;exact⟨_,rfl,m,rfl,w,e⟩)
 refine v3B (inS2 (gI A rs kk) (nums ps) rs ps) (inQ2 _ _ _ _) ?_ ?_ ((ps.map (·.2)).length+1) _ ⟨[],true,none,none,none,rfl,⟨List.nodup_nil,λx m=>(nomatch m)⟩,lp_0 hdS _⟩
 ·rintro o ⟨m,x,rfl,_⟩
  exact trivial
 rintro n ρ ⟨m,c,x,y,z,rfl,w,l⟩;cases c with
 | false =>
  refine .inl ⟨rfl,m,_,rfl,w,?_⟩;rcases l with⟨q,_⟩|⟨_,q⟩
  ·cases q
  ·exact q
 | true =>
  refine .inr ⟨rfl,.inl ?_⟩;have inner:∀o:Out,(∃ρ,o=.nx ρ/\inS3 (gI A rs kk) (nums ps) rs ps (lk m) [] ρ)->∃ρ2 n2,n2<n/\o=.nx ρ2/\inS2 (gI A rs kk) (nums ps) rs ps n2 ρ2:=by
   rintro o ⟨ρ,rfl,m2,c2,x2,y2,z2,rfl,w2,r2,_⟩;obtain⟨n2,l2,l3⟩:=Lp.go hdS _ l r2;exact⟨_,n2,l2,rfl,m2,c2,x2,y2,z2,rfl,w2,l3⟩
  refine inner _ ?_;refine asg (Q:=λo=>∃ρ,o=.nx ρ/\inS3 (gI A rs kk) (nums ps) rs ps (lk m) [] ρ) (.bl false) rfl rfl ?_
  refine goq (Q:=λo=>∃ρ,o=.nx ρ/\inS3 (gI A rs kk) (nums ps) rs ps (lk m) [] ρ) (v:=ps.map λq=>dN q.1) rfl ?_
  refine u1R (λq:Nat×RR=>dN q.1) (inS3 (gI A rs kk) (nums ps) rs ps (lk m)) (λo=>∃ρ,o=.nx ρ/\inS3 (gI A rs kk) (nums ps) rs ps (lk m) [] ρ) (λρ h=>⟨ρ,rfl,h⟩) ?_ ps _ ⟨m,false,x,y,z,rfl,w,rd_0 hdS _ _,hp⟩
  rintro q qs ρ ⟨m2,c2,x2,y2,z2,rfl,w2,r2,hq⟩;have e0:=hq q z5;have m0:q.2∈rs:=List.mem_of_getElem? e0;have hl:=w2.len;refine⟨_,rfl,?_⟩;refine asg (Q:=StO _ _ _) (D.str q.2.1) (by simp[a0n rs kk q.1 q.2 e0 (by omega)]) rfl ?_
  refine asg (Q:=StO _ _ _) (oD (sz hdS (lk m2) q.2.2)) (by simp[OD.toD,a1b rs kk q.1 q.2 e0 (by omega),a3x q.2.2 m2 (g.b q.2 m0).2,v1k]) rfl ?_
  have r3:=r2.go;cases e:sz hdS (lk m2) q.2.2 with
  | none =>
   refine brI false (by simp[oD,dIsNot,isN]) (λc=>by cases c) λ_=>.inl ⟨_,rfl,m2,c2,_,_,_,rfl,w2,?_,λa b=>hq a (z4 _ b)⟩
   rw[e] at r3
   have:stp hdS (lk m2) q.2=lk m2:=u6b hdS (by rw[e];rfl)
   rw[this] at r3;simpa[low] using r3
  | some t =>
   refine brI (low (some t) (lk m2 q.2.1)) ?_ (λc=>?_) λc=>.inl ⟨_,rfl,m2,c2,_,_,_,rfl,w2,?_,λa b=>hq a (z4 _ b)⟩
   ·cases e3:lk m2 q.2.1 with
    | none=>simp[oD,dIsNot,isN,OD.toD,u4X,e3,low]
    | some s=>simp[oD,dIsNot,isN,OD.toD,u4X,e3,low,u9M e3,nD]
   ·refine th (Q:=StO _ _ _) (put_n (m:=m2) (t:=t) (b:=q.2.1) (by omega) rfl rfl rfl) ?_
    refine .inl ⟨_,rfl,pt m2 q.2.1 t,true,_,_,_,rfl,w2.pt (x5.mpr ⟨_,m0,rfl⟩),?_,λa b=>hq a (z4 _ b)⟩
    rw[v3E e c];rw[e,c] at r3;simpa using r3
   ·rw [e,c] at r3
    have:stp hdS (lk m2) q.2=lk m2:=u6b hdS (by rw[e];exact c)
    rw[this] at r3;simpa using r3
end
open Bk
noncomputable def fr (rs:List RR) (p:RR):Bool:=(sz hdS (Lz rs) p.2).isSome
noncomputable def fruN (rs:List RR):NR:=(allN rs).filter λq=>fr rs q.2
def u8Y (rs:List RR) (g:RR->Bool):((allN rs).filter λq=>g q.2).map (·.2)=rs.filter g:=by
 have:rs.filter g=((allN rs).map (·.2)).filter g:=by rw[v1W]
 rw[this,List.filter_map];rfl
def LsG (A:Adr) (G:FD):Prop:=∀rs kk,Gg rs->∃m,G [gI A rs kk]=.ok (.dct (kv nD m))/\Wm rs m/\lk m=Lz rs
noncomputable def emp (e:Bool) (rs:List RR):List RR:=rs.filter λp=>!e||p.2.all hdS
def LzG (G:FD):Prop:=∀rs e,Gg rs->∃d,G [dR rs,.bl e]=.ok d/\∃m,d=.dct (kv nD m)/\Wm rs m/\lk m=Lz (emp e rs)
def laS (rs:List RR) (e:Bool) (k:Nat) (ρ:Rho):Prop:=∃m a b c d,ρ=[some (.val (dR rs)),some (.val (.bl e)),some (.own (.d (kv nD m))),a,b,c,d]/\Wm rs m/\lk m=rnds hdS (emp e rs) k
def laT (rs:List RR) (e:Bool) (k:Nat) (xs:List RR) (ρ:Rho):Prop:=∃m a b c d,ρ=[some (.val (dR rs)),some (.val (.bl e)),some (.own (.d (kv nD m))),a,b,c,d]/\Wm rs m/\rnd hdS (lk m) (emp e xs)=rnds hdS (emp e rs) (k+1)/\∀p∈xs,p∈rs
def laQ (rs:List RR) (e:Bool) (o:Out):Prop:=∃m x,o=.nx (some (.val (dR rs))::some (.val (.bl e))::some (.own (.d (kv nD m)))::x)/\Wm rs m/\lk m=Lz (emp e rs)
section
variable {P:Program}{w:World}{K:W.Frag}{mg:MG}{base:Heap}{f:Addr}{fd:FuncData}{A:Adr}
def u4H {a1d:FD} (a1x:Callee P w K mg base 4 "sizes_by" ["grammar","numbers"] (spF K a1d)) {a0r:FD} (a1g:Callee P w K mg base 1 "all_numbers" ["grammar"] (spF K a0r)) (a1w:SzsG A a1d) (a4v:∀rs kk,rs.length<=1000->a0r [gI A rs kk]=.ok (nums (allN rs))) (F:Fun K "least_sizes" "least_sizes" u1L f fd) (T:Txt P w K mg A):∃G,FnOk P w K mg base CX0 5 f fd ["grammar"] (spF K G)/\LsG A G:=by
 refine⟨_,F.okT (k:=4) u4C (λcdv Ar outer s H E hr=>u0e (u0i (d_fn a1x hr (u0a (dv 0) (u0a (d_fn a1g hr (u0a (dv 0) u0b)) u0b))))),?_⟩
 intro rs kk g;have n20:=g.f.n;obtain⟨d,e,m,rfl,w,l⟩:=a1w rs kk (allN rs) g λq m=>u3v m
 rw[v1W] at l;refine⟨m,?_,w,l⟩;simp[runT,startD,a4v rs kk (by omega),e]
def u2w {a0b:FD} (a0o:Callee P w K mg base 5 "least_sizes" ["grammar"] (spF K a0b)) {a1i:FD} (a2i:Callee P w K mg base 3 "size_by" ["body","sizes"] (spF K a1i)) (a2f:LsG A a0b) (a3x:SzG a1i) (F:Fun K "fruitful_numbers" "fruitful_numbers" u0G f fd) (T:Txt P w K mg A):∃G,FnOk P w K mg base CX0 6 f fd ["grammar"] (spF K G)/\∀rs kk,Gg rs->G [gI A rs kk]=.ok (nums (fruN rs)):=by
 refine⟨_,F.okT (k:=5) u1s (λcdv Ar outer s H E hr=>u0d (ds_n u1s.nd (d_fn a0o hr (u0a (dv 0) u0b)))
  (u0e (u0i (DN.de (u0Y ["number","rule"] [1] rfl (u0t (sc:=defScope u0G) (N:=["grammar","sizes"]) (by decide +kernel)) (v1E T.z_enumerate (u0a (u4M T.cls T.na_rules (dv 0)) u0b)) (u2O (n:=2) rfl (u0s (dg_n (show(["number","rule","sizes"]:List Str).Nodup by decide +kernel)) (u0s (dg_n (show(["number","rule","sizes"]:List Str).Nodup by decide +kernel)) u1E))) (u5j (u0l u4f (d_fn a2i hr (u0a (d_ix x_ix (dv 1) u0c) (u0a (dv 2) u0b))) u4w)) (dv 0)))))),?_⟩
 intro rs kk g;have n20:=g.f.n;obtain⟨m,e,w,l⟩:=a2f rs kk g;simp[runT,startD,u2C,enum2,e];rw[u8B,u0r (u0D (by rw[x6];unfold allN;simp;omega)),compF (λq:Nat×RR=>D.tup [dN q.1,rT q.2]) (λq=>fr rs q.2) (λq=>dN q.1) λq mq=>?_]
 ·simp [OD.toD]
  rfl
 ·refine ⟨_,rfl,?_,fun _=>rfl⟩
  have hb:=(g.b q.2 (List.mem_of_getElem? (u3v mq))).2;simp[frz,frzS,rhoC,rT,ix_1,a3x q.2.2 m hb];unfold fr;rw[l];cases sz hdS (Lz rs) q.2.2<;>simp[oD,dIsNot,isN]
def u6q {a0a:FD} (a0f:Callee P w K mg base 2 "_law_total" ["_law_sizes_here","_law_body"] (spF K a0a)) {a0c:FD} (a0l:Callee P w K mg base 1 "_law_is_head" ["_law_symbol_here"] (spF K a0c)) (a1o:TtG a0a) (a3a:∀b:Str,OkB b->a0c [.str b]=.ok (.bl (hdS b))) (F:Fun K "_law_sizes" "_law_sizes" u1M f fd) (T:Txt P w K mg A):∃G,FnOk P w K mg base CX0 3 f fd ["_law_rules_here","_law_empty"] (spF K G)/\LzG G:=by
 refine⟨_,F.okT (k:=2) u0I (λcdv Ar outer s H E hr=>u0d (u1B u0I.nd u6P)
  (u0d (u0A rfl (u1e T.z_range (u0a (d_op u1g (d_B u1z T.z_len (by decide +kernel) (u0a (dv 0) u0b)) u0c) u0b)) (dg_n u0I.nd)
  (u0e (u0A rfl (u0w (dv 0)) (u2O (n:=2) rfl (u0s (dg_n u0I.nd) (u0s (dg_n u0I.nd) u1E)))
   (u0d (ds_n u0I.nd (DE.flat (d_fn a0f hr (u0a (dv 2) (u0a (dv 5) u0b)))))
    (u0d (u0x (dt_w (u2N (u0W (dv 1)) (u1S (u1V (u0W (d_B (v1T rfl) T.z_all (by decide +kernel) (u0a (DN.de (u0Y ["_law_symbol_here"] [] rfl (u0t (sc:=defScope u1M) (N:=["_law_rules_here","_law_empty","_law_sizes_here","_law_turn","_law_head","_law_body","_law_total_here"]) (by decide +kernel)) (u0w (dv 5)) (dg_n (show(["_law_symbol_here"]:List Str).Nodup by decide +kernel)) u2l (d_fn a0l hr (u0a (dv 0) u0b)))) u0b))))))) (u0e (ds_n u0I.nd u4w)) u0n)
    (u0e (u0x (dt_w (u2N (u0l u4f (dv 6) u4w) (u1S (dt_w (u7M (u0l (u6z (hu200 hr)) (dv 4) (dv 2)) (u4s (u0l o_lt (dv 6) (u7Q (hu1 hr) (dv 2) (dv 4))))))))) (u0e (u4t 2 (hu200 hr) (dv 4) (dv 6))) u0n)))))))
  (u0e (u0i (dv 2))))),?_⟩
 intro rs e g;have n20:=g.f.n;refine run2 rfl ?_;refine asg (Q:=RetP _) (.d []) rfl rfl ?_;refine thq (T:=laQ rs e) ?_ (by
  rintro o ⟨m,x,rfl,w,l⟩;exact⟨_,rfl,m,rfl,w,l⟩)
 have e1:rng1 [.int ((rs.length:Int)+1)]=.ok (intL 0 (rs.length+1)):=u7q _ (by simp) (by omega)
 refine goq (Q:=laQ rs e) (v:=intL 0 (rs.length+1)) (by simp[startD,gLen,dAdd,e1,-u0Z,-u0k,-Res.bind_ok,-L2.go_ok,-Out.then_nx,bindN,goN,thenN]) ?_
 refine u2M (laS rs e) (laQ rs e) ⟨[],none,none,none,none,rfl,⟨List.nodup_nil,λx m=>(nomatch m)⟩,rfl⟩ ?_ ?_
 ·rintro ρ ⟨m,a,b,c,d,rfl,w,l⟩
  refine⟨m,_,rfl,w,?_⟩;rw[l];funext h;have l3:(emp e rs).length<=rs.length:=List.length_filter_le _ _;exact u3d hdS _ (by omega) h
 ·rintro k ρ hk ⟨m,a,b,c,d,rfl,w,l⟩
  refine⟨_,rfl,?_⟩;have inner:∀o:Out,(∃ρ,o=.nx ρ/\laT rs e k [] ρ)->((∃ρ2,o=.nx ρ2/\laS rs e (k+1) ρ2)\/∃v,o=.rt v/\laQ rs e (.rt v)):=by
   rintro o ⟨ρ,rfl,m2,a2,b2,c2,d2,rfl,w2,r2,_⟩;exact .inl ⟨_,rfl,m2,a2,b2,c2,d2,rfl,w2,r2⟩
  refine inner _ ?_;refine goq (Q:=λo=>∃ρ,o=.nx ρ/\laT rs e k [] ρ) (v:=rs.map rT) rfl ?_
  refine u1R rT (laT rs e k) (λo=>∃ρ,o=.nx ρ/\laT rs e k [] ρ) (λρ h=>⟨ρ,rfl,h⟩) ?_ rs _ ⟨m,_,b,c,d,rfl,w,by rw[l];rfl,λp m=>m⟩
  rintro p xs ρ ⟨m2,a2,b2,c2,d2,rfl,w2,r2,hx⟩;have mp:=hx p z5;have hx2:∀p∈xs,p∈rs:=λa b=>hx a (z4 _ b)
  have hb:=(g.b p mp).2;have hl:=w2.len;have l4:=(g.f.ok p mp).l;refine⟨_,rfl,?_⟩;refine asg (Q:=StO _ _ _) (oD (sz hdS (lk m2) p.2)) (by simp[frz,frzS,getV,OD.toD,a1o p.2 m2 hb,v1k]) rfl ?_
  have al:blsOf (p.2.map λb=>D.bl (hdS b))=some (p.2.map hdS):=u2R hdS _
  refine brT (e&&!(p.2.all hdS)) ?_ (λc=>?_) λc=>?_
  ·cases e with
   | false=>simp[frz,frzS,getV]
   | true =>
    simp[frz,frzS,getV];rw[u0r (u0D (by omega)),compM D.str (λb=>D.bl (hdS b)) λb mb=>⟨_,rfl,rfl,by simp[rhoC,a3a b (hb b mb)]⟩]
    simp[OD.toD,gAll,al]
  ·refine th (Q:=StO _ _ _) rfl ?_
   have e1:emp e (p::xs)=emp e xs:=by
    unfold emp;rw[List.filter_cons,if_neg];cases e<;>simp at c |-
    exact c
   refine brI false (by simp[frz,frzS,getV,dIsNot,isN]) (λc=>by cases c) λ_=>.inl ⟨_,rfl,m2,_,_,_,_,rfl,w2,by rw[<- r2,e1],hx2⟩
  ·refine th (Q:=StO _ _ _) rfl ?_
   have e1:emp e (p::xs)=p::emp e xs:=by
    unfold emp;rw[List.filter_cons,if_pos];cases e<;>simp at c |-
    exact c
   have r3:rnd hdS (stp hdS (lk m2) p) (emp e xs)=rnds hdS (emp e rs) (k+1):=by rw[<- r2,e1];rfl
   cases e5:sz hdS (lk m2) p.2 with
   | none =>
    refine brI false (by simp[frz,frzS,getV,oD,dIsNot,isN]) (λc=>by cases c) λ_=>.inl ⟨_,rfl,m2,_,_,_,_,rfl,w2,?_,hx2⟩
    rw[<- r3,u6b hdS (by rw[e5];rfl)]
   | some t =>
    refine brI (low (some t) (lk m2 p.1)) ?_ (λc=>?_) λc=>.inl ⟨_,rfl,m2,_,_,_,_,rfl,w2,?_,hx2⟩
    ·cases e3:lk m2 p.1 with
     | none=>simp[frz,frzS,getV,oD,dIsNot,isN,OD.toD,u4X,e3,low]
     | some s=>simp[frz,frzS,getV,oD,dIsNot,isN,OD.toD,u4X,e3,low,u9M e3,nD]
    ·refine .inl ⟨_,put_n (m:=m2) (t:=t) (b:=p.1) (by omega) rfl rfl rfl,pt m2 p.1 t,_,_,_,_,rfl,w2.pt (x5.mpr ⟨_,mp,rfl⟩),?_,hx2⟩
     rw[v3E e5 c];exact r3
    ·rw[<- r3,u6b hdS (by rw[e5];exact c)]
end
open Bk
noncomputable def wyD (l:List (Nat×Nat)):D:=.lst (l.map λq=>.tup [dN q.1,dN q.2])
noncomputable def stS:List RR->Str
 | p::_=>p.1
 | []=>""
def v3D {rs:List RR} (n:1<=rs.length):strt (dR rs)=.str (stS rs):=by
 cases rs with
 | nil=>simp at n
 | cons p ps=>rfl
def u6d {rs:List RR} (n:1<=rs.length):stS rs∈rs.map (·.1):=by
 cases rs with
 | nil=>simp at n
 | cons p ps=>exact z5
abbrev WW:=List (Str×List (Nat×Nat))
abbrev BIr (rs:List RR) (X:Str->Prop) (W:WW) (Q:List Str):Prop:=BI hdS rs (fr rs) (stS rs) X W Q
def PW (rs:List RR) (W:WW):Prop:=(Lz rs (stS rs)=none/\W=[])\/((Lz rs (stS rs)).isSome=true/\BIr rs (λ_=>False) W [])
def u5m {rs:List RR} (g:Gg rs) {X:Str->Prop}{W:WW}{Q:List Str} (b:BIr rs X W Q):W.length<=rs.length:=by
 have:=u6K hdS rs (fr rs) (stS rs) g.kn (u6d g.n) ⟨b.nd,b.r⟩
 simpa using this
def v1v {a b:Str} (ga:goodS a=true) (gb:goodS b=true):dEq (.str a) (.str b)=.ok (.bl (decide (a=b))):=by
 simp[goodS] at ga gb;show(cmpD (.str a)).bind _=_;rw[u1F ga.1,Res.bind_ok,u1F gb.1,Res.bind_ok,u2D];by_cases c:a=b<;>simp[c]
def RcG (A:Adr) (G:FD):Prop:=∀rs kk,Gg rs->∃d,G [gI A rs kk]=.ok d/\∃W,d=.dct (kv wyD W)/\PW rs W
noncomputable abbrev ρ9 (g nm:D) (W:WW) (Q:List Str) (r:Rho):Rho:=some (.val g)::some (.val nm)::some (.own (.d (kv wyD W)))::some (.own (.l (Q.map D.str)))::r
inductive RS1 (g nm:D) (rs:List RR) (n:Nat) (ρ:Rho):Prop
 | mk (W:WW) (Q:List Str) (a b c d e:Option Sl) (eρ:ρ=ρ9 g nm W Q [a,b,c,d,e]) (b:BIr rs (λ_=>False) W Q) (en:n+W.length=rs.length+Q.length) (hn:n<=rs.length)
inductive RQ1 (g nm:D) (rs:List RR) (o:Out):Prop
 | mk (W:WW) (r:Rho) (eo:o=.nx (ρ9 g nm W [] r)) (b:BIr rs (λ_=>False) W [])
noncomputable def own (rs:List RR) (hd:Str):NR:=(fruN rs).filter λq=>decide (q.2.1=hd)
def Has (W:WW) (bs:List Str):Prop:=∀b∈bs,hdS b=true->b∈W.map (·.1)
inductive RS2 (g nm:D) (rs:List RR) (n:Nat) (hd:Str) (xs:NR) (ρ:Rho):Prop
 | mk (ys:NR) (W:WW) (Q:List Str) (c d e:Option Sl) (eo:own rs hd=ys++xs) (eρ:ρ=ρ9 g nm W Q [some (.val (.str hd)),some (.val (nums (own rs hd))),c,d,e]) (b:BIr rs (·=hd) W Q) (m:hd∈W.map (·.1)) (en:n+W.length=rs.length+Q.length+1) (h:∀q∈ys,Has W q.2.2)
inductive RS3 (g nm:D) (rs:List RR) (n:Nat) (hd:Str) (q:Nat×RR) (ys:NR) (k:Nat) (xs:List Str) (ρ:Rho):Prop
 | mk (bs:List Str) (W:WW) (Q:List Str) (d e:Option Sl) (eo:q.2.2=bs++xs) (ek:k=bs.length) (eρ:ρ=ρ9 g nm W Q [some (.val (.str hd)),some (.val (nums (own rs hd))),some (.val (dN q.1)),d,e]) (b:BIr rs (·=hd) W Q) (m:hd∈W.map (·.1)) (en:n+W.length=rs.length+Q.length+1) (h:∀q∈ys,Has W q.2.2) (h2:Has W bs)
def EnO {γ:Type} (S:Nat->List γ->Rho->Prop) (Q:Out->Prop) (k:Nat) (xs:List γ) (o:Out):Prop:=(∃ρ2,o=.nx ρ2/\S (k+1) xs ρ2)\/∃v,o=.rt v/\Q (.rt v)
def Has.app {W V:WW}{bs:List Str} (h:Has W bs):Has (W++V) bs:=λb m hb=>by rw[v5];exact u4 _ (h b m hb)
def pt_new {β:Type}{W:List (Str×β)}{h:Str}{x:β} (n:h∉W.map (·.1)):pt W h x=W++[(h,x)]:=if_neg n
def put_w {b:Str}{W:WW}{l:List (Nat×Nat)}{fi fv:Rho->Res D}{g nm:D}{Q:List Str}{r:Rho} (hl:W.length<=1000) (hv:fv (ρ9 g nm W Q r)=.ok (wyD l)) (hi:fi (ρ9 g nm W Q r)=.ok (.str b)) (hg:getD' (ρ9 g nm W Q r) 2=.ok (kv wyD W)) (nb:b∉W.map (·.1)) :
  fPutD 2 fi fv (ρ9 g nm W Q r)=.nx (ρ9 g nm (W++[(b,l)]) Q r):=by
 unfold fPutD;rw[hv,go_ok,hg,go_ok,hi,go_ok,show keyK (.str b)=.ok (.inr b) from rfl,go_ok,if_pos (t5 (by rw[v3W];exact hl) (by decide)),v3M,pt_new nb]
 rfl
section
variable {P:Program}{w:World}{K:W.Frag}{mg:MG}{base:Heap}{f:Addr}{fd:FuncData}{A:Adr}
def u9r {a0e:FD} (a0q:Callee P w K mg base 6 "fruitful_numbers" ["grammar"] (spF K a0e)) {a0b:FD} (a0o:Callee P w K mg base 5 "least_sizes" ["grammar"] (spF K a0b)) {a0d:FD} (a0p:Callee P w K mg base 2 "is_head" ["thing"] (spF K a0d)) {a0x:FD} (m_body_of:MCalleeF P w K mg base 3 A.Grammar "body_of" ["self","number"] a0x) {a0h:FD} (m_head_of:MCalleeF P w K mg base 3 A.Grammar "head_of" ["self","number"] a0h) (a2f:LsG A a0b) (a4t:∀rs kk,Gg rs->a0e [gI A rs kk]=.ok (nums (fruN rs))) (a0k:P1 hdD a0d) (a0n:∀rs kk (n:Nat) p,rs[n]?=some p->rs.length<=1000->a0h [gI A rs kk,dN n]=.ok (.str p.1)) (a1b:∀rs kk (n:Nat) p,rs[n]?=some p->rs.length<=1000->a0x [gI A rs kk,dN n]=.ok (.tup (p.2.map D.str))) (F:Fun K "reached" "reached" u2I f fd) (T:Txt P w K mg A):∃G,FnOk P w K mg base CX0 7 f fd ["grammar"] (spF K G)/\RcG A G:=by
 refine⟨_,F.okT (k:=6) u0K (λcdv Ar outer s H E hr=>u0d (u0x (u0l (u6z (hu200 hr)) (u4M T.cls T.na_start (dv 0)) (d_fn a0o hr (u0a (dv 0) u0b))) (u0e (u0i (DN.de u6P))) u0n)
  (u0d (ds_n u0K.nd (d_fn a0q hr (u0a (dv 0) u0b)))
  (u0d (u1B u0K.nd (v3t (u4M T.cls T.na_start (dv 0)) (u1f u0b)))
  (u0d (u1B u0K.nd (u3u (u0a (u4M T.cls T.na_start (dv 0)) u0b)))
  (u0d (u8E (u0l o_gt (d_B u1z T.z_len (by decide +kernel) (u0a (dv 3) u0b)) u0c) (u0d (dsx_n u0K.nd (x_popAt 3 (xa_cons (x_pure (xq:=xqF) u0c) xa_nil)))
   (u0d (u5O ["number"] [0,4] rfl (u0t (sc:=defScope u2I) (N:=["grammar","numbers","ways","waiting","head","own","number","place","symbol"]) (by decide +kernel)) u0K.nd (u0w (dv 1)) (dg_n (show(["number","grammar","head"]:List Str).Nodup by decide +kernel)) (u5j (u0l (o_eq (hu64 hr)) (d_mG m_head_of hr (dv 1) (u0a (dv 0) u0b)) (dv 2))) (dv 0))
   (u0e (u0A rfl (u0w (dv 5)) (dg_n u0K.nd)
   (u0e (u0A rfl (v1E T.z_enumerate (u0a (d_mG m_body_of hr (dv 0) (u0a (dv 6) u0b)) u0b)) (u2O (n:=2) rfl (u0s (dg_n u0K.nd) (u0s (dg_n u0K.nd) u1E)))
    (u0e (u0x (dt_w (u2N (u0W (d_fn a0p hr (u0a (dv 8) u0b))) (u1S (u0l (u6z (hu200 hr)) (dv 8) (dv 2))))) (u0d (u4t 2 (hu200 hr) (dv 8) (d_op u1g (d_ixD 2 (hu1 hr) (dv 4)) (u1f (u0a (u0f (u0a (dv 6) (u0a (dv 7) u0b))) u0b))))
      (u0e (u0S 3 (dv 8)))) u0n)))))))))
  (u0e (u0i (dv 2)))))))),?_⟩
 intro rs kk g;have n20:=g.f.n;obtain⟨m,e,w,l⟩:=a2f rs kk g;have es:fldD A.Grammar (Str.ofString "start") (gI A rs kk)=.ok (.str (stS rs)):=by rw[f_start,v3D g.n]
 refine run2 rfl ?_;refine brT (Q:=RetP _) (!(Lz rs (stS rs)).isSome) (by simp[startD,es,e,u4X,l]) (λc=>?_) λc=>?_
 ·exact⟨_,rfl,[],rfl,.inl ⟨by simpa using c,rfl⟩⟩
 have c:(Lz rs (stS rs)).isSome=true:=by simpa using c
 refine th (Q:=RetP _) rfl ?_;refine asg (Q:=RetP _) (nums (fruN rs)) (by simp[startD,a4t rs kk g]) rfl ?_
 refine asg (Q:=RetP _) (.d (kv wyD [(stS rs,[])])) (by simp[startD,es,keyK];rfl) rfl ?_
 refine asg (Q:=RetP _) (.l ([stS rs].map D.str)) (by simp[startD,es]) rfl ?_
 refine thq (T:=RQ1 (gI A rs kk) (nums (fruN rs)) rs) ?_ (by
  rintro o ⟨W,r,rfl,b⟩;exact⟨_,rfl,W,rfl,.inr ⟨c,b⟩⟩)
 refine v3B (RS1 (gI A rs kk) (nums (fruN rs)) rs) (RQ1 _ _ _) ?_ ?_ rs.length _ ⟨[(stS rs,[])],[stS rs],none,none,none,none,none,rfl,bi_st hdS rs (fr rs) (stS rs),rfl,z7 _⟩
 ·rintro o ⟨W,r,rfl,_⟩
  exact trivial
 rintro n ρ ⟨W,Q,a,b,c1,d,e1,rfl,B,en,hn⟩;cases Q with
 | nil=>exact .inl ⟨by simp[gLen,OD.toD],W,_,rfl,B⟩
 | cons hd Q =>
  have Wl:=u5m g B;refine .inr ⟨by simp[gLen,OD.toD],.inl ?_⟩
  have mh:hd∈W.map (·.1):=B.q hd z5
  have hdg:OkB hd:=by
   obtain⟨p,mp,rfl⟩:=x5.mp (u8c hdS rs (fr rs) (stS rs) g.kn (u6d g.n) (B.r hd mh));exact(g.b p mp).1
  have inner:∀o:Out,(∃ρ,o=.nx ρ/\RS2 (gI A rs kk) (nums (fruN rs)) rs n hd [] ρ)->∃ρ2 n2,n2<n/\o=.nx ρ2/\RS1 (gI A rs kk) (nums (fruN rs)) rs n2 ρ2:=by
   rintro o ⟨ρ,rfl,ys,W2,Q2,c2,d2,e2,eo,rfl,B2,m2,en2,h2⟩;refine⟨_,rs.length+Q2.length - W2.length,?_,rfl,W2,Q2,_,_,_,_,_,rfl,BI.done hdS rs (fr rs) (stS rs) B2 λp mp ep fp=>?_,?_,?_⟩
   ·have:=u5m g B2
    omega
   ·rw [List.append_nil] at eo
    obtain⟨i,hi,ei⟩:=List.mem_iff_getElem.mp mp;refine h2 (i,p) ?_;rw[<- eo];unfold own fruN;refine s9.mpr ⟨s9.mpr ⟨?_,fp⟩,decide_eq_true ep⟩;unfold allN;exact x5.mpr ⟨(p,i),List.mem_zipIdx_iff_getElem?.mpr (by rw[w6 hi,ei]),rfl⟩
   ·have:=u5m g B2
    omega
   ·have:=u5m g B2
    omega
  refine inner _ ?_;refine asg (Q:=λo=>∃ρ,o=.nx ρ/\RS2 (gI A rs kk) (nums (fruN rs)) rs n hd [] ρ) (D.str hd,ρ9 (gI A rs kk) (nums (fruN rs)) W Q [a,b,c1,d,e1]) (by simp[popL,popAtW,getW];rfl) rfl ?_
  refine asg (Q:=λo=>∃ρ,o=.nx ρ/\RS2 (gI A rs kk) (nums (fruN rs)) rs n hd [] ρ) (.l ((own rs hd).map λq=>dN q.1)) (by
   have lf:(fruN rs).length<=20:=by
    unfold fruN;refine y7 (List.length_filter_le _ _) ?_;unfold allN;simp;exact n20
   simp[nums];rw[u0r (u0D (by omega)),compF (λq:Nat×RR=>dN q.1) (λq=>decide (q.2.1=hd)) (λq=>dN q.1) λq mq=>?_]
   ·rfl
   ·have e0:rs[q.1]?=some q.2:=u3v (s9.mp mq).1
    exact⟨_,rfl,by simp[frz,frzS,rhoC,a0n rs kk q.1 q.2 e0 (by omega),v1v (g.b q.2 (List.mem_of_getElem? e0)).1.g hdg.g],λ_=>rfl⟩) rfl ?_
  refine goq (Q:=λo=>∃ρ,o=.nx ρ/\RS2 (gI A rs kk) (nums (fruN rs)) rs n hd [] ρ) (v:=(own rs hd).map λq=>dN q.1) rfl ?_
  refine u1R (λq:Nat×RR=>dN q.1) (RS2 (gI A rs kk) (nums (fruN rs)) rs n hd) (λo=>∃ρ,o=.nx ρ/\RS2 (gI A rs kk) (nums (fruN rs)) rs n hd [] ρ) (λρ h=>⟨ρ,rfl,h⟩) ?_ (own rs hd) _ ⟨[],W,Q,c1,d,e1,rfl,rfl,BI.pop hdS rs (fr rs) (stS rs) B,mh,by simp at en;omega,λq m=>(nomatch m)⟩
  rintro q xs ρ ⟨ys,W2,Q2,c2,d2,e2,eo,rfl,B2,m2,en2,h2⟩;have mq:q∈own rs hd:=by rw[eo];simp
  have mq2:=s9.mp mq;have mq3:=s9.mp mq2.1;have e0:rs[q.1]?=some q.2:=u3v mq3.1;have eh:q.2.1=hd:=of_decide_eq_true mq2.2;have fq:fr rs q.2=true:=mq3.2;have mr:q.2∈rs:=List.mem_of_getElem? e0;refine⟨_,rfl,?_⟩;refine goq (Q:=StO _ _ _) (v:=enumL (q.2.2.map D.str)) (by simp[a1b rs kk q.1 q.2 e0 (by omega),enum2]) ?_
  refine u5K D.str (RS3 (gI A rs kk) (nums (fruN rs)) rs n hd q ys) (StO (RS2 (gI A rs kk) (nums (fruN rs)) rs n hd) _ xs) ?_ ?_ q.2.2 0 _ ⟨[],W2,Q2,d2,e2,rfl,rfl,rfl,B2,m2,en2,h2,λb m=>(nomatch m)⟩
  ·rintro k ρ ⟨bs,W3,Q3,d3,e3,eo3,ek,rfl,B3,m3,en3,h3,h4⟩
   rw[List.append_nil] at eo3;refine .inl ⟨_,rfl,ys++[q],W3,Q3,_,_,_,by rw[eo,List.append_assoc];rfl,rfl,B3,m3,en3,λz mz=>?_⟩
   rcases v1.mp mz with mz|mz
   ·exact h3 z mz
   ·simp at mz
    subst mz;rw[eo3];exact h4
  ·rintro k b xs3 ρ ⟨bs,W3,Q3,d3,e3,eo3,ek,rfl,B3,m3,en3,h3,h4⟩
   have mb:b∈q.2.2:=by rw[eo3];simp
   have ob:=(g.b q.2 mr).2 b mb;have Wl3:=u5m g B3;refine⟨_,rfl,?_⟩;show EnO (RS3 (gI A rs kk) (nums (fruN rs)) rs n hd q ys) (StO (RS2 (gI A rs kk) (nums (fruN rs)) rs n hd) (λo=>∃ρ,o=.nx ρ/\RS2 (gI A rs kk) (nums (fruN rs)) rs n hd [] ρ) xs) k xs3 _
   refine brI (Q:=EnO _ _ _ _) (hdS b&&!(lk W3 b).isSome) (by
    cases hh:hdS b<;>simp[a0k (.str b) (by simpa[goodD] using ob.g),hdD,hh,OD.toD,u4X]) (λc=>?_) λc=>?_
   ·simp at c
    have nb:b∉W3.map (·.1):=λz=>by
     obtain⟨l,e⟩:=u4Z z;rw[e] at c;cases c.2
    obtain⟨lw,el⟩:=u4Z m3;have lw2:=(B3.way _ _ (u4Y el)).2;have ev:valD (kv wyD W3) (.inr hd)=some (wyD lw):=by rw[u1T,el];rfl
    refine th (Q:=EnO _ _ _ _) (ρ:=ρ9 (gI A rs kk) (nums (fruN rs)) (W3++[(b,lw++[(q.1,k)])]) Q3 [some (.val (.str hd)),some (.val (nums (own rs hd))),some (.val (dN q.1)),some (.val (dN k)),some (.val (.str b))]) ?_ ?_
    ·refine put_w (W:=W3) (l:=lw++[(q.1,k)]) (b:=b) (by omega) ?_ rfl rfl nb
     have l2:(lw.map λq=>D.tup [dN q.1,dN q.2]).length+[D.tup [dN q.1,dN k]].length<=sizeLine:=u0D (by simp;omega)
     simp[getD',u9M el];show noE (gd _ (Res.ok (D.lst _)))=_;rw[u0r l2];simp[wyD]
    ·refine .inl ⟨ρ9 (gI A rs kk) (nums (fruN rs)) (W3++[(b,lw++[(q.1,k)])]) (Q3++[b]) [some (.val (.str hd)),some (.val (nums (own rs hd))),some (.val (dN q.1)),some (.val (dN k)),some (.val (.str b))],?_,bs++[b],_,_,_,_,by rw [eo3,List.append_assoc];rfl,by simp [ek],rfl,?_,?_,?_,fun z mz=>(h3 z mz).app,fun z mz hz=>?_⟩
     ·simp [getL]
      rw[if_pos (t5 (show Q3.length<=1000 by omega) (by decide))]
      simp
     ·refine BI.add hdS rs (fr rs) (stS rs) B3 e0 fq ?_ (by rw [eh];exact el) c.1 nb
      rw[eo3,ek];simp
     ·rw [v5]
      exact u4 _ m3
     ·simp
      omega
     ·rcases v1.mp mz with mz | mz
      ·exact h4.app z mz hz
      ·simp at mz
       subst mz;simp
   ·refine .inl ⟨_,rfl,bs++[b],W3,Q3,_,_,by rw [eo3,List.append_assoc];rfl,by simp [ek],rfl,B3,m3,en3,h3,fun z mz hz=>?_⟩
    rcases v1.mp mz with mz|mz
    ·exact h4 z mz hz
    ·simp at mz
     subst mz;rw[hz] at c
     have:=v0M (W:=W3) (h:=z)
     simp at c;refine Classical.byContradiction λnz=>?_
     rw[v2U nz] at c;exact absurd c (by simp)
end
open Bk
noncomputable def rS (rs:List RR):List Str:=if (Lz rs (stS rs)).isSome=true then rrs hdS rs (fr rs) rs.length [stS rs] else []
def u6o {rs:List RR}{W:WW} (g:Gg rs) (h:PW rs W) (x:Str):x∈W.map (·.1)↔x∈rS rs:=by
 unfold rS;rcases h with⟨e,rfl⟩|⟨e,b⟩
 ·rw [e]
  simp
 ·rw[if_pos e,BI.end hdS rs (fr rs) (stS rs) b,rrs_mem hdS rs (fr rs) (stS rs) g.kn (u6d g.n)]
def v0v {rs:List RR}{W:WW} (g:Gg rs) (h:PW rs W) (x:Str):(lk W x).isSome=decide (x∈rS rs):=by
 rw[v0M];exact decide_eq_decide.mpr (u6o g h x)
noncomputable def livN (rs:List RR):NR:=(fruN rs).filter λq=>decide (q.2.1∈rS rs)
noncomputable def szH (rs:List RR) (h:Str):Nat:=max ((Lz rs h).getD 0) ((Lz (emp true rs) h).getD 0)
noncomputable def bigH (rs:List RR) (h:Str):Bool:=decide (40<szH rs h)
noncomputable def vastL (rs:List RR):List Str:=(headsL rs).filter (bigH rs)
noncomputable def deadL (rs:List RR):List Nat:=(List.range rs.length).filter λn=>!decide (n∈(livN rs).map (·.1))
def u6N {α:Type} (p:α->Bool) (l:List α):l.find? p=(l.filter p).head?:=by
 induction l with
 | nil=>rfl
 | cons x l ih =>
  rw[u3,List.filter_cons];cases h:p x with
  | true=>rfl
  | false=>exact ih
noncomputable def vastR (A:Adr) (rs:List RR):Res D:=match (vastL rs).head? with
 | some h=>.err (.exc A.Vast [("head",.str h)])
 | none=>.ok .non
noncomputable def cleanR (A:Adr) (rs:List RR):Res D:=match (deadL rs).head? with
 | some n=>.err (.exc A.Dead [("number",dN n)])
 | none=>vastR A rs
def v4c (m:List (Str×Nat)) (h:Str):gGetK (kv nD m) (.str h) (.int 0)=.ok (.int (((lk m h).getD 0:Nat):Int)):=by
 show Res.ok ((valD (kv nD m) (.inr h)).getD (.int 0))=_;rw[u1T];cases lk m h<;>rfl
def max_n (a b:Nat):gMax [.int (a:Int),.int (b:Int)]=.ok (.int ((max a b:Nat):Int)):=by
 show Res.ok (D.int (if (b:Int) > a then (b:Int) else a))=_
 congr 2;by_cases c:b > a
 ·rw[if_pos (by omega)];congr 1;omega
 ·rw[if_neg (by omega)];congr 1;omega
def v3s (rs:List RR):(bareN rs).map (·.2)=emp true rs:=by
 unfold bareN emp;rw[u8Y rs λp=>p.2.all hdS]
 simp
def emp_all (rs:List RR):emp false rs=rs:=by
 unfold emp;exact List.filter_eq_self.mpr λ_ _=>rfl
noncomputable def toldR (rs:List RR):D:=match (deadL rs).head? with
 | some n=>.lst [.str "dead",dN n,.bl true,.bl false]
 | none=>match (vastL rs).head? with
  | some h=>.lst [.str "vast",.str h,.bl true,.bl false]
  | none=>.non
structure Sub (K:W.Frag) (A:Adr):Prop where
 xb1:xbB K A.Dead=true
 xb2:xbB K A.Vast=true
 s11:subK K A.Dead A.Dead=true
 s21:subK K A.Vast A.Dead=false
 s22:subK K A.Vast A.Vast=true
theorem u6T:∀ns:List Nat,cmpDs (ns.map dN)=.ok (ns.map λ(n:Nat)=>PyData.int (n:Int))
 | []=>rfl
 | n::ns=>by
  show(cmpD (dN n)).bind _=_;rw[show cmpD (dN n)=.ok (.int (n:Int)) from rfl,Res.bind_ok,u6T ns]
  rfl
def v1d (n:Nat) (ns:List Nat) (neg:Bool):inD (dN n) (ns.map dN) neg=.ok (.bl (if neg=true then !decide (n∈ns) else decide (n∈ns))):=by
 have e:((ns.map λ(n:Nat)=>PyData.int (n:Int)).any λb=>PyData.eqv b (.int (n:Int)))=decide (n∈ns):=by
  rw[List.any_map];induction ns with
  | nil=>rfl
  | cons a ns ih =>
   rw[List.any_cons,ih];simp only[Function.comp]
   have:PyData.eqv (.int (a:Int)) (.int (n:Int))=decide (n=a):=by
    by_cases c:n=a
    ·subst c;simp[PyData.eqv]
    ·have:¬ (a:Int)=(n:Int):=by omega
     simp[PyData.eqv,c,this]
   rw[this];simp
 unfold inD;rw[show cmpD (dN n)=.ok (.int (n:Int)) from rfl,Res.bind_ok,u6T,Res.bind_ok,e]
def u8f (ps:NR):nums ps=.lst ((ps.map (·.1)).map dN):=by unfold nums;rw[u5];rfl
def vS (g w b:D) (_:Unit) (_:List Str) (ρ:Rho):Prop:=∃x,ρ=[some (.val g),some (.val w),some (.val b),x]
def vQ (A:Adr) (r:Option Str) (o:Out):Prop:=match r with
 | none=>∃ρ,o=.nx ρ
 | some h=>∃ρ,o=.er (.exc A.Vast [("head",.str h)]) ρ
def cS (g w:D) (_:Unit) (_:NR) (ρ:Rho):Prop:=∃x,ρ=[some (.val g),some (.val w),x]
def cQ (A:Adr) (g:D) (r:Option (Nat×RR)) (o:Out):Prop:=match r with
 | none=>∃ρ,o=.nx (some (.val g)::ρ)
 | some q=>∃ρ,o=.er (.exc A.Dead [("number",dN q.1)]) ρ
section
variable {P:Program}{w:World}{K:W.Frag}{mg:MG}{base:Heap}{f:Addr}{fd:FuncData}{A:Adr}
def pr_live {a1j:FD} (a1t:Callee P w K mg base 7 "reached" ["grammar"] (spF K a1j)) {a0e:FD} (a0q:Callee P w K mg base 6 "fruitful_numbers" ["grammar"] (spF K a0e)) {a0h:FD} (m_head_of:MCalleeF P w K mg base 3 A.Grammar "head_of" ["self","number"] a0h) (a1r:RcG A a1j) (a4t:∀rs kk,Gg rs->a0e [gI A rs kk]=.ok (nums (fruN rs))) (a0n:∀rs kk (n:Nat) p,rs[n]?=some p->rs.length<=1000->a0h [gI A rs kk,dN n]=.ok (.str p.1)) (F:Fun K "live" "live" u7Z f fd) (T:Txt P w K mg A):∃G,FnOk P w K mg base CX0 8 f fd ["grammar"] (spF K G)/\∀rs kk,Gg rs->G [gI A rs kk]=.ok (nums (livN rs)):=by
 refine⟨_,F.okT (k:=7) v0p (λcdv Ar outer s H E hr=>u0d (ds_n v0p.nd (d_fn a1t hr (u0a (dv 0) u0b)))
  (u0e (u0i (DN.de (u0Y ["number"] [0,1] rfl (u0t (sc:=defScope u7Z) (N:=["grammar","ways"]) (by decide +kernel)) (u0w (d_fn a0q hr (u0a (dv 0) u0b))) (dg_n (show(["number","grammar","ways"]:List Str).Nodup by decide +kernel)) (u5j (u0l (o_inK (hu200 hr)) (d_mG m_head_of hr (dv 1) (u0a (dv 0) u0b)) (dv 2))) (dv 0)))))),?_⟩
 intro rs kk g;have n20:=g.f.n;obtain⟨_,e,W,rfl,pw⟩:=a1r rs kk g;have lf:(fruN rs).length<=20:=by
  unfold fruN;refine y7 (List.length_filter_le _ _) ?_;unfold allN;simp;exact n20
 simp[runT,startD,e,a4t rs kk g,nums];rw[u0r (u0D (by omega)),compF (λq:Nat×RR=>dN q.1) (λq=>decide (q.2.1∈rS rs)) (λq=>dN q.1) λq mq=>?_]
 ·simp [OD.toD]
  rfl
 ·have e0:rs[q.1]?=some q.2:=u3v (s9.mp mq).1
  exact⟨_,rfl,by simp[frz,frzS,rhoC,a0n rs kk q.1 q.2 e0 (by omega),in_kv,v0v g pw],λ_=>rfl⟩
def u5x {a0b:FD} (a0o:Callee P w K mg base 5 "least_sizes" ["grammar"] (spF K a0b)) {a1d:FD} (a1x:Callee P w K mg base 4 "sizes_by" ["grammar","numbers"] (spF K a1d)) {a1n:FD} (a2r:Callee P w K mg base 3 "bare_numbers" ["grammar"] (spF K a1n)) {a3j:FD} (m_heads:MCalleeF P w K mg base 2 A.Grammar "heads" ["self"] a3j) (x_Vast:XCalleeF P w K mg base 1 "Vast" A.Vast ["self","head"] ["head"]) (a2f:LsG A a0b) (a1w:SzsG A a1d) (a4y:∀rs kk,Gg rs->a1n [gI A rs kk]=.ok (nums (bareN rs))) (a1f:∀rs kk,rs.length<64->a3j [gI A rs kk]=.ok (.lst ((headsL rs).map D.str))) (F:Fun K "need_small" "need_small" u1Y f fd) (T:Txt P w K mg A):∃G,FnOk P w K mg base (CXe P w) 6 f fd ["grammar"] (spX K G)/\∀rs kk,Gg rs->G [gI A rs kk]=vastR A rs:=by
 refine⟨_,F.okTX (k:=5) u1i (λcdv Ar outer s H E hr hq=>u0d (ds_n u1i.nd (d_fn a0o hr (u0a (dv 0) u0b)))
  (u0d (ds_n u1i.nd (d_fn a1x hr (u0a (dv 0) (u0a (d_fn a2r hr (u0a (dv 0) u0b)) u0b))))
  (u0e (u0A rfl (u0w (d_mG0 m_heads hr (dv 0))) (dg_n u1i.nd)
  (u0e (u0x (u0l o_gt (d_B (c_max rfl) T.z_max (by decide +kernel) (u0a (u8J (hu1 hr) (dv 1) (dv 3) u0c) (u0a (u8J (hu1 hr) (dv 2) (dv 3) u0c) u0b))) (u3F T.g_MOST_SIZE)) (u0e (u8F hq rfl x_Vast hr (u0a (dv 3) u0b))) u0n)) hq.ps)))),?_⟩
 intro rs kk g;have n20:=g.f.n;obtain⟨m1,e1,w1,l1⟩:=a2f rs kk g;obtain⟨_,e2,m2,rfl,w2,l2⟩:=a1w rs kk (bareN rs) g λq m=>u3v (s9.mp m).1
 rw[v3s] at l2;refine runX1 rfl ?_;refine asg (Q:=RetsX _) (.dct (kv nD m1)) (by simp[startD,e1]) rfl ?_
 refine asg (Q:=RetsX _) (.dct (kv nD m2)) (by simp[startD,a4y rs kk g,e2]) rfl ?_
 have hg:∀h∈headsL rs,goodS h=true:=u5d g.f.ok;have key:∀o,vQ A ((headsL rs).find? (bigH rs)) o->RetsX (vastR A rs) o:=by
  intro o q;unfold vastR vastL;rw[<- u6N];cases e:(headsL rs).find? (bigH rs) with
  | none=>rw[e] at q;obtain⟨ρ,rfl⟩:=q;rfl
  | some h=>rw[e] at q;obtain⟨ρ,rfl⟩:=q;rfl
 refine key _ ?_;refine goq (Q:=vQ A _) (v:=(headsL rs).map D.str) (by simp[startD,a1f rs kk (by omega)]) ?_
 refine u0L D.str (vS _ _ _) (λ_ hs=>hs.find? (bigH rs)) (vQ A) ?_ ?_ (headsL rs) () _ ⟨none,rfl⟩
 ·rintro _ ρ ⟨x,rfl⟩
  exact⟨_,rfl⟩
 ·rintro _ h hs ρ ⟨x,rfl⟩
  refine⟨_,rfl,?_⟩;have es:szH rs h=max ((lk m1 h).getD 0) ((lk m2 h).getD 0):=by unfold szH;rw[l1,l2]
  refine brI (bigH rs h) (by simp[asDct,v4c,max_n,bigH,es];generalize max ((lk m1 h).getD 0) ((lk m2 h).getD 0)=z;omega) (λc=>?_) λc=>?_
  ·refine v0h (v:=.exc A.Vast [("head",.str h)]) ?_
   show vQ A ((h::hs).find? (bigH rs)) _;rw[u3,c];exact⟨_,rfl⟩
  ·exact u0X () ⟨_,rfl⟩ (by rw[u3,c])
def u5A {a2u:FD} (a2s:Callee P w K mg base 8 "live" ["grammar"] (spF K a2u)) {a0r:FD} (a1g:Callee P w K mg base 1 "all_numbers" ["grammar"] (spF K a0r)) {a2a:FD} (a3b:CalleeX P w K mg base 6 "need_small" ["grammar"] a2a) (x_Dead:XCalleeF P w K mg base 1 "Dead" A.Dead ["self","number"] ["number"]) (a4a:∀rs kk,Gg rs->a2u [gI A rs kk]=.ok (nums (livN rs))) (a4v:∀rs kk,rs.length<=1000->a0r [gI A rs kk]=.ok (nums (allN rs))) (a4n:∀rs kk,Gg rs->a2a [gI A rs kk]=vastR A rs) (F:Fun K "need_clean" "need_clean" u2b f fd) (T:Txt P w K mg A):∃G,FnOk P w K mg base (CXe P w) 9 f fd ["grammar"] (spX K G)/\∀rs kk,Gg rs->G [gI A rs kk]=cleanR A rs:=by
 refine⟨_,F.okTX (k:=8) u1K (λcdv Ar outer s H E hr hq=>u0d (ds_n u1K.nd (d_fn a2s hr (u0a (dv 0) u0b)))
  (u0d (u0A rfl (u0w (d_fn a1g hr (u0a (dv 0) u0b))) (dg_n u1K.nd)
  (u0e (u0x (u0l (u4e (hu100 hr)) (dv 2) (dv 1)) (u0e (u8F hq rfl x_Dead hr (u0a (dv 2) u0b))) u0n)) hq.ps)
  (u0e (u2G (d_fnX hq a3b hr (u0a (dv 0) u0b)))))),?_⟩
 intro rs kk g;have n20:=g.f.n
 let pD:Nat×RR->Bool:=λq=>!decide (q.1∈(livN rs).map (·.1))
 have e2:(deadL rs).head?=((allN rs).find? pD).map (·.1):=by
  unfold deadL;rw[<- v1X,List.filter_map,u6N];show(((allN rs).filter pD).map (·.1)).head?=_
  rw[List.head?_map]
 refine runX1 rfl ?_;refine asg (Q:=RetsX _) (nums (livN rs)) (by simp[startD,a4a rs kk g]) rfl ?_
 refine thq (T:=cQ A (gI A rs kk) ((allN rs).find? pD)) ?_ ?_
 ·refine goq (Q:=cQ A _ _) (v:=(allN rs).map fun q=>dN q.1) (by simp [startD,a4v rs kk (by omega)];rfl) ?_
  refine u0L (λq:Nat×RR=>dN q.1) (cS _ _) (λ_ qs=>qs.find? pD) (cQ A _) ?_ ?_ (allN rs) () _ ⟨none,rfl⟩
  ·rintro _ ρ ⟨x,rfl⟩
   exact⟨_,rfl⟩
  ·rintro _ q qs ρ ⟨x,rfl⟩
   refine⟨_,rfl,?_⟩;have ein:dNotIn (dN q.1) (nums (livN rs))=.ok (.bl (pD q)):=by
    rw[u8f];show inD _ _ true=_;rw[v1d];rfl
   refine brI (pD q) (by simp[ein]) (λc=>?_) λc=>?_
   ·refine v0h (v:=.exc A.Dead [("number",dN q.1)]) ?_
    show cQ A _ ((q::qs).find? pD) _;rw[u3,c];exact⟨_,rfl⟩
   ·exact u0X () ⟨_,rfl⟩ (by rw[u3,c])
 ·intro o q
  unfold cleanR;rw[e2];cases e:(allN rs).find? pD with
  | some x=>rw[e] at q;obtain⟨ρ,rfl⟩:=q;rfl
  | none =>
   rw[e] at q;obtain⟨ρ,rfl⟩:=q;refine th (Q:=RetsX _) rfl ?_;show RetsX (vastR A rs) _;simp[RetsX,a4n rs kk g];unfold vastR;cases (vastL rs).head?<;>rfl
def u7v {a2d:FD} (a3e:CalleeX P w K mg base 9 "need_clean" ["grammar"] a2d) (S:Sub K A) (a4u:∀rs kk,Gg rs->a2d [gI A rs kk]=cleanR A rs) (F:Fun K "_law_told" "_law_told" u2Y f fd) (T:Txt P w K mg A):∃G,FnOk P w K mg base (CXe P w) 10 f fd ["_law_grammar"] (spX K G)/\∀rs kk,Gg rs->G [gI A rs kk]=.ok (toldR rs):=by
 refine⟨_,F.okTX (k:=9) u0P (λcdv Ar outer s H E hr hq=>u0d (ds_n u0P.nd u0Q)
  (u0d (ds_try ⟨rfl,rfl⟩ (λpn xq1 hq=>u0e (ds_n u0P.nd (d_fnX hq a3e hr (u0a (dv 0) u0b))))
  (v4h (i:=2) ⟨rfl,rfl⟩ u0P.nd T.m_Dead T.b_Dead (λex=>u0e (ds_n u0P.nd (u1f (u0a u0Q (u0a (v4i T.x_number (dv 2)) (u0a (v3v T.o_TableError T.m_TableError T.z_isinstance (by decide +kernel) (dv 2)) (u0a (v3v T.o_Vast T.m_Vast T.z_isinstance (by decide +kernel) (dv 2)) u0b)))))))
  (v4h (i:=2) ⟨rfl,rfl⟩ u0P.nd T.m_Vast T.b_Vast (λex=>u0e (ds_n u0P.nd (u1f (u0a u0Q (u0a (v4i T.x_head (dv 2)) (u0a (v3v T.o_TableError T.m_TableError T.z_isinstance (by decide +kernel) (dv 2)) (u0a (v3v T.o_Dead T.m_Dead T.z_isinstance (by decide +kernel) (dv 2)) u0b)))))))
  (dh_nil hq))))
  (u0e (u0i (dv 1))))),?_⟩
 intro rs kk g;have e:=a4u rs kk g;have ne':=T.ne_dv.symm;have nb:=beq_false_of_ne ne';unfold cleanR at e;unfold toldR;cases h1:(deadL rs).head? with
 | some n =>
  rw[h1] at e;simp[runX,startD,e,hdAs,S.xb1,S.s11,isO,lookB,List.lookup]
 | none =>
  rw[h1] at e;unfold vastR at e;cases h2:(vastL rs).head? with
  | some h =>
   rw[h2] at e;simp[runX,startD,e,hdAs,S.xb2,S.s21,S.s22,isO,lookB,List.lookup,nb]
  | none =>
   rw[h2] at e;simp[runX,startD,e]
end
open Bk
theorem v0s (rs:List RR) (f:RR->Bool):∀n,rrs hdS rs f n []=[]
 | 0=>rfl
 | n+1=>by
  show rr hdS rs f (rrs hdS rs f n [])=[];rw[v0s rs f n]
  have:∀xs:List RR,xs.foldl (grw hdS f) []=[]:=by
   intro xs;induction xs with
   | nil=>rfl
   | cons p xs ih =>
    rw[r6,show grw hdS f [] p=[] from if_neg (by simp),ih]
  exact this rs
abbrev GdR (rs:List RR) (S:List Str):Prop:=Gd hdS rs (fr rs) (stS rs) S
def u8v {rs:List RR} (g:Gg rs) {S:List Str} (h:GdR rs S):∀b∈S,goodS b=true:=λb m=>by
 obtain⟨p,mp,rfl⟩:=x5.mp (u8c hdS rs (fr rs) (stS rs) g.kn (u6d g.n) (h.r b m));exact(g.b p mp).1.g
noncomputable def sl (S:List Str):Option Sl:=some (.own (.l (S.map D.str)))
noncomputable def r0 (rs:List RR):List Str:=if (Lz rs (stS rs)).isSome=true then [stS rs] else []
inductive rT1 (rs:List RR) (d:D) (k:Nat) (ρ:Rho):Prop
 | mk (a b c e:Option Sl) (eρ:ρ=[some (.val (dR rs)),some (.val d),sl (rrs hdS rs (fr rs) k (r0 rs)),a,b,c,e])
inductive rT2 (rs:List RR) (d:D) (S:List Str) (xs:List RR) (ρ:Rho):Prop
 | mk (a b c e:Option Sl) (eρ:ρ=[some (.val (dR rs)),some (.val d),sl S,a,b,c,e]) (g:GdR rs S) (m:∀p∈xs,p∈rs)
inductive rQ2 (rs:List RR) (d:D) (S:List Str) (o:Out):Prop
 | mk (a b c e:Option Sl) (eo:o=.nx [some (.val (dR rs)),some (.val d),sl S,a,b,c,e]) (g:GdR rs S)
inductive rT3 (rs:List RR) (d:D) (a b c:Option Sl) (S:List Str) (xs:List Str) (ρ:Rho):Prop
 | mk (e:Option Sl) (eρ:ρ=[some (.val (dR rs)),some (.val d),sl S,a,b,c,e]) (g:GdR rs S) (m:∀b∈xs,OkB b/\(hdS b=true->Rch hdS rs (fr rs) (stS rs) b))
def rT1' (rs:List RR) (d:D) (o:Out):Prop:=∃ρ,o=.nx ρ/\rT1 rs d rs.length ρ
def RhG (G:FD):Prop:=∀rs m,Gg rs->lk m=Lz rs->G [dR rs,.dct (kv nD m)]=.ok (.lst ((rS rs).map D.str))
def GtG (G:FD):Prop:=∀rs m1 m2,Gg rs->lk m1=Lz rs->lk m2=Lz (emp true rs)->G [dR rs,.dct (kv nD m1),.dct (kv nD m2)]=.ok (.lst ((vastL rs).map D.str))
section
variable {P:Program}{w:World}{K:W.Frag}{mg:MG}{base:Heap}{f:Addr}{fd:FuncData}{A:Adr}
def u6t {a0a:FD} (a0f:Callee P w K mg base 2 "_law_total" ["_law_sizes_here","_law_body"] (spF K a0a)) {a0c:FD} (a0l:Callee P w K mg base 1 "_law_is_head" ["_law_symbol_here"] (spF K a0c)) (a1o:TtG a0a) (a3a:∀b:Str,OkB b->a0c [.str b]=.ok (.bl (hdS b))) (F:Fun K "_law_reach" "_law_reach" u2s f fd) (T:Txt P w K mg A):∃G,FnOk P w K mg base CX0 3 f fd ["_law_rules_here","_law_sizes_here"] (spF K G)/\RhG G:=by
 refine⟨_,F.okT (k:=2) u0J (λcdv Ar outer s H E hr=>u0d (u1B u0J.nd (u3u u0b))
  (u0d (u0x (u0l (o_inK (hu200 hr)) (d_ix x_ix (d_ix x_ix (dv 0) u0c) u0c) (dv 1)) (u0e (u1B u0J.nd (u3u (u0a (d_ix x_ix (d_ix x_ix (dv 0) u0c) u0c) u0b)))) u0n)
  (u0d (u0A rfl (u1e T.z_range (u0a (d_B u1z T.z_len (by decide +kernel) (u0a (dv 0) u0b)) u0b)) (dg_n u0J.nd)
  (u0e (u0A rfl (u0w (dv 0)) (u2O (n:=2) rfl (u0s (dg_n u0J.nd) (u0s (dg_n u0J.nd) u1E)))
   (u0e (u0x (dt_w (u2N (u0l (o_in (hu100 hr)) (dv 4) (dv 2)) (u1S (u0l u4f (d_fn a0f hr (u0a (dv 1) (u0a (dv 5) u0b))) u4w)))) (u0e (u0A rfl (u0w (dv 5)) (dg_n u0J.nd)
     (u0e (u0x (dt_w (u2N (u0W (d_fn a0l hr (u0a (dv 6) u0b))) (u1S (u0l (u4e (hu100 hr)) (dv 6) (dv 2))))) (u0e (u0S 2 (dv 6))) u0n)))) u0n)))))
  (u0e (u0i (dv 2)))))),?_⟩
 intro rs m g l;have n20:=g.f.n;obtain⟨p0,ps0,ep⟩:∃p ps,rs=p::ps:=by
  cases rs with
  | nil=>exact absurd g.n (by simp)
  | cons p ps=>exact⟨p,ps,rfl⟩
 have i1:dIx (dR rs) (.int 0)=.ok (rT p0):=by rw[ep];exact u2B (i:=0) rfl
 have i2:dIx (rT p0) (.int 0)=.ok (.str (stS rs)):=by rw[ep];exact ix_0 _ _
 have ob0:OkB (stS rs):=by rw[ep];exact(g.b p0 (by rw[ep];simp)).1
 have res:rrs hdS rs (fr rs) rs.length (r0 rs)=rS rs:=by
  unfold r0 rS;split
  ·rfl
  ·exact v0s _ _ _
 have g0:GdR rs (r0 rs):=by
  unfold r0;split
  ·exact⟨by simp,λx m=>by simp at m;subst m;exact .st⟩
  ·exact⟨by simp,λx m=>nomatch m⟩
 refine run1 rfl ?_;refine asg (Q:=Rets _) (.l []) rfl rfl ?_;refine thq (T:=λo=>o=.nx [some (.val (dR rs)),some (.val (.dct (kv nD m))),sl (r0 rs),none,none,none,none]) ?_ ?_
 ·refine brI (Q:=fun o=>o=_) (Lz rs (stS rs)).isSome (by simp [startD,i1,i2,in_kv,l]) (fun c=>?_) fun c=>?_
  ·refine goq (Q:=fun o=>o=_) (v:=OD.l ([stS rs].map D.str)) (by simp [startD,i1,i2]) ?_
   unfold r0;rw[if_pos c];rfl
  ·unfold r0
   rw[c];rfl
 rintro _ rfl;refine th (Q:=Rets _) rfl ?_;refine thq (T:=rT1' rs (.dct (kv nD m))) ?_ ?_
 ·refine goq (Q:=rT1' rs (.dct (kv nD m))) (v:=intL 0 rs.length) (by simp [sl,gLen,u9k (show rs.length<=1000 by omega),-u0Z,-u0k,-Res.bind_ok,-L2.go_ok,-Out.then_nx,bindN,goN,thenN]) ?_
  refine u2M (rT1 rs (.dct (kv nD m))) (rT1' rs (.dct (kv nD m))) ⟨none,none,none,none,rfl⟩ (λρ h=>⟨ρ,rfl,h⟩) ?_
  rintro k ρ hk ⟨a,b,c,e,rfl⟩;refine⟨_,rfl,?_⟩;have inner:∀o:Out,rQ2 rs (.dct (kv nD m)) (rr hdS rs (fr rs) (rrs hdS rs (fr rs) k (r0 rs))) o->((∃ρ2,o=.nx ρ2/\rT1 rs (.dct (kv nD m)) (k+1) ρ2)\/∃v,o=.rt v/\rT1' rs (.dct (kv nD m)) (.rt v)):=by
   rintro o ⟨a,b,c,e,rfl,_⟩;exact .inl ⟨_,rfl,a,b,c,e,rfl⟩
  refine inner _ ?_;refine goq (Q:=rQ2 _ _ _) (v:=rs.map rT) rfl ?_;refine u0L rT (rT2 rs (.dct (kv nD m))) (λS xs=>xs.foldl (grw hdS (fr rs)) S) (rQ2 rs (.dct (kv nD m))) ?_ ?_ rs _ _ ⟨_,b,c,e,rfl,u6j hdS rs (fr rs) (stS rs) g0 k,λp m=>m⟩
  ·rintro S ρ ⟨a,b,c,e,rfl,gd,_⟩
   exact⟨a,b,c,e,rfl,gd⟩
  ·rintro S p xs ρ ⟨a,b,c,e,rfl,gd,mx⟩
   have mp:=mx p z5;have mx2:∀p∈xs,p∈rs:=λz mz=>mx z (z4 _ mz)
   have hb:=(g.b p mp).2;have et:sz hdS (lk m) p.2=sz hdS (Lz rs) p.2:=by rw[l]
   have ein:dIn (.str p.1) (.lst (S.map D.str))=.ok (.bl (decide (p.1∈S))):=by
    show inD _ _ false=_;rw[u7I (g.b p mp).1.g (u8v g gd)];rfl
   refine⟨_,rfl,?_⟩;refine brI (decide (p.1∈S)&&fr rs p) ?_ (λcc=>?_) λcc=>?_
   ·simp [sl,frz,frzS,getV,OD.toD,ein,a1o p.2 m hb,et]
    unfold fr;by_cases c5:p.1∈S<;>cases sz hdS (Lz rs) p.2<;>simp[oD,dIsNot,isN,c5]
   ·have cc:p.1∈S/\fr rs p=true:=by simpa using cc
    have eg:grw hdS (fr rs) S p=p.2.foldl (adH hdS) S:=if_pos cc;have inn:∀o:Out,(∃e,o=.nx [some (.val (dR rs)),some (.val (.dct (kv nD m))),sl (grw hdS (fr rs) S p),a,some (.val (.str p.1)),some (.val (.tup (p.2.map D.str))),e])->StepOk (rT2 rs (.dct (kv nD m))) (λS xs=>xs.foldl (grw hdS (fr rs)) S) (rQ2 rs (.dct (kv nD m))) S p xs o:=by
     rintro o ⟨e,rfl⟩;exact u0X _ ⟨_,_,_,_,rfl,v4a hdS rs (fr rs) (stS rs) gd mp,mx2⟩ rfl
    refine inn _ ?_;rw[eg];refine goq (Q:=λo=>∃e,o=.nx [some (.val (dR rs)),some (.val (.dct (kv nD m))),sl (p.2.foldl (adH hdS) S),a,some (.val (.str p.1)),some (.val (.tup (p.2.map D.str))),e]) (v:=p.2.map D.str) rfl ?_
    refine u0L D.str (rT3 rs (.dct (kv nD m)) a (some (.val (.str p.1))) (some (.val (.tup (p.2.map D.str))))) (λS bs=>bs.foldl (adH hdS) S) (λS o=>∃e,o=.nx [some (.val (dR rs)),some (.val (.dct (kv nD m))),sl S,a,some (.val (.str p.1)),some (.val (.tup (p.2.map D.str))),e]) ?_ ?_ p.2 S _ ⟨e,rfl,gd,λb mb=>⟨hb b mb,λhh=>.go (gd.r _ cc.1) mp cc.2 mb hh⟩⟩
    ·rintro S ρ ⟨e,rfl,_,_⟩
     exact⟨e,rfl⟩
    ·rintro S b bs ρ ⟨e,rfl,gd2,mb2⟩
     obtain⟨ob,rb⟩:=mb2 b z5;have mb3:=λz mz=>mb2 z (z4 _ mz)
     have nin:dNotIn (.str b) (.lst (S.map D.str))=.ok (.bl (!decide (b∈S))):=u4V ob.g (u8v g gd2);have hl:=u6K hdS rs (fr rs) (stS rs) g.kn (u6d g.n) gd2;refine⟨_,rfl,?_⟩;refine brI (hdS b&&!decide (b∈S)) ?_ (λc2=>?_) λc2=>?_
     ·cases hh:hdS b<;>simp[sl,frz,frzS,getV,OD.toD,a3a b ob,hh,nin]
     ·have c2:hdS b=true/\b∉S:=by simpa using c2
      have ea:adH hdS S b=S++[b]:=if_pos c2;have e5:(S.map D.str).length<sizeLine:=by rw[x6];exact t5 (show S.length<=1000 by omega) (by decide)
      have gd3:GdR rs (S++[b]):=by rw[<- ea];exact v4m hdS rs (fr rs) (stS rs) gd2 rb
      refine(show StepOk _ _ _ S b bs (if (S.map D.str).length<sizeLine then Out.nx [some (.val (dR rs)),some (.val (.dct (kv nD m))),some (.own (.l (S.map D.str++[D.str b]))),a,some (.val (.str p.1)),some (.val (.tup (p.2.map D.str))),some (.val (.str b))] else .bad) from ?_)
      rw[if_pos e5];have es:sl (S++[b])=some (.own (.l (S.map D.str++[D.str b]))):=by unfold sl;rw[v5];rfl
      refine u0X (S++[b]) ⟨some (.val (.str b)),by rw[es],gd3,mb3⟩ (by rw[r6,ea])
     ·have c2:¬ (hdS b=true/\b∉S):=by simpa using c2
      have ea:adH hdS S b=S:=if_neg c2;exact u0X S ⟨_,rfl,gd2,mb3⟩ (by rw[r6,ea])
   ·have cc:¬ (p.1∈S/\fr rs p=true):=by simpa using cc
    have eg:grw hdS (fr rs) S p=S:=if_neg cc;exact u0X S ⟨_,_,_,_,rfl,gd,mx2⟩ (by rw[r6,eg])
 ·rintro _ ⟨ρ,rfl,a,b,c,e,rfl⟩
  rw[res];rfl
def u6v (F:Fun K "_law_great" "_law_great" u1v f fd) (T:Txt P w K mg A):∃G,FnOk P w K mg base CX0 1 f fd ["_law_rules_here","_law_sizes_here","_law_bare"] (spF K G)/\GtG G:=by
 refine⟨_,F.okT (k:=0) u3p (λcdv Ar outer s H E hr=>u0d (ds_n u3p.nd (v4j rfl T.z_sorted T.z_set (u0a (DN.de (u0Y ["_law_rule"] [] rfl (u0t (sc:=defScope u1v) (N:=["_law_rules_here","_law_sizes_here","_law_bare","_law_heads"]) (by decide +kernel)) (u0w (dv 0)) (dg_n (show(["_law_rule"]:List Str).Nodup by decide +kernel)) u2l (d_ix x_ix (dv 0) u0c))) u0b)))
  (u0e (u0i (DN.de (u0Y ["_law_head"] [1,2] rfl (u0t (sc:=defScope u1v) (N:=["_law_rules_here","_law_sizes_here","_law_bare","_law_heads"]) (by decide +kernel)) (u0w (dv 3)) (dg_n (show(["_law_head","_law_sizes_here","_law_bare"]:List Str).Nodup by decide +kernel)) (u5j (u0l o_gt (d_B (c_max rfl) T.z_max (by decide +kernel) (u0a (u8J (hu1 hr) (dv 1) (dv 0) u0c) (u0a (u8J (hu1 hr) (dv 2) (dv 0) u0c) u0b))) u0c)) (dv 0)))))),?_⟩
 intro rs m1 m2 g l1 l2;have n20:=g.f.n;simp[runT,startD];rw[u0r (u0D (by omega)),u1x hd1 (λd hd=>?_)]
 ·simp only [v1f,Res.bind_ok,v2f,one1]
  have lh:(headsL rs).length<=20:=by
   unfold headsL;rw[u1r]
   have:=u7e (ss:=setOfT (hsOf rs)) (pool:=hsOf rs) (u3n _) λz h=>u1n.mp h
   have e:(hsOf rs).length=rs.length:=by unfold hsOf;rw[x6]
   omega
  rw[u8w (ss:=hsOf rs) (by simpa[hsOf] using(show rs.length<64 by omega)),show(sortT (setOfT (hsOf rs)))=headsL rs from rfl]
  simp;rw[u0r (u0D (by omega)),compF D.str (bigH rs) D.str λh mh=>⟨_,rfl,?_,λ_=>rfl⟩]
  ·simp [OD.toD]
   rfl
  ·have es:szH rs h=max ((lk m1 h).getD 0) ((lk m2 h).getD 0):=by unfold szH;rw [l1,l2]
   simp[frz,frzS,rhoC,asDct,v4c,max_n,bigH,es];generalize max ((lk m1 h).getD 0) ((lk m2 h).getD 0)=z;omega
 ·obtain ⟨p,_,rfl⟩:=x5.mp hd
  exact⟨_,rfl,rfl,by simp[rhoC,rT,ix_0,hd1]⟩
end
open Bk
def v1L {ss:List Str} (h:∀b∈ss,goodS b=true):cmpD (D.lst (ss.map D.str))=.ok (.list (ss.map PyData.str)):=by
 have e:(D.lst (ss.map D.str)).py=some (.list (ss.map PyData.str)):=by simp[D.py,u5w]
 have s:SeqAt.shaped (.list (ss.map PyData.str))=true:=by
  have d:=u3L ss;simp[SeqAt.shaped,PyData.canLay0,u3K h,PyData.depth];omega
 unfold cmpD;rw[e];simp[s]
theorem u8d:∀ns:List Nat,D.pys (ns.map dN)=some (ns.map λn:Nat=>PyData.int (n:Int))
 | []=>rfl
 | n::ns=>by simp[D.pys,D.py,u8d ns]
theorem u8l:∀ns:List Nat,PyData.canLayAll0 (ns.map λn:Nat=>PyData.int (n:Int))=true
 | []=>rfl
 | n::ns=>by simp[PyData.canLayAll0,PyData.canLay0,u8l ns]
theorem u8I:∀ns:List Nat,PyData.depthAll (ns.map λn:Nat=>PyData.int (n:Int))<=1
 | []=>by simp[PyData.depthAll]
 | n::ns=>by
  have:=u8I ns
  simp[PyData.depthAll,PyData.depth];omega
theorem u2F:∀ns:List Nat,PyData.eqvAll (ns.map λn:Nat=>PyData.int (n:Int)) (ns.map λn:Nat=>PyData.int (n:Int))=true
 | []=>rfl
 | n::ns=>by
  show(PyData.eqv (.int n) (.int n)&&PyData.eqvAll (ns.map λn:Nat=>PyData.int (n:Int)) (ns.map λn:Nat=>PyData.int (n:Int)))=true
  rw[u2F ns,show PyData.eqv (.int n) (.int n)=((n:Int)==(n:Int)) from rfl]
  simp
def u2P (ns:List Nat):cmpD (.lst (ns.map dN))=.ok (.list (ns.map λn:Nat=>PyData.int (n:Int))):=by
 have e:(D.lst (ns.map dN)).py=some (.list (ns.map λn:Nat=>PyData.int (n:Int))):=by simp[D.py,u8d]
 have s:SeqAt.shaped (.list (ns.map λn:Nat=>PyData.int (n:Int)))=true:=by
  have d:=u8I ns;simp[SeqAt.shaped,PyData.canLay0,u8l,PyData.depth];omega
 unfold cmpD;rw[e];simp[s]
def u8i {x:D}{a:PyData} (h:cmpD x=.ok a) (e:PyData.eqv a a=true):dNe x x=.ok (.bl false):=by
 show(cmpD x).bind _=_;rw[h,Res.bind_ok,Res.bind_ok,e];rfl
def ne_lst {ss:List Str} (h:∀b∈ss,goodS b=true):dNe (.lst (ss.map D.str)) (.lst (ss.map D.str))=.ok (.bl false):=u8i (v1L h) (by
 show PyData.eqvAll (ss.map PyData.str) (ss.map PyData.str)=true;rw[u2E];simp)
def ne_nums (ns:List Nat):dNe (.lst (ns.map dN)) (.lst (ns.map dN))=.ok (.bl false):=u8i (u2P ns) (by
 show PyData.eqvAll _ _=true;exact u2F ns)
def v3S {a b:Str} (ga:goodS a=true) (gb:goodS b=true):dNe (.str a) (.str b)=.ok (.bl (!decide (a=b))):=by
 simp[goodS] at ga gb;show(cmpD (.str a)).bind _=_;rw[u1F ga.1,Res.bind_ok,u1F gb.1,Res.bind_ok,u2D];by_cases c:a=b<;>simp[c]
def v0j {a b:List Str} (na:a.Nodup) (nb:b.Nodup) (h:∀x,x∈a↔x∈b):sortT a=sortT b :=
 u2m ((u0R a).trans (((List.perm_ext_iff_of_nodup na nb).mpr h).trans (u0R b).symm)) (u3I a) (u3I b)
def rS_gd (rs:List RR):GdR rs (rS rs):=by
 unfold rS;split
 ·exact u6j hdS rs (fr rs) (stS rs) ⟨by simp,λx m=>by simp at m;subst m;exact .st⟩ _
 ·exact⟨by simp,λx m=>nomatch m⟩
def pw_nd {rs:List RR}{W:WW} (h:PW rs W):(W.map (·.1)).Nodup:=by
 rcases h with⟨_,rfl⟩|⟨_,b⟩
 ·exact List.nodup_nil
 ·exact b.nd
def wS (a b c d:D) (rs:List RR) (hs:List Str) (ρ:Rho):Prop:=(∀h∈hs,h∈rS rs)/\∃x y z u,ρ=[some (.val a),some (.val b),some (.val c),some (.val d),x,y,z,u]
def wQ (a b c d:D) (o:Out):Prop:=∃x y z u,o=.nx [some (.val a),some (.val b),some (.val c),some (.val d),x,y,z,u]
def yS (a b c d:D) (rs:List RR) (h:Str) (l:List (Nat×Nat)) (ρ:Rho):Prop:=∃x z u,OkB x/\chk rs (fr rs) x l=some h/\ρ=[some (.val a),some (.val b),some (.val c),some (.val d),some (.val (.str h)),some (.val (.str x)),z,u]
def yQ (a b c d:D) (h:Str) (o:Out):Prop:=∃z u,o=.nx [some (.val a),some (.val b),some (.val c),some (.val d),some (.val (.str h)),some (.val (.str h)),z,u]
def WaG (G:FD):Prop:=∀rs m W,Gg rs->lk m=Lz rs->PW rs W->G [dR rs,.dct (kv wyD W),.dct (kv nD m)]=.ok (.bl true)
section
variable {P:Program}{w:World}{K:W.Frag}{mg:MG}{base:Heap}{f:Addr}{fd:FuncData}{A:Adr}
set_option tactic.hygienic true in
def u7u {a0y:FD} (a1h:Callee P w K mg base 3 "_law_reach" ["_law_rules_here","_law_sizes_here"] (spF K a0y)) {a0a:FD} (a0f:Callee P w K mg base 2 "_law_total" ["_law_sizes_here","_law_body"] (spF K a0a)) (a3p:RhG a0y) (a1o:TtG a0a) (F:Fun K "_law_ways" "_law_ways" u2X f fd) (T:Txt P w K mg A):∃G,FnOk P w K mg base CX0 4 f fd ["_law_rules_here","_law_found","_law_sizes_here"] (spF K G)/\WaG G:=by
 refine⟨_,F.okT (k:=3) u0O (λcdv Ar outer s H E hr=>u0d (ds_n u0O.nd (d_fn a1h hr (u0a (dv 0) (u0a (dv 2) u0b))))
  (u0d (u0x (dt_w (u7M (u1V (u0W (d_B u3G T.z_isinstance (by decide +kernel) (u0a (dv 1) (u0a (d_ty T.z_dict (T:="dict") (by decide +kernel)) u0b))))) (u4s (u0l (o_ne (hu64 hr)) (d_B (v1S rfl) T.z_sorted (by decide +kernel) (u0a (dv 1) u0b)) (d_B (v1S rfl) T.z_sorted (by decide +kernel) (u0a (dv 3) u0b)))))) (u0e (u0i d_bl)) u0n)
  (u0d (u0A rfl (u0w (dv 3)) (dg_n u0O.nd)
  (u0d (ds_n u0O.nd (d_ix x_ix (d_ix x_ix (dv 0) u0c) u0c))
   (u0d (u0x (u1V (u0W (d_B u3G T.z_isinstance (by decide +kernel) (u0a (u7Q (hu1 hr) (dv 1) (dv 4)) (u0a (d_ty T.z_list (T:="list") (by decide +kernel)) u0b))))) (u0e (u0i d_bl)) u0n)
   (u0d (u0A rfl (u0w (u7Q (hu1 hr) (dv 1) (dv 4))) (u2O (n:=2) rfl (u0s (dg_n u0O.nd) (u0s (dg_n u0O.nd) u1E)))
   (u0d (u0x (dt_w (u7M (u0l (o_ne (hu64 hr)) (d_ix x_ix (d_ix x_ix (dv 0) (dv 6)) u0c) (dv 5)) (u4s (u0l o_is (d_fn a0f hr (u0a (dv 2) (u0a (d_ix x_ix (d_ix x_ix (dv 0) (dv 6)) u0c) u0b))) u4w)))) (u0e (u0i d_bl)) u0n)
    (u0e (ds_n u0O.nd (d_ix x_ix (d_ix x_ix (d_ix x_ix (dv 0) (dv 6)) u0c) (dv 7))))))
   (u0e (u0x (dt_w (u7M (u0l (o_ne (hu64 hr)) (dv 5) (dv 4)) (u4s (dt_w (u2N (u0l (o_eq (hu64 hr)) (dv 4) (d_ix x_ix (d_ix x_ix (dv 0) u0c) u0c)) (u1S (u0l (o_ne (hu64 hr)) (u7Q (hu1 hr) (dv 1) (dv 4)) (u1f u0b)))))))) (u0e (u0i d_bl)) u0n))))))
  (u0e (u0i d_bl))))),?_⟩
 intro rs m W g l pw;have n20:=g.f.n;obtain⟨p0,ps0,ep⟩:∃p ps,rs=p::ps:=by
  cases rs with
  | nil=>exact absurd g.n (by simp)
  | cons p ps=>exact⟨p,ps,rfl⟩
 have i1:dIx (dR rs) (.int 0)=.ok (rT p0):=by rw[ep];exact u2B (i:=0) rfl
 have i2:dIx (rT p0) (.int 0)=.ok (.str (stS rs)):=by rw[ep];exact ix_0 _ _
 have ob0:OkB (stS rs):=by rw[ep];exact(g.b p0 (by rw[ep];simp)).1
 have gR:=rS_gd rs;have okS:=u8v g gR;have es:sortT (W.map (·.1))=sortT (rS rs):=v0j (pw_nd pw) gR.nd (u6o g pw)
 have hl:=u6K hdS rs (fr rs) (stS rs) g.kn (u6d g.n) gR;have hz:∀z∈rS rs,z.length<=sizeLine:=λz mz=>by
  have:=okS z mz
  simp[goodS] at this;exact u0D this.2
 have hw:(W.map (·.1)).length<64:=by
  have:(sortT (W.map (·.1))).length=(sortT (rS rs)).length:=by rw[es]
  rw[u1r,u1r] at this;omega
 have e1:gSA [.dct (kv wyD W)]=.ok (.lst ((sortT (rS rs)).map D.str)):=by
  show(match keyStrs (kv wyD W) with|some ss=>gd (ss.length<64/\∀z∈ss,z.length<=sizeLine) (Res.ok (D.lst ((sortT ss).map D.str)))|none=>.bad)=_
  rw[u3g (v0Q wyD W)];simp only;rw[u0r ⟨hw,λz mz=>hz z ((u6o g pw z).mp mz)⟩,es]
 have e2:gSA [.lst ((rS rs).map D.str)]=.ok (.lst ((sortT (rS rs)).map D.str)):=by
  show(match strsOf ((rS rs).map D.str) with|some ss=>gd (ss.length<64) (Res.ok (D.lst ((sortT ss).map D.str)))|none=>.bad)=_
  rw[u2T];exact u0r (by omega)
 have e3:dNe (.lst ((sortT (rS rs)).map D.str)) (.lst ((sortT (rS rs)).map D.str))=.ok (.bl false):=ne_lst λb mb=>okS b (u1q.mp mb)
 have i3:gIsA [.dct (kv wyD W),.ty "dict"]=.ok (.bl true):=rfl;refine run1 rfl ?_;refine asg (Q:=Rets _) (.lst ((rS rs).map D.str)) (by simp[startD,a3p rs m g l]) rfl ?_
 refine brT (Q:=Rets _) false (by simp[startD,i3,e1,e2,e3]) (λc=>by cases c) λ_=>?_
 refine th (Q:=Rets _) rfl ?_;refine thq (T:=wQ (dR rs) (.dct (kv wyD W)) (.dct (kv nD m)) (.lst ((rS rs).map D.str))) ?_ ?_
 ·refine goq (Q:=wQ _ _ _ _) (v:=(rS rs).map D.str) rfl ?_
  refine u1R D.str (wS (dR rs) (.dct (kv wyD W)) (.dct (kv nD m)) (.lst ((rS rs).map D.str)) rs) (wQ _ _ _ _) (λρ h=>h.2.elim λx h=>h.elim λy h=>h.elim λz h=>h.elim λu h=>⟨x,y,z,u,by rw[h]⟩) ?_ (rS rs) _ ⟨λh mh=>mh,_,_,_,_,rfl⟩
  rintro h hs ρ ⟨mh,x,y,z,u,rfl⟩;have mh1:=mh h z5;have obh:OkB h:=by
   obtain⟨p,mp,rfl⟩:=x5.mp (u8c hdS rs (fr rs) (stS rs) g.kn (u6d g.n) (gR.r h mh1));exact(g.b p mp).1
  have hbi:BIr rs (λ_=>False) W []:=by
   rcases pw with⟨e,rfl⟩|⟨_,b⟩
   ·have:=(u6o g (.inl ⟨e,rfl⟩) h).mpr mh1
    exact nomatch this
   ·exact b
  obtain⟨lw,el⟩:=u4Z ((u6o g pw h).mpr mh1);have ck:=(hbi.way _ _ (u4Y el)).1;have i4:gIsA [wyD lw,.ty "list"]=.ok (.bl true):=rfl;refine⟨_,rfl,?_⟩;refine asg (Q:=StO _ _ _) (D.str (stS rs)) (by simp[i1,i2]) rfl ?_
  refine brT (Q:=StO _ _ _) false (by simp[u9M el,i4]) (λc=>by cases c) λ_=>?_
  refine th (Q:=StO _ _ _) rfl ?_;refine thq (T:=yQ (dR rs) (.dct (kv wyD W)) (.dct (kv nD m)) (.lst ((rS rs).map D.str)) h) ?_ ?_
  ·refine goq (Q:=yQ _ _ _ _ _) (v:=lw.map fun q=>D.tup [dN q.1,dN q.2]) (by simp [u9M el];rfl) ?_
   refine u1R (λq:Nat×Nat=>D.tup [dN q.1,dN q.2]) (yS (dR rs) (.dct (kv wyD W)) (.dct (kv nD m)) (.lst ((rS rs).map D.str)) rs h) (yQ _ _ _ _ _) ?_ ?_ lw _ ⟨stS rs,_,_,ob0,ck,rfl⟩
   ·rintro ρ ⟨x,z,u,_,c,rfl⟩
    cases c;exact⟨z,u,rfl⟩
   ·rintro q qs ρ ⟨x,z,u,ox,c,rfl⟩
    obtain⟨n,k⟩:=q;rw[chk] at c;cases e5:rs[n]? with
    | none=>rw[e5] at c;cases c
    | some p =>
     rw[e5] at c;simp only at c;split at c
     ·rename_i c1
      cases e6:p.2[k]? with
      | none=>rw[e6] at c;cases c
      | some b =>
       rw[e6] at c;have mp:p∈rs:=List.mem_of_getElem? e5;have ob:=(g.b p mp).2 b (List.mem_of_getElem? e6);have j1:dIx (dR rs) (dN n)=.ok (rT p):=u2B (by rw[y4,e5];rfl)
       have j2:dIx (rT p) (.int 0)=.ok (.str p.1):=ix_0 _ _;have j3:dIx (rT p) (.int 1)=.ok (.tup (p.2.map D.str)):=ix_1 _ _ _;have j4:dIx (.tup (p.2.map D.str)) (dN k)=.ok (.str b):=v0W (by rw[y4,e6];rfl)
       have j5:dNe (.str p.1) (.str x)=.ok (.bl false):=by rw[v3S (g.b p mp).1.g ox.g,c1.1];simp
       obtain⟨t,et⟩:=Option.isSome_iff_exists.mp (show(sz hdS (Lz rs) p.2).isSome=true from c1.2)
       have j6:=a1o p.2 m (g.b p mp).2;rw[l,et] at j6;refine⟨_,rfl,?_⟩;refine brT (Q:=StO _ _ _) false (by simp[j1,j2,j3,j5,j6,oD,dIs,isN]) (λc=>by cases c) λ_=>?_
       refine th (Q:=StO _ _ _) rfl ?_;refine goq (Q:=StO _ _ _) (v:=D.str b) (by simp[j1,j3,j4]) ?_
       exact .inl ⟨_,rfl,b,_,_,ob,c,rfl⟩
     ·cases c
  ·rintro o ⟨z,u,rfl⟩
   refine th (Q:=StO _ _ _) rfl ?_;have k1:dNe (.str h) (.str h)=.ok (.bl false):=by rw[v3S obh.g obh.g];simp
   refine brI (Q:=StO _ _ _) false ?_ (λc=>by cases c) λ_=>.inl ⟨_,rfl,λz mz=>mh z (z4 _ mz),_,_,_,_,rfl⟩
   by_cases c:h=stS rs
   ·have e9:lw=[]:=by
     have:=hbi.s
     rw[<- c,el] at this;cases this;rfl
    subst e9;have k3:dNe (wyD []) (.lst [])=.ok (.bl false):=rfl;subst c;simp[k1,i1,i2,v1v ob0.g ob0.g,u9M el,k3]
   ·simp[k1,i1,i2,v1v obh.g ob0.g,c]
 ·rintro o ⟨x,y,z,u,rfl⟩
  rfl
end
abbrev scr (ns:List Int):D:=.lst (ns.map D.int)
abbrev Row (G:FD):Prop:=∀(ns:List Int) (i b n:Nat),i<=100->0<b->b<1000000->n<=80->∃rs:List Nat,G [scr ns,dN i,dN b,dN n]=.ok (.lst (rs.map dN))/\rs.length=n/\∀x∈rs,x<b
inductive Srow (ns:List Int) (i b n:Nat) (c:Int) (k:Nat) (ρ:Rho):Prop
 | mk (l:Int) (rs:List Nat) (y:Option Sl) (q0:ρ=[some (.val (scr ns)),some (.val (dN i)),some (.val (dN b)),some (.val (dN n)),some (.val (.int c)),some (.val (.int l)),some (.own (.l (rs.map dN))),y]) (q1:rs.length=k) (q2:∀x∈rs,x<b)
inductive Qrow (b n:Nat) (o:Out):Prop
 | mk (ρ:Rho) (rs:List Nat) (q0:o=.nx ρ) (q1:getV (frz ρ) 6=.ok (.lst (rs.map dN))) (q2:rs.length=n) (q3:∀x∈rs,x<b)
def eqI (i j:Int):dEq (.int i) (.int j)=.ok (.bl (i==j)):=rfl
section
variable {P:Program}{w:World}{K:W.Frag}{mg:MG}{base:Heap}{f:Addr}{fd:FuncData}{A:Adr}
def u7w (F:Fun K "_law_stir" "_law_stir" u2Z f fd) (T:Txt P w K mg A):∃G,FnOk P w K mg base CX0 1 f fd ["_law_cell_here","_law_k"] (spF K G)/\∀(c:Int) (k:Nat),k<=100->∃n:Int,G [.int c,dN k]=.ok (.int n):=by
 refine⟨_,F.okT (k:=0) u2n (λcdv Ar outer s H E hr=>u0d (ds_n u2n.nd (d_op u1A (d_op u1g (d_op u1g (d_op u2K (d_op u1A (dv 0) u0c) u0c) (d_op u2K u0c (dv 1))) u0c) u0c))
  (u0d (ds_n u2n.nd (d_op u1A (d_op u2K (dv 2) (dv 2)) u0c))
  (u0e (u0i (d_op u1A (d_op u1g (d_op u1g (d_op u2K (dv 2) (dv 2)) (d_op u2K u0c (dv 2))) u0c) u0c))))),?_⟩
 intro c k hk;refine bc λhZ=>?_
 obtain⟨m,e,hm⟩:=modZ c (b:=2147483647) (by omega)
 obtain⟨m2,e2,hm2⟩:=modZ ((m:Int)*48271+69621*(k:Int)+7) (b:=2147483647) (by omega)
 obtain⟨m3,e3,hm3⟩:=modZ ((m2:Int)*m2) (b:=2147483629) (by omega)
 refine hZ ?_;have c1:CMul (m:Int) 48271:=.inr ⟨by omega,by omega⟩
 have c2:CMul 69621 (k:Int):=.inl ⟨by omega,by omega⟩
 have c3:CMul (m2:Int) m2:=.inr ⟨by omega,by omega⟩
 have c4:CMul (m3:Int) m3:=.inr ⟨by omega,by omega⟩
 have c5:CMul 16807 (m3:Int):=.inl ⟨by omega,by omega⟩
 refine⟨((m3:Int)*m3+16807*m3+11)%2147483587,?_⟩;have r1:dMod (.int c) (.int 2147483647)=.ok (.int m):=by rw[u0M (by omega),e]
 have r2:dMod (.int ((m:Int)*48271+69621*(k:Int)+7)) (.int 2147483647)=.ok (.int m2):=by rw[u0M (by omega),e2]
 have r3:dMod (.int ((m2:Int)*m2)) (.int 2147483629)=.ok (.int m3):=by rw[u0M (by omega),e3]
 have r4:dMod (.int ((m3:Int)*m3+16807*m3+11)) (.int 2147483587)=.ok (.int (((m3:Int)*m3+16807*m3+11)%2147483587)):=u0M (by omega)
 have s1:dMulX (.int m) (.int 48271)=.ok (.int (m*48271)):=by rw[u0k,u0r c1]
 have s2:dMulX (.int 69621) (.int k)=.ok (.int (69621*k)):=by rw[u0k,u0r c2]
 have s3:dMulX (.int m2) (.int m2)=.ok (.int (m2*m2)):=by rw[u0k,u0r c3]
 have s4:dMulX (.int m3) (.int m3)=.ok (.int (m3*m3)):=by rw[u0k,u0r c4]
 have s5:dMulX (.int 16807) (.int m3)=.ok (.int (16807*m3)):=by rw[u0k,u0r c5]
 simp[runT,startD,r1,r2,r3,r4,s1,s2,s3,s4,s5,-u0Z,-u0k,-Res.bind_ok,-L2.go_ok,-Out.then_nx,bindN,goN,thenN]
def u7x {a0t:FD} (a1p:Callee P w K mg base 1 "_law_stir" ["_law_cell_here","_law_k"] (spF K a0t)) (a3u:∀(c:Int) (k:Nat),k<=100->∃n:Int,a0t [.int c,dN k]=.ok (.int n)) (F:Fun K "_law_cell" "_law_cell" u3a f fd) (T:Txt P w K mg A):∃G,FnOk P w K mg base CX0 2 f fd ["_law_script","_law_k"] (spF K G)/\∀(ns:List Int) (k:Nat),k<=100->∃c:Int,G [scr ns,dN k]=.ok (.int c):=by
 refine⟨_,F.okT (k:=1) u7m (λcdv Ar outer s H E hr=>u0d (u0x (u0l o_lt (dv 1) (d_B u1z T.z_len (by decide +kernel) (u0a (dv 0) u0b))) (u0e (u0i (d_ix x_ix (dv 0) (dv 1)))) u0n)
  (u0d (u0x (u0l (o_eq (hu64 hr)) (d_B u1z T.z_len (by decide +kernel) (u0a (dv 0) u0b)) u0c) (u0e (u0i (d_op u1g (d_op u2K u0c (dv 1)) u0c))) u0n)
  (u0e (u0i (d_fn a1p hr (u0a (d_ix x_ix (dv 0) (d_op u1A (d_op u2K (dv 1) u0c) (d_B u1z T.z_len (by decide +kernel) (u0a (dv 0) u0b)))) (u0a (dv 1) u0b))))))),?_⟩
 intro ns k hk;by_cases h:k<ns.length
 ·have h':(k:Int)<ns.length:=by omega
  exact⟨ns[k],by simp[runT,startD,h,h',ix_m h]⟩
 ·have h':¬ (k:Int)<ns.length:=by omega
  by_cases h0:ns.length=0
  ·have h1:((ns.length:Nat):Int)=0:=by omega
   have mul1:dMulX (.int 48271) (.int (k:Int))=.ok (.int (48271*(k:Int))):=by rw[u0k,u0r (show CMul 48271 (k:Int) from .inl ⟨by omega,by omega⟩)]
   have e1:dEq (.int (ns.length:Int)) (.int 0)=.ok (.bl true):=by rw[eqI];simp[h1]
   refine⟨48271*(k:Int)+7,?_⟩;simp[runT,startD,h,h',gLen,e1,mul1,dAdd,-u0Z,-u0k,-Res.bind_ok,-L2.go_ok,-Out.then_nx,bindN,goN,thenN]
  ·obtain ⟨i,ei,hi⟩:=modN (k*7) ns.length (by omega)
   have e1:dEq (.int (ns.length:Int)) (.int 0)=.ok (.bl false):=by
    rw[eqI]
    have:¬ ((ns.length:Nat):Int)=0:=by omega
    simp[h0]
   have mul1:dMulX (.int (k:Int)) (.int 7)=.ok (.int ((k:Int)*7)):=by rw[u0k,u0r (show CMul (k:Int) 7 from .inl ⟨by omega,by omega⟩)]
   have m1:dMod (.int ((k:Int)*7)) (.int (ns.length:Int))=.ok (.int (i:Int)):=by rw[u0M (by omega),<- ei];simp
   obtain⟨n,en⟩:=a3u ns[i] k hk;exact⟨n,by simp[runT,startD,h,h',gLen,e1,mul1,m1,ix_m hi,en,-u0Z,-u0k,-Res.bind_ok,-L2.go_ok,-Out.then_nx,bindN,goN,thenN]⟩
def u9s {a2x:FD} (a3t:Callee P w K mg base 2 "_law_cell" ["_law_script","_law_k"] (spF K a2x)) {a0t:FD} (a1p:Callee P w K mg base 1 "_law_stir" ["_law_cell_here","_law_k"] (spF K a0t)) (a4x:∀(ns:List Int) (k:Nat),k<=100->∃c:Int,a2x [scr ns,dN k]=.ok (.int c)) (a3u:∀(c:Int) (k:Nat),k<=100->∃n:Int,a0t [.int c,dN k]=.ok (.int n)) (a3u:∀(c:Int) (k:Nat),k<=100->∃n:Int,a0t [.int c,dN k]=.ok (.int n)) (F:Fun K "_law_row" "_law_row" u3T f fd) (T:Txt P w K mg A):∃G,FnOk P w K mg base CX0 3 f fd ["_law_script","_law_at","_law_base","_law_count"] (spF K G)/\Row G:=by
 refine⟨_,F.okT (k:=2) u1o (λcdv Ar outer s H E hr=>u0d (ds_n u1o.nd (d_fn a3t hr (u0a (dv 0) (u0a (dv 1) u0b))))
  (u0d (ds_n u1o.nd (d_op o_sub (dv 4) (d_op o_pow u0c u0c)))
  (u0d (u1B u1o.nd (u3u u0b))
  (u0d (u0A rfl (u1e T.z_range (u0a (dv 3) u0b)) (dg_n u1o.nd)
  (u0e (u0x (u0l o_ge (dv 4) (d_op o_pow u0c u0c)) (u0d (u0S 6 (d_op u1A (dv 5) (dv 2)))
    (u0e (ds_n u1o.nd (d_op u9G (dv 5) (dv 2))))) (u0e (u0S 6 (d_op u1A (d_op u9G (d_fn a1p hr (u0a (dv 4) (u0a (dv 7) u0b))) u0c) (dv 2)))))))
  (u0e (u0i (dv 6))))))),?_⟩
 intro ns i b n hi hb hb2 hn;obtain⟨c,ec⟩:=a4x ns i hi;have cp:CPow 10 18:=by decide
 have hn':(-(2^62:Int))<=(n:Int)/\(n:Int)<2^62:=by omega
 have r0:dPow (.int 10) (.int 18)=.ok (.int 1000000000000000000):=by
  show gd _ _=_;rw[u0r cp];rfl
 simp[runT,startD,ec,r0,u9k (show n<=1000 by omega),-u0Z,-u0k,-Res.bind_ok,-L2.go_ok,-Out.then_nx,bindN,goN,thenN]
 generalize hI:forD _ _ _ _=o;have q:Qrow b n o:=by
  rw[<- hI];refine u2M (Srow ns i b n c) (Qrow b n) ⟨_,[],none,rfl,rfl,λx h=>(nomatch h)⟩ ?_ ?_
  ·rintro ρ ⟨l,rs,y,rfl,h1,h2⟩
   exact⟨_,rs,rfl,rfl,h1,h2⟩
  ·rintro k ρ hk ⟨l,rs,y,rfl,h1,h2⟩
   refine⟨_,rfl,.inl ?_⟩;have hb':(0:Int)<b:=by omega
   have hs:rs.length<sizeLine:=y3 (show rs.length<1000 by omega) (by decide)
   have cd:CDivB l b:=by unfold CDivB;omega
   by_cases hc':(1000000000000000000:Int)<=c
   ·obtain ⟨m,e,hm⟩:=modI l (b:=b) hb
    skip
    have r1:dMod (.int l) (.int b)=.ok (.int m):=by rw[u0M hb',e]
    have r2:dDiv (.int l) (.int b)=.ok (.int (l / b)):=by rw[u5i hb' (by omega)]
    refine⟨_,by simp[hc',r0,r1,r2,hs,-u0Z,-u0k,-Res.bind_ok,-L2.go_ok,-Out.then_nx,bindN,goN,thenN];rfl,l / b,rs++[m],some (.val (dN k)),by simp,by simp[h1],λx hx=>?_⟩
    rcases v1.mp hx with h|h
    ·exact h2 x h
    ·rw[w9.mp h];exact hm
   ·obtain ⟨t,et⟩:=a3u c k (by omega)
    obtain⟨m,e,hm⟩:=modI (t / 8) (b:=b) hb;have cd8:CDivB t 8:=by unfold CDivB;omega
    skip
    have r1:dMod (.int (t / 8)) (.int b)=.ok (.int m):=by rw[u0M hb',e]
    have r2:dDiv (.int t) (.int 8)=.ok (.int (t / 8)):=by rw[u5i (by omega) (by omega)]
    refine⟨_,by simp[hc',r0,r1,r2,hs,et,-u0Z,-u0k,-Res.bind_ok,-L2.go_ok,-Out.then_nx,bindN,goN,thenN];rfl,l,rs++[m],some (.val (dN k)),by simp,by simp[h1],λx hx=>?_⟩
    rcases v1.mp hx with h|h
    ·exact h2 x h
    ·rw[w9.mp h];exact hm
 obtain⟨ρ,rs,rfl,g,h1,h2⟩:=q;exact⟨rs,by simp[g],h1,h2⟩
end
open Bk
noncomputable def SIG:List Str:=["a","b","+","*","(",")","c","id","=","<=","if","0","[]","else",",","abc123","z","!"]
noncomputable def POOL:List Str:=SIG
noncomputable def TAIL:List Str:=["","a","x1","list0","9","abcd0"]
noncomputable def letC (i:Nat):Str:=⟨#[greatT.cps.getD i 0]⟩
noncomputable def tailJ (j:Nat):Str:=TAIL.getD j ""
noncomputable def okH (z:Str):Bool:=hdS z&&(goodS z&&!sgnS z)
noncomputable def okG (z:Str):Bool:=sgnS z&&(goodS z&&POOL.contains z)
def sig_ok:∀z∈SIG,okG z=true:=by decide +kernel
def v3j:∀i,i<26->∀j,j<6->okH (letC i++tailJ j)=true:=by decide +kernel
def v0Y {i:Nat} (h:i<26):dIx (.str greatT) (.int (i:Int))=.ok (.str (letC i)):=by
 have e:atI greatT.cps.toList (i:Int)=some (greatT.cps.getD i 0):=u5U (by
  have h':i<greatT.cps.size:=h;rw[t7,z1D h',Array.getD_eq_getD_getElem?,z1D h']
  rfl)
 show(match atI greatT.cps.toList (i:Int) with|some c=>Res.ok (D.str ⟨#[c]⟩)|none=>.bad)=_
 rw[e];rfl
def v2V (i:Nat):(letC i).length=1:=rfl
def gdL {α:Type}{ds:List D}{r:Res α} (h:ds.length<=1000):gd (ds.length<=sizeLine) r=r:=u0r (u0D h)
def gdI {α:Type}{n:Nat}{r:Res α} (h:n<=1000):gd ((intL 0 n).length<=sizeLine) r=r:=gdL (by rw[u8r];exact h)
def add_ss {x y:Str} (h:x.length+y.length<=1000):dAdd (.str x) (.str y)=.ok (.str (x++y)):=u0r (y7 h (by decide))
def v4l {x y:List D} (h:x.length+y.length<=1000):dAdd (.lst x) (.lst y)=.ok (.lst (x++y)):=u0r (y7 h (by decide))
abbrev dS (zs:List Str):D:=.lst (zs.map D.str)
def HH (z:Str):Prop:=∃i,i<26/\∃j,j<6/\z=letC i++tailJ j
def HH.ok {z:Str} (h:HH z):okH z=true:=by
 obtain⟨i,hi,j,hj,rfl⟩:=h;exact v3j i hi j hj
def fst_let:∀i,i<26->∀j,j<6->fstC (letC i++tailJ j)=letC i:=by decide +kernel
def let_inj:∀i,i<26->∀j,j<26->letC i=letC j->i=j:=by decide +kernel
noncomputable def sgI (i:Nat):Str:=SIG.getD i ""
def sgI_inj:∀i,i<18->∀j,j<18->sgI i=sgI j->i=j:=by decide +kernel
structure HDS (hs:List Str):Prop where
 hh:∀z∈hs,HH z
 nd:hs.Nodup
 fl:∀a∈hs,∀b∈hs,fstC a=fstC b->a=b
def u3r {n:Nat}{f:Nat->Str} (h:∀i,i<n->∀j,j<n->f i=f j->i=j):((List.range n).map f).Nodup:=by
 unfold List.Nodup;rw[List.pairwise_map];exact(List.nodup_range (n:=n)).imp_of_mem λ{a b} ha hb hab e=>hab (h a (z1B.mp ha) b (z1B.mp hb) e)
noncomputable def onI (f:Nat->Str):D->D
 | .int k=>.str (f k.toNat)
 | _=>.non
def v3f (f:Nat->Str) (n:Nat):(intL 0 n).map (onI f)=((List.range n).map f).map D.str:=by
 simp[intL,onI,Function.comp_def]
abbrev SH:=Nat×List Nat
noncomputable def shD (p:SH):D:=.tup [dN p.1,.tup (p.2.map dN)]
def u1Q {α:Type}{l:List α}{i:Nat}{d:α} (h:i<l.length):l.getD i d=l[i]:=by rw[List.getD_eq_getElem?_getD,w6 h];rfl
abbrev Names (G:FD):Prop:=∀(ns:List Int) (i:Nat),i<=100->∃d,G [scr ns,dN i]=.ok d/\∃hs ss:List Str,d=.lst [dS hs,dS ss]/\hs.length=4/\HDS hs/\ss.length=5/\(∀z∈ss,okG z=true)/\ss.Nodup
noncomputable def SHAPES:List (List SH):=[[(0,[0,13,1]),(0,[1]),(1,[1,14,2]),(1,[2]),(2,[11,0,12]),(2,[10])],[(0,[10,0,11]),(0,[])],[(0,[0,1]),(0,[]),(1,[10,11]),(1,[12,0,13])],[(0,[10,1,13]),(0,[11,2,13]),(0,[10,2,14]),(0,[11,1,14]),(1,[12]),(2,[12])],[(0,[1,2,11]),(1,[10]),(1,[]),(2,[1,1]),(2,[11,2])],[(0,[1,10,1]),(1,[11,1]),(1,[12])],[(0,[10,1]),(1,[0,11]),(1,[])],[(0,[1,2]),(0,[11]),(1,[1,10]),(2,[12,2,13]),(2,[])],[(0,[1,1,1,1]),(1,[2,2,2,2]),(2,[10,11,10,12])],[(0,[1,1,1,1]),(0,[10]),(1,[2,2,2,2]),(1,[11]),(2,[3,3,3,3]),(3,[]),(3,[12])],[(0,[1,1,1,1]),(1,[2,2,2,2]),(2,[3,3,3,3]),(3,[10,11,12,10])],[(0,[1,1,1,1]),(1,[2,2,2]),(2,[10,11])],[(0,[1,1,1,3]),(1,[2,2,2]),(2,[10,11]),(3,[2,2,10,11])]]
def u6f:∀sh∈SHAPES,1<=sh.length/\sh.length<=7/\sh.Nodup/\∀p∈sh,(p.1<4/\p.2.length<=4/\∀x∈p.2,x<4\/(10<=x/\x<15))/\∀x∈p.2,x<4->∃q∈sh,q.1=x:=by decide +kernel
abbrev Shape (G:FD):Prop:=∀c:Nat,∃sh∈SHAPES,G [dN c]=.ok (.lst (sh.map shD))
noncomputable def sy (hs ss:List Str) (x:Nat):Str:=if 10<=x then ss.getD (x - 10) "" else hs.getD x ""
abbrev Symb (G:FD):Prop:=∀(x:Nat) (hs ss:List Str),hs.length=4->ss.length=5->(x<4\/(10<=x/\x<15))->G [dN x,dS hs,dS ss]=.ok (.str (sy hs ss x))
noncomputable def li (a d k:Nat):Nat:=(d+a*k)%26
noncomputable def tj (b d k:Nat):Nat:=(d / 26+b*k)%6
noncomputable def hf (a b d k:Nat):Str:=letC (li a d k)++tailJ (tj b d k)
noncomputable def nmR (ns:List Int) (i d0 d1 d2:Nat):List (Option Sl):=[some (.val (scr ns)),some (.val (dN i)),some (.val (.str greatT)),some (.val (dS SIG)),some (.val (.lst [dN d0,dN d1,dN d2])),some (.val (dS TAIL))]
inductive Snm (r:List (Option Sl)) (a b d:Nat) (k:Nat) (ρ:Rho):Prop
 | mk (x y:Option Sl) (e:ρ=r++[some (.own (.l (((List.range k).map (hf a b d)).map D.str))),x,y])
inductive Qnm (r:List (Option Sl)) (a b d:Nat) (o:Out):Prop
 | mk (x y:Option Sl) (e:o=.nx (r++[some (.own (.l (((List.range 4).map (hf a b d)).map D.str))),x,y]))
def three {α:Type}{rs:List α} (h:rs.length=3):∃a b c,rs=[a,b,c]:=by
 match rs,h with
 | [a,b,c],_=>exact⟨a,b,c,rfl⟩
def hds_hf {a:Nat} (ha:a=7\/a=25) (b d:Nat):HDS ((List.range 4).map (hf a b d)):=by
 have l26:∀k,li a d k<26:=λk=>Nat.mod_lt _ (by omega)
 have t6:∀k,tj b d k<6:=λk=>Nat.mod_lt _ (by omega)
 have fs:∀k,fstC (hf a b d k)=letC (li a d k):=λk=>fst_let _ (l26 k) _ (t6 k)
 have inj:∀x,x<4->∀y,y<4->fstC (hf a b d x)=fstC (hf a b d y)->x=y:=λx hx y hy e=>by
  rw[fs,fs] at e
  have:=let_inj _ (l26 x) _ (l26 y) e
  unfold li at this;rcases ha with rfl|rfl<;>omega
 refine⟨λz hz=>?_,u3r λx hx y hy e=>inj x hx y hy (by rw[e]),λz hz z' hz' e=>?_⟩
 ·obtain ⟨k,_,rfl⟩:=x5.mp hz
  exact⟨_,l26 k,_,t6 k,rfl⟩
 ·obtain ⟨x,hx,rfl⟩:=x5.mp hz
  obtain⟨y,hy,rfl⟩:=x5.mp hz';rw[inj x (z1B.mp hx) y (z1B.mp hy) e]
section
variable {P:Program}{w:World}{K:W.Frag}{mg:MG}{base:Heap}{f:Addr}{fd:FuncData}{A:Adr}
def u6r (F:Fun K "_law_shape" "_law_shape" u2r f fd) (T:Txt P w K mg A):∃G,FnOk P w K mg base CX0 1 f fd ["_law_number"] (spF K G)/\Shape G:=by
 refine⟨_,F.okT (k:=0) u3o (λcdv Ar outer s H E hr=>u0d (u1B u3o.nd (u3u (u0a (u1f (u0a (u0f (u0a u0c (u0a (u0f (u0a u0c (u0a u0c (u0a u0c u0b)))) u0b))) (u0a (u0f (u0a u0c (u0a (u0f (u0a u0c u0b)) u0b))) (u0a (u0f (u0a u0c (u0a (u0f (u0a u0c (u0a u0c (u0a u0c u0b)))) u0b))) (u0a (u0f (u0a u0c (u0a (u0f (u0a u0c u0b)) u0b))) (u0a (u0f (u0a u0c (u0a (u0f (u0a u0c (u0a u0c (u0a u0c u0b)))) u0b))) (u0a (u0f (u0a u0c (u0a (u0f (u0a u0c u0b)) u0b))) u0b))))))) u0b)))
  (u0d (u0S 1 (u1f (u0a (u0f (u0a u0c (u0a (u0f (u0a u0c (u0a u0c (u0a u0c u0b)))) u0b))) (u0a (u0f (u0a u0c (u0a (u0f u0b) u0b))) u0b))))
  (u0d (u0S 1 (u1f (u0a (u0f (u0a u0c (u0a (u0f (u0a u0c (u0a u0c u0b))) u0b))) (u0a (u0f (u0a u0c (u0a (u0f u0b) u0b))) (u0a (u0f (u0a u0c (u0a (u0f (u0a u0c (u0a u0c u0b))) u0b))) (u0a (u0f (u0a u0c (u0a (u0f (u0a u0c (u0a u0c (u0a u0c u0b)))) u0b))) u0b))))))
  (u0d (u0S 1 (u1f (u0a (u0f (u0a u0c (u0a (u0f (u0a u0c (u0a u0c (u0a u0c u0b)))) u0b))) (u0a (u0f (u0a u0c (u0a (u0f (u0a u0c (u0a u0c (u0a u0c u0b)))) u0b))) (u0a (u0f (u0a u0c (u0a (u0f (u0a u0c (u0a u0c (u0a u0c u0b)))) u0b))) (u0a (u0f (u0a u0c (u0a (u0f (u0a u0c (u0a u0c (u0a u0c u0b)))) u0b))) (u0a (u0f (u0a u0c (u0a (u0f (u0a u0c u0b)) u0b))) (u0a (u0f (u0a u0c (u0a (u0f (u0a u0c u0b)) u0b))) u0b))))))))
  (u0d (u0S 1 (u1f (u0a (u0f (u0a u0c (u0a (u0f (u0a u0c (u0a u0c (u0a u0c u0b)))) u0b))) (u0a (u0f (u0a u0c (u0a (u0f (u0a u0c u0b)) u0b))) (u0a (u0f (u0a u0c (u0a (u0f u0b) u0b))) (u0a (u0f (u0a u0c (u0a (u0f (u0a u0c (u0a u0c u0b))) u0b))) (u0a (u0f (u0a u0c (u0a (u0f (u0a u0c (u0a u0c u0b))) u0b))) u0b)))))))
  (u0d (u0S 1 (u1f (u0a (u0f (u0a u0c (u0a (u0f (u0a u0c (u0a u0c (u0a u0c u0b)))) u0b))) (u0a (u0f (u0a u0c (u0a (u0f (u0a u0c (u0a u0c u0b))) u0b))) (u0a (u0f (u0a u0c (u0a (u0f (u0a u0c u0b)) u0b))) u0b)))))
  (u0d (u0S 1 (u1f (u0a (u0f (u0a u0c (u0a (u0f (u0a u0c (u0a u0c u0b))) u0b))) (u0a (u0f (u0a u0c (u0a (u0f (u0a u0c (u0a u0c u0b))) u0b))) (u0a (u0f (u0a u0c (u0a (u0f u0b) u0b))) u0b)))))
  (u0d (u0S 1 (u1f (u0a (u0f (u0a u0c (u0a (u0f (u0a u0c (u0a u0c u0b))) u0b))) (u0a (u0f (u0a u0c (u0a (u0f (u0a u0c u0b)) u0b))) (u0a (u0f (u0a u0c (u0a (u0f (u0a u0c (u0a u0c u0b))) u0b))) (u0a (u0f (u0a u0c (u0a (u0f (u0a u0c (u0a u0c (u0a u0c u0b)))) u0b))) (u0a (u0f (u0a u0c (u0a (u0f u0b) u0b))) u0b)))))))
  (u0d (u0S 1 (u1f (u0a (u0f (u0a u0c (u0a (u0f (u0a u0c (u0a u0c (u0a u0c (u0a u0c u0b))))) u0b))) (u0a (u0f (u0a u0c (u0a (u0f (u0a u0c (u0a u0c (u0a u0c (u0a u0c u0b))))) u0b))) (u0a (u0f (u0a u0c (u0a (u0f (u0a u0c (u0a u0c (u0a u0c (u0a u0c u0b))))) u0b))) u0b)))))
  (u0d (u0S 1 (u1f (u0a (u0f (u0a u0c (u0a (u0f (u0a u0c (u0a u0c (u0a u0c (u0a u0c u0b))))) u0b))) (u0a (u0f (u0a u0c (u0a (u0f (u0a u0c u0b)) u0b))) (u0a (u0f (u0a u0c (u0a (u0f (u0a u0c (u0a u0c (u0a u0c (u0a u0c u0b))))) u0b))) (u0a (u0f (u0a u0c (u0a (u0f (u0a u0c u0b)) u0b))) (u0a (u0f (u0a u0c (u0a (u0f (u0a u0c (u0a u0c (u0a u0c (u0a u0c u0b))))) u0b))) (u0a (u0f (u0a u0c (u0a (u0f u0b) u0b))) (u0a (u0f (u0a u0c (u0a (u0f (u0a u0c u0b)) u0b))) u0b)))))))))
  (u0d (u0S 1 (u1f (u0a (u0f (u0a u0c (u0a (u0f (u0a u0c (u0a u0c (u0a u0c (u0a u0c u0b))))) u0b))) (u0a (u0f (u0a u0c (u0a (u0f (u0a u0c (u0a u0c (u0a u0c (u0a u0c u0b))))) u0b))) (u0a (u0f (u0a u0c (u0a (u0f (u0a u0c (u0a u0c (u0a u0c (u0a u0c u0b))))) u0b))) (u0a (u0f (u0a u0c (u0a (u0f (u0a u0c (u0a u0c (u0a u0c (u0a u0c u0b))))) u0b))) u0b))))))
  (u0d (u0S 1 (u1f (u0a (u0f (u0a u0c (u0a (u0f (u0a u0c (u0a u0c (u0a u0c (u0a u0c u0b))))) u0b))) (u0a (u0f (u0a u0c (u0a (u0f (u0a u0c (u0a u0c (u0a u0c u0b)))) u0b))) (u0a (u0f (u0a u0c (u0a (u0f (u0a u0c (u0a u0c u0b))) u0b))) u0b)))))
  (u0d (u0S 1 (u1f (u0a (u0f (u0a u0c (u0a (u0f (u0a u0c (u0a u0c (u0a u0c (u0a u0c u0b))))) u0b))) (u0a (u0f (u0a u0c (u0a (u0f (u0a u0c (u0a u0c (u0a u0c u0b)))) u0b))) (u0a (u0f (u0a u0c (u0a (u0f (u0a u0c (u0a u0c u0b))) u0b))) (u0a (u0f (u0a u0c (u0a (u0f (u0a u0c (u0a u0c (u0a u0c (u0a u0c u0b))))) u0b))) u0b))))))
  (u0e (u0i (d_ix x_ix (dv 1) (d_op u1A (dv 0) u0c))))))))))))))))),?_⟩
 intro c;obtain⟨i,ei,hi⟩:=modZ (c:Int) (b:=13) (by omega)
 have s2:dMod (.int (c:Int)) (.int 13)=.ok (dN i):=by rw[u0M (by omega),ei]
 obtain⟨sh,hm,s3⟩:=v0X (c:=λsh:List SH=>D.lst (sh.map shD)) (rs:=SHAPES) (i:=i) (by show i<13;omega)
 refine⟨sh,hm,?_⟩;have sl:∀k:Nat,k<=1000->k<sizeLine:=λk h=>t5 h (by decide)
 simp[runT,startD,s2,sl,-u0Z,-u0k,-Res.bind_ok,-L2.go_ok,-Out.then_nx,bindN,goN,thenN];refine Eq.trans (congrArg (λr=>noE (outR ((noE r).go _ λd=>Out.rt d))) s3) ?_
 rfl
def u5B (F:Fun K "_law_symbol" "_law_symbol" u2c f fd) (T:Txt P w K mg A):∃G,FnOk P w K mg base CX0 1 f fd ["_law_number","_law_heads","_law_signs"] (spF K G)/\Symb G:=by
 refine⟨_,F.okT (k:=0) u5u (λcdv Ar outer s H E hr=>u0d (u0x (u0l o_ge (dv 0) u0c) (u0e (u0i (d_ix x_ix (dv 2) (d_op o_sub (dv 0) u0c)))) u0n)
  (u0e (u0i (d_ix x_ix (dv 1) (dv 0))))),?_⟩
 intro x hs ss hl sl hx;by_cases c:10<=x
 ·have c':(10:Int)<=x:=by omega
  have e:(x:Int) - 10=((x - 10:Nat):Int):=by omega
  have s3:=ix_m (c:=D.str) (rs:=ss) (i:=x - 10) (by omega)
  have e2:sy hs ss x=ss[x - 10]'(by omega):=by unfold sy;rw[if_pos c,u1Q]
  rw[e2];simp[runT,startD,c',e,s3,-u0k,-Res.bind_ok,-L2.go_ok,-Out.then_nx,bindN,goN,thenN]
 ·have c':¬ (10:Int)<=x:=by omega
  have s3:=ix_m (c:=D.str) (rs:=hs) (i:=x) (by omega)
  have e2:sy hs ss x=hs[x]'(by omega):=by unfold sy;rw[if_neg c,u1Q]
  rw[e2];simp[runT,startD,c',s3,-u0k,-Res.bind_ok,-L2.go_ok,-Out.then_nx,bindN,goN,thenN]
def u6u {a0s:FD} (a1m:Callee P w K mg base 3 "_law_row" ["_law_script","_law_at","_law_base","_law_count"] (spF K a0s)) (a4k:Row a0s) (F:Fun K "_law_names" "_law_names" u1N f fd) (T:Txt P w K mg A):∃G,FnOk P w K mg base CX0 4 f fd ["_law_script","_law_at"] (spF K G)/\Names G:=by
 refine⟨_,F.okT (k:=3) u0z (λcdv Ar outer s H E hr=>u0d (ds_n u0z.nd u0Q)
  (u0d (ds_n u0z.nd (u1f (u0a u0Q (u0a u0Q (u0a u0Q (u0a u0Q (u0a u0Q (u0a u0Q (u0a u0Q (u0a u0Q (u0a u0Q (u0a u0Q (u0a u0Q (u0a u0Q (u0a u0Q (u0a u0Q (u0a u0Q (u0a u0Q (u0a u0Q (u0a u0Q u0b))))))))))))))))))))
  (u0d (ds_n u0z.nd (d_fn a1m hr (u0a (dv 0) (u0a (dv 1) (u0a u0c (u0a u0c u0b))))))
  (u0d (ds_n u0z.nd (u1f (u0a u0Q (u0a u0Q (u0a u0Q (u0a u0Q (u0a u0Q (u0a u0Q u0b))))))))
  (u0d (u1B u0z.nd (u3u u0b))
  (u0d (u0A rfl (u1e T.z_range (u0a u0c u0b)) (dg_n u0z.nd)
  (u0d (ds_n u0z.nd (d_ix x_ix (dv 2) (d_op u1A (d_op u1g (d_ix x_ix (dv 4) u0c) (d_op u2K (d_ix x_ix (u1f (u0a u0c (u0a u0c u0b))) (d_op u1A (d_ix x_ix (dv 4) u0c) u0c)) (dv 7))) u0c)))
   (u0e (u0S 6 (d_op u1g (dv 8) (d_ix x_ix (dv 5) (d_op u1A (d_op u1g (d_op u9G (d_ix x_ix (dv 4) u0c) u0c) (d_op u2K (d_op u1A (d_op u9G (d_ix x_ix (dv 4) u0c) u0c) u0c) (dv 7))) u0c)))))))
  (u0e (u0i (u1f (u0a (dv 6) (u0a (DN.de (u0Y ["_law_k"] [3,4] rfl (u0t (sc:=defScope u1N) (N:=["_law_script","_law_at","_law_letters","_law_some","_law_draws","_law_tails","_law_heads","_law_k","_law_letter"]) (by decide +kernel)) (u1e T.z_range (u0a u0c u0b)) (dg_n (show(["_law_k","_law_some","_law_draws"]:List Str).Nodup by decide +kernel)) u2l (d_ix x_ix (dv 1) (d_op u1A (d_op u1g (d_ix x_ix (dv 2) u0c) (dv 0)) u0c)))) u0b))))))))))),?_⟩
 intro ns i hi;obtain⟨rs,er,lr,hr⟩:=a4k ns i 468 3 hi (by omega) (by omega) (by omega)
 obtain⟨d0,d1,d2,rfl⟩:=three lr;have er':a0s [scr ns,dN i,.int 468,.int 3]=.ok (.lst [dN d0,dN d1,dN d2]):=er;have j0:dIx (.lst [dN d0,dN d1,dN d2]) (.int 0)=.ok (dN d0):=u2B (i:=0) rfl;have j1:dIx (.lst [dN d0,dN d1,dN d2]) (.int 1)=.ok (dN d1):=u2B (i:=1) rfl;have j2:dIx (.lst [dN d0,dN d1,dN d2]) (.int 2)=.ok (dN d2):=u2B (i:=2) rfl;have j3:dMod (dN d2) (.int 2)=.ok (dN (d2%2)):=by rw[show dMod (dN d2) (.int 2)=_ from u0M (by omega)];rfl
 obtain⟨a,ha,j4⟩:∃a:Nat,(a=7\/a=25)/\dIx (.lst [.int 7,.int 25]) (dN (d2%2))=.ok (dN a):=by
  rcases Nat.mod_two_eq_zero_or_one d2 with h|h
  ·exact⟨7,.inl rfl,by rw[h];exact u2B (i:=0) rfl⟩
  ·exact⟨25,.inr rfl,by rw[h];exact u2B (i:=1) rfl⟩
 have j5:dDiv (dN d0) (.int 26)=.ok (dN (d0 / 26)):=by rw[show dDiv (dN d0) (.int 26)=_ from u5i (by omega) (by omega)];rfl
 have j6:dDiv (dN d2) (.int 2)=.ok (dN (d2 / 2)):=by rw[show dDiv (dN d2) (.int 2)=_ from u5i (by omega) (by omega)];rfl
 have j7:dMod (dN (d2 / 2)) (.int 3)=.ok (dN (d2 / 2%3)):=by rw[show dMod (dN (d2 / 2)) (.int 3)=_ from u0M (by omega)];rfl
 refine run2 rfl ?_;refine asg (Q:=RetP _) (.str greatT) rfl rfl ?_;refine asg (Q:=RetP _) (dS SIG) (by simp;rfl) rfl ?_
 refine asg (Q:=RetP _) (.lst [dN d0,dN d1,dN d2]) (by simp[startD,er']) rfl ?_
 refine asg (Q:=RetP _) (dS TAIL) (by simp;rfl) rfl ?_
 refine asg (Q:=RetP _) (.l []) (by simp) rfl ?_
 refine thq (T:=Qnm (nmR ns i d0 d1 d2) a (d2 / 2%3) d0) ?_ ?_
 ·refine goq (Q:=Qnm (nmR ns i d0 d1 d2) _ _ _) (v:=intL 0 4) (by simp [u7q (n:=4) 4 rfl (by omega)]) ?_
  refine u2M (Snm (nmR ns i d0 d1 d2) a (d2 / 2%3) d0) (Qnm (nmR ns i d0 d1 d2) a (d2 / 2%3) d0) ⟨none,none,rfl⟩ (λρ h=>by obtain⟨x,y,rfl⟩:=h;exact⟨x,y,rfl⟩) ?_
  rintro k ρ hk ⟨x,y,rfl⟩;refine⟨_,rfl,.inl ?_⟩;have hli:li a d0 k<26:=Nat.mod_lt _ (by omega)
  have htj:tj (d2 / 2%3) d0 k<6:=Nat.mod_lt _ (by omega)
  have m1:dMulX (dN a) (dN k)=.ok (dN (a*k)):=by rw[show dMulX (dN a) (dN k)=_ from u0k _ _,u0r (show CMul (a:Int) (k:Int) from .inl ⟨by omega,by omega⟩)];simp[dN]
  have m2:dAdd (dN d0) (dN (a*k))=.ok (dN (d0+a*k)):=addN _ _;have m3:dMod (dN (d0+a*k)) (.int 26)=.ok (dN (li a d0 k)):=by rw[show dMod (dN (d0+a*k)) (.int 26)=_ from u0M (by omega)];rfl
  have m4:dIx (.str greatT) (dN (li a d0 k))=.ok (.str (letC (li a d0 k))):=v0Y hli;have m5:dMulX (dN (d2 / 2%3)) (dN k)=.ok (dN (d2 / 2%3*k)):=by rw[show dMulX (dN (d2 / 2%3)) (dN k)=_ from u0k _ _,u0r (show CMul ((d2 / 2%3:Nat):Int) (k:Int) from .inl ⟨by omega,by omega⟩)];simp[dN]
  have m6:dAdd (dN (d0 / 26)) (dN (d2 / 2%3*k))=.ok (dN (d0 / 26+d2 / 2%3*k)):=addN _ _;have m7:dMod (dN (d0 / 26+d2 / 2%3*k)) (.int 6)=.ok (dN (tj (d2 / 2%3) d0 k)):=by rw[show dMod (dN (d0 / 26+d2 / 2%3*k)) (.int 6)=_ from u0M (by omega)];rfl
  have m8:dIx (dS TAIL) (dN (tj (d2 / 2%3) d0 k))=.ok (.str (tailJ (tj (d2 / 2%3) d0 k))):=by
   have:=ix_m (c:=D.str) (rs:=TAIL) (i:=tj (d2 / 2%3) d0 k) (by show _<6;omega)
   unfold tailJ;rw[u1Q (show _<TAIL.length from htj)]
   exact this
  have r4:(tailJ (tj (d2 / 2%3) d0 k)).length<=6:=by
   have:∀j,j<6->(tailJ j).length<=6:=by decide +kernel
   exact this _ htj
  have m9:dAdd (.str (letC (li a d0 k))) (.str (tailJ (tj (d2 / 2%3) d0 k)))=.ok (.str (hf a (d2 / 2%3) d0 k)):=add_ss (by rw[v2V];omega)
  refine⟨[some (.val (scr ns)),some (.val (dN i)),some (.val (.str greatT)),some (.val (dS SIG)),some (.val (.lst [dN d0,dN d1,dN d2])),some (.val (dS TAIL)),some (.own (.l (((List.range k).map (hf a (d2 / 2%3) d0)).map D.str++[D.str (hf a (d2 / 2%3) d0 k)]))),some (.val (dN k)),some (.val (.str (letC (li a d0 k))))],?_,some (.val (dN k)),some (.val (.str (letC (li a d0 k)))),?_⟩
  ·refine asg (Q:=fun o=>o=_) (.str (letC (li a d0 k))) (by simp [nmR,j0,j2,j3,j4,m1,m2,m3,m4,-u0Z,-u0k,-Res.bind_ok,-L2.go_ok,-Out.then_nx,bindN,goN,thenN]) rfl ?_
   have sl:k<sizeLine:=y3 (show k<1000 by omega) (by decide)
   simp[nmR,getL,j0,j2,j5,j6,j7,m5,m6,m7,m8,m9,sl,-u0Z,-u0k,-Res.bind_ok,-L2.go_ok,-Out.then_nx,bindN,goN,thenN]
  ·rw [List.range_succ,v5,v5]
   rfl
 ·rintro o ⟨x,y,rfl⟩
  refine th (Q:=RetP _) rfl ?_;have hc:∀k,(d1+k)%18<18:=λk=>Nat.mod_lt _ (by omega)
  refine⟨.lst [dS ((List.range 4).map (hf a (d2 / 2%3) d0)),dS ((List.range 5).map λk=>sgI ((d1+k)%18))],?_,_,_,rfl,by simp,hds_hf ha _ _,by simp,λz hz=>?_,u3r λa ha b hb e=>?_⟩
  ·simp [nmR,u7q (n:=5) 5 rfl (by omega),-u0Z,-u0k,-Res.bind_ok,-L2.go_ok,-Out.then_nx,bindN,goN,thenN]
   rw[u1x (onI λk=>sgI ((d1+k)%18)) λd hd=>?_]
   ·rw [v3f]
    simp[gdI (show 5<=1000 by omega)]
   ·obtain ⟨k,hk,rfl⟩:=u8q hd
    have s1:dAdd (dN d1) (dN k)=.ok (dN (d1+k)):=addN _ _;have s2:dMod (dN (d1+k)) (.int 18)=.ok (dN ((d1+k)%18)):=by rw[show dMod (dN (d1+k)) (.int 18)=_ from u0M (by omega)];rfl
    have s3:dIx (dS SIG) (dN ((d1+k)%18))=.ok (.str (sgI ((d1+k)%18))):=by
     have:=ix_m (c:=D.str) (rs:=SIG) (i:=(d1+k)%18) (by show _<18;exact hc k)
     unfold sgI;rw[u1Q (show(d1+k)%18<SIG.length from hc k)]
     exact this
    exact⟨_,rfl,by simp,by simp[rhoC,j1,s1,s2,s3,onI,-u0Z,-u0k,-Res.bind_ok,-L2.go_ok,-Out.then_nx,bindN,goN,thenN]⟩
  ·obtain ⟨k,_,rfl⟩:=x5.mp hz
   refine sig_ok _ ?_;unfold sgI;rw[u1Q (show(d1+k)%18<SIG.length from hc k)]
   exact z0A _
  ·have:=sgI_inj _ (hc a) _ (hc b) e
   omega
end
open Bk
def u5E {z:Str} (h:okH z=true):hdS z=true/\goodS z=true/\sgnS z=false:=by
 unfold okH at h;simpa[u0] using h
def u9F {z:Str} (h:okG z=true):sgnS z=true/\goodS z=true/\z∈POOL:=by
 unfold okG at h;simpa[u0] using h
def RH (hs ss:List Str) (p:RR):Prop:=p.1∈hs/\p.2.length<=4/\∀b∈p.2,b∈hs\/b∈ss
structure SD (hs ss:List Str) (k:Nat) (rs:List RR):Prop where
 l:rs.length<=k
 nd:rs.Nodup
 rh:∀p∈rs,RH hs ss p
 all:∀j,(h:j<hs.length)->j<k->hs[j]∈hsOf rs
def sd_old {hs ss:List Str}{k:Nat}{rs:List RR} (h:SD hs ss k rs) {z:Str}{bs:List Str} (m:(z,bs)∈rs) (hz:∀h:k<hs.length,z=hs[k]):SD hs ss (k+1) rs where
 l:=by have:=h.l;omega
 nd:=h.nd
 rh:=h.rh
 all j hj hk:=by
  by_cases c:j=k
  ·subst c;rw[<- hz hj];exact x5.mpr ⟨_,m,rfl⟩
  ·exact h.all j hj (by omega)
def sd_new {hs ss:List Str}{k:Nat}{rs:List RR} (h:SD hs ss k rs) {z:Str}{bs:List Str} (m:¬ (z,bs)∈rs) (r:RH hs ss (z,bs)) (hz:∀h:k<hs.length,z=hs[k]):SD hs ss (k+1) (rs++[(z,bs)]) where
 l:=by have:=h.l;simp;omega
 nd:=List.nodup_append.mpr ⟨h.nd,by simp,λa ha b hb e=>by
  rw[w9.mp hb] at e;exact m (e ▸ ha)⟩
 rh p hp:=by
  rcases v1.mp hp with q|q
  ·exact h.rh p q
  ·rw[w9.mp q];exact r
 all j hj hk:=by
  unfold hsOf;rw[v5,v1];by_cases c:j=k
  ·subst c;rw[<- hz hj];exact .inr (by simp)
  ·exact .inl (h.all j hj (by omega))
structure DrwS (hs ss:List Str) (rs:List RR):Prop where
 l1:hs.length<=4
 l2:ss.length<=5
 h:HDS hs
 g:∀z∈ss,okG z=true
 n1:1<=rs.length
 n2:rs.length<=20
 nd:rs.Nodup
 rh:∀p∈rs,RH hs ss p
 cl:∀p∈rs,∀b∈p.2,b∈hs->b∈hsOf rs
def Drw (rs:List RR):Prop:=∃hs ss,DrwS hs ss rs
noncomputable def ph (hs ss:List Str) (p:SH):RR:=(hs.getD p.1 "",p.2.map (sy hs ss))
def u5I {l:List Str}{i:Nat} (h:i<l.length):l.getD i ""∈l:=by rw[u1Q h];exact z0A h
def u5J {l:List Str} (nd:l.Nodup) {i j:Nat} (hi:i<l.length) (hj:j<l.length) (e:l.getD i ""=l.getD j ""):i=j:=by
 rw[u1Q hi,u1Q hj] at e;exact(List.getElem_inj nd).mp e
theorem v3T {α β:Type}{f:α->β}:∀{xs ys:List α},(∀x∈xs,∀y∈ys,f x=f y->x=y)->xs.map f=ys.map f->xs=ys
 | [],[],_,_=>rfl
 | [],_::_,_,e=>by cases e
 | _::_,[],_,e=>by cases e
 | x::xs,y::ys,h,e=>by
  simp only[y9,List.cons.injEq] at e;rw[h x z5 y z5 e.1,v3T (λa ha b hb=>h a (z4 _ ha) b (z4 _ hb)) e.2]
def nd_on {α β:Type}{f:α->β}{xs:List α} (nd:xs.Nodup) (h:∀x∈xs,∀y∈xs,f x=f y->x=y):(xs.map f).Nodup:=by
 unfold List.Nodup;rw[List.pairwise_map];exact nd.imp_of_mem λ{a b} ha hb hab e=>hab (h a ha b hb e)
section
variable {hs ss:List Str}
def u7V (l1:hs.length=4) (l2:ss.length=5) {x:Nat} (h:x<4\/(10<=x/\x<15)):(sy hs ss x∈hs/\x<4)\/(sy hs ss x∈ss/\10<=x):=by
 unfold sy;by_cases c:10<=x
 ·rw[if_pos c];exact .inr ⟨u5I (by omega),c⟩
 ·rw[if_neg c];exact .inl ⟨u5I (by omega),by omega⟩
def sy_inj (H:HDS hs) (hg:∀z∈ss,okG z=true) (nd:ss.Nodup) (l1:hs.length=4) (l2:ss.length=5) {x y:Nat} (hx:x<4\/(10<=x/\x<15)) (hy:y<4\/(10<=y/\y<15)) (e:sy hs ss x=sy hs ss y):x=y:=by
 have no:∀z,z∈hs->z∈ss->False:=λz a b=>by
  have h1:=(u5E (H.hh z a).ok).2.2;rw[(u9F (hg z b)).1] at h1;cases h1
 rcases u7V l1 l2 hx with⟨a,a'⟩|⟨a,a'⟩<;>rcases u7V l1 l2 hy with⟨b,b'⟩|⟨b,b'⟩
 ·unfold sy at e
  rw[if_neg (by omega),if_neg (by omega)] at e
  exact u5J H.nd (by omega) (by omega) e
 ·exact(no _ a (e ▸ b)).elim
 ·exact(no _ (e ▸ b) a).elim
 ·unfold sy at e
  rw[if_pos a',if_pos b'] at e
  have:=u5J nd (by omega) (by omega) e
  omega
def v2l (H:HDS hs) (hg:∀z∈ss,okG z=true) (nd:ss.Nodup) (l1:hs.length=4) (l2:ss.length=5) {sh:List SH} (m:sh∈SHAPES):Drw (sh.map (ph hs ss)):=by
 obtain⟨s1,s2,s3,s4⟩:=u6f sh m;refine⟨hs,ss,⟨by omega,by omega,H,hg,by simpa using s1,by simp;omega,nd_on s3 λp hp q hq e=>?_,λp hp=>?_,λp hp b hb hbh=>?_⟩⟩
 ·obtain ⟨⟨a1,a2,a3⟩,_⟩:=s4 p hp
  obtain⟨⟨b1,b2,b3⟩,_⟩:=s4 q hq;obtain⟨px,pb⟩:=p;obtain⟨qx,qb⟩:=q;simp only[ph,Prod.mk.injEq] at e;have e1:px=qx:=u5J H.nd (by rw[l1];exact a1) (by rw[l1];exact b1) e.1
  have e2:pb=qb:=v3T (λx hx y hy=>sy_inj H hg nd l1 l2 (a3 x hx) (b3 y hy)) e.2
  rw[e1,e2]
 ·obtain ⟨p,hp0,rfl⟩:=x5.mp hp
  obtain⟨⟨a1,a2,a3⟩,_⟩:=s4 p hp0;refine⟨u5I (by rw[l1];exact a1),by simp[ph];omega,λb hb=>?_⟩
  obtain⟨x,hx,rfl⟩:=x5.mp hb;exact(u7V l1 l2 (a3 x hx)).imp And.left And.left
 ·obtain ⟨p,hp0,rfl⟩:=x5.mp hp
  obtain⟨⟨a1,a2,a3⟩,a4⟩:=s4 p hp0;obtain⟨x,hx,rfl⟩:=x5.mp hb;rcases u7V l1 l2 (a3 x hx) with⟨_,c⟩|⟨c,c'⟩
  ·obtain ⟨q,hq,e⟩:=a4 x hx c
   refine x5.mpr ⟨_,x5.mpr ⟨q,hq,rfl⟩,?_⟩;unfold sy;rw[if_neg (by omega),<- e]
   rfl
  ·have h1:=(u5E (H.hh _ hbh).ok).2.2
   rw[(u9F (hg _ c)).1] at h1;cases h1
end
def hok:∀i,i<26->∀j,j<6->(goodS (letC i++tailJ j)&&((inS (fstC (letC i++tailJ j)) greatT==hdS (letC i++tailJ j))&&((sgnS (letC i++tailJ j)==!hdS (letC i++tailJ j))&&shortS (letC i++tailJ j))))=true:=by decide +kernel
def gok:∀z∈SIG,(goodS z&&((inS (fstC z) greatT==hdS z)&&((sgnS z==!hdS z)&&shortS z)))=true:=by decide +kernel
def v3R {b:Str} (h:(goodS b&&((inS (fstC b) greatT==hdS b)&&((sgnS b==!hdS b)&&shortS b)))=true):OkB b:=by
 simp only[u0,beq_iff_eq] at h;exact⟨h.1,h.2.1,h.2.2.1,h.2.2.2⟩
def DrwS.ob {hs ss:List Str}{rs:List RR} (w:DrwS hs ss rs) {b:Str} (m:b∈hs\/b∈ss):OkB b:=by
 rcases m with m|m
 ·obtain ⟨i,hi,j,hj,rfl⟩:=w.h.hh b m
  exact v3R (hok i hi j hj)
 ·have:=(u9F (w.g b m)).2.2
  exact v3R (gok b this)
def DrwS.gg {hs ss:List Str}{rs:List RR} (w:DrwS hs ss rs):Gg rs/\GOk rs []:=by
 have okr:∀p∈rs,OkR p:=λp hp=>by
  have r:=w.rh p hp;have a:=(w.h.hh _ r.1).ok;refine⟨(u5E a).1,r.2.1,λb mb=>?_,(u5E a).2.1,λb mb=>(w.ob (r.2.2 b mb)).g⟩
  have:=(w.ob (r.2.2 b mb)).s
  rw[this];cases hdS b<;>rfl
 have kn:∀p∈rs,∀b∈p.2,hdS b=true->b∈hsOf rs:=λp hp b mb hb=>by
  refine w.cl p hp b mb (((w.rh p hp).2.2 b mb).resolve_right λz=>?_)
  have:=(w.ob (.inr z)).s
  rw[(u9F (w.g b z)).1,hb] at this;cases this
 have sgn:∀z∈sgL [] rs,z∈ss:=u7k (λz h=>nomatch h) λp hp b mb hs=>((w.rh p hp).2.2 b mb).resolve_left λz=>by
  have:=(u5E (w.h.hh b z).ok).2.2
  rw[this] at hs;cases hs
 have sl:=u7e (v3G (rs:=rs) List.nodup_nil) sgn;have l2:=w.l2;have fw:Few rs:=⟨okr,w.n2,by omega⟩
 have hh:∀z∈headsL rs,z∈hs:=λz mz=>by
  obtain⟨p,hp,rfl⟩:=x5.mp (u1n.mp (u1q.mp mz));exact(w.rh p hp).1
 have hl:=u7e (ss:=headsL rs) (pool:=hs) ((u0R _).nodup_iff.mpr (u3n _)) hh;have l1:=w.l1;exact⟨⟨fw,w.n1,λp hp=>⟨w.ob (.inl (w.rh p hp).1),λb mb=>w.ob ((w.rh p hp).2.2 b mb)⟩,kn⟩,⟨fw,w.n1,w.nd,λp hp b mb hb=>u1q.mpr (u1n.mpr (kn p hp b mb hb)),by omega,by omega,λq hq=>(nomatch hq),by simp,by simp⟩⟩
abbrev RulesG (G:FD):Prop:=∀ns:List Int,∃d,G [scr ns,.int 0]=.ok d/\∃rs,d=dR rs/\Drw rs
inductive Ssh (r:List (Option Sl)) (hs ss:List Str) (sh:List SH) (xs:List SH) (ρ:Rho):Prop
 | mk (ys:List SH) (a b c d:Option Sl) (e:sh=ys++xs) (eρ:ρ=r++[some (.own (.l ((ys.map (ph hs ss)).map rT))),a,b,c,d])
inductive Qsh (r:List (Option Sl)) (hs ss:List Str) (sh:List SH) (o:Out):Prop
 | mk (a b c d:Option Sl) (e:o=.nx (r++[some (.own (.l ((sh.map (ph hs ss)).map rT))),a,b,c,d]))
noncomputable def rR (ns:List Int) (hs ss:List Str) (d0 d1 d2:Nat):List (Option Sl):=[some (.val (scr ns)),some (.val (.int 0)),some (.val (dS hs)),some (.val (dS ss)),some (.val (.lst [dN d0,dN d1,dN d2]))]
inductive Sdr (r:List (Option Sl)) (hs ss:List Str) (k:Nat) (ρ:Rho):Prop
 | mk (rs:List RR) (a b c d:Option Sl) (eρ:ρ=r++[some (.own (.l (rs.map rT))),a,b,c,d]) (sd:SD hs ss k rs)
inductive Qdr (r:List (Option Sl)) (hs ss:List Str) (n:Nat) (o:Out):Prop
 | mk (rs:List RR) (a b c d:Option Sl) (eo:o=.nx (r++[some (.own (.l (rs.map rT))),a,b,c,d])) (sd:SD hs ss n rs)
def six {α:Type}{rs:List α} (h:rs.length=6):∃a b c d e f,rs=[a,b,c,d,e,f]:=by
 match rs,h with
 | [a,b,c,d,e,f],_=>exact⟨a,b,c,d,e,f,rfl⟩
open Bk
theorem u5k:∀{rs:List RR},(∀p∈rs,OkR p)->cmpDs (rs.map rT)=.ok (rs.map pyR)
 | [],_=>rfl
 | p::rs,h=>by
  simp[cmpDs,u8M (h p z5),u5k λq hq=>h q (z4 _ hq)]
def v3h {p:RR}{rs:List RR} (o:OkR p) (os:∀q∈rs,OkR q) (neg:Bool):inD (rT p) (rs.map rT) neg=.ok (.bl (if neg=true then !decide (p∈rs) else decide (p∈rs))):=by
 have e:((rs.map pyR).any λb=>PyData.eqv b (pyR p))=decide (p∈rs):=by
  rw[List.any_map,z0I,List.any_eq_true,decide_eq_true_eq];constructor
  ·rintro ⟨q,hq,e⟩
   simp only[Function.comp,u8A,decide_eq_true_eq] at e;rw[<- e];exact hq
  ·intro h
   exact⟨p,h,by simp only[Function.comp,u8A,decide_eq_true_eq]⟩
 simp only[inD,u8M o,u5k os,Res.bind_ok,e]
def rh_ok {hs ss:List Str} (H:HDS hs) (hg:∀z∈ss,okG z=true) {p:RR} (r:RH hs ss p):OkR p:=by
 have a:=(H.hh _ r.1).ok;refine⟨(u5E a).1,r.2.1,λb mb=>?_,(u5E a).2.1,λb mb=>?_⟩
 ·rcases r.2.2 b mb with q | q
  ·rw[(u5E (H.hh _ q).ok).1,Bool.or_true]
  ·rw[(u9F (hg _ q)).1];rfl
 ·rcases r.2.2 b mb with q | q
  ·exact(u5E (H.hh _ q).ok).2.1
  ·exact(u9F (hg _ q)).2.1
def v2O {hs ss:List Str} (H:HDS hs) (hg:∀z∈ss,okG z=true) {h:Str}{bs:List Str}{rs:List RR} (o:RH hs ss (h,bs)) (os:∀q∈rs,RH hs ss q):dNotIn (.tup [.str h,.tup (bs.map D.str)]) (.lst (rs.map rT))=.ok (.bl (!decide ((h,bs)∈rs))):=by
 rw[show dNotIn (.tup [.str h,.tup (bs.map D.str)]) (.lst (rs.map rT))=inD (rT (h,bs)) (rs.map rT) true from u5S true _ _,v3h (rh_ok H hg o) (λq hq=>rh_ok H hg (os q hq))]
 rfl
def NxS (S:Rho->Prop) (o:Out):Prop:=∃ρ2,o=.nx ρ2/\S ρ2
def asgE {α:Type}{Q:Out->Prop}{r:Res α}{ρ:Rho}{k:α->Out}{f:Rho->Out} (P:α->Prop) (h:∃v,r=.ok v/\P v) (q:∀v,P v->Q ((k v).andThen f)):Q ((r.go ρ k).andThen f):=by
 obtain⟨v,e,p⟩:=h;rw[e];exact q v p
def BdP (hs ss:List Str) (n:Nat) (v:OD):Prop:=∃bs:List Str,v=OD.l (bs.map D.str)/\bs.length<=n/\∀b∈bs,b∈hs\/b∈ss
def HdO (r:List (Option Sl)) (rs:List RR) (hs:List Str) (k:Nat) (x2:Option Sl) (row:D) (o:Out):Prop:=∃h,h∈hs/\(∀z:k<hs.length,h=hs[k])/\o=.nx (r++[some (.own (.l (rs.map rT))),some (.val (.str h)),x2,some (.val (dN k)),some (.val row)])
def BdO (r:List (Option Sl)) (rs:List RR) (hs ss:List Str) (h:Str) (k:Nat) (row:D) (o:Out):Prop:=∃bs:List Str,bs.length<=4/\(∀b∈bs,b∈hs\/b∈ss)/\o=.nx (r++[some (.own (.l (rs.map rT))),some (.val (.str h)),some (.val (dS bs)),some (.val (dN k)),some (.val row)])
def eq0 (n:Nat):dEq (dN n) (.int 0)=.ok (.bl (decide (n=0))):=by
 rw[show dEq (dN n) (.int 0)=_ from eqI _ _]
 by_cases c:n=0
 ·subst c;rfl
 ·have:¬ (n:Int)=0:=by omega
  simp[c]
def v3k {hs:List Str} (H:HDS hs) (n:Nat):HDS (hs.take n):=⟨λz m=>H.hh z (z0F m),H.nd.sublist (List.take_sublist _ _),λa ma b mb=>H.fl a (z0F ma) b (z0F mb)⟩
section
variable {P:Program}{w:World}{K:W.Frag}{mg:MG}{base:Heap}{f:Addr}{fd:FuncData}{A:Adr}
def u6s {a1q:FD} (a3h:Callee P w K mg base 4 "_law_names" ["_law_script","_law_at"] (spF K a1q)) {a0s:FD} (a1m:Callee P w K mg base 3 "_law_row" ["_law_script","_law_at","_law_base","_law_count"] (spF K a0s)) {a2n:FD} (a3f:Callee P w K mg base 1 "_law_shape" ["_law_number"] (spF K a2n)) {a2e:FD} (a2z:Callee P w K mg base 1 "_law_symbol" ["_law_number","_law_heads","_law_signs"] (spF K a2e)) (a4r:Names a1q) (a4k:Row a0s) (a4p:Shape a2n) (a4j:Symb a2e) (F:Fun K "_law_rules" "_law_rules" u1u f fd) (T:Txt P w K mg A):∃G,FnOk P w K mg base CX0 5 f fd ["_law_script","_law_at"] (spF K G)/\RulesG G:=by
 refine⟨_,F.okT (k:=4) u0m (λcdv Ar outer s H E hr=>u0d (ds_unp (d_fn a3h hr (u0a (dv 0) (u0a (dv 1) u0b))) (dg_lst (n:=2) rfl (u0s (dg_n u0m.nd) (u0s (dg_n u0m.nd) u1E))))
  (u0d (ds_n u0m.nd (d_fn a1m hr (u0a (dv 0) (u0a (d_op u1g (dv 1) u0c) (u0a u0c (u0a u0c u0b))))))
  (u0d (u1B u0m.nd (u3u u0b))
  (u0d (u0x (u0l (o_eq (hu64 hr)) (d_op u1A (d_ix x_ix (dv 4) u0c) u0c) u0c) (u0d (u0A rfl (u0w (d_fn a3f hr (u0a (d_ix x_ix (dv 4) u0c) u0b))) (u2O (n:=2) rfl (u0s (dg_n u0m.nd) (u0s (dg_n u0m.nd) u1E)))
   (u0e (u0S 5 (u0f (u0a (d_ix x_ix (dv 2) (dv 6)) (u0a (d_T u4y T.z_tuple (by decide +kernel) (u0a (DN.de (u0Y ["_law_number"] [2,3] rfl (u0t (sc:=defScope u1u) (N:=["_law_script","_law_at","_law_heads","_law_signs","_law_draws","_law_rules_here","_law_head","_law_body","_law_k","_law_row_here"]) (by decide +kernel)) (u0w (dv 7)) (dg_n (show(["_law_number","_law_heads","_law_signs"]:List Str).Nodup by decide +kernel)) u2l (d_fn a2z hr (u0a (dv 0) (u0a (dv 1) (u0a (dv 2) u0b)))))) u0b)) u0b))))))
   (u0e (u0i (dv 5)))) u0n)
  (u0d (ds_n u0m.nd (d_sl (dv 2) u5Q (u5P (d_op u1g u0c (d_op u1A (d_ix x_ix (dv 4) u0c) u0c)))))
  (u0d (ds_n u0m.nd (d_sl (dv 3) u5Q (u5P (d_op u1g u0c (d_op u1A (d_op u9G (d_ix x_ix (dv 4) u0c) u0c) u0c)))))
  (u0d (u0A rfl (u1e T.z_range (u0a (d_op u1g (d_B u1z T.z_len (by decide +kernel) (u0a (dv 2) u0b)) (d_op u1A (d_ix x_ix (dv 4) u0c) u0c)) u0b)) (dg_n u0m.nd)
  (u0d (ds_n u0m.nd (d_fn a1m hr (u0a (dv 0) (u0a (d_op u1g (d_op u1g (dv 1) u0c) (dv 8)) (u0a u0c (u0a u0c u0b))))))
   (u0d (ds_n u0m.nd (d_ix x_ix (dv 2) (d_op u1A (dv 8) (d_B u1z T.z_len (by decide +kernel) (u0a (dv 2) u0b)))))
   (u0d (u0x (u0l o_ge (dv 8) (d_B u1z T.z_len (by decide +kernel) (u0a (dv 2) u0b))) (u0e (ds_n u0m.nd (d_ix x_ix (dv 2) (d_op u1A (d_ix x_ix (dv 9) u0c) (d_B u1z T.z_len (by decide +kernel) (u0a (dv 2) u0b)))))) u0n)
   (u0d (u5O ["_law_j"] [2,3,9] rfl (u0t (sc:=defScope u1u) (N:=["_law_script","_law_at","_law_heads","_law_signs","_law_draws","_law_rules_here","_law_head","_law_body","_law_k","_law_row_here"]) (by decide +kernel)) u0m.nd (u1e T.z_range (u0a (d_op u1A (d_ix x_ix (dv 9) u0c) u0c) u0b)) (dg_n (show(["_law_j","_law_heads","_law_signs","_law_row_here"]:List Str).Nodup by decide +kernel)) u2l (d_ix x_ix (d_op u1g (dv 1) (dv 2)) (d_op u1A (d_ix x_ix (dv 3) (d_op u1g u0c (dv 0))) (d_op u1g (d_B u1z T.z_len (by decide +kernel) (u0a (dv 1) u0b)) (d_B u1z T.z_len (by decide +kernel) (u0a (dv 2) u0b))))))
   (u0d (u0x (u0l (o_eq (hu64 hr)) (d_op u1A (d_op u9G (d_ix x_ix (dv 9) u0c) u0c) u0c) u0c) (u0e (ds_n u0m.nd (d_op u1g (dv 7) (d_sl (dv 7) u5Q (u5P u0c))))) u0n)
   (u0e (u0x (u0l (u4e (hu100 hr)) (u0f (u0a (dv 6) (u0a (d_T u4y T.z_tuple (by decide +kernel) (u0a (dv 7) u0b)) u0b))) (dv 5)) (u0e (u0S 5 (u0f (u0a (dv 6) (u0a (d_T u4y T.z_tuple (by decide +kernel) (u0a (dv 7) u0b)) u0b))))) u0n))))))))
  (u0e (u0i (dv 5)))))))))),?_⟩
 intro ns;obtain⟨_,en,hs,ss,rfl,l4,H,l5,hg,snd⟩:=a4r ns 0 (by omega)
 obtain⟨rw_,er,lr,_⟩:=a4k ns 1 120 3 (by omega) (by omega) (by omega) (by omega)
 obtain⟨d0,d1,d2,rfl⟩:=three lr;have en':a1q [scr ns,.int 0]=.ok (.lst [dS hs,dS ss]):=en;have er':a0s [scr ns,.int 1,.int 120,.int 3]=.ok (.lst [dN d0,dN d1,dN d2]):=er;have j0:dIx (.lst [dN d0,dN d1,dN d2]) (.int 0)=.ok (dN d0):=u2B (i:=0) rfl;have j1:dIx (.lst [dN d0,dN d1,dN d2]) (.int 1)=.ok (dN d1):=u2B (i:=1) rfl;have j2:dIx (.lst [dN d0,dN d1,dN d2]) (.int 2)=.ok (dN d2):=u2B (i:=2) rfl;have j3:dMod (dN d0) (.int 3)=.ok (dN (d0%3)):=by rw[show dMod (dN d0) (.int 3)=_ from u0M (by omega)];rfl
 have j4:dEq (dN (d0%3)) (.int 0)=.ok (.bl (decide (d0%3=0))):=by
  rw[show dEq (dN (d0%3)) (.int 0)=_ from eqI _ _]
  congr 2;by_cases c:d0%3=0<;>simp[c]
  omega
 refine run2 rfl ?_;refine asg (Q:=RetP _) (.lst [dS hs,dS ss]) (by simp[startD,en']) rfl ?_
 refine asg (Q:=RetP _) (.lst [dN d0,dN d1,dN d2]) (by simp[startD,dAdd,er']) rfl ?_
 refine asg (Q:=RetP _) (.l []) (by simp) rfl ?_
 refine brT (Q:=RetP _) (decide (d0%3=0)) (by simp[startD,j0,j3,j4]) (λc=>?_) λc=>?_
 ·obtain ⟨sh,msh,es⟩:=a4p d1
  obtain⟨s1,s2,s3,s4⟩:=u6f sh msh;refine(show RetP _ (Out.andThen (Out.andThen (Res.go _ _ _) _) _) from ?_)
  refine thq (T:=Rets (dR (sh.map (ph hs ss)))) ?_ (by
   rintro o rfl;exact⟨_,rfl,_,rfl,v2l H hg snd l4 l5 msh⟩)
  refine thq (Q:=Rets _) (T:=Qsh (rR ns hs ss d0 d1 d2) hs ss sh) ?_ (by
   rintro o ⟨a,b,c,d,rfl⟩
   rfl)
  refine goq (Q:=Qsh (rR ns hs ss d0 d1 d2) hs ss sh) (v:=sh.map shD) (by simp[startD,j1,es]) ?_
  refine u1R shD (Ssh (rR ns hs ss d0 d1 d2) hs ss sh) (Qsh (rR ns hs ss d0 d1 d2) hs ss sh) ?_ ?_ sh _ ⟨[],none,none,none,none,rfl,rfl⟩
  ·rintro ρ ⟨ys,a,b,c,d,e,rfl⟩
   rw[List.append_nil] at e;subst e;exact⟨a,b,c,d,rfl⟩
  ·rintro ⟨x,bs⟩ xs ρ ⟨ys,a,b,c,d,e,rfl⟩
   obtain⟨⟨a1,a2,a3⟩,_⟩:=s4 (x,bs) (by rw[e];simp)
   have k1:dIx (dS hs) (dN x)=.ok (.str (hs.getD x "")):=by rw[u1Q (show x<hs.length by rw[l4];exact a1)];exact ix_m _
   have sl:ys.length<sizeLine:=y3 (show ys.length<1000 by have:=congrArg List.length e;simp at this;omega) (by decide)
   refine⟨_,rfl,.inl ⟨rR ns hs ss d0 d1 d2++[some (.own (.l (((ys++[(x,bs)]).map (ph hs ss)).map rT))),some (.val (dN x)),some (.val (.tup (bs.map dN))),c,d],?_,ys++[(x,bs)],_,_,_,_,by rw[e,List.append_assoc];rfl,rfl⟩⟩
   have g1:∀l,gTuple [.lst l]=.ok (.tup l):=λ_=>rfl
   have lb:bs.length<=4:=a2;simp[rR,getL,k1,sl];rw[u0r (u0D (by omega)),compM dN (λx=>D.str (sy hs ss x)) λy my=>⟨_,rfl,rfl,by simp[rhoC,a4j y hs ss l4 l5 (a3 y my)]⟩]
   simp[OD.toD,g1,u1p,rT,ph]
 ·refine th (Q:=RetP _) rfl ?_
  have n1:1<=1+d1%4:=by omega
  have j5:dMod (dN d1) (.int 4)=.ok (dN (d1%4)):=by rw[show dMod (dN d1) (.int 4)=_ from u0M (by omega)];rfl
  have j6:dDiv (dN d1) (.int 4)=.ok (dN (d1 / 4)):=by rw[show dDiv (dN d1) (.int 4)=_ from u5i (by omega) (by omega)];rfl
  have j7:dMod (dN (d1 / 4)) (.int 3)=.ok (dN (d1 / 4%3)):=by rw[show dMod (dN (d1 / 4)) (.int 3)=_ from u0M (by omega)];rfl
  have j8:dAdd (.int 1) (dN (d1%4))=.ok (dN (1+d1%4)):=addN 1 _;have j9:dAdd (.int 1) (dN (d1 / 4%3))=.ok (dN (1+d1 / 4%3)):=addN 1 _;have c1:dSl (dS hs) none (some ((1+d1%4:Nat):Int))=.ok (dS (hs.take (1+d1%4))):=by
   show Res.ok (D.lst (cutC (hs.map D.str) none (some ((1+d1%4:Nat):Int))))=_;rw[cut_n,<- List.map_take]
  have c2:dSl (dS ss) none (some ((1+d1 / 4%3:Nat):Int))=.ok (dS (ss.take (1+d1 / 4%3))):=by
   show Res.ok (D.lst (cutC (ss.map D.str) none (some ((1+d1 / 4%3:Nat):Int))))=_;rw[cut_n,<- List.map_take]
  generalize 1+d1%4=u at n1 j8 c1;refine asg (Q:=RetP _) (dS (hs.take u)) (by simp[startD,j1,j5,j8,asI,c1,-u0Z,-u0k,-Res.bind_ok,-L2.go_ok,-Out.then_nx,bindN,goN,thenN]) rfl ?_
  refine asg (Q:=RetP _) (dS (ss.take (1+d1 / 4%3))) (by simp[startD,j1,j6,j7,j9,asI,-u0Z,-u0k,-Res.bind_ok,-L2.go_ok,-Out.then_nx,bindN,goN,thenN];exact c2) rfl ?_
  have H2:=v3k H u;have hg2:∀z∈ss.take (1+d1 / 4%3),okG z=true:=λz m=>hg z (z0F m)
  have q4:(hs.take u).length<=4:=by rw[z0E];omega
  have q1:1<=(hs.take u).length:=by rw[z0E];omega
  have q5:(ss.take (1+d1 / 4%3)).length<=5:=by rw[z0E];omega
  have q6:1<=(ss.take (1+d1 / 4%3)).length:=by rw[z0E];omega
  generalize hs.take u=hs2 at H2 q4 q1;generalize ss.take (1+d1 / 4%3)=ss2 at hg2 q5 q6;have j10:dMod (dN d2) (.int 6)=.ok (dN (d2%6)):=by rw[show dMod (dN d2) (.int 6)=_ from u0M (by omega)];rfl
  have j11:dAdd (.int (hs2.length:Int)) (dN (d2%6))=.ok (dN (hs2.length+d2%6)):=addN _ _;have m6:d2%6<6:=Nat.mod_lt _ (by omega)
  have j12:rng1 [dN (hs2.length+d2%6)]=.ok (intL 0 (hs2.length+d2%6)):=u9k (by omega)
  refine thq (T:=Qdr (rR ns hs2 ss2 d0 d1 d2) hs2 ss2 (hs2.length+d2%6)) ?_ ?_
  ·refine goq (Q:=Qdr (rR ns hs2 ss2 d0 d1 d2) hs2 ss2 (hs2.length+d2%6)) (v:=intL 0 (hs2.length+d2%6)) (by simp [startD,gLen,j2,j10,j11,j12,-u0Z,-u0k,-Res.bind_ok,-L2.go_ok,-Out.then_nx,bindN,goN,thenN]) ?_
   refine u2M (Sdr (rR ns hs2 ss2 d0 d1 d2) hs2 ss2) (Qdr (rR ns hs2 ss2 d0 d1 d2) hs2 ss2 (hs2.length+d2%6)) ⟨[],none,none,none,none,rfl,⟨by simp,by simp,λp h=>(nomatch h),λj _ h=>absurd h (by omega)⟩⟩ ?_ ?_
   ·rintro ρ ⟨rs,a,b,c,d,rfl,sd⟩
    exact⟨rs,a,b,c,d,rfl,sd⟩
   ·rintro k ρ hk ⟨rs,x1,x2,x3,x4,rfl,sd⟩
    have l1:=sd.l;refine⟨_,rfl,.inl ?_⟩;obtain⟨row,er2,lr2,_⟩:=a4k ns (2+k) 120 6 (by omega) (by omega) (by omega) (by omega)
    obtain⟨e0,e1,e2,e3,e4,e5,rfl⟩:=six lr2;have er3:a0s [scr ns,dN (2+k),.int 120,.int 6]=.ok (.lst ([e0,e1,e2,e3,e4,e5].map dN)):=er2;have a1:dAdd (.int 0) (.int 2)=.ok (.int 2):=rfl;have a2:dAdd (.int 2) (dN k)=.ok (dN (2+k)):=addN 2 k;obtain⟨jk,ejk,hjk⟩:=modN k hs2.length (by omega)
    have b1:dMod (dN k) (.int (hs2.length:Int))=.ok (dN jk):=by rw[show dMod (dN k) (.int (hs2.length:Int))=_ from u0M (by omega),ejk]
    have b2:dIx (dS hs2) (dN jk)=.ok (.str (hs2[jk]'hjk)):=ix_m hjk;obtain⟨j0',ej0,hj0⟩:=modN e0 hs2.length (by omega)
    have b3:dMod (dN e0) (.int (hs2.length:Int))=.ok (dN j0'):=by rw[show dMod (dN e0) (.int (hs2.length:Int))=_ from u0M (by omega),ej0]
    have b4:dIx (dS hs2) (dN j0')=.ok (.str (hs2[j0']'hj0)):=ix_m hj0;have f0:dIx (.lst ([e0,e1,e2,e3,e4,e5].map dN)) (.int 0)=.ok (dN e0):=u2B (i:=0) rfl;have f1:dIx (.lst ([e0,e1,e2,e3,e4,e5].map dN)) (.int 1)=.ok (dN e1):=u2B (i:=1) rfl;have f2:dMod (dN e1) (.int 4)=.ok (dN (e1%4)):=by rw[show dMod (dN e1) (.int 4)=_ from u0M (by omega)];rfl
    have f3:dDiv (dN e1) (.int 4)=.ok (dN (e1 / 4)):=by rw[show dDiv (dN e1) (.int 4)=_ from u5i (by omega) (by omega)];rfl
    have f4:dMod (dN (e1 / 4)) (.int 10)=.ok (dN (e1 / 4%10)):=by rw[show dMod (dN (e1 / 4)) (.int 10)=_ from u0M (by omega)];rfl
    have fm:e1%4<4:=Nat.mod_lt _ (by omega)
    have f5:rng1 [dN (e1%4)]=.ok (intL 0 (e1%4)):=u9k (by omega)
    have f6:dAdd (dS hs2) (dS ss2)=.ok (dS (hs2++ss2)):=by rw[v4l (by simp;omega),<- v5]
    generalize hrow:([e0,e1,e2,e3,e4,e5].map dN)=row at er3 f0 f1;show NxS (Sdr (rR ns hs2 ss2 d0 d1 d2) hs2 ss2 (k+1)) _;refine asg (Q:=NxS (Sdr (rR ns hs2 ss2 d0 d1 d2) hs2 ss2 (k+1))) (.lst row) (by simp[rR,a1,a2,er3,-u0Z,-u0k,-Res.bind_ok,-L2.go_ok,-Out.then_nx,bindN,goN,thenN]) rfl ?_
    refine asg (Q:=NxS (Sdr (rR ns hs2 ss2 d0 d1 d2) hs2 ss2 (k+1))) (.str (hs2[jk]'hjk)) (by simp[rR,gLen,b1,b2,-u0Z,-u0k,-Res.bind_ok,-L2.go_ok,-Out.then_nx,bindN,goN,thenN]) rfl ?_
    refine thq (Q:=NxS _) (T:=HdO (rR ns hs2 ss2 d0 d1 d2) rs hs2 k x2 (.lst row)) ?_ ?_
    ·refine brI (Q:=HdO _ _ _ _ _ _) (decide (hs2.length<=k)) (by simp [rR,frz,frzS,getV,gLen,-u0Z,-u0k,-Res.bind_ok,-L2.go_ok,-Out.then_nx,bindN,goN,thenN]) (fun c=>?_) fun c=>?_
     ·have c:hs2.length<=k:=by simpa using c
      refine goq (Q:=HdO _ _ _ _ _ _) (v:=D.str (hs2[j0']'hj0)) (by simp[rR,gLen,f0,b3,b4,-u0Z,-u0k,-Res.bind_ok,-L2.go_ok,-Out.then_nx,bindN,goN,thenN]) ?_
      exact⟨_,z0A hj0,λz=>absurd z (by omega),rfl⟩
     ·have c:¬ hs2.length<=k:=by simpa using c
      refine⟨_,z0A hjk,λz=>?_,rfl⟩
      have:jk=k:=by
       have e2:(k:Int)%(hs2.length:Int)=(k:Int):=Int.emod_eq_of_lt (by omega) (by omega)
       omega
      subst this;rfl
    ·rintro o ⟨h,mh,hz,rfl⟩
     refine th (Q:=NxS (Sdr (rR ns hs2 ss2 d0 d1 d2) hs2 ss2 (k+1))) rfl ?_;refine asgE (Q:=NxS _) (BdP hs2 ss2 3) ?_ ?_
     ·simp [rR,f1,f2,f5,gdI (show e1%4<=1000 by omega),-u0Z,-u0k,-Res.bind_ok,-L2.go_ok,-Out.then_nx,bindN,goN,thenN]
      generalize hC:compD _ _ _ _ _=oc;have qc:∃ys,oc=.ok ys/\ys.length=(intL 0 (e1%4)).length/\∀y∈ys,∃b,y=D.str b/\(b∈hs2\/b∈ss2):=by
       rw[<- hC];refine u8L λd hd=>?_
       obtain⟨j,hj,rfl⟩:=u8q hd;have g0:dAdd (.int 2) (dN j)=.ok (dN (2+j)):=addN 2 j;obtain⟨x,_,g2⟩:=v0X (c:=dN) (rs:=[e0,e1,e2,e3,e4,e5]) (i:=2+j) (by simp;omega)
       rw[hrow] at g2;obtain⟨tt,et,ht⟩:=modN x (hs2++ss2).length (by simp;omega)
       have g3:dAdd (.int (hs2.length:Int)) (.int (ss2.length:Int))=.ok (.int ((hs2++ss2).length:Int)):=by rw[u7];exact addN _ _
       have g4:dMod (dN x) (.int ((hs2++ss2).length:Int))=.ok (dN tt):=by rw[show dMod (dN x) (.int ((hs2++ss2).length:Int))=_ from u0M (by simp;omega),et]
       obtain⟨b,mb,g5⟩:=v0X (c:=D.str) (rs:=hs2++ss2) (i:=tt) ht;refine⟨_,.str b,rfl,rfl,?_,b,rfl,v1.mp mb⟩;generalize hs2++ss2=us at f6 g3 g4 g5;simp[rhoC,gLen,f6,g0,g2,g3,g4,g5,-u0Z,-u0k,-Res.bind_ok,-L2.go_ok,-Out.then_nx,bindN,goN,thenN]
      obtain⟨ys,rfl,hy1,hy2⟩:=qc;obtain⟨bs,rfl,hb2⟩:=pull hy2;refine⟨_,rfl,bs,rfl,?_,hb2⟩;rw[u8r,x6] at hy1;omega
     ·rintro _ ⟨bs,rfl,lb,hb⟩
      refine th (Q:=NxS _) rfl ?_;refine thq (Q:=NxS _) (T:=BdO (rR ns hs2 ss2 d0 d1 d2) rs hs2 ss2 h k (.lst row)) ?_ ?_
      ·have k1:dEq (dN (e1 / 4%10)) (.int 0)=.ok (.bl (decide (e1 / 4%10=0))):=eq0 _
       refine brI (Q:=BdO _ _ _ _ _ _ _) (decide (e1 / 4%10=0)) (by simp[rR,frz,frzS,getV,f1,f3,f4,k1,-u0Z,-u0k,-Res.bind_ok,-L2.go_ok,-Out.then_nx,bindN,goN,thenN]) (λc=>?_) λc=>?_
       ·have k2:dSl (dS bs) none (some ((1:Nat):Int))=.ok (dS (bs.take 1)):=by
         show Res.ok (D.lst (cutC (bs.map D.str) none (some ((1:Nat):Int))))=_;rw[cut_n,<- List.map_take]
        have k2':dSl (dS bs) none (some 1)=.ok (dS (bs.take 1)):=k2;have k3:dAdd (dS bs) (dS (bs.take 1))=.ok (dS (bs++bs.take 1)):=by rw[v4l (by simp;omega),<- v5]
        refine goq (Q:=BdO _ _ _ _ _ _ _) (v:=dS (bs++bs.take 1)) (by simp[rR,asI,OD.toD,k2',k3,-u0Z,-u0k,-Res.bind_ok,-L2.go_ok,-Out.then_nx,bindN,goN,thenN]) ?_
        refine⟨bs++bs.take 1,by simp;omega,λb mb=>?_,rfl⟩
        rcases v1.mp mb with q|q
        ·exact hb b q
        ·exact hb b (z0F q)
       ·exact⟨bs,by omega,hb,rfl⟩
      ·rintro o ⟨bs,lb,hb,rfl⟩
       refine th (Q:=NxS _) rfl ?_;have r:RH hs2 ss2 (h,bs):=⟨mh,lb,hb⟩;have nn:=v2O H2 hg2 r sd.rh;have g1:gTuple [dS bs]=.ok (.tup (bs.map D.str)):=rfl;have hsz:rs.length<sizeLine:=t5 (show rs.length<=1000 by omega) (by decide)
       refine brI (Q:=NxS _) (!decide ((h,bs)∈rs)) (by simp[rR,frz,frzS,getV,OD.toD,g1,u1p,nn,-u0Z,-u0k,-Res.bind_ok,-L2.go_ok,-Out.then_nx,bindN,goN,thenN]) (λc=>?_) λc=>?_
       ·have c:(h,bs)∉rs:=by simpa using c
        refine⟨rR ns hs2 ss2 d0 d1 d2++[some (.own (.l ((rs++[(h,bs)]).map rT))),some (.val (.str h)),some (.val (dS bs)),some (.val (dN k)),some (.val (.lst row))],?_,rs++[(h,bs)],_,_,_,_,rfl,sd_new sd c r hz⟩;simp[rR,getL,g1,u1p,hsz,rT,-u0Z,-u0k,-Res.bind_ok,-L2.go_ok,-Out.then_nx,bindN,goN,thenN]
       ·have c:(h,bs)∈rs:=by simpa using c
        exact⟨_,rfl,rs,_,_,_,_,rfl,sd_old sd c hz⟩
  ·rintro o ⟨rs,a,b,c,d,rfl,sd⟩
   have n1:1<=rs.length:=by
    have:=sd.all 0 (by omega) (by omega)
    have h9:=List.length_pos_of_mem this;simp only[hsOf,x6] at h9;omega
   have n2:=sd.l;refine⟨_,rfl,rs,rfl,hs2,ss2,q4,q5,H2,hg2,n1,by omega,sd.nd,sd.rh,λp hp b hb hbh=>?_⟩
   obtain⟨j,hj,rfl⟩:=List.getElem_of_mem hbh;exact sd.all j hj (by omega)
end
end K19
namespace L2
open PySem PySem.Spec PyProof.Rows
noncomputable def noL (F:Hp):Hp:=λa=>match F a with
 | some (.lst _)=>none
 | some (.frz _ (.lst _))=>none
 | some (.dK _)=>none
 | x=>x
def v0E (F:Hp):Same (noL F) F:=λa o e=>by
 unfold noL at e;split at e
 ·cases e
 ·cases e
 ·cases e
 ·exact e
set_option tactic.hygienic true in
def v0G {F:Hp}{a:Addr}{u:HO} (e:F a=some u) (h1:∀xs,u≠.lst xs) (h2:∀o xs,u≠.frz o (.lst xs)) (h3:∀kvs,u≠.dK kvs):noL F a=some u:=by
 unfold noL;split
 ·rename_i xs q;rw[e] at q;exact absurd (Option.some.inj q) (h1 xs)
 ·rename_i o xs q;rw[e] at q;exact absurd (Option.some.inj q) (h2 o xs)
 ·rename_i xs q;rw[e] at q;exact absurd (Option.some.inj q) (h3 xs)
 ·exact e
set_option tactic.hygienic true in
def v0F {F:Hp}{a:Addr}{xs:List V}:¬ Rd (noL F) a (.lst xs):=λh=>by
 rcases h with h|⟨o,h⟩<;>(unfold noL at h;split at h)
 ·cases h
 ·cases h
 ·cases h
 ·rename_i n1 n2 n3;exact n1 xs h
 ·cases h
 ·cases h
 ·cases h
 ·rename_i n1 n2 n3;exact n2 o xs h
set_option tactic.hygienic true in
def noL_dK {F:Hp}{a:Addr}{xs:List (Key×V)}:noL F a≠some (.dK xs):=λh=>by
 unfold noL at h;split at h
 ·cases h
 ·cases h
 ·cases h
 ·rename_i n1 n2 n3;exact n3 xs h
mutual
noncomputable def nlD:D->Bool
 | .non=>true
 | .bl _=>true
 | .int _=>true
 | .str _=>true
 | .ty _=>true
 | .tup ds=>nlDs ds
 | .ins _ gs=>nlDf gs
 | _=>false
noncomputable def nlDs:List D->Bool
 | []=>true
 | d::ds=>nlD d&&nlDs ds
noncomputable def nlDf:List (Str×D)->Bool
 | []=>true
 | (_,d)::gs=>nlD d&&nlDf gs
end
section
variable {K:W.Frag}{F:Hp}
mutual
theorem Rp.noL:∀{x:V}{d:D},Rp K F x d->nlD d=true->Rp K (noL F) x d
 | _,_,.non,_=>.non
 | _,_,.bl b,_=>.bl b
 | _,_,.int i,_=>.int i
 | _,_,.str h,_=>.str h
 | _,_,.ty T,_=>.ty T
 | _,_,.tup hq hs,z=>.tup (by
   rcases hq with(h|⟨o,h⟩)|h
   ·exact .inl (.inl (v0G h (λ_ q=>by cases q) (λ_ _ q=>by cases q) λ_ q=>by cases q))
   ·exact .inl (.inr ⟨o,v0G h (λ_ q=>by cases q) (λ_ _ q=>by cases q) λ_ q=>by cases q⟩)
   ·exact .inr h) (Rps.noL hs z)
 | _,_,.ins hq hs,z=>.ins (v0G hq (λ_ q=>by cases q) (λ_ _ q=>by cases q) λ_ q=>by cases q) (Rpf.noL hs z)
 | _,_,.lst _ _,z=>absurd z v6
 | _,_,.dK _ _,z=>absurd z v6
 | _,_,.exc _ _ _,z=>absurd z v6
 | _,_,.dn _ _,z=>absurd z v6
 | _,_,.hdl _,z=>absurd z v6
theorem Rps.noL:∀{x:List V}{d:List D},Rps K F x d->nlDs d=true->Rps K (noL F) x d
 | _,_,.nil,_=>.nil
 | _,_,.cons h hs,z=>.cons (Rp.noL h (u6.mp z).1) (Rps.noL hs (u6.mp z).2)
theorem Rpf.noL:∀{x:List (Str×V)}{d:List (Str×D)},Rpf K F x d->nlDf d=true->Rpf K (noL F) x d
 | _,_,.nil,_=>.nil
 | _,_,.cons h hs,z=>.cons (Rp.noL h (u6.mp z).1) (Rpf.noL hs (u6.mp z).2)
end
def v0H {H F' H':Hp}{a:Addr}{xs:List V} (fh:Same F H) (s:Stp (noL F) H F' H') (h:Rd F' a (.lst xs)):F a=none/\H a=none/\H' a=some (.lst xs):=by
 have e:F' a=some (.lst xs):=by
  rcases h with h|⟨o,h⟩
  ·exact h
  ·exact absurd (.inr ⟨o,s.nz a o _ h⟩) (v0F (F:=F) (a:=a) (xs:=xs))
 have n:H a=none:=Classical.byContradiction λk=>by
  cases z:L2.noL F a with
  | none=>rw[s.no a z k] at e;cases e
  | some u=>rw[s.ff a u z] at e;cases e;exact v0F (.inl z)
 exact⟨fh.free n,n,s.fh a _ e⟩
def new_dct {H F' H':Hp}{a:Addr}{xs:List (Key×V)} (fh:Same F H) (s:Stp (noL F) H F' H') (e:F' a=some (.dK xs)):F a=none/\H a=none/\H' a=some (.dK xs):=by
 have n:H a=none:=Classical.byContradiction λk=>by
  cases z:L2.noL F a with
  | none=>rw[s.no a z k] at e;cases e
  | some u=>rw[s.ff a u z] at e;cases e;exact noL_dK z
 exact⟨fh.free n,n,s.fh a _ e⟩
end
def DB.of {X:Cx}{xq:XQ}{sts:List Stmt}{f:Rho->Out}{t:TS} (h:PSs X sts t) (k:∀B F ρ σ H T,Rel X.K B ρ σ F H->OkS X.K xq B T (f ρ)->t T σ H):DB X xq sts f :=
 ⟨λpins s σ H T I z9=>un5 z9 λB F ρ R q=>h pins s σ H T I (k B F ρ σ H T R q)⟩
noncomputable def mskS:Option Sl->Option Sl
 | some (.val d)=>if nlD d=true then some (.val d) else none
 | _=>none
noncomputable def msk (ρ:Rho):Rho:=ρ.map mskS
section
variable {K:W.Frag}{B:Hp×Hp}{ρ:Rho}{σ:St}{F H F' H':Hp}{a:Addr}{xq:XQ}{X:Cx}{T:Ends}
def u7E {i:Nat}{x:Sl} (h:(msk ρ)[i]?=some (some x)):∃d,x=.val d/\ρ[i]?=some (some (.val d))/\nlD d=true:=by
 unfold msk at h;rw[y4] at h;cases q:ρ[i]? with
 | none=>rw[q] at h;cases h
 | some z =>
  rw[q] at h
  match z,h with
  | none,h=>cases h
  | some (.own _),h=>cases h
  | some (.val d),h =>
   have h:(if nlD d=true then some (Sl.val d) else none)=some x:=Option.some.inj h
   by_cases c:nlD d=true
   ·rw[if_pos c] at h;exact⟨d,(Option.some.inj h).symm,rfl,c⟩
   ·rw[if_neg c] at h;cases h
def v0K (R:Rel K B ρ σ F H):Rel K (noL F,H) (msk ρ) σ (noL F) H where
 st:=Stp.refl ((v0E F).trans R.fh)
 len:=by rw[R.len];unfold msk;simp
 val i d e:=by
  obtain⟨d',h1,h2,h3⟩:=u7E e;cases h1;obtain⟨v,e1,e2⟩:=R.val i d h2;exact⟨v,e1,e2.noL h3⟩
 own i o e:=by
  obtain⟨d',h1,h2,h3⟩:=u7E e;cases h1
 dis i j o u a e:=by
  obtain⟨d',h1,h2,h3⟩:=u7E e;cases h1
noncomputable def un (F F':Hp):Hp:=λa=>match F a with
 | some o=>some o
 | none=>F' a
def un_l:Same F (un F F'):=λa o e=>by unfold un;rw[e]
def un_r (fh:Same F H') (fh':Same F' H'):Same F' (un F F'):=λa o e=>by
 unfold un;cases z:F a with
 | none=>exact e
 | some u=>have:=fh a u z;rw[fh' a o e] at this;exact this.symm
def un_step (fh:Same F H) (s:Stp (noL F) H F' H'):Stp F H (un F F') H' where
 ff:=un_l
 fh a o e:=by
  unfold un at e;cases z:F a with
  | none=>rw[z] at e;exact s.fh a o e
  | some u=>rw[z] at e;cases e;exact s.hh a _ (fh a _ z)
 hh:=s.hh
 no a n h:=by
  have n':noL F a=none:=by unfold noL;rw[n]
  unfold un;rw[n];exact s.no a n' h
 nz a o u e:=by
  unfold un at e;cases z:F a with
  | none=>rw[z] at e;have:=v0E F a _ (s.nz a o u e);rw[z] at this;cases this
  | some w=>rw[z] at e;exact e
def all_ok' {α:Type}{r:Res α}{P:α->Prop}{E:D->Prop} (a:α) (e:r=.ok a) (h:P a):r.all P E:=by rw[e];exact h
def u7Y {f:Rho->Out}{u:TS}{ρ':Rho} (R:Rel K B ρ σ F H) (e:f ρ=.nx ρ') (k:∀σ' F' H',Rel K B ρ' σ' F' H'->u T σ' H'):tSeq (liftS K xq f) u T σ H :=
 ⟨B,F,ρ,R,⟨by rw[e];exact k⟩⟩
def Rel.poke {h:HO} (R:Rel K B ρ σ F H) (fa:F a=none) (ba:B.2 a=none) (n:∀(i:Nat) o,ρ[i]?=some (some (.own o))->σ[i]?≠some (some (.ref a))):Rel K B ρ σ F (upd H a h):=by
 have e1:∀G:Hp,G a=none->Same G H->Same G (upd H a h):=λG n s b u x=>by
  unfold upd;by_cases z:b=a
  ·subst z;rw[n] at x;cases x
  ·rw[if_neg z];exact s b u x
 refine⟨⟨R.st.ff,e1 F fa R.fh,e1 B.2 ba R.st.hh,R.st.no,R.st.nz⟩,R.len,R.val,λi o e=>?_,R.dis⟩
 obtain⟨b,g,p1,p2,p3,p4,p5⟩:=R.own i o e;have ne:b≠a:=λw=>n i o e (w ▸ p1)
 exact⟨b,g,p1,p2,p3,by rw[u0j ne];exact p4,p5⟩
def Rel.drop {i:Nat} (R:Rel K B ρ σ F H):Rel K B (ρ.set i none) σ F H where
 st:=R.st
 len:=by simp[R.len]
 val j d e:=by
  rcases u0u e with⟨rfl,q,z⟩|⟨q,z⟩
  ·cases z
  ·exact R.val j d z
 own j o e:=by
  rcases u0u e with⟨rfl,q,z⟩|⟨q,z⟩
  ·cases z
  ·exact R.own j o z
 dis j k o u a e e':=by
  rcases u0u e with⟨rfl,q,z⟩|⟨q,z⟩
  ·cases z
  ·rcases u0u e' with ⟨rfl,q',z'⟩ | ⟨q',z'⟩
   ·cases z'
   ·exact R.dis j k o u a z z'
def v1A {o:Expr}{fe:Rho->Res D}{apos cpos pos:Pos} (he:DE X xq o fe) (hbase:attributeBase o "clear" X.env (eval o X.env)=eval o X.env:=by rfl) (hline:(apos.endLine==cpos.line)=true:=by rfl)
  (hsw:swapsWith (.Call (.Attribute o "clear" apos) [] [] cpos) none pos.line X.env=pure false:=by rfl) :
  DS X xq (.Expr (.Call (.Attribute o "clear" apos) [] [] cpos) pos) (λρ=>match fe (msk ρ) with | .ok (.lst _)=>.nx ρ|_=>.bad) :=
 DS.of (u4a (v3Q PySem.F.plainAttrs_list PySem.F.slot_list_clear PySem.F.type_list_clear v2S he.out hbase hline) hsw) λB F ρ σ H T R q=>by
  refine⟨_,_,_,v0K R,?_⟩;generalize fe (msk ρ)=r at q
  match r,q with
  | .err _,q=>exact q.out.elim
  | .bad,q=>exact q.out.elim
  | .ok (.lst ds),q =>
   intro v F' H' s p;cases p with
   | lst hq hs =>
    obtain⟨n1,n2,e1⟩:=v0H R.fh s hq;exact⟨.inl ⟨rfl,_,.inl (.inl e1)⟩,_,_,rfl,rfl,e1,q.out σ F _ (R.step (Stp.only R.fh (v2s s.hh n2)))⟩
  | .ok .non,q=>exact q.out.elim
  | .ok (.bl _),q=>exact q.out.elim
  | .ok (.int _),q=>exact q.out.elim
  | .ok (.str _),q=>exact q.out.elim
  | .ok (.ty _),q=>exact q.out.elim
  | .ok (.tup _),q=>exact q.out.elim
  | .ok (.dct _),q=>exact q.out.elim
  | .ok (.ins _ _),q=>exact q.out.elim
  | .ok (.exc _ _),q=>exact q.out.elim
  | .ok (.dn _ _),q=>exact q.out.elim
  | .ok (.hdl _),q=>exact q.out.elim
structure Fd (K:W.Frag) (B:Hp×Hp) (ρ:Rho) (a:Addr) (kvs:List (Key×V)) (N:Nat) (σ:St) (F H:Hp):Prop where
 r:Rel K B ρ σ F H
 ha:H a=some (.dK kvs)
 fa:F a=none
 ba:B.2 a=none
 na:∀(i:Nat) o,ρ[i]?=some (some (.own o))->σ[i]?≠some (some (.ref a))
 ls:∀k v,valV kvs k=some v->∃b xs,v=.ref b/\H b=some (.lst xs)/\xs.length<=N/\F b=none/\B.2 b=none/\∀(i:Nat) o,ρ[i]?=some (some (.own o))->σ[i]?≠some (some (.ref b))
variable {kvs:List (Key×V)}{N:Nat}
theorem Fd.step (M:Fd K B ρ a kvs N σ F H) (s:Stp F H F' H'):Fd K B ρ a kvs N σ F' H' where
 r:=M.r.step s
 ha:=s.hh _ _ M.ha
 fa:=s.no _ M.fa (by rw[M.ha];simp)
 ba:=M.ba
 na:=M.na
 ls k v e:=by obtain⟨b,xs,h1,h2,h3,h4,h5,h6⟩:=M.ls k v e;exact⟨b,xs,h1,s.hh _ _ h2,h3,s.no _ h4 (by rw[h2];simp),h5,h6⟩
def Fd.put {b:Addr}{xs:List V}{y v:V}{k:Key} (M:Fd K B ρ a kvs N σ F H) (e:valV kvs k=some (.ref b)) (eb:H b=some (.lst xs)):Fd K B ρ a kvs (N+1) σ F (upd H b (.lst (xs++[y]))):=by
 obtain⟨b',xs',h1,h2,h3,h4,h5,h6⟩:=M.ls k _ e;cases h1;rw[eb] at h2;cases h2;have ne:a≠b:=λz=>by rw[<- z,M.ha] at eb;cases eb
 refine⟨M.r.poke h4 h5 h6,by rw[u0j ne];exact M.ha,M.fa,M.ba,M.na,λk' v' e'=>?_⟩
 obtain⟨c,ys,g1,g2,g3,g4,g5,g6⟩:=M.ls k' v' e';by_cases z:c=b
 ·subst z
  rw[eb] at g2;cases g2;exact⟨c,_,g1,u0g,by simp;omega,g4,g5,g6⟩
 ·exact⟨c,ys,g1,by rw[u0j z];exact g2,by omega,g4,g5,g6⟩
theorem Fd.set {j:Nat}{x:V}{d:D} (M:Fd K B ρ a kvs N σ F H) (hj:ρ[j]?=some none) (p:Rp K F x d):Fd K B (ρ.set j (some (.val d))) a kvs N (σ.set j (some x)) F H:=by
 have own:∀(c:Addr),(∀(i:Nat) o,ρ[i]?=some (some (.own o))->σ[i]?≠some (some (.ref c)))->∀(i:Nat) o,(ρ.set j (some (.val d)))[i]?=some (some (.own o))->(σ.set j (some x))[i]?≠some (some (.ref c)):=λc h i o e=>by
  rcases u0u e with⟨rfl,q,z⟩|⟨q,z⟩
  ·cases z
  ·rw[u0B q];exact h i o z
 exact⟨M.r.set p,M.ha,M.fa,M.ba,own a M.na,λk v e=>by obtain⟨b,xs,h1,h2,h3,h4,h5,h6⟩:=M.ls k v e;exact⟨b,xs,h1,h2,h3,h4,h5,own b h6⟩⟩
def Fd.unset {j:Nat} (M:Fd K B ρ a kvs N σ F H):Fd K B (ρ.set j none) a kvs N σ F H:=by
 have own:∀(c:Addr),(∀(i:Nat) o,ρ[i]?=some (some (.own o))->σ[i]?≠some (some (.ref c)))->∀(i:Nat) o,(ρ.set j none)[i]?=some (some (.own o))->σ[i]?≠some (some (.ref c)):=λc h i o e=>by
  rcases u0u e with⟨rfl,q,z⟩|⟨q,z⟩
  ·cases z
  ·exact h i o z
 exact⟨M.r.drop,M.ha,M.fa,M.ba,own a M.na,λk v e=>by obtain⟨b,xs,h1,h2,h3,h4,h5,h6⟩:=M.ls k v e;exact⟨b,xs,h1,h2,h3,h4,h5,own b h6⟩⟩
def Fd.base {C:Hp×Hp}{F0 H0:Hp} (M:Fd K (F,C.2) ρ a kvs N σ F' H') (st:Stp C.1 C.2 F H0):Fd K C ρ a kvs N σ F' H' :=
 ⟨M.r.unbase st,M.ha,M.fa,M.ba,M.na,M.ls⟩
def Fd.whole (M:Fd K B ρ a kvs N σ F H) (no:∀(j:Nat) o,ρ[j]?≠some (some (.own o))):Rel K (F,H) ρ σ F H :=
 ⟨Stp.refl M.r.fh,M.r.len,M.r.val,λi o e=>absurd e (no i o),λi j o u a e=>absurd e (no i o)⟩
def Fd.back {ρ2:Rho}{σ2:St}{F2 H2:Hp} (M:Fd K B ρ a kvs N σ F H) (R:Rel K (F,H) ρ2 σ2 F2 H2):Fd K B ρ2 a kvs N σ2 F2 H2:=by
 have own:∀(c:Addr),H c≠none->∀(i:Nat) o,ρ2[i]?=some (some (.own o))->σ2[i]?≠some (some (.ref c)):=λc h i o e z=>by
  obtain⟨b,g,p1,p2,p3,p4,p5⟩:=R.own i o e;rw[z] at p1;cases p1;exact h p3
 have hn:H a≠none:=by rw[M.ha];simp
 refine⟨⟨M.r.st.trans R.st,R.len,R.val,λi o e=>?_,R.dis⟩,R.st.hh _ _ M.ha,R.st.no _ M.fa hn,M.ba,own a hn,λk v e=>?_⟩
 ·obtain ⟨b,g,p1,p2,p3,p4,p5⟩:=R.own i o e
  exact⟨b,g,p1,p2,M.r.st.hh.free p3,p4,p5⟩
 ·obtain ⟨b,xs,h1,h2,h3,h4,h5,h6⟩:=M.ls k v e
  have hb:H b≠none:=by rw[h2];simp
  exact⟨b,xs,h1,R.st.hh _ _ h2,h3,R.st.no _ h4 hb,h5,own b hb⟩
abbrev tApp (K:W.Frag) (xq:XQ) (i j:Nat) (fz:Rho->Res D):TS:=tDrop (tBM K "list" rAppend (tDGet (tVar i) (tVar j)) (tCons (liftE K xq fz) tNil))
def for_app {i j:Nat}{hs:List Str}{dz:D}{fi:Rho->Res (List D)}{fz:Rho->Res D} (M:Fd K B ρ a kvs N σ F H) (hi:ρ[i]?=some (some (.val (.hdl a)))) (hj:ρ[j]?=some none) (hf:fi ρ=.ok (hs.map D.str)) (hz:∀d,fz (ρ.set j (some (.val d)))=.ok dz)
  (hk:∀h∈hs,(valV kvs (.inr h)).isSome=true) (hN:N+hs.length<sizeLine) (k:∀σ' F' H',Fd K B ρ a kvs (N+hs.length) σ' F' H'->T.nx σ' H'):tFor (liftI K xq fi) (gName j) (tApp K xq i j fz) T σ H:=by
 have ij:i≠j:=λz=>by rw[z,hj] at hi;cases hi
 refine⟨B,F,ρ,M.r,all_ok' _ hf λJ F0 H0 s0 fd=>?_⟩
 have M0:=M.step s0;have st0:=M0.r.st;have M1:Fd K (F0,B.2) ρ a kvs N σ F0 H0:=⟨M0.r.rebase,M0.ha,M0.fa,M0.ba,M0.na,M0.ls⟩;refine⟨λn m σ' H'=>m=hs.length - n/\n<=hs.length/\∃F',Fd K (F0,B.2) ρ a kvs (N+n) σ' F' H',⟨hs.length,rfl,q9 _,F0,M1⟩,?_⟩
 rintro n m σ' H' ⟨rfl,hn,F1,M2⟩;have e0:Same F0 F1:=M2.r.st.ff;by_cases hlt:n<hs.length
 ·right
  have ln:(hs.map D.str).length=hs.length:=by simp
  refine⟨fd.go n H' (e0.trans M2.r.fh) (by omega),λσ2 H2=>n+1<=hs.length/\∃F2,Fd K (F0,B.2) ρ a kvs (N+(n+1)) σ2 F2 H2,λσ2 H2 p=>⟨hs.length - (n+1),by omega,rfl,p.1,p.2⟩,λx H2 y=>?_⟩
  have hd:(hs.map D.str)[n]?=some (.str hs[n]):=by simp[hlt]
  obtain⟨F2,s2,p2⟩:=fd.yld n F1 H' x H2 _ e0 M2.r.fh hd y;have M3:=(M2.step s2).set hj p2;cases p2 with
  | str hh =>
   obtain⟨v,hv⟩:=Option.isSome_iff_exists.mp (hk hs[n] (z0A hlt));obtain⟨b,xs,rfl,h2,h3,h4,h5,h6⟩:=M3.ls _ _ hv;have hi':(ρ.set j (some (.val (.str hs[n]))))[i]?=some (some (.val (.hdl a))):=by rw[u0B ij];exact hi
   obtain⟨va,ga,pa⟩:=M3.r.val i _ hi';cases pa;have jl:j<σ'.length:=by rw[M2.r.len];exact(y6.mp hj).1
   refine⟨.ref a,ga,.str hs[n],u3P jl,a,.ref b,rfl,by rw[<- hv];exact DGet.k (k:=.inr hs[n]) M3.ha,.inl ⟨rfl,xs,.inl (.inl h2)⟩,?_⟩
   refine⟨_,F2,_,M3.r,all_ok' _ (hz _) λw F4 H4 s4 p4=>?_⟩
   have M4:=M3.step s4;have h2':=s4.hh _ _ h2;refine⟨b,xs,w,rfl,rfl,h2',by omega,hlt,F4,?_⟩
   have M5:=((M4.put (y:=w) (v:=w) hv h2').unset (j:=j));rw[show(ρ.set j (some (.val (.str hs[n])))).set j none=ρ by
    rw[List.set_set];apply List.ext_getElem?;intro t;by_cases c:t=j
    ·subst c;rw[u3P (y6.mp hj).1,hj]
    ·rw[u0B c]] at M5
   exact M5
 ·left
  have e:n=hs.length:=by omega
  subst e;exact⟨fd.stop _ H' (e0.trans M2.r.fh) (by simp),k σ' F1 H' (M2.base (F0:=F0) st0)⟩
def rDClear:V->List V->Hp->VK->Prop:=λx vs H Q=>∃a kvs,x=.ref a/\vs=[]/\H a=some (.dK kvs)/\Q .non (upd H a (.dK []))
def v0J:MtR X "dict.clear" rDClear:=by
 intro pins s σ H x vs v us Q I rx rv h;obtain⟨l,xs,rfl,rfl,hH,q⟩:=h;cases rx;have hus:=rv.zero;subst hus;exact d_clear I hH λs' I'=>⟨.non,_,I',rfl,q⟩
abbrev tDClr (K:W.Frag) (i:Nat):TS:=tDrop (tBM0 K "dict" rDClear (tVar i))
def clr_ok {i:Nat} (M:Fd K B ρ a kvs N σ F H) (hi:ρ[i]?=some (some (.val (.hdl a)))) (k:∀H',Rel K B (ρ.set i none) σ F H'->T.nx σ H'):tDClr K i T σ H:=by
 obtain⟨va,ga,pa⟩:=M.r.val i _ hi;cases pa;exact⟨.ref a,ga,.inr (.inr (.inl ⟨rfl,.inl ⟨_,M.ha⟩⟩)),a,kvs,rfl,rfl,M.ha,k _ ((M.r.poke M.fa M.ba M.na).drop)⟩
def v2Q {i N:Nat}{W:List (D×D)}{fe:Rho->Res D}{fT:Rho->Res Bool}{u v w:TS} (R:Rel K B ρ σ F H) (no:∀(j:Nat) o,ρ[j]?≠some (some (.own o))) (il:i<ρ.length) (he:fe (msk ρ)=.ok (.dct W)) (hT:fT (frz (ρ.set i (some (.val (.dct W)))))=.ok false)
  (hW:∀k d,valD W k=some d->∃ds,d=.lst ds/\ds.length<=N)
  (k:∀a kvs F1 σ' H1,Fd K B (ρ.set i (some (.val (.hdl a)))) a kvs N σ' F1 H1->(∀k,(valV kvs k).isSome=(valD W k).isSome)->tSeq v w T σ' H1) :
  tSeq (tAsg (liftE K xq fe) (gName i)) (tSeq (tIfS (liftT K xq fT) u tNext) (tSeq v w)) T σ H:=by
 refine⟨_,_,_,v0K R,all_ok' _ he λx F' H' s p=>?_⟩
 cases p with
 | @dK a kvs _ hq hr =>
  have s1:=un_step R.fh s;have R1:=(R.step s1).set (i:=i) (v:=.ref a) (d:=.dct W) ((Rp.dK hq hr).same (un_r (R.fh.trans s.hh) s.fh));refine⟨_,_,_,R1,all_ok' _ hT λH2 s2=>?_⟩
  have s3:Stp F H F H2:=Stp.only R.fh (s.hh.trans s2.hh);have R2:=(R.step s3).set (i:=i) (.hdl a);obtain⟨n1,n2,e1⟩:=new_dct R.fh s hq;have no':∀(c:Addr) (j:Nat) o,(ρ.set i (some (.val (.hdl a))))[j]?=some (some (.own o))->(σ.set i (some (.ref a)))[j]?≠some (some (.ref c)):=λc j o e=>by
   rcases u0u e with⟨rfl,q,z⟩|⟨q,z⟩
   ·cases z
   ·exact absurd z (no j o)
  refine k a kvs F _ H2 ⟨R2,s2.hh _ _ e1,n1,R.st.hh.free n2,no' a,λk v e=>?_⟩ λk=>?_
  ·have hv:=hr.val (k:=k)
   cases c:valD W k with
   | none=>rw[c] at hv;rw[hv] at e;cases e
   | some d =>
    rw[c] at hv;obtain⟨v',g1,g2⟩:=hv;rw[g1] at e;cases e;obtain⟨ds,rfl,hl⟩:=hW k d c;cases g2 with
    | lst hq2 hs2 =>
     obtain⟨m1,m2,m3⟩:=v0H R.fh s hq2;exact⟨_,_,rfl,s2.hh _ _ m3,by rw[hs2.length];exact hl,m1,R.st.hh.free m2,no' _⟩
  ·have hv:=hr.val (k:=k)
   cases c:valD W k with
   | none=>rw[c] at hv;rw[show valV kvs k=none from hv];rfl
   | some d=>rw[c] at hv;obtain⟨v',g1,g2⟩:=hv;rw[g1];rfl
def Mid (W:List (D×D)) (N:Nat) (f2 f3 f4 f5:Rho->Out) (fi:Rho->Res (List D)) (fz:Rho->Res D) (fr:Rho->Out) (a:Addr) (ρ:Rho):Prop :=
 ∃(ρ2 ρ3 ρ4:Rho) (hs:List Str) (dz:D),f2 ρ=.nx ρ2/\f3 ρ2=.nx ρ3/\f4 ρ3=.nx ρ4/\f5 ρ4=.nx ρ4/\ρ4[5]?=some (some (.val (.hdl a)))/\ρ4[10]?=some none/\fi ρ4=.ok (hs.map D.str)/\(∀d,fz (ρ4.set 10 (some (.val d)))=.ok dz)/\(∀h∈hs,(valD W (.inr h)).isSome=true)/\N+hs.length<sizeLine/\fr (ρ4.set 5 none)=.rt (.bl true)
def Mid.of {W:List (D×D)}{f2 f3 f4 f5 fr:Rho->Out}{fi:Rho->Res (List D)}{fz:Rho->Res D}{ρ2 ρ3:Rho}{Q:Out->Prop}{hs:List Str}{dz:D} (e2:f2 ρ=.nx ρ2) (e3:f3 ρ2=.nx ρ3) (q:Q (f4 ρ3))
  (k:∀o,Q o->∃ρ4,o=.nx ρ4/\f5 ρ4=.nx ρ4/\ρ4[5]?=some (some (.val (.hdl a)))/\ρ4[10]?=some none/\fi ρ4=.ok (hs.map D.str)/\(∀d,fz (ρ4.set 10 (some (.val d)))=.ok dz)/\(∀h∈hs,(valD W (.inr h)).isSome=true)/\N+hs.length<sizeLine/\fr (ρ4.set 5 none)=.rt (.bl true)):Mid W N f2 f3 f4 f5 fi fz fr a ρ :=
 let ⟨ρ4,h,r⟩:=k _ q
 ⟨ρ2,ρ3,ρ4,hs,dz,e2,e3,h,r⟩
def tail_ok {W:List (D×D)}{fe:Rho->Res D}{fT:Rho->Res Bool}{f2 f3 f4 f5 fr:Rho->Out}{fi:Rho->Res (List D)}{fz:Rho->Res D}{u:TS} (R:Rel K B ρ σ F H) (no:∀(j:Nat) o,ρ[j]?≠some (some (.own o))) (il:5<ρ.length) (he:fe (msk ρ)=.ok (.dct W)) (hT:fT (frz (ρ.set 5 (some (.val (.dct W)))))=.ok false)
  (hW:∀k d,valD W k=some d->∃ds,d=.lst ds/\ds.length<=N) (hm:∀a,Mid W N f2 f3 f4 f5 fi fz fr a (ρ.set 5 (some (.val (.hdl a))))) (q:∀v F H,Stp B.1 B.2 F H->Rp K F v (.bl true)->T.rt v H) :
  tSeq (tAsg (liftE K xq fe) (gName 5)) (tSeq (tIfS (liftT K xq fT) u tNext) (tSeq (liftS K xq f2) (tSeq (liftS K xq f3) (tSeq (liftS K xq f4) (tSeq (liftS K xq f5) (tSeq (tFor (liftI K xq fi) (gName 10) (tApp K xq 5 10 fz)) (tSeq (tDClr K 5) (liftS K xq fr)))))))) T σ H:=by
 refine v2Q R no il he hT hW λa kvs F1 σ1 H1 M hk=>?_
 obtain⟨ρ2,ρ3,ρ4,hs,dz,e2,e3,e4,e5,h5,h10,ei,ez,hv,hN,er⟩:=hm a;have R1:=M.whole λj o e=>by
  rcases u0u e with⟨rfl,q,z⟩|⟨q,z⟩
  ·cases z
  ·exact no j o z
 refine u7Y R1 e2 λσ2 F2 H2 R2=>u7Y R2 e3 λσ3 F3 H3 R3=>u7Y R3 e4 λσ4 F4 H4 R4=>u7Y R4 e5 λσ5 F5 H5 R5=>?_
 refine for_app (M.back R5) h5 h10 ei ez (λh m=>(hk _).trans (hv h m)) hN λσ6 F6 H6 M6=>?_
 exact clr_ok M6 h5 λH7 R7=>⟨B,F6,_,R7,⟨by rw[er];exact q⟩⟩
end
end L2
namespace K19
open PySem L2 KW PySem.Spec PyProof.Rows
open Bk
noncomputable def r5 (A:Adr) (s:D) (rs:List RR) (m1 m2:List (Str×Nat)):Rho:=[some (.val s),some (.val (dR rs)),some (.val (gI A rs [])),some (.val (.dct (kv nD m1))),some (.val (.dct (kv nD m2))),none,none,none,none,none,none,none,none,none]
inductive TlOk (A:Adr) (ρ:Rho):Prop
 | mk (s:D) (rs:List RR) (m1 m2:List (Str×Nat)) (g:Gg rs) (l1:lk m1=Lz rs) (l2:lk m2=Lz (emp true rs)) (e:ρ=r5 A s rs m1 m2)
open Classical in
noncomputable def tailF (A:Adr) (ρ:Rho):Out:=if TlOk A ρ then .rt (.bl true) else .bad
theorem v0a {β:Type} (g:β->D) (i:Int):∀m:List (Str×β),valD (kv g m) (.inl i)=none
 | []=>rfl
 | p::m=>v0a g i m
def pw_lst {rs:List RR} (g:Gg rs) {W:WW} (h:PW rs W) (k:Key) (d:D) (e:valD (kv wyD W) k=some d):∃ds,d=.lst ds/\ds.length<=1000:=by
 have n20:=g.f.n;cases k with
 | inl i =>
  rw[v0a] at e;cases e
 | inr z =>
  rw[u1T] at e;cases c:lk W z with
  | none=>rw[c] at e;cases e
  | some l =>
   rw[c] at e;cases e;refine⟨_,rfl,?_⟩;rw[x6];rcases h with⟨_,rfl⟩|⟨_,b⟩
   ·cases c
   ·have:=(b.way z l (u4Y c)).2
    have:=u5m g b
    omega
def eq_nums (ns:List Nat):dEq (.lst (ns.map dN)) (.lst (ns.map dN))=.ok (.bl true):=by
 show(cmpD _).bind _=_;rw[u2P,Res.bind_ok,Res.bind_ok];show Res.ok (D.bl (PyData.eqvAll _ _))=_;rw[u2F]
noncomputable abbrev r8 (A:Adr) (s:D) (rs:List RR) (m1 m2:List (Str×Nat)) (d:D) (x8 x9 x11 x12 x13:Option Sl):Rho:=[some (.val s),some (.val (dR rs)),some (.val (gI A rs [])),some (.val (.dct (kv nD m1))),some (.val (.dct (kv nD m2))),none,some (.val (.lst ((rS rs).map D.str))),some (.val d),x8,x9,none,x11,x12,x13]
def int_n (n:Nat):intL 0 n=(List.range n).map dN:=by
 unfold intL;refine List.map_congr_left λi _=>?_
 rw[Int.zero_add]
def ne_nilN (ns:List Nat):dNe (.lst (ns.map dN)) (.lst [])=.ok (.bl (!ns.isEmpty)):=by
 show(cmpD _).bind _=_;rw[u2P,Res.bind_ok,show cmpD (.lst [])=.ok (.list []) from u2P [],Res.bind_ok]
 cases ns<;>rfl
def ne_nilS {ss:List Str} (h:∀b∈ss,goodS b=true):dNe (.lst (ss.map D.str)) (.lst [])=.ok (.bl (!ss.isEmpty)):=by
 show(cmpD _).bind _=_;rw[v1L h,Res.bind_ok,show cmpD (.lst [])=.ok (.list []) from u2P [],Res.bind_ok]
 cases ss<;>rfl
def u5X {rs:List RR} (g:Gg rs) {z:Str} (m:z∈vastL rs):goodS z=true:=by
 have m:=(s9.mp m).1;have m:z∈rs.map (·.1):=u1n.mp ((u0R _).mem_iff.mp m)
 obtain⟨p,mp,rfl⟩:=x5.mp m;exact(g.b p mp).1.g
set_option tactic.hygienic true in
def ne_told {rs:List RR} (g:Gg rs):dNe (toldR rs) (toldR rs)=.ok (.bl false):=by
 unfold toldR;split
 ·rename_i n _
  exact u8i (a:=.list [.str "dead",.int n,.bool true,.bool false]) (u0r (by
   have:PyData.strOk "dead"=true:=by decide +kernel
   simp[SeqAt.shaped,PyData.canLay0,PyData.canLayAll0,PyData.depth,PyData.depthAll,this])) (by
   show(((n:Int)==(n:Int))&&true)=true
   simp)
 ·split
  ·rename_i z e
   have gz:=u5X g (List.mem_of_mem_head? e);simp[goodS] at gz;exact u8i (a:=.list [.str "vast",.str z,.bool true,.bool false]) (u0r (by
    have:PyData.strOk "vast"=true:=by decide +kernel
    simp[SeqAt.shaped,PyData.canLay0,PyData.canLayAll0,PyData.depth,PyData.depthAll,this,gz.1])) (by
    show((z==z)&&true)=true
    simp)
  ·rfl
def toldQ (A:Adr) (s:D) (rs:List RR) (m1 m2:List (Str×Nat)) (d:D) (x8 x9:Option Sl) (o:Out):Prop:=o=.nx (r8 A s rs m1 m2 d x8 x9 (some (.val (.lst ((deadL rs).map dN)))) (some (.val (.lst ((vastL rs).map D.str)))) (some (.val (toldR rs))))
theorem u7D {α:Type} (f:α->D) (h:∀x,nlD (f x)=true):∀xs:List α,nlDs (xs.map f)=true
 | []=>rfl
 | x::xs=>by
  show(nlD (f x)&&nlDs (xs.map f))=true;rw[h x,u7D f h xs];rfl
def nl_gI {A:Adr}{rs:List RR} (g:Gg rs):nlD (gI A rs [])=true:=by
 show(nlDs (rs.map rT)&&(nlDs []&&(nlD (strt (dR rs))&&true)))=true;rw[v3D g.n,u7D rT (λp=>?_) rs]
 ·rfl
 ·show (true&&(nlDs (p.2.map D.str)&&true))=true
  rw[u7D D.str (λ_=>rfl)]
  rfl
noncomputable abbrev r7 (A:Adr) (s:D) (rs:List RR) (m1 m2:List (Str×Nat)) (a:Addr) (ds:List Nat) (x8 x9:Option Sl):Rho:=[some (.val s),some (.val (dR rs)),some (.val (gI A rs [])),some (.val (.dct (kv nD m1))),some (.val (.dct (kv nD m2))),some (.val (.hdl a)),some (.val (.lst ((rS rs).map D.str))),some (.own (.l (ds.map dN))),x8,x9,none,none,none,none]
noncomputable def dueB (rs:List RR) (p:RR):Bool:=decide (p.1∈rS rs)&&fr rs p
def dueQ (A:Adr) (s:D) (rs:List RR) (m1 m2:List (Str×Nat)) (a:Addr) (o:Out):Prop:=∃x8 x9,o=.nx (r7 A s rs m1 m2 a ((livN rs).map (·.1)) x8 x9)
def dueS (A:Adr) (s:D) (rs:List RR) (m1 m2:List (Str×Nat)) (a:Addr) (k:Nat) (xs:List RR) (ρ:Rho):Prop:=∃ds x8 x9,ρ=r7 A s rs m1 m2 a ds x8 x9/\ds++((xs.zipIdx k).filter λq=>dueB rs q.1).map (·.2)=(livN rs).map (·.1)/\ds.length+xs.length<=1000/\∀p∈xs,p∈rs
def due_all (rs:List RR):[]++((rs.zipIdx 0).filter λq=>dueB rs q.1).map (·.2)=(livN rs).map (·.1):=by
 unfold livN fruN allN;rw[List.filter_filter,List.filter_map,u5,List.nil_append];rfl
def dueP (A:Adr) (s:D) (rs:List RR) (m1 m2:List (Str×Nat)) (a:Addr) (k:Nat) (p:RR) (xs:List RR) (ds:List Nat) (o:Out):Prop:=∃x8 x9,o=.nx (r7 A s rs m1 m2 a (if dueB rs p=true then ds++[k] else ds) x8 x9)
def due_k {A:Adr}{s:D}{rs:List RR}{m1 m2:List (Str×Nat)}{a:Addr}{k:Nat}{p:RR}{xs:List RR}{ds:List Nat}{o:Out} (e:ds++(((p::xs).zipIdx k).filter λq=>dueB rs q.1).map (·.2)=(livN rs).map (·.1)) (hz:ds.length+(p::xs).length<=1000) (mx:∀q∈p::xs,q∈rs) (h:dueP A s rs m1 m2 a k p xs ds o) :
  (∃ρ2,o=.nx ρ2/\dueS A s rs m1 m2 a (k+1) xs ρ2)\/∃v,o=.rt v/\dueQ A s rs m1 m2 a (.rt v):=by
 obtain⟨x8,x9,rfl⟩:=h;refine .inl ⟨_,rfl,_,x8,x9,rfl,?_,?_,λq m=>mx q (z4 _ m)⟩
 ·rw [<- e,List.zipIdx_cons,List.filter_cons]
  cases dueB rs p<;>simp
 ·simp at hz
  split
  ·simp;omega
  ·omega
section
variable {K:W.Frag}{B:Hp×Hp}{ρ:Rho}{σ:L2.St}{F H:Hp}{xq:XQ}{T:Ends}{A:Adr}
set_option tactic.hygienic true in
def tail19 {fe:Rho->Res D}{fT:Rho->Res Bool}{f2 f3 f4 f5 fr:Rho->Out}{fi:Rho->Res (List D)}{fz:Rho->Res D}{u:TS} (R:Rel K B ρ σ F H) (q:OkS K xq B T (tailF A ρ))
  (he:∀s rs m1 m2,Gg rs->lk m1=Lz rs->∃W,PW rs W/\fe (msk (r5 A s rs m1 m2))=.ok (.dct (kv wyD W))/\fT (frz ((r5 A s rs m1 m2).set 5 (some (.val (.dct (kv wyD W))))))=.ok false)
  (hm:∀s rs m1 m2 W a,Gg rs->lk m1=Lz rs->lk m2=Lz (emp true rs)->PW rs W->Mid (kv wyD W) 1000 f2 f3 f4 f5 fi fz fr a ((r5 A s rs m1 m2).set 5 (some (.val (.hdl a))))) :
  tSeq (tAsg (liftE K xq fe) (gName 5)) (tSeq (tIfS (liftT K xq fT) u tNext) (tSeq (liftS K xq f2) (tSeq (liftS K xq f3) (tSeq (liftS K xq f4) (tSeq (liftS K xq f5) (tSeq (tFor (liftI K xq fi) (gName 10) (tApp K xq 5 10 fz)) (tSeq (tDClr K 5) (liftS K xq fr)))))))) T σ H:=by
 unfold tailF at q;split at q
 case isFalse=>exact False.elim q.out
 rename_i c;obtain⟨s,rs,m1,m2,g,l1,l2,rfl⟩:=c;obtain⟨W,pw,e1,e2⟩:=he s rs m1 m2 g l1;refine tail_ok R (λj o e=>?_) (by simp[r5]) e1 e2 (pw_lst g pw) (λa=>hm s rs m1 m2 W a g l1 l2 pw) q.out
 match j with
 | 0|1|2|3|4|5|6|7|8|9|10|11|12|13=>cases e
 | j+14=>cases e
end
section
variable {P:Program}{w:World}{K:W.Frag}{mg:MG}{base:Heap}{f:Addr}{fd:FuncData}{A:Adr}
def pr_law {a2o:FD} (a3g:Callee P w K mg base 5 "_law_rules" ["_law_script","_law_at"] (spF K a2o)) {a2m:FD} (a1z:Callee P w K mg base 3 "_law_sizes" ["_law_rules_here","_law_empty"] (spF K a2m)) {a1j:FD} (a1t:Callee P w K mg base 7 "reached" ["grammar"] (spF K a1j)) {a0y:FD} (a1h:Callee P w K mg base 3 "_law_reach" ["_law_rules_here","_law_sizes_here"] (spF K a0y)) {a2p:FD} (a3i:Callee P w K mg base 1 "_law_great" ["_law_rules_here","_law_sizes_here","_law_bare"] (spF K a2p)) {a2v:FD} (a2l:Callee P w K mg base 4 "_law_ways" ["_law_rules_here","_law_found","_law_sizes_here"] (spF K a2v)) {a2w:FD} (a3s:CalleeX P w K mg base 10 "_law_told" ["_law_grammar"] a2w) {a2u:FD} (a2s:Callee P w K mg base 8 "live" ["grammar"] (spF K a2u)) {a0a:FD} (a0f:Callee P w K mg base 2 "_law_total" ["_law_sizes_here","_law_body"] (spF K a0a)) (k_Grammar:KCal P w K mg base 7 "Grammar" A.Grammar ["self","rules","ranks"] [] gInit) (k1_Grammar:KCal P w K mg base 7 "Grammar" A.Grammar ["self","rules","ranks"] [.non] gInit) (a4q:RulesG a2o) (a1w:LzG a2m) (a1r:RcG A a1j) (a3p:RhG a0y) (a4s:GtG a2p) (a4l:WaG a2v) (a4w:∀rs kk,Gg rs->a2w [gI A rs kk]=.ok (toldR rs)) (a4a:∀rs kk,Gg rs->a2u [gI A rs kk]=.ok (nums (livN rs))) (a1o:TtG a0a) (F:Fun K "law" "law" u4F f fd) (T:Txt P w K mg A):∃G,FnOk P w K mg base (CXe P w) 11 f fd ["_law_script"] (spX K G)/\∀ns:List Int,G [scr ns]=.ok (.bl true):=by
 refine⟨_,F.okTX (k:=10) u1h (λcdv Ar outer s H E hr hq=>u0d (ds_n u1h.nd (d_fn a3g hr (u0a (dv 0) (u0a u0c u0b))))
  (u0d (ds_n u1h.nd (d_makeG k1_Grammar hr (u0a (DN.de (dn_list T.z_list (u0a (dv 1) u0b))) u0b)))
  (u0d (ds_n u1h.nd (d_fn a1z hr (u0a (dv 1) (u0a d_bl u0b))))
  (u0d (ds_n u1h.nd (d_fn a1z hr (u0a (dv 1) (u0a d_bl u0b))))
  (DB.of (f:=tailF A) (u1l (ps_n u1h.nd (DE.out (xq:=xq0 E) (d_fn a1t hr (u0a (dv 2) u0b))))
  (u1l (ps_if (DT.out (xq:=xq0 E) (u1V (u0W (d_fn a2l hr (u0a (dv 1) (u0a (dv 5) (u0a (dv 3) u0b))))))) (DB.out (xq:=xq0 E) (u0e (u0i d_bl))) v0w)
  (u1l (DS.out (xq:=xq0 E) (ds_n u1h.nd (d_fn a1h hr (u0a (dv 1) (u0a (dv 3) u0b)))))
  (u1l (DS.out (xq:=xq0 E) (u1B u1h.nd (u3u u0b)))
  (u1l (DS.out (xq:=xq0 E) (u0A rfl (v1D T.z_enumerate (u0a (dv 1) u0b)) (u2O (n:=2) rfl (u0s (dg_n u1h.nd) (u0s (dg_n u1h.nd) u1E)))
  (u0e (u0x (dt_w (u2N (u0l (o_in (hu100 hr)) (d_ix x_ix (dv 9) u0c) (dv 6)) (u1S (u0l u4f (d_fn a0f hr (u0a (dv 3) (u0a (d_ix x_ix (dv 9) u0c) u0b))) u4w)))) (u0e (u0S 7 (dv 8))) u0n)) hq.ps))
  (u1l (DS.out (xq:=xq0 E) (u0x (dt_w (u7M (u1V (u0W (d_B u3G T.z_isinstance (by decide +kernel) (u0a (d_fn a2s hr (u0a (dv 2) u0b)) (u0a (d_ty T.z_list (T:="list") (by decide +kernel)) u0b))))) (u4s (u0l (o_ne (hu64 hr)) (d_fn a2s hr (u0a (dv 2) u0b)) (dv 7))))) (u0e (u0i d_bl)) u0n))
  (u1l (v3N hq.ps rfl (DI.out (xq:=xq0 E) (u0w (dv 6))) (pg_n u1h.nd) (u7r (u4a (pbm PySem.F.plainAttrs_list PySem.F.slot_list_append PySem.F.type_list_append u6B (u7B (hu1 hr) (u1U (i:=5) rfl (Or.inl rfl)) (u1U (i:=10) rfl (Or.inl rfl)) (λ_ _=>rfl)) (pac (DE.out (xq:=xq0 E) (u0f (u0a u0c (u0a u0c u0b)))) u4T)))))
  (u1l (u4a (v3Q PySem.F.plainAttrs_dict PySem.F.slot_dict_clear PySem.F.type_dict_clear v0J (u1U (i:=5) rfl (Or.inl rfl))))
  (DB.out (xq:=xq0 E) (DB.fix (u0d (v1A (d_fn a2s hr (u0a (dv 2) u0b)))
  (u0d (u5O ["_law_number"] [7] rfl (u0t (sc:=defScope u4F) (N:=["_law_script","_law_rules_here","_law_grammar","_law_sizes_here","_law_bare","_law_found","_law_heads","_law_due","_law_number","_law_rule","_law_head","_law_dead","_law_great_here","_law_told_here"]) (by decide +kernel)) u1h.nd (u1e T.z_range (u0a (d_B u1z T.z_len (by decide +kernel) (u0a (dv 1) u0b)) u0b)) (dg_n (show(["_law_number","_law_due"]:List Str).Nodup by decide +kernel)) (u5j (u0l (u4e (hu100 hr)) (dv 0) (dv 1))) (dv 0))
  (u0d (ds_n u1h.nd (d_fn a3i hr (u0a (dv 1) (u0a (dv 3) (u0a (dv 4) u0b)))))
  (u0d (ds_n u1h.nd u4w)
  (u0d (u0x (u0l (o_ne (hu64 hr)) (dv 11) (u1f u0b)) (u0e (ds_n u1h.nd (u1f (u0a u0Q (u0a (d_ix x_ix (dv 11) u0c) (u0a d_bl (u0a d_bl u0b))))))) (u0e (u0x (u0l (o_ne (hu64 hr)) (dv 12) (u1f u0b)) (u0e (ds_n u1h.nd (u1f (u0a u0Q (u0a (d_ix x_ix (dv 12) u0c) (u0a d_bl (u0a d_bl u0b))))))) u0n)))
  (u0d (u0x (u0l (o_ne (hu64 hr)) (d_fnX hq a3s hr (u0a (dv 2) u0b)) (dv 13)) (u0e (u0i d_bl)) u0n)
  (u0e (u0i (u2k (d_fn a2l hr (u0a (dv 1) (u0a (d_fn a1t hr (u0a (dv 2) u0b)) (u0a (dv 3) u0b)))) (u3E (u7R (o_eq (hu64 hr)) (d_fn a2s hr (u0a (dv 2) u0b)) (dv 7)))))))))))))))))))))) (fun B F ρ σ H T9 R q=>tail19 R q (fun s rs m1 m2 g l1=>by
   obtain⟨d,e,W,rfl,pw⟩:=a1r rs [] g;refine⟨W,pw,?_,?_⟩
   ·simp[r5,msk,mskS,getV,nl_gI g,e]
   ·simp[r5,frz,frzS,a4l rs m1 W g l1 pw]) (λs rs m1 m2 W a g l1 l2 pw=>by
   have n20:=g.f.n;have gR:=rS_gd rs;have hl:=u6K hdS rs (fr rs) (stS rs) g.kn (u6d g.n) gR;refine Mid.of (hs:=rS rs) (dz:=.tup [.int 0,.int 0]) (ρ3:=r7 A s rs m1 m2 a [] none none) (Q:=dueQ A s rs m1 m2 a) (by simp[r5,a3p rs m1 g l1];rfl) rfl ?_ ?_
   ·refine goq (Q:=dueQ A s rs m1 m2 a) (v:=((rs.map rT).zipIdx 0).map fun p=>.tup [.int (p.2:Nat),p.1]) (by simp [r7];rfl) ?_
    refine u5K rT (dueS A s rs m1 m2 a) (dueQ A s rs m1 m2 a) ?_ ?_ rs 0 _ ⟨[],none,none,rfl,due_all rs,by simp;omega,λp m=>m⟩
    ·rintro k ρ ⟨ds,x8,x9,rfl,e,_,_⟩
     exact⟨x8,x9,by rw[<- e];simp⟩
    ·rintro k p xs ρ ⟨ds,x8,x9,rfl,e,hz,mx⟩
     have mp:=mx p z5;have hb:=(g.b p mp).2;have et:sz hdS (lk m1) p.2=sz hdS (Lz rs) p.2:=by rw[l1]
     have ein:dIn (.str p.1) (.lst ((rS rs).map D.str))=.ok (.bl (decide (p.1∈rS rs))):=by
      show inD _ _ false=_;rw[u7I (g.b p mp).1.g (u8v g gR)];rfl
     have f1:dIx (rT p) (.int 0)=.ok (.str p.1):=ix_0 _ _;have f2:dIx (rT p) (.int 1)=.ok (.tup (p.2.map D.str)):=ix_1 _ _ _;refine⟨r7 A s rs m1 m2 a ds (some (.val (dN k))) (some (.val (rT p))),rfl,?_⟩;refine due_k e hz mx ?_;refine brI (Q:=dueP A s rs m1 m2 a k p xs ds) (dueB rs p) ?_ (λcc=>?_) λcc=>?_
     ·simp [r7,frz,frzS,getV,OD.toD,f1,f2,ein,a1o p.2 m1 hb,et]
      unfold dueB fr;by_cases c5:p.1∈rS rs<;>cases sz hdS (Lz rs) p.2<;>simp[oD,dIsNot,isN,c5]
     ·refine ⟨some (.val (dN k)),some (.val (rT p)),?_⟩
      simp at hz;have e5:(ds.map dN).length<sizeLine:=by rw[x6];exact t5 (show ds.length<=1000 by omega) (by decide)
      refine(if_pos e5).trans ?_;rw[if_pos cc,show r7 A s rs m1 m2 a (ds++[k]) (some (.val (dN k))) (some (.val (rT p)))=(r7 A s rs m1 m2 a ds (some (.val (dN k))) (some (.val (rT p)))).set 7 (some (.own (.l (ds.map dN++[dN k])))) from by simp[r7]]
     ·exact⟨_,_,by rw[cc];rfl⟩
   ·rintro o ⟨x8,x9,rfl⟩
    have el:a2u [gI A rs []]=.ok (.lst (((livN rs).map (·.1)).map dN)):=by rw[a4a rs [] g,u8f]
    generalize hL:(livN rs).map (·.1)=ns at el |-
    have en:=ne_nums ns;have eq:=eq_nums ns;refine⟨_,rfl,?_,rfl,rfl,rfl,λd=>rfl,λh m=>?_,t5 (show _<=1020 by omega) (by decide),?_⟩
    ·refine brI (Q:=fun o=>o=_) false ?_ (fun c=>by cases c) fun _=>rfl
     simp[r7,frz,frzS,getV,OD.toD,el,en];rfl
    ·rw [u1T,Option.isSome_map,v0v g pw]
     exact decide_eq_true m
    ·obtain ⟨_,e9,W9,rfl,pw9⟩:=a1r rs [] g
     refine th (Q:=Rets (.bl true)) (ρ:=r8 A s rs m1 m2 (.lst (ns.map dN)) (Option.map frzS x8) (Option.map frzS x9) none none none) ?_ ?_
     ·simp[r7,r8,frz,frzS,msk,mskS,getV,OD.toD,nl_gI g,el]
     refine asg (Q:=Rets (.bl true)) (OD.l ((deadL rs).map dN)) ?_ rfl ?_
     ·have e1:rng1 [.int (rs.length:Int)]=.ok ((List.range rs.length).map dN):=by rw [u9k (by omega),int_n]
      simp[r8,getV,gLen,e1,-u0Z,-u0k,-Res.bind_ok,-L2.go_ok,-Out.then_nx,bindN,goN,thenN];rw[u0r (u0D (by omega)),compF dN (λn=>!decide (n∈ns)) dN λn _=>⟨_,rfl,?_,λ_=>rfl⟩]
      ·unfold deadL
       rw[hL];rfl
      ·have ein:dNotIn (dN n) (.lst (ns.map dN))=.ok (.bl (!decide (n∈ns))):=by
        show inD _ _ true=_;rw[v1d];rfl
       simp[rhoC,frz,frzS,getV,ein]
     refine asg (Q:=Rets (.bl true)) (.lst ((vastL rs).map D.str)) (by simp[r8,getV,OD.toD,a4s rs m1 m2 g l1 l2]) rfl ?_
     refine asg (Q:=Rets (.bl true)) .non rfl rfl ?_;have gv:∀z∈vastL rs,goodS z=true:=λz m=>u5X g m
     refine thq (T:=toldQ A s rs m1 m2 (.lst (ns.map dN)) (Option.map frzS x8) (Option.map frzS x9)) ?_ ?_
     ·refine brI (Q:=toldQ A s rs m1 m2 (.lst (ns.map dN)) (Option.map frzS x8) (Option.map frzS x9)) (!(deadL rs).isEmpty) (by simp [r8,frz,frzS,getV,OD.toD,ne_nilN,u1p]) (fun c=>?_) fun c=>?_
      ·cases hd:deadL rs with
       | nil=>rw[hd] at c;cases c
       | cons n t =>
        have ei:dIx (.lst (dN n::t.map dN)) (.int 0)=.ok (dN n):=ixl_0 _ _;refine goq (Q:=toldQ A s rs m1 m2 (.lst (ns.map dN)) (Option.map frzS x8) (Option.map frzS x9)) (v:=.lst [.str "dead",dN n,.bl true,.bl false]) (by simp[r8,getV,OD.toD,ei,u1p]) ?_
        unfold toldQ toldR;rw[hd];rfl
      ·have d0:deadL rs=[]:=by
        cases hd:deadL rs with
        | nil=>rfl
        | cons n t=>rw[hd] at c;cases c
       refine brI (Q:=toldQ A s rs m1 m2 (.lst (ns.map dN)) (Option.map frzS x8) (Option.map frzS x9)) (!(vastL rs).isEmpty) (by simp[r8,frz,frzS,getV,OD.toD,ne_nilS gv,u1p]) (λc=>?_) λc=>?_
       ·cases hd:vastL rs with
        | nil=>rw[hd] at c;cases c
        | cons z t =>
         have ei:dIx (.lst (.str z::t.map D.str)) (.int 0)=.ok (.str z):=ixl_0 _ _;refine goq (Q:=toldQ A s rs m1 m2 (.lst (ns.map dN)) (Option.map frzS x8) (Option.map frzS x9)) (v:=.lst [.str "vast",.str z,.bl true,.bl false]) (by simp[r8,getV,OD.toD,ei,u1p]) ?_
         unfold toldQ toldR;rw[hd,d0];rfl
       ·have v0:vastL rs=[]:=by
         cases hd:vastL rs with
         | nil=>rfl
         | cons n t=>rw[hd] at c;cases c
        unfold toldQ toldR;rw[d0,v0];rfl
     rintro _ rfl;refine brT (Q:=Rets (.bl true)) false (by simp[r8,frz,frzS,getV,a4w rs [] g,ne_told g]) (λc=>by cases c) λ_=>?_
     refine th (Q:=Rets (.bl true)) rfl ?_;refine goq (Q:=Rets (.bl true)) (v:=.bl true) ?_ rfl;simp[r8,frz,frzS,getV,e9,a4l rs m1 W9 g l1 pw9,el,eq]))))))),?_⟩
 intro ns;refine runX1 rfl ?_;obtain⟨v0,ev,rs,rfl,hs,ss,W⟩:=a4q ns;obtain⟨g,ok⟩:=W.gg;obtain⟨_,e1,m1,rfl,_,l1⟩:=a1w rs false g;obtain⟨_,e2,m2,rfl,_,l2⟩:=a1w rs true g;rw[emp_all] at l1;have em:gInit [dR rs,.non]=.ok (gFlds (dR rs) (dR [])):=v3n ok (.inr rfl);refine asg (dR rs) (by simp[startD];exact congrArg noE ev) rfl ?_
 refine asg (gI A rs []) (by simp[startD,seqOf,v2f,em]) rfl ?_
 refine asg (.dct (kv nD m1)) (by simp[startD,e1]) rfl ?_
 refine asg (.dct (kv nD m2)) (by simp[startD,e2]) rfl ?_
 have et:tailF A (r5 A (scr ns) rs m1 m2)=.rt (.bl true):=if_pos ⟨_,rs,m1,m2,g,l1,l2,rfl⟩;exact congrArg outR et
end
noncomputable def noLst (K:W.Frag):Bool:=K.all λp=>match p.2.cls with
 | .type T=>!(T=="list")
 | _=>true
set_option tactic.hygienic true in
def v2P {K:W.Frag} (h:noLst K=true) {a:Addr}{o:Obj} (e:K.lookup a=some o):o.cls≠.type "list":=λz=>by
 have hm:(a,o)∈K:=by
  unfold noLst at h;clear h;induction K with
  | nil=>cases e
  | cons p K ih =>
   obtain⟨b,u⟩:=p;rw[v8] at e;split at e
   ·rename_i q
    cases e;rw[beq_iff_eq.mp q];exact z5
   ·exact z4 _ (ih e)
 have:=List.all_eq_true.mp h _ hm
 simp only[z] at this;simp at this
theorem u8a {K:W.Frag}{F:Hp}:∀ns:List Int,Rps K F (ns.map V.int) (ns.map D.int)
 | []=>.nil
 | n::ns=>.cons (.int n) (u8a ns)
def spLaw7 (K:W.Frag):Sp:=λvs H Q _=>∃(a:Addr) (ns:List Int),vs=[.ref a]/\SqL K H a (ns.map V.int)/\∀H',Q (.bl true) H'
def law_imp {P:Program}{w:World}{K:W.Frag}{mg:MG}{base:Heap}{k:Nat}{f:Addr}{fd:FuncData}{ps:List Str}{G:FD} (nl:noLst K=true) (h:FnOk P w K mg base (CXe P w) k f fd ps (spX K G)) (p:∀ns:List Int,G [scr ns]=.ok (.bl true)) :
  FnOk P w K mg base (CXe P w) k f fd ps (spLaw7 K):=h.imp λvs H Q E ⟨a,ns,e,hs,q⟩=>by
 subst e;rcases hs with hs|⟨o,its,n,e1,e2,_⟩
 ·refine ⟨H,[scr ns],Same.refl H,.cons (.lst hs (u8a ns)) .nil,?_⟩
  rw[p ns];intro v F' H' st pv;cases pv;exact q H'
 ·exact absurd e2 (v2P nl e1)
def s_xf {X:Cx}{o value:Expr}{ta tv:TE}{f:Str}{pos pos':Pos} (ha:JE X o ta) (hv:JE X value tv) (hs:swapsWith value (some (.Attribute o f pos')) pos.line X.env=pure false:=by rfl):JS X (.Assign [.Attribute o f pos'] value pos) (sXF X.K ta tv f):=⟨ps_xf ha.out hv.out hs⟩
section
variable {P:Program}{w:World}{K:W.Frag}{mg:MG}{base:Heap}{f C:Addr}{fd:FuncData}
def ok_x {q fl:Str}{st:Stmt}{p1 p2 p3 p4:Pos} (F:Fun K "__init__" q st f fd) (S:FnScope ["self",fl] ["self",fl] (defScope st)) (hb:defBody st=[.Assign [.Attribute (.Name "self" p1) fl p2] (.Name fl p3) p4]) (e1:(fl==("__debug__":Str))=false) (e2:(fl==("__classdict__":Str))=false) (c:XCls K C f) (n:NoAttr K C fl):FnOk P w K mg base CX0 1 f fd ["self",fl] (spXI C [fl]):=by
 have vi:∀x∈(["self",fl]:List Str),Vis (defScope st) x:=λx hx=>(S.par x hx).elim .inl λz=>.inr (.inl z)
 refine F.okJ S (λvs H Q E h=>?_) (λcdv A outer s H vs Q E hr h=>?_)
 ·obtain ⟨a,args,n',rfl,hl,_⟩:=h
  rw[v9,hl];rfl
 obtain⟨a,args,n',rfl,hl,ha,q⟩:=h
 match args,hl,q with
 | [v],_,q =>
  rw[hb];refine⟨_,b_one (s_xf (ev 0 rfl (vi _ (by simp))) (ev 1 rfl (vi _ (by simp)) e1 e2)),?_⟩
  exact⟨_,rfl,_,rfl,a,C,f,n',rfl,c,n,ha,λdx h1 h2=>q dx h1 h2⟩
end
def AtF (K:W.Frag) (x:Str) (st:Stmt):Prop:=∃f oc od kV dc pm an cd ct sl,W.nsIn K mainGlobals x=some (some (.ref f))/\K.lookup f=some ⟨oc,od,.func (W.fnOf x x (defArgs st) (defBody st) (defScope st) .none kV dc pm an cd ct),sl⟩/\W.codeIn K cd x=true/\W.keepIn K (.ref f)=true
def AtM (K:W.Frag) (C:Addr) (x q:Str) (st:Stmt):Prop:=∃f oc od kV dc pm an cd ct sl,W.findIn K (.ref C) x=some (some (.ref f))/\W.isFn K (.ref f)=true/\K.lookup f=some ⟨oc,od,.func (W.fnOf x q (defArgs st) (defBody st) (defScope st) .none kV dc pm an cd ct),sl⟩/\W.codeIn K cd q=true/\W.keepIn K (.ref f)=true
def AtX (K:W.Frag) (C:Addr) (x q fl:Str) (st:Stmt):Prop:=W.nsIn K mainGlobals x=some (some (.ref C))/\∃f oc od kV dc pm an cd ct sl,W.findIn K (.ref C) "__init__"=some (some (.ref f))/\K.lookup f=some ⟨oc,od,.func (W.fnOf "__init__" q (defArgs st) (defBody st) (defScope st) .none kV dc pm an cd ct),sl⟩/\W.codeIn K cd q=true/\W.keepIn K (.ref f)=true/\xcB K C f=true/\W.findIn K (.ref C) fl=some none/\xbB K C=true
section
variable {P:Program}{w:World}{K:W.Frag}{h:Heap}{mg:MG}{base:Heap}{f C:Addr}{fd:FuncData}{x q fl m:Str}{st:Stmt}{k:Nat}{ps:List Str}{p1 p2 p3 p4 p5:Str}
def AtF.go (a:AtF K x st) (X:K.In h) (G:h.Ns mainGlobals mg):∃f fd,Fun K x x st f fd/\mg x=some (.ref f)/\W.keepIn K (.ref f)=true:=by
 obtain⟨f,oc,od,kV,dc,pm,an,cd,ct,sl,h1,h2,h3,h4⟩:=a;exact⟨f,_,u8y h2 h3 h4,W.mg_of X G h1,h4⟩
def AtM.go (a:AtM K C x q st):∃f fd,Fun K x q st f fd/\Meth K C x f:=by
 obtain⟨f,oc,od,kV,dc,pm,an,cd,ct,sl,h1,h2,h3,h4,h5⟩:=a;exact⟨f,_,u8y h3 h4 h5,h1,h2,h5⟩
def AtX.go (a:AtX K C x q fl st) (X:K.In h) (G:h.Ns mainGlobals mg):∃f fd,Fun K "__init__" q st f fd/\XCls K C f/\NoAttr K C fl/\mg x=some (.ref C)/\XBase K C:=by
 obtain⟨h0,f,oc,od,kV,dc,pm,an,cd,ct,sl,h1,h2,h3,h4,h5,h6,h7⟩:=a;exact⟨f,_,u8y h2 h3 h4,xcls_of h5,h6,W.mg_of X G h0,u5o h7⟩
abbrev bA (x q:Str) (st:Stmt) (us:List Value) (l:List (Str×Value)):Prop:=∀(kV doc pm:Value) (an:Option Addr) (cdv ct:Value),bindArgs (W.fnOf x q (defArgs st) (defBody st) (defScope st) .none kV doc pm an cdv ct) ⟨us,[]⟩=pure l
def _root_.L2.Fun.b1 (F:Fun K x q st f fd) (e:∀a,bA x q st [a] [(p1,a)]):Binds K fd [p1] []:=F.binds λkV doc pm an cdv ct us hl=>match us,hl with | [a],_=>e a kV doc pm an cdv ct
def _root_.L2.Fun.b2 (F:Fun K x q st f fd) (e:∀a b,bA x q st [a,b] [(p1,a),(p2,b)]):Binds K fd [p1,p2] []:=F.binds λkV doc pm an cdv ct us hl=>match us,hl with | [a,b],_=>e a b kV doc pm an cdv ct
def _root_.L2.Fun.b3 (F:Fun K x q st f fd) (e:∀a b c,bA x q st [a,b,c] [(p1,a),(p2,b),(p3,c)]):Binds K fd [p1,p2,p3] []:=F.binds λkV doc pm an cdv ct us hl=>match us,hl with | [a,b,c],_=>e a b c kV doc pm an cdv ct
def _root_.L2.Fun.b4 (F:Fun K x q st f fd) (e:∀a b c d,bA x q st [a,b,c,d] [(p1,a),(p2,b),(p3,c),(p4,d)]):Binds K fd [p1,p2,p3,p4] []:=F.binds λkV doc pm an cdv ct us hl=>match us,hl with | [a,b,c,d],_=>e a b c d kV doc pm an cdv ct
def _root_.L2.Fun.b5 (F:Fun K x q st f fd) (e:∀a b c d g,bA x q st [a,b,c,d,g] [(p1,a),(p2,b),(p3,c),(p4,d),(p5,g)]):Binds K fd [p1,p2,p3,p4,p5] []:=F.binds λkV doc pm an cdv ct us hl=>match us,hl with | [a,b,c,d,g],_=>e a b c d g kV doc pm an cdv ct
def mkC {g:FD} (H:FnOk P w K mg base CX0 k f fd ps (spF K g)) (b:Binds K fd ps []) (kp:W.keepIn K (.ref f)=true) (a:mg x=some (.ref f)):Callee P w K mg base k x ps (spF K g):=⟨f,fd,H,b,kp,a⟩
def mkX {g:FD} (H:FnOk P w K mg base (CXe P w) k f fd ps (spX K g)) (b:Binds K fd ps []) (kp:W.keepIn K (.ref f)=true) (a:mg x=some (.ref f)):CalleeX P w K mg base k x ps g:=⟨f,fd,H,b,kp,a⟩
def mkE (H:FnOk P w K mg base CX0 1 f fd ["self",fl] (spXI C [fl])) (b:Binds K fd ["self",fl] []) (c:XCls K C f) (a:mg x=some (.ref C)):XCalleeF P w K mg base 1 x C ["self",fl] [fl]:=⟨f,fd,c,H,b,a⟩
end
section
variable {P:Program}{w:World}{K:W.Frag}{mg:MG}{base:Heap}{f C:Addr}{fd:FuncData}{x:Str}{ps:List Str}{k:Nat}
def mkF {g:FD} (c:Cls K C) (m:Meth K C x f) (H:FnOk P w K mg base CX0 k f fd ps (spF K g)) (b:Binds K fd ps []):MCalleeF P w K mg base k C x ps g:=⟨f,fd,c,m,H,b⟩
end
set_option maxHeartbeats 0 in
def all_mk {l:W.OpenLaw}{w:World}{K:W.Frag}{h:Heap}{mg:MG}{fa tG aS fG fl CVast CDead CTableError CGrammar:Addr} (X:K.In h) (G:h.Ns mainGlobals mg) (hfa:mg "law"=some (.ref fa)) {odt odS odG anG odl anl:Option Addr}{slt slS slG sll:Array (Option Value)}{oct ocG kVG dcG pmG cdG ctG ocl kVl dcl pml cdl ctl:Value}{nT nS:Nat}{tMOST_IN_BODY tMOST_IN_RANK tMOST_RULES tMOST_HEADS tMOST_SIGNS tMOST_RANKS tLONGEST tIN_SIGNS tGREAT tSMALL_AND_FIGURES tMOST_SIZE ts1 ts2 ts3:Tok}
  (h0:AtF K "is_whole" u3b) (h1:AtF K "is_short_text" u1w) (h2:AtF K "has_only" u2h) (h3:AtF K "is_sign" u3U) (h4:AtF K "is_head" u3Z) (h5:AtF K "is_symbol" u2t) (h6:AtF K "is_pair" u3Y) (h7:AtF K "is_body" u2J) (h8:AtF K "is_rule" u3W) (h9:AtF K "is_side" u3V) (h10:AtF K "is_rank_signs" u0V) (h11:AtF K "is_rank" u3X) (h12:AtF K "heads_in" u2g) (h13:AtF K "signs_in" u2W) (h14:AtF K "need_rules" u1Z) (h15:AtF K "need_known_heads" u0T) (h16:AtF K "need_few_symbols" u0U) (h17:AtF K "need_ranks" u2a) (h18:AtF K "all_numbers" u1P) (h19:AtF K "bare_numbers" u1a) (h20:AtF K "size_by" u3R) (h21:AtF K "sizes_by" u2V) (h22:AtF K "least_sizes" u1L) (h23:AtF K "need_small" u1Y) (h24:AtF K "fruitful_numbers" u0G) (h25:AtF K "reached" u2I) (h26:AtF K "live" u7Z) (h27:AtF K "need_clean" u2b) (h28:AtF K "_law_cell" u3a) (h29:AtF K "_law_stir" u2Z) (h30:AtF K "_law_row" u3T) (h31:AtF K "_law_shape" u2r) (h32:AtF K "_law_symbol" u2c) (h33:AtF K "_law_names" u1N) (h34:AtF K "_law_rules" u1u) (h35:AtF K "_law_is_head" u1O) (h36:AtF K "_law_total" u2q) (h37:AtF K "_law_sizes" u1M) (h38:AtF K "_law_great" u1v) (h39:AtF K "_law_reach" u2s) (h40:AtF K "_law_ways" u2X) (h41:AtF K "_law_told" u2Y) (xVast:AtX K CVast "Vast" "Vast.__init__" "head" (meth 7 0)) (xDead:AtX K CDead "Dead" "Dead.__init__" "number" (meth 9 0)) (gT:W.nsIn K mainGlobals "TableError"=some (some (.ref CTableError))/\xbB K CTableError=true) (gG:W.nsIn K mainGlobals "Grammar"=some (some (.ref CGrammar))) (kDT:W.kitOne K (.ref CDead) (.ref CTableError)=some true) (kVT:W.kitOne K (.ref CVast) (.ref CTableError)=some true) (kDV:W.kitOne K (.ref CDead) (.ref CVast)=some false) (kVD:W.kitOne K (.ref CVast) (.ref CDead)=some false) (kb_TableError:∀T∈(["NoneType","bool","int","str","list","tuple","dict"]:List String),W.kitOne K (.type T) (.ref CTableError)=some false) (kb_Vast:∀T∈(["NoneType","bool","int","str","list","tuple","dict"]:List String),W.kitOne K (.type T) (.ref CVast)=some false) (kb_Dead:∀T∈(["NoneType","bool","int","str","list","tuple","dict"]:List String),W.kitOne K (.type T) (.ref CDead)=some false) (xb1:xbB K CDead=true) (xb2:xbB K CVast=true) (s11:subK K CDead CDead=true) (s21:subK K CVast CDead=false) (s22:subK K CVast CVast=true) (neDV:CDead≠CVast) (mheads:AtM K CGrammar "heads" "Grammar.heads" u3S) (msigns:AtM K CGrammar "signs" "Grammar.signs" v0q) (mneed_number:AtM K CGrammar "need_number" "Grammar.need_number" u1t) (mhead_of:AtM K CGrammar "head_of" "Grammar.head_of" u2o) (mbody_of:AtM K CGrammar "body_of" "Grammar.body_of" u2p) (aG:W.findIn K (.ref CGrammar) "__init__"=some (some (.ref fG))) (lG:K.lookup fG=some ⟨ocG,odG,.func (W.fnOf "__init__" "Grammar.__init__" (defArgs u0E) (defBody u0E) (defScope u0E) (.ref tG) kVG dcG pmG anG cdG ctG),slG⟩) (ltG:K.lookup tG=some ⟨oct,odt,.seq #[.none] nT,slt⟩) (cG:W.codeIn K cdG "Grammar.__init__"=true) (pgG:W.plainGet K CGrammar Str.empty=true) (hdG:W.hasDictIn K CGrammar=true) (poG:W.plainOver K CGrammar=true) (saG:W.findIn K (.ref CGrammar) "__setattr__"=some (some (.builtin "object.__setattr__"))) (mkG:W.makesIn K CGrammar=true) (fnG:W.isFn K (.ref fG)=true) (kpG:W.keepIn K (.ref CGrammar)=true) (naRu:W.findIn K (.ref CGrammar) "rules"=some none) (naRa:W.findIn K (.ref CGrammar) "ranks"=some none) (naSt:W.findIn K (.ref CGrammar) "start"=some none) (nl:noLst K=true) (gSI:W.nsIn K mainGlobals "SIDES"=some (some (.ref aS))) (lS:K.lookup aS=some ⟨.type "tuple",odS,.seq #[.str "left" ts1,.str "right" ts2,.str "none" ts3] nS,slS⟩) (gMOST_IN_BODY:W.nsIn K mainGlobals "MOST_IN_BODY"=some (some (.int 4 tMOST_IN_BODY))) (gMOST_IN_RANK:W.nsIn K mainGlobals "MOST_IN_RANK"=some (some (.int 10 tMOST_IN_RANK))) (gMOST_RULES:W.nsIn K mainGlobals "MOST_RULES"=some (some (.int 20 tMOST_RULES))) (gMOST_HEADS:W.nsIn K mainGlobals "MOST_HEADS"=some (some (.int 8 tMOST_HEADS))) (gMOST_SIGNS:W.nsIn K mainGlobals "MOST_SIGNS"=some (some (.int 10 tMOST_SIGNS))) (gMOST_RANKS:W.nsIn K mainGlobals "MOST_RANKS"=some (some (.int 6 tMOST_RANKS))) (gLONGEST:W.nsIn K mainGlobals "LONGEST"=some (some (.int 6 tLONGEST))) (gIN_SIGNS:W.nsIn K mainGlobals "IN_SIGNS"=some (some (.str "abcdefghijklmnopqrstuvwxyz0123456789+-*/()[]=<>,;.!?^&" tIN_SIGNS))) (gGREAT:W.nsIn K mainGlobals "GREAT"=some (some (.str "ABCDEFGHIJKLMNOPQRSTUVWXYZ" tGREAT))) (gSMALL_AND_FIGURES:W.nsIn K mainGlobals "SMALL_AND_FIGURES"=some (some (.str "abcdefghijklmnopqrstuvwxyz0123456789" tSMALL_AND_FIGURES))) (gMOST_SIZE:W.nsIn K mainGlobals "MOST_SIZE"=some (some (.int 40 tMOST_SIZE))) (zz:∀x∈(["isinstance","str","int","bool","list","tuple","dict","len","all","any","range","enumerate","sorted","set","zip","max"]:List Str),W.nsIn K mainGlobals x=some none) (al:W.nsIn K mainGlobals "law"=some (some (.ref fl))) (ll:K.lookup fl=some ⟨ocl,odl,.func (W.fnOf "law" "law" (defArgs u4F) (defBody u4F) (defScope u4F) .none kVl dcl pml anl cdl ctl),sll⟩) (cl:W.codeIn K cdl "law"=true) (kl:W.keepIn K (.ref fl)=true)
  : ∃fd:FuncData,(∀(s:Shared) (v:Value),BindsTo s fd ⟨[v],[]⟩ [("_law_script",v)])/\∀base:Heap,K.In base->base.Ns mainGlobals mg->FnOk l.prog w K mg base (CXe l.prog w) 11 fa fd ["_law_script"] (spLaw7 K):=by
 cases hfa.symm.trans (W.mg_of X G al);refine Classical.byContradiction λhZ=>?_
 obtain⟨_,_,FVast,XVast,NVast,MVast,BVast⟩:=xVast.go X G;obtain⟨_,_,FDead,XDead,NDead,MDead,BDead⟩:=xDead.go X G
 let A:Adr:=⟨CVast,CDead,CTableError,CGrammar⟩
 have xn:XRead K "number" [CDead]:=λC hC=>by rw[w9.mp hC];exact⟨⟨_,XDead⟩,NDead⟩
 have xh:XRead K "head" [CVast]:=λC hC=>by rw[w9.mp hC];exact⟨⟨_,XVast⟩,NVast⟩
 have oE:IsO K CTableError [] [(CDead,true),(CVast,true)]:=⟨λp hp=>(nomatch hp),λp hp=>by
  simp only[y0,z0D,or_false] at hp;rcases hp with rfl|rfl
  ·exact⟨⟨_,XDead⟩,kDT⟩
  ·exact⟨⟨_,XVast⟩,kVT⟩,kb_TableError⟩
 have oV:IsO K CVast [] [(CDead,false)]:=⟨λp hp=>(nomatch hp),λp hp=>by rw[w9.mp hp];exact⟨⟨_,XDead⟩,kDV⟩,kb_Vast⟩
 have oD:IsO K CDead [] [(CVast,false)]:=⟨λp hp=>(nomatch hp),λp hp=>by rw[w9.mp hp];exact⟨⟨_,XVast⟩,kVD⟩,kb_Dead⟩
 have T:Txt l.prog w K mg A:={ z_isinstance:=W.mg_none_of X G (zz _ (by decide)),z_str:=W.mg_none_of X G (zz _ (by decide)),z_int:=W.mg_none_of X G (zz _ (by decide)),z_bool:=W.mg_none_of X G (zz _ (by decide)),z_list:=W.mg_none_of X G (zz _ (by decide)),z_tuple:=W.mg_none_of X G (zz _ (by decide)),z_dict:=W.mg_none_of X G (zz _ (by decide)),z_len:=W.mg_none_of X G (zz _ (by decide)),z_all:=W.mg_none_of X G (zz _ (by decide)),z_any:=W.mg_none_of X G (zz _ (by decide)),z_range:=W.mg_none_of X G (zz _ (by decide)),z_enumerate:=W.mg_none_of X G (zz _ (by decide)),z_sorted:=W.mg_none_of X G (zz _ (by decide)),z_set:=W.mg_none_of X G (zz _ (by decide)),z_zip:=W.mg_none_of X G (zz _ (by decide)),z_max:=W.mg_none_of X G (zz _ (by decide)),g_SIDES:=⟨.ref aS,⟨_,W.mg_of X G gSI,rfl⟩,λF=>.tup (xs:=[.str "left",.str "right",.str "none"]) (.inr ⟨_,_,_,lS,rfl,rfl,(show 3<=sizeLine by decide),.cons ⟨_,rfl⟩ (.cons ⟨_,rfl⟩ (.cons ⟨_,rfl⟩ .nil))⟩) (.cons (.str (by decide +kernel)) (.cons (.str (by decide +kernel)) (.cons (.str (by decide +kernel)) .nil)))⟩,g_MOST_IN_BODY:=⟨.int _,⟨_,W.mg_of X G gMOST_IN_BODY,⟨_,rfl⟩⟩,λF=>.int _⟩,g_MOST_IN_RANK:=⟨.int _,⟨_,W.mg_of X G gMOST_IN_RANK,⟨_,rfl⟩⟩,λF=>.int _⟩,g_MOST_RULES:=⟨.int _,⟨_,W.mg_of X G gMOST_RULES,⟨_,rfl⟩⟩,λF=>.int _⟩,g_MOST_HEADS:=⟨.int _,⟨_,W.mg_of X G gMOST_HEADS,⟨_,rfl⟩⟩,λF=>.int _⟩,g_MOST_SIGNS:=⟨.int _,⟨_,W.mg_of X G gMOST_SIGNS,⟨_,rfl⟩⟩,λF=>.int _⟩,g_MOST_RANKS:=⟨.int _,⟨_,W.mg_of X G gMOST_RANKS,⟨_,rfl⟩⟩,λF=>.int _⟩,g_LONGEST:=⟨.int _,⟨_,W.mg_of X G gLONGEST,⟨_,rfl⟩⟩,λF=>.int _⟩,g_IN_SIGNS:=⟨.str _,⟨_,W.mg_of X G gIN_SIGNS,⟨_,rfl⟩⟩,λF=>.str (by decide +kernel)⟩,g_GREAT:=⟨.str _,⟨_,W.mg_of X G gGREAT,⟨_,rfl⟩⟩,λF=>.str (by decide +kernel)⟩,g_SMALL_AND_FIGURES:=⟨.str _,⟨_,W.mg_of X G gSMALL_AND_FIGURES,⟨_,rfl⟩⟩,λF=>.str (by decide +kernel)⟩,g_MOST_SIZE:=⟨.int _,⟨_,W.mg_of X G gMOST_SIZE,⟨_,rfl⟩⟩,λF=>.int _⟩,m_Vast:=MVast,b_Vast:=BVast,m_Dead:=MDead,b_Dead:=BDead,m_TableError:=W.mg_of X G gT.1,b_TableError:=u5o gT.2,x_number:=xn,x_head:=xh,o_TableError:=oE,o_Vast:=oV,o_Dead:=oD,ne_dv:=neDV,cls:=⟨pgG,hdG,poG,saG⟩,na_rules:=naRu,na_ranks:=naRa,na_start:=naSt }
 obtain⟨_,_,F0,a0,k0⟩:=h0.go X G;obtain⟨_,_,F1,a1,k1⟩:=h1.go X G;obtain⟨_,_,F2,a2,k2⟩:=h2.go X G;obtain⟨_,_,F3,a3,k3⟩:=h3.go X G;obtain⟨_,_,F4,a4,k4⟩:=h4.go X G;obtain⟨_,_,F5,a5,k5⟩:=h5.go X G;obtain⟨_,_,F6,a6,k6⟩:=h6.go X G;obtain⟨_,_,F7,a7,k7⟩:=h7.go X G;obtain⟨_,_,F8,a8,k8⟩:=h8.go X G;obtain⟨_,_,F9,a9,k9⟩:=h9.go X G;obtain⟨_,_,F10,a10,k10⟩:=h10.go X G;obtain⟨_,_,F11,a11,k11⟩:=h11.go X G;obtain⟨_,_,F12,a12,k12⟩:=h12.go X G;obtain⟨_,_,F13,a13,k13⟩:=h13.go X G;obtain⟨_,_,F14,a14,k14⟩:=h14.go X G;obtain⟨_,_,F15,a15,k15⟩:=h15.go X G;obtain⟨_,_,F16,a16,k16⟩:=h16.go X G;obtain⟨_,_,F17,a17,k17⟩:=h17.go X G;obtain⟨_,_,F18,a18,k18⟩:=h18.go X G;obtain⟨_,_,F19,a19,k19⟩:=h19.go X G;obtain⟨_,_,F20,a20,k20⟩:=h20.go X G;obtain⟨_,_,F21,a21,k21⟩:=h21.go X G;obtain⟨_,_,F22,a22,k22⟩:=h22.go X G;obtain⟨_,_,F23,a23,k23⟩:=h23.go X G;obtain⟨_,_,F24,a24,k24⟩:=h24.go X G;obtain⟨_,_,F25,a25,k25⟩:=h25.go X G;obtain⟨_,_,F26,a26,k26⟩:=h26.go X G;obtain⟨_,_,F27,a27,k27⟩:=h27.go X G;obtain⟨_,_,F28,a28,k28⟩:=h28.go X G;obtain⟨_,_,F29,a29,k29⟩:=h29.go X G;obtain⟨_,_,F30,a30,k30⟩:=h30.go X G;obtain⟨_,_,F31,a31,k31⟩:=h31.go X G;obtain⟨_,_,F32,a32,k32⟩:=h32.go X G;obtain⟨_,_,F33,a33,k33⟩:=h33.go X G;obtain⟨_,_,F34,a34,k34⟩:=h34.go X G;obtain⟨_,_,F35,a35,k35⟩:=h35.go X G;obtain⟨_,_,F36,a36,k36⟩:=h36.go X G;obtain⟨_,_,F37,a37,k37⟩:=h37.go X G;obtain⟨_,_,F38,a38,k38⟩:=h38.go X G;obtain⟨_,_,F39,a39,k39⟩:=h39.go X G;obtain⟨_,_,F40,a40,k40⟩:=h40.go X G;obtain⟨_,_,F41,a41,k41⟩:=h41.go X G;have F42:=u8y (st:=u4F) ll cl kl;obtain⟨_,_,Fheads,nheads⟩:=mheads.go;obtain⟨_,_,Fsigns,nsigns⟩:=msigns.go;obtain⟨_,_,Fneed_number,nneed_number⟩:=mneed_number.go;obtain⟨_,_,Fhead_of,nhead_of⟩:=mhead_of.go;obtain⟨_,_,Fbody_of,nbody_of⟩:=mbody_of.go;have S:Sub K A:=⟨xb1,xb2,s11,s21,s22⟩;have FG:FunD K "__init__" "Grammar.__init__" u0E fG _:=⟨_,_,_,_,_,_,_,_,_,_,rfl,lG,cG⟩;have bG3:Binds K (W.fnOf "__init__" "Grammar.__init__" (defArgs u0E) (defBody u0E) (defScope u0E) (.ref tG) kVG dcG pmG anG cdG ctG) ["self","rules","ranks"] []:=λs us XI hl=>match us,hl with | [_,_,_],_=>BindsTo.of_defaults rfl (XI _ _ ltG) rfl rfl rfl
 have bG2:Binds K (W.fnOf "__init__" "Grammar.__init__" (defArgs u0E) (defBody u0E) (defScope u0E) (.ref tG) kVG dcG pmG anG cdG ctG) ["self","rules","ranks"] [.none]:=λs us XI hl=>by
  match us,hl with
  | [_,_],_=>exact BindsTo.of_defaults rfl (XI _ _ ltG) rfl rfl rfl
  | [],h=>simp at h
  | [_],h=>simp at h
  | _::_::_::_,h=>simp at h
 refine hZ ⟨W.fnOf "law" "law" (defArgs u4F) (defBody u4F) (defScope u4F) .none kVl dcl pml anl cdl ctl,λs v=>.of_eq rfl,λbase _ _=>Classical.byContradiction λhY=>?_⟩
 have EVast:=mkE (ok_x (P:=l.prog) (w:=w) (base:=base) FVast ⟨rfl,rfl,rfl,by decide +kernel,rfl,by decide +kernel,by decide +kernel⟩ rfl rfl rfl XVast NVast) (FVast.b2 λ_ _ _ _ _ _ _ _=>rfl) XVast MVast
 have EDead:=mkE (ok_x (P:=l.prog) (w:=w) (base:=base) FDead ⟨rfl,rfl,rfl,by decide +kernel,rfl,by decide +kernel,by decide +kernel⟩ rfl rfl rfl XDead NDead) (FDead.b2 λ_ _ _ _ _ _ _ _=>rfl) XDead MDead
 obtain⟨_,H,p29⟩:=u7w (P:=l.prog) (w:=w) (base:=base)  F29 T;have C29:=mkC H (F29.b2 λ_ _ _ _ _ _ _ _=>rfl) k29 a29
 obtain⟨_,H,p28⟩:=u7x (P:=l.prog) (w:=w) (base:=base) C29 p29 F28 T;have C28:=mkC H (F28.b2 λ_ _ _ _ _ _ _ _=>rfl) k28 a28
 obtain⟨_,H,p30⟩:=u9s (P:=l.prog) (w:=w) (base:=base) C28 C29 p28 p29 p29 F30 T;have C30:=mkC H (F30.b4 λ_ _ _ _ _ _ _ _ _ _=>rfl) k30 a30
 obtain⟨_,H,p33⟩:=u6u (P:=l.prog) (w:=w) (base:=base) C30 p30 F33 T;have C33:=mkC H (F33.b2 λ_ _ _ _ _ _ _ _=>rfl) k33 a33
 obtain⟨_,H,p31⟩:=u6r (P:=l.prog) (w:=w) (base:=base)  F31 T;have C31:=mkC H (F31.b1 λ_ _ _ _ _ _ _=>rfl) k31 a31
 obtain⟨_,H,p32⟩:=u5B (P:=l.prog) (w:=w) (base:=base)  F32 T;have C32:=mkC H (F32.b3 λ_ _ _ _ _ _ _ _ _=>rfl) k32 a32
 obtain⟨_,H,p34⟩:=u6s (P:=l.prog) (w:=w) (base:=base) C33 C30 C31 C32 p33 p30 p31 p32 F34 T;have C34:=mkC H (F34.b2 λ_ _ _ _ _ _ _ _=>rfl) k34 a34
 obtain⟨_,H,p35⟩:=u4I (P:=l.prog) (w:=w) (base:=base)  F35 T;have C35:=mkC H (F35.b1 λ_ _ _ _ _ _ _=>rfl) k35 a35
 obtain⟨_,H,p36⟩:=u6p (P:=l.prog) (w:=w) (base:=base) C35 p35 F36 T;have C36:=mkC H (F36.b2 λ_ _ _ _ _ _ _ _=>rfl) k36 a36
 obtain⟨_,H,p37⟩:=u6q (P:=l.prog) (w:=w) (base:=base) C36 C35 p36 p35 F37 T;have C37:=mkC H (F37.b2 λ_ _ _ _ _ _ _ _=>rfl) k37 a37
 obtain⟨_,H,p1⟩:=u3A (P:=l.prog) (w:=w) (base:=base)  F1 T;have C1:=mkC H (F1.b1 λ_ _ _ _ _ _ _=>rfl) k1 a1
 obtain⟨_,H,p2⟩:=u7A (P:=l.prog) (w:=w) (base:=base)  F2 T;have C2:=mkC H (F2.b2 λ_ _ _ _ _ _ _ _=>rfl) k2 a2
 obtain⟨_,H,p3⟩:=u9t (P:=l.prog) (w:=w) (base:=base) C1 C2 p1 p2 F3 T;have C3:=mkC H (F3.b1 λ_ _ _ _ _ _ _=>rfl) k3 a3
 obtain⟨_,H,p20⟩:=u9q (P:=l.prog) (w:=w) (base:=base) C3 p3 F20 T;have C20:=mkC H (F20.b2 λ_ _ _ _ _ _ _ _=>rfl) k20 a20
 obtain⟨_,H,p0⟩:=u7y (P:=l.prog) (w:=w) (base:=base)  F0 T;have C0:=mkC H (F0.b1 λ_ _ _ _ _ _ _=>rfl) k0 a0
 obtain⟨_,H,a1s⟩:=u4K (P:=l.prog) (w:=w) (base:=base) C0 p0 Fneed_number T;have m_need_number:=mkF T.cls nneed_number H (Fneed_number.b2 λ_ _ _ _ _ _ _ _=>rfl)
 obtain⟨_,H,a0n⟩:=u9B (P:=l.prog) (w:=w) (base:=base) m_need_number a1s Fhead_of T;have m_head_of:=mkF T.cls nhead_of H (Fhead_of.b2 λ_ _ _ _ _ _ _ _=>rfl)
 obtain⟨_,H,a1b⟩:=u9C (P:=l.prog) (w:=w) (base:=base) m_need_number a1s Fbody_of T;have m_body_of:=mkF T.cls nbody_of H (Fbody_of.b2 λ_ _ _ _ _ _ _ _=>rfl)
 obtain⟨_,H,p21⟩:=u7s (P:=l.prog) (w:=w) (base:=base) C20 m_head_of m_body_of p20 a0n a1b F21 T;have C21:=mkC H (F21.b2 λ_ _ _ _ _ _ _ _=>rfl) k21 a21
 obtain⟨_,H,p18⟩:=u4J (P:=l.prog) (w:=w) (base:=base)  F18 T;have C18:=mkC H (F18.b1 λ_ _ _ _ _ _ _=>rfl) k18 a18
 obtain⟨_,H,p22⟩:=u4H (P:=l.prog) (w:=w) (base:=base) C21 C18 p21 p18 F22 T;have C22:=mkC H (F22.b1 λ_ _ _ _ _ _ _=>rfl) k22 a22
 obtain⟨_,H,p24⟩:=u2w (P:=l.prog) (w:=w) (base:=base) C22 C20 p22 p20 F24 T;have C24:=mkC H (F24.b1 λ_ _ _ _ _ _ _=>rfl) k24 a24
 obtain⟨_,H,p4⟩:=u9y (P:=l.prog) (w:=w) (base:=base) C1 C2 p1 p2 F4 T;have C4:=mkC H (F4.b1 λ_ _ _ _ _ _ _=>rfl) k4 a4
 obtain⟨_,H,p25⟩:=u9r (P:=l.prog) (w:=w) (base:=base) C24 C22 C4 m_body_of m_head_of p22 p24 p4 a0n a1b F25 T;have C25:=mkC H (F25.b1 λ_ _ _ _ _ _ _=>rfl) k25 a25
 obtain⟨_,H,p39⟩:=u6t (P:=l.prog) (w:=w) (base:=base) C36 C35 p36 p35 F39 T;have C39:=mkC H (F39.b2 λ_ _ _ _ _ _ _ _=>rfl) k39 a39
 obtain⟨_,H,p38⟩:=u6v (P:=l.prog) (w:=w) (base:=base)  F38 T;have C38:=mkC H (F38.b3 λ_ _ _ _ _ _ _ _ _=>rfl) k38 a38
 obtain⟨_,H,p40⟩:=u7u (P:=l.prog) (w:=w) (base:=base) C39 C36 p39 p36 F40 T;have C40:=mkC H (F40.b3 λ_ _ _ _ _ _ _ _ _=>rfl) k40 a40
 obtain⟨_,H,p26⟩:=pr_live (P:=l.prog) (w:=w) (base:=base) C25 C24 m_head_of p25 p24 a0n F26 T;have C26:=mkC H (F26.b1 λ_ _ _ _ _ _ _=>rfl) k26 a26
 obtain⟨_,H,p19⟩:=u4b (P:=l.prog) (w:=w) (base:=base) C4 p4 F19 T;have C19:=mkC H (F19.b1 λ_ _ _ _ _ _ _=>rfl) k19 a19
 obtain⟨_,H,p12⟩:=u7z (P:=l.prog) (w:=w) (base:=base)  F12 T;have C12:=mkC H (F12.b1 λ_ _ _ _ _ _ _=>rfl) k12 a12
 obtain⟨_,H,a1f⟩:=v2z (P:=l.prog) (w:=w) (base:=base) C12 p12 Fheads T;have m_heads:=mkF T.cls nheads H (Fheads.b1 λ_ _ _ _ _ _ _=>rfl)
 obtain⟨_,H,p23⟩:=u5x (P:=l.prog) (w:=w) (base:=base) C22 C21 C19 m_heads EVast p22 p21 p19 a1f F23 T;have C23:=mkX H (F23.b1 λ_ _ _ _ _ _ _=>rfl) k23 a23
 obtain⟨_,H,p27⟩:=u5A (P:=l.prog) (w:=w) (base:=base) C26 C18 C23 EDead p26 p18 p23 F27 T;have C27:=mkX H (F27.b1 λ_ _ _ _ _ _ _=>rfl) k27 a27
 obtain⟨_,H,p41⟩:=u7v (P:=l.prog) (w:=w) (base:=base) C27 S p27 F41 T;have C41:=mkX H (F41.b1 λ_ _ _ _ _ _ _=>rfl) k41 a41
 obtain⟨_,H,p6⟩:=u9x (P:=l.prog) (w:=w) (base:=base)  F6 T;have C6:=mkC H (F6.b1 λ_ _ _ _ _ _ _=>rfl) k6 a6
 obtain⟨_,H,p5⟩:=u6w (P:=l.prog) (w:=w) (base:=base) C3 C4 p3 p4 F5 T;have C5:=mkC H (F5.b1 λ_ _ _ _ _ _ _=>rfl) k5 a5
 obtain⟨_,H,p7⟩:=u9z (P:=l.prog) (w:=w) (base:=base) C5 p5 F7 T;have C7:=mkC H (F7.b1 λ_ _ _ _ _ _ _=>rfl) k7 a7
 obtain⟨_,H,p8⟩:=u9v (P:=l.prog) (w:=w) (base:=base) C6 C4 C7 p6 p4 p7 F8 T;have C8:=mkC H (F8.b1 λ_ _ _ _ _ _ _=>rfl) k8 a8
 obtain⟨_,H,p14⟩:=u5y (P:=l.prog) (w:=w) (base:=base) C8 p8 F14 T;have C14:=mkC H (F14.b1 λ_ _ _ _ _ _ _=>rfl) k14 a14
 obtain⟨_,H,p15⟩:=u2u (P:=l.prog) (w:=w) (base:=base) C12 C4 p12 p4 F15 T;have C15:=mkC H (F15.b1 λ_ _ _ _ _ _ _=>rfl) k15 a15
 obtain⟨_,H,p13⟩:=u7t (P:=l.prog) (w:=w) (base:=base) C3 p3 F13 T;have C13:=mkC H (F13.b1 λ_ _ _ _ _ _ _=>rfl) k13 a13
 obtain⟨_,H,p16⟩:=u2v (P:=l.prog) (w:=w) (base:=base) C12 C13 p12 p13 F16 T;have C16:=mkC H (F16.b1 λ_ _ _ _ _ _ _=>rfl) k16 a16
 obtain⟨_,H,p9⟩:=u9u (P:=l.prog) (w:=w) (base:=base)  F9 T;have C9:=mkC H (F9.b1 λ_ _ _ _ _ _ _=>rfl) k9 a9
 obtain⟨_,H,p10⟩:=u3B (P:=l.prog) (w:=w) (base:=base) C3 p3 F10 T;have C10:=mkC H (F10.b1 λ_ _ _ _ _ _ _=>rfl) k10 a10
 obtain⟨_,H,p11⟩:=u9w (P:=l.prog) (w:=w) (base:=base) C6 C9 C10 p6 p9 p10 F11 T;have C11:=mkC H (F11.b1 λ_ _ _ _ _ _ _=>rfl) k11 a11
 obtain⟨_,H,p17⟩:=u5z (P:=l.prog) (w:=w) (base:=base) C11 p11 F17 T;have C17:=mkC H (F17.b1 λ_ _ _ _ _ _ _=>rfl) k17 a17
 have HG:=u9A (P:=l.prog) (w:=w) (base:=base) C14 C15 C16 C17 p14 p15 p16 p17 FG T;have KG:KCal l.prog w K mg base 7 "Grammar" A.Grammar ["self","rules","ranks"] [] gInit:=⟨fG,_,[],[],⟨mkG,aG,fnG,kpG⟩,HG,bG3,.nil,λF=>.nil,W.mg_of X G gG⟩
 have KG1:KCal l.prog w K mg base 7 "Grammar" A.Grammar ["self","rules","ranks"] [.non] gInit:=⟨fG,_,[.non],[.none],⟨mkG,aG,fnG,kpG⟩,HG,bG2,.cons rfl .nil,λF=>.cons .non .nil,W.mg_of X G gG⟩
 obtain⟨_,H,p42⟩:=pr_law (P:=l.prog) (w:=w) (base:=base) C34 C37 C25 C39 C38 C40 C41 C26 C36 KG KG1 p34 p37 p25 p39 p38 p40 p41 p26 p36 F42 T;exact hY (law_imp nl H p42)
def walk {l:W.OpenLaw}{q:Program}{loose:List Str}{XP:(Str->Option Value)->Heap->Prop}{YP:World->Heap->Prop}{d:DefRec}{K:Params->W.Frag} (hn:l.most=some 63) (hdf:d.params.defaults=[])
  (hY:∀(w:World) (h:Heap),YP w h->(K w.params).In h)
  (F:∀ (w:World) (mg:MG) (fa:Addr) (h:Heap),(K w.params).In h->h.Ns mainGlobals mg->mg d.name=some (.ref fa) ->
   ∃fd:FuncData,(∀(s:Shared) (u:Value),BindsTo s fd ⟨[u],[]⟩ [("_law_script",u)])/\∀base:Heap,(K w.params).In base->base.Ns mainGlobals mg->FnOk l.prog w (K w.params) mg base (CXe l.prog w) 11 fa fd ["_law_script"] (spLaw7 (K w.params))) :
  W.WalkO q loose XP YP l.row.toRowW d [] (λf vs=>PySem.call f vs) :=
 L2.walk_of (n:=63) (k:=11) (x:="_law_script") (CX:=λw=>CXe l.prog w) (sp:=λw=>spLaw7 (K w.params)) hn (by decide) hdf ⟨rfl,by decide,by decide⟩ hY F (λ_ H a ns hl hO hS=>⟨a,ns,rfl,hS,λ_=>rfl⟩) λ_ _ _ _ _ z9151=>by obtain⟨_,_,_,_,_,_,_,_,_,_,_,z⟩:=z9151;exact z
end K19
end
namespace PySem.W.Fast
def tw2718740846718884050:=True
def tw1306220980905656599:=True
def tw2247464940726255907:=True
def tw9408275212254748661:=True
def tw6872328536712890927:=True
def tw3660981205126563704:=True
def tw4118636499825268370:=True
def tw6588711566006275808:=True
def tw10219676270741849087:=True
def tw11912322782283312407:=True
def tw17650272019617667576:=True
def tw5696000618317411692:=True
def tw8127204972712487849:=True
def tw8167351515071543641:=True
def tw16928821671335801325:=True
def tw15861262128364756631:=True
def tw16530969381150166609:=True
def tw9787200249890879715:=True
def tw4329742251161574748:=True
def tw714525397873424462:=True
def tw14209072347664548973:=True
def tw16332500714388348986:=True
def tw18119979617452825376:=True
def tw18246452904156377830:=True
def tw16650055761512763553:=True
def tw6616012147502421834:=True
def tw6467600928096576075:=True
def tw1642500373100117413:=True
def tw2413242784228134261:=True
def tw9568379049029892407:=True
def tw6038334549460508139:=True
def tw12303106427915302493:=True
def tw9711882982604944406:=True
def tw13617037030769822678:=True
def tw17783769626565026212:=True
def tw4629082149123007421:=True
def tw9330410831326788619:=True
def tw2419421254051627109:=True
def tw7845082595934082424:=True
def tw4134345814466583375:=True
def tw18114101646086139488:=True
def tw2419304266828886641:=True
def tw3765780423497234834:=True
def tw5257062115852719241:=True
def tw14994666898161765376:=True
def tw10349205840298618710:=True
def tw12083419926425964237:=True
def tw2330293856606816571:=True
def tw6311706080808636344:=True
def tw14189768567500876697:=True
def tw14858013848014180572:=True
def tw3840624566714973462:=True
def tw14853057414432603313:=True
def tw9216747830560946061:=True
def tw12006507066147786910:=True
def tw13432299838110382531:=True
def tw16982182130811698639:=True
def tw10357214621291355480:=True
def tw12113647655216469663:=True
def tw6082861820513404088:=True
def tw8439854950907610126:=True
def tw16294791911484800783:=True
def tw13210246672436371289:=True
def tw13629935576696547188:=True
def tw16798178631162976298:=True
def tw11181642359991062117:=True
def tw16844718683538897202:=True
def tw2462633953493902820:=True
def tw8586907364077627053:=True
def tw2179249478522058171:=True
def tw18276550740654154497:=True
def tw8909849119055015633:=True
def tw10516454533351453399:=True
def tw185375469345928304:=True
def tw16549929485214686667:=True
def tw9045597253781732476:=True
def tw1885221599685557218:=True
def tw15732960037151389351:=True
def tw2562545833537535124:=True
def tw15423076540591833015:=True
def tw17928387067633734027:=True
def tw16782433485107632761:=True
def tw4444151817742446603:=True
def tw2800747808286656602:=True
def tw18161789328462993538:=True
def tw1666112582270910990:=True
def tw8558155072441783125:=True
def tw3029179410560766870:=True
def tw8413445334199653531:=True
def tw6692402918804090268:=True
def tw420192346784392617:=True
def tw12264159478110118788:=True
def tw2504588959019077975:=True
def tw9053728207400903216:=True
def tw3514023501627035997:=True
def tw5038795523051404694:=True
def tw9724937808914468038:=True
def tw7198755586792564098:=True
def tw16525551120102849502:=True
def tw12488291837904375943:=True
def tw15017257295714597522:=True
def tw1413735701378137171:=True
def tw13686895067510905002:=True
def tw18333422037366761853:=True
def tw3093846172416697875:=True
def tw17240975899565420517:=True
def tw6849801876294495386:=True
def tw15807082576689482153:=True
def tw2538071145864855810:=True
def tw6557808046582656443:=True
def tw14145658842655881782:=True
def tw648944004712333814:=True
def tw14345807184117537912:=True
def tw16911940239890609729:=True
def tw10372439035018229440:=True
def tw8513495864315529739:=True
def tw18440014539819918763:=True
def tw6371789065568655932:=True
def tw7543150161173539011:=True
def tw1463814234141933744:=True
def tw13235065907862286689:=True
def tw11318568788428953354:=True
def tw3558923352072484913:=True
def tw15454750363646419360:=True
def tw203387957205005897:=True
def tw6329584569923488348:=True
def tw2728767226793455966:=True
def tw14459435755757801947:=True
def tw17888263229057092438:=True
def tw594667203976530089:=True
def tw331838152110586006:=True
def tw5990584119850296749:=True
def tw11969295665774060574:=True
def tw11068403095262818941:=True
def tw12821733197640444306:=True
def tw17384449330155921929:=True
def tw13987342262250622809:=True
def tw1073693797291589200:=True
def tw12608517932368833730:=True
def tw15399608372807683759:=True
def tw1651658923567268423:=True
def tw353524836068088822:=True
def tw3314828416106024745:=True
def tw10602945715159660538:=True
def tw12878542592074518373:=True
def tw14487288140031122998:=True
def tw15571494346945438805:=True
def tw1180462266565684074:=True
def tw2774018646799843639:=True
def tw14304945927115842090:=True
def tw8865517015609120159:=True
def tw6405149253292648800:=True
def tw6329055605110844954:=True
def tw3339480472678671868:=True
def tw11733119111228008144:=True
def tw13247662097408644908:=True
def tw12136475963574534884:=True
def tw2763329866864813405:=True
def tw4811987068948797406:=True
def tw17718410646378423783:=True
def tw12642714394719904642:=True
def tw5227734242533787862:=True
def tw4305825465146758528:=True
def tw8053605152285684525:=True
def tw14639342467100065670:=True
def tw2852258390197304178:=True
def tw7601625609145707969:=True
def tw13227281478562702767:=True
def tw8320288618196296661:=True
def tw8585070061691221763:=True
def tw6561865433859947172:=True
def tw13963430831076193135:=True
def tw16247668939600775819:=True
def tw15200727551085662062:=True
def tw9133849517179462980:=True
def tw1934832769370776922:=True
def tw12183205804305237571:=True
def tw17962169539224688020:=True
def tw8929923880762603242:=True
def tw5680451674629175414:=True
def tw404114805157586810:=True
def tw5454210043537963666:=True
def tw17942352440453935212:=True
def tw6384335154900296671:=True
def tw13769603182822800979:=True
def tw16632325394338795524:=True
def tw2152016401147054260:=True
def tw14739049519199363816:=True
def tw14585704246859764358:=True
def tw8814780920479042689:=True
def tw14019498372999234173:=True
def tw8479852232608065217:=True
def tw752255159496060071:=True
def tw13597168434416599772:=True
def tw16499996337318002575:=True
def tw12576785028525295905:=True
def tw3634246663920196249:=True
def tw5992434961959312783:=True
def tw6865284802223115826:=True
def tw15334326087221532374:=True
def tw14407834215039699205:=True
def tw14102476556486353244:=True
def tw3126145881274892262:=True
def tw17365473004873484645:=True
def tw7367243318861566521:=True
def tw10967452692572791811:=True
def tw3524437040395540321:=True
def tw6845491172347296145:=True
def tw14220904776728011148:=True
def tw13476625813372542492:=True
def tw13072168159652972199:=True
def tw4303706106477239653:=True
def tw5378208647252847793:=True
def tw11258654565591974820:=True
def tw3629551608925712585:=True
def tw7557644563552787508:=True
def tw16775847215837097311:=True
def tw6082321397974814409:=True
def tw7598855982304340426:=True
def tw1369347989240203547:=True
def tw8645021139899360663:=True
def tw6576392749209049050:=True
def tw16730404138906608960:=True
def tw8385366115316565155:=True
def tw7381329536992557102:=True
def tw10210240650897679458:=True
def tw11976106650940739049:=True
def tw16437377694892363372:=True
def tw13527096324734069352:=True
def tw8643227224545884416:=True
def tw14051628434267887906:=True
def tw4256598068146870795:=True
def tw900890605576992575:=True
def tw13312386995309210367:=True
def tw4252489164235827085:=True
def tw8317023690142078559:=True
def tw1559861462640088588:=True
def tw15543060287593440466:=True
def tw17606229421852972104:=True
def tw10758652453039010708:=True
def tw14199581945879492548:=True
def tw367370996435651293:=True
def tw5325878688199002743:=True
def tw10311040348506095163:=True
def tw5258845962889695709:=True
def tw7996229777859503744:=True
def tw8487018997755746204:=True
def tw8826968544168971847:=True
def tw16467241486375346990:=True
def tw5954402414863107920:=True
def tw1547553785558964815:=True
def tw4704436856526444383:=True
def tw3429934305123834969:=True
def tw12130562125197679663:=True
def tw16343903015728489932:=True
def tw2159779664215338524:=True
def tw13207460218458237492:=True
def tw558164112282721761:=True
def tw9125036934324296066:=True
def tw7997857879644332695:=True
def tw7325213351731114572:=True
def tw14928700844760570261:=True
def tw11863227193817363324:=True
def tw3106065276785177593:=True
def tw10161683707209820599:=True
def tw5458820863490890739:=True
def tw14081395697474081762:=True
def tw11056671861611758257:=True
def tw12368544555150741502:=True
def tw3782868302843898377:=True
def tw16420495906527556263:=True
def tw4909958610384764291:=True
def tw2626310324130761947:=True
def tw2697421818867193090:=True
def tw2925548098416466003:=True
def tw16567012691713339001:=True
def tw10841194890854670712:=True
def tw819802362381231130:=True
def tw13250604731153625555:=True
def tw17980782505789949845:=True
def tw5089098350627753198:=True
def tw6568777682908925979:=True
def tw15302654765458818314:=True
def tw3745583007639910980:=True
def tw14201252044540577072:=True
def tw3821636835676126196:=True
def tw3963170366567235076:=True
def tw6849953524177109634:=True
def tw5525232735037550975:=True
def tw5032575818825443974:=True
def tw14712751311843765835:=True
def tw5783456279379607332:=True
def tw8526592663367000273:=True
def tw17391370586537289166:=True
def tw7169976799975269552:=True
def tw16537389748830399136:=True
def tw11288204765438175800:=True
def tw15166856537482213265:=True
def tw17559933499087886435:=True
def tw15893876555642528064:=True
def tw14491130713769117336:=True
def tw15342373807071574576:=True
def tw1281049844365872406:=True
def tw13774637933781994584:=True
def tw5014740611092584642:=True
def tw416543849169152549:=True
def tw7849139272848937044:=True
def tw12883558957033672985:=True
def tw8115829517306259345:=True
def tw5312233446326003628:=True
def tw12770123200125701314:=True
def tw5109967423854879788:=True
def tw64688518877138743:=True
def tw18030652289174346204:=True
def tw6034511034851726453:=True
def tw15248490576937561146:=True
def tw13090928383518761752:=True
def tw7173006916077244511:=True
def tw12640248931887787674:=True
def tw761451402028150468:=True
def tw15088683250961593015:=True
def tw1308820067752764389:=True
def tw5301105902250807521:=True
def tw9464391928245041332:=True
def tw1274347150270058774:=True
def tw11265027896873616522:=True
def tw15564466235646760709:=True
def tw16522191048616185932:=True
def tw15828276120970379586:=True
def tw7860778583290381829:=True
def tw10187277930961439819:=True
def tw15390901593763257850:=True
def tw12247964890655816224:=True
def tw12994932456489807586:=True
def tw2877754575070476072:=True
def tw12024753229041056441:=True
def tw10101469604656838214:=True
def tw9736869761052992975:=True
def tw13161716344793404674:=True
def tw603422999783962859:=True
def tw12166019050489122795:=True
def tw16211822046361411714:=True
def tw7880667942211423943:=True
def tw10201637186856485448:=True
def tw2228549204605601906:=True
def tw2974603074024925545:=True
def tw18271124791788681011:=True
def tw17172095023089946391:=True
def tw16617691013387249559:=True
def tw11108600539768108178:=True
def tw8195032597692850905:=True
def tw7031444846562645771:=True
def tw10077260266528201083:=True
def tw11712225810630861717:=True
def tw17150275996201002658:=True
def tw1126478866287911286:=True
def tw12959145475525521265:=True
def tw14823531774332382195:=True
def tw4689415854994120348:=True
def tw14695766115837504003:=True
def tw4816234613525990366:=True
def tw1195614015320019294:=True
def tw6349729043715546531:=True
def tw17739727285480854582:=True
end PySem.W.Fast
open PySem PySem.W PyProof.Rows
set_option maxRecDepth 100000 in
set_option maxHeartbeats 0 in
theorem PySem.Challenge.cw_rulestable_k19_ways_and_live_rules_holds : PySem.Challenge.rw_rulestable_k19_ways_and_live_rules.Holds := by
  w_on; o_law; k_head; (case hw => w_witness2)
  k_fill
  refine K19.walk (l := PySem.Challenge.rw_rulestable_k19_ways_and_live_rules) rfl rfl (fun w h Y => PySem.W.kIn_of Y) ?F
  case F =>
    intro w mg fa h KX G hmg
    refine' K19.all_mk KX G hmg ?h0 ?h1 ?h2 ?h3 ?h4 ?h5 ?h6 ?h7 ?h8 ?h9 ?h10 ?h11 ?h12 ?h13 ?h14 ?h15 ?h16 ?h17 ?h18 ?h19 ?h20 ?h21 ?h22 ?h23 ?h24 ?h25 ?h26 ?h27 ?h28 ?h29 ?h30 ?h31 ?h32 ?h33 ?h34 ?h35 ?h36 ?h37 ?h38 ?h39 ?h40 ?h41 ?h42 ?h43 ?h44 ?h45 ?h46 ?h47 ?h48 ?h49 ?h50 ?h51 ?h52 ?h53 ?h54 ?h55 ?h56 ?h57 ?h58 ?h59 ?h60 ?h61 ?h62 ?h63 ?h64 ?h65 ?h66 ?h67 ?h68 ?h69 ?h70 ?h71 ?h72 ?h73 ?h74 ?h75 ?h76 ?h77 ?h78 ?h79 ?h80 ?h81 ?h82 ?h83 ?h84 ?h85 ?h86 ?h87 ?h88 ?h89 ?h90 ?h91 ?h92 ?h93 ?h94 ?h95 ?h96
    case h0 | h1 | h2 | h3 | h4 | h5 | h6 | h7 | h8 | h9 | h10 | h11 | h12 | h13 | h14 | h15 | h16 | h17 | h18 | h19 | h20 | h21 | h22 | h23 | h24 | h25 | h26 | h27 | h28 | h29 | h30 | h31 | h32 | h33 | h34 | h35 | h36 | h37 | h38 | h39 | h40 | h41 => exact ⟨_, _, _, _, _, _, _, _, _, _, by k_is, by k_is, by k_is, by k_is⟩
    case h42 | h43 => exact ⟨by k_is, _, _, _, _, _, _, _, _, _, _, by k_is, by k_is, by k_is, by k_is, by kernel_rfl, by k_is, by kernel_rfl⟩
    case h44 => exact ⟨by k_is, by kernel_rfl⟩
    case h45 => k_is
    case h46 | h47 | h48 | h49 => first | k_is | kernel_rfl
    case h50 | h51 | h52 => intro T hT; simp only [List.mem_cons, List.not_mem_nil, or_false] at hT; rcases hT with rfl | rfl | rfl | rfl | rfl | rfl | rfl <;> first | k_is | kernel_rfl
    case h53 | h54 | h55 | h56 | h57 => kernel_rfl
    case h58 => decide
    case h59 | h60 | h61 | h62 | h63 => exact ⟨_, _, _, _, _, _, _, _, _, _, by k_is, by first | k_is | kernel_rfl, by k_is, by k_is, by k_is⟩
    case h64 | h65 | h66 | h67 => k_is
    case h68 | h69 | h70 | h71 | h72 | h73 | h74 | h75 | h76 | h77 => first | k_is | kernel_rfl
    case h78 => kernel_rfl
    case h79 | h80 | h81 | h82 | h83 | h84 | h85 | h86 | h87 | h88 | h89 | h90 | h91 => k_is
    case h92 => intro x hx; simp only [List.mem_cons, List.not_mem_nil, or_false] at hx; rcases hx with rfl | rfl | rfl | rfl | rfl | rfl | rfl | rfl | rfl | rfl | rfl | rfl | rfl | rfl | rfl | rfl <;> k_is
    case h93 | h94 | h95 | h96 => k_is
