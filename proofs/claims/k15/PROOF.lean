import PyProof.Rows.All
import Wide.All
import OpenK.AllK
import Wide.FinOn
import Lean
import PyProof.EqAt
import PyProof.EqKinds
import PyProof.TupleCall
import PyProof.Rows.SetFrom
import PyProof.Rows.SortStr
import KE.KDictSum
import KE.KEqDict
import KE.KDictLaws
import PyProof.StrOps2
import PySem.Challenge.RW_rulestable_k15_whole_trees_as_texts
set_option Elab.async false
set_option linter.all false
set_option maxRecDepth 100000
set_option tactic.hygienic false
section
abbrev VP:=PySem.Value->PySem.Shared->Prop
abbrev LO:=List (PySem.Addr×PySem.Obj)
abbrev MG:=PySem.Str->Option PySem.Value
abbrev z0:=@PySem.Heap.get?_push_of_some
abbrev z5:=@List.mem_cons_of_mem
abbrev z6:=@List.mem_cons_self
abbrev z7:=@List.mem_cons
abbrev z8:=@PySem.Heap.lt_size
abbrev y0:=@Nat.le_refl
abbrev y6:=@PySem.Heap.get?_push_size
abbrev y7:=@List.size_toArray
abbrev y9:=@Nat.le_trans
abbrev x0:=@List.mem_append_right
abbrev x6:=@PySem.Heap.get?_update_other
abbrev x8:=@Nat.lt_of_lt_of_le
abbrev x9:=@List.length_map
abbrev w9:=@List.getElem?_eq_some_iff
abbrev v6:=@List.mem_append
abbrev v7:=@List.getElem?_map
abbrev u0:=@Array.mem_toList_iff
abbrev u3:=@List.getElem?_eq_getElem
abbrev u4:=@List.length_append
abbrev u5:=@List.not_mem_nil
abbrev u6:=@List.lookup_cons
abbrev u7:=@PySem.Heap.get?_update_self
abbrev u9:=@Nat.ne_of_lt
abbrev r9:=@List.mem_append_left
abbrev z0A:=@List.map_append
abbrev z0B:=@Nat.lt_irrefl
abbrev z0C:=@List.map_cons
abbrev z0D:=@List.length_cons
abbrev z0E:=@Nat.zero_le
abbrev z0F:=@List.getElem?_replicate
abbrev z0G:=@List.mem_of_mem_drop
abbrev z0H:=@List.mem_singleton
abbrev z0I:=@Bool.false_ne_true
abbrev z0J:=@Array.length_toList
abbrev z1A:=@List.mem_of_mem_take
abbrev z1B:=@List.all_cons
abbrev z1C:=@List.length_reverse
abbrev z1D:=@Nat.lt_of_le_of_lt
abbrev z1E:=@Bool.false_eq_true
abbrev z1F:=@List.getElem?_append_right
abbrev z1G:=@Bool.and_eq_true
abbrev z1H:=@List.length_singleton
abbrev z1I:=@List.length_replicate
abbrev z1J:=@List.getElem?_append_left
abbrev z2A:=@List.drop_eq_getElem_cons
abbrev z2B:=@Array.getElem?_eq_getElem
abbrev z2C:=@List.getElem?_append
abbrev z2D:=@List.nodup_cons
abbrev z2E:=@Bool.and_eq_true_iff
abbrev z2F:=@List.length_drop
abbrev z2G:=@List.mem_map
abbrev z2H:=@List.getElem?_set_self
abbrev z2I:=@List.getElem?_reverse
abbrev z2J:=@List.getElem_mem
abbrev z3A:=@List.foldl_cons
abbrev z3B:=@List.mem_range
abbrev z3C:=@List.length_take
abbrev z3D:=@List.getElem?_cons_succ
abbrev z3E:=@List.all_eq_true
abbrev z3F:=@List.map_map
namespace L2
open PySem PySem.Spec PyProof.Rows
variable {us ds:List Value}{x name m qual:Str}{u cd:Value}{κ α:Type}{a b it dx C f g:Addr}{P prog:Program}{w:World}{h h' base:Heap}{e c tg l:Expr}{pins:LO}{s s':Shared}{t' i j k n:Nat}{N ns ps:List Str}{A:Around}{E Q:VP}{pos pos' p:Pos}{rest es:List Expr}{st body:List Stmt}{K:W.Frag}{mA mg:MG}{fd:FuncData}{outer:List Env}{sc scope:Scope}
abbrev Key:=Sum Int Str
noncomputable def keyIs:Key->Value->Bool
 | .inl k,v=>Value.isInt k v
 | .inr x,v=>Value.isStrOf x v
noncomputable def keyH (w:World):Key->Int
 | .inl k=>hashInt k
 | .inr x=>hashStr w x
theorem u0B:∀{k:Key}{v:Value},keyIs k v=true->(∃i t,k=Sum.inl i/\v=Value.int i t)\/(∃x t,k=Sum.inr x/\v=Value.str x t)
 | .inl i,v,h=>by
  obtain⟨t,e⟩:=Value.isInt_shape (k:=i) (v:=v) h;exact .inl ⟨i,t,rfl,e⟩
 | .inr x,v,h=>by
  obtain⟨t,e⟩:=Value.isStrOf_shape (x:=x) (v:=v) h;exact .inr ⟨x,t,rfl,e⟩
def key_ll (a b:Int):decide ((Sum.inl a:Key)=Sum.inl b)=(a==b):=by
 by_cases e:a=b
 ·subst e;simp
 ·have h:¬ (Sum.inl a:Key)=Sum.inl b:=fun q=>e (Sum.inl.inj q)
  rw[decide_eq_false h];exact(beq_eq_false_iff_ne.mpr e).symm
def key_rr (a b:Str):decide ((Sum.inr a:Key)=Sum.inr b)=decide (a=b):=by
 by_cases e:a=b
 ·subst e;simp
 ·have h:¬ (Sum.inr a:Key)=Sum.inr b:=fun q=>e (Sum.inr.inj q)
  rw[decide_eq_false h,decide_eq_false e]
def key_lr (a:Int) (b:Str):decide ((Sum.inl a:Key)=Sum.inr b)=false:=decide_eq_false (λq=>nomatch q)
def key_rl (a:Str) (b:Int):decide ((Sum.inr a:Key)=Sum.inl b)=false:=decide_eq_false (λq=>nomatch q)
noncomputable def mixKind (prog:Program) (w:World):PySem.KeyKind prog w Key where
 is:=keyIs
 hash:=keyH w
 inj:=λv a b ha hb=>by
  rcases u0B ha with⟨i,t,rfl,rfl⟩|⟨x,t,rfl,rfl⟩
  ·rcases u0B hb with ⟨j,u,rfl,e⟩ | ⟨y,u,rfl,e⟩
   ·injection e with e1 _;rw[e1]
   ·exact nomatch e
  ·rcases u0B hb with ⟨j,u,rfl,e⟩ | ⟨y,u,rfl,e⟩
   ·exact nomatch e
   ·injection e with e1 _;rw[e1]
 byValue:=λk v h=>by
  rcases u0B h with⟨i,t,rfl,rfl⟩|⟨x,t,rfl,rfl⟩<;>rfl
 pyHash:=λhv h=>by
  rcases u0B hv with⟨i,t,rfl,rfl⟩|⟨x,t,rfl,rfl⟩
  ·exact wpAny_pyHash_int h
  ·exact wpAny_pyHash_str h
 eqBool:=λhu hv h=>by
  rcases u0B hu with⟨i,t,rfl,rfl⟩|⟨x,t,rfl,rfl⟩
  ·rcases u0B hv with ⟨j,u,rfl,rfl⟩ | ⟨y,u,rfl,rfl⟩
   ·rw[key_ll] at h;exact wpAny_eqBool_int h
   ·rw[key_lr] at h;exact SeqAt.EqAt.int_str i t y u _ _ _ _ h
  ·rcases u0B hv with ⟨j,u,rfl,rfl⟩ | ⟨y,u,rfl,rfl⟩
   ·rw[key_rl] at h;exact SeqAt.EqAt.str_int x t j u _ _ _ _ h
   ·rw[key_rr] at h;exact wpAny_eqBool_str h
 «strs»:=λk x t v h=>by
  rcases u0B h with⟨i,u,rfl,e⟩|⟨y,u,rfl,e⟩
  ·exact nomatch e
  ·injection e with e1 _
   subst e1;cases v<;>rfl
inductive V where
 | non|bl (b:Bool)|int (i:Int)|str (x:Str)|byt (b:Array UInt8)|flt (b:UInt64)|ref (a:Addr)|ty (n:String)
 deriving DecidableEq
variable {xs vs dvs:List V}{v y:V}
def RelV:V->Value->Prop
 | .non,u=>u=Value.none
 | .bl b,u=>u=Value.bool b
 | .int i,u=>∃t,u=Value.int i t
 | .str x,u=>∃t,u=Value.str x t
 | .byt b,u=>∃t,u=Value.bytes b t
 | .flt b,u=>∃t,u=Value.float b t
 | .ref a,u=>u=Value.ref a
 | .ty n,u=>u=Value.type n
abbrev Vals:List V->List Value->Prop:=Paired RelV
theorem Vals.length(r:Vals xs us):xs.length=us.length:=Paired.length r
theorem Vals.get:∀{xs:List V}{us:List Value}{i:Nat}{x:V},Vals xs us->xs[i]?=some x->∃u,us[i]?=some u/\RelV x u
 | _,_,_,_,.nil,e=>by simp at e
 | _,_,0,_,.cons r _,e=>by simp at e;subst e;exact⟨_,rfl,r⟩
 | _,_,i+1,x,.cons _ t,e=>by
  obtain⟨u,h1,h2⟩:=Vals.get (i:=i) (x:=x) t (by simpa using e)
  exact⟨u,by simpa using h1,h2⟩
theorem Vals.set{x:V} (r:RelV x u):∀{xs:List V}{us:List Value} (i:Nat),Vals xs us->Vals (xs.set i x) (us.set i u)
 | _,_,_,.nil=>.nil
 | _,_,0,.cons _ t=>.cons r t
 | _,_,i+1,.cons q t=>.cons q (Vals.set r i t)
theorem Vals.append:∀{xs ys:List V}{us ws:List Value},Vals xs us->Vals ys ws->Vals (xs++ys) (us++ws)
 | _,_,_,_,.nil,s=>s
 | _,_,_,_,.cons r t,s=>.cons r (Vals.append t s)
theorem Vals.take:∀{xs:List V}{us:List Value} (n:Nat),Vals xs us->Vals (xs.take n) (us.take n)
 | _,_,0,_=>.nil
 | _,_,_+1,.nil=>.nil
 | _,_,n+1,.cons r t=>.cons r (Vals.take n t)
theorem Vals.drop:∀{xs:List V}{us:List Value} (n:Nat),Vals xs us->Vals (xs.drop n) (us.drop n)
 | _,_,0,r=>r
 | _,_,_+1,.nil=>.nil
 | _,_,n+1,.cons _ t=>Vals.drop n t
def RelO:Option V->Option Value->Prop
 | some v,some u=>RelV v u
 | none,none=>True
 | _,_=>False
noncomputable def KV:List (κ×V)->List (κ×Value)->Prop:=Paired λ(p:κ×V) (q:κ×Value)=>p.1=q.1/\RelV p.2 q.2
noncomputable def kV:Key->V
 | .inl i=>.int i
 | .inr x=>.str x
inductive HO where
 /-- a list -/
 | lst (xs:List V)
 /-- a tuple (never changes) -/
 | tup (xs:List V)
 /-- a dict whose keys are ints and texts;one whose keys are tuples of ints and texts (the empty one is both) -/
 | dK (kvs:List (Key×V))|dT (kvs:List (List Key×V))
 /-- a set of ints: its members,its size -/
 | set (S:Int->Bool) (n:Nat)
 /-- an instance of the class at C,its dict at dx,its attributes -/
 | ins (C dx:Addr) (fs:List (Str×V))
 /-- the dict of the instance at x -/
 | own (x:Addr)
 /-- the dict of an exception -/
 | xd (fs:List (Str×V))
 /-- a bound method,f of x -/
 | met (f x:Addr)
 /-- a range object lo,lo+1,.. below hi -/
 | rng (lo hi:Int)
 /-- a thing that is known to the object (the script;a dict while a loop walks it): read,never written while it is so -/
 | frz (o:Obj) (u:HO)
 /-- a code object's table -/
 | tbl (ps:Array Value)
 /-- any other thing,by what is true of its one object (a def of one's own: SetO a S n:=HO.ext λh=>..) -/
 | ext (φ:Heap->Prop)
variable {o:HO}
abbrev Hp:=Addr->Option HO
variable {H H':Hp}
noncomputable def upd (H:Hp) (a:Addr) (o:HO):Hp:=λb=>if b=a then some o else H b
def u0c:upd H a o a=some o:=by unfold upd;rw[if_pos rfl]
def u0e(h:b≠a):upd H a o b=H b:=by unfold upd;rw[if_neg h]
def upd_upd{u:HO}:upd (upd H a o) a u=upd H a u:=by
 funext b;unfold upd;split<;>rfl
def u0z(h:H a=some o) (h':H b=none):a≠b:=by
 intro e;subst e;rw[h] at h';cases h'
section
variable (P:Program) (w:World)
def ObjOk (H:Hp) (h:Heap) (a:Addr):HO->Prop
 | .lst xs=>xs.length<=sizeLine/\∃(its:List Value) (n:Nat),Vals xs its/\h.get? a=some { cls:=.type "list",data:=.seq its.toArray n }
 | .tup xs=>xs.length<=sizeLine/\∃its:List Value,Vals xs its/\IsTup h a its.toArray
 | .dK kvs=>kvs.length<=sizeLine/\(a==sysModules)=false/\∃vs,KV kvs vs/\h.DictOf (mixKind P w) a vs
 | .dT kvs=>kvs.length<=sizeLine/\(a==sysModules)=false/\∃xs:List (List Key×Addr×Value),
   Paired (λ(p:List Key×V) (q:List Key×Addr×Value)=>p.1=q.1/\H q.2.1=some (.tup (p.1.map kV))/\RelV p.2 q.2.2) kvs xs /\
   ∃o es ep,h.get? a=some o/\o.ExactDict/\o.data=.dict es ep/\es.toList=xs.map (entryOfKey (tupleKind (mixKind P w)))/\(xs.map (·.1)).Nodup
 | .set S n=>h.SetOf (intKind P w) a S n
 | .ins C dx fs=>H dx=some (.own a)/\fs.length<=1000/\dx≠a/\h.get? a=some (W.instObj C dx) /\
   ∃mA,h.Ns1 dx mA/\(∀f,RelO (fs.lookup f) (mA f))/\PySem.Within mA (fs.map (·.1))
 | .own _=>∃o,h.get? a=some o
 | .xd fs=>∃mA,h.Ns1 a mA/\∀f,RelO (fs.lookup f) (mA f)
 | .rng lo hi=>∃t u v,h.get? a=some { cls:=.type "range",data:=.fields #[.int lo t,.int hi u,.int 1 v] }
 | .frz o u=>h.get? a=some o/\ObjOk H h a u
 | .tbl ps=>h.get? a=some { cls:=.none,data:=.fields ps }
 | .met f x=>h.get? a=some (W.methodObj (.ref f) (.ref x))
 | .ext φ=>φ h/\(∃o,h.get? a=some o)/\∀h1 h2:Heap,φ h1->(∀o,h1.get? a=some o->h2.get? a=some o)->φ h2
def HOk (H:Hp) (h:Heap):Prop:=∀a o,H a=some o->ObjOk P w H h a o
end
theorem ObjOk.lt (x:ObjOk P w H h a o):a<h.objs.size:=by
 cases o with
 | lst xs=>obtain⟨_,_,_,_,e⟩:=x;exact z8 e
 | tup xs=>obtain⟨_,_,_,p⟩:=x;exact p.lt
 | dK kvs=>obtain⟨_,_,_,_,o,_,_,e,_⟩:=x;exact z8 e
 | dT kvs=>obtain⟨_,_,_,_,o,_,_,e,_⟩:=x;exact z8 e
 | set S n=>obtain⟨o,_,_,_,e,_⟩:=x;exact z8 e
 | ins C dx fs=>obtain⟨_,_,_,e,_⟩:=x;exact z8 e
 | own y=>obtain⟨_,e⟩:=x;exact z8 e
 | xd fs=>obtain⟨_,⟨_,_,_,e,_⟩,_⟩:=x;exact z8 e
 | rng lo hi=>obtain⟨_,_,_,e⟩:=x;exact z8 e
 | frz ob u=>obtain⟨e,_⟩:=x;exact z8 e
 | tbl ps=>exact z8 (show h.get? a=some _ from x)
 | met f y=>exact z8 (show h.get? a=some _ from x)
 | ext φ=>obtain⟨_,⟨_,e⟩,_⟩:=x;exact z8 e
theorem Paired.mapP{β:Type}{F G:α->β->Prop}:∀{l₁:List α}{l₂:List β},Paired F l₁ l₂->(∀a b,F a b->G a b)->Paired G l₁ l₂
 | _,_,.nil,_=>.nil
 | _,_,.cons r t,f=>.cons (f _ _ r) (Paired.mapP t f)
def ObjOk.stay (x:ObjOk P w H h a o) (k:∀b u,(b=a\/H b=some (.own a))->h.get? b=some u->h'.get? b=some u)
  (ho:∀b,H b=some (.own a)->H' b=some (.own a)) (ht:∀b xs,H b=some (.tup xs)->H' b=some (.tup xs)):ObjOk P w H' h' a o:=by
 induction o with
 | lst xs=>obtain⟨z,its,n,r,e⟩:=x;exact⟨z,its,n,r,k _ _ (.inl rfl) e⟩
 | tup xs=>obtain⟨z,its,r,ob,e,c⟩:=x;exact⟨z,its,r,ob,k _ _ (.inl rfl) e,c⟩
 | dK kvs=>obtain⟨z,y,vs,r,ob,es,ep,e,c⟩:=x;exact⟨z,y,vs,r,ob,es,ep,k _ _ (.inl rfl) e,c⟩
 | dT kvs =>
  obtain⟨z,y,xs,r,ob,es,ep,e,c⟩:=x;exact⟨z,y,xs,Paired.mapP r λp q z=>⟨z.1,ht _ _ z.2.1,z.2.2⟩,ob,es,ep,k _ _ (.inl rfl) e,c⟩
 | set S n=>obtain⟨ob,es,ep,t,e,c⟩:=x;exact⟨ob,es,ep,t,k _ _ (.inl rfl) e,c⟩
 | ins C dx fs =>
  obtain⟨d,z,ne,e,mA,⟨od,es,ep,e2,c⟩,r⟩:=x;exact⟨ho _ d,z,ne,k _ _ (.inl rfl) e,mA,⟨od,es,ep,k _ _ (.inr d) e2,c⟩,r⟩
 | own y=>obtain⟨ob,e⟩:=x;exact⟨ob,k _ _ (.inl rfl) e⟩
 | xd fs=>obtain⟨mA,⟨od,es,ep,e,c⟩,r⟩:=x;exact⟨mA,⟨od,es,ep,k _ _ (.inl rfl) e,c⟩,r⟩
 | rng lo hi=>obtain⟨t,u,v,e⟩:=x;exact⟨t,u,v,k _ _ (.inl rfl) e⟩
 | frz ob u ih=>obtain⟨e,q⟩:=x;exact⟨k _ _ (.inl rfl) e,ih q⟩
 | tbl ps =>
  have e:h.get? a=some { cls:=.none,data:=.fields ps }:=x;show h'.get? a=some { cls:=.none,data:=.fields ps };exact k a _ (.inl rfl) e
 | met f y =>
  have e:h.get? a=some (W.methodObj (.ref f) (.ref y)):=x;show h'.get? a=some (W.methodObj (.ref f) (.ref y));exact k a _ (.inl rfl) e
 | ext φ=>obtain⟨p,⟨o,e⟩,st⟩:=x;exact⟨st _ _ p λo q=>k _ _ (.inl rfl) q,⟨o,k _ _ (.inl rfl) e⟩,st⟩
theorem HOk.lt (x:HOk P w H h) (e:H a=some o):a<h.objs.size:=(x a o e).lt
def HOk.fresh (x:HOk P w H h) (e:h.objs.size<=a):H a=none:=by
 cases q:H a with
 | none=>rfl
 | some u=>exact absurd (x8 (x.lt q) e) (z0B _)
def HOk.kept (x:HOk P w H h) (k:∀b u,h.get? b=some u->h'.get? b=some u):HOk P w H h':=λa o e =>
 (x a o e).stay (λb u _ q=>k b u q) (λ_ q=>q) λ_ _ q=>q
def HOk.laid (x:HOk P w H h) (k:∀b u,h.get? b=some u->h'.get? b=some u) (hp:h.objs.size<=a) (new:ObjOk P w (upd H a o) h' a o):HOk P w (upd H a o) h':=λb u e=>by
 have hn:=x.fresh hp;by_cases hb:b=a
 ·subst hb;rw[u0c] at e;cases e;exact new
 ·rw [u0e hb] at e
  exact(x b u e).stay (λc v _ q=>k c v q) (λc q=>by rw[u0e (u0z q hn)];exact q) λc xs q=>by rw[u0e (u0z q hn)];exact q
def Rd (H:Hp) (a:Addr) (u:HO):Prop:=H a=some u\/∃o,H a=some (.frz o u)
def Rd.ok{u:HO} (r:Rd H a u) (x:HOk P w H h):ObjOk P w H h a u:=by
 rcases r with r|⟨o,r⟩
 ·exact x a u r
 ·obtain ⟨_,q⟩:=x a _ r
  exact q
def Mut:Option HO->Prop
 | some (.lst _)=>True
 | some (.dK _)=>True
 | some (.dT _)=>True
 | some (.set _ _)=>True
 | some (.ins _ _ _)=>True
 | some (.ext _)=>True
 | _=>False
section
variable {x e:Addr}{o':HO}
def HOk.write (ok:HOk P w H h) (mu:Mut (H x)) (he:e=x\/H e=some (.own x)) (k:∀b u,b≠e->h.get? b=some u->h'.get? b=some u) (heo:∃u,h'.get? e=some u)
  (new:ObjOk P w (upd H x o') h' x o'):HOk P w (upd H x o') h':=λb u q=>by
 have nown:∀c y,H c=some (.own y)->c≠x:=λc y r z=>by subst z;rw[r] at mu;exact mu
 have ntup:∀c xs,H c=some (.tup xs)->c≠x:=λc xs r z=>by subst z;rw[r] at mu;exact mu
 by_cases hb:b=x
 ·subst hb;rw[u0c] at q;cases q;exact new
 ·rw [u0e hb] at q
  by_cases hbe:b=e
  ·have q':H b=some (.own x):=by
    rcases he with z|z
    ·exact absurd (hbe.trans z) hb
    ·rw[hbe];exact z
   rw[q] at q';cases q';obtain⟨v,hv⟩:=heo;exact⟨v,by rw[hbe];exact hv⟩
  ·refine (ok b u q).stay (fun c v hc r=>k c v ?_ r) (fun c r=>by rw [u0e (nown c b r)];exact r) fun c xs r=>by rw [u0e (ntup c xs r)];exact r
   rcases hc with rfl|hc
   ·exact hbe
   ·rintro rfl
    rcases he with z|z
    ·exact nown c b hc z
    ·rw[hc] at z;cases z;exact hb rfl
end
structure Un (fs ex:List Addr) (H H':Hp) (h h':Heap):Prop where
 keep:∀b o,h.get? b=some o->H b=none->b∉fs->b∉ex->h'.get? b=some o
 slot:∀b o,h.get? b=some o->H b=none->b∈fs->b∉ex->∃sl,h'.get? b=some { o with slots:=sl }
 free:∀b o,h.get? b=some o->H b=none->b∉ex->H' b=none
 there:∀b o,h.get? b=some o->b∉ex->∃o',h'.get? b=some o'
 tups:∀b xs,H b=some (.tup xs)->H' b=some (.tup xs)
 frzs:∀b o u,H b=some (.frz o u)->H' b=some (.frz o u)
 tbls:∀b ps,H b=some (.tbl ps)->∃more,H' b=some (.tbl (ps++more))
section
variable {fs fs' ex ex':List Addr}{H1 H2:Hp}{h1 h2:Heap}{x e:Addr}
def Un.any(u:Un fs ex H H1 h h1) {ob:Obj} (q:h.get? b=some ob) (n:H b=none) (hx:b∉ex):∃sl,h1.get? b=some { ob with slots:=sl }:=by
 by_cases hb:b∈fs
 ·exact u.slot b ob q n hb hx
 ·exact⟨ob.slots,u.keep b ob q n hb hx⟩
def Un.kept (k:∀b u,h.get? b=some u->h'.get? b=some u):Un fs ex H H h h' :=
 ⟨λb ob q _ _ _=>k b ob q,λb ob q _ _ _=>⟨ob.slots,k b ob q⟩,λ_ _ _ n _=>n,λb ob q _=>⟨ob,k b ob q⟩,λ_ _ q=>q,λ_ _ _ q=>q,λ_ ps q=>⟨#[],by rw[q];simp⟩⟩
def Un.refl:Un fs ex H H h h:=Un.kept λ_ _ q=>q
def Un.laid (k:∀b u,h.get? b=some u->h'.get? b=some u) (hp:h.objs.size<=a) (hn:H a=none):Un fs ex H (upd H a o) h h' where
 keep:=λb u q _ _ _=>k b u q
 slot:=λb u q _ _ _=>⟨u.slots,k b u q⟩
 free:=λb u q n _=>by rw[u0e (u9 (x8 (z8 q) hp))];exact n
 there:=λb u q _=>⟨u,k b u q⟩
 tups:=λb xs q=>by rw[u0e (u0z q hn)];exact q
 frzs:=λb u xs q=>by rw[u0e (u0z q hn)];exact q
 tbls:=λb ps q=>⟨#[],by rw[u0e (u0z q hn),q];simp⟩
def Un.write (mu:Mut (H x)) (he:e=x\/H e=some (.own x)) (k:∀b u,b≠e->h.get? b=some u->h'.get? b=some u) (heo:∃u,h'.get? e=some u):Un fs ex H (upd H x o) h h':=by
 have hx:∀b,H b=none->b≠x:=λb n z=>by subst z;rw[n] at mu;exact mu
 have hb:∀b,H b=none->b≠e:=λb n z=>by
  subst z;rcases he with r|r
  ·exact hx b n r
  ·rw[n] at r;cases r
 have hm:∀b u,H b=some u->¬ Mut (some u)->b≠x:=λb u q nm z=>by subst z;rw[q] at mu;exact nm mu
 refine⟨λb u q n _ _=>k b u (hb b n) q,λb u q n _ _=>⟨u.slots,k b u (hb b n) q⟩,λb u q n _=>by rw[u0e (hx b n)];exact n,λb u q _=>?_,
  λb xs q=>by rw[u0e (hm b _ q λz=>z)];exact q,λb u xs q=>by rw[u0e (hm b _ q λz=>z)];exact q,λb ps q=>⟨#[],by rw[u0e (hm b _ q λz=>z),q];simp⟩⟩
 by_cases hbe:b=e
 ·subst hbe;exact heo
 ·exact⟨u,k b u hbe q⟩
end
noncomputable def trk (h:Heap) (H:Hp):List Addr:=(List.range h.objs.size).filter λa=>(H a).isSome
noncomputable def hidT (h:Heap) (H:Hp):Heap:=W.hideAll h (trk h H)
def v0n (h:Heap) (H:Hp):(hidT h H).objs.size=h.objs.size:=W.hideAll_size _ _
def v2g{o:Obj} (e:h.get? b=some o) (n:H b=none):(hidT h H).get? b=some o :=
 W.hideAll_get _ e λhm=>by
  have q:(H b).isSome=true:=(List.mem_filter.mp hm).2;rw[n] at q;simp at q
def of_hidT{o:Obj} (e:(hidT h H).get? b=some o):h.get? b=some o/\H b=none:=by
 have e':h.get? b=some o:=W.of_hideAll (trk h H) e;refine⟨e',?_⟩;cases q:H b with
 | none=>rfl
 | some x =>
  have hm:b∈trk h H:=List.mem_filter.mpr ⟨z3B.mpr (z8 e'),by simp[q]⟩
  have z:(hidT h H).get? b=none:=W.hideAll_none (trk h H) hm;rw[z] at e;cases e
structure Mod (K:W.Frag) (mg:MG) (base:Heap):Prop where
 kin:K.In base
 glob:base.Ns mainGlobals mg
 blt:∃mb,base.Ns builtinsNs mb/\∀x:Str,x≠"__name__"->mb x=bootBuiltins x
 nolimit:base.NoLimit
structure Cx where
 prog:Program
 w:World
 K:W.Frag
 mg:Str->Option Value
 base:Heap
 A:Around
 N:List Str
 s₀:Shared
 H₀:Hp
 env:Env
 outer:List Env
 stack:List Env
 ex:List Addr
 fn:Str->Bool
 calm:Bool
 pn:LO
 xe:Value->Shared->Prop
variable {X:Cx}
noncomputable def frs (l:List Env):List Addr:=l.filterMap (·.frame)
noncomputable abbrev Cx.fs (X:Cx):List Addr:=frs X.outer
def Vis (sc:Scope) (x:Str):Prop:=sc.names.lookup x=some .local\/sc.names.lookup x=some .cell\/sc.names.lookup x=some .free
def Loc (sc:Scope) (x:Str):Prop:=sc.names.lookup x=some .local\/sc.names.lookup x=some .cell
def Look (env:Env) (h:Heap) (m:MG) (x:Str) (u:Value):Prop :=
 (env.kindOf x=some .local/\m x=some u)\/((env.kindOf x=some .cell\/env.kindOf x=some .free)/\∃c,env.cells.lookup x=some c/\h.IsCell c (some u))
structure Cx.Ok (X:Cx):Prop where
 mod:Mod X.K X.mg X.base
 kind:X.env.scope.kind=.function
 glob:X.env.globals=mainGlobals
 blt:X.env.builtins=builtinsNs
 above:X.s₀.heap.objs.size<=X.env.locals
 inj:∀x y c,X.env.cells.lookup x=some c->X.env.cells.lookup y=some c->x=y
 has:∀x,(X.env.kindOf x=some .cell\/X.env.kindOf x=some .free)->∃c,X.env.cells.lookup x=some c
 cab:∀x c,X.fn x=true->X.env.cells.lookup x=some c->X.s₀.heap.objs.size<=c
 hd:X.calm=true->X.A.handled=none
 frames:X.A.frames=some X.stack
 stk:X.stack=X.outer\/(X.stack=X.env::X.outer/\X.env.frame=some X.env.locals)
 exf:∀b∈X.ex,b≠X.env.locals/\∀x c,X.env.cells.lookup x=some c->c≠b
 bs:∀b o,X.base.get? b=some o->X.s₀.heap.get? b=some o/\X.H₀ b=none
 bsz:X.base.objs.size<=X.s₀.heap.objs.size
 noex:∀b o,X.base.get? b=some o->b∉X.ex
 exfs:∀b∈X.ex,b∉X.fs
 funs:X.s₀.heap.FunFrames X.base X.outer
 frf:∀b∈X.fs,X.H₀ b=none
structure Inv (X:Cx) (pins:LO) (σ:List (Option V)) (H:Hp) (s:Shared):Prop where
 ok:X.Ok
 os:s.os=X.s₀.os
 bare:AllBare s.gens
 base:Un X.fs X.ex X.H₀ H X.s₀.heap s.heap
 loc:∃m,s.heap.Ns X.env.locals m/\∀(i:Nat) (x:Str) (v:V),X.N[i]?=some x->σ[i]?=some (some v)->Vis X.env.scope x->∃u,RelV v u/\Look X.env s.heap m x u
 cell:∀x c,X.env.cells.lookup x=some c->∃v,s.heap.IsCell c v
 free:H X.env.locals=none
 freeC:∀x c,X.env.cells.lookup x=some c->H c=none
 pin:∀p∈X.pn++pins,s.heap.get? p.1=some p.2/\H p.1=none/\p.1≠X.env.locals/\p.1∉X.fs/\∀v,p.2.data≠.cell v
 hok:HOk X.prog X.w H s.heap
 len:σ.length=X.N.length
section
variable {σ:List (Option V)}
def Cx.Ok.nofr(ok:X.Ok) {o:Obj} (e:X.base.get? b=some o):b∉X.fs:=λhb=>by
 have:=(ok.funs.mem hb).1
 rw[e] at this;cases this
theorem Inv.bs (I:Inv X pins σ H s):∀b o,X.base.get? b=some o->s.heap.get? b=some o/\H b=none:=λb o e =>
 ⟨I.base.keep b o (I.ok.bs b o e).1 (I.ok.bs b o e).2 (I.ok.nofr e) (I.ok.noex b o e),I.base.free b o (I.ok.bs b o e).1 (I.ok.bs b o e).2 (I.ok.noex b o e)⟩
def Inv.bk (I:Inv X pins σ H s):∀b o,X.base.get? b=some o->s.heap.get? b=some o:=λb o e=>(I.bs b o e).1
theorem Inv.mod (I:Inv X pins σ H s):Mod X.K X.mg X.base:=I.ok.mod
def Inv.kIn (I:Inv X pins σ H s):X.K.In s.heap:=I.ok.mod.kin.keeps I.bk
theorem Inv.lt (I:Inv X pins σ H s):X.env.locals<s.heap.objs.size:=by obtain⟨_,hn,_⟩:=I.loc;exact hn.lt
def Inv.sz (I:Inv X pins σ H s):X.s₀.heap.objs.size<=s.heap.objs.size:=y9 I.ok.above (Nat.le_of_lt I.lt)
def Inv.nofs(I:Inv X pins σ H s)  (h:s.heap.objs.size<=a):a∉X.fs:=λhb=>by
 obtain⟨_,o,ho,_⟩:=I.ok.funs.mem hb;exact absurd (x8 (z8 ho) (y9 I.sz h)) (z0B _)
def Inv.cne (I:Inv X pins σ H s):∀x c,X.env.cells.lookup x=some c->c≠X.env.locals:=λx c e z=>by
 obtain⟨v,o,ho,hd⟩:=I.cell x c e;obtain⟨m,⟨o',es,ep,ho',hd',_⟩,_⟩:=I.loc;rw[z,ho'] at ho;cases ho;rw[hd'] at hd;cases hd
theorem Inv.funs (I:Inv X pins σ H s):s.heap.FunFrames X.base X.outer:=by
 have all:∀(l:List Env),(∀b∈frs l,b∈X.fs)->X.s₀.heap.FunFrames X.base l->s.heap.FunFrames X.base l:=by
  intro l;induction l with
  | nil=>intro _ _;trivial
  | cons env r ih =>
   intro hs hl;obtain⟨hk,⟨L,o,hf,hn,ho,hd⟩,hr⟩:=hl;have hL:L∈X.fs:=hs L (by unfold frs;rw[List.filterMap_cons,hf];exact z6)
   obtain⟨sl,e⟩:=I.base.slot L o ho (I.ok.frf L hL) hL λz=>I.ok.exfs L z hL
   exact⟨hk,⟨L,_,hf,hn,e,hd⟩,ih (λb hb=>hs b (by unfold frs;rw[List.filterMap_cons,hf];exact z5 _ hb)) hr⟩
 exact all X.outer (λ_ hb=>hb) I.ok.funs
theorem Inv.stack (I:Inv X pins σ H s):s.heap.FunFrames X.base X.stack:=by
 rcases I.ok.stk with e|⟨e,hf⟩
 ·rw[e];exact I.funs
 ·rw [e]
  obtain⟨m,hn,_⟩:=I.loc;refine .cons (by rw[I.ok.kind];decide) hf hn ?_ I.funs
  exact Heap.get?_none_of_le (y9 I.ok.bsz I.ok.above)
def Inv.stkSub (I:Inv X pins σ H s):∀b∈frs X.stack,b∈X.env.locals::X.fs:=λb hb=>by
 rcases I.ok.stk with e|⟨e,hf⟩
 ·rw[e] at hb;exact z5 _ hb
 ·rw [e] at hb
  unfold frs at hb;rw[List.filterMap_cons,hf] at hb;exact hb
def Inv.stkFree (I:Inv X pins σ H s):∀b∈frs X.stack,H b=none:=λb hb=>by
 rcases z7.mp (I.stkSub b hb) with e|hb
 ·rw[e];exact I.free
 ·obtain ⟨_,o,ho,_⟩:=I.ok.funs.mem hb
  exact I.base.free b o ho (I.ok.frf b hb) λz=>I.ok.exfs b z hb
def Inv.step{g':Array GenState}{d':Drawn}{ch:List Addr} (I:Inv X pins σ H s)
  (hch:∀b∈ch,(b∈X.ex\/X.s₀.heap.objs.size<=b)/\b≠X.env.locals/\(∀x c,X.env.cells.lookup x=some c->c≠b)/\∀p∈X.pn++pins,p.1≠b)
  (keep:∀b o,b≠X.env.locals->b∉X.fs->b∉ch->s.heap.get? b=some o->H b=none->h'.get? b=some o)
  (slot:∀b o,b≠X.env.locals->b∈X.fs->b∉ch->s.heap.get? b=some o->H b=none->∃sl,h'.get? b=some { o with slots:=sl }) (free:∀b o,b∉ch->s.heap.get? b=some o->H b=none->H' b=none)
  (there:∀b o,b∉ch->s.heap.get? b=some o->∃o',h'.get? b=some o')
  (tups:∀b xs,H b=some (.tup xs)->H' b=some (.tup xs)) (frzs:∀b o u,H b=some (.frz o u)->H' b=some (.frz o u)) (tbls:∀b ps,H b=some (.tbl ps)->∃more,H' b=some (.tbl (ps++more)))
  (ns:∀m,s.heap.Ns X.env.locals m->h'.Ns X.env.locals m) (hok:HOk X.prog X.w H' h') (hg:AllBare g') :
  Inv X pins σ H' { s with heap:=h',gens:=g',drawn:=d',toks:=t' }:=by
 have neL:∀b o,X.s₀.heap.get? b=some o->b≠X.env.locals:=λb o e=>u9 (x8 (z8 e) I.ok.above)
 have neC:∀b o,X.s₀.heap.get? b=some o->b∉X.ex->b∉ch:=λb o e hx hb=>by
  rcases(hch b hb).1 with z|z
  ·exact hx z
  ·exact absurd (x8 (z8 e) z) (z0B _)
 have cellK:∀x c,X.env.cells.lookup x=some c->∀v,s.heap.IsCell c v->h'.IsCell c v:=λx c e v ⟨o,ho,hd⟩=>by
  have nch:c∉ch:=λz=>(hch c z).2.2.1 x c e rfl
  by_cases hc:c∈X.fs
  ·obtain ⟨sl,q⟩:=slot c o (I.cne x c e) hc nch ho (I.freeC x c e)
   exact⟨_,q,hd⟩
  ·exact⟨o,keep c o (I.cne x c e) hc nch ho (I.freeC x c e),hd⟩
 refine⟨I.ok,I.os,hg,⟨λb o e n hb hx=>?_,λb o e n hb hx=>?_,λb o e n hx=>?_,λb o e hx=>?_,λb xs e=>tups b xs (I.base.tups b xs e),λb o xs e=>frzs b o xs (I.base.frzs b o xs e),λb ps e=>?_⟩,?_,λx c e=>?_,?_,λx c e=>?_,λp hp=>?_,hok,I.len⟩
 ·exact keep b o (neL b o e) hb (neC b o e hx) (I.base.keep b o e n hb hx) (I.base.free b o e n hx)
 ·obtain ⟨sl,e1⟩:=I.base.slot b o e n hb hx
  obtain⟨sl',e2⟩:=slot b _ (neL b o e) hb (neC b o e hx) e1 (I.base.free b o e n hx);exact⟨sl',e2⟩
 ·obtain ⟨o',e1⟩:=I.base.there b o e hx
  exact free b o' (neC b o e hx) e1 (I.base.free b o e n hx)
 ·obtain ⟨o',e1⟩:=I.base.there b o e hx
  exact there b o' (neC b o e hx) e1
 ·obtain ⟨m1,e1⟩:=I.base.tbls b ps e
  obtain⟨m2,e2⟩:=tbls b _ e1;exact⟨m1++m2,by rw[e2,Array.append_assoc]⟩
 ·obtain ⟨m,hn,hl⟩:=I.loc
  refine⟨m,ns m hn,λi x v e1 e2 e3=>?_⟩
  obtain⟨u,r,l⟩:=hl i x v e1 e2 e3;refine⟨u,r,?_⟩;rcases l with l|⟨k,c,e,z⟩
  ·exact .inl l
  ·exact .inr ⟨k,c,e,cellK x c e _ z⟩
 ·obtain ⟨v,z⟩:=I.cell x c e
  exact⟨v,cellK x c e v z⟩
 ·obtain ⟨m,⟨o,_,_,ho,_⟩,_⟩:=I.loc
  exact free _ o (λz=>(hch _ z).2.1 rfl) ho I.free
 ·obtain ⟨v,o,ho,hd⟩:=I.cell x c e
  exact free c o (λz=>(hch c z).2.2.1 x c e rfl) ho (I.freeC x c e)
 ·obtain ⟨e,n,ne,nf,d⟩:=I.pin p hp
  have nch:p.1∉ch:=λz=>(hch p.1 z).2.2.2 p hp rfl
  exact⟨keep p.1 p.2 ne nf nch e n,free p.1 p.2 nch e n,ne,nf,d⟩
def Inv.un(I:Inv X pins σ H s) (u:Un X.fs [] H H' s.heap h') (hok:HOk X.prog X.w H' h'):Inv X pins σ H' { s with heap:=h',toks:=t' }:=by
 obtain⟨m,⟨o,es,ep,ho,r⟩,_⟩:=id I.loc;obtain⟨sl,hL⟩:=u.any ho I.free (by simp)
 exact I.step (g':=s.gens) (d':=s.drawn) (ch:=[]) (λ_ z=>nomatch z) (λb o _ hb _ e n=>u.keep b o e n hb (by simp)) (λb o _ hb _ e n=>u.slot b o e n hb (by simp)) (λb o _ e n=>u.free b o e n (by simp)) (λb o _ e=>u.there b o e (by simp)) u.tups u.frzs u.tbls (λm' hm=>by
  obtain⟨o',es',ep',ho',r'⟩:=hm;rw[ho] at ho';cases ho';exact⟨_,es',ep',hL,r'⟩) hok I.bare
def Inv.call{g':Array GenState}{d':Drawn}{ch:List Addr} (I:Inv X pins σ H s) (u:Un (frs X.stack) ch H H' s.heap h') (hok:HOk X.prog X.w H' h') (hg:AllBare g')
  (hch:∀b∈ch,(b∈X.ex\/X.s₀.heap.objs.size<=b)/\b≠X.env.locals/\(∀x c,X.env.cells.lookup x=some c->c≠b)/\∀p∈X.pn++pins,p.1≠b) :
  Inv X pins σ H' { s with heap:=h',gens:=g',drawn:=d',toks:=t' }:=by
 obtain⟨m,⟨o,es,ep,ho,r⟩,_⟩:=id I.loc;obtain⟨sl,hL⟩:=u.any ho I.free λz=>(hch _ z).2.1 rfl
 exact I.step (ch:=ch) hch (λb o hL hb hc e n=>u.keep b o e n (λz=>(z7.mp (I.stkSub b z)).elim hL hb) hc) (λb o _ _ hc e n=>u.any e n hc) (λb o hc e n=>u.free b o e n hc) (λb o hc e=>u.there b o e hc) u.tups u.frzs u.tbls (λm' hm=>by
  obtain⟨o',es',ep',ho',r'⟩:=hm;rw[ho] at ho';cases ho';exact⟨_,es',ep',hL,r'⟩) hok hg
def Inv.turned(I:Inv X pins σ H s) (k:∀b o,b≠it->s.heap.get? b=some o->h'.get? b=some o) (hn:H it=none) (hL:it≠X.env.locals)
  (h1:it∈X.ex\/X.s₀.heap.objs.size<=it) (h2:∀x c,X.env.cells.lookup x=some c->c≠it) (h3:∀p∈X.pn++pins,p.1≠it):Inv X pins σ H { s with heap:=h',toks:=t' }:=by
 have nit:∀b u,H b=some u->b≠it:=λb u e z=>by rw[z,hn] at e;cases e
 refine I.step (g':=s.gens) (d':=s.drawn) (ch:=[it]) (λb hb=>?_) (λb o _ _ hc e _=>k b o (λz=>hc (by simp[z])) e) (λb o _ _ hc e _=>⟨o.slots,k b o (λz=>hc (by simp[z])) e⟩) (λ_ _ _ _ n=>n)
  (λb o hc e=>⟨o,k b o (λz=>hc (by simp[z])) e⟩) (λ_ _ e=>e) (λ_ _ _ e=>e) (λb ps e=>⟨#[],by rw[e];simp⟩) (λm hm=>?_) (λb u e=>?_) I.bare
 ·have e:b=it:=by simpa using hb
  subst e;exact⟨h1,hL,h2,h3⟩
 ·obtain ⟨o,es,ep,ho,r⟩:=hm
  exact⟨o,es,ep,k _ o (Ne.symm hL) ho,r⟩
 ·refine (I.hok b u e).stay (fun c v hc q=>k c v ?_ q) (fun _ q=>q) fun _ _ q=>q
  rcases hc with z|z
  ·rw[z];exact nit b u e
  ·exact nit c _ z
def Inv.tok (I:Inv X pins σ H s) (t:Nat):Inv X pins σ H { s with toks:=t }:=I.un (h':=s.heap) (t':=t) Un.refl I.hok
theorem Inv.kept(I:Inv X pins σ H s) (k:∀b u,s.heap.get? b=some u->h'.get? b=some u):Inv X pins σ H { s with heap:=h',toks:=t' }:=I.un (Un.kept k) (I.hok.kept k)
theorem Inv.laid(I:Inv X pins σ H s) (k:∀b u,s.heap.get? b=some u->h'.get? b=some u) (hp:s.heap.objs.size<=a) (new:ObjOk X.prog X.w (upd H a o) h' a o) :
  Inv X pins σ (upd H a o) { s with heap:=h',toks:=t' }:=I.un (Un.laid k hp (I.hok.fresh hp)) (I.hok.laid k hp new)
theorem Inv.write{x e:Addr} (I:Inv X pins σ H s) (mu:Mut (H x)) (he:e=x\/H e=some (.own x)) (k:∀b u,b≠e->s.heap.get? b=some u->h'.get? b=some u) (heo:∃u,h'.get? e=some u)
  (new:ObjOk X.prog X.w (upd H x o) h' x o):Inv X pins σ (upd H x o) { s with heap:=h',toks:=t' }:=I.un (Un.write mu he k heo) (I.hok.write mu he k heo new)
def Inv.weak {σ':List (Option V)} (I:Inv X pins σ H s) (hl:σ'.length=σ.length) (w:∀(i:Nat) v,σ'[i]?=some (some v)->σ[i]?=some (some v)):Inv X pins σ' H s :=
 ⟨I.ok,I.os,I.bare,I.base,by obtain⟨m,hn,hl'⟩:=I.loc;exact⟨m,hn,λi x v e1 e2 e3=>hl' i x v e1 (w i v e2) e3⟩,I.cell,I.free,I.freeC,I.pin,I.hok,hl.trans I.len⟩
def Inv.pins_of {pins':LO} (I:Inv X pins σ H s) (h:∀p∈pins',s.heap.get? p.1=some p.2/\H p.1=none/\p.1≠X.env.locals/\p.1∉X.fs/\∀v,p.2.data≠.cell v):Inv X pins' σ H s :=
 ⟨I.ok,I.os,I.bare,I.base,I.loc,I.cell,I.free,I.freeC,λp hp=>(v6.mp hp).elim (λz=>I.pin p (r9 _ z)) (h p),I.hok,I.len⟩
def u5j(hN:N.Nodup)  (a:N[i]?=some x) (b:N[j]?=some x):i=j:=by
 obtain⟨h1,e1⟩:=w9.mp a;obtain⟨h2,e2⟩:=w9.mp b;exact(List.getElem_inj hN).mp (e1.trans e2.symm)
def u5C{M:Model}{Q:Unit->Shared->Prop} (I:Inv X pins σ H s) (hN:X.N.Nodup) (hi:X.N[i]?=some x) (hx:Loc X.env.scope x) (r:RelV v u)
  (h:∀s',Inv X pins (σ.set i (some v)) H s'->(∃a,Heap.SameBut a s.heap s'.heap/\(a=X.env.locals\/X.env.cells.lookup x=some a))->Q () s') (hf:X.fn x=true\/X.env.scope.names.lookup x=some .local:=by first|exact .inl rfl|exact .inr rfl|assumption):wpAny M A (storeName X.env x u) Q E s:=by
 obtain⟨m,hn,hl⟩:=id I.loc;have hcls:(X.env.scope.kind==.class||(X.env.scope.kind==.module&&X.env.locals != X.env.globals))=false:=by rw[I.ok.kind];rfl
 have hiσ:i<σ.length:=by rw[I.len];exact(w9.mp hi).1
 have cne:=I.cne;have tracked:∀{a:Addr}{h':Heap},(∃o,s.heap.get? a=some o/\H a=none)->Heap.SameBut a s.heap h'->HOk X.prog X.w H h':=λ{a h'} ha hs b ob e=>by
  obtain⟨_,_,hfree⟩:=ha;refine(I.hok b ob e).stay (λc w' hc q=>(hs.2 c ?_).trans q) (λ_ q=>q) λ_ _ q=>q
  rintro rfl;rcases hc with rfl|hc
  ·rw[hfree] at e;cases e
  ·rw[hfree] at hc;cases hc
 rcases hx with hk|hk
 ·refine wpAny_storeName_local hk hn (fun h' hn' hs=>?_) hcls
  obtain⟨oL,_,_,hoL,_⟩:=id hn;refine h _ ⟨I.ok,I.os,I.bare,⟨λb o e n hb hx=>?_,λb o e n hb hx=>?_,I.base.free,λb o e hx=>?_,I.base.tups,I.base.frzs,I.base.tbls⟩,⟨_,hn',λj y v' e1 e2 e3=>?_⟩,λy c e=>?_,I.free,I.freeC,λp hp=>?_,tracked ⟨oL,hoL,I.free⟩ hs,by simpa using I.len⟩ ⟨_,hs,.inl rfl⟩
  ·exact(hs.2 b (u9 (x8 (z8 e) I.ok.above))).trans (I.base.keep b o e n hb hx)
  ·obtain ⟨sl,e1⟩:=I.base.slot b o e n hb hx
   exact⟨sl,(hs.2 b (u9 (x8 (z8 e) I.ok.above))).trans e1⟩
  ·obtain ⟨o',e1⟩:=I.base.there b o e hx
   exact⟨o',(hs.2 b (u9 (x8 (z8 e) I.ok.above))).trans e1⟩
  ·by_cases hj:j=i
   ·subst hj
    rw[hi] at e1;cases e1;rw[z2H hiσ] at e2;cases e2;exact⟨u,r,.inl ⟨hk,by simp⟩⟩
   ·rw [List.getElem?_set_ne (Ne.symm hj)] at e2
    obtain⟨u',r',q⟩:=hl j y v' e1 e2 e3;refine⟨u',r',?_⟩;rcases q with⟨k,e⟩|⟨k,c,e,z⟩
    ·refine .inl ⟨k,?_⟩
     have:y≠x:=λe=>hj (u5j hN e1 (e ▸ hi))
     simp[this,e]
    ·exact .inr ⟨k,c,e,z.sameBut hs (cne y c e)⟩
  ·obtain ⟨w',z⟩:=I.cell y c e
   exact⟨w',z.sameBut hs (cne y c e)⟩
  ·obtain ⟨e,n,ne,nf,d⟩:=I.pin p hp
   exact⟨(hs.2 p.1 ne).trans e,n,ne,nf,d⟩
 ·have hfn:X.fn x=true:=by
   rcases hf with z|z
   ·exact z
   ·rw[z] at hk;cases hk
  obtain⟨c,hc⟩:=I.ok.has x (.inl hk);obtain⟨w',z⟩:=I.cell x c hc;refine wpAny_storeName_cell I.ok.kind hk hc z (λh' hc' hs=>?_)
  obtain⟨oc,hoc,hocd⟩:=id z;refine h { s with heap:=h' } ⟨I.ok,I.os,I.bare,⟨λb o e n hb hx=>?_,λb o e n hb hx=>?_,I.base.free,λb o e hx=>?_,I.base.tups,I.base.frzs,I.base.tbls⟩,⟨m,hn.sameBut hs (Ne.symm (cne x c hc)),λj y v' e1 e2 e3=>?_⟩,λy c' e=>?_,I.free,I.freeC,λp hp=>?_,tracked ⟨oc,hoc,I.freeC x c hc⟩ hs,by simpa using I.len⟩ ⟨c,hs,.inr hc⟩
  ·exact(hs.2 b (u9 (x8 (z8 e) (I.ok.cab x c hfn hc)))).trans (I.base.keep b o e n hb hx)
  ·obtain ⟨sl,e1⟩:=I.base.slot b o e n hb hx
   exact⟨sl,(hs.2 b (u9 (x8 (z8 e) (I.ok.cab x c hfn hc)))).trans e1⟩
  ·obtain ⟨o',e1⟩:=I.base.there b o e hx
   exact⟨o',(hs.2 b (u9 (x8 (z8 e) (I.ok.cab x c hfn hc)))).trans e1⟩
  ·by_cases hj:j=i
   ·subst hj
    rw[hi] at e1;cases e1;rw[z2H hiσ] at e2;cases e2;exact⟨u,r,.inr ⟨.inl hk,c,hc,hc'⟩⟩
   ·rw [List.getElem?_set_ne (Ne.symm hj)] at e2
    obtain⟨u',r',q⟩:=hl j y v' e1 e2 e3;refine⟨u',r',?_⟩;rcases q with q|⟨k,c',e,z'⟩
    ·exact .inl q
    ·refine .inr ⟨k,c',e,z'.sameBut hs ?_⟩
     rintro rfl;exact hj (u5j hN e1 (I.ok.inj _ _ _ e hc ▸ hi))
  ·by_cases hcc:c'=c
   ·subst hcc;exact⟨_,hc'⟩
   ·obtain ⟨w2,z2⟩:=I.cell y c' e
    exact⟨w2,z2.sameBut hs hcc⟩
  ·obtain ⟨e,n,ne,nf,d⟩:=I.pin p hp
   refine⟨(hs.2 p.1 ?_).trans e,n,ne,nf,d⟩;intro q;rw[q,hoc] at e;have q':oc=p.2:=Option.some.inj e;exact d w' (by rw[<- q'];exact hocd)
def u3z{M:Model}{Q:Unit->Shared->Prop} (I:Inv X pins σ H s) (hN:X.N.Nodup) (hi:X.N[i]?=some x) (hx:Loc X.env.scope x) (r:RelV v u)
  (h:∀s',Inv X pins (σ.set i (some v)) H s'->Q () s') (hf:X.fn x=true\/X.env.scope.names.lookup x=some .local:=by first|exact .inl rfl|exact .inr rfl|assumption):wpAny M A (storeName X.env x u) Q E s :=
 u5C I hN hi hx r (λs' I' _=>h s' I') hf
def Inv.call'{ch:List Addr} (I:Inv X pins σ H s) (ho:s'.os=s.os) (u:Un (frs X.stack) ch H H' s.heap s'.heap) (hok:HOk X.prog X.w H' s'.heap) (hg:AllBare s'.gens)
  (hch:∀b∈ch,(b∈X.ex\/X.s₀.heap.objs.size<=b)/\b≠X.env.locals/\(∀x c,X.env.cells.lookup x=some c->c≠b)/\∀p∈X.pn++pins,p.1≠b):Inv X pins σ H' s':=by
 obtain⟨h',g',d',t',o'⟩:=s';have e:o'=s.os:=ho;subst e;exact I.call (g':=g') (t':=t') (d':=d') u hok hg hch
end
abbrev XK:=Value->Option Addr->Hp->Prop
abbrev St:=List (Option V)
variable {σ:St}
abbrev VK:=V->Hp->Prop
abbrev TE:=St->Hp->VK->Prop
variable {ta te tl:TE}
abbrev TT:=St->Hp->(Bool->Hp->Prop)->Prop
abbrev TA:=St->Hp->(List V->Hp->Prop)->Prop
variable {t:TA}
structure Ends where
 nx:St->Hp->Prop
 rt:VK
 bk:St->Hp->Prop:=λ_ _=>False
 ct:St->Hp->Prop:=λ_ _=>False
abbrev TS:=Ends->St->Hp->Prop
variable {tb:TS}
def EP (X:Cx) (pins:LO) (σ:St) (Q:VK) (u:Value) (s':Shared):Prop:=∃v H',Inv X pins σ H' s'/\RelV v u/\Q v H'
def TP (X:Cx) (pins:LO) (σ:St) (Q:Bool->Hp->Prop) (b:Bool) (s':Shared):Prop:=∃H',Inv X pins σ H' s'/\Q b H'
def AP (X:Cx) (pins:LO) (σ:St) (Q:List V->Hp->Prop) (us:List Value) (s':Shared):Prop:=∃vs H',Inv X pins σ H' s'/\Vals vs us/\Q vs H'
def SP (X:Cx) (pins:LO) (D:Ends) (f:Flow) (s':Shared):Prop :=
 match f with
 | .next=>∃σ' H',Inv X pins σ' H' s'/\D.nx σ' H'
 | .brk=>∃σ' H',Inv X pins σ' H' s'/\D.bk σ' H'
 | .cont=>∃σ' H',Inv X pins σ' H' s'/\D.ct σ' H'
 | .ret u=>∃v σ' H',Inv X pins σ' H' s'/\RelV v u/\D.rt v H'
def PE (X:Cx) (e:Expr) (t:TE):Prop :=
 ∀(pins:LO) (s:Shared) (σ:St) (H:Hp) (Q:VK),Inv X pins σ H s->t σ H Q->wpAny (model X.prog X.w) X.A (eval e X.env) (EP X pins σ Q) X.xe s
def PT (X:Cx) (e:Expr) (t:TT):Prop :=
 ∀(pins:LO) (s:Shared) (σ:St) (H:Hp) (Q:Bool->Hp->Prop),Inv X pins σ H s->t σ H Q->wpAny (model X.prog X.w) X.A (isTrue e X.env (eval e X.env)) (TP X pins σ Q) X.xe s
def PW (X:Cx) (e:Expr) (t:TT):Prop :=
 ∀(whole:Sem Value) (pins:LO) (s:Shared) (σ:St) (H:Hp) (Q:Bool->Hp->Prop),Inv X pins σ H s->t σ H Q->wpAny (model X.prog X.w) X.A (isTrue e X.env whole) (TP X pins σ Q) X.xe s
def PW.pt{t:TT} (h:PW X e t):PT X e t:=h _
def PA (X:Cx) (es:List Expr) (t:TA):Prop :=
 ∀(pos:Pos) (pins:LO) (s:Shared) (σ:St) (H:Hp) (Q:List V->Hp->Prop),Inv X pins σ H s->t σ H Q->wpAny (model X.prog X.w) X.A (spliced (backTo pos (starEach es X.env))) (AP X pins σ Q) X.xe s
def PS (X:Cx) (st:Stmt) (t:TS):Prop :=
 ∀(pins:LO) (s:Shared) (σ:St) (H:Hp) (D:Ends),Inv X pins σ H s->t D σ H->wpAny (model X.prog X.w) X.A (exec st X.env) (SP X pins D) X.xe s
def PSs (X:Cx) (st:List Stmt) (t:TS):Prop :=
 ∀(pins:LO) (s:Shared) (σ:St) (H:Hp) (D:Ends),Inv X pins σ H s->t D σ H->wpAny (model X.prog X.w) X.A (execs st X.env) (SP X pins D) X.xe s
def thn{t:Sem α}{Q Q':α->Shared->Prop}{M:Model} (h:wpAny M A t Q E s) (hQ:∀a s,Q a s->Q' a s):wpAny M A t Q' E s:=wpAny_mono h hQ λ_ _ x=>x
section
def tVar (i:Nat):TE:=λσ H Q=>∃v,σ[i]?=some (some v)/\Q v H
def tC (v:V):TE:=λ_ H Q=>Q v H
def u0v(hN:X.N[i]?=some x) (hv:Vis X.env.scope x) (hd:(x==("__debug__":Str))=false:=by decide) (hcd:(x==("__classdict__":Str))=false:=by decide):PE X (.Name x pos) (tVar i):=by
 intro pins s σ H Q I h;obtain⟨v,e,h⟩:=h;obtain⟨m,hn,hl⟩:=I.loc;obtain⟨u,r,l⟩:=hl i x v hN e hv;have fin:EP X pins σ Q u s:=⟨v,H,I,r,h⟩;rcases l with⟨hk,hm⟩|⟨hk,c,hc,hcell⟩
 ·exact wpAny_Name (wpAny_loadName_local I.ok.kind hk hn hm fin) hd
 ·rcases hk with hk | hk
  ·exact wpAny_Name (wpAny_loadName_cell I.ok.kind hk hc hcell fin) hd
  ·exact wpAny_Name (wpAny_loadName_free I.ok.kind hk hc hcell fin hcd) hd
def pe_int {i j pos}:PE X (.Constant (.int i) j pos) (tC (.int i)):=λ_ _ _ H _ I h=>wpAny_Constant_int ⟨.int i,H,I.tok _,⟨_,rfl⟩,h⟩
def u4u {b j pos}:PE X (.Constant (.bool b) j pos) (tC (.bl b)):=λ_ _ _ H _ I h=>Constant_bool ⟨.bl b,H,I,rfl,h⟩
def u3o {j pos}:PE X (.Constant .none j pos) (tC .non):=λ_ _ _ H _ I h=>Constant_none ⟨.non,H,I,rfl,h⟩
def u5S {x j pos}:PE X (.Constant (.str x) j pos) (tC (.str x)):=λ_ _ _ H _ I h=>Calls.Constant_str ⟨.str x,H,I.tok _,⟨_,rfl⟩,h⟩
def Gl (X:Cx) (x:Str):Prop:=X.env.kindOf x=some .globalImplicit
def u1W(I:Inv X pins σ H s) (hg:Gl X x) (hm:X.mg x=some u) (h:Q u s)
  (hd:(x==("__debug__":Str))=false:=by decide):wpAny (model X.prog X.w) X.A (eval (.Name x pos) X.env) Q E s :=
 Calls.Name_function_global I.ok.kind hg (Calls.loadGlobal_global (by rw[I.ok.glob];exact I.mod.glob.keeps I.bk) hm h) hd
def u1J(I:Inv X pins σ H s) (hg:Gl X x) (hm:X.mg x=none) (hv:bootBuiltins x=some u) (h:Q u s)
  (hn:x≠"__name__":=by decide) (hd:(x==("__debug__":Str))=false:=by decide):wpAny (model X.prog X.w) X.A (eval (.Name x pos) X.env) Q E s:=by
 obtain⟨mb,h1,h2⟩:=I.mod.blt;exact Calls.Name_function_global I.ok.kind hg (Calls.loadGlobal_builtin (by rw[I.ok.glob];exact I.mod.glob.keeps I.bk) hm (by rw[I.ok.blt];exact h1.keeps I.bk) ((h2 x hn).trans hv) h) hd
def u9K(hg:Gl X x) (hm:X.mg x=some u) (r:RelV v u) (hd:(x==("__debug__":Str))=false:=by decide):PE X (.Name x pos) (tC v) :=
 λ_ _ _ H _ I h=>u1W I hg hm ⟨v,H,I,r,h⟩ hd
def pe_bltn(hg:Gl X x) (hm:X.mg x=none) (hv:bootBuiltins x=some u) (r:RelV v u) (hn:x≠"__name__":=by decide) (hd:(x==("__debug__":Str))=false:=by decide):PE X (.Name x pos) (tC v) :=
 λ_ _ _ H _ I h=>u1J I hg hm hv ⟨v,H,I,r,h⟩ hn hd
variable {a b:Expr}{tb:TE}
def tB (t:TE):TT:=λσ H Q=>t σ H λx H1=>∃c,x=.bl c/\Q c H1
def u5I{t:TE} (h:PE X e t) (he:∀whole,isTrue e X.env whole=(do let v <- whole;standAt e.pos;holding [v] (truthy v)):=by intro _;rfl):PT X e (tB t):=by
 intro pins s σ H Q I hw;refine isTrue_plain (thn (h pins s σ H _ I hw) λv s1 z92=>?_) (he _)
 obtain⟨x,H1,I1,r1,q1⟩:=z92;obtain⟨d,rfl,q⟩:=q1;cases r1;exact wpAny_truthy_bool ⟨H1,I1,q⟩
variable {tA tB':TT}
def tAnd (t u:TT):TT:=λσ H Q=>t σ H λc H1=>if c=true then u σ H1 Q else Q false H1
def tOr (t u:TT):TT:=λσ H Q=>t σ H λc H1=>if c=true then Q true H1 else u σ H1 Q
def tNot (t:TT):TT:=λσ H Q=>t σ H λc H1=>Q (!c) H1
def pw_and1 (ha:PT X a tA):PW X (.BoolOp .And [a] pos) tA:=by
 intro wh pins s σ H Q I h;refine isTrue_and (thn (ha pins s σ H Q I h) λc s1 e=>?_)
 cases c with
 | true=>exact isTrue_and_nil e
 | false=>exact e
def v2T (ha:PT X a tA):PW X (.BoolOp .Or [a] pos) tA:=by
 intro wh pins s σ H Q I h;refine isTrue_or (thn (ha pins s σ H Q I h) λc s1 e=>?_)
 cases c with
 | false=>exact isTrue_or_nil e
 | true=>exact e
def pw_and (ha:PT X a tA) (hb:PW X (.BoolOp .And (b::rest) pos) tB'):PW X (.BoolOp .And (a::b::rest) pos) (tAnd tA tB'):=by
 intro wh pins s σ H Q I h;refine isTrue_and (thn (ha pins s σ H _ I h) λc s1 z93=>?_)
 obtain⟨H1,I1,q1⟩:=z93;cases c with
 | true=>exact hb wh pins s1 σ H1 Q I1 q1
 | false=>exact⟨H1,I1,q1⟩
def pw_or (ha:PT X a tA) (hb:PW X (.BoolOp .Or (b::rest) pos) tB'):PW X (.BoolOp .Or (a::b::rest) pos) (tOr tA tB'):=by
 intro wh pins s σ H Q I h;refine isTrue_or (thn (ha pins s σ H _ I h) λc s1 z94=>?_)
 obtain⟨H1,I1,q1⟩:=z94;cases c with
 | true=>exact⟨H1,I1,q1⟩
 | false=>exact hb wh pins s1 σ H1 Q I1 q1
def u5J (ha:PT X a tA):PT X (.UnaryOp .Not a pos) (tNot tA):=by
 intro pins s σ H Q I h;exact isTrue_not (ha pins s σ H (λc H1=>Q (!c) H1) I h)
def tAndV (ta tb:TE):TE:=λσ H Q=>ta σ H λx H1=>∃c,x=.bl c/\if c=true then tb σ H1 Q else Q (.bl false) H1
def tNotV (ta:TE):TE:=λσ H Q=>ta σ H λx H1=>∃c,x=.bl c/\Q (.bl (!c)) H1
def pe_one {op}{t:TE} (h:PE X a t):PE X (.BoolOp op [a] pos) t:=λpins s σ H Q I hw=>BoolOp_one (h pins s σ H Q I hw)
def pe_and (ha:PE X a ta) (hb:PE X (.BoolOp .And (b::rest) pos) tb):PE X (.BoolOp .And (a::b::rest) pos) (tAndV ta tb):=by
 intro pins s σ H Q I h;refine BoolOp_and (thn (ha pins s σ H _ I h) λv s1 z95=>?_)
 obtain⟨x,H1,I1,r1,q1⟩:=z95;obtain⟨c,rfl,q1⟩:=q1;cases r1;refine wpAny_truthy_bool ?_;cases c with
 | true=>exact hb pins s1 σ H1 Q I1 q1
 | false=>exact⟨.bl false,H1,I1,rfl,q1⟩
def pe_not (ha:PE X a ta):PE X (.UnaryOp .Not a pos) (tNotV ta):=by
 intro pins s σ H Q I h;refine UnaryOp_ (thn (ha pins s σ H _ I h) λv s1 z96=>?_)
 obtain⟨x,H1,I1,r1,q1⟩:=z96;obtain⟨c,rfl,q1⟩:=q1;cases r1;exact not_of (wpAny_truthy_bool ⟨.bl (!c),H1,I1,rfl,q1⟩)
def tIf (t:TT) (ta tb:TE):TE:=λσ H Q=>t σ H λc H1=>if c=true then ta σ H1 Q else tb σ H1 Q
def v1K(hc:PT X c tA) (ha:PE X a ta) (hb:PE X b tb):PE X (.IfExp c a b pos) (tIf tA ta tb):=by
 intro pins s σ H Q I h;refine wpAny_IfExp (thn (hc pins s σ H _ I h) λd s1 z97=>?_)
 obtain⟨H1,I1,q1⟩:=z97;cases d with
 | true=>exact ha pins s1 σ H1 Q I1 q1
 | false=>exact hb pins s1 σ H1 Q I1 q1
end
def SqL (K:W.Frag) (H:Hp) (a:Addr) (xs:List V):Prop :=
 Rd H a (.lst xs) \/
  ∃(o:Obj) (its:Array Value) (n:Nat),K.lookup a=some o/\o.cls=.type "list"/\o.dict=none/\o.data=.seq its n/\its.size<=sizeLine/\Vals xs its.toList
def SqT (K:W.Frag) (H:Hp) (a:Addr) (xs:List V):Prop :=
 Rd H a (.tup xs) \/
  ∃(o:Obj) (its:Array Value) (n:Nat),K.lookup a=some o/\o.cls=.type "tuple"/\o.data=.seq its n/\its.size<=sizeLine/\Vals xs its.toList
noncomputable def absV:Value->Option V
 | .none=>some .non
 | .bool b=>some (.bl b)
 | .int i _=>some (.int i)
 | .str x _=>some (.str x)
 | .bytes b _=>some (.byt b)
 | .float b _=>some (.flt b)
 | .ref a=>some (.ref a)
 | .type n=>some (.ty n)
 | _=>none
def RelV.abs{x:V} (r:RelV x u):absV u=some x:=by
 cases x with
 | non=>cases r;rfl
 | bl _=>cases r;rfl
 | int _=>obtain⟨t,rfl⟩:=r;rfl
 | str _=>obtain⟨t,rfl⟩:=r;rfl
 | byt _=>obtain⟨t,rfl⟩:=r;rfl
 | flt _=>obtain⟨t,rfl⟩:=r;rfl
 | ref _=>cases r;rfl
 | ty _=>cases r;rfl
theorem RelV.inj{x:V} (r:RelV x u) (q:RelV y u):x=y:=Option.some.inj (r.abs.symm.trans q.abs)
theorem Vals.inj:∀{xs ys:List V}{us:List Value},Vals xs us->Vals ys us->xs=ys
 | _,_,_,.nil,.nil=>rfl
 | _,_,_,.cons r t,.cons r' t'=>by rw[r.inj r',Vals.inj t t']
section
variable {ys:List V}
def Inv.list (I:Inv X pins σ H s) (h:SqL X.K H a xs):∃its:List Value,Vals xs its/\PlainL s.heap a its.toArray/\xs.length<=sizeLine:=by
 rcases h with h|⟨o,its,n,hk,hc,hd,hs,hz,r⟩
 ·obtain ⟨z,its,n,r,e⟩:=h.ok I.hok
  exact⟨its,r,⟨_,n,e,rfl,rfl,rfl⟩,z⟩
 ·refine ⟨its.toList,r,⟨o,n,I.kIn a o hk,hc,hd,by simpa using hs⟩,?_⟩
  have e:=r.length;simp only[z0J] at e;omega
def Inv.tuple (I:Inv X pins σ H s) (h:SqT X.K H a xs):∃its:List Value,Vals xs its/\IsTup s.heap a its.toArray/\xs.length<=sizeLine:=by
 rcases h with h|⟨o,its,n,hk,hc,hs,hz,r⟩
 ·obtain ⟨z,its,r,p⟩:=h.ok I.hok
  exact⟨its,r,p,z⟩
 ·refine ⟨its.toList,r,⟨o,I.kIn a o hk,hc,n,by simpa using hs⟩,?_⟩
  have e:=r.length;simp only[z0J] at e;omega
def Inv.list_inj (I:Inv X pins σ H s) (h:SqL X.K H a xs) (h':SqL X.K H a ys):xs=ys:=by
 obtain⟨its,r,⟨o,n,e,_,_,d⟩,_⟩:=I.list h;obtain⟨its',r',⟨o',n',e',_,_,d'⟩,_⟩:=I.list h';rw[e] at e';cases e';rw[d] at d';injection d' with d1 _
 have:its=its':=by simpa using congrArg Array.toList d1
 subst this;exact r.inj r'
def Inv.tuple_inj (I:Inv X pins σ H s) (h:SqT X.K H a xs) (h':SqT X.K H a ys):xs=ys:=by
 obtain⟨its,r,⟨o,e,_,n,d⟩,_⟩:=I.tuple h;obtain⟨its',r',⟨o',e',_,n',d'⟩,_⟩:=I.tuple h';rw[e] at e';cases e';rw[d] at d';injection d' with d1 _
 have:its=its':=by simpa using congrArg Array.toList d1
 subst this;exact r.inj r'
end
abbrev Cx.wish (X:Cx) (E:VP):Cx:={ X with xe:=E }
abbrev Cx.nox (X:Cx):Cx:=X.wish λ_ _=>False
theorem Cx.Ok.wish(ok:X.Ok) (E:VP):(X.wish E).Ok :=
 ⟨ok.mod,ok.kind,ok.glob,ok.blt,ok.above,ok.inj,ok.has,ok.cab,ok.hd,ok.frames,ok.stk,ok.exf,ok.bs,ok.bsz,ok.noex,ok.exfs,ok.funs,ok.frf⟩
def Cx.Ok.unwish(ok:(X.wish E).Ok):X.Ok :=
 ⟨ok.mod,ok.kind,ok.glob,ok.blt,ok.above,ok.inj,ok.has,ok.cab,ok.hd,ok.frames,ok.stk,ok.exf,ok.bs,ok.bsz,ok.noex,ok.exfs,ok.funs,ok.frf⟩
theorem Inv.wish (I:Inv X pins σ H s) (E:VP):Inv (X.wish E) pins σ H s:=⟨I.ok.wish E,I.os,I.bare,I.base,I.loc,I.cell,I.free,I.freeC,I.pin,I.hok,I.len⟩
theorem Inv.unwish (I:Inv (X.wish E) pins σ H s):Inv X pins σ H s:=⟨I.ok.unwish,I.os,I.bare,I.base,I.loc,I.cell,I.free,I.freeC,I.pin,I.hok,I.len⟩
theorem SP.unwish{D:Ends}{f:Flow} (h:SP (X.wish E) pins D f s'):SP X pins D f s':=by
 cases f with
 | next=>obtain⟨σ',H',I,q⟩:=h;exact⟨σ',H',I.unwish,q⟩
 | brk=>obtain⟨σ',H',I,q⟩:=h;exact⟨σ',H',I.unwish,q⟩
 | cont=>obtain⟨σ',H',I,q⟩:=h;exact⟨σ',H',I.unwish,q⟩
 | ret u=>obtain⟨v,σ',H',I,r,q⟩:=h;exact⟨v,σ',H',I.unwish,r,q⟩
theorem PSs.nox{t:TS} (h:PSs X.nox st t):PSs X st t:=λpins s σ H D I hw =>
 wpAny_mono (h pins s σ H D (I.wish _) hw) (λ_ _ q=>q.unwish) λ_ _ z=>False.elim z
section
variable {st:Stmt}{rest:List Stmt}{t u:TS}
def tNext:TS:=λD σ H=>D.nx σ H
def tSeq (t u:TS):TS:=λD σ H=>t { D with nx:=u D } σ H
def u0G:PSs X [] tNext:=λ_ _ σ H _ I h=>wpAny_execs_nil ⟨σ,H,I,h⟩
def u0i (h1:PS X st t) (h2:PSs X rest u):PSs X (st::rest) (tSeq t u):=by
 intro pins s σ H D I h;refine wpAny_execs_cons (thn (h1 pins s σ H { D with nx:=u D } I h) λf s1 q=>?_)
 cases f with
 | next =>
  obtain⟨σ',H',I',q⟩:=q;exact h2 pins s1 σ' H' D I' q
 | ret v=>exact q
 | brk=>exact q
 | cont=>exact q
def u0n (h1:PS X st t):PSs X [st] t:=by
 intro pins s σ H D I h;refine wpAny_execs_cons (thn (h1 pins s σ H D I h) λf s1 q=>?_)
 cases f with
 | next=>exact wpAny_execs_nil q
 | ret v=>exact q
 | brk=>exact q
 | cont=>exact q
def Inv.quiet(I:Inv X pins σ H s):interactive X.env=false:=by simp[interactive,I.ok.kind]
def tDrop (te:TE):TS:=λD σ H=>te σ H λ_ H1=>D.nx σ H1
def u1G (he:PE X e te) (hs:swapsWith e none pos.line X.env=pure false:=by rfl):PS X (.Expr e pos) (tDrop te):=by
 intro pins s σ H D I h;exact wpAny_Expr_any (thn (he pins s σ H _ I h) λv s1 z98=>by obtain⟨x,H1,I1,r1,q1⟩:=z98;exact⟨σ,H1,I1,q1⟩) I.quiet hs
def tRet (te:TE):TS:=λD σ H=>te σ H D.rt
def u0H (he:PE X e te):PS X (.Return (some e) pos) (tRet te):=by
 intro pins s σ H D I h;exact wpAny_Return_some (thn (he pins s σ H _ I h) λv s1 z99=>by obtain⟨x,H1,I1,r1,q1⟩:=z99;exact⟨x,σ,H1,I1,r1,q1⟩)
def tIfS (c:TT) (t u:TS):TS:=λD σ H=>c σ H λb H1=>if b=true then t D σ H1 else u D σ H1
def u1F{a b:List Stmt}{tc:TT} (hc:PT X c tc) (ha:PSs X a t) (hb:PSs X b u):PS X (.If c a b pos) (tIfS tc t u):=by
 intro pins s σ H D I h;refine wpAny_If (thn (hc pins s σ H _ I h) λd s1 z910=>?_)
 obtain⟨H1,I1,q1⟩:=z910;cases d with
 | true=>exact ha pins s1 σ H1 D I1 q1
 | false=>exact hb pins s1 σ H1 D I1 q1
end
abbrev TG:=V->St->Hp->(St->Hp->Prop)->Prop
abbrev TGs:=List V->St->Hp->(St->Hp->Prop)->Prop
def PG (X:Cx) (target:Expr) (t:TG):Prop :=
 ∀(pins:LO) (s:Shared) (σ:St) (H:Hp) (v:V) (u:Value) (Q:St->Hp->Prop),Inv X pins σ H s->RelV v u->t v σ H Q ->
  wpAny (model X.prog X.w) X.A (assign target X.env u) (λ_ s'=>∃σ' H',Inv X pins σ' H' s'/\Q σ' H') X.xe s
def PGs (X:Cx) (ts:List Expr) (t:TGs):Prop :=
 ∀(pins:LO) (s:Shared) (σ:St) (H:Hp) (vs:List V) (us:List Value) (Q:St->Hp->Prop),Inv X pins σ H s->Vals vs us->t vs σ H Q ->
  wpAny (model X.prog X.w) X.A (assignInOrder ((assignEach ts X.env).map (·.2)) us) (λ_ s'=>∃σ' H',Inv X pins σ' H' s'/\Q σ' H') X.xe s
abbrev TSet:=V->V->V->Hp->(Hp->Prop)->Prop
def PSet (X:Cx) (t:TSet):Prop :=
 ∀(pins:LO) (s:Shared) (σ:St) (H:Hp) (o i v:V) (ov iv u:Value) (Q:Hp->Prop),Inv X pins σ H s->RelV o ov->RelV i iv->RelV v u->t o i v H Q ->
  wpAny (model X.prog X.w) X.A (setItem ov iv u) (λ_ s'=>∃H',Inv X pins σ H' s'/\Q H') X.xe s
def gName (i:Nat):TG:=λv σ H Q=>Q (σ.set i (some v)) H
def pg_name(hN:X.N.Nodup) (hi:X.N[i]?=some x) (hx:Loc X.env.scope x) (hf:X.fn x=true\/X.env.scope.names.lookup x=some .local:=by first|exact .inl rfl|exact .inr rfl|assumption):PG X (.Name x pos) (gName i):=by
 intro pins s σ H v u Q I r h;exact wpAny_assign_Name (u3z I hN hi hx r (λs' I'=>⟨_,H,I',h⟩) hf)
def gNil:TGs:=λvs σ H Q=>vs=[]/\Q σ H
def gCons (t:TG) (u:TGs):TGs:=λvs σ H Q=>∃v r,vs=v::r/\t v σ H λσ' H'=>u r σ' H' Q
def pgs_nil:PGs X [] gNil:=by
 intro pins s σ H vs us Q I r h;obtain⟨e,h⟩:=h;subst e;cases r;exact assignInOrder_nil ⟨σ,H,I,h⟩
def v1G{t:TG}{u:TGs} (h1:PG X e t) (h2:PGs X es u)
  (hs:(assignEach (e::es) X.env).map (·.2)=assign e X.env::(assignEach es X.env).map (·.2):=by rfl):PGs X (e::es) (gCons t u):=by
 intro pins s σ H vs us Q I r h;obtain⟨v,vr,e1,h⟩:=h;subst e1;cases r with
 | cons r rr =>
  rw[hs];refine assignInOrder_cons (thn (h1 pins s σ H _ _ _ I r h) λ_ s1 z911=>?_)
  obtain⟨σ1,H1,I1,q1⟩:=z911;exact h2 pins s1 σ1 H1 _ _ Q I1 rr q1
def gTup (K:W.Frag) (n:Nat) (t:TGs):TG:=λv σ H Q=>∃a xs,v=.ref a/\SqT K H a xs/\xs.length=n/\t xs σ H Q
def pg_tup{t:TGs} (hc:X.calm=true) (h:PGs X es t)
  (hn:(assignEach es X.env).length=n:=by rfl) (hst:(assignEach es X.env).findIdx? (·.1)=none:=by rfl):PG X (.Tuple es k pos) (gTup X.K n t):=by
 intro pins s σ H v u Q I r hw;obtain⟨a,xs,e1,hq,hl,hw⟩:=hw;subst e1;cases r;obtain⟨its,rv,ht,hz⟩:=I.tuple hq;refine assign_Tuple_tuple (I.ok.hd hc) ht (by simp[hn,<- hl,rv.length]) hst λh' hx=>?_
 have I1:Inv X pins σ H { s with heap:=h' }:=I.kept (t':=s.toks) λb o e=>hx b o (u9 (z8 e)) e
 exact h pins _ σ H xs _ Q I1 (by simpa using rv) hw
def gSub (to ti:TE) (t:TSet):TG:=λv σ H Q=>to σ H λo H1=>ti σ H1 λi H2=>t o i v H2 λH3=>Q σ H3
def pg_sub {o i:Expr}{to ti:TE}{t:TSet} (ho:PE X o to) (hi:PE X i ti) (hs:PSet X t)
  (ha:∀ v,assign (.Subscript o i pos) X.env v=(do
   let ov <- holding [v] (eval o X.env)
   let iv <- holding [v,ov] (eval i X.env)
   standAt pos
   holding [v,ov,iv] (setItem ov iv v)
   release [v,ov,iv] []):=by intro _;rfl):PG X (.Subscript o i pos) (gSub to ti t):=by
 intro pins s σ H v u Q I r h;rw[ha];refine wpAny_bind (wpAny_holding (thn (ho pins s σ H _ I h) λov s1 z912=>?_))
 obtain⟨x,H1,I1,r1,q1⟩:=z912;refine wpAny_bind (wpAny_holding (thn (hi pins s1 σ H1 _ I1 q1) λiv s2 z913=>?_))
 obtain⟨y,H2,I2,r2,q2⟩:=z913;refine wpAny_bind (wpAny_standAt (wpAny_bind (wpAny_holding (thn (hs pins s2 σ H2 x y v ov iv u _ I2 r1 r2 r q2) λ_ s3 z914=>?_))))
 obtain⟨H3,I3,q3⟩:=z914;exact wpAny_release ⟨σ,H3,I3,q3⟩
def tAsg (te:TE) (g:TG):TS:=λD σ H=>te σ H λx H1=>g x σ H1 D.nx
def ps_asg{g:TG} (he:PE X e te) (hg:PG X tg g) (hs:swapsWithSole [tg] e pos.line X.env=pure false:=by rfl) (hw:swappedStores [tg] e X.env=pure none:=by rfl)
  (h1:(assignEach [tg] X.env).map (·.2)=[assign tg X.env]:=by rfl):PS X (.Assign [tg] e pos) (tAsg te g):=by
 intro pins s σ H D I h;refine wpAny_Assign_stores (thn (he pins s σ H _ I h) λv s1 z915=>?_) hs hw
 obtain⟨x,H1,I1,r1,q1⟩:=z915;rw[h1];exact thn (hg pins s1 σ H1 x v _ I1 r1 q1) λ_ s2 q=>q
def ps_set(hN:X.N.Nodup) (hi:X.N[i]?=some x) (hx:Loc X.env.scope x) (he:PE X e te) (hs:swapsWith e (some (.Name x pos')) pos.line X.env=pure false:=by rfl) (hf:X.fn x=true\/X.env.scope.names.lookup x=some .local:=by first|exact .inl rfl|exact .inr rfl|assumption) :
  PS X (.Assign [.Name x pos'] e pos) (tAsg te (gName i)):=by
 intro pins s σ H D I h;refine wpAny_Assign_Name (thn (he pins s σ H _ I h) λv s1 z916=>?_) hs
 obtain⟨y,H1,I1,r1,q1⟩:=z916;exact u3z I1 hN hi hx r1 (λs2 I2=>⟨_,H1,I2,q1⟩) hf
def tWhile (c:TT) (tb:TS):TS:=λD σ H=>∃W:Nat->St->Hp->Prop,(∃m,W m σ H)/\∀m σ H,W m σ H ->
 c σ H λb H1=>if b=true then ∃N:St->Hp->Prop,(∀σ' H',N σ' H'->∃m',m'<m/\W m' σ' H')/\tb { D with nx:=N,ct:=N,bk:=D.nx } σ H1 else D.nx σ H1
def v1B{tc:TT} (hp:PassesOwn (model X.prog X.w) X.A X.env X.xe) (hc:PT X c tc) (hb:PSs X body tb):PS X (.While c body [] pos) (tWhile tc tb):=by
 intro pins s σ H D I h;obtain⟨W,⟨m0,w0⟩,turn⟩:=h;refine wpAny_While (codeAny_whileLoop (λn s'=>∃σ' H',Inv X pins σ' H' s'/\W n σ' H') ?_ m0 ⟨σ,H,I,w0⟩)
 rintro n s1 ⟨σ1,H1,I1,w1⟩;refine wpAny_passesOwn hp (thn (hc pins s1 σ1 H1 _ I1 (turn n σ1 H1 w1)) λb s2 z917=>?_)
 obtain⟨H2,I2,q2⟩:=z917;cases b with
 | true =>
  obtain⟨N,hN,q2⟩:=q2;rw[if_pos rfl];refine wpAny_passesOwn hp (thn (hb pins s2 σ1 H2 _ I2 q2) λf s3 q3=>?_)
  cases f with
  | next =>
   obtain⟨σ3,H3,I3,n3⟩:=q3;obtain⟨m',hm,w3⟩:=hN σ3 H3 n3;exact⟨m',hm,σ3,H3,I3,w3⟩
  | cont =>
   obtain⟨σ3,H3,I3,n3⟩:=q3;obtain⟨m',hm,w3⟩:=hN σ3 H3 n3;exact⟨m',hm,σ3,H3,I3,w3⟩
  | brk=>exact q3
  | ret v=>exact q3
 | false =>
  rw[if_neg z0I];exact wpAny_execs_nil ⟨σ1,H2,I2,q2⟩
structure It where
 go:Nat->Hp->Prop
 yld:Nat->Hp->V->Hp->Prop
 stop:Nat->Hp->Prop
def FpOk (X:Cx) (pins:LO) (H:Hp) (b:Addr):Prop :=
 H b=none/\b≠X.env.locals/\b∉X.fs/\(b∈X.ex\/X.s₀.heap.objs.size<=b)/\(∀x c,X.env.cells.lookup x=some c->c≠b)/\∀p∈X.pn++pins,p.1≠b
def Inv.fpOk(I:Inv X pins σ H s) (hb:s.heap.objs.size<=b) (hn:H' b=none):FpOk X pins H' b:=by
 refine⟨hn,Nat.ne_of_gt (x8 I.lt hb),I.nofs hb,.inr (y9 I.sz hb),λx c e z=>?_,λp hp z=>?_⟩
 ·obtain ⟨v,q⟩:=I.cell x c e
  exact absurd (x8 q.lt (by rw[z];exact hb)) (z0B _)
 ·exact absurd (x8 (z8 (I.pin p hp).1) (by rw[z];exact hb)) (z0B _)
structure Turn (P:Program) (w:World) (K:W.Frag) (tg:Expr) (J:It) (fp:List Addr) (it:Addr) (tn:Nat->Heap->Prop):Prop where
 mem:it∈fp
 obj:∀i h,tn i h->∀b∈fp,∃o,h.get? b=some o/\∀v,o.data≠.cell v
 keep:∀i h h',tn i h->(∀b∈fp,∀o,h.get? b=some o->h'.get? b=some o)->tn i h'
 item:∀(X:Cx),X.prog=P->X.w=w->X.K=K->X.calm=true->∀(i:Nat) (pins:LO) (s:Shared) (σ:St) (H:Hp) (E:VP),Inv X pins σ H s->(∀b∈fp,FpOk X pins H b)->tn i s.heap->J.go i H ->
  wpAny (model P w) X.A (pyNext (.ref it)) (λr s1=>∃u,r=some u /\
   wpAny (model P w) X.A (letOwnedTupleGo tg (.ref it) u) (λ_ s2=>∃x H',Inv X pins σ H' s2/\RelV x u/\J.yld i H x H'/\tn (i+1) s2.heap/\∀b∈fp,H' b=none) E s1) E s
 done:∀(X:Cx),X.prog=P->X.w=w->X.K=K->X.calm=true->∀(i:Nat) (pins:LO) (s:Shared) (σ:St) (H:Hp) (E:VP),Inv X pins σ H s->(∀b∈fp,FpOk X pins H b)->tn i s.heap->J.stop i H ->
  wpAny (model P w) X.A (pyNext (.ref it)) (λr s1=>r=none/\Inv X pins σ H s1) E s
 self:∀(A:Around) (i:Nat) (s:Shared) (Q:VP) (E:VP),tn i s.heap->Q (.ref it) s->wpAny (model P w) A (pyIter (.ref it)) Q E s
abbrev TI:=St->Hp->(It->Hp->Prop)->Prop
def PIE (X:Cx) (pins:LO) (σ:St) (tg:Expr) (R:It->Hp->Prop) (itv:Value) (s2:Shared):Prop :=
 ∃(it:Addr) (fp:List Addr) (tn:Nat->Heap->Prop) (J:It) (H':Hp),itv=.ref it/\Inv X pins σ H' s2/\Turn X.prog X.w X.K tg J fp it tn/\tn 0 s2.heap/\(∀b∈fp,FpOk X pins H' b)/\R J H'
def PI (X:Cx) (tg iter:Expr) (wi:TI):Prop :=
 ∀(pins:LO) (s:Shared) (σ:St) (H:Hp) (R:It->Hp->Prop),Inv X pins σ H s->wi σ H R ->
  wpAny (model X.prog X.w) X.A (eval iter X.env) (λv s1=>wpAny (model X.prog X.w) X.A (pyIter v) (PIE X pins σ tg R) X.xe s1) X.xe s
def u8F{M:Model}{o:Obj}{n:String}{vs:Array Value}{Q:Unit->Shared->Prop} (ho:s.heap.get? it=some o) (hc:o.cls=.type n) (hd:o.data=.fields vs)
  (hn:["enumerate","zip","dict_itemiterator","dict_reverseitemiterator","odict_iterator","itertools.zip_longest","itertools.pairwise"].contains n=false) (hQ:Q () s):wpAny M A (letOwnedTupleGo tg (.ref it) u) Q E s:=by
 unfold letOwnedTupleGo;cases tg<;>first
  | exact wpAny_pure hQ
  | (cases u<;>first
    | exact wpAny_pure hQ
    | (refine wpAny_bind (wpAny_load ho ?_)
       rw[hc,hd];show wpAny M A (if (["enumerate","zip","dict_itemiterator","dict_reverseitemiterator","odict_iterator","itertools.zip_longest","itertools.pairwise"].contains n&&vs[0]?==some (rawInt _))=true then _ else _) Q E s
       rw[if_neg (by intro h;rw[hn,Bool.false_and] at h;cases h)]
       exact wpAny_pure hQ))
def Itl (K:W.Frag) (a:Addr):It :=
 ⟨λi H=>∃xs x,SqL K H a xs/\xs[i]?=some x,λi H x H'=>H'=H/\∀xs,SqL K H a xs->xs[i]?=some x,λi H=>∃xs,SqL K H a xs/\xs.length<=i⟩
def Itt (K:W.Frag) (a:Addr):It :=
 ⟨λi H=>∃xs x,SqT K H a xs/\xs[i]?=some x,λi H x H'=>H'=H/\∀xs,SqT K H a xs->xs[i]?=some x,λi H=>∃xs,SqT K H a xs/\xs.length<=i⟩
def Itr (lo:Int) (n:Nat):It:=⟨λi _=>i<n,λi H x H'=>H'=H/\x=.int (lo+i),λi _=>n<=i⟩
def u9d(a it:Addr):Turn P w K tg (Itl K a) [it] it (λi h=>h.IsListIter it a i) where
 mem:=by simp
 obj:=λi h st b hb=>by
  have e:b=it:=by simpa using hb
  subst e;obtain⟨o,e,c,d⟩:=st;exact⟨o,e,λv z=>by rw[d] at z;cases z⟩
 keep:=λi h h' st k=>st.at λo e=>k it (by simp) o e
 item:=by
  intro X hP hw hK hc i pins s σ H E I hf st hg;subst hP hw hK;obtain⟨xs,x,hq,hx⟩:=hg;obtain⟨its,rv,p,hz⟩:=I.list hq;obtain⟨u,hu,ru⟩:=rv.get hx;obtain⟨f0,f1,f2,f3,f4,f5⟩:=hf it (by simp)
  refine wpAny_pyNext_list_item st p.isList (x:=u) (by simpa using hu) λh' st' sb=>?_
  have I1:Inv X pins σ H { s with heap:=h' }:=I.turned (t':=s.toks) (λb o hb e=>(sb.2 b hb).trans e) f0 f1 f3 f4 f5
  obtain⟨o,e,c,d⟩:=id st';exact⟨u,rfl,u8F (s:={ s with heap:=h' }) e c d (by decide) ⟨x,H,I1,ru,⟨rfl,λys hy=>by rw[I.list_inj hy hq];exact hx⟩,st',λb hb=>(hf b hb).1⟩⟩
 done:=by
  intro X hP hw hK hc i pins s σ H E I hf st hg;subst hP hw hK;obtain⟨xs,hq,hx⟩:=hg;obtain⟨its,rv,p,hz⟩:=I.list hq;obtain⟨f0,f1,f2,f3,f4,f5⟩:=hf it (by simp)
  have hl:=rv.length;exact wpAny_pyNext_list_end (I.ok.hd hc) st p.isList (by simp;omega) λh' eb=>⟨rfl,I.turned (t':=s.toks) (λb o hb e=>eb b o hb e) f0 f1 f3 f4 f5⟩
 self:=λ_ _ _ _ _ st h=>wpAny_pyIter_listiter st h
def u8p(a it:Addr):Turn P w K tg (Itt K a) [it] it (λi h=>h.IsTupleIter it a i) where
 mem:=by simp
 obj:=λi h st b hb=>by
  have e:b=it:=by simpa using hb
  subst e;obtain⟨o,e,c,d⟩:=st;exact⟨o,e,λv z=>by rw[d] at z;cases z⟩
 keep:=λi h h' st k=>st.at λo e=>k it (by simp) o e
 item:=by
  intro X hP hw hK hc i pins s σ H E I hf st hg;subst hP hw hK;obtain⟨xs,x,hq,hx⟩:=hg;obtain⟨its,rv,p,hz⟩:=I.tuple hq;obtain⟨u,hu,ru⟩:=rv.get hx;obtain⟨f0,f1,f2,f3,f4,f5⟩:=hf it (by simp)
  refine wpAny_pyNext_tuple_item st (show s.heap.IsTuple a its.toArray from p) (x:=u) (by simpa using hu) λh' st' sb=>?_
  have I1:Inv X pins σ H { s with heap:=h' }:=I.turned (t':=s.toks) (λb o hb e=>(sb.2 b hb).trans e) f0 f1 f3 f4 f5
  obtain⟨o,e,c,d⟩:=id st';exact⟨u,rfl,u8F (s:={ s with heap:=h' }) e c d (by decide) ⟨x,H,I1,ru,⟨rfl,λys hy=>by rw[I.tuple_inj hy hq];exact hx⟩,st',λb hb=>(hf b hb).1⟩⟩
 done:=by
  intro X hP hw hK hc i pins s σ H E I hf st hg;subst hP hw hK;obtain⟨xs,hq,hx⟩:=hg;obtain⟨its,rv,p,hz⟩:=I.tuple hq;obtain⟨f0,f1,f2,f3,f4,f5⟩:=hf it (by simp)
  have hl:=rv.length;exact wpAny_pyNext_tuple_end (I.ok.hd hc) st (show s.heap.IsTuple a its.toArray from p) (by simp;omega) λh' eb=>⟨rfl,I.turned (t':=s.toks) (λb o hb e=>eb b o hb e) f0 f1 f3 f4 f5⟩
 self:=λ_ _ _ _ _ st h=>wpAny_pyIter_tupleiter st h
def u8q(it:Addr) (lo:Int) (n:Nat):Turn P w K tg (Itr lo n) [it] it (λi h=>IsRangeIter h it (lo+(i:Nat)*1) ((n:Int) - (i:Nat)) 1) where
 mem:=by simp
 obj:=λi h st b hb=>by
  have e:b=it:=by simpa using hb
  subst e;exact⟨_,st,λv z=>by
   have z':Data.fields _=Data.cell v:=z;cases z'⟩
 keep:=λi h h' st k=>k it (by simp) _ st
 item:=by
  intro X hP hw hK hc i pins s σ H E I hf st hg;subst hP hw hK;obtain⟨f0,f1,f2,f3,f4,f5⟩:=hf it (by simp)
  have W:=Walks.range (prog:=X.prog) (w:=X.w) (I.ok.hd hc) it lo 1 n;refine W.item i s _ _ hg st λv h' tk hv st' kk=>?_
  obtain⟨t,rfl⟩:=hv;have I1:Inv X pins σ H { s with heap:=h',toks:=tk }:=I.turned (λb o hb e=>kk b o (by simpa using hb) e) f0 f1 f3 f4 f5
  refine⟨_,rfl,u8F (s:={ s with heap:=h',toks:=tk }) (n:="range_iterator") st' rfl rfl (by decide) ⟨.int (lo+i),H,I1,⟨t,?_⟩,⟨rfl,rfl⟩,st',λb hb=>(hf b hb).1⟩⟩
  rw[Int.mul_one]
 done:=by
  intro X hP hw hK hc i pins s σ H E I hf st hg;subst hP hw hK;obtain⟨f0,f1,f2,f3,f4,f5⟩:=hf it (by simp)
  exact wpAny_pyNext_range_end (I.ok.hd hc) st (by have:n<=i:=hg;omega) λh' eb=>⟨rfl,I.turned (t':=s.toks) (λb o hb e=>eb b o hb e) f0 f1 f3 f4 f5⟩
 self:=λ_ _ _ _ _ st h=>wpAny_pyIter_rangeiter st h
def iList (K:W.Frag) (tl:TE):TI:=λσ H R=>tl σ H λx H1=>∃a,x=.ref a/\(∃xs,SqL K H1 a xs)/\R (Itl K a) H1
def iTup (K:W.Frag) (tl:TE):TI:=λσ H R=>tl σ H λx H1=>∃a,x=.ref a/\(∃xs,SqT K H1 a xs)/\R (Itt K a) H1
def u9I(hl:PE X l tl):PI X tg l (iList X.K tl):=by
 intro pins s σ H R I h;refine thn (hl pins s σ H _ I h) λv s1 z918=>?_
 obtain⟨x,H1,I1,r1,q1⟩:=z918;obtain⟨a,e,⟨xs,hq⟩,q⟩:=q1;subst e;cases r1;obtain⟨its,rv,p,hz⟩:=I1.list hq;refine wpAny_pyIter_list p.isList ?_;refine⟨s1.heap.objs.size,[s1.heap.objs.size],_,_,H1,rfl,I1.kept (t':=s1.toks) λb o e=>z0 _ e,u9d a _,⟨_,y6 _ rfl,rfl,rfl⟩,λb hb=>?_,q⟩
 have e:b=s1.heap.objs.size:=by simpa using hb
 subst e;exact I1.fpOk (y0 _) (I1.hok.fresh (y0 _))
def pi_tup(hl:PE X l tl):PI X tg l (iTup X.K tl):=by
 intro pins s σ H R I h;refine thn (hl pins s σ H _ I h) λv s1 z919=>?_
 obtain⟨x,H1,I1,r1,q1⟩:=z919;obtain⟨a,e,⟨xs,hq⟩,q⟩:=q1;subst e;cases r1;obtain⟨its,rv,p,hz⟩:=I1.tuple hq;refine wpAny_pyIter_tuple (show s1.heap.IsTuple a its.toArray from p) ?_
 refine⟨s1.heap.objs.size,[s1.heap.objs.size],_,_,H1,rfl,I1.kept (t':=s1.toks) λb o e=>z0 _ e,u8p a _,⟨_,y6 _ rfl,rfl,rfl⟩,λb hb=>?_,q⟩
 have e:b=s1.heap.objs.size:=by simpa using hb
 subst e;exact I1.fpOk (y0 _) (I1.hok.fresh (y0 _))
def u7I{R:It->Hp->Prop}{lo hi:Int}{t u v:Tok}{tk:Nat} (I:Inv X pins σ H s) (h1:-(2^62)<=lo) (h2:lo<2^62) (h3:-(2^62)<=hi) (h4:hi<2^62)
  (q:R (Itr lo (hi - lo).toNat) H):wpAny (model X.prog X.w) X.A (pyIter (.ref s.heap.objs.size)) (PIE X pins σ tg R) E { s with heap:=s.heap.push { cls:=.type "range",data:=.fields #[.int lo t,.int hi u,.int 1 v] },toks:=tk }:=by
 refine wpAny_pyIter_range (IsRange.new ..) (small_one h1 h2 h3 h4) ?_;have I1:Inv X pins σ H { s with heap:=s.heap.push { cls:=.type "range",data:=.fields #[.int lo t,.int hi u,.int 1 v] },toks:=tk }:=I.kept λb o e=>z0 _ e
 refine⟨(s.heap.push { cls:=.type "range",data:=.fields #[.int lo t,.int hi u,.int 1 v] }).objs.size,[(s.heap.push { cls:=.type "range",data:=.fields #[.int lo t,.int hi u,.int 1 v] }).objs.size],_,_,H,rfl,
  I1.kept (t':=tk) λb o e=>z0 _ e,u8q _ lo (hi - lo).toNat,?_,λb hb=>?_,q⟩
 ·have e1:lo+((0:Nat):Int)*1=lo:=by simp
  have e2:(((hi - lo).toNat:Nat):Int) - ((0:Nat):Int)=Builtin.Range.rangeSize lo hi 1:=by rw[rangeSize_one];split<;>omega
  show IsRangeIter _ _ (lo+((0:Nat):Int)*1) ((((hi - lo).toNat:Nat):Int) - ((0:Nat):Int)) 1;rw[e1,e2];exact y6 _ rfl
 ·have e:b=(s.heap.push { cls:=.type "range",data:=.fields #[.int lo t,.int hi u,.int 1 v] }).objs.size:=by simpa using hb
  subst e;exact I1.fpOk (y0 _) (I1.hok.fresh (y0 _))
def iRng1 (ta:TA):TI:=λσ H R=>ta σ H λvs H1=>∃j:Int,vs=[.int j]/\-(2^62)<=j/\j<2^62/\R (Itr 0 j.toNat) H1
def iRng2 (ta:TA):TI:=λσ H R=>ta σ H λvs H1=>∃i j:Int,vs=[.int i,.int j]/\(-(2^62)<=i/\i<2^62/\-(2^62)<=j/\j<2^62)/\R (Itr i (j - i).toNat) H1
def u5R{a:Expr}{ta:TA} (hg:Gl X "range") (hm:X.mg "range"=none) (ha:PA X [a] ta) (hs:starEach [a] X.env=[(false,eval a X.env)]:=by rfl):PI X tg (.Call (.Name "range" p) [a] [] pos) (iRng1 ta):=by
 intro pins s σ H R I h;refine Call_ (u1J I hg hm boot_range (PyProof.Rows.callWith_type1 (thn (ha pos pins s σ H _ I h) λus s1 z920=>?_) hs rfl))
 obtain⟨vs,H1,I1,r1,q1⟩:=z920;obtain⟨j,e,q1,q2,q⟩:=q1;subst e;cases r1 with
 | cons r rr =>
  cases rr;obtain⟨t,rfl⟩:=r;exact call_range_1 (u7I I1 (by omega) (by omega) q1 q2 (by simpa using q))
def u9H{a b:Expr}{ta:TA} (hg:Gl X "range") (hm:X.mg "range"=none) (ha:PA X [a,b] ta) (hs:starEach [a,b] X.env=[(false,eval a X.env),(false,eval b X.env)]:=by rfl) (hs2:starEach [b] X.env=[(false,eval b X.env)]:=by rfl) :
  PI X tg (.Call (.Name "range" p) [a,b] [] pos) (iRng2 ta):=by
 intro pins s σ H R I h;refine Call_ (u1J I hg hm boot_range (PyProof.Rows.callWith_type1 (thn (ha pos pins s σ H _ I h) λus s1 ⟨vs,H1,I1,r1,q1⟩=>?_) (by rw[hs,hs2]) (by rw[hs2];rfl)))
 obtain⟨i,j,e,⟨q1,q2,q3,q4⟩,q⟩:=q1;subst e;cases r1 with
 | cons r rr =>
  cases rr with
  | cons r' rr =>
   cases rr;obtain⟨t,rfl⟩:=r;obtain⟨t',rfl⟩:=r';exact call_range_2 (u7I I1 q1 q2 q3 q4 q)
def tFor (wi:TI) (g:TG) (tb:TS):TS:=λD σ H=>wi σ H λJ H1=>∃W:Nat->Nat->St->Hp->Prop,(∃m,W 0 m σ H1)/\∀i m σ H,W i m σ H ->
 (J.stop i H/\D.nx σ H)\/(J.go i H/\∃N:St->Hp->Prop,(∀σ' H',N σ' H'->∃m',m'<m/\W (i+1) m' σ' H')/\∀x H',J.yld i H x H'->g x σ H' λσ2 H2=>tb { D with nx:=N,ct:=N,bk:=D.nx } σ2 H2)
noncomputable def pinsAt (fp:List Addr) (h:Heap):LO:=fp.filterMap λb=>(h.get? b).map λo=>(b,o)
def u2g{fp:List Addr}{o:Obj} (hb:b∈fp) (e:h.get? b=some o):(b,o)∈pinsAt fp h:=List.mem_filterMap.mpr ⟨b,hb,by rw[e];rfl⟩
def u9U{fp:List Addr}{p:Addr×Obj} (hp:p∈pinsAt fp h):p.1∈fp/\h.get? p.1=some p.2:=by
 obtain⟨b,hb,e⟩:=List.mem_filterMap.mp hp;cases q:h.get? b with
 | none=>rw[q] at e;cases e
 | some o =>
  rw[q] at e;have e':(b,o)=p:=Option.some.inj e;subst e';exact⟨hb,q⟩
def Inv.pinned{fp:List Addr} (I:Inv X pins σ H s) (hf:∀b∈fp,FpOk X pins H b) (ho:∀b∈fp,∃o,s.heap.get? b=some o/\∀v,o.data≠.cell v):Inv X (pins++pinsAt fp s.heap) σ H s :=
 I.pins_of λp hp=>(v6.mp hp).elim (λz=>I.pin p (x0 _ z)) λz=>by
  obtain⟨hb,e⟩:=u9U z;obtain⟨f0,f1,f2,_⟩:=hf p.1 hb;obtain⟨o,e',d⟩:=ho p.1 hb;rw[e] at e';cases e';exact⟨e,f0,f1,f2,d⟩
def Inv.unpinned{pl:LO} (I:Inv X (pins++pl) σ H s):Inv X pins σ H s:=I.pins_of λp hp=>I.pin p (x0 _ (r9 _ hp))
def u4I{iter:Expr}{wi:TI}{g:TG} (hp:PassesOwn (model X.prog X.w) X.A X.env X.xe) (hc:X.calm=true) (hi:PI X tg iter wi) (hg:PG X tg g) (hb:PSs X body tb)
  (hs:∀x,foldedSetIterable iter X.env x=pure x:=by intro _;rfl):PS X (.For tg iter body [] pos) (tFor wi g tb):=by
 intro pins s σ H D I h;refine wpAny_For (thn (hi pins s σ H _ I h) λv s1 h1=>thn h1 λitv s2 h2=>?_) hs
 obtain⟨it,fp,tn,J,H2,e,I2,T,st2,f2,W,⟨m0,w0⟩,turn⟩:=h2;subst e;have stat:∀{H':Hp},(∀b∈fp,H' b=none)->∀b∈fp,FpOk X pins H' b:=λhn b hb=>⟨hn b hb,(f2 b hb).2⟩
 refine codeAny_forLoop_any (λn s'=>∃i σ' H',Inv X pins σ' H' s'/\tn i s'.heap/\(∀b∈fp,H' b=none)/\W i n σ' H') ?_ m0 ⟨0,σ,H2,I2,st2,λb hb=>(f2 b hb).1,w0⟩
 rintro n s3 ⟨i,σ3,H3,I3,st3,fr3,w3⟩;rcases turn i n σ3 H3 w3 with⟨stop,qn⟩|⟨go,N,hN,step⟩
 ·refine wpAny_passesOwn hp (thn (T.done X rfl rfl rfl hc i pins s3 σ3 H3 X.xe I3 (stat fr3) st3 stop) fun r s4 z922=>?_)
  obtain⟨hr,I4⟩:=z922;subst hr;exact wpAny_execs_nil ⟨σ3,H3,I4,qn⟩
 ·refine wpAny_passesOwn hp (thn (T.item X rfl rfl rfl hc i pins s3 σ3 H3 X.xe I3 (stat fr3) st3 go) fun r s4 z923=>?_)
  obtain⟨u,hr,h4⟩:=z923;subst hr;refine wpAny_passesOwn hp (thn h4 λ_ s5 z924=>?_)
  obtain⟨x,H5,I5,r5,y5,st5,fr5⟩:=z924;have I5':=I5.pinned (stat fr5) (T.obj _ _ st5);refine wpAny_passesOwn hp (thn (hg _ s5 σ3 H5 x u _ I5' r5 (step x H5 y5)) λ_ s6 z925=>?_)
  obtain⟨σ6,H6,I6,q6⟩:=z925;refine wpAny_passesOwn hp (thn (hb _ s6 σ6 H6 _ I6 q6) λf s7 q7=>?_)
  have again:∀{σ7:St}{H7:Hp},Inv X (pins++pinsAt fp s5.heap) σ7 H7 s7->N σ7 H7->∃m,m<n/\∃i σ' H',Inv X pins σ' H' s7/\tn i s7.heap/\(∀b∈fp,H' b=none)/\W i m σ' H':=λ{σ7 H7} I7 n7=>by
   obtain⟨m',hm,w7⟩:=hN σ7 H7 n7;refine⟨m',hm,i+1,σ7,H7,I7.unpinned,T.keep _ _ _ st5 λb hb o e=>(I7.pin (b,o) (x0 _ (x0 _ (u2g hb e)))).1,λb hb=>?_,w7⟩
   obtain⟨o,e,d⟩:=T.obj _ _ st5 b hb;exact(I7.pin (b,o) (x0 _ (x0 _ (u2g hb e)))).2.1
  cases f with
  | next=>obtain⟨σ7,H7,I7,n7⟩:=q7;exact again I7 n7
  | cont=>obtain⟨σ7,H7,I7,n7⟩:=q7;exact again I7 n7
  | brk=>obtain⟨σ7,H7,I7,q7⟩:=q7;exact⟨σ7,H7,I7.unpinned,q7⟩
  | ret v=>obtain⟨x7,σ7,H7,I7,r7,q7⟩:=q7;exact⟨x7,σ7,H7,I7.unpinned,r7,q7⟩
abbrev R2:=V->V->Hp->VK->Prop
def OpR (X:Cx) (f:Value->Value->Sem Value) (r:R2):Prop :=
 ∀(pins:LO) (s:Shared) (σ:St) (H:Hp) (x y:V) (v u:Value) (Q:VK),Inv X pins σ H s->RelV x v->RelV y u->r x y H Q ->
  wpAny (model X.prog X.w) X.A (f v u) (EP X pins σ Q) X.xe s
def UnR (X:Cx) (f:Value->Sem Value) (r:V->Hp->VK->Prop):Prop :=
 ∀(pins:LO) (s:Shared) (σ:St) (H:Hp) (x:V) (v:Value) (Q:VK),Inv X pins σ H s->RelV x v->r x H Q ->
  wpAny (model X.prog X.w) X.A (f v) (EP X pins σ Q) X.xe s
def CallR (X:Cx) (f:Value) (r:List V->Hp->VK->Prop):Prop :=
 ∀(pins:LO) (s:Shared) (σ:St) (H:Hp) (xs:List V) (us:List Value) (Q:VK),Inv X pins σ H s->Vals xs us->r xs H Q ->
  wpAny (model X.prog X.w) X.A (call f us) (EP X pins σ Q) X.xe s
def tOp (r:R2) (ta tb:TE):TE:=λσ H Q=>ta σ H λx H1=>tb σ H1 λy H2=>r x y H2 Q
def tUn (r:V->Hp->VK->Prop) (ta:TE):TE:=λσ H Q=>ta σ H λx H1=>r x H1 Q
def rI (C:Int->Int->Prop) (g:Int->Int->V):R2:=λx y H Q=>∃i j,x=.int i/\y=.int j/\C i j/\Q (g i j) H
def rI0 (g:Int->Int->V):R2:=λx y H Q=>∃i j,x=.int i/\y=.int j/\Q (g i j) H
def rU (g:Int->V):V->Hp->VK->Prop:=λx H Q=>∃i,x=.int i/\Q (g i) H
section
variable {a b:Expr}{tb tc:TE}
def binT(ha:PE X a ta) (hb:PE X b tb) {R:V->V->Hp->Prop} (I:Inv X pins σ H s)
  (h:ta σ H λx H1=>tb σ H1 λy H2=>R x y H2) {f:Value->Value->Sem Value}
  (hf:∀v u s2 x y H2,Inv X pins σ H2 s2->RelV x v->RelV y u->R x y H2->wpAny (model X.prog X.w) X.A (f v u) Q X.xe s2) :
  wpAny (model X.prog X.w) X.A (eval a X.env) (λv s₁=>wpAny (model X.prog X.w) X.A (eval b X.env) (λu s₂=>wpAny (model X.prog X.w) X.A (f v u) Q X.xe s₂) X.xe s₁) X.xe s:=by
 refine thn (ha pins s σ H _ I h) λv s1 z926=>?_
 obtain⟨x,H1,I1,r1,q1⟩:=z926;refine thn (hb pins s1 σ H1 _ I1 q1) λu s2 z927=>?_
 obtain⟨y,H2,I2,r2,q2⟩:=z927;exact hf v u s2 x y H2 I2 r1 r2 q2
def pe_op {op:Operator}{r:R2} (ho:OpR X (binaryOp op) r) (ha:PE X a ta) (hb:PE X b tb):PE X (.BinOp a op b pos) (tOp r ta tb):=by
 intro pins s σ H Q I h;exact wpAny_BinOp (binT ha hb I h λv u s2 x y H2 I2 rx ry q=>ho pins s2 σ H2 x y v u Q I2 rx ry q)
def pe_un {op:UnaryOp}{r:V->Hp->VK->Prop} (ho:UnR X (unaryOp op) r) (ha:PE X a ta):PE X (.UnaryOp op a pos) (tUn r ta):=by
 intro pins s σ H Q I h;exact UnaryOp_ (thn (ha pins s σ H _ I h) λv s1 z928=>by obtain⟨x,H1,I1,r1,q1⟩:=z928;exact ho pins s1 σ H1 x v Q I1 r1 q1)
def opI {f:Value->Value->Sem Value}{C:Int->Int->Prop}{g:Int->Int->Int}
  (rule:∀(i j:Int) (t u:Tok) (s:Shared) (Q:VP) (E:VP),C i j->Q (.int (g i j) s.toks) { s with toks:=s.toks+1 }->wpAny (model X.prog X.w) X.A (f (.int i t) (.int j u)) Q E s) :
  OpR X f (rI C λi j=>.int (g i j)):=by
 intro pins s σ H x y v u Q I rx ry h;obtain⟨i,j,rfl,rfl,hc,q⟩:=h;obtain⟨t,rfl⟩:=rx;obtain⟨t',rfl⟩:=ry;exact rule i j t t' s _ _ hc ⟨.int (g i j),H,I.tok _,⟨_,rfl⟩,q⟩
def opI0 {f:Value->Value->Sem Value}{g:Int->Int->Int}
  (rule:∀(i j:Int) (t u:Tok) (s:Shared) (Q:VP) (E:VP),Q (.int (g i j) s.toks) { s with toks:=s.toks+1 }->wpAny (model X.prog X.w) X.A (f (.int i t) (.int j u)) Q E s) :
  OpR X f (rI0 λi j=>.int (g i j)):=by
 intro pins s σ H x y v u Q I rx ry h;obtain⟨i,j,rfl,rfl,q⟩:=h;obtain⟨t,rfl⟩:=rx;obtain⟨t',rfl⟩:=ry;exact rule i j t t' s _ _ ⟨.int (g i j),H,I.tok _,⟨_,rfl⟩,q⟩
def opB0 {f:Value->Value->Sem Value}{g:Int->Int->Bool}
  (rule:∀(i j:Int) (t u:Tok) (s:Shared) (Q:VP) (E:VP),Q (.bool (g i j)) s->wpAny (model X.prog X.w) X.A (f (.int i t) (.int j u)) Q E s) :
  OpR X f (rI0 λi j=>.bl (g i j)):=by
 intro pins s σ H x y v u Q I rx ry h;obtain⟨i,j,rfl,rfl,q⟩:=h;obtain⟨t,rfl⟩:=rx;obtain⟨t',rfl⟩:=ry;exact rule i j t t' s _ _ ⟨.bl (g i j),H,I,rfl,q⟩
def CPow (i j:Int):Prop:=0<=j/\j<=1000000/\i.natAbs<2^64
def CMul (i j:Int):Prop:=(-(2^64)<i/\i<2^64)\/(-(2^64)<j/\j<2^64)
def CMul.ok {i j:Int} (h:CMul i j):IntMulOk i j:=by
 rcases h with⟨h1,h2⟩|⟨h1,h2⟩
 ·exact .of_left (intBits_le_64 h1 h2)
 ·exact .of_right (intBits_le_64 h1 h2)
def op_add:OpR X (binaryOp .Add) (rI0 λi j=>.int (i+j)):=opI0 λ_ _ _ _ _ _ _ q=>add_int q
def op_sub:OpR X (binaryOp .Sub) (rI0 λi j=>.int (i - j)):=opI0 λ_ _ _ _ _ _ _ q=>sub_int q
def op_mul:OpR X (binaryOp .Mult) (rI CMul λi j=>.int (i*j)):=opI λ_ _ _ _ _ _ _ hc q=>mul_int q hc.ok
def op_mod:OpR X (binaryOp .Mod) (rI (λ_ j=>0<j) λi j=>.int (i%j)):=opI λi j _ _ _ _ _ hc q=>by
 have h1:(0:Int)<j:=hc;exact mod_int' (by omega) (by rw[Int.fmod_eq_emod_of_nonneg i (by omega)];exact q)
def op_pow:OpR X (binaryOp .Pow) (rI CPow λi j=>.int (i^j.toNat)):=opI λ_ _ _ _ _ _ _ hc q=>pow_int_small hc.1 hc.2.1 hc.2.2 q
def unI {f:Value->Sem Value}{g:Int->Int}
  (rule:∀(i:Int) (t:Tok) (s:Shared) (Q:VP) (E:VP),Q (.int (g i) s.toks) { s with toks:=s.toks+1 }->wpAny (model X.prog X.w) X.A (f (.int i t)) Q E s) :
  UnR X f (rU λi=>.int (g i)):=by
 intro pins s σ H x v Q I rx h;obtain⟨i,rfl,q⟩:=h;obtain⟨t,rfl⟩:=rx;exact rule i t s _ _ ⟨.int (g i),H,I.tok _,⟨_,rfl⟩,q⟩
def un_neg:UnR X (unaryOp .USub) (rU λi=>.int (-i)):=unI λ_ _ _ _ _ q=>neg_int q
def v0r{Q:VK}{k k':Bool} (I:Inv X pins σ H s) (q:Q (.bl k) H) (e:k=k'):EP X pins σ Q (.bool k') s:=by
 subst e;exact⟨.bl k,H,I,rfl,q⟩
def op_lt:OpR X (compareOp .Lt) (rI0 λi j=>.bl (decide (i<j))):=opB0 λ_ _ _ _ _ _ _ q=>lt_int q
def op_le:OpR X (compareOp .LtE) (rI0 λi j=>.bl (decide (i<=j))):=opB0 λ_ _ _ _ _ _ _ q=>le_int q
def op_gt:OpR X (compareOp .Gt) (rI0 λi j=>.bl (decide (j<i))):=opB0 λ_ _ _ _ _ _ _ q=>gt_int q
def op_ge:OpR X (compareOp .GtE) (rI0 λi j=>.bl (decide (j<=i))):=opB0 λ_ _ _ _ _ _ _ q=>ge_int q
def u9S:OpR X (compareOp .In) (λx y H Q=>∃i j,x=.str i/\y=.str j/\Q (.bl (!(Builtin.Str.occurrences j i 0 j.length 1).isEmpty)) H):=by
 intro pins s σ H x y v u Q I rx ry h;obtain⟨i,j,rfl,rfl,q⟩:=h;obtain⟨t,rfl⟩:=rx;obtain⟨t',rfl⟩:=ry;exact in_str (v0r I q rfl)
def op_isN:OpR X (compareOp .Is) (λx y H Q=>y=.non/\Q (.bl (decide (x=.non))) H):=by
 intro pins s σ H x y v u Q I rx ry h;obtain⟨rfl,q⟩:=h;cases ry;refine is_none_gen (v0r I q ?_);cases x<;>first
  | (cases rx;rfl)
  | (obtain⟨t,rfl⟩:=rx;rfl)
def op_notN:OpR X (compareOp .IsNot) (λx y H Q=>y=.non/\Q (.bl (!decide (x=.non))) H):=by
 intro pins s σ H x y v u Q I rx ry h;obtain⟨rfl,q⟩:=h;cases ry;refine isnot_none_gen (v0r I q ?_);cases x<;>first
  | (cases rx;rfl)
  | (obtain⟨t,rfl⟩:=rx;rfl)
def nomark (b:Expr) {op:CmpOp} (h:op≠.In:=by decide) (h2:op≠.NotIn:=by decide):behindInMarks op b=false:=by
 have e1:(op==CmpOp.In)=false:=by cases op<;>first|rfl|exact absurd rfl h
 have e2:(op==CmpOp.NotIn)=false:=by cases op<;>first|rfl|exact absurd rfl h2
 cases b<;>simp[behindInMarks,e1,e2]
def pe_cmpR {op:CmpOp}{r:R2} (ho:OpR X (compareOp op) r) (ha:PE X a ta) (hb:PE X b tb) (hm:behindInMarks op b=false):PE X (.Compare a [op] [b] pos) (tOp r ta tb):=by
 intro pins s σ H Q I h;exact wpAny_Compare1 (binT ha hb I h λv u s2 x y H2 I2 rx ry q=>ho pins s2 σ H2 x y v u Q I2 rx ry q) hm
def tTest (t:TE):TT:=λσ H Q=>t σ H λx H'=>∃k,x=.bl k/\Q k H'
def u9z {op:CmpOp}{r:R2} (ho:OpR X (compareOp op) r) (ha:PE X a ta) (hb:PE X b tb) (hm:behindInMarks op b=false):PT X (.Compare a [op] [b] pos) (tTest (tOp r ta tb)):=by
 intro pins s σ H Q I h;refine wpAny_isTrue_Compare1 (thn (ha pins s σ H _ I h) λv s1 ⟨x,H1,I1,r1,q1⟩=>thn (hb pins s1 σ H1 _ I1 q1) λu s2 ⟨y,H2,I2,r2,q2⟩ =>
  thn (ho pins s2 σ H2 x y v u _ I2 r1 r2 q2) λc s3 ⟨z,H3,I3,r3,k,e,q3⟩=>?_) hm
 subst e;cases r3;exact wpAny_truthy_bool ⟨H3,I3,q3⟩
def tChain (r r':R2) (ta tb tc:TE):TE:=λσ H Q=>ta σ H λx H1=>tb σ H1 λy H2=>r x y H2 λz H3=>∃k,z=.bl k /\
 (if k=true then tc σ H3 λw' H4=>r' y w' H4 Q else Q (.bl false) H3)
def v1M {op op':CmpOp}{r r':R2} (ho:OpR X (compareOp op) r) (ho':OpR X (compareOp op') r') (ha:PE X a ta) (hb:PE X b tb) (hc:PE X c tc)
  (hm:lastMarks [op,op'] [b,c]=false:=by with_unfolding_all rfl):PE X (.Compare a [op,op'] [b,c] pos) (tChain r r' ta tb tc):=by
 intro pins s σ H Q I h;refine Compare_chain (thn (ha pins s σ H _ I h) λv s1 ⟨x,H1,I1,r1,q1⟩=>chain_link (thn (hb pins s1 σ H1 _ I1 q1) λu s2 ⟨y,H2,I2,r2,q2⟩ =>
  thn (ho pins s2 σ H2 x y v u _ I2 r1 r2 q2) λd s3 ⟨z,H3,I3,r3,k,e,q3⟩=>?_)) hm
 subst e;cases r3;refine wpAny_truthy_bool ?_;cases k with
 | false=>exact ite_ff ⟨.bl false,H3,I3,rfl,q3⟩
 | true=>exact ite_tt (chain_last (thn (hc pins s3 σ H3 _ I3 q3) λw' s4 z935=>by obtain⟨z',H4,I4,r4,q4⟩:=z935;exact ho' pins s4 σ H4 y z' u w' Q I4 r2 r4 q4))
def line63:(sizeLine:Nat)<2^63:=by rw[sizeLine_eq];decide
def u8z:OpR X (binaryOp .Add) (λx y H Q=>∃i j,x=.str i/\y=.str j/\i.length+j.length<=sizeLine/\Q (.str (i++j)) H):=by
 intro pins s σ H x y v u Q I rx ry h;obtain⟨i,j,rfl,rfl,hz,q⟩:=h;obtain⟨t,rfl⟩:=rx;obtain⟨t',rfl⟩:=ry;exact add_str (λt' tk=>⟨.str (i++j),H,I.tok _,⟨_,rfl⟩,q⟩) hz
def vals1{x:V} (r:Vals [x] us):∃u,us=[u]/\RelV x u:=by
 cases r with
 | cons r1 r2=>cases r2;exact⟨_,rfl,r1⟩
def vals2{x:V} (r:Vals [x,y] us):∃u w',us=[u,w']/\RelV x u/\RelV y w':=by
 cases r with
 | cons r1 r2 =>
  cases r2 with
  | cons r3 r4=>cases r4;exact⟨_,_,rfl,r1,r3⟩
def v0U (hc:X.calm=true):CallR X (.builtin "max") (λxs H Q=>∃i j,xs=[.int i,.int j]/\Q (.int (if j > i then j else i)) H):=by
 intro pins s σ H xs us Q I r h;obtain⟨i,j,rfl,q⟩:=h;obtain⟨u,w',rfl,⟨t,rfl⟩,⟨t',rfl⟩⟩:=vals2 r;refine max_two_ints (I.ok.hd hc) λh' tk k=>⟨_,H,I.kept k,?_,q⟩
 by_cases hj:j > i
 ·rw[if_pos hj,if_pos hj];exact⟨_,rfl⟩
 ·rw[if_neg hj,if_neg hj];exact⟨_,rfl⟩
def v0T (hc:X.calm=true):CallR X (.builtin "min") (λxs H Q=>∃i j,xs=[.int i,.int j]/\Q (.int (if j<i then j else i)) H):=by
 intro pins s σ H xs us Q I r h;obtain⟨i,j,rfl,q⟩:=h;obtain⟨u,w',rfl,⟨t,rfl⟩,⟨t',rfl⟩⟩:=vals2 r;refine min_two_ints (I.ok.hd hc) λh' tk k=>⟨_,H,I.kept k,?_,q⟩
 by_cases hj:j<i
 ·rw[if_pos hj,if_pos hj];exact⟨_,rfl⟩
 ·rw[if_neg hj,if_neg hj];exact⟨_,rfl⟩
def u6s:CallR X (.type "str") (λxs H Q=>∃i,xs=[.int i]/\i.natAbs.log2<1920/\Q (.str (toString i)) H):=by
 intro pins s σ H xs us Q I r h;obtain⟨i,rfl,hz,q⟩:=h;obtain⟨u,rfl,t,rfl⟩:=vals1 r;exact PySem.P.str_of_int hz ⟨.str _,H,I.tok _,⟨_,rfl⟩,q⟩
def LenV (K:W.Frag) (x:V) (H:Hp) (n:Nat):Prop :=
 match x with
 | .str y=>y.length<=sizeLine/\n=y.length
 | .byt y=>y.size<=sizeLine/\n=y.size
 | .ref p=>(∃xs,SqL K H p xs/\n=xs.length)\/∃xs,SqT K H p xs/\n=xs.length
 | _=>False
def u5x:CallR X (.builtin "len") (λxs H Q=>∃x n,xs=[x]/\LenV X.K x H n/\Q (.int n) H):=by
 intro pins s σ H xs us Q I r h;obtain⟨x,n,rfl,e,q⟩:=h;obtain⟨u,rfl,rx⟩:=vals1 r;have hl:=line63;have hs:sizeLine=16777216:=sizeLine_eq;cases x with
 | str y =>
  obtain⟨t,rfl⟩:=rx;obtain⟨hy,e'⟩:y.length<=sizeLine/\n=y.length:=e;subst e';exact len_str (by omega) ⟨.int _,H,I.tok _,⟨_,rfl⟩,q⟩
 | byt y =>
  obtain⟨t,rfl⟩:=rx;obtain⟨hy,e'⟩:y.size<=sizeLine/\n=y.size:=e;subst e';exact W.len_bytes (by omega) ⟨.int _,H,I.tok _,⟨_,rfl⟩,q⟩
 | ref p =>
  cases rx;have e':(∃xs,SqL X.K H p xs/\n=xs.length)\/∃xs,SqT X.K H p xs/\n=xs.length:=e;rcases e' with⟨xs,hx,e'⟩|⟨xs,hx,e'⟩
  ·subst e'
   obtain⟨its,r',pl,hz⟩:=I.list hx;have hlen:=r'.length;exact Calls.call_len_list pl.isList (by simp only[y7];omega) ⟨.int xs.length,H,I.tok _,⟨_,by simp only[y7];rw[hlen]⟩,q⟩
  ·subst e'
   obtain⟨its,r',pl,hz⟩:=I.tuple hx;have hlen:=r'.length;exact len_tuple pl (by simp only[y7];omega) ⟨.int xs.length,H,I.tok _,⟨_,by simp only[y7];rw[hlen]⟩,q⟩
 | _=>exact(show False from e).elim
end
structure ObjM (h:Heap) (x dx C:Addr) (mA:MG):Prop where
 obj:h.get? x=some (W.instObj C dx)
 ns:h.Ns1 dx mA
 ne:dx≠x
set_option tactic.hygienic true in
def u5Z(n:h.Ns1 dx mA):∃od,h.get? dx=some od/\∀name,W.lookIn name od=some (mA name):=by
 obtain⟨o,es,ep,ho,hd,hk,_,hm⟩:=n;refine⟨o,ho,λname=>?_⟩
 have e:=hm name;unfold nsFind findBy at e;rw[<- Array.find?_toList] at e;unfold W.lookIn;rw[hd];dsimp only;split
 ·rename_i y q
  rw[q] at e;exact congrArg some e
 ·rename_i q
  rw[q] at e;have a:es.toList.any (·.refKey)=false:=by
   rw[List.any_eq_false];intro y hy;obtain⟨z,t,hkey⟩:=hk y (u0.mp hy);simp[DictEntry.refKey,hkey]
  have a':¬ es.toList.any (·.refKey)=true:=by rw[a];exact z0I
  rw[if_neg a'];exact congrArg some e
def ObjM.look{x:Addr} (I:ObjM h x dx C mA):∃od,W.InstAt h x (W.instObj C dx) C (some od)/\∀name,W.lookIn name od=some (mA name) :=
 let ⟨od,ho,hl⟩:=u5Z I.ns
 ⟨od,⟨I.obj,rfl,rfl,ho⟩,hl⟩
section
variable {x:Addr}{v:Value}
def get_map{expr:Bool} (X:K.In s.heap) (I:ObjM s.heap x dx C mA) (hg:W.plainGet K C name=true) (hh:W.hasDictIn K C=true)
  (ha:W.findIn K (.ref C) name=some none) (hv:mA name=some v) (hv':W.handedIn v=true) (h:Q v { s with toks:=s.toks+1 }) :
  wpAny (model prog w) A (getAttr (.ref x) name expr) Q E s:=by
 obtain⟨od,J,hl⟩:=I.look;exact W.get_value X J (W.plainGet_of hg).1 (W.findObj_own hh ha rfl (by rw[hl,hv])) hv' h
def v2i {pl:Sem Bool}{Q:Value×List Value->Shared->Prop} (X:K.In s.heap) (I:ObjM s.heap x dx C mA) (hg:W.plainGet K C name=true)
  (hf:W.findIn K (.ref C) name=some (some (.ref f))) (ht:W.isFn K (.ref f)=true) (hv:mA name=none) (h:Q (.ref f,[.ref x]) s) :
  wpAny (model prog w) A (getMethod (.ref x) name pl) Q E s:=by
 obtain⟨od,J,hl⟩:=I.look;exact W.method_fn X J (W.plainGet_of hg).1 (W.plainGet_of hg).2 hf (beq_iff_eq.mp ht) (by show(W.lookIn name od).map (·.isSome)=some false;rw[hl,hv];rfl) h
def set_map{Q:Unit->Shared->Prop} (X:K.In s.heap) (I:ObjM s.heap x dx C mA)
  (hs:W.findIn K (.ref C) "__setattr__"=some (some (.builtin "object.__setattr__"))) (hp:W.plainOver K C=true) (ht:W.takerIn K C name=some none) (hh:W.hasDictIn K C=true)
  (hw:PySem.Within mA ns) (hsz:ns.length<=sizeLine)
  (h:∀h',ObjM h' x dx C (λy=>if y=name then some v else mA y)->Heap.SameBut dx s.heap h'->Q () { s with heap:=h',toks:=s.toks+2 }) :
  wpAny (model prog w) A (setAttr (.ref x) name v) Q E s:=by
 obtain⟨od,J,hl⟩:=I.look;refine W.set_plain X J hs (W.osa_open (s:={ s with toks:=s.toks+1 }) (r:=none) X J hp ht λb=>?_)
 obtain⟨cd,hc,hd'⟩:=W.any_some hh;have hx:s.heap.get? x=some ⟨.ref C,some dx,.plain,#[]⟩:=I.obj;refine wpAny_bind (wpAny_pure (wpAny_bind (wpAny_bind (wpAny_loadPart hx (wpAny_bind (W.Looks.here (s:={ s with toks:=s.toks+1 }) (W.looks_clsIn X hc) ?_))))))
 rw[hd'];refine wpAny_pure (a:=some dx) (wpAny_bind (wpAny_pure (wpAny_bind ?_)));refine wpAny_nsSet1 (s:={ s with toks:=s.toks+1 }) I.ns λh' hn2 hs2=>?_
 obtain⟨oD,esD,epD,hoD,hdD,hcD⟩:=hn2.count (PySem.Within.cons name v hw);refine wpAny_bind (wpAny_lookBehind hoD (by rw[hdD];exact pastItsLine_dict (y9 hcD (by rw[z0D];omega))) ?_)
 exact wpAny_pure (h _ ⟨(hs2.2 _ (Ne.symm I.ne)).trans I.obj,hn2,I.ne⟩ hs2)
def u7P {R:Result->Shared->Prop}{vs:List Value}{kw:List (Str×Value)} (X:K.In s.heap) (hm:W.makesIn K C=true)
  (hi:W.findIn K (.ref C) "__init__"=some (some (.ref f))) (hf:W.typeIn K (.ref f)=some (.type "function"))
  (h:codeAny (model prog w) (A.under (.builtin "type.__call__" ⟨.ref C::vs,kw⟩)) (.call (.ref f) ⟨.ref (s.heap.objs.size+1)::vs,kw⟩) (W.InitBack (s.heap.objs.size+1) R)
   { s with heap:=(s.heap.push W.emptyDict).push (W.instObj C s.heap.objs.size) }) :
  codeAny (model prog w) A (.call (.ref C) ⟨vs,kw⟩) R s:=by
 obtain⟨hh,g,d,t,os⟩:=s;exact W.make_core (W.makes_of X hm) (W.looks_findIn X hi) (λself=>W.bind_fn X self hf) (.inl rfl) h
end
noncomputable def putF (f:Str) (v:V):List (Str×V)->List (Str×V)
 | []=>[(f,v)]
 | (g,x)::r=>if g=f then (g,v)::r else (g,x)::putF f v r
theorem u3U (f g:Str) (v:V):∀fs:List (Str×V),(putF f v fs).lookup g=if g=f then some v else fs.lookup g
 | []=>by
  show List.lookup g [(f,v)]=_;by_cases h:g=f
  ·have hb:(g==f)=true:=beq_iff_eq.mpr h
   simp only[List.lookup,hb,if_pos h]
  ·have hb:(g==f)=false:=beq_eq_false_iff_ne.mpr h
   simp only[List.lookup,hb,if_neg h]
 | (k,x)::r=>by
  have ih:=u3U f g v r;rw[show putF f v ((k,x)::r)=(if k=f then (k,v)::r else (k,x)::putF f v r) from rfl]
  by_cases hk:k=f
  ·rw [if_pos hk]
   by_cases h:g=k
   ·have hb:(g==k)=true:=beq_iff_eq.mpr h
    simp only[List.lookup,hb,if_pos (h.trans hk)]
   ·have hb:(g==k)=false:=beq_eq_false_iff_ne.mpr h
    simp only[List.lookup,hb,if_neg (λe:g=f=>h (e.trans hk.symm))]
  ·rw [if_neg hk]
   by_cases h:g=k
   ·have hb:(g==k)=true:=beq_iff_eq.mpr h
    simp only[List.lookup,hb,if_neg (λe:g=f=>hk (h.symm.trans e))]
   ·have hb:(g==k)=false:=beq_eq_false_iff_ne.mpr h
    simp only[List.lookup,hb];exact ih
theorem u3Y (f:Str) (v:V):∀fs:List (Str×V),f∈(putF f v fs).map (·.1)/\∀g,g∈fs.map (·.1)->g∈(putF f v fs).map (·.1)
 | []=>⟨by simp[putF],λg h=>by simp at h⟩
 | (k,x)::r=>by
  obtain⟨i1,i2⟩:=u3Y f v r;rw[show putF f v ((k,x)::r)=(if k=f then (k,v)::r else (k,x)::putF f v r) from rfl]
  by_cases hk:k=f
  ·rw [if_pos hk]
   subst hk;exact⟨by simp,λg h=>by simpa using h⟩
  ·rw [if_neg hk]
   refine⟨?_,λg h=>?_⟩
   ·rw [z0C]
    exact z5 _ i1
   ·rw [z0C] at h |-
    rcases z7.mp h with e|e
    ·exact z7.mpr (.inl e)
    ·exact z5 _ (i2 g e)
theorem u3X (f:Str) (v:V):∀fs:List (Str×V),(putF f v fs).length<=fs.length+1
 | []=>by simp[putF]
 | (k,x)::r=>by
  have ih:=u3X f v r;rw[show putF f v ((k,x)::r)=(if k=f then (k,v)::r else (k,x)::putF f v r) from rfl]
  by_cases hk:k=f
  ·rw[if_pos hk,z0D,z0D];omega
  ·rw[if_neg hk,z0D,z0D];omega
def RelO.some_of{o:Option Value} (r:RelO (some v) o):∃u,o=some u/\RelV v u:=by
 cases o with
 | none=>exact(show False from r).elim
 | some u=>exact⟨u,rfl,r⟩
def RelO.none_of {o:Option Value} (r:RelO none o):o=none:=by
 cases o with
 | none=>rfl
 | some u=>exact(show False from r).elim
def u6f(r:RelV v u):W.handedIn u=true:=by
 cases v with
 | non=>cases (show u=Value.none from r);rfl
 | bl b=>cases (show u=Value.bool b from r);rfl
 | int i=>obtain⟨t,e⟩:=(show ∃t,u=Value.int i t from r);cases e;rfl
 | str x=>obtain⟨t,e⟩:=(show ∃t,u=Value.str x t from r);cases e;rfl
 | byt b=>obtain⟨t,e⟩:=(show ∃t,u=Value.bytes b t from r);cases e;rfl
 | flt b=>obtain⟨t,e⟩:=(show ∃t,u=Value.float b t from r);cases e;rfl
 | ref a=>cases (show u=Value.ref a from r);rfl
 | ty n=>cases (show u=Value.type n from r);rfl
section
variable {fs fs':List (Str×V)}
def u4b (hok:HOk P w H h) (e:H a=some (.ins C dx fs)):∃mA,ObjM h a dx C mA/\(∀f,RelO (fs.lookup f) (mA f))/\PySem.Within mA (fs.map (·.1))/\fs.length<=1000/\H dx=some (.own a):=by
 obtain⟨d,z,ne,ob,mA,n,r,q⟩:=(show ObjOk P w H h a (.ins C dx fs) from hok a _ e)
 exact⟨mA,⟨ob,n,ne⟩,r,q,z,d⟩
end
structure Cls (K:W.Frag) (C:Addr):Prop where
 pg:W.plainGet K C Str.empty=true
 hd:W.hasDictIn K C=true
 po:W.plainOver K C=true
 sa:W.findIn K (.ref C) "__setattr__"=some (some (.builtin "object.__setattr__"))
def Cls.get(c:Cls K C) (f:Str):W.plainGet K C f=true:=c.pg
def NoAttr (K:W.Frag) (C:Addr) (f:Str):Prop:=W.findIn K (.ref C) f=some none
def NoAttr.taker{f:Str} (n:NoAttr K C f):W.takerIn K C f=some none:=by
 unfold W.takerIn;rw[show W.findIn K (.ref C) f=some none from n]
 rfl
structure Meth (K:W.Frag) (C:Addr) (m:Str) (f:Addr):Prop where
 at_:W.findIn K (.ref C) m=some (some (.ref f))
 fn:W.isFn K (.ref f)=true
 kp:W.keepIn K (.ref f)=true
section
variable {fs:List (Str×V)}{f:Str}
def u8H{b:Bool} (I:Inv X pins σ H s) (e:H a=some (.ins C dx fs)) (c:Cls X.K C) (n:NoAttr X.K C f) (l:fs.lookup f=some v)
  (h:∀u s',Inv X pins σ H s'->RelV v u->Q u s'):wpAny (model X.prog X.w) A (getAttr (.ref a) f b) Q E s:=by
 obtain⟨mA,O,r,_,_,_⟩:=u4b I.hok e;obtain⟨u,hu,ru⟩:=RelO.some_of (v:=v) (o:=mA f) (by rw[<- l];exact r f)
 exact get_map I.kIn O (c.get f) c.hd n hu (u6f ru) (h u _ (I.tok _) ru)
def u3h{pl:Sem Bool}{Q:Value×List Value->Shared->Prop} (I:Inv X pins σ H s) (e:H a=some (.ins C dx fs)) (c:Cls X.K C) (k:Meth X.K C m g) (l:fs.lookup m=none)
  (h:Q (.ref g,[.ref a]) s):wpAny (model X.prog X.w) A (getMethod (.ref a) m pl) Q E s:=by
 obtain⟨mA,O,r,_,_,_⟩:=u4b I.hok e;have hn:mA m=none:=RelO.none_of (by rw[<- l];exact r m)
 exact v2i I.kIn O (c.get m) k.at_ k.fn hn h
def u8t{Q:Unit->Shared->Prop} (I:Inv X pins σ H s) (e:H a=some (.ins C dx fs)) (c:Cls X.K C) (n:NoAttr X.K C f) (hl:fs.length<1000) (ry:RelV y u)
  (h:∀s',Inv X pins σ (upd H a (.ins C dx (putF f y fs))) s'->Q () s'):wpAny (model X.prog X.w) A (setAttr (.ref a) f u) Q E s:=by
 obtain⟨mA,O,r,wi,_,ho⟩:=u4b I.hok e;have hz:(fs.map (·.1)).length<=sizeLine:=by rw[x9,sizeLine_eq];omega
 refine set_map I.kIn O c.sa c.po n.taker c.hd wi hz λh' O' sb=>h _ ?_
 have hd:∃o,h'.get? dx=some o:=let ⟨o,_,_,e',_⟩:=O'.ns;⟨o,e'⟩
 refine I.write (x:=a) (e:=dx) (by rw[e];exact True.intro) (.inr ho) (λb q hb z=>(sb.2 b hb).trans z) hd ?_
 refine⟨by rw[u0e O.ne];exact ho,?_,O.ne,O'.obj,_,O'.ns,λg=>?_,λg hg=>?_⟩
 ·have:=u3X f y fs;omega
 ·show RelO ((putF f y fs).lookup g) (if g=f then some u else mA g)
  rw[u3U];by_cases q:g=f
  ·rw[if_pos q,if_pos q];exact ry
  ·rw[if_neg q,if_neg q];exact r g
 ·by_cases q:g=f
  ·rw[q];exact(u3Y f y fs).1
  ·refine (u3Y f y fs).2 g (wi g fun z=>hg ?_)
   show(if g=f then some u else mA g)=none
   rw[if_neg q];exact z
def Inv.made (I:Inv X pins σ H s):Inv X pins σ (upd (upd H s.heap.objs.size (.own (s.heap.objs.size+1))) (s.heap.objs.size+1) (.ins C s.heap.objs.size []))
  { s with heap:=(s.heap.push W.emptyDict).push (W.instObj C s.heap.objs.size) }:=by
 have e1:(s.heap.push W.emptyDict).get? s.heap.objs.size=some W.emptyDict:=y6 s.heap rfl;have e2:((s.heap.push W.emptyDict).push (W.instObj C s.heap.objs.size)).get? (s.heap.objs.size+1)=some (W.instObj C s.heap.objs.size):=by
  have:=y6 (s.heap.push W.emptyDict) (o:=W.instObj C s.heap.objs.size) rfl
  rwa [Heap.size_push] at this
 have e3:(s.heap.push W.emptyDict).Ns s.heap.objs.size (λ_=>none):=⟨W.emptyDict,#[],_,e1,rfl,(λe he=>absurd he (by simp)),λ_=>rfl⟩
 have I1:=I.laid (a:=s.heap.objs.size) (o:=.own (s.heap.objs.size+1)) (h':=s.heap.push W.emptyDict) (t':=s.toks) (λb u q=>z0 _ q) (y0 _) ⟨_,e1⟩
 refine I1.laid (a:=s.heap.objs.size+1) (o:=.ins C s.heap.objs.size []) (t':=s.toks) (λb u q=>z0 _ q) (Nat.le_of_eq (Heap.size_push _ _)) ?_
 have ne:s.heap.objs.size≠s.heap.objs.size+1:=u9 (Nat.lt_succ_self _);refine⟨by rw[u0e ne,u0c],z0E _,ne,e2,λ_=>none,(Heap.Ns1.of_empty e3).at λo q=>z0 _ q,λ_=>True.intro,λy hy=>absurd rfl hy⟩
def v0X{env:Env}{f:Str} (hb:attributeBase e f env (eval e env)=eval e env)
  (h:wpAny (model prog w) A (eval e env) (λo s₁=>wpAny (model prog w) A (getAttr o f true) Q E s₁) E s):wpAny (model prog w) A (eval (.Attribute e f pos) env) Q E s :=
 Attribute_any_ h (by rw[arm_eval_Attribute,hb])
end
def tFld (K:W.Frag) (ta:TE) (f:Str):TE:=λσ H Q=>ta σ H λx H1=>∃a C dx fs v,x=.ref a/\H1 a=some (.ins C dx fs)/\Cls K C/\NoAttr K C f/\fs.lookup f=some v/\Q v H1
def sFld (K:W.Frag) (ta tv:TE) (f:Str):TS:=λD σ H=>tv σ H λy H1=>ta σ H1 λx H2=>∃a C dx fs,x=.ref a/\H2 a=some (.ins C dx fs)/\Cls K C/\NoAttr K C f/\fs.length<1000 /\
 D.nx σ (upd H2 a (.ins C dx (putF f y fs)))
section
variable {o value:Expr}{f:Str}{tpos:Pos}{tv:TE}
def u5T (he:PE X e ta) (hb:attributeBase e f X.env (eval e X.env)=eval e X.env):PE X (.Attribute e f pos) (tFld X.K ta f):=by
 intro pins s σ H Q I h;refine v0X hb (thn (he pins s σ H _ I h) λu s1 z936=>?_)
 obtain⟨x,H1,I1,rx,a,C,dx,fs,v,ex,ea,c,n,l,q⟩:=z936;subst ex;obtain rfl:u=Value.ref a:=rx;exact u8H I1 ea c n l λu' s2 I2 ru=>⟨v,H1,I2,ru,q⟩
def u7K (ha:PE X o ta) (hv:PE X value tv) (hs:swapsWith value (some (.Attribute o f pos')) pos.line X.env=pure false):PS X (.Assign [.Attribute o f pos'] value pos) (sFld X.K ta tv f):=by
 intro pins s σ H D I h;refine plainObj_wpAny_Assign_Attribute (thn (hv pins s σ H _ I h) λu s1 ⟨y,H1,I1,ry,q⟩=>thn (ha pins s1 σ H1 _ I1 q) λov s2 z938=>?_) hs
 obtain⟨x,H2,I2,rx,a,C,dx,fs,ex,ea,c,n,l,q2⟩:=z938;subst ex;obtain rfl:ov=Value.ref a:=rx;exact u8t I2 ea c n l ry λs3 I3=>⟨σ,_,I3,q2⟩
end
section
variable {c:Value}{b:Bool}
inductive TyOf (K:W.Frag) (H:Hp):V->Value->Prop where
 | non:TyOf K H .non (.type "NoneType")
 | bl (x:Bool):TyOf K H (.bl x) (.type "bool")
 | int (i:Int):TyOf K H (.int i) (.type "int")
 | str (x:Str):TyOf K H (.str x) (.type "str")
 | flt (x:UInt64):TyOf K H (.flt x) (.type "float")
 | lst {a:Addr}{xs:List V} (e:H a=some (.lst xs)):TyOf K H (.ref a) (.type "list")
 | frz {a:Addr}{o:Obj}{xs:List V} (e:H a=some (.frz o (.lst xs))):TyOf K H (.ref a) (.type "list")
 | tup {a:Addr}{xs:List V} (e:H a=some (.tup xs)):TyOf K H (.ref a) (.type "tuple")
 | dK {a:Addr}{kvs:List (Key×V)} (e:H a=some (.dK kvs)):TyOf K H (.ref a) (.type "dict")
 | dT {a:Addr}{kvs:List (List Key×V)} (e:H a=some (.dT kvs)):TyOf K H (.ref a) (.type "dict")
 | ins {a C dx:Addr}{fs:List (Str×V)} (e:H a=some (.ins C dx fs)) (cl:Cls K C) (ha:W.findIn K (.ref C) "__class__"=some (some (.builtin "object.__class__")))
   (hn:W.specialIn K (.builtin "object.__class__") "__get__"=some (some (.builtin "getset_descriptor.__get__"))) (htk:W.takesIn K (.builtin "object.__class__")=some true)
   (hm:W.mroIn K C (.type "object")=some true):TyOf K H (.ref a) (.ref C)
def u0S{x:V}{t:Value} (I:Inv X pins σ H s) (rx:RelV x u) (ty:TyOf X.K H x t) (e:W.kitOne X.K t c=some b) (h:∀tk,Q (.bool b) { s with toks:=tk }) :
  wpAny (model X.prog X.w) A (call (.builtin "isinstance") [u,c]) Q E s:=by
 cases ty with
 | non=>cases (show u=Value.none from rx);exact W.kia_one W.kitx_none I.kIn True.intro e (λz=>nomatch z) h
 | bl y=>cases (show u=Value.bool y from rx);exact W.kia_one W.kitx_bool I.kIn True.intro e (λz=>nomatch z) h
 | int i=>obtain⟨t,q⟩:=(show ∃t,u=Value.int i t from rx);cases q;exact W.kia_one W.kitx_int I.kIn True.intro e (λz=>nomatch z) h
 | str y=>obtain⟨t,q⟩:=(show ∃t,u=Value.str y t from rx);cases q;exact W.kia_one W.kitx_str I.kIn True.intro e (λz=>nomatch z) h
 | flt y=>obtain⟨t,q⟩:=(show ∃t,u=Value.float y t from rx);cases q;exact W.kia_one W.kitx_float I.kIn True.intro e (λz=>nomatch z) h
 | @lst a xs ea =>
  cases (show u=Value.ref a from rx)
  obtain⟨_,_,n,_,h1⟩:=(show ObjOk X.prog X.w H s.heap a (.lst xs) from I.hok a _ ea)
  exact W.kia_one W.kitx_list I.kIn ⟨_,h1,rfl⟩ e (λz=>nomatch z) h
 | @frz a ob xs ea =>
  cases (show u=Value.ref a from rx)
  obtain⟨_,_,_,n,_,h1⟩:=(show ObjOk X.prog X.w H s.heap a (.frz ob (.lst xs)) from I.hok a _ ea)
  exact W.kia_one W.kitx_list I.kIn ⟨_,h1,rfl⟩ e (λz=>nomatch z) h
 | @tup a xs ea =>
  cases (show u=Value.ref a from rx)
  obtain⟨_,_,_,p⟩:=(show ObjOk X.prog X.w H s.heap a (.tup xs) from I.hok a _ ea)
  obtain⟨o,h1,h2,_⟩:=p;exact W.kia_one W.kitx_tuple I.kIn ⟨o,h1,h2⟩ e (λz=>nomatch z) h
 | @dK a kvs ea =>
  cases (show u=Value.ref a from rx)
  obtain⟨_,_,vs,_,p⟩:=(show ObjOk X.prog X.w H s.heap a (.dK kvs) from I.hok a _ ea)
  obtain⟨o,es,ep,h1,h2,_⟩:=p;exact W.kia_one W.kitx_dict I.kIn ⟨o,h1,h2.1⟩ e (λz=>nomatch z) h
 | @dT a kvs ea =>
  cases (show u=Value.ref a from rx)
  obtain⟨_,_,xs,_,o,es,ep,h1,h2,_⟩:=(show ObjOk X.prog X.w H s.heap a (.dT kvs) from I.hok a _ ea)
  exact W.kia_one W.kitx_dict I.kIn ⟨o,h1,h2.1⟩ e (λz=>nomatch z) h
 | @ins a C dx fs ea cl ha hn htk hm =>
  cases (show u=Value.ref a from rx)
  obtain⟨mA,O,_⟩:=u4b I.hok ea;obtain⟨od,J,_⟩:=O.look;exact W.kia_one (W.kitx_own (cl.get _) cl.hd ha hn htk hm) I.kIn J e (λz=>nomatch z) h
end
structure Room (k:Nat) (A:Around):Prop where
 hd:A.handled=none
 dp:A.depth+3*k+5<recursionLimit
 un:A.units+16*k+200<cLine
def Room.mono(r:Room k A) (h:j<=k):Room j A:=⟨r.hd,by have:=r.dp;omega,by have:=r.un;omega⟩
theorem Room.deeper(r:Room (k+1) A) (env:Env):Room k (A.deeper env) :=
 ⟨r.hd,by have:=r.dp;show A.depth+1+3*k+5<_;omega,by have:=r.un;show A.units+3+16*k+200<_;omega⟩
def u8E{kw:List (Str×Value)}:(A.under (.builtin "type.__call__" ⟨.ref C::us,kw⟩)).depth=A.depth+1:=by
 first|rfl|simp[Around.under,Code.weight,Code.isCreation,Code.isGuard,Code.isCaller,Code.frames,Code.isFrame,guardIds]
def u8D{kw:List (Str×Value)}:(A.under (.builtin "type.__call__" ⟨.ref C::us,kw⟩)).units=A.units+1:=by
 first|rfl|simp[Around.under,Code.cUnits,Code.frames,Code.isFrame]
def Room.make(r:Room (k+1) A) (C:Addr) (us:List Value) (kw:List (Str×Value)):Room k (A.under (.builtin "type.__call__" ⟨.ref C::us,kw⟩)) :=
 ⟨r.hd,by have:=r.dp;rw[u8E];omega,by have:=r.un;rw[u8D];omega⟩
theorem Room.depth(r:Room k A):A.depth<recursionLimit:=by have:=r.dp;omega
def tNil:TA:=λ_ H Q=>Q [] H
def tCons (ta:TE) (tr:TA):TA:=λσ H Q=>ta σ H λx H1=>tr σ H1 λxs H2=>Q (x::xs) H2
def u0t:PA X [] tNil:=λ_ _ _ _ H Q I h=>Calls.spliced_nil ⟨[],H,I,.nil,h⟩
def pa_cons (ha:PE X e te) (hr:PA X es t) (hs:starEach (e::es) X.env=(false,eval e X.env)::starEach es X.env:=by rfl):PA X (e::es) (tCons te t):=by
 intro pos pins s σ H Q I h;rw[hs];show wpAny _ _ (spliced ((false,eval e X.env)::backTo pos (starEach es X.env))) _ _ s;refine Calls.spliced_cons (thn (ha pins s σ H _ I h) λu s1 z939=>?_)
 obtain⟨x,H1,I1,r1,q1⟩:=z939;exact thn (hr pos pins s1 σ H1 _ I1 q1) λus s2 ⟨xs,H2,I2,r2,q2⟩=>⟨x::xs,H2,I2,.cons r1 r2,q2⟩
def tTup (t:TA):TE:=λσ H Q=>t σ H λxs H1=>xs.length<=sizeLine/\∀p,H1 p=none->Q (.ref p) (upd H1 p (.tup xs))
def tLst (t:TA):TE:=λσ H Q=>t σ H λxs H1=>xs.length<=sizeLine/\∀p,H1 p=none->Q (.ref p) (upd H1 p (.lst xs))
def u9J {x1} (h:PA X es t):PE X (.Tuple es x1 pos) (tTup t):=by
 intro pins s σ H Q I hq;refine wpAny_Tuple_spliced (thn (h pos pins s σ H _ I hq) λus s1 ⟨xs,H1,I1,r,z,q⟩=>⟨by rw[<- r.length];exact z,?_⟩)
 have hf:H1 s1.heap.objs.size=none:=I1.hok.fresh (y0 _);refine⟨.ref s1.heap.objs.size,upd H1 s1.heap.objs.size (.tup xs),I1.laid (t':=s1.toks) (λb u e=>z0 _ e) (y0 _) ?_,rfl,q _ hf⟩
 exact⟨z,us,r,⟨_,y6 _ rfl,rfl,_,rfl⟩⟩
def u2l (h:PA X es t):PE X (.List es pos) (tLst t):=by
 intro pins s σ H Q I hq;refine wpAny_List_spliced (thn (h pos pins s σ H _ I hq) λus s1 ⟨xs,H1,I1,r,z,q⟩=>⟨by rw[<- r.length];exact z,?_⟩)
 have hf:H1 s1.heap.objs.size=none:=I1.hok.fresh (y0 _);refine⟨.ref s1.heap.objs.size,upd H1 s1.heap.objs.size (.lst xs),I1.laid (t':=s1.toks) (λb u e=>z0 _ e) (y0 _) ?_,rfl,q _ hf⟩
 exact⟨z,us,0,r,y6 _ rfl⟩
abbrev Sp:=List V->Hp->VK->XK->Prop
variable {sp:Sp}
abbrev CXT:=List Env->Hp->Shared->XK->Value->Shared->Prop
structure Env0 (P:Program) (w:World) (K:W.Frag) (mg:MG) (base:Heap) (A:Around) (outer:List Env) (s:Shared) (H:Hp):Prop where
 frames:A.frames=some outer
 mod:Mod K mg base
 bs:∀b o,base.get? b=some o->s.heap.get? b=some o/\H b=none
 bsz:base.objs.size<=s.heap.objs.size
 funs:s.heap.FunFrames base outer
 frf:∀b∈frs outer,H b=none
 hok:HOk P w H s.heap
 bare:AllBare s.gens
def CE (outer:List Env) (P:Program) (w:World) (H:Hp) (s:Shared) (Q:VK) (u:Value) (s':Shared):Prop :=
 ∃v H',s'.os=s.os/\AllBare s'.gens/\Un (frs outer) [] H H' s.heap s'.heap/\HOk P w H' s'.heap/\RelV v u/\Q v H'
def CR (CX:CXT) (outer:List Env) (P:Program) (w:World) (H:Hp) (s:Shared) (Q:VK) (E:XK) (r:Result) (s':Shared):Prop :=
 match r with
 | .ok (.ret u)=>CE outer P w H s Q u s'
 | .ok _=>False
 | .error e=>CX outer H s E e s'
structure FnOk (P:Program) (w:World) (K:W.Frag) (mg:MG) (base:Heap) (CX:CXT) (k:Nat) (f:Addr) (fd:FuncData) (ps:List Str) (sp:Sp):Prop where
 len:∀vs H Q E,sp vs H Q E->vs.length=ps.length
 run:∀(A:Around) (outer:List Env) (s:Shared) (H:Hp) (args:Args) (us:List Value) (vs:List V) (Q:VK) (E:XK),Room k A->Env0 P w K mg base A outer s H->BindsTo s fd args (ps.zip us)->Vals vs us->sp vs H Q E ->
  codeAny (model P w) A (.call (.ref f) args) (CR CX outer P w H s Q E) s
def FnOk.imp{CX:CXT}{sp':Sp} (F:FnOk P w K mg base CX k f fd ps sp)
  (h:∀vs H Q E,sp' vs H Q E->sp vs H Q E):FnOk P w K mg base CX k f fd ps sp' :=
 ⟨λvs H Q E q=>F.len vs H Q E (h _ _ _ _ q),λA outer s H args us vs Q E hr he hb hv hs=>F.run A outer s H args us vs Q E hr he hb hv (h _ _ _ _ hs)⟩
def Env0.make(e:Env0 P w K mg base A outer s H) (C:Addr) (us:List Value) (kw:List (Str×Value)) :
  Env0 P w K mg base (A.under (.builtin "type.__call__" ⟨.ref C::us,kw⟩)) outer s H:=⟨by first|exact e.frames|(simpa[Around.under,Code.envs,Code.isFrame,pushEnvs] using e.frames),e.mod,e.bs,e.bsz,e.funs,e.frf,e.hok,e.bare⟩
def Inv.env0 (I:Inv X pins σ H s):Env0 X.prog X.w X.K X.mg X.base X.A X.stack s H :=
 ⟨I.ok.frames,I.ok.mod,I.bs,y9 I.ok.bsz I.sz,I.stack,I.stkFree,I.hok,I.bare⟩
def Inv.after{Q:VK} (I:Inv X pins σ H s) (h:CE X.stack X.prog X.w H s Q u s'):EP X pins σ Q u s':=by
 obtain⟨v,H',os,bare,un,hok,r,q⟩:=h;obtain⟨hh,g,d,t,os'⟩:=s';obtain rfl:os'=s.os:=os;exact⟨v,H',I.call (h':=hh) (g':=g) (d':=d) (t':=t) (ch:=[]) un hok bare (λb z=>absurd z (by simp)),r,q⟩
def tCall (sp:Sp) (dvs:List V) (E:XK) (t:TA):TE:=λσ H Q=>t σ H λvs H1=>sp (vs++dvs) H1 Q E
def tMeth (C:Addr) (m:Str) (sp:Sp) (dvs:List V) (E:XK) (ta:TE) (t:TA):TE:=λσ H Q=>ta σ H λx H1=>∃a dx fs,x=.ref a/\H1 a=some (.ins C dx fs)/\fs.lookup m=none /\
 t σ H1 λvs H2=>sp (x::(vs++dvs)) H2 Q E
def tMake (C:Addr) (sp:Sp) (dvs:List V) (E:XK) (t:TA):TE:=λσ H Q=>t σ H λvs H1=>∀x dx,H1 x=none->H1 dx=none->dx≠x ->
 sp (.ref x::(vs++dvs)) (upd (upd H1 dx (.own x)) x (.ins C dx [])) (λv H2=>v=.non/\Q (.ref x) H2) E
def Binds (K:W.Frag) (fd:FuncData) (ps:List Str) (ds:List Value):Prop :=
 ∀(s:Shared) (us:List Value),K.In s.heap->(us++ds).length=ps.length->BindsTo s fd ⟨us,[]⟩ (ps.zip (us++ds))
def Binds.all(h:∀us:List Value,us.length=ps.length->bindArgs fd ⟨us,[]⟩=pure (ps.zip us)):Binds K fd ps []:=λs us _ hl=>by
 rw[List.append_nil] at hl |-
 exact .of_eq (h us hl)
def Passes (CX:CXT) (X:Cx) (E:XK):Prop:=∀(pins:LO) (σ:St) (H:Hp) (s:Shared) (e:Value) (s':Shared),Inv X pins σ H s->CX X.stack H s E e s'->X.xe e s'
section
variable {CX:CXT}{E:XK}{apos:Pos}{o:Expr}
def u7F{Q:VK} (F:FnOk X.prog X.w X.K X.mg X.base CX k f fd ps sp) (hr:Room k X.A) (hb:Binds X.K fd ps ds) (hd:Vals dvs ds) (hx:Passes CX X E)
  (I:Inv X pins σ H s) (r:Vals vs us) (h:sp (vs++dvs) H Q E):wpAny (model X.prog X.w) X.A (call (.ref f) us) (EP X pins σ Q) X.xe s:=by
 have r2:Vals (vs++dvs) (us++ds):=r.append hd;have hl:(us++ds).length=ps.length:=by rw[<- r2.length];exact F.len _ _ _ _ h
 refine wpAny_call (codeAny_mono (F.run X.A X.stack s H ⟨us,[]⟩ (us++ds) (vs++dvs) Q E hr I.env0 (hb s us I.kIn hl) r2 h) λr s' hq=>?_)
 cases r with
 | error e=>exact hx pins σ H s e s' I hq
 | ok fl =>
  cases fl with
  | ret u=>exact I.after hq
  | next=>exact False.elim hq
  | brk=>exact False.elim hq
  | cont=>exact False.elim hq
def pe_call (F:FnOk X.prog X.w X.K X.mg X.base CX k f fd ps sp) (hr:Room k X.A) (hg:Gl X x) (hm:X.mg x=some (.ref f)) (hk:W.keepIn X.K (.ref f)=true) (hb:Binds X.K fd ps ds) (hd:Vals dvs ds) (hx:Passes CX X E)
  (ha:PA X (e::es) t) (hdb:(x==("__debug__":Str))=false:=by decide) (he:starEach (e::es) X.env=(false,eval e X.env)::starEach es X.env:=by rfl) (hpl:(backTo pos (starEach es X.env)).any (·.1)=false:=by rfl) :
  PE X (.Call (.Name x p) (e::es) [] pos) (tCall sp dvs E t):=by
 intro pins s σ H Q I h;refine wpAny_Call_Name_kw (u1W I hg hm ?_ hdb);refine W.callWith_K (h₀:=X.base) I.ok.mod.kin hk (thn (ha pos pins s σ H _ I h) λus s1 ⟨vs,H1,I1,r,q⟩=>⟨I1.kIn,?_⟩) he hpl
 exact u7F F hr hb hd hx I1 r q
def u7c {pl:Sem Bool} (he:PE X o ta) (c:Cls X.K C) (hm:Meth X.K C m f) (F:FnOk X.prog X.w X.K X.mg X.base CX k f fd ps sp) (hr:Room k X.A) (hb:Binds X.K fd ps ds) (hd:Vals dvs ds) (hx:Passes CX X E) (ha:PA X (e::es) t)
  (hst:starEach (e::es) X.env=(false,eval e X.env)::starEach es X.env:=by rfl) (hpl:(backTo pos (starEach es X.env)).any (·.1)=false:=by rfl)
  (ht:eval (.Call (.Attribute o m apos) (e::es) [] pos) X.env=(do
   let ov <- eval o X.env
   standAt apos.atName
   let (f,first) <- holding [ov] (getMethod ov m pl)
   callWith pos f first (backTo pos (starEach (e::es) X.env)) (backToKw pos (keywordEach [] X.env))):=by rfl) :
  PE X (.Call (.Attribute o m apos) (e::es) [] pos) (tMeth C m sp dvs E ta t):=by
 intro pins s σ H Q I h;refine W.methodCall_KW (pl:=pl) (thn (he pins s σ H _ I h) λu s1 z944=>?_) ht
 obtain⟨x,H1,I1,rx,a,dx,fs,ex,ea,l,q⟩:=z944;subst ex;obtain rfl:u=Value.ref a:=rx;refine u3h I1 ea c hm l ?_;refine W.callWith_K (first:=[.ref a]) (h₀:=X.base) I.ok.mod.kin hm.kp (thn (ha pos pins s1 σ H1 _ I1 q) λus s2 ⟨vs,H2,I2,r,q2⟩=>⟨I2.kIn,?_⟩) hst hpl
 exact u7F (us:=.ref a::us) (vs:=.ref a::vs) F hr hb hd hx I2 (.cons rfl r) q2
def v1I {pl:Sem Bool} (he:PE X o ta) (c:Cls X.K C) (hm:Meth X.K C m f) (F:FnOk X.prog X.w X.K X.mg X.base CX k f fd ps sp) (hr:Room k X.A) (hb:Binds X.K fd ps ds) (hd:Vals dvs ds) (hx:Passes CX X E)
  (ht:eval (.Call (.Attribute o m apos) [] [] pos) X.env=(do
   let ov <- eval o X.env
   standAt apos.atName
   let (f,first) <- holding [ov] (getMethod ov m pl)
   callWith pos f first (backTo pos (starEach [] X.env)) (backToKw pos (keywordEach [] X.env))):=by rfl) :
  PE X (.Call (.Attribute o m apos) [] [] pos) (tMeth C m sp dvs E ta tNil):=by
 intro pins s σ H Q I h;refine W.methodCall_KW (pl:=pl) (thn (he pins s σ H _ I h) λu s1 z946=>?_) ht
 obtain⟨x,H1,I1,rx,a,dx,fs,ex,ea,l,q⟩:=z946;subst ex;obtain rfl:u=Value.ref a:=rx;refine u3h I1 ea c hm l ?_;exact W.callWith_K0 (first:=[.ref a]) I1.kIn hm.kp (u7F (us:=[.ref a]) (vs:=[.ref a]) F hr hb hd hx I1 (.cons rfl .nil) q)
structure Mk (K:W.Frag) (C f:Addr):Prop where
 makes:W.makesIn K C=true
 init:W.findIn K (.ref C) "__init__"=some (some (.ref f))
 fn:W.isFn K (.ref f)=true
 kp:W.keepIn K (.ref C)=true
def v1x{Q:VK} (M:Mk X.K C f) (F:FnOk X.prog X.w X.K X.mg X.base CX k f fd ps sp) (hr:Room (k+1) X.A) (hb:Binds X.K fd ps ds) (hd:Vals dvs ds)
  (hx:Passes CX X E) (I:Inv X pins σ H s) (r:Vals vs us)
  (h:∀x dx,H x=none->H dx=none->dx≠x->sp (.ref x::(vs++dvs)) (upd (upd H dx (.own x)) x (.ins C dx [])) (λv H2=>v=.non/\Q (.ref x) H2) E) :
  wpAny (model X.prog X.w) X.A (call (.ref C) us) (EP X pins σ Q) X.xe s:=by
 have hq:=h (s.heap.objs.size+1) s.heap.objs.size (I.hok.fresh (Nat.le_succ _)) (I.hok.fresh (y0 _)) (u9 (Nat.lt_succ_self _));have I2:=Inv.made (C:=C) I;have r2:Vals (V.ref (s.heap.objs.size+1)::(vs++dvs)) (Value.ref (s.heap.objs.size+1)::(us++ds)):=.cons rfl (r.append hd);have hl:(Value.ref (s.heap.objs.size+1)::us++ds).length=ps.length:=by
  have e:=r2.length;rw[F.len _ _ _ _ hq] at e;exact e.symm
 refine wpAny_call (u7P (f:=f) I.kIn M.makes M.init (beq_iff_eq.mp M.fn) (codeAny_mono (F.run _ X.stack _ _ ⟨Value.ref (s.heap.objs.size+1)::us,[]⟩ (Value.ref (s.heap.objs.size+1)::(us++ds)) _ _ E (hr.make C us [])
  (I2.env0.make C us []) (hb _ (Value.ref (s.heap.objs.size+1)::us) I2.kIn hl) r2 hq) λr s' hq'=>?_))
 cases r with
 | error e=>exact hx pins σ _ _ e s' I2 hq'
 | ok fl =>
  cases fl with
  | ret u =>
   obtain⟨v,H',I3,rv,ev,q3⟩:=I2.after hq';subst ev;exact⟨rv,⟨V.ref (s.heap.objs.size+1),H',I3,rfl,q3⟩⟩
  | next=>exact False.elim hq'
  | brk=>exact False.elim hq'
  | cont=>exact False.elim hq'
def v1J (M:Mk X.K C f) (F:FnOk X.prog X.w X.K X.mg X.base CX k f fd ps sp) (hr:Room (k+1) X.A) (hg:Gl X x) (hm:X.mg x=some (.ref C)) (hb:Binds X.K fd ps ds) (hd:Vals dvs ds) (hx:Passes CX X E)
  (hdb:(x==("__debug__":Str))=false:=by decide):PE X (.Call (.Name x p) [] [] pos) (tMake C sp dvs E tNil):=by
 intro pins s σ H Q I h;refine wpAny_Call_Name_kw (u1W I hg hm ?_ hdb);exact W.callWith_K0 I.kIn M.kp (v1x (us:=[]) M F hr hb hd hx I .nil h)
end
structure FnScope (N P:List Str) (sc:Scope):Prop where
 kind:sc.kind=.function
 co:sc.isCoroutine=false
 gen:sc.isGenerator=false
 nd:N.Nodup
 pre:N.take P.length=P
 par:∀x∈P,sc.names.lookup x=some .local\/sc.names.lookup x=some .cell
 nofree:∀y∈sc.names,y.2≠.free
def FnScope.au{P:List Str} (a:sc.kind=.function:=by rfl) (b:sc.isCoroutine=false:=by rfl) (c:sc.isGenerator=false:=by rfl) (d:N.Nodup:=by decide +kernel) (e:N.take P.length=P:=by rfl) (f:∀x∈P,sc.names.lookup x=some .local\/sc.names.lookup x=some .cell:=by decide +kernel) (g:∀y∈sc.names,y.2≠.free:=by decide +kernel):FnScope N P sc:=⟨a,b,c,d,e,f,g⟩
theorem u6u{kindOf:Str->Option NameKind}:∀{binds:List (Str×Value)}{m:MG},(∀v,(x,v)∉binds)->bindL kindOf binds m x=m x
 | [],_,_=>rfl
 | (n,v)::r,m,h=>by
  unfold bindL;rw[u6u λw hw=>h w (z5 _ hw)]
  split
  ·have:x≠n:=by rintro rfl;exact h v z6
   simp[this]
  ·rfl
theorem u6w{kindOf:Str->Option NameKind}:∀{binds:List (Str×Value)}{m:MG},(∀v,(x,v)∉binds)->bindC kindOf binds m x=m x
 | [],_,_=>rfl
 | (n,v)::r,m,h=>by
  unfold bindC;rw[u6w λw hw=>h w (z5 _ hw)]
  split
  ·rfl
  ·have:x≠n:=by rintro rfl;exact h v z6
   simp[this]
theorem u6v{kindOf:Str->Option NameKind}{v:Value}:∀{P:List Str}{vs:List Value}{i:Nat}{m:MG},P.Nodup->P[i]?=some x->vs[i]?=some v->kindOf x=some .local ->
  bindL kindOf (P.zip vs) m x=some v
 | [],_,_,_,_,h,_,_=>by simp at h
 | _::_,[],_,_,_,_,h,_=>by simp at h
 | p::P,w::vs,0,m,nd,h1,h2,hk=>by
  simp at h1 h2;subst h1;subst h2;show bindL kindOf ((p,w)::P.zip vs) m p=_;unfold bindL;rw[u6u λv hv=>(z2D.mp nd).1 (List.of_mem_zip hv).1,if_pos hk]
  simp
 | p::P,w::vs,i+1,m,nd,h1,h2,hk=>by
  show bindL kindOf ((p,w)::P.zip vs) m x=_;unfold bindL;exact u6v (i:=i) (z2D.mp nd).2 (by simpa using h1) (by simpa using h2) hk
theorem u6x{kindOf:Str->Option NameKind}{v:Value}:∀{P:List Str}{vs:List Value}{i:Nat}{m:MG},P.Nodup->P[i]?=some x->vs[i]?=some v->kindOf x≠some .local ->
  bindC kindOf (P.zip vs) m x=some v
 | [],_,_,_,_,h,_,_=>by simp at h
 | _::_,[],_,_,_,_,h,_=>by simp at h
 | p::P,w::vs,0,m,nd,h1,h2,hk=>by
  simp at h1 h2;subst h1;subst h2;show bindC kindOf ((p,w)::P.zip vs) m p=_;unfold bindC;rw[u6w λv hv=>(z2D.mp nd).1 (List.of_mem_zip hv).1,if_neg hk]
  simp
 | p::P,w::vs,i+1,m,nd,h1,h2,hk=>by
  show bindC kindOf ((p,w)::P.zip vs) m x=_;unfold bindC;exact u6x (i:=i) (z2D.mp nd).2 (by simpa using h1) (by simpa using h2) hk
noncomputable def start (N:List Str) (vs:List V):St:=vs.map some++List.replicate (N.length - vs.length) none
noncomputable def cxOf (CX:CXT) (P:Program) (w:World) (K:W.Frag) (mg:MG) (base:Heap) (N:List Str) (qual:Str) (scope:Scope) (f:Addr) (cd:Value) (A:Around) (outer:List Env) (s:Shared) (H:Hp) (E:XK):Cx where
 prog:=P
 w:=w
 K:=K
 mg:=mg
 base:=base
 A:=A.deeper (envOfC qual scope s.heap.objs.size f cd)
 N:=N
 s₀:=s
 H₀:=H
 env:=envOfC qual scope s.heap.objs.size f cd
 outer:=outer
 stack:=envOfC qual scope s.heap.objs.size f cd::outer
 ex:=[]
 calm:=true
 fn:=λ_=>true
 pn:=[]
 xe:=λe s'=>wpAny (model P w) (A.deeper (envOfC qual scope s.heap.objs.size f cd)) (leaving (envOfC qual scope s.heap.objs.size f cd) e) (λ_ s''=>CX outer H s E e s'') (λe' s''=>CX outer H s E e' s'') s'
def u8l(h:sc.names.lookup x=some .cell):∃c,(cellsFrom n sc.names []).lookup x=some c:=by
 have q:=W.cellsFrom_some sc.names n [] (.inl h);exact Option.isSome_iff_exists.mp q
def v0l{CX:CXT}{s1:Shared}{E:XK}
  (S:FnScope N ps scope) (hd:A.handled=none) (e0:Env0 P w K mg base A outer s H) (hl:vs.length=ps.length) (r:Vals vs us)
  (x:InCallC s s.heap.objs.size (bindL (envOfC qual scope s.heap.objs.size f cd).kindOf (ps.zip us) λ_=>none) (cellsFrom (s.heap.objs.size+1) scope.names []) (bindC (envOfC qual scope s.heap.objs.size f cd).kindOf (ps.zip us) λ_=>none) s1) :
  Inv (cxOf CX P w K mg base N qual scope f cd A outer s H E) [] (start N vs) H s1:=by
 have hpl:ps.length<=N.length:=by have:=congrArg List.length S.pre;rw[z3C] at this;omega
 obtain⟨h1,tk,rfl,hk⟩:=x.done;have noA:∀b:Addr,b∉(cxOf CX P w K mg base N qual scope f cd A outer s H E).ex:=λb z=>absurd (show b∈([]:List Addr) from z) (by simp)
 refine⟨⟨e0.mod,S.kind,rfl,rfl,y0 _,λy z c h1 h2=>?_,λy hy=>?_,λy c _ h=>?_,λ_=>hd,Around.frames_deeper e0.frames,.inr ⟨rfl,rfl⟩,λb z=>absurd z (noA b),e0.bs,e0.bsz,λb _ _=>noA b,λb z=>absurd z (noA b),e0.funs,e0.frf⟩,
  rfl,e0.bare,Un.kept hk,⟨_,x.toInCall.ns,λi y v h1 h2 h3=>?_⟩,λy c h=>⟨_,x.cell y c h⟩,e0.hok.fresh (y0 _),λy c h=>?_,λp hp=>absurd (show p∈([]:LO) from hp) (by simp),e0.hok.kept hk,?_⟩
 ·exact name_of_addr x.apart (PySem.mem_of_lookup h1) (PySem.mem_of_lookup h2)
 ·have hy:scope.names.lookup y=some .cell\/scope.names.lookup y=some .free:=hy
  rcases hy with hy|hy
  ·exact u8l hy
  ·exact absurd rfl (S.nofree _ (PySem.mem_of_lookup hy))
 ·exact Nat.le_of_lt (x.above y c (PySem.mem_of_lookup h))
 ·have hi:i<vs.length:=by
   unfold start at h2;by_cases hi:i<vs.length
   ·exact hi
   ·rw [z1F (by simpa using hi)] at h2
    rw[z0F] at h2;split at h2<;>cases h2
  have ha:vs[i]?=some v:=by
   unfold start at h2;rw[z1J (by simpa using hi),v7] at h2
   cases e:vs[i]? with
   | none=>rw[e] at h2;cases h2
   | some a=>rw[e] at h2;cases h2;rfl
  obtain⟨u,hu,rv⟩:=r.get ha;have hp:ps[i]?=some y:=by
   rw[<- S.pre,List.getElem?_take_of_lt (by omega)];exact h1
  have ndP:ps.Nodup:=by rw[<- S.pre];exact S.nd.sublist (List.take_sublist _ _)
  refine⟨u,rv,?_⟩;rcases S.par y (List.mem_of_getElem? hp) with k|k
  ·exact .inl ⟨k,u6v ndP hp hu k⟩
  ·obtain ⟨c,e⟩:=u8l (n:=s.heap.objs.size+1) k
   refine .inr ⟨.inl k,c,e,?_⟩;have q:=x.cell y c e;rw[u6x ndP hp hu (by show scope.names.lookup y≠_;rw[k];decide)] at q
   exact q
 ·exact e0.hok.fresh (Nat.le_of_lt (x.above y c (PySem.mem_of_lookup h)))
 ·unfold start
  show _=N.length;rw[u4,x9,z1I];omega
def fn_of{CX:CXT}{params:Arguments}{dV kV doc pm cdv ct oc:Value}{an od:Option Addr}
  {osl:Array (Option Value)} (lk:K.lookup f=some ⟨oc,od,.func (W.fnOf name qual params body scope dV kV doc pm an cdv ct),osl⟩) (hcd:W.codeIn K cdv qual=true) (S:FnScope N ps scope)
  (len:∀vs H Q E,sp vs H Q E->vs.length=ps.length)
  (hbody:∀ (A:Around) (outer:List Env) (s:Shared) (H:Hp) (vs:List V) (Q:VK) (E:XK),Room k (A.deeper (envOfC qual scope s.heap.objs.size f cdv))->sp vs H Q E ->
   ∃t,PSs (cxOf CX P w K mg base N qual scope f cdv A outer s H E) body t/\t { nx:=λ_ H'=>Q .non H',rt:=Q } (start N vs) H) :
  FnOk P w K mg base CX (k+1) f (W.fnOf name qual params body scope dV kV doc pm an cdv ct) ps sp:=by
 refine⟨len,λA outer s H args us vs Q E hr e0 hb r hsp=>?_⟩
 have hl:=len _ _ _ _ hsp;have KX:K.In s.heap:=e0.mod.kin.keeps λb o e=>(e0.bs b o e).1
 have lim:s.heap.NoLimit:=e0.mod.nolimit.keeps λb o e=>(e0.bs b o e).1
 have hkind:∀y∈ps.zip us,scope.names.lookup y.1=some .local\/(scope.names.lookup y.1=some .cell/\((cellsFrom (s.heap.objs.size+1) scope.names []).lookup y.1).isSome=true):=λ⟨n,v⟩ hy=>by
  rcases S.par n (List.of_mem_zip hy).1 with q|q
  ·exact .inl q
  ·exact .inr ⟨q,W.cellsFrom_some _ _ _ (.inl q)⟩
 refine codeAny_call_function hr.depth (KX _ _ lk) rfl S.co S.gen rfl (W.codeRec_of KX hcd) (hb _ _ _ _ ?_);refine wpAny_newFunctionEnv_cells S.kind hkind λenv he s1 x=>?_
 subst he;refine⟨lim.keeps x.toInCall.keep,codeAny_func ?_⟩;obtain⟨t,ht,hq⟩:=hbody A outer s H vs Q E (hr.deeper _) hsp;have I:Inv (cxOf CX P w K mg base N qual scope f cdv A outer s H E) [] (start N vs) H s1:=v0l S hr.hd e0 hl r x;refine wpAny_mono (ht [] s1 (start N vs) H _ I hq) (λfl s' hs=>?_) λe s' hs=>hs
 have fin:∀{σ':St}{H':Hp}{v:V}{u:Value},Inv (cxOf CX P w K mg base N qual scope f cdv A outer s H E) [] σ' H' s'->RelV v u->Q v H'->CE outer P w H s Q u s' :=
  λ{σ' H' v u} J rv q=>⟨v,H',J.os,J.bare,J.base,J.hok,rv,q⟩
 cases fl with
 | ret u =>
  obtain⟨v,σ',H',J,rv,q⟩:=hs;exact fin J rv q
 | next =>
  obtain⟨σ',H',J,q⟩:=hs;exact fin (v:=V.non) (u:=Value.none) J rfl q
 | brk =>
  obtain⟨_,_,_,q⟩:=hs;exact False.elim q
 | cont =>
  obtain⟨_,_,_,q⟩:=hs;exact False.elim q
section
variable {id T:String}{r:List V->Hp->VK->Prop}
def tCB (r:List V->Hp->VK->Prop) (t:TA):TE:=λσ H Q=>t σ H λvs H1=>r vs H1 Q
def v1N (hc:CallR X (.builtin id) r) (hg:Gl X x) (hm:X.mg x=none) (hv:bootBuiltins x=some (.builtin id)) (ha:PA X (e::es) t) (hn:x≠"__name__":=by decide) (hdb:(x==("__debug__":Str))=false:=by decide)
  (he:starEach (e::es) X.env=(false,eval e X.env)::starEach es X.env:=by rfl) (hpl:(backTo pos (starEach es X.env)).any (·.1)=false:=by rfl):PE X (.Call (.Name x p) (e::es) [] pos) (tCB r t):=by
 intro pins s σ H Q I h;refine wpAny_Call_Name_kw (u1J I hg hm hv ?_ hn hdb);exact PyProof.Rows.callWith_builtin1 (thn (ha pos pins s σ H _ I h) λus s1 z948=>by obtain⟨vs,H1,I1,r1,q1⟩:=z948;exact hc pins s1 σ H1 vs us Q I1 r1 q1) he hpl
def u9M (hc:CallR X (.type T) r) (hg:Gl X x) (hm:X.mg x=none) (hv:bootBuiltins x=some (.type T)) (ha:PA X (e::es) t) (hn:x≠"__name__":=by decide) (hdb:(x==("__debug__":Str))=false:=by decide)
  (he:starEach (e::es) X.env=(false,eval e X.env)::starEach es X.env:=by rfl) (hpl:(backTo pos (starEach es X.env)).any (·.1)=false:=by rfl):PE X (.Call (.Name x p) (e::es) [] pos) (tCB r t):=by
 intro pins s σ H Q I h;refine wpAny_Call_Name_kw (u1J I hg hm hv ?_ hn hdb);exact PyProof.Rows.callWith_type1 (thn (ha pos pins s σ H _ I h) λus s1 z949=>by obtain⟨vs,H1,I1,r1,q1⟩:=z949;exact hc pins s1 σ H1 vs us Q I1 r1 q1) he hpl
end
end L2
namespace HT
open PySem PyProof.Rows
variable {v vl vu:Value}{sl:Addr}
section
open PySem.SeqAt
open PySem.AutoSeq1 (wpAny_loadPart')
open PySem.MeetsSeq PySem.MeetsSeq2 PySem.MeetsSeq3
end
section
variable {prog:Program}{w:World}{A:Around}{E:VP}{s:Shared}
noncomputable def sIx (n d:Nat):Option Int->Nat
 | none=>d
 | some v=>if v<0 then (v+(n:Int)).toNat else min v.toNat n
def sIx_none (n d:Nat):sIx n d none=d:=rfl
def sIx_nat (n d k:Nat):sIx n d (some (k:Int))=min k n:=by
 show(if (k:Int)<0 then ((k:Int)+(n:Int)).toNat else min (k:Int).toNat n)=min k n
 rw[if_neg (by omega),Int.toNat_natCast]
def sIx_le (n d:Nat) (hd:d<=n) (o:Option Int):sIx n d o<=n:=by
 cases o with
 | none=>exact hd
 | some v =>
  show(if v<0 then (v+(n:Int)).toNat else min v.toNat n)<=n
  by_cases hv:v<0
  ·rw[if_pos hv];omega
  ·rw[if_neg hv];exact Nat.min_le_right _ _
def v0Q (v:Int) (n d:Nat):(if v<0 then max (v+(n:Int)) 0 else min v (n:Int))=((sIx n d (some v):Nat):Int):=by
 show(if v<0 then max (v+(n:Int)) 0 else min v (n:Int))=(((if v<0 then (v+(n:Int)).toNat else min v.toNat n):Nat):Int)
 by_cases hv:v<0
 ·simp only[if_pos hv];omega
 ·simp only[if_neg hv];omega
def u8O (lo hi:Option Int) (n:Nat):Builtin.Slice.sliceAdjust lo hi 1 (n:Int)=(((sIx n 0 lo:Nat):Int),((sIx n n hi:Nat):Int)):=by
 have h1:¬ ((1:Int)<0):=by omega
 unfold Builtin.Slice.sliceAdjust;simp only[h1,if_false];refine Prod.ext ?_ ?_
 ·cases lo with
  | none=>rfl
  | some v=>exact v0Q v n 0
 ·cases hi with
  | none=>rfl
  | some v=>exact v0Q v n n
def u8y (i j:Nat):Builtin.Slice.slicePlaces (i:Int) (j:Int) 1=j - i:=by
 unfold Builtin.Slice.slicePlaces;have h1:(1:Int) > 0:=by omega
 simp only[h1,if_true,Int.ediv_one]
 split<;>omega
def slicePart_{o:Option Int}{Q:Option Int->Shared->Prop} (p:IsPart v o) (h:Q o s):wpAny (model prog w) A (Builtin.Slice.slicePartIndex v) Q E s:=by
 cases p with
 | none=>exact slicePart_none h
 | int i t=>exact slicePart_int h
def u3s{lo hi:Option Int}{n:Nat}{Q:Int×Int×Nat->Shared->Prop} (hs:s.heap.IsSliceOf sl vl vu .none) (pl:IsPart vl lo) (pu:IsPart vu hi)
  (h:Q (((sIx n 0 lo:Nat):Int),1,sIx n n hi - sIx n 0 lo) s):wpAny (model prog w) A (Builtin.Slice.sliceApplied (.ref sl) (pure (n:Int))) Q E s:=by
 obtain⟨os,hos,hcs,hds⟩:=id hs;unfold Builtin.Slice.sliceApplied Builtin.Slice.sliceFields;refine wpAny_bind (wpAny_bind (wpAny_field hos hds (x:=vl) rfl (wpAny_bind (wpAny_field hos hds (x:=vu) rfl (wpAny_bind (wpAny_field hos hds (x:=.none) rfl (wpAny_pure ?_)))))));refine wpAny_bind (slicePart_none ?_);show wpAny _ _ (if ((1:Int)==0)=true then _ else _) _ _ s
 rw[if_neg (by decide)]
 refine wpAny_bind (slicePart_ pl (wpAny_bind (slicePart_ pu (wpAny_bind (wpAny_pure ?_)))));show wpAny _ _ (match Builtin.Slice.sliceAdjust lo hi 1 (n:Int) with|(lo,hi)=>pure (lo,(1:Int),Builtin.Slice.slicePlaces lo hi 1)) _ _ s
 rw[u8O lo hi n];show wpAny _ _ (pure (((sIx n 0 lo:Nat):Int),(1:Int),Builtin.Slice.slicePlaces ((sIx n 0 lo:Nat):Int) ((sIx n n hi:Nat):Int) 1)) _ _ s;rw[u8y];exact wpAny_pure h
def v1F (xs:Array Value) (i k:Nat):((List.range k).filterMap λ(m:Nat)=>xs[((i:Int)+(m:Int)*1).toNat]?).toArray=((xs.toList.drop i).take k).toArray:=by
 have e:(λ(m:Nat)=>xs[((i:Int)+(m:Int)*1).toNat]?)=λm=>xs[i+m]?:=by
  funext m
  have:((i:Int)+(m:Int)*1).toNat=i+m:=by omega
  rw[this]
 rw[e]
 have:=pick_run xs i k
 rw[List.filterMap_map] at this;have e2:((λx=>xs[x]?) ∘ λx=>i+x)=λm=>xs[i+m]?:=rfl
 rw[e2] at this;rw[this]
def getItem_tuple_cut{t:Addr}{items:Array Value}{lo hi:Option Int}{Q:VP} (ht:IsTup s.heap t items) (hs:s.heap.IsSliceOf sl vl vu .none) (pl:IsPart vl lo) (pu:IsPart vu hi)
  (hw:¬ (sIx items.size 0 lo=0/\sIx items.size items.size hi=items.size))
  (h:Q (.ref s.heap.objs.size) { s with heap:=s.heap.push { cls:=.type "tuple",data:=.seq ((items.toList.drop (sIx items.size 0 lo)).take (sIx items.size items.size hi - sIx items.size 0 lo)).toArray } })
  (hsz:items.size<=sizeLine):wpAny (model prog w) A (getItem (.ref t) (.ref sl)) Q E s:=by
 have htake:sizeOk (.seq ((items.toList.drop (sIx items.size 0 lo)).take (sIx items.size items.size hi - sIx items.size 0 lo)).toArray):=by
  show((items.toList.drop (sIx items.size 0 lo)).take (sIx items.size items.size hi - sIx items.size 0 lo)).toArray.size<=sizeLine;rw[y7,z3C,z2F,z0J];omega
 have hj:sIx items.size items.size hi<=items.size:=sIx_le _ _ (y0 _) hi;obtain⟨os,hos,hcs,hds⟩:=id hs;have hTs:s.TypeIs (.ref sl) "slice":=⟨os,hos,hcs⟩;unfold getItem
 try with_reducible refine wpAny_holding ?_
 first|refine wpAny_bind (wpAny_pure ?_)|skip
 refine wpAny_bind (wpAny_sequenceKey ht.typeIs (by decide) ?_)
 refine wpAny_bind (wpAny_callSpecial?_slot (name:=Str.ofString "__getitem__") ht.typeIs PyProof.Rows.slot_tuple_getitem
  (wpAny_call_entry PyProof.Rows.slot_tuple_getitem ht.typeIs entry_tuple_getitem ?_ (args_tuple_getitem _ _)))
 show wpAny _ _ (Builtin.Tuple.tupleItemsOf (.ref t) >>= _) _ _ s;refine wpAny_bind (tupleItemsOf_ ht ?_);refine wpAny_bind (wpAny_typeOf hTs ?_);rw[if_pos (by decide)]
 refine wpAny_bind (u3s hs pl pu ?_);have hno:¬ ((((sIx items.size 0 lo:Nat):Int)==0&&(1:Int)==1&&(sIx items.size items.size hi - sIx items.size 0 lo)==items.size)=true):=by
  intro q;rw[z1G,z1G] at q;have q1:((sIx items.size 0 lo:Nat):Int)=0:=eq_of_beq q.1.1;have q2:sIx items.size items.size hi - sIx items.size 0 lo=items.size:=eq_of_beq q.2;exact hw ⟨by omega,by omega⟩
 show wpAny _ _ (if (((sIx items.size 0 lo:Nat):Int)==0&&(1:Int)==1&&(sIx items.size items.size hi - sIx items.size 0 lo)==items.size)=true then _ else _) _ _ s
 rw[if_neg hno,v1F]
 first
  | exact wpAny_bind (m:=Builtin.Tuple.tupleExact _) (wpAny_newObj_type (wpAny_pure ⟨_,rfl,wpAny_pure h⟩) htake)
  | exact wpAny_bind (m:=Builtin.Tuple.tupleExact _) (wpAny_newObj_type (wpAny_bind (wpAny_pure (wpAny_pure ⟨_,rfl,wpAny_pure h⟩))) htake)
  | exact wpAny_bind (wpAny_bind (m:=Builtin.Tuple.tupleExact _) (wpAny_newObj_type (wpAny_pure (wpAny_pure ⟨_,rfl,wpAny_pure h⟩)) htake))
  | exact wpAny_bind (wpAny_bind (m:=Builtin.Tuple.tupleExact _) (wpAny_newObj_type (wpAny_pure ⟨_,rfl,wpAny_pure h⟩) htake))
end
end HT
namespace L2
open PySem PySem.Spec PyProof.Rows
variable {X:Cx}{e:Expr}{pos:Pos}{α:Type}{n j t':Nat}{i:Int}{pins:LO}{σ:St}{H:Hp}{s:Shared}{p:Addr}{xs ys:List V}{its its' us:List Value}{T:String}
abbrev TO:=St->Hp->(Option Int->Hp->Prop)->Prop
def PO (X:Cx) (e:Option Expr) (t:TO):Prop :=
 ∀(pins:LO) (s:Shared) (σ:St) (H:Hp) (Q:Option Int->Hp->Prop),Inv X pins σ H s->t σ H Q ->
  wpAny (model X.prog X.w) X.A (evalPart e X.env) (λu s'=>∃o H',Inv X pins σ H' s'/\IsPart u o/\Q o H') X.xe s
noncomputable def tNoPart:TO:=λ_ H Q=>Q none H
noncomputable def tPart (t:TE):TO:=λσ H Q=>t σ H λx H1=>∃i,x=.int i/\Q (some i) H1
section
variable {te:TE}{lo hi:Option Expr}{tl th:TO}{p2:Pos}
def po_none:PO X none tNoPart:=by
 intro pins s σ H Q I h;rw[evalPart_none];exact wpAny_pure ⟨none,H,I,.none,h⟩
def po_some (h:PE X e te):PO X (some e) (tPart te):=by
 intro pins s σ H Q I hw;rw[evalPart_some];refine thn (h pins s σ H _ I hw) λu s1 z950=>?_
 obtain⟨x,H1,I1,r1,q1⟩:=z950;obtain⟨i,rfl,q⟩:=q1;obtain⟨t,rfl⟩:=r1;exact⟨some i,H1,I1,.int i t,q⟩
def SlR (X:Cx) (r:V->Option Int->Option Int->Hp->VK->Prop):Prop :=
 ∀(pins:LO) (s:Shared) (σ:St) (H:Hp) (x:V) (v vl vu:Value) (lo hi:Option Int) (sl:Addr) (Q:VK),Inv X pins σ H s->RelV x v->s.heap.IsSliceOf sl vl vu .none->IsPart vl lo->IsPart vu hi->r x lo hi H Q ->
  ∃T id,typeLookup (.type T) "__getitem__"=pure (some (.builtin id))/\s.TypeIs v T/\wpAny (model X.prog X.w) X.A (getItem v (.ref sl)) (EP X pins σ Q) X.xe s
def tSl (r:V->Option Int->Option Int->Hp->VK->Prop) (te:TE) (tl th:TO):TE:=λσ H Q=>te σ H λx H1=>tl σ H1 λl H2=>th σ H2 λu H3=>r x l u H3 Q
def v1H {r:V->Option Int->Option Int->Hp->VK->Prop} (hr:SlR X r) (he:PE X e te) (hl:PO X lo tl) (hu:PO X hi th):PE X (.Subscript e (.Slice lo hi none p2) pos) (tSl r te tl th):=by
 intro pins s σ H Q I h;refine Subscript_ (thn (he pins s σ H _ I h) λv s1 z951=>?_)
 obtain⟨x,H1,I1,r1,q1⟩:=z951;refine wpAny_Slice (thn (hl pins s1 σ H1 _ I1 q1) λvl s2 ⟨l,H2,I2,pl,q2⟩=>thn (hu pins s2 σ H2 _ I2 q2) λvu s3 z953=>?_)
 obtain⟨u,H3,I3,pu,q3⟩:=z953;rw[evalPart_none];refine wpAny_pure ?_;have I4:Inv X pins σ H3 { s3 with heap:=s3.heap.push { cls:=.type "slice",data:=.fields #[vl,vu,.none] } }:=I3.kept (t':=s3.toks) λb ob q=>z0 _ q
 obtain⟨T,id,hT,ht,hg⟩:=hr pins { s3 with heap:=s3.heap.push { cls:=.type "slice",data:=.fields #[vl,vu,.none] } } σ H3 x v vl vu l u s3.heap.objs.size Q I4 r1 (Heap.IsSliceOf.new ..) pl pu q3
 show wpAny (model X.prog X.w) X.A (subscriptTail e (.Slice lo hi none p2) v (.ref s3.heap.objs.size)) (EP X pins σ Q) X.xe { s3 with heap:=s3.heap.push { cls:=.type "slice",data:=.fields #[vl,vu,.none] } }
 exact tail_any (ops:=[.ref s3.heap.objs.size,v]) ht hT hg (by with_unfolding_all rfl)
noncomputable def cutV (xs:List V) (lo hi:Option Int):List V:=(xs.drop (HT.sIx xs.length 0 lo)).take (HT.sIx xs.length xs.length hi - HT.sIx xs.length 0 lo)
def u4i (xs:List V) (lo hi:Option Int):(cutV xs lo hi).length<=xs.length:=by
 unfold cutV;rw[z3C,z2F];omega
def rSlT (K:W.Frag):V->Option Int->Option Int->Hp->VK->Prop:=λx lo hi H Q=>∃a xs,x=.ref a/\SqT K H a xs /\
 ¬ (HT.sIx xs.length 0 lo=0/\HT.sIx xs.length xs.length hi=xs.length)/\∀p,H p=none->Q (.ref p) (upd H p (.tup (cutV xs lo hi)))
def sl_tup:SlR X (rSlT X.K):=by
 intro pins s σ H x v vl vu lo hi sl Q I rx hs pl pu h;obtain⟨a,xs,rfl,hx,hw,q⟩:=h;cases rx;obtain⟨its,r,ht,hz⟩:=I.tuple hx;have hlen:its.toArray.size=xs.length:=by rw[y7];exact r.length.symm
 refine⟨"tuple",_,PyProof.Rows.slot_tuple_getitem.lookup,ht.typeIs,?_⟩;refine HT.getItem_tuple_cut ht hs pl pu (by rw[hlen];exact hw) ?_ (by rw[hlen];exact hz)
 rw[hlen];refine⟨.ref s.heap.objs.size,_,I.laid (t':=s.toks) (o:=.tup (cutV xs lo hi)) (λb ob q=>z0 _ q) (y0 _) ?_,rfl,q _ (I.hok.fresh (y0 _))⟩
 exact⟨y9 (u4i xs lo hi) hz,_,(r.drop (HT.sIx xs.length 0 lo)).take (HT.sIx xs.length xs.length hi - HT.sIx xs.length 0 lo),IsTup.new _ _⟩
end
noncomputable def ixN (n:Nat) (i:Int):Option Nat:=if 0<=i then (if i<n then some i.toNat else none) else if -(n:Int)<=i then some (i+n).toNat else none
noncomputable def atI(xs:List α) (i:Int):Option α:=(ixN xs.length i).bind λj=>xs[j]?
def v0i(h:ixN n i=some j):seqIndex? i n=some j/\j<n/\-(n:Int)<=i/\i<n:=by
 unfold ixN at h;by_cases h0:0<=i
 ·rw [if_pos h0] at h
  by_cases h1:i<n
  ·rw [if_pos h1] at h
   have e:i.toNat=j:=Option.some.inj h;exact⟨by rw[seqIndex_of h0 h1,e],by omega,by omega,h1⟩
  ·rw[if_neg h1] at h;cases h
 ·rw [if_neg h0] at h
  by_cases h1:-(n:Int)<=i
  ·rw [if_pos h1] at h
   have e:(i+n).toNat=j:=Option.some.inj h;exact⟨by rw[seqIndex_neg (by omega) h1,e],by omega,h1,by omega⟩
  ·rw[if_neg h1] at h;cases h
def u7r{xs:List α}{v:α} (h:atI xs i=some v):∃j,seqIndex? i xs.length=some j/\xs[j]?=some v/\j<xs.length/\-(xs.length:Int)<=i/\i<xs.length:=by
 unfold atI at h;cases e:ixN xs.length i with
 | none=>rw[e] at h;cases h
 | some j =>
  rw[e] at h;obtain⟨h1,h2,h3,h4⟩:=v0i e;exact⟨j,h1,h,h2,h3,h4⟩
def atI_nat{xs:List α}{v:α} (h:xs[j]?=some v):atI xs (j:Int)=some v:=by
 have hj:j<xs.length:=(w9.mp h).1;have e:ixN xs.length (j:Int)=some j:=by
  unfold ixN;rw[if_pos (by omega),if_pos (by omega)];simp
 unfold atI;rw[e];exact h
def PlainIx (b:Expr):Prop:=∀o i,subscripted b false o i=operate [o,i] (getItem o i)
def IxR (X:Cx) (r:R2):Prop :=
 ∀(value slice:Expr) (pins:LO) (s:Shared) (σ:St) (H:Hp) (x y:V) (v u:Value) (Q:VK),Inv X pins σ H s->RelV x v->RelV y u->r x y H Q ->
  subscripted slice false v u=operate [v,u] (getItem v u)->wpAny (model X.prog X.w) X.A (subscriptTail value slice v u) (EP X pins σ Q) X.xe s
def MtR (X:Cx) (id:String) (r:V->List V->Hp->VK->Prop):Prop :=
 ∀(pins:LO) (s:Shared) (σ:St) (H:Hp) (x:V) (xs:List V) (v:Value) (us:List Value) (Q:VK),Inv X pins σ H s->RelV x v->Vals xs us->r x xs H Q ->
  wpAny (model X.prog X.w) X.A (call (.builtin id) (v::us)) (EP X pins σ Q) X.xe s
section
variable {a b:Expr}{ta tb:TE}
def pe_ix {r:R2} (hr:IxR X r) (ha:PE X a ta) (hb:PE X b tb) (hs:PlainIx b):PE X (.Subscript a b pos) (tOp r ta tb):=by
 intro pins s σ H Q I h;exact Subscript_ (binT ha hb I h λv u s2 x y H2 I2 rx ry q=>hr a b pins s2 σ H2 x y v u Q I2 rx ry q (hs _ _))
def rIxL (K:W.Frag):R2:=λx y H Q=>∃p xs i v,x=.ref p/\y=.int i/\SqL K H p xs/\atI xs i=some v/\Q v H
def rIxT (K:W.Frag):R2:=λx y H Q=>∃p xs i v,x=.ref p/\y=.int i/\SqT K H p xs/\atI xs i=some v/\Q v H
def rIxS:R2:=λx y H Q=>∃z i c,x=.str z/\y=.int i/\z.length<=sizeLine/\atI z.cps.toList i=some c/\Q (.str ⟨#[c]⟩) H
def ix_list:IxR X (rIxL X.K):=by
 intro value slice pins s σ H x y v u Q I rx ry h hs;obtain⟨p,xs,i,z,rfl,rfl,hq,he,q⟩:=h;cases rx;obtain⟨t,rfl⟩:=ry;obtain⟨its,r,pl,hz⟩:=I.list hq;obtain⟨j,h1,h2,h3,h4,h5⟩:=u7r he;obtain⟨w,ew,rw'⟩:=r.get h2;have hl:=r.length;have hn:=line63;have fin:EP X pins σ Q w s:=⟨z,H,I,rw',q⟩;by_cases h0:0<=i
 ·have hj:i.toNat=j:=by
   rw[seqIndex_of h0 h5] at h1;exact Option.some.inj h1
  exact item_listR pl.isList h0 (by omega) (by rw[hj];simpa using ew) fin hs
 ·have hj:(i+(its.toArray.size:Int)).toNat=j:=by
   rw[seqIndex_neg (by omega) h4] at h1
   rw[y7,<- hl];exact Option.some.inj h1
  exact subscriptTail_builtinR (x:=w) pl.isList.typeIs slot_list_getitem.lookup
   (wpAny_getItem_list_neg (Q:=λr s'=>r=w/\EP X pins σ Q r s') pl.isList (by omega) (by rw[y7]<;>omega) (by omega) (by rw[hj];simpa using ew) ⟨rfl,fin⟩) hs
def ix_tup:IxR X (rIxT X.K):=by
 intro value slice pins s σ H x y v u Q I rx ry h hs;obtain⟨p,xs,i,z,rfl,rfl,hq,he,q⟩:=h;cases rx;obtain⟨t,rfl⟩:=ry;obtain⟨its,r,pl,hz⟩:=I.tuple hq;obtain⟨j,h1,h2,h3,h4,h5⟩:=u7r he;obtain⟨w,ew,rw'⟩:=r.get h2;have hl:=r.length;have hn:=line63;have fin:EP X pins σ Q w s:=⟨z,H,I,rw',q⟩;exact subscriptTail_builtinR (x:=w) pl.typeIs slot_tuple_getitem.lookup
  (getItem_tuple (j:=j) (Q:=λr s'=>r=w/\EP X pins σ Q r s') pl (by omega) (by omega) (by rw[y7,<- hl];exact h1) (by simpa using ew) ⟨rfl,fin⟩) hs
def ix_str:IxR X rIxS:=by
 intro value slice pins s σ H x y v u Q I rx ry h hs;obtain⟨z,i,c,rfl,rfl,hz,he,q⟩:=h;obtain⟨t,rfl⟩:=rx;obtain⟨t',rfl⟩:=ry;obtain⟨j,h1,h2,h3,h4,h5⟩:=u7r he;have hl:z.cps.toList.length=z.length:=by simp[Str.length]
 rw[hl] at h1 h4 h5;have hn:=line63;exact tail_any (typeIs_str s z t) slot_str_getitem.lookup (getItem_str (c:=c) (by
  have e1:decide (i < -(2^63:Int))=false:=decide_eq_false (by omega)
  have e2:decide (i ≥ 2^63)=false:=decide_eq_false (by omega)
  rw[e1,e2,Bool.or_false]) (by rw[h1];simpa using h2) ⟨.str ⟨#[c]⟩,H,I.tok _,⟨_,rfl⟩,q⟩) hs
def u8C (its:List Value) (n j:Nat) (u:Value):Obj.mapSeq (·.setIfInBounds j u) { cls:=.type "list",data:=.seq its.toArray n }={ cls:=.type "list",data:=.seq (its.set j u).toArray n }:=by
 simp[Obj.mapSeq]
theorem Inv.lst(I:Inv X pins σ H s) (h:H p=some (.lst xs)) :
  ∃(its:List Value) (n:Nat),Vals xs its/\s.heap.get? p=some { cls:=.type "list",data:=.seq its.toArray n }/\xs.length<=sizeLine:=by
 obtain⟨z,its,n,r,e⟩:=I.hok p _ h;exact⟨its,n,r,e,z⟩
def Inv.lstUpd{n':Nat}{f:Obj->Obj} (I:Inv X pins σ H s) (h:H p=some (.lst xs))
  (ho:s.heap.get? p=some { cls:=.type "list",data:=.seq its.toArray n }) (hf:f { cls:=.type "list",data:=.seq its.toArray n }={ cls:=.type "list",data:=.seq its'.toArray n' }) (r:Vals ys its') (hz:ys.length<=sizeLine) (t:Nat) :
  Inv X pins σ (upd H p (.lst ys)) { s with heap:=s.heap.update p f,toks:=t }:=by
 have e:(s.heap.update p f).get? p=some { cls:=.type "list",data:=.seq its'.toArray n' }:=by
  rw[u7 f ho (by rw[hf]<;>rfl),hf]
 refine I.write (x:=p) (e:=p) (by rw[h];trivial) (.inl rfl) (λb u hb q=>(x6 _ _ (Ne.symm hb)).trans q) ⟨_,e⟩ ?_
 exact⟨hz,its',n',r,e⟩
noncomputable def rSetL:V->V->V->Hp->(Hp->Prop)->Prop:=λo i v H Q=>∃p xs k j,o=.ref p/\i=.int k/\H p=some (.lst xs)/\ixN xs.length k=some j/\Q (upd H p (.lst (xs.set j v)))
def v1o:PSet X rSetL:=by
 intro pins s σ H o i v ov iv u Q I ro ri rv h;obtain⟨p,xs,k,j,rfl,rfl,hp,hj,q⟩:=h;cases ro;obtain⟨t,rfl⟩:=ri;obtain⟨its,n,r,ho,hz⟩:=I.lst hp;obtain⟨h1,h2,h3,h4⟩:=v0i hj;have hl:=r.length;have hn:=line63;have I':Inv X pins σ (upd H p (.lst (xs.set j v))) { s with heap:=s.heap.update p (Obj.mapSeq (·.setIfInBounds j u)) } :=
  I.lstUpd hp ho (u8C its n j u) (r.set rv j) (by rw[List.length_set];exact hz) s.toks
 by_cases h0:0<=k
 ·have hk:k.toNat=j:=by
   rw[seqIndex_of h0 h4] at h1;exact Option.some.inj h1
  exact W.ki_setAt ho h0 (by omega) (by rw[y7,<- hl];exact h4) (by rw[hk];exact⟨_,I',q⟩)
 ·have hk:(k+(its.toArray.size:Int)).toNat=j:=by
   rw[seqIndex_neg (by omega) h3] at h1
   rw[y7,<- hl];exact Option.some.inj h1
  exact W.ki_setBack ho (by omega) (by rw[y7,<- hl];exact h3) (by omega) (by rw[hk];exact⟨_,I',q⟩)
def u5E (lo hi:Option Int) (n:Nat):(sliceBounds lo hi none n).1=((HT.sIx n 0 lo:Nat):Int)/\(sliceBounds lo hi none n).2.1=((HT.sIx n n hi:Nat):Int)/\(sliceBounds lo hi none n).2.2=1:=by
 refine⟨?_,?_,rfl⟩
 ·cases lo with
  | none=>simp[sliceBounds,HT.sIx]
  | some i =>
   simp only[sliceBounds,HT.sIx,Option.getD_none,show(1:Int) > 0 by decide,if_true]
   by_cases h:i<0
   ·simp only[h,if_true]<;>omega
   ·simp only[h,if_false]<;>omega
 ·cases hi with
  | none=>simp[sliceBounds,HT.sIx]
  | some i =>
   simp only[sliceBounds,HT.sIx,Option.getD_none,show(1:Int) > 0 by decide,if_true]
   by_cases h:i<0
   ·simp only[h,if_true]<;>omega
   ·simp only[h,if_false]<;>omega
def u4T (its:List Value) (lo hi:Option Int):slicePick its.toArray lo hi none=((its.drop (HT.sIx its.length 0 lo)).take (HT.sIx its.length its.length hi - HT.sIx its.length 0 lo)).toArray:=by
 obtain⟨h1,h2,h3⟩:=u5E lo hi its.toArray.size;unfold slicePick;rw[h1,h2,h3];simp only[sliceRange_one,pick_run,y7]<;>rfl
def rSlL (K:W.Frag):V->Option Int->Option Int->Hp->VK->Prop:=λx lo hi H Q=>∃a xs,x=.ref a/\SqL K H a xs/\∀p,H p=none->Q (.ref p) (upd H p (.lst (cutV xs lo hi)))
def sl_list:SlR X (rSlL X.K):=by
 intro pins s σ H x v vl vu lo hi sl Q I rx hs pl pu h;obtain⟨a,xs,rfl,hx,q⟩:=h;cases rx;obtain⟨its,r,ht,hz⟩:=I.list hx;have hlen:=r.length;refine⟨"list",_,slot_list_getitem.lookup,ht.isList.typeIs,?_⟩;refine wpAny_getItem_list_slice ht.isList hs pl pu .none (by simp) ?_ (by rw[y7]<;>omega)
 rw[u4T,<- hlen];refine⟨.ref s.heap.objs.size,_,I.laid (t':=s.toks) (o:=.lst (cutV xs lo hi)) (λb ob q=>z0 _ q) (y0 _) ?_,rfl,q _ (I.hok.fresh (y0 _))⟩
 exact⟨y9 (u4i xs lo hi) hz,_,0,(r.drop (HT.sIx xs.length 0 lo)).take (HT.sIx xs.length xs.length hi - HT.sIx xs.length 0 lo),y6 _ rfl⟩
def u5U:OpR X (compareOp .NotIn) (λx y H Q=>∃i j,x=.str i/\y=.str j/\Q (.bl (!(!(Builtin.Str.occurrences j i 0 j.length 1).isEmpty))) H):=by
 intro pins s σ H x y v u Q I rx ry h;obtain⟨i,j,rfl,rfl,q⟩:=h;obtain⟨t,rfl⟩:=rx;obtain⟨t',rfl⟩:=ry;exact notIn_str ⟨.bl _,H,I,rfl,q⟩
def u2K:CallR X (.type "tuple") (λxs H Q=>∃p ys,xs=[.ref p]/\((SqL X.K H p ys/\∀l,H l=none->Q (.ref l) (upd H l (.tup ys)))\/(SqT X.K H p ys/\Q (.ref p) H))):=by
 intro pins s σ H xs us Q I r h;obtain⟨p,ys,rfl,h⟩:=h;obtain⟨u,rfl,rx⟩:=vals1 r;cases rx;rcases h with⟨hq,q⟩|⟨hq,q⟩
 ·obtain ⟨its,r',pl,hz⟩:=I.list hq
  have hlen:=r'.length;refine call_tuple_list pl.isList (λh' kp=>?_) (by simp only[y7]<;>omega)
  have I1:Inv X pins σ H { s with heap:=h' }:=I.kept (t':=s.toks) kp
  have I2:Inv X pins σ (upd H h'.objs.size (.tup ys)) { s with heap:=h'.push { cls:=.type "tuple",data:=.seq its.toArray } } :=
   I1.laid (t':=s.toks) (λb o e=>z0 _ e) (y0 _) (show ObjOk X.prog X.w _ _ _ (.tup ys) from⟨hz,its,r',IsTup.new _ _⟩)
  exact⟨.ref h'.objs.size,_,I2,rfl,q _ (I1.hok.fresh (y0 _))⟩
 ·obtain ⟨its,r',pl,hz⟩:=I.tuple hq
  exact call_tuple_same pl ⟨.ref p,H,I,rfl,q⟩
def tyV (K:W.Frag) (T:String) (x:V) (H:Hp):Prop:=match x with
 | .str _=>T="str"
 | .int _=>T="int"
 | .ref p=>(T="list"/\∃xs,SqL K H p xs)\/(T="tuple"/\∃o,K.lookup p=some o/\o.cls=.type "tuple"/\o.dict=none) \/
   (T="dict"/\((∃kvs,H p=some (.dK kvs))\/∃kvs,H p=some (.dT kvs)))\/(T="set"/\∃S n,H p=some (.set S n))
 | _=>False
def v2K{x:V}{v:Value} (I:Inv X pins σ H s) (r:RelV x v) (ty:tyV X.K T x H) :
  s.TypeIs v T/\∀a,v=.ref a->∃ob,s.heap.get? a=some ob/\ob.dict=none:=by
 cases x with
 | str z =>
  obtain⟨t,rfl⟩:=r;cases (show T="str" from ty)
  exact⟨typeIs_str s z t,λ_ e=>nomatch e⟩
 | int i =>
  obtain⟨t,rfl⟩:=r;cases (show T="int" from ty)
  exact⟨typeIs_int s i t,λ_ e=>nomatch e⟩
 | ref p =>
  cases r;rcases ty with⟨rfl,xs,hq⟩|⟨rfl,o,hk,hc,hd⟩|⟨rfl,hk⟩|⟨rfl,S,n,hk⟩
  ·obtain ⟨its,_,pl,_⟩:=I.list hq
   refine⟨pl.isList.typeIs,λa e=>?_⟩
   cases e;obtain⟨o,n,e,c,hd,_⟩:=pl;exact⟨o,e,hd⟩
  ·refine ⟨⟨o,I.kIn p o hk,hc⟩,fun a e=>?_⟩
   cases e;exact⟨o,I.kIn _ o hk,hd⟩
  ·have z:∃o,s.heap.get? p=some o/\o.ExactDict:=by
    rcases hk with⟨kvs,hk⟩|⟨kvs,hk⟩
    ·obtain ⟨_,_,_,_,o,_,_,e,ex,_⟩:=I.hok p _ hk
     exact⟨o,e,ex⟩
    ·obtain ⟨_,_,_,_,o,_,_,e,ex,_⟩:=I.hok p _ hk
     exact⟨o,e,ex⟩
   obtain⟨o,e,ex⟩:=z;refine⟨⟨o,e,ex.1⟩,λa e2=>?_⟩
   cases e2;exact⟨o,e,ex.2.1⟩
  ·obtain ⟨o,_,_,_,e,ex,_⟩:=I.hok p _ hk
   refine⟨⟨o,e,ex.1⟩,λa e2=>?_⟩
   cases e2;exact⟨o,e,ex.2.1⟩
 | _=>exact False.elim ty
def tBM0 (K:W.Frag) (T:String) (r:V->List V->Hp->VK->Prop) (to:TE):TE:=λσ H Q=>to σ H λx H1=>tyV K T x H1/\r x [] H1 Q
def tBM (K:W.Frag) (T:String) (r:V->List V->Hp->VK->Prop) (to:TE) (t:TA):TE:=λσ H Q=>to σ H λx H1=>tyV K T x H1/\t σ H1 λxs H2=>r x xs H2 Q
variable {o:Expr}{es:List Expr}{to:TE}{t:TA}{name:Str}{apos cpos:Pos}{id:String}{r:V->List V->Hp->VK->Prop}
def u9N (pa:PlainAttrs T) (slot:Slot T name id) (hty:typeOf (.builtin id)=pure (.type "method_descriptor")) (hm:MtR X id r) (ho:PE X o to)
  (hbase:attributeBase o name X.env (eval o X.env)=eval o X.env:=by rfl) (hline:(apos.endLine==cpos.line)=true:=by rfl):PE X (.Call (.Attribute o name apos) [] [] cpos) (tBM0 X.K T r to):=by
 intro pins s σ H Q I h;refine wpAny_Call_method0_late hbase hline (thn (ho pins s σ H _ I h) λv s1 z954=>?_)
 obtain⟨x,H1,I1,r1,ty,q1⟩:=z954;obtain⟨h1,h2⟩:=v2K I1 r1 ty;exact⟨T,id,pa,slot,hty,h1,h2,Calls.callWith_builtin rfl (PySem.evalArgs_none (hm pins s1 σ H1 x [] v [] Q I1 r1 .nil q1))⟩
def pe_bm (pa:PlainAttrs T) (slot:Slot T name id) (hty:typeOf (.builtin id)=pure (.type "method_descriptor")) (hm:MtR X id r) (ho:PE X o to) (ha:PA X (e::es) t)
  (hbase:attributeBase o name X.env (eval o X.env)=eval o X.env:=by rfl)
  (hfew:((backTo cpos (starEach (e::es) X.env)).all (fun x=>!x.1)&&(backToKw cpos (keywordEach [] X.env)).all (fun x=>x.1.isSome)
   && decide ((e::es).length+([]:List Keyword).length+(if ([]:List Keyword).isEmpty then 0 else 1)<30))=true:=by rfl)
  (hline:(apos.endLine==cpos.line)=true:=by rfl) (hs:starEach (e::es) X.env=(false,eval e X.env)::starEach es X.env:=by rfl) (hplain:(backTo cpos (starEach es X.env)).any (·.1)=false:=by rfl) :
  PE X (.Call (.Attribute o name apos) (e::es) [] cpos) (tBM X.K T r to t):=by
 intro pins s σ H Q I h;refine wpAny_Call_method_late hbase hfew hline rfl (thn (ho pins s σ H _ I h) λv s1 z955=>?_)
 obtain⟨x,H1,I1,r1,ty,q1⟩:=z955;obtain⟨h1,h2⟩:=v2K I1 r1 ty;refine⟨T,id,pa,slot,hty,h1,h2,?_⟩;have hA:=ha cpos pins s1 σ H1 _ I1 q1;rw[hs] at hA |-
 refine Calls.callWith_builtin (by show(false||(backTo cpos (starEach es X.env)).any (·.1))=false;rw[hplain]<;>rfl) (Calls.evalArgs_plain ?_)
 exact thn hA λus s2 ⟨vs,H2,I2,r2,q2⟩=>hm pins s2 σ H2 x vs v us Q I2 r1 r2 q2
end
def MtM (X:Cx) (id:String) (r:V->List V->Hp->VK->Prop):Prop :=
 ∀(pins:LO) (s:Shared) (σ:St) (H:Hp) (x:V) (xs:List V) (v:Value) (us:List Value) (Q:VK),Inv X pins σ H s->RelV x v->Vals xs us->r x xs H Q ->
  wpAny (model X.prog X.w) X.A (call (.builtin id) (v::us)) (EP X pins σ Q) X.xe s
theorem Vals.one:∀{x:V}{us:List Value},Vals [x] us->∃u,us=[u]/\RelV x u
 | _,_,.cons r .nil=>⟨_,rfl,r⟩
theorem Vals.zero:∀{us:List Value},Vals [] us->us=[]
 | _,.nil=>rfl
theorem Vals.dropLast(h:Vals xs us):Vals xs.dropLast us.dropLast:=by
 induction h with
 | nil=>exact .nil
 | cons r t ih =>
  cases t with
  | nil=>exact .nil
  | cons q t'=>exact .cons r ih
def u8J(l:List α):l.eraseIdx (l.length - 1)=l.dropLast:=by
 induction l with
 | nil=>rfl
 | cons a r ih =>
  cases r with
  | nil=>rfl
  | cons b r =>
   have e:(a::b::r).length - 1=((b::r).length - 1)+1:=by
    have h1:(a::b::r).length=r.length+2:=rfl;have h2:(b::r).length=r.length+1:=rfl;omega
   rw[e,List.eraseIdx_cons_succ,ih]
   all_goals rfl
section
variable {l b:Addr}{zs:List V}
def Inv.lset{f:Array Value->Array Value} (I:Inv X pins σ H s) (hH:H l=some (.lst xs))
  (e:s.heap.get? l=some { cls:=.type "list",data:=.seq its.toArray n }) (hf:f its.toArray=its'.toArray) (hv:Vals ys its') (hz:ys.length<=sizeLine) :
  Inv X pins σ (upd H l (.lst ys)) { s with heap:=s.heap.update l (Obj.mapSeq f),toks:=t' }:=by
 have q:=PySem.IsL.update e f;rw[hf] at q;refine I.write (x:=l) (e:=l) (by rw[hH];exact trivial) (.inl rfl) (λb' u hb hu=>(x6 s.heap (Obj.mapSeq f) (Ne.symm hb)).trans hu) ⟨_,q⟩ ?_
 exact⟨hz,its',_,hv,q⟩
def Inv.lnew(I:Inv X pins σ H s) (hv:Vals ys its) (hz:ys.length<=sizeLine) :
  Inv X pins σ (upd H s.heap.objs.size (.lst ys)) { s with heap:=s.heap.push { cls:=.type "list",data:=.seq its.toArray },toks:=t' } :=
 I.laid (λ_ _ q=>z0 _ q) (y0 _) ⟨hz,its,0,hv,y6 _ rfl⟩
theorem Inv.fresh (I:Inv X pins σ H s):H s.heap.objs.size=none:=I.hok.fresh (y0 _)
def Inv.lstM (I:Inv X pins σ H s) (hH:H l=some (.lst xs)):xs.length<=sizeLine/\∃(its:List Value) (n:Nat),Vals xs its/\xs.length=its.length/\s.heap.get? l=some { cls:=.type "list",data:=.seq its.toArray n }:=by
 obtain⟨z,its,n,r,e⟩:=I.hok l _ hH;exact⟨z,its,n,r,r.length,e⟩
def notLongL(h:n<=sizeLine):Builtin.List.listTooLong n=false:=by
 unfold Builtin.List.listTooLong;exact decide_eq_false (by omega)
end
def rAppend:V->List V->Hp->VK->Prop:=λx vs H Q=>∃l xs y,x=.ref l/\vs=[y]/\H l=some (.lst xs)/\xs.length<sizeLine/\Q .non (upd H l (.lst (xs++[y])))
def u1n:MtM X "list.append" rAppend:=by
 intro pins s σ H x vs v us Q I rx rv h;obtain⟨l,xs,y,rfl,rfl,hH,hz,q⟩:=h;cases rx;obtain⟨u,rfl,ru⟩:=rv.one;obtain⟨z,its,n,r,hl,e⟩:=I.lstM hH;refine call_meets F.slot_list_append ⟨_,e,rfl⟩ F.entry_list_append (F.args_list_append_2 _ _) (PySem.list_append l its.toArray n u (by rw[y7];omega)) ⟨e,?_⟩
 refine⟨.non,_,I.lset (its':=its++[u]) hH e (by simp) (r.append (.cons ru .nil)) ?_,rfl,q⟩
 rw[u4,z1H];omega
def rPop:V->List V->Hp->VK->Prop:=λx vs H Q=>∃l xs y,x=.ref l/\vs=[]/\H l=some (.lst xs)/\xs[xs.length - 1]?=some y/\Q y (upd H l (.lst xs.dropLast))
def v0e:MtM X "list.pop" rPop:=by
 intro pins s σ H x vs v us Q I rx rv h;obtain⟨l,xs,y,rfl,rfl,hH,hy,q⟩:=h;cases rx;have hus:=rv.zero;subst hus;obtain⟨z,its,n,r,hl,e⟩:=I.lstM hH;obtain⟨u,hu,ru⟩:=r.get hy;have hy':its.toArray[its.toArray.size - 1]?=some u:=by
  show its.toArray[its.length - 1]?=some u;rw[<- Array.getElem?_toList,<- hl];exact hu
 refine call_meets F.slot_list_pop ⟨_,e,rfl⟩ F.entry_list_pop (F.args_list_pop_1 _) (MeetsSeq.list_pop_last l its.toArray n u hy' (by rw[y7];omega)) ⟨e,?_⟩
 refine⟨y,_,I.lset (its':=its.dropLast) hH e ?_ r.dropLast ?_,ru,q⟩
 ·show its.toArray.eraseIdxIfInBounds (its.toArray.size - 1)=its.dropLast.toArray
  rw[y7,List.eraseIdxIfInBounds_toArray,u8J]
 ·rw [List.length_dropLast]
  omega
end L2
namespace Att
open PySem PySem.W PySem.Calls PyProof.Rows
variable {P:Params}{h:Heap}{n:Nat}
def u4a:∀(ns:List Int) (vs:List Value),WellAll P h vs (ns.map WData.int)->IntsAre vs ns:=by
 intro ns;induction ns with
 | nil =>
  intro vs w;rw[List.map_nil] at w;cases w;exact .nil
 | cons n ns ih =>
  intro vs w;rw[z0C] at w;cases w with
  | cons a b =>
   cases a;exact .cons _ _ (ih _ b)
def u9p{l:OpenLaw} (hn:l.most=some n) {args:List WData}{vals:List Value}
  (hpre:l.row.toRowW.claim.pre args=true) (hwl:WellAll P h vals args) :
  ∃a vs ns,vals=[Value.ref a]/\args=[WData.list (ns.map WData.int)]/\h.get? a=some { cls:=.type "list",data:=.seq vs.toArray }/\IntsAre vs ns/\ns.length<=n:=by
 have hsh:WShape.hasAll [] args [.list .int]=true:=(pre_splitW hpre).1;have hc:l.pre.holds [] { args:=args }=true:=(pre_splitW hpre).2;obtain⟨d,r,rfl,h1,h2⟩:=hasAllW_cons hsh;obtain rfl:=hasAllW_nil h2;obtain⟨xs,rfl,h3⟩:=hasW_list h1;obtain⟨ns,rfl⟩:=items_int h3;have hlen:ns.length<=n:=by
  unfold OpenLaw.pre at hc;have h4:(WTm.not (.lt (.lit (.int (n:Int))) (.len (.arg 0)))).holds [] { args:=[.list (ns.map .int)] }=true:=by
   have h4:=(holds_andW hc).1;rw[hn] at h4;exact h4
  have h5:=condW_of h4 (w_not (w_lt w_lit (w_len_list (w_arg rfl))));rw[x9] at h5;refine Nat.le_of_not_lt λq=>?_
  have q':(n:Int)<((ns.length:Nat):Int):=by omega
  first
   | (rw[decide_eq_true q'] at h5;exact absurd h5 (by decide))
   | (simp at h5;omega)
 cases hwl with
 | cons w1 w2 =>
  cases w2;cases w1 with
  | list ho hall=>exact⟨_,_,ns,rfl,rfl,ho,u4a ns _ hall,hlen⟩
def u9D (l:OpenLaw) (args:List WData):l.row.toRowW.claim.post args (.bool true) args=true :=
 postW_of (r:=l.row.toRowW) (X:=(true==true))
  (show WShape.has [] (.bool true) .bool=true by first|rfl|decide|simp[WShape.has,WShape.arms,WShape.armsAll])
  (show(WTm.eq .res (.lit (.bool true))).value [] { args:=args,res:=some (.bool true),after:=args }=some (.bool (true==true)) from w_eq_bool (w_res rfl) w_lit) rfl
def attach_call{l:OpenLaw}{q:Program}{loose:List Str}{XP:(Str->Option Value)->Heap->Prop}{YP:World->Heap->Prop}{d:DefRec}
  (hn:l.most=some n) (hdf:d.params.defaults=[])
  (call:∀ (w:World) (s₀ s₁:Shared) (mg mb:MG) (fa:Addr) (o:Obj) (pm cd doc:Value) (a:Addr) (vs:List Value) (ns:List Int),
   Ground q loose [] XP w s₀ mg mb s₁.heap->YP w s₁.heap ->
   s₁.heap.get? fa=some o->o.data=.func (docDef d.name d.params d.body d.scope pm cd doc)->s₁.heap.CodeRec cd d.name->mg d.name=some (.ref fa) ->
   s₁.heap.get? a=some { cls:=.type "list",data:=.seq vs.toArray }->IntsAre vs ns->ns.length<=n->s₁.gens=#[] ->
   codeAny (model l.prog w) callerA (.call (.ref fa) ⟨[.ref a],[]⟩) (λr s'=>r=.ok (.ret (.bool true))/\OldK s₁.heap s'.heap/\s'.os=s₁.os/\AllBare s'.gens) s₁) :
  WalkO q loose XP YP l.row.toRowW d [] (λf vs=>PySem.call f vs):=by
 intro w s₀ s₁ mg mb G Y fa o pm cd doc dV kV ho hd hcd hD hmg hg args vals as hpre hlay hrd hwl hlo;obtain rfl:dV=.none:=Dflts.none hD hdf;obtain rfl:kV=.none:=Dflts.noKw hD;obtain⟨a,vs,ns,rfl,rfl,hobj,hints,hlen⟩:=u9p hn hpre hwl;refine enter_call (codeAny_mono (call w s₀ s₁ mg mb fa o pm cd doc a vs ns G Y ho (fd_plain hd) hcd hmg hobj hints hlen hg) λr s' hq=>?_)
 obtain⟨rfl,h2,h3,h4⟩:=hq;exact⟨.inl ⟨.bool true,.bool true,[],rfl,λ_=>rfl,.bool true,u9D l _,λ_=>⟨List.Pairwise.nil,λ_ hm=>(nomatch hm)⟩⟩,h2,h3,h4⟩
end Att
namespace L2
open PySem PySem.Spec PyProof.Rows
variable {P q prog:Program}{w:World}{K:W.Frag}{mg m mA:MG}{k n j t' i k':Nat}{a f C it fI C' C0:Addr}{fd:FuncData}{x qual y name z:Str}{sp:Sp}{s₁ s s':Shared}{vs xs dvs:List V}{loose N ps own:List Str}{X:Cx}{st b0:Stmt}{oc u fl head:Value}{od an dx d:Option Addr}{H H' F' F0:Hp}{l c elt iter tg e b value:Expr}{h h':Heap}{scope sc:Scope}{env:Env}{outs ix:List Nat}{A:Around}{ifs es rest tgs:List Expr}{pos spos p apos cpos pos':Pos}{pins:LO}{σ:St}{te tl ta tv:TE}{Q:VK}{t T:String}{v:V}{sts body bs:List Stmt}{α β:Type}{ox oe:Obj}{B:Hp×Hp}{bb nx:Bool}{us:List Value}
theorem u5y:∀{vs:List Value}{ns:List Int},IntsAre vs ns->Vals (ns.map V.int) vs
 | _,_,.nil=>.nil
 | _,_,.cons n t h=>.cons ⟨t,rfl⟩ (u5y h)
def Only (H:Hp):Prop:=∀b,H b=none\/∃o xs,H b=some (.frz o (.lst xs))
def v2b{mb:MG}{CX:CXT}{fa:Addr}{vs:List Value}{ns:List Int}
  (KX:K.In s₁.heap) (hns:s₁.heap.Ns mainGlobals mg) (hb:s₁.heap.Ns builtinsNs mb) (hbb:∀x:Str,x≠"__name__"->mb x=bootBuiltins x) (hlim:s₁.heap.NoLimit) (hg:s₁.gens=#[])
  (ha:s₁.heap.get? a=some { cls:=.type "list",data:=.seq vs.toArray }) (hi:IntsAre vs ns) (hl:ns.length<=sizeLine) (hr:Room k callerA)
  (F:∀base:Heap,K.In base->base.Ns mainGlobals mg->FnOk P w K mg base CX k fa fd [x] sp) (hbind:∀(s:Shared) (u:Value),BindsTo s fd ⟨[u],[]⟩ [(x,u)])
  (hsp:∀H:Hp,Only H->SqL K H a (ns.map V.int)->sp [.ref a] H (λv _=>v=.bl true) λ_ _ _=>False)
  (hCX:∀H e s',CX [] H s₁ (λ_ _ _=>False) e s'->False) :
  codeAny (model P w) callerA (.call (.ref fa) ⟨[.ref a],[]⟩) (λr s'=>r=.ok (.ret (.bool true))/\OldK s₁.heap s'.heap/\s'.os=s₁.os/\AllBare s'.gens) s₁:=by
 have rv:=u5y hi;have lenV:=hi.length;have core:∀H:Hp,Only H->SqL K H a (ns.map V.int)->HOk P w H s₁.heap->(∀b,H b≠none->b=a)->(H a≠none->K.lookup a=none) ->
   codeAny (model P w) callerA (.call (.ref fa) ⟨[.ref a],[]⟩) (λr s'=>r=.ok (.ret (.bool true))/\OldK s₁.heap s'.heap/\s'.os=s₁.os/\AllBare s'.gens) s₁:=by
  intro H hO hS hok hA hK;have base_of:∀{b:Addr}{o:Obj},s₁.heap.get? b=some o->H b=none->(hidT s₁.heap H).get? b=some o:=λe n=>v2g e n
  have noA:∀{b:Addr}{o:Obj}{es:Array DictEntry}{ep:Nat},s₁.heap.get? b=some o->o.data=.dict es ep->H b=none:=λ{b o es ep} e d=>by
   cases q:H b with
   | none=>rfl
   | some u =>
    have e':b=a:=hA b (by rw[q];simp)
    subst e';rw[ha] at e;cases e;have d':Data.seq vs.toArray _=Data.dict es ep:=d;cases d'
  have nsK:∀{b:Addr}{m:MG},s₁.heap.Ns b m->(hidT s₁.heap H).Ns b m:=λ{b m} ⟨o,es,ep,e,d,r⟩=>⟨o,es,ep,base_of e (noA e d),d,r⟩
  have hKb:K.In (hidT s₁.heap H):=λb o e=>base_of (KX b o e) (by
   cases q:H b with
   | none=>rfl
   | some u =>
    have e':b=a:=hA b (by rw[q];simp)
    subst e';rw[hK (by rw[q];simp)] at e;cases e)
  have hM:Mod K mg (hidT s₁.heap H):=⟨hKb,nsK hns,⟨mb,nsK hb,hbb⟩,by obtain⟨mc,h1,h2⟩:=hlim;exact⟨mc,nsK h1,h2⟩⟩
  have e0:Env0 P w K mg (hidT s₁.heap H) callerA [] s₁ H:=⟨rfl,hM,λb o e=>of_hidT e,Nat.le_of_eq (v0n _ _),trivial,λb hb=>absurd (show b∈([]:List Addr) from hb) (by simp),hok,.of_eq hg⟩
  refine codeAny_mono ((F _ hKb (nsK hns)).run callerA [] s₁ H ⟨[.ref a],[]⟩ [.ref a] [.ref a] _ _ hr e0 (hbind s₁ (.ref a)) (.cons rfl .nil) (hsp H hO hS)) λr s' h=>?_
  cases r with
  | error e=>exact(hCX H e s' h).elim
  | ok fl =>
   cases fl with
   | next=>exact False.elim h
   | brk=>exact False.elim h
   | cont=>exact False.elim h
   | ret u =>
    obtain⟨v,H',os,bare,un,hok',r',q⟩:=h;have q':v=.bl true:=q;subst q';obtain rfl:u=Value.bool true:=r';refine⟨rfl,OldK.of_keep λb o e=>?_,os,bare⟩
    cases q:H b with
    | none=>exact un.keep b o e q (by intro z;exact absurd (show b∈([]:List Addr) from z) (by simp)) (by simp)
    | some u =>
     rcases hO b with z|⟨ob,xs,z⟩
     ·rw[q] at z;cases z
     ·have z2:=un.frzs b ob _ z
      obtain⟨e1,_⟩:=hok b _ z;obtain⟨e2,_⟩:=hok' b _ z2;rw[e] at e1;cases e1;exact e2
 cases hk:K.lookup a with
 | some o =>
  have e:=KX a o hk;rw[ha] at e;cases e;refine core (λ_=>none) (λ_=>.inl rfl) (.inr ⟨_,vs.toArray,_,hk,rfl,rfl,rfl,by rw[y7,lenV];exact hl,by simpa using rv⟩) (λb u z=>by have z':(none:Option HO)=some u:=z;cases z') (λb z=>absurd rfl z) λz=>absurd rfl z
 | none =>
  refine core (λb=>if b=a then some (.frz { cls:=.type "list",data:=.seq vs.toArray } (.lst (ns.map V.int))) else none) (λb=>?_) (.inl (.inr ⟨{ cls:=.type "list",data:=.seq vs.toArray },if_pos rfl⟩)) (λb u z=>?_) (λb z=>?_) λ_=>hk
  ·by_cases hb:b=a
   ·exact .inr ⟨_,_,if_pos hb⟩
   ·exact .inl (if_neg hb)
  ·by_cases hb:b=a
   ·have z':=(if_pos hb).symm.trans z
    cases z';subst hb;exact⟨ha,by rw[x9];exact hl,vs,_,rv,ha⟩
   ·have z':=(if_neg hb).symm.trans z
    cases z'
  ·by_cases hb:b=a
   ·exact hb
   ·exact absurd (if_neg hb) z
def walk_of{l:W.OpenLaw}{XP:(Str->Option Value)->Heap->Prop}{YP:World->Heap->Prop}{d:DefRec}{K:Params->W.Frag}{CX:World->CXT}{sp:World->Sp}
  (hn:l.most=some n) (hn2:n<=sizeLine) (hdf:d.params.defaults=[]) (hr:Room k callerA)
  (hY:∀(w:World) (h:Heap),YP w h->(K w.params).In h)
  (F:∀ (w:World) (mg:MG) (fa:Addr) (h:Heap),(K w.params).In h->h.Ns mainGlobals mg->mg d.name=some (.ref fa) ->
   ∃fd:FuncData,(∀(s:Shared) (u:Value),BindsTo s fd ⟨[u],[]⟩ [(x,u)]) /\
    ∀base:Heap,(K w.params).In base->base.Ns mainGlobals mg->FnOk l.prog w (K w.params) mg base (CX w) k fa fd [x] (sp w))
  (hsp:∀(w:World) (H:Hp) (a:Addr) (ns:List Int),ns.length<=n->Only H->SqL (K w.params) H a (ns.map V.int)->sp w [.ref a] H (λv _=>v=.bl true) λ_ _ _=>False)
  (hCX:∀(w:World) (H:Hp) (s:Shared) (e:Value) (s':Shared),CX w [] H s (λ_ _ _=>False) e s'->False) :
  W.WalkO q loose XP YP l.row.toRowW d [] (λf vs=>PySem.call f vs):=by
 refine Att.attach_call hn hdf λw s₀ s₁ mg mb fa o pm cd doc a vs ns G Y ho hd hcd hmg hobj hints hlen hg=>?_
 have KX:=hY w _ Y;obtain⟨fd,hb,hF⟩:=F w mg fa _ KX G.T.g hmg;exact v2b KX G.T.g G.T.b G.T.builtins G.T.nolimit hg hobj hints (y9 hlen hn2) hr hF hb (λH hO hS=>hsp w H a ns hlen hO hS) λH e s'=>hCX w H s₁ e s'
noncomputable def defArgs (s:Stmt):Arguments:=match s with
 | .FunctionDef _ a _ _ _ _ _ _ _ _=>a
 | _=>{ posonlyargs:=[],args:=[],vararg:=none,kwonlyargs:=[],kw_defaults:=[],kwarg:=none,defaults:=[] }
noncomputable def defBody (s:Stmt):List Stmt:=match s with
 | .FunctionDef _ _ b _ _ _ _ _ _ _=>b
 | _=>[]
noncomputable def defScope (s:Stmt):Scope:=match s with
 | .FunctionDef _ _ _ _ _ _ sc _ _ _=>sc
 | _=>{ kind:=.function,names:=[],isGenerator:=false,isCoroutine:=false }
abbrev CX0:CXT:=λ_ _ _ _ _ _=>False
abbrev E0:XK:=λ_ _ _=>False
def pass0:Passes CX0 X E0:=λ_ _ _ _ _ _ _ h=>h.elim
structure Fun (K:W.Frag) (x qual:Str) (st:Stmt) (f:Addr) (fd:FuncData):Prop where
 ex:∃(oc:Value) (od:Option Addr) (kV doc pm:Value) (an:Option Addr) (cdv ct:Value) (osl:Array (Option Value)),
  fd=W.fnOf x qual (defArgs st) (defBody st) (defScope st) .none kV doc pm an cdv ct/\K.lookup f=some ⟨oc,od,.func fd,osl⟩/\W.codeIn K cdv qual=true
 kp:W.keepIn K (.ref f)=true
section
variable {base:Heap}
def Fun.ok(F:Fun K x qual st f fd) (S:FnScope N ps (defScope st)) (len:∀vs H Q E,sp vs H Q E->vs.length=ps.length)
  (hbody:∀ (cdv:Value) (A:Around) (outer:List Env) (s:Shared) (H:Hp) (vs:List V) (Q:VK) (E:XK),Room k (A.deeper (envOfC qual (defScope st) s.heap.objs.size f cdv))->sp vs H Q E ->
   ∃t,PSs (cxOf CX0 P w K mg base N qual (defScope st) f cdv A outer s H E).nox (defBody st) t/\t { nx:=λ_ H'=>Q .non H',rt:=Q } (start N vs) H):FnOk P w K mg base CX0 (k+1) f fd ps sp:=by
 obtain⟨oc,od,kV,doc,pm,an,cdv,ct,osl,rfl,lk,hcd⟩:=F.ex;refine fn_of lk hcd S len λA outer s H vs Q E hr hsp=>?_
 obtain⟨t,h,q⟩:=hbody cdv A outer s H vs Q E hr hsp;exact⟨t,h.nox,q⟩
def Fun.binds(F:Fun K x qual st f fd)
  (h:∀(kV doc pm:Value) (an:Option Addr) (cdv ct:Value) (us:List Value),us.length=ps.length->bindArgs (W.fnOf x qual (defArgs st) (defBody st) (defScope st) .none kV doc pm an cdv ct) ⟨us,[]⟩=pure (ps.zip us)):Binds K fd ps []:=by
 obtain⟨oc,od,kV,doc,pm,an,cdv,ct,osl,rfl,lk,hcd⟩:=F.ex;exact .all (h kV doc pm an cdv ct)
def u7Z{osl:Array (Option Value)}{kV doc pm cdv ct:Value} (l:K.lookup f=some ⟨oc,od,.func (W.fnOf x qual (defArgs st) (defBody st) (defScope st) .none kV doc pm an cdv ct),osl⟩)
  (c:W.codeIn K cdv qual=true) (k:W.keepIn K (.ref f)=true):Fun K x qual st f (W.fnOf x qual (defArgs st) (defBody st) (defScope st) .none kV doc pm an cdv ct):=⟨⟨oc,od,kV,doc,pm,an,cdv,ct,osl,rfl,l,c⟩,k⟩
end
def Same (H H':Hp):Prop:=∀b o,H b=some o->H' b=some o
def Same.refl (H:Hp):Same H H:=λ_ _ h=>h
def Same.trans{H1 H2:Hp} (a:Same H H1) (b:Same H1 H2):Same H H2:=λc o h=>b c o (a c o h)
def Same.free(e:Same H H') {l:Addr} (h:H' l=Option.none):H l=Option.none:=by
 cases q:H l with
 | none=>rfl
 | some o =>
  rw[e l o q] at h;cases h
def Same.seq(e:Same H H') (h:SqL K H a xs):SqL K H' a xs:=by
 rcases h with(h|⟨o,h⟩)|h
 ·exact .inl (.inl (e _ _ h))
 ·exact .inl (.inr ⟨o,e _ _ h⟩)
 ·exact .inr h
section
variable {h1 h2:Heap}{o:HO}{fs ex:List Addr}
def HOk.track (x:HOk P w H h) (hn:H a=none) (new:ObjOk P w (upd H a o) h a o):HOk P w (upd H a o) h:=λb u e=>by
 by_cases hb:b=a
 ·subst hb;rw[u0c] at e;cases e;exact new
 ·rw [u0e hb] at e
  exact(x b u e).stay (λ_ _ _ q=>q) (λc q=>by rw[u0e (u0z q hn)];exact q) (λc xs q=>by rw[u0e (u0z q hn)];exact q)
def Un.track (u:Un fs ex H H' h h1) (hn:H' a=none) (ha:h.get? a=none):Un fs ex H (upd H' a o) h h1 where
 keep:=u.keep
 slot:=u.slot
 free:=λb ob q n hx=>by
  rw[u0e (by rintro rfl;rw[ha] at q;cases q)]
  exact u.free b ob q n hx
 there:=u.there
 tups:=λb xs q=>by have:=u.tups b xs q;rw[u0e (u0z this hn)];exact this
 frzs:=λb ob xs q=>by have:=u.frzs b ob xs q;rw[u0e (u0z this hn)];exact this
 tbls:=λb ps q=>by
  obtain⟨m,this⟩:=u.tbls b ps q;exact⟨m,by rw[u0e (u0z this hn)];exact this⟩
end
theorem u3l (env:Env) (f:Str×NameKind->List (Str×Addr)->Sem (ForInStep (List (Str×Addr))))
  (h1:∀n cs a,env.cells.lookup n=some a->f (n,.free) cs=pure (.yield ((n,a)::cs))) (h2:∀n k cs,k≠.free->f (n,k) cs=pure (.yield cs)) :
  ∀(l:List (Str×NameKind)) (cs:List (Str×Addr)),(∀x∈l,x.2=.free->∃c,env.cells.lookup x.1=some c)->(∀x c,cs.lookup x=some c->env.cells.lookup x=some c) ->
   ∃cl,forIn l cs f=pure cl/\(∀x c,cl.lookup x=some c->env.cells.lookup x=some c)/\(∀x∈l,x.2=.free->∃c,cl.lookup x.1=some c)/\∀x c,cs.lookup x=some c->∃c',cl.lookup x=some c'
 | [],cs,_,hc=>⟨cs,rfl,hc,(λ_ z=>(nomatch z)),λx c q=>⟨c,q⟩⟩
 | (n,k)::l,cs,hl,hc=>by
  by_cases hk:k=.free
  ·subst hk
   obtain⟨a,ha⟩:=hl (n,.free) z6 rfl;have hc':∀x c,((n,a)::cs).lookup x=some c->env.cells.lookup x=some c:=λx c q=>by
    rw[u6] at q;cases e:x==n with
    | true=>rw[e] at q;cases q;rw[eq_of_beq e];exact ha
    | false=>rw[e] at q;exact hc x c q
   obtain⟨cl,e,p1,p2,p3⟩:=u3l env f h1 h2 l ((n,a)::cs) (λx hx=>hl x (z5 _ hx)) hc'
   refine⟨cl,?_,p1,λx hx hf=>?_,λx c q=>?_⟩
   ·rw[List.forIn_cons,h1 n cs a ha,pure_bind];exact e
   ·rcases z7.mp hx with rfl | hx
    ·exact p3 n a (by rw[u6];simp)
    ·exact p2 x hx hf
   ·by_cases e:(x==n)=true
    ·exact p3 x a (by rw[u6,e])
    ·have e':(x==n)=false:=by simpa using e
     exact p3 x c (by rw[u6,e'];exact q)
  ·obtain ⟨cl,e,p1,p2,p3⟩:=u3l env f h1 h2 l cs (fun x hx=>hl x (z5 _ hx)) hc
   refine⟨cl,?_,p1,λx hx hf=>?_,p3⟩
   ·rw[List.forIn_cons,h2 n k cs hk,pure_bind];exact e
   ·rcases z7.mp hx with rfl | hx
    ·exact absurd hf hk
    ·exact p2 x hx hf
def u1L(h:∀x∈scope.names,x.2=.free->∃c,env.cells.lookup x.1=some c) :
  ∃cl,closureFor scope env=pure cl/\(∀x c,cl.lookup x=some c->env.cells.lookup x=some c)/\∀x∈scope.names,x.2=.free->∃c,cl.lookup x.1=some c:=by
 unfold closureFor;obtain⟨cl,e,p1,p2,_⟩:=u3l env (λ(x:Str×NameKind) (r:List (Str×Addr))=>match x with
   | (name,kind)=>if (kind==NameKind.free)=true then (do let a <- cellOf env name;pure (ForInStep.yield ((name,a)::r))) else pure (ForInStep.yield r))
  (fun n cs a ha=>by simp [cellOf,ha]) (fun n k cs hk=>by
   have:(k==NameKind.free)=false:=by simpa using hk
   simp[this]) scope.names [] h (λx c q=>by simp at q)
 refine⟨cl,?_,p1,p2⟩
 first
  | (rw[e];rfl)
  | (simp only[pure_bind,bind_pure] at e |-;exact e)
  | (show(forIn scope.names [] _ >>= _)=_;rw[e];rfl)
theorem u1r (env:Env):∀(names:List (Str×NameKind)) (x:Str),
  (names.map fun (n,k)=>if (k==NameKind.free&&env.scope.kind==.function&&env.kindOf n==some .cell) then (n,NameKind.cell) else (n,k)).lookup x =
   (names.lookup x).map λk=>if (k==NameKind.free&&env.scope.kind==.function&&env.kindOf x==some .cell) then NameKind.cell else k
 | [],x=>rfl
 | (n,k)::r,x=>by
  have ih:=u1r env r x;show List.lookup x ((if (k==NameKind.free&&env.scope.kind==.function&&env.kindOf n==some .cell)=true then (n,NameKind.cell) else (n,k))::_)=_
  cases hx:x==n with
  | true =>
   have e:=eq_of_beq hx;subst e;by_cases hc:(k==NameKind.free&&env.scope.kind==.function&&env.kindOf x==some .cell)=true
   ·rw[if_pos hc];simp only[u6,hx,Option.map_some,if_pos hc]
   ·rw[if_neg hc];simp only[u6,hx,Option.map_some,if_neg hc]
  | false =>
   by_cases hc:(k==NameKind.free&&env.scope.kind==.function&&env.kindOf n==some .cell)=true
   ·rw[if_pos hc];simp only[u6,hx];exact ih
   ·rw[if_neg hc];simp only[u6,hx];exact ih
abbrev cxC (X:Cx) (own:List Str) (outs:List Nat) (scope:Scope) (cl:List (Str×Addr)) (C:Addr) (s:Shared) (H:Hp) (fp:List Addr):Cx where
 prog:=X.prog
 w:=X.w
 K:=X.K
 mg:=X.mg
 base:=X.base
 A:=X.A
 N:=own++outs.map λj=>X.N.getD j Str.empty
 s₀:=s
 H₀:=H
 env:=compEnvC scope cl C X.env
 outer:=X.stack
 stack:=X.stack
 ex:=fp
 fn:=λ_=>false
 calm:=X.calm
 pn:=[]
 xe:=λ_ _=>False
noncomputable def stC (k:Nat) (outs:List Nat) (σ:St):St:=List.replicate k none++outs.map λj=>(σ[j]?).join
structure CompOk (sc:Scope) (N:List Str) (own:List Str) (outs:List Nat) (scope:Scope):Prop where
 kind:scope.kind=.function
 cell:∀y∈scope.names,y.2≠.cell
 loc:∀y∈scope.names,y.2=.local->scope.names.lookup y.1=some .local
 fre:∀y∈scope.names,y.2=.free->sc.names.lookup y.1=some .cell\/sc.names.lookup y.1=some .free
 out:∀j∈outs,∃y,N[j]?=some y/\scope.names.lookup y=some .free
 ownN:∀y∈own,scope.names.lookup y=some .local
noncomputable def compB (sc:Scope) (N:List Str) (own:List Str) (outs:List Nat) (scope:Scope):Bool :=
 decide (scope.kind=.function)&&scope.names.all (λy=>y.2 != .cell)&&scope.names.all (λy=>y.2 != .local||scope.names.lookup y.1==some .local) &&
 scope.names.all (λy=>y.2 != .free||sc.names.lookup y.1==some .cell||sc.names.lookup y.1==some .free) &&
 outs.all (λj=>match N[j]? with|some y=>scope.names.lookup y==some .free|none=>false)&&own.all (λy=>scope.names.lookup y==some .local)
def u1b(h:compB sc N own outs scope=true):CompOk sc N own outs scope:=by
 unfold compB at h;simp only[z1G,z3E,decide_eq_true_eq] at h;obtain⟨⟨⟨⟨⟨h1,h2⟩,h3⟩,h4⟩,h5⟩,h6⟩:=h;refine⟨h1,λy hy=>?_,λy hy hl=>?_,λy hy hl=>?_,λj hj=>?_,λy hy=>?_⟩
 ·simpa using h2 y hy
 ·have:=h3 y hy
  rw[hl] at this;simpa using this
 ·have:=h4 y hy
  rw[hl] at this;simpa using this
 ·have:=h5 j hj
  cases e:N[j]? with
  | none=>rw[e] at this;cases this
  | some y=>rw[e] at this;exact⟨y,rfl,by simpa using this⟩
 ·simpa using h6 y hy
def PIf (X:Cx) (ifs:List Expr) (t:TT):Prop :=
 ∀(pins:LO) (s:Shared) (σ:St) (H:Hp) (Q:Bool->Hp->Prop),Inv X pins σ H s->t σ H Q ->
  wpAny (model X.prog X.w) X.A (forIn ifs true λc r=>if r=true then do let ok <- isTrue c X.env (eval c X.env);pure (ForInStep.yield ok) else pure (ForInStep.yield r)) (TP X pins σ Q) X.xe s
def tYes:TT:=λ_ H Q=>Q true H
def pif_nil:PIf X [] tYes:=λpins s σ H Q I h=>wpAny_pure ⟨H,I,h⟩
def pif_one{t:TT} (hc:PT X c t):PIf X [c] t:=λpins s σ H Q I h=>by
 rw[List.forIn_cons];simp only[if_true,List.forIn_nil];refine wpAny_bind (wpAny_bind (thn (hc pins s σ H Q I h) λb s1 q=>wpAny_pure (wpAny_pure q)))
def CompRd (k:Nat) (outs:List Nat) (σ:St) (g:TG) (ti:TT) (te:TE) (J:It) (H1:Hp) (Q:VK):Prop:=∃W:Nat->Nat->List V->Hp->Prop,(∃m,W 0 m [] H1)/\∀i m ys H,W i m ys H->ys.length<=sizeLine /\
 ((J.stop i H/\∀ p,H p=none->Q (.ref p) (upd H p (.lst ys))) \/
  (J.go i H/\∃N:List V->Hp->Prop,(∀ys' H',N ys' H'->∃m',m'<m/\W (i+1) m' ys' H')/\∀x H',J.yld i H x H'->g x (stC k outs σ) H' λσ2 H2=>σ2.drop k=(outs.map λj=>(σ[j]?).join)/\ti σ2 H2 λb H3=>if b=true then te σ2 H3 λy H4=>N (ys++[y]) H4 else N ys H3))
def tComp (k:Nat) (outs:List Nat) (wi:TI) (g:TG) (ti:TT) (te:TE):TE:=λσ H Q=>wi σ H λJ H1=>CompRd k outs σ g ti te J H1 Q
theorem u4y{R:Result->Shared->Prop}{target:Expr}{it acc:Value} (I:Nat->Shared->Prop)
  (turn:∀ n s,I n s->wpAny (model prog w) A (pyNext it) (fun r s₁=>match r with
   | none=>R (.ok .next) s₁
   | some v=>wpAny (model prog w) A (letOwnedTupleGo target it v) (λ_ s₁'=>wpAny (model prog w) A (assign target env v) (λ_ s₂ =>
     wpAny (model prog w) A (forIn ifs true λc r=>if r=true then do let ok <- isTrue c env (eval c env);pure (ForInStep.yield ok) else pure (ForInStep.yield r)) (λok s₃ =>
      if ok=true then wpAny (model prog w) A (eval elt env) (λx s₄ =>
       wpAny (model prog w) A (call (.builtin "list.append") [acc,x]) (λ_ s₅=>∃m,m<n/\I m s₅) (λ_ _=>False) s₄) (λ_ _=>False) s₃
      else ∃m,m<n/\I m s₃) (λ_ _=>False) s₂) (λ_ _=>False) s₁') (λ_ _=>False) s₁) (λ_ _=>False) s)
  (n:Nat) (h:I n s) :
  codeAny (model prog w) A (.compLoop (.ListComp elt [⟨target,iter,ifs,0⟩] scope pos) 0 it acc env) R s:=by
 refine codeAny_loop rfl I (λn s hI=>?_) n h
 show wpAny _ A ((compTurn (.ListComp elt [⟨target,iter,ifs,0⟩] scope pos) 0 it acc env).onRaise (λx=>do noteFrame x env;theTreesLotGoes x)) _ _ s
 refine wpAny_noted ?_;rw[compTurn_list];refine wpAny_bind (wpAny_standAt (wpAny_bind (wpAny_mono (turn n s hI) (λr s₁ h₁=>?_) λ_ _ h'=>h'.elim)))
 cases r with
 | none=>exact wpAny_pure h₁
 | some v =>
  refine wpAny_bind (wpAny_mono h₁ (λ_ s₁' h₁'=>?_) λ_ _ h'=>h'.elim)
  refine wpAny_bind (wpAny_mono h₁' (λ_ s₂ h₂=>wpAny_bind (wpAny_mono h₂ (λok s₃ h₃=>?_) λ_ _ h'=>h'.elim)) λ_ _ h'=>h'.elim)
  cases ok with
  | false=>exact wpAny_pure ⟨rfl,h₃⟩
  | true =>
   exact wpAny_bind (wpAny_bind (wpAny_mono h₃ (λx s₄ h₄=>wpAny_bind (wpAny_mono h₄ (λ_ s₅ h₅=>wpAny_pure (wpAny_pure ⟨rfl,h₅⟩)) λ_ _ h'=>h'.elim)) λ_ _ h'=>h'.elim))
section
variable {cl:List (Str×Addr)}{fp:List Addr}
def u6a{sc:Scope} (ok:CompOk X.env.scope X.N own outs scope)  (h:(compEnvC scope cl C X.env).kindOf x=some .cell\/(compEnvC scope cl C X.env).kindOf x=some .free):(x,NameKind.free)∈scope.names:=by
 have e:(compEnvC scope cl C X.env).kindOf x=(scope.names.lookup x).map λk=>if (k==NameKind.free&&X.env.scope.kind==.function&&X.env.kindOf x==some .cell) then NameKind.cell else k:=u1r X.env scope.names x
 rw[e] at h;cases q:scope.names.lookup x with
 | none=>rw[q] at h;simp at h
 | some k =>
  have hm:=PySem.mem_of_lookup q;by_cases hk:k=.free
  ·subst hk;exact hm
  ·rw [q] at h
   have hkf:(k==NameKind.free)=false:=by simpa using hk
   simp only[Option.map_some,hkf,Bool.false_and,z1E,if_false,Option.some.injEq] at h;rcases h with h|h
   ·exact absurd h (ok.cell _ hm)
   ·exact absurd h hk
def cxC_ok (I:Inv X pins σ H s) (ok:CompOk X.env.scope X.N own outs scope) (hcl:∀x c,cl.lookup x=some c->X.env.cells.lookup x=some c) (hcf:∀x∈scope.names,x.2=.free->∃c,cl.lookup x.1=some c)
  (hC:s.heap.objs.size<=C) (hfp:∀b∈fp,FpOk X pins H b) (hfs:∀b∈fp,b<s.heap.objs.size):(cxC X own outs scope cl C s H fp).Ok where
 mod:=I.ok.mod
 kind:=ok.kind
 glob:=I.ok.glob
 blt:=I.ok.blt
 above:=hC
 inj:=λx y c h1 h2=>I.ok.inj x y c (hcl x c h1) (hcl y c h2)
 has:=λx h=>by
  have hm:=u6a (sc:=scope) ok h;exact hcf _ hm rfl
 cab:=λx c h _=>by cases h
 hd:=I.ok.hd
 frames:=I.ok.frames
 stk:=.inl rfl
 exf:=λb hb=>⟨u9 (x8 (hfs b hb) hC),λx c e=>(hfp b hb).2.2.2.2.1 x c (hcl x c e)⟩
 bs:=I.bs
 bsz:=y9 I.ok.bsz I.sz
 noex:=λb o e hb=>by
  rcases(hfp b hb).2.2.2.1 with z|z
  ·exact I.ok.noex b o e z
  ·have h1:b<X.base.objs.size:=z8 e
   exact absurd (x8 h1 (y9 I.ok.bsz z)) (z0B _)
 exfs:=λb hb z=>by
  rcases z7.mp (I.stkSub b z) with q|q
  ·exact(hfp b hb).2.1 q
  ·exact(hfp b hb).2.2.1 q
 funs:=I.stack
 frf:=I.stkFree
def getD_eq(h:N[j]?=some y):N.getD j Str.empty=y:=by
 rw[List.getD_eq_getElem?_getD,h];rfl
def v2f(I:Inv X pins σ H s) (ok:CompOk X.env.scope X.N own outs scope) (hcl:∀x c,cl.lookup x=some c->X.env.cells.lookup x=some c) (hcf:∀x∈scope.names,x.2=.free->∃c,cl.lookup x.1=some c)
  (hC:s.heap.objs.size<=C) (hfp:∀b∈fp,FpOk X pins H b) (hfs:∀b∈fp,b<s.heap.objs.size)  (hk:∀b o,s.heap.get? b=some o->h'.get? b=some o) (hn:h'.Ns C m) :
  Inv (cxC X own outs scope cl C s H fp) [] (stC own.length outs σ) H { s with heap:=h',toks:=t' }:=by
 refine⟨cxC_ok I ok hcl hcf hC hfp hfs,rfl,I.bare,Un.kept hk,⟨m,hn,λi x v e1 e2 e3=>?_⟩,λx c e=>?_,I.hok.fresh hC,λx c e=>I.freeC x c (hcl x c e),λp hp=>(nomatch hp),I.hok.kept hk,?_⟩
 ·have hi:own.length<=i:=by
   by_cases hi:own.length<=i
   ·exact hi
   ·exfalso
    unfold stC at e2;rw[z1J (by simp;omega),z0F] at e2
    split at e2<;>cases e2
  unfold stC at e2;rw[z1F (by simp;omega),z1I,v7] at e2
  have e1':(own++outs.map λj=>X.N.getD j Str.empty)[i]?=some x:=e1
  rw[z1F hi,v7] at e1';cases q:outs[i - own.length]? with
  | none=>rw[q] at e2;cases e2
  | some j =>
   rw[q] at e1' e2;obtain⟨y,hy,hyf⟩:=ok.out j (List.mem_of_getElem? q);have ex:y=x:=by
    rw[<- getD_eq hy];exact Option.some.inj e1'
   subst ex;have ev:σ[j]?=some (some v):=by
    have e2':(σ[j]?).join=some v:=Option.some.inj e2;cases z:σ[j]? with
    | none=>rw[z] at e2';cases e2'
    | some o=>rw[z] at e2';cases o with
     | none=>cases e2'
     | some v'=>cases e2';rfl
   obtain⟨m0,hn0,hl⟩:=I.loc;have hkd:=ok.fre (y,.free) (PySem.mem_of_lookup hyf) rfl;obtain⟨u,r,l⟩:=hl j y v hy ev (hkd.elim (λz=>.inr (.inl z)) λz=>.inr (.inr z))
   refine⟨u,r,?_⟩;rcases l with⟨k,_⟩|⟨k,c,ec,hcell⟩
   ·exfalso
    have k':X.env.scope.names.lookup y=some .local:=k;rcases hkd with z|z
    ·have z':X.env.scope.names.lookup y=some .cell:=z
     rw[k'] at z';cases z'
    ·have z':X.env.scope.names.lookup y=some .free:=z
     rw[k'] at z';cases z'
   ·refine .inr ⟨?_,?_⟩
    ·have e:(compEnvC scope cl C X.env).kindOf y=(scope.names.lookup y).map fun k=>if (k==NameKind.free&&X.env.scope.kind==.function&&X.env.kindOf y==some .cell) then NameKind.cell else k:=u1r X.env scope.names y
     show(compEnvC scope cl C X.env).kindOf y=_\/(compEnvC scope cl C X.env).kindOf y=_;rw[e,hyf,Option.map_some];split
     ·exact .inl rfl
     ·exact .inr rfl
    ·obtain ⟨c',ec'⟩:=hcf (y,.free) (PySem.mem_of_lookup hyf) rfl
     refine⟨c',ec',?_⟩
     have:c'=c:=Option.some.inj ((hcl y c' ec').symm.trans ec)
     subst this;obtain⟨o,ho,hd⟩:=hcell;exact⟨o,hk _ o ho,hd⟩
 ·obtain ⟨v,o,ho,hd⟩:=I.cell x c (hcl x c e)
  exact⟨v,o,hk c o ho,hd⟩
 ·unfold stC
  show _=(own++outs.map λj=>X.N.getD j Str.empty).length
  simp
end
section
variable {wi:TI}{g:TG}{ti:TT}
def u6q{cl:List (Str×Addr)}{fp:List Addr}{tn:Nat->Heap->Prop}{J:It}{E:VP} (hc:X.calm=true) (ok:CompOk X.env.scope X.N own outs scope)
  (hcl:∀x c,cl.lookup x=some c->X.env.cells.lookup x=some c) (hcf:∀x∈scope.names,x.2=.free->∃c,cl.lookup x.1=some c)
  (hg:∀{C fp},PG (cxC X own outs scope cl C s H fp) tg g) (hf:∀{C fp},PIf (cxC X own outs scope cl C s H fp) ifs ti) (he:∀{C fp},PE (cxC X own outs scope cl C s H fp) elt te)
  (I:Inv X pins σ H s) (T:Turn X.prog X.w X.K tg J fp it tn) (st:tn 0 s.heap) (f2:∀b∈fp,FpOk X pins H b)
  (hW:CompRd own.length outs σ g ti te J H Q)
  {RR:Value->Addr->Result->Shared->Prop}
  (hRR:∀D C Hf s' m,s'.heap.Ns C m->Inv X pins σ Hf s'->Hf C=none->C≠X.env.locals->X.s₀.heap.objs.size<=C->(∀x c,X.env.cells.lookup x=some c->c≠C)->(∀p∈X.pn++pins,p.1≠C)->Q (.ref D) Hf->RR (.ref D) C (.ok .next) s') :
  wpAny (model X.prog X.w) X.A (newList []) (λacc s₃=>wpAny (model X.prog X.w) X.A (newFunctionEnv scope X.env.globals cl [] X.env.qual none .none (some X.env)) (λcenv s₄ =>
   codeAny (model X.prog X.w) X.A (.compStart (.ListComp elt [⟨tg,iter,ifs,0⟩] scope pos) 0 (.ref it) acc { cenv with scope:=relabel scope X.env }) (RR acc cenv.locals) s₄) E s₃) E s:=by
 obtain⟨W,⟨m0,w0⟩,turn⟩:=hW;have hfs:∀b∈fp,@LT.lt Nat _ b s.heap.objs.size:=λb hb=>let ⟨o,e,_⟩:=T.obj _ _ st b hb;z8 e
 refine wpAny_newObj_type (wpAny_newFunctionEnv ok.cell (by intro y hy;simp at hy) (λh₁ hns₁ hsb₁=>?_) ok.kind)
 dsimp only at hns₁ hsb₁ |-
 generalize hH2:s.heap.push { cls:=.type "list",dict:=none,data:=.seq ([]:List Value).toArray }=H2 at hns₁ hsb₁ |-
 have hC:H2.objs.size=s.heap.objs.size+1:=by rw[<- hH2,Heap.size_push]
 generalize eC:H2.objs.size=C at hns₁ hsb₁ hC |-
 have hDC:s.heap.objs.size≠C:=by omega
 have below:∀b,b<s.heap.objs.size->b≠C/\b≠s.heap.objs.size:=λb hb=>⟨by omega,by omega⟩
 have old:∀b o,s.heap.get? b=some o->h₁.get? b=some o:=λb o e=>hsb₁.extBut b o (below b (z8 e)).1 (z0 _ (hH2 ▸ z0 _ e))
 have hacc:h₁.PlainList s.heap.objs.size #[]:=⟨_,hsb₁.extBut _ _ hDC (z0 _ (hH2 ▸ y6 _ rfl))⟩;have hst₁:tn 0 h₁:=T.keep _ _ _ st λb _ o e=>old b o e
 have fresh:∀a,s.heap.objs.size<=a->s.heap.get? a=none:=λa ha=>by
  cases e:s.heap.get? a with
  | none=>rfl
  | some o'=>exact absurd (z8 e) (Nat.not_lt.mpr ha)
 obtain⟨D,hD⟩:∃D:Nat,s.heap.objs.size=D:=⟨_,rfl⟩;rw[hD] at hDC hacc |-
 have hDs:s.heap.get? D=none:=fresh D (Nat.le_of_eq hD);have hCs:s.heap.get? C=none:=fresh C (by omega)
 have hDfp:D∉fp:=λz=>by have:=hfs D z;omega
 have hI0:∀t',Inv (cxC X own outs scope cl C s H fp) [] (stC own.length outs σ) H { s with heap:=h₁,toks:=t' }:=λt'=>v2f I ok hcl hcf (by omega) f2 hfs old hns₁
 have cellNe:∀x c,cl.lookup x=some c->@LT.lt Nat _ c s.heap.objs.size:=λx c e=>let ⟨v,q⟩:=I.cell x c (hcl x c e);q.lt
 have stkLt:∀b∈frs X.stack,@LT.lt Nat _ b s.heap.objs.size:=λb hb=>by
  obtain⟨_,o,ho,_⟩:=I.stack.mem hb;exact z8 ho
 have stat:∀{H':Hp}{oD:Obj},(∀b∈fp,H' b=none)->∀b∈fp,FpOk (cxC X own outs scope cl C s H fp) [(D,oD)] H' b:=λ{H' oD} hn b hb=>by
  refine⟨hn b hb,(below b (hfs b hb)).1,λz=>?_,.inl hb,λx c e z=>(f2 b hb).2.2.2.2.1 x c (hcl x c e) z,λp hp z=>?_⟩
  ·rcases z7.mp (I.stkSub b z) with q | q
   ·exact(f2 b hb).2.1 q
   ·exact(f2 b hb).2.2.1 q
  ·have:p=(D,oD):=by simpa using hp
   subst this;exact hDfp (show D∈fp from(show D=b from z) ▸ hb)
 have loop:∀s₃:Shared,s₃={ s with heap:=h₁,toks:=s.toks+([]:List (Str×Value)).length } ->
   codeAny (model X.prog X.w) X.A (.compLoop (.ListComp elt [⟨tg,iter,ifs,0⟩] scope pos) 0 (.ref it) (.ref D) (compEnvC scope cl C X.env)) (RR (.ref D) C) s₃:=by
  rintro s₃ rfl;refine u4y (λn s'=>∃i ys us nn H',Inv (cxC X own outs scope cl C s H fp) [(D,{ cls:=.type "list",data:=.seq us.toArray nn })] (stC own.length outs σ) H' s'/\tn i s'.heap/\(∀b∈fp,H' b=none)/\Vals ys us/\W i n ys H') ?_ m0 ?_
  ·rintro n s3 ⟨i,ys,us,nn,H3,I3,st3,fr3,hv,w3⟩
   have hD3:=I3.pin (D,_) (x0 _ z6);obtain⟨hz,ht⟩:=turn i n ys H3 w3;rcases ht with⟨stop,qn⟩|⟨go,NN,hNN,step⟩
   ·refine thn (T.done (cxC X own outs scope cl C s H fp) rfl rfl rfl hc i _ s3 _ H3 _ I3 (stat fr3) st3 stop) fun r s4 z958=>?_
    obtain⟨hr,I4⟩:=z958;subst hr;have hD4:=I4.pin (D,_) (x0 _ z6);obtain⟨m4,hn4,_⟩:=I4.loc;have hC4:H3 C=none:=I4.free;have hok:HOk X.prog X.w (upd H3 D (.lst ys)) s4.heap:=I4.hok.track hD4.2.1 ⟨hz,us,nn,hv,hD4.1⟩;have hun:Un (frs X.stack) fp H (upd H3 D (.lst ys)) s.heap s4.heap:=Un.track I4.base hD4.2.1 hDs;have I5:Inv X pins σ (upd H3 D (.lst ys)) s4:=I.call' I4.os hun hok I4.bare λb hb=>⟨(f2 b hb).2.2.2.1,(f2 b hb).2.1,(f2 b hb).2.2.2.2.1,(f2 b hb).2.2.2.2.2⟩
    refine hRR D C _ s4 m4 hn4 I5 (by rw[u0e hDC.symm];exact hC4) ?_ ?_ ?_ ?_ (qn D hD4.2.1)
    ·intro z
     have h1:@LT.lt Nat _ X.env.locals s.heap.objs.size:=I.lt;have z':@Eq Nat C X.env.locals:=z;omega
    ·have h1:=I.sz
     exact y9 h1 (by omega)
    ·intro x c e z
     obtain⟨v,q⟩:=I.cell x c e;have h1:@LT.lt Nat _ c s.heap.objs.size:=q.lt;have z':@Eq Nat c C:=z;omega
    ·intro p hp z
     have h1:@LT.lt Nat _ p.1 s.heap.objs.size:=z8 (I.pin p hp).1;have z':@Eq Nat p.1 C:=z;omega
   ·refine thn (T.item (cxC X own outs scope cl C s H fp) rfl rfl rfl hc i _ s3 _ H3 (fun _ _=>False) I3 (stat fr3) st3 go) fun r s4 z959=>?_
    obtain⟨u,hr,h4⟩:=z959;subst hr;refine thn h4 λ_ s5 z960=>?_
    obtain⟨x,H5,I5,r5,y5,st5,fr5⟩:=z960;have I5':=I5.pinned (stat fr5) (T.obj _ _ st5);refine thn (hg _ s5 _ H5 x u _ I5' r5 (step x H5 y5)) λ_ s6 z961=>?_
    obtain⟨σ6,H6,I6,d6,q6⟩:=z961;have weak:∀{H7:Hp}{s7:Shared}{us':List Value}{nn':Nat},Inv (cxC X own outs scope cl C s H fp) [(D,{ cls:=.type "list",data:=.seq us'.toArray nn' })] σ6 H7 s7->Inv (cxC X own outs scope cl C s H fp) [(D,{ cls:=.type "list",data:=.seq us'.toArray nn' })] (stC own.length outs σ) H7 s7:=λ{H7 s7 us' nn'} I7=>by
     refine I7.weak (by have e:=I7.len;have e2:(cxC X own outs scope cl C s H fp).N.length=own.length+outs.length:=by simp
                        rw[e,e2];unfold stC;simp) λj v e=>?_
     have hj:own.length<=j:=by
      by_cases hj:own.length<=j
      ·exact hj
      ·exfalso
       unfold stC at e;rw[z1J (by simp;omega),z0F] at e
       split at e<;>cases e
     unfold stC at e;rw[z1F (by simp;omega),z1I,<- d6,List.getElem?_drop] at e
     rw[show own.length+(j - own.length)=j by omega] at e
     exact e
    refine thn (hf _ s6 σ6 H6 _ I6 q6) λb s7 z962=>?_
    obtain⟨H7,I7,q7⟩:=z962;have keepT:∀{H8:Hp}{s8:Shared},Inv (cxC X own outs scope cl C s H fp) ([(D,{ cls:=.type "list",data:=.seq us.toArray nn })]++pinsAt fp s5.heap) σ6 H8 s8->(∀b∈fp,∀o,s5.heap.get? b=some o->s8.heap.get? b=some o)/\∀b∈fp,H8 b=none:=λ{H8 s8} I8=>by
     refine⟨λb hb o e=>(I8.pin (b,o) (x0 _ (x0 _ (u2g hb e)))).1,λb hb=>?_⟩
     obtain⟨o,e,d⟩:=T.obj _ _ st5 b hb;exact(I8.pin (b,o) (x0 _ (x0 _ (u2g hb e)))).2.1
    cases b with
    | false =>
     rw[if_neg (by simp)] at q7
     rw[if_neg (by simp)]
     obtain⟨m',hm,w7⟩:=hNN _ _ q7;exact⟨m',hm,i+1,ys,us,nn,H7,weak I7.unpinned,T.keep _ _ _ st5 (keepT I7).1,(keepT I7).2,hv,w7⟩
    | true =>
     rw[if_pos rfl] at q7;rw[if_pos rfl];refine thn (he _ s7 σ6 H7 _ I7 q7) λu8 s8 z963=>?_
     obtain⟨y8,H8,I8,r8,q8⟩:=z963;obtain⟨m',hm,w8⟩:=hNN _ _ q8;have hD8:=I8.pin (D,_) (x0 _ (r9 _ z6));refine wpAny_list_append_plain (hsz:=by rw[y7,<- hv.length];exact hz) (x:=u8) ⟨nn,hD8.1⟩ λh9 hl9 hs9=>?_
     obtain⟨n9,e9⟩:=hl9;have k9:∀b o,b≠D->s8.heap.get? b=some o->h9.get? b=some o:=λb o hb e=>(hs9.2 b hb).trans e
     have I8':Inv (cxC X own outs scope cl C s H fp) [] σ6 H8 s8:=I8.pins_of λp hp=>(nomatch hp)
     have I9:Inv (cxC X own outs scope cl C s H fp) [] σ6 H8 { s8 with heap:=h9,toks:=s8.toks }:=I8'.turned k9 hD8.2.1 hDC (.inr (by show s.heap.objs.size<=D;omega)) (λx c e z=>by have h1:=cellNe x c e;have z':@Eq Nat c D:=z;omega) (λp hp=>(nomatch hp))
     have e9':h9.get? D=some { cls:=.type "list",data:=.seq (us++[u8]).toArray n9 }:=by
      rw[e9];simp
     have I9':Inv (cxC X own outs scope cl C s H fp) [(D,{ cls:=.type "list",data:=.seq (us++[u8]).toArray n9 })] σ6 H8 { s8 with heap:=h9,toks:=s8.toks }:=I9.pins_of λp hp=>by
      have:p=(D,{ cls:=.type "list",data:=.seq (us++[u8]).toArray n9 }):=by simpa using hp
      subst this;refine⟨e9',hD8.2.1,hDC,λz=>?_,λv z=>by cases z⟩
      have:=stkLt D z
      omega
     refine⟨m',hm,i+1,ys++[y8],us++[u8],n9,H8,weak I9',?_,(keepT I8).2,hv.append (.cons r8 .nil),w8⟩;exact T.keep _ _ _ st5 λb hb o e=>k9 b o (λz=>hDfp (show D∈fp from(show b=D from z) ▸ hb)) ((keepT I8).1 b hb o e)
  ·obtain ⟨n0,e0⟩:=hacc
   refine⟨0,[],[],n0,H,(hI0 _).pins_of λp hp=>?_,hst₁,λb hb=>(f2 b hb).1,.nil,w0⟩
   have:p=(D,{ cls:=.type "list",data:=.seq ([]:List Value).toArray n0 }):=by simpa using hp
   subst this;refine⟨e0,I.hok.fresh (by omega),hDC,λz=>?_,λv z=>by cases z⟩
   have:=stkLt D z
   omega
 exact codeAny_compStart_list (loop _ rfl) (T.self _ 0 _ _ _ hst₁ (loop _ rfl))
def u6e(I:Inv X pins σ H s) (ok:CompOk X.env.scope X.N own outs scope):∀x∈scope.names,x.2=.free->∃c,X.env.cells.lookup x.1=some c:=λx hx hf=>I.ok.has x.1 (ok.fre x hx hf)
def pe_comp (own:List Str) (outs:List Nat) (hc:X.calm=true) (ok:CompOk X.env.scope X.N own outs scope) (hi:PI X tg iter wi)
  (hg:∀{cl C s H fp},PG (cxC X own outs scope cl C s H fp) tg g) (hf:∀{cl C s H fp},PIf (cxC X own outs scope cl C s H fp) ifs ti) (he:∀{cl C s H fp},PE (cxC X own outs scope cl C s H fp) elt te)
  (hs:∀x,foldedSetIterable iter X.env x=pure x:=by intro _;rfl):PE X (.ListComp elt [⟨tg,iter,ifs,0⟩] scope pos) (tComp own.length outs wi g ti te):=by
 intro pins s σ H Q I h;obtain⟨cl,ecl,hcl,hcf⟩:=u1L (u6e I ok);rw[eval_ListComp];refine wpAny_comprehension_free (use:=none) rfl hs ecl ok.kind ok.loc (thn (hi pins s σ H _ I h) λxv s₁ h₁=>thn h₁ λitv s₂ h₂=>?_)
 obtain⟨it,fp,tn,J,H2,e,I2,T,st2,f2,hW⟩:=h₂;subst e;refine u6q (Q:=Q) (RR:=λacc C=>compPost (model X.prog X.w) X.A X.xe none (EP X pins σ Q) acc C) hc ok hcl hcf hg hf he I2 T st2 f2 hW ?_
 intro D C Hf s' m hn I' hC hL hs0 hce hpi q;refine⟨m,hn,λh' hs'=>?_⟩
 exact⟨.ref D,Hf,I'.turned (t':=s'.toks) (λb o hb e=>(hs'.2 b hb).trans e) hC hL (.inr hs0) hce hpi,rfl,q⟩
set_option tactic.hygienic true in
def u8w{py:Pos} (own:List Str) (outs:List Nat) (hc:X.calm=true) (ok:CompOk X.env.scope X.N own outs scope) (hN:X.N.Nodup) (hy:X.N[i]?=some y) (hx:X.env.scope.names.lookup y=some .local) (hi:PI X tg iter wi)
  (hg:∀{cl C s H fp},PG (cxC X own outs scope cl C s H fp) tg g) (hf:∀{cl C s H fp},PIf (cxC X own outs scope cl C s H fp) ifs ti) (he:∀{cl C s H fp},PE (cxC X own outs scope cl C s H fp) elt te)
  (hsw:swapsWith (.ListComp elt [⟨tg,iter,ifs,0⟩] scope pos) (some (.Name y py)) spos.line X.env=pure true:=by rfl)
  (hs:∀x,foldedSetIterable iter X.env x=pure x:=by intro _;rfl):PS X (.Assign [.Name y py] (.ListComp elt [⟨tg,iter,ifs,0⟩] scope pos) spos) (tAsg (tComp own.length outs wi g ti te) (gName i)):=by
 intro pins s σ H D I h;obtain⟨cl,ecl,hcl,hcf⟩:=u1L (u6e I ok);rw[exec_Assign_Name_used _ _ _ _ hsw];refine wpAny_bind (wpAny_standAt (wpAny_bind ?_));show wpAny _ X.A (do let _ <- comprehension (.ListComp elt [⟨tg,iter,ifs,0⟩] scope pos) scope X.env _ (newList []) false (eval iter X.env) (some (assign (.Name y py) X.env))) _ _ s
 refine wpAny_bind (wpAny_mono (wpAny_comprehension_free (use:=some (assign (.Name y py) X.env)) (Q:=λ_ s'=>SP X pins D .next s') rfl hs ecl ok.kind ok.loc
  (thn (hi pins s σ H _ I h) λxv s₁ h₁=>thn h₁ λitv s₂ h₂=>?_)) (λ_ s' hq=>wpAny_pure (wpAny_pure hq)) λ_ _ e=>e)
 obtain⟨it,fp,tn,J,H2,e,I2,T,st2,f2,hW⟩:=h₂;subst e;refine u6q (Q:=λx H1=>gName i x σ H1 D.nx) (RR:=λacc C=>compPost (model X.prog X.w) X.A X.xe (some (assign (.Name y py) X.env)) (λ_ s'=>SP X pins D .next s') acc C) hc ok hcl hcf hg hf he I2 T st2 f2 hW ?_
 intro D' C Hf s' m hn I' hC hL hs0 hce hpi q;show wpAny _ X.A (assign (.Name y py) X.env (.ref D')) _ _ _;refine wpAny_assign_Name (u5C I' hN hy (.inl hx) (v:=.ref D') rfl (λs2 I2' z964=>?_) (.inr hx))
 obtain⟨a,hsb,ha⟩:=z964;have haC:C≠a:=by
  rcases ha with rfl|ha
  ·exact hL
  ·exact λz=>hce _ _ ha z.symm
 refine⟨m,hn.sameBut hsb haC,λh' hs'=>?_⟩
 exact⟨_,Hf,I2'.turned (t':=s2.toks) (λb o hb e=>(hs'.2 b hb).trans e) hC hL (.inr hs0) hce hpi,q⟩
end
def rSlS:V->Option Int->Option Int->Hp->VK->Prop:=λx lo hi H Q=>∃z,x=.str z/\z.length<=sizeLine/\Q (.str (Txt.slice z lo hi)) H
def sl_str:SlR X rSlS:=by
 intro pins s σ H x v vl vu lo hi sl Q I rx hs pl pu h;obtain⟨z,rfl,hz,q⟩:=h;obtain⟨t,rfl⟩:=rx;refine⟨"str",_,PySem.F.slot_str_getitem.lookup,typeIs_str _ _ _,?_⟩;have fin:∀lo' hi',lo'=lo->hi'=hi->∀t' k,EP X pins σ Q (.str (Txt.slice z lo' hi') t') { s with toks:=k }:=λlo' hi' e1 e2 t' k=>by
  subst e1 e2;exact⟨.str _,H,I.tok k,⟨t',rfl⟩,q⟩
 obtain⟨o,ho,hc,hd⟩:=hs;cases pl with
 | none =>
  cases pu with
  | none=>exact wpAny_getItem_str_slice (l:=none) (u:=none) (st:=none) ⟨o,ho,hc,hd⟩ rfl (post_val_or_str ⟨y9 (Txt.slice_le z _ _) hz,λt' k=>fin _ _ rfl rfl t' k⟩)
  | int j uj=>exact wpAny_getItem_str_slice (l:=none) (u:=some (j,uj)) (st:=none) ⟨o,ho,hc,hd⟩ rfl (post_val_or_str ⟨y9 (Txt.slice_le z _ _) hz,λt' k=>fin _ _ rfl rfl t' k⟩)
 | int i ui =>
  cases pu with
  | none=>exact wpAny_getItem_str_slice (l:=some (i,ui)) (u:=none) (st:=none) ⟨o,ho,hc,hd⟩ rfl (post_val_or_str ⟨y9 (Txt.slice_le z _ _) hz,λt' k=>fin _ _ rfl rfl t' k⟩)
  | int j uj=>exact wpAny_getItem_str_slice (l:=some (i,ui)) (u:=some (j,uj)) (st:=none) ⟨o,ho,hc,hd⟩ rfl (post_val_or_str ⟨y9 (Txt.slice_le z _ _) hz,λt' k=>fin _ _ rfl rfl t' k⟩)
def Its (z:Str):It:=⟨λi _=>i<z.cps.size,λi H x H'=>H'=H/\∃c,z.cps[i]?=some c/\x=.str ⟨#[c]⟩,λi _=>z.cps.size<=i⟩
def u8r(z:Str) (t:Tok) (it:Addr):Turn P w K tg (Its z) [it] it (λi h=>h.IsStrIter it "str_ascii_iterator" z t i) where
 mem:=by simp
 obj:=λi h st b hb=>by
  have e:b=it:=by simpa using hb
  subst e;obtain⟨o,e,c,d⟩:=st;exact⟨o,e,λv z=>by rw[d] at z;cases z⟩
 keep:=λi h h' st k=>let ⟨o,e,r⟩:=st;⟨o,k it (by simp) o e,r⟩
 item:=by
  intro X hP hw hK hc i pins s σ H E I hf st hg;subst hP hw hK;obtain⟨f0,f1,f2,f3,f4,f5⟩:=hf it (by simp)
  have hg':i<z.cps.size:=hg;refine wpAny_pyNext_ascii_item st (c:=z.cps[i]) (by simp[hg']) λh' st' sb=>?_
  have I1:Inv X pins σ H { s with heap:=h',toks:=s.toks+1 }:=I.turned (λb o hb e=>(sb.2 b hb).trans e) f0 f1 f3 f4 f5
  obtain⟨o,e,c,d⟩:=id st';exact⟨_,rfl,u8F (s:={ s with heap:=h',toks:=s.toks+1 }) e c d (by decide) ⟨.str ⟨#[z.cps[i]]⟩,H,I1,⟨_,rfl⟩,⟨rfl,z.cps[i],by simp[hg'],rfl⟩,st',λb hb=>(hf b hb).1⟩⟩
 done:=by
  intro X hP hw hK hc i pins s σ H E I hf st hg;subst hP hw hK;obtain⟨f0,f1,f2,f3,f4,f5⟩:=hf it (by simp)
  have hg':z.cps.size<=i:=hg;exact wpAny_pyNext_ascii_end (I.ok.hd hc) st (by simp;omega) λh' eb=>⟨rfl,I.turned (t':=s.toks) (λb o hb e=>eb b o hb e) f0 f1 f3 f4 f5⟩
 self:=λ_ _ _ _ _ st h=>wpAny_pyIter_striter_ascii st h
def u9c(z:Str) (t:Tok) (it:Addr):Turn P w K tg (Its z) [it] it (λi h=>h.IsStrIter it "str_iterator" z t i) where
 mem:=by simp
 obj:=λi h st b hb=>by
  have e:b=it:=by simpa using hb
  subst e;obtain⟨o,e,c,d⟩:=st;exact⟨o,e,λv z=>by rw[d] at z;cases z⟩
 keep:=λi h h' st k=>let ⟨o,e,r⟩:=st;⟨o,k it (by simp) o e,r⟩
 item:=by
  intro X hP hw hK hc i pins s σ H E I hf st hg;subst hP hw hK;obtain⟨f0,f1,f2,f3,f4,f5⟩:=hf it (by simp)
  have hg':i<z.cps.size:=hg;refine wpAny_pyNext_wide_item st (c:=z.cps[i]) (by simp[hg']) λh' st' sb=>?_
  have I1:Inv X pins σ H { s with heap:=h',toks:=s.toks+1 }:=I.turned (λb o hb e=>(sb.2 b hb).trans e) f0 f1 f3 f4 f5
  obtain⟨o,e,c,d⟩:=id st';exact⟨_,rfl,u8F (s:={ s with heap:=h',toks:=s.toks+1 }) e c d (by decide) ⟨.str ⟨#[z.cps[i]]⟩,H,I1,⟨_,rfl⟩,⟨rfl,z.cps[i],by simp[hg'],rfl⟩,st',λb hb=>(hf b hb).1⟩⟩
 done:=by
  intro X hP hw hK hc i pins s σ H E I hf st hg;subst hP hw hK;obtain⟨f0,f1,f2,f3,f4,f5⟩:=hf it (by simp)
  have hg':z.cps.size<=i:=hg;exact wpAny_pyNext_wide_end (I.ok.hd hc) st (by simp;omega) λh' eb=>⟨rfl,I.turned (t':=s.toks) (λb o hb e=>eb b o hb e) f0 f1 f3 f4 f5⟩
 self:=λ_ _ _ _ _ st h=>wpAny_pyIter_striter_wide st h
def iStr (tl:TE):TI:=λσ H R=>tl σ H λx H1=>∃z,x=.str z/\R (Its z) H1
def pi_str(hl:PE X l tl):PI X tg l (iStr tl):=by
 intro pins s σ H R I h;refine thn (hl pins s σ H _ I h) λv s1 z965=>?_
 obtain⟨x,H1,I1,r1,q1⟩:=z965;obtain⟨z,rfl,q⟩:=q1;obtain⟨t,rfl⟩:=r1;cases ha:z.cps.all (·<128) with
 | true =>
  refine wpAny_pyIter_ascii ha ?_;have hn:H1 s1.heap.objs.size=none:=I1.hok.fresh (y0 _);exact⟨s1.heap.objs.size,[s1.heap.objs.size],_,Its z,H1,rfl,I1.kept (t':=s1.toks) (λb o e=>z0 _ e),u8r z t _,⟨_,y6 _ rfl,rfl,rfl⟩,λb hb=>by
   have e:b=s1.heap.objs.size:=by simpa using hb
   subst e;exact I1.fpOk (y0 _) hn,q⟩
 | false =>
  refine wpAny_pyIter_wide ha ?_;have hn:H1 s1.heap.objs.size=none:=I1.hok.fresh (y0 _);exact⟨s1.heap.objs.size,[s1.heap.objs.size],_,Its z,H1,rfl,I1.kept (t':=s1.toks) (λb o e=>z0 _ e),u9c z t _,⟨_,y6 _ rfl,rfl,rfl⟩,λb hb=>by
   have e:b=s1.heap.objs.size:=by simpa using hb
   subst e;exact I1.fpOk (y0 _) hn,q⟩
def v2y (hc:X.calm=true):CallR X (.builtin "all") (λxs H Q=>∃(p:Addr) (bs:List Bool),xs=[.ref p]/\SqL X.K H p (bs.map V.bl)/\Q (.bl (bs.all id)) H):=by
 intro pins s σ H xs us Q I r h;obtain⟨p,bs,rfl,hq,q⟩:=h;obtain⟨u,rfl,ru⟩:=vals1 r;cases ru;obtain⟨its,rv,hl,hz⟩:=I.list hq;have hlen:=rv.length;rw[x9] at hlen;have hlt:p<s.heap.objs.size:=let ⟨o,ho,_⟩:=hl.isList;z8 ho
 refine call_all_walk (wpAny_pyIter_list hl.isList ?_);refine⟨s.heap.objs.size,_,_,_,_,_,λi=>bs.getD i false,rfl,Walks.list (show X.A.in1.handled=none from I.ok.hd hc) s.heap.objs.size p (u9 hlt) its.toArray,⟨⟨_,y6 _ rfl,rfl,rfl⟩,hl.isList.at λo e=>z0 _ e⟩,?_,?_⟩
 ·intro i v s' Q' E' hv hQ
  have hv':its[i]?=some v:=by simpa using hv
  have hi:i<bs.length:=by
   have:=(w9.mp hv').1
   omega
  have hx:(bs.map V.bl)[i]?=some (V.bl bs[i]):=by rw[v7,u3 hi];rfl
  obtain⟨u,hu,ru⟩:=rv.get hx;rw[hv'] at hu;cases hu;cases ru;have e:bs.getD i false=bs[i]:=by rw[List.getD_eq_getElem?_getD,u3 hi];rfl
  have hQ':Q' (bs.getD i false) s':=hQ;rw[e] at hQ';exact wpAny_truthy_bool hQ'
 ·intro h' tk hk
  have hw:∀b o,s.heap.get? b=some o->h'.get? b=some o:=λb o e=>hk b o (by
   intro z
   have:b=s.heap.objs.size:=by simpa using z
   subst this;exact absurd (z8 e) (z0B _)) (z0 _ e)
  have e:(List.range its.toArray.size).all (λi=>bs.getD i false)=bs.all id:=by
   rw[y7,<- hlen];clear hlen hq rv q hz;induction bs with
   | nil=>rfl
   | cons b bs ih =>
    rw[z0D,List.range_succ_eq_map,z1B,List.all_map,z1B];simp only[List.getD_cons_zero,id];congr 1
  rw[e];exact⟨.bl _,H,I.kept hw,rfl,q⟩
theorem u2O:∀{ys:List Str}{us:List Value},Vals (ys.map V.str) us->StrsAre us ys
 | [],_,r=>by cases r;exact .nil
 | y::ys,_,r=>by
  rw[z0C] at r;cases r with
  | cons r1 r2 =>
   obtain⟨t,e⟩:=r1;subst e;exact .cons y t (u2O r2)
def CDivB (i j:Int):Prop:=0<j/\j<2^64
def v1O:OpR X (binaryOp .FloorDiv) (rI CDivB λi j=>.int (i / j)):=opI λi j _ _ _ _ _ hc q=>by
 have h1:(0:Int)<j:=hc.1;have h2:j<2^64:=hc.2;refine floordiv_int (by omega) (by rw[Int.fdiv_eq_ediv_of_nonneg i (by omega)];exact q) (.inl (PyProof.noPylong_of_log2 ?_))
 have:j.natAbs.log2<64:=(Nat.log2_lt (by omega)).mpr (by omega)
 omega
noncomputable def notStar:Expr->Bool
 | .Starred _ _=>false
 | _=>true
def u0l(h:notStar e=true):starEach (e::es) env=(false,eval e env)::starEach es env:=by
 cases e<;>first|rfl|exact absurd h z0I
theorem u0N:∀{es:List Expr},es.all notStar=true->(backTo pos (starEach es env)).any (·.1)=false
 | [],_=>rfl
 | e::es,h=>by
  rw[z1B,z1G] at h;rw[u0l h.1];show(false||(backTo pos (starEach es env)).any (·.1))=false
  rw[u0N h.2];rfl
theorem u8n:∀{es:List Expr},es.all notStar=true->(backTo pos (starEach es env)).all (λx=>!x.1)=true
 | [],_=>rfl
 | e::es,h=>by
  rw[z1B,z1G] at h;rw[u0l h.1];show(true&&(backTo pos (starEach es env)).all (λx=>!x.1))=true
  rw[u8n h.2];rfl
def u0j(h:(e::es).all notStar=true):notStar e=true/\es.all notStar=true:=by
 rw[z1B,z1G] at h;exact h
section
variable {o:Expr}{to:TE}{t:TA}{id:String}{r:List V->Hp->VK->Prop}{r3:V->List V->Hp->VK->Prop}
def pac (ha:PE X e te) (hr:PA X es t) (hs:notStar e=true:=by rfl):PA X (e::es) (tCons te t):=pa_cons ha hr (u0l hs)
def pcB (hc:CallR X (.builtin id) r) (hg:Gl X x) (hm:X.mg x=none) (hv:bootBuiltins x=some (.builtin id)) (ha:PA X (e::es) t) (hn:x≠"__name__":=by decide) (hdb:(x==("__debug__":Str))=false:=by decide)
  (hs:(e::es).all notStar=true:=by rfl):PE X (.Call (.Name x p) (e::es) [] pos) (tCB r t):=v1N hc hg hm hv ha hn hdb (u0l (u0j hs).1) (u0N (u0j hs).2)
def pcT (hc:CallR X (.type T) r) (hg:Gl X x) (hm:X.mg x=none) (hv:bootBuiltins x=some (.type T)) (ha:PA X (e::es) t) (hn:x≠"__name__":=by decide) (hdb:(x==("__debug__":Str))=false:=by decide)
  (hs:(e::es).all notStar=true:=by rfl):PE X (.Call (.Name x p) (e::es) [] pos) (tCB r t):=u9M hc hg hm hv ha hn hdb (u0l (u0j hs).1) (u0N (u0j hs).2)
def pbm (pa:PlainAttrs T) (slot:Slot T name id) (hty:typeOf (.builtin id)=pure (.type "method_descriptor")) (hm:MtR X id r3) (ho:PE X o to) (ha:PA X (e::es) t)
  (hs:(e::es).all notStar=true:=by rfl) (hl:decide ((e::es).length<30)=true:=by rfl)
  (hbase:attributeBase o name X.env (eval o X.env)=eval o X.env:=by rfl) (hline:(apos.endLine==cpos.line)=true:=by rfl) :
  PE X (.Call (.Attribute o name apos) (e::es) [] cpos) (tBM X.K T r3 to t):=by
 refine pe_bm pa slot hty hm ho ha hbase ?_ hline (u0l (u0j hs).1) (u0N (u0j hs).2);rw[u8n hs];have h2:(e::es).length+([]:List Keyword).length+(if ([]:List Keyword).isEmpty then 0 else 1)<30:=by
  have:=of_decide_eq_true hl
  simpa using this
 rw[decide_eq_true h2];rfl
end
def Callee (P:Program) (w:World) (K:W.Frag) (mg:MG) (base:Heap) (k:Nat) (x:Str) (ps:List Str) (sp:Sp):Prop :=
 ∃f fd,FnOk P w K mg base CX0 k f fd ps sp/\Binds K fd ps []/\W.keepIn K (.ref f)=true/\mg x=some (.ref f)
def Glo (mg:MG) (x:Str) (v:V):Prop:=∃u,mg x=some u/\RelV v u
section
variable {base:Heap}{t:TA}
def u9L (h:Callee P w K mg base k x ps sp) (hr:Room k' X.A) (hk:k<=k') (ha:PA X (e::es) t) (hg:Gl X x:=by rfl) (eP:X.prog=P:=by rfl) (ew:X.w=w:=by rfl) (eK:X.K=K:=by rfl) (em:X.mg=mg:=by rfl) (eb:X.base=base:=by rfl)
  (hdb:(x==("__debug__":Str))=false:=by decide) (hs:(e::es).all notStar=true:=by rfl) :
  PE X (.Call (.Name x p) (e::es) [] pos) (tCall sp [] E0 t):=by
 subst eP ew eK em eb;obtain⟨f,fd,F,hb,hkp,hm⟩:=h;exact pe_call F (hr.mono hk) hg hm hkp hb .nil pass0 ha hdb (u0l (u0j hs).1) (u0N (u0j hs).2)
def pe_glo (h:Glo mg x v) (hg:Gl X x:=by rfl) (em:X.mg=mg:=by rfl) (hd:(x==("__debug__":Str))=false:=by decide):PE X (.Name x pos) (tC v):=by
 subst em;obtain⟨u,hm,r⟩:=h;exact u9K hg hm r hd
end
def u6J(hi:N.findIdx? (λy=>y==x)=some i):N[i]?=some x:=by
 obtain⟨h1,h2,_⟩:=List.findIdx?_eq_some_iff_getElem.mp hi;rw[u3 h1];exact congrArg some (eq_of_beq h2)
def pg_n(hN:X.N.Nodup) (hi:X.N.findIdx? (λy=>y==x)=some i:=by rfl) (hx:Loc X.env.scope x:=by first|exact Or.inl rfl|exact Or.inr rfl) (hf:X.fn x=true\/X.env.scope.names.lookup x=some .local:=by first|exact .inl rfl|exact .inr rfl) :
  PG X (.Name x pos) (gName i):=pg_name hN (u6J hi) hx hf
def ps_n(hN:X.N.Nodup) (he:PE X e te) (hi:X.N.findIdx? (λy=>y==x)=some i:=by rfl) (hx:Loc X.env.scope x:=by first|exact Or.inl rfl|exact Or.inr rfl) (hs:swapsWith e (some (.Name x pos')) pos.line X.env=pure false:=by rfl)
  (hf:X.fn x=true\/X.env.scope.names.lookup x=some .local:=by first|exact .inl rfl|exact .inr rfl):PS X (.Assign [.Name x pos'] e pos) (tAsg te (gName i)):=ps_set hN (u6J hi) hx he hs hf
mutual
inductive RdV (K:W.Frag) (H:Hp):V->PyData->Prop
 | non:RdV K H .non .none
 | bl (b:Bool):RdV K H (.bl b) (.bool b)
 | int (i:Int):RdV K H (.int i) (.int i)
 | str (z:Str):RdV K H (.str z) (.str z)
 | lst {a:Addr}{xs:List V}{ds:List PyData}:SqL K H a xs->RdVs K H xs ds->RdV K H (.ref a) (.list ds)
 | tup {a:Addr}{xs:List V}{ds:List PyData}:SqT K H a xs->RdVs K H xs ds->RdV K H (.ref a) (.tuple ds)
inductive RdVs (K:W.Frag) (H:Hp):List V->List PyData->Prop
 | nil:RdVs K H [] []
 | cons {x:V}{d:PyData}{xs:List V}{ds:List PyData}:RdV K H x d->RdVs K H xs ds->RdVs K H (x::xs) (d::ds)
end
mutual
theorem RdV.reads (I:Inv X pins σ H s):∀{x:V}{d:PyData}{u:Value},RdV X.K H x d->RelV x u->∃as,Reads s.heap u d as
 | _,_,_,.non,r=>by cases r;exact⟨_,.none⟩
 | _,_,_,.bl b,r=>by cases r;exact⟨_,.bool b⟩
 | _,_,_,.int i,r=>by obtain⟨t,rfl⟩:=r;exact⟨_,.int i t⟩
 | _,_,_,.str z,r=>by obtain⟨t,rfl⟩:=r;exact⟨_,.str z t⟩
 | _,_,_,.lst hq hs,r=>by
  cases r;obtain⟨its,rv,p,hz⟩:=I.list hq;obtain⟨as,h⟩:=RdVs.reads I hs rv;obtain⟨o,ho,hc,n,hd⟩:=p.isList;exact⟨_,.list ho hc hd (by simpa using h)⟩
 | _,_,_,.tup hq hs,r=>by
  cases r;obtain⟨its,rv,p,hz⟩:=I.tuple hq;obtain⟨as,h⟩:=RdVs.reads I hs rv;obtain⟨o,ho,hc,n,hd⟩:=p;exact⟨_,.tuple ho hc hd (by simpa using h)⟩
theorem RdVs.reads (I:Inv X pins σ H s):∀{xs:List V}{ds:List PyData}{us:List Value},RdVs X.K H xs ds->Vals xs us->∃as,ReadsAll s.heap us ds as
 | _,_,_,.nil,r=>by cases r;exact⟨_,.nil⟩
 | _,_,_,.cons h hs,r=>by
  cases r with
  | cons r1 r2 =>
   obtain⟨as,h1⟩:=RdV.reads I h r1;obtain⟨bs,h2⟩:=RdVs.reads I hs r2;exact⟨_,.cons h1 h2⟩
end
def Same.seqT(e:Same H H') (h:SqT K H a xs):SqT K H' a xs:=by
 rcases h with(h|⟨o,h⟩)|h
 ·exact .inl (.inl (e _ _ h))
 ·exact .inl (.inr ⟨o,e _ _ h⟩)
 ·exact .inr h
mutual
theorem RdV.same {K:W.Frag}{H H':Hp} (e:Same H H'):∀{x:V}{d:PyData},RdV K H x d->RdV K H' x d
 | _,_,.non=>.non
 | _,_,.bl b=>.bl b
 | _,_,.int i=>.int i
 | _,_,.str z=>.str z
 | _,_,.lst hq hs=>.lst (e.seq hq) (RdVs.same e hs)
 | _,_,.tup hq hs=>.tup (e.seqT hq) (RdVs.same e hs)
theorem RdVs.same {K:W.Frag}{H H':Hp} (e:Same H H'):∀{xs:List V}{ds:List PyData},RdVs K H xs ds->RdVs K H' xs ds
 | _,_,.nil=>.nil
 | _,_,.cons h hs=>.cons (RdV.same e h) (RdVs.same e hs)
end
def rEqD (K:W.Frag) (neg:Bool):R2:=λx y H Q=>∃d e,RdV K H x d/\RdV K H y e/\SeqAt.shaped d=true/\SeqAt.shaped e=true/\Q (.bl (if neg=true then !PyData.eqv d e else PyData.eqv d e)) H
def op_eqD (hu:X.A.units+64<cLine):OpR X (compareOp .Eq) (rEqD X.K false):=by
 intro pins s σ H x y v u Q I rx ry h;obtain⟨d,e,h1,h2,s1,s2,q⟩:=h;obtain⟨as,r1⟩:=h1.reads I rx;obtain⟨bs,r2⟩:=h2.reads I ry;exact eq_dataH r1 r2 s1 s2 hu ⟨.bl _,H,I,rfl,q⟩
def op_neD (hu:X.A.units+64<cLine):OpR X (compareOp .NotEq) (rEqD X.K true):=by
 intro pins s σ H x y v u Q I rx ry h;obtain⟨d,e,h1,h2,s1,s2,q⟩:=h;obtain⟨as,r1⟩:=h1.reads I rx;obtain⟨bs,r2⟩:=h2.reads I ry;exact ne_dataH r1 r2 s1 s2 hu ⟨.bl _,H,I,rfl,q⟩
section
variable {y:V}{r:Value}{o:Option V}{E:VP}
def Inv.big (I:Inv X pins σ H s):sysModules<s.heap.objs.size:=by
 have h:mainGlobals<s.heap.objs.size:=(I.mod.glob.keeps I.bk).lt;exact Nat.lt_trans (by decide) h
end
def v2r(h:Heap) (hb:sysModules<h.objs.size):ObjOk P w H (h.push { cls:=.type "dict",data:=.dict #[] }) h.objs.size (.dK []) :=
 ⟨z0E _,beq_eq_false_iff_ne.mpr (Ne.symm (u9 hb)),[],.nil,Heap.DictOf.new h⟩
def tDNewK:TE:=λ_ H Q=>∀p,H p=none->Q (.ref p) (upd H p (.dK []))
def v1L:PE X (.Dict [] [] pos) tDNewK:=λpins s σ H Q I h =>
 wpAny_Dict_empty ⟨.ref s.heap.objs.size,_,I.laid (a:=s.heap.objs.size) (o:=.dK []) (t':=s.toks) (λ_ _ q=>z0 _ q) (y0 _) (v2r s.heap I.big),rfl,h _ (I.hok.fresh (y0 _))⟩
structure JE (X:Cx) (e:Expr) (t:TE):Prop where
 out:PE X e t
structure JS (X:Cx) (s:Stmt) (t:TS):Prop where
 out:PS X s t
structure JB (X:Cx) (s:List Stmt) (t:TS):Prop where
 out:PSs X s t
section
variable {a o:Expr}{tb tc to:TE}{t u:TS}{tA tB':TT}{tr:TA}
def ev(i:Nat)  (hN:X.N[i]?=some x:=by rfl) (hv:Vis X.env.scope x:=by first|exact Or.inl rfl|exact Or.inr (Or.inl rfl)|exact Or.inr (Or.inr rfl)) (hd:(x==("__debug__":Str))=false:=by decide)
  (hcd:(x==("__classdict__":Str))=false:=by decide):JE X (.Name x pos) (tVar i):=⟨u0v hN hv hd hcd⟩
def b_one (h1:JS X st t):JB X [st] t:=⟨u0n h1.out⟩
end
section
variable {base:Heap}
def Fun.okJ(F:Fun K x qual st f fd) (S:FnScope N ps (defScope st)) (len:∀vs H Q E,sp vs H Q E->vs.length=ps.length)
  (hbody:∀ (cdv:Value) (A:Around) (outer:List Env) (s:Shared) (H:Hp) (vs:List V) (Q:VK) (E:XK),Room k (A.deeper (envOfC qual (defScope st) s.heap.objs.size f cdv))->sp vs H Q E ->
   ∃t,JB (cxOf CX0 P w K mg base N qual (defScope st) f cdv A outer s H E).nox (defBody st) t/\t { nx:=λ_ H'=>Q .non H',rt:=Q } (start N vs) H):FnOk P w K mg base CX0 (k+1) f fd ps sp :=
 F.ok S len λcdv A outer s H vs Q E hr h=>by obtain⟨t,a,b⟩:=hbody cdv A outer s H vs Q E hr h;exact⟨t,a.out,b⟩
end
noncomputable def cutC(xs:List α) (lo hi:Option Int):List α:=(xs.drop (HT.sIx xs.length 0 lo)).take (HT.sIx xs.length xs.length hi - HT.sIx xs.length 0 lo)
abbrev bmV:List Value:=[.type "ValueError",.type "Exception",.type "BaseException",.type "object"]
abbrev tupO (vs:List Value):Obj:={ cls:=.type "tuple",data:=.seq vs.toArray }
abbrev excO (C t:Addr) (dx:Option Addr):Obj:={ cls:=.ref C,dict:=dx,data:=.fields #[.ref t,.none,.none,.none,.bool false,.none] }
noncomputable def onlyV:List Value->Bool
 | .ref _::r=>onlyV r
 | l=>l==bmV
noncomputable def xcB (K:W.Frag) (C f:Addr):Bool:=match K.lookup C with
 | some ⟨.type "type",_,.cls cd,sl⟩=>(match cd.mro,sl.toList with
  | .ref C'::bm,[_,_,_,_,some (.builtin n),_]=>C'==C&&n=="ValueError.__new__"&&!cd.hasDel&&W.tailIn K bmV bm&&cd.hasDict &&
    W.findIn K (.ref C) "__init__"==some (some (.ref f))&&W.typeIn K (.ref f)==some (.type "function")&&W.findIn K (.ref C) "__getattribute__"==some (some (.builtin "BaseException.__getattribute__")) &&
    W.findIn K (.ref C) "__setattr__"==some (some (.builtin "object.__setattr__"))&&W.findIn K (.ref C) "__getattr__"==some none&&W.keepIn K (.ref C)&&onlyV bm &&
    W.findIn K (.ref C) "__class__"==some (some (.builtin "object.__class__"))&&W.specialIn K (.builtin "object.__class__") "__get__"==some (some (.builtin "getset_descriptor.__get__"))&&W.takesIn K (.builtin "object.__class__")==some true&&W.mroIn K C (.type "object")==some true
  | _,_=>false)
 | _=>false
structure XCls (K:W.Frag) (C f:Addr):Prop where
 obj:∃bm N nm q bs sn sub ab col dd k0 k1 k2 k3 k5,K.lookup C=some (excClassObj nm q C N bs bm true sn sub ab col dd k0 k1 k2 k3 k5 "ValueError.__new__")/\W.tailIn K bmV bm=true
 init:W.findIn K (.ref C) "__init__"=some (some (.ref f))
 fn:W.typeIn K (.ref f)=some (.type "function")
 ga:W.findIn K (.ref C) "__getattribute__"=some (some (.builtin "BaseException.__getattribute__"))
 sa:W.findIn K (.ref C) "__setattr__"=some (some (.builtin "object.__setattr__"))
 gt:W.findIn K (.ref C) "__getattr__"=some none
 kp:W.keepIn K (.ref C)=true
 ov:∃cd,W.clsIn K C=some cd/\onlyV cd.mro=true/\cd.hasDict=true
 cl:W.findIn K (.ref C) "__class__"=some (some (.builtin "object.__class__"))
 cg:W.specialIn K (.builtin "object.__class__") "__get__"=some (some (.builtin "getset_descriptor.__get__"))
 ct:W.takesIn K (.builtin "object.__class__")=some true
 co:W.mroIn K C (.type "object")=some true
set_option tactic.hygienic true in
def xcls_of(e:xcB K C f=true):XCls K C f:=by
 unfold xcB at e;split at e
 ·rename_i dd cd sl ho
  split at e
  ·rename_i C' bm k0 k1 k2 k3 n k5 hm hs
   simp only[z1G,beq_iff_eq,Bool.not_eq_true'] at e;obtain⟨⟨⟨⟨⟨⟨⟨⟨⟨⟨⟨⟨⟨⟨⟨rfl,rfl⟩,hdel⟩,ht⟩,hdi⟩,e1⟩,e2⟩,e3⟩,e4⟩,e5⟩,e6⟩,e7⟩,e8⟩,e9⟩,e10⟩,e11⟩:=e;obtain⟨nm,bs,mro,ns,qn,hd,sn,sub,ab,col,del⟩:=cd;dsimp only at hm hdel hdi;subst hm hdel hdi;have hsl:sl=#[k0,k1,k2,k3,some (.builtin "ValueError.__new__"),k5]:=by
    obtain⟨l⟩:=sl;simp only at hs;rw[hs]
   subst hsl;exact⟨⟨bm,ns,nm,qn,bs,sn,sub,ab,col,dd,k0,k1,k2,k3,k5,ho,ht⟩,e1,e2,e3,e4,e5,e6,⟨_,by unfold W.clsIn;rw[ho],by show onlyV bm=true;exact e7,rfl⟩,e8,e9,e10,e11⟩
  ·cases e
 ·cases e
section
variable {g:Array GenState}{d:Drawn}{t:Nat}{os:OsState}{R:Result->Shared->Prop}
def v2m {rest:List Value} (X:K.In h) (c:XCls K C f) (hz:rest.length<=sizeLine)
  (hq:codeAny (model prog w) (A.under (.builtin "type.__call__" ⟨.ref C::rest,[]⟩)) (.call (.ref f) ⟨.ref (h.objs.size+1)::rest,[]⟩) (W.InitBack (h.objs.size+1) R) ⟨(h.push (tupO rest)).push (excO C h.objs.size none),g,d,t,os⟩) :
  codeAny (model prog w) A (.call (.ref C) ⟨rest,[]⟩) R ⟨h,g,d,t,os⟩:=by
 obtain⟨bm,N,nm,q,bs,sn,sub,ab,col,dd,k0,k1,k2,k3,k5,hK,ht⟩:=c.obj;have T:=W.tail_of_in X ht;have hC:=X _ _ hK;have FV:=PySem.F.excBase_ValueError;have b1:=tc_lookup;have b2:=tc_bind (.ref C);have b3:(⟨h,g,d,t,os⟩:Shared).TypeIs (.ref C) "type":=⟨_,hC,rfl⟩;refine codeAny_of_tree ?_;show wpAny _ _ (callAny (.ref C) _) _ _ _
 repeat (any_goals (first|assumption|with_reducible refine wpAny_loadPart_at hC ?_|wp_step))
 refine⟨rfl,?_⟩;refine codeAny_call_builtin_at (Code.quiet_builtin _ (by decide +kernel)) entry_typeCall (wpAny_check_type_call_sub hC ?_)
 repeat (first|with_reducible refine wpAny_loadPart_at hC ?_|with_reducible refine wpAny_madeBy_exc hC ?_|wp_step)
 refine codeAny_call_builtin_code (Code.quiet_builtin _ FV.quiet) (wpAny_check_new_subU FV (by decide +kernel) T hC ?_)
 refine codeAny_exc_new_subU FV (by decide +kernel) FV T hC ?_ hz
 show wpAny _ (A.under (Code.builtin "type.__call__" ⟨Value.ref C::rest,[]⟩)) _ _ _ ⟨(h.push (tupO rest)).push (excO C h.objs.size none),g,d,t,os⟩;have hk:∀b o,h.get? b=some o->((h.push (tupO rest)).push (excO C h.objs.size none)).get? b=some o:=λb o e=>z0 _ (z0 _ e)
 have X1:K.In ((h.push (tupO rest)).push (excO C h.objs.size none)):=X.keeps hk;have hg:((h.push (tupO rest)).push (excO C h.objs.size none)).get? (h.objs.size+1)=some (excO C h.objs.size none):=by heap_get
 have ty:W.Looks (model prog w) ((h.push (tupO rest)).push (excO C h.objs.size none)) (typeOf (.ref (h.objs.size+1))) (.ref C):=(W.Looks.ld hg).andThen .now;have hcC:(Value.ref C::bm).contains (.ref C)=true:=by simp
 have su:W.Looks (model prog w) ((h.push (tupO rest)).push (excO C h.objs.size none)) (isSubtype (.ref C) (.ref C)) true:=W.looks_mroIn X1 (by unfold W.mroIn W.clsIn;rw[hK];exact congrArg some hcC)
 have li:=W.looks_findIn (M:=model prog w) X1 c.init;have lb:=W.bind_fn (M:=model prog w) X1 (.ref (h.objs.size+1)) c.fn;unfold isInstance callSpecial? specialOf
 repeat (first|with_reducible refine wpAny_call ?_|lk)
 refine codeAny_mono hq λr s' z=>?_
 rcases r with e|(v|_|_|_)<;>first|exact z|exact z.elim|skip
 obtain⟨rfl,z⟩:=z;exact wpAny_pure (wpAny_pure z)
end
theorem u4Y (self:Value):∀{l:List Value},onlyV l=true->refuseLoop self "__setattr__" l=pure ()
 | .ref c::r,e=>by
  rw[refuseLoop_ref];exact u4Y self (l:=r) (by unfold onlyV at e;exact e)
 | [],e=>by cases (beq_iff_eq.mp (show(([]:List Value)==bmV)=true from e))
 | v::r,e=>by
  cases v<;>first
   | (unfold onlyV at e;rw[beq_iff_eq.mp e];kernel_rfl)
   | (rw[refuseLoop_ref];exact u4Y self (l:=r) (by unfold onlyV at e;exact e))
theorem u1t:∀{l:List Value},onlyV l=true->l.contains (.type "BaseException")=true
 | .ref c::r,e=>by
  rw[List.contains_cons,u1t (l:=r) (by unfold onlyV at e;exact e),Bool.or_true]
 | [],e=>by cases (beq_iff_eq.mp (show(([]:List Value)==bmV)=true from e))
 | v::r,e=>by
  cases v<;>first
   | (unfold onlyV at e;rw[beq_iff_eq.mp e];decide +kernel)
   | (rw[List.contains_cons,u1t (l:=r) (by unfold onlyV at e;exact e),Bool.or_true])
theorem u3T:∀{l:List Value},onlyV l=true->l.contains (.type "object")=true
 | .ref c::r,e=>by
  rw[List.contains_cons,u3T (l:=r) (by unfold onlyV at e;exact e),Bool.or_true]
 | [],e=>by cases (beq_iff_eq.mp (show(([]:List Value)==bmV)=true from e))
 | v::r,e=>by
  cases v<;>first
   | (unfold onlyV at e;rw[beq_iff_eq.mp e];decide +kernel)
   | (rw[List.contains_cons,u3T (l:=r) (by unfold onlyV at e;exact e),Bool.or_true])
def ExAt (h:Heap) (e C:Addr) (dx:Option Addr):Prop:=∃t f1 f2 f3 f4 f5 sl,h.get? e=some { cls:=.ref C,dict:=dx,data:=.fields #[.ref t,f1,f2,f3,f4,f5],slots:=sl }
section
variable {E:VP}{e:Addr}{v:Value}{R:Result->Shared->Prop}
def exc_osa{od:Option Obj}{tk:Tok} (X:K.In s.heap) (c:XCls K C f) (I:W.InstAt s.heap e ox C od) (hn:W.findIn K (.ref C) name=some none)
  (h:∀ b,wpAny (model prog w) A.in1 (Builtin.ObjectAttr.storeInOwnDict (.ref e) (.ref C) (.str name tk) name v b)
   (λfin s'=>match fin with | .done f=>R (.ok f) s' | .again c'=>c'.quiet=true/\codeAny (model prog w) A c' R s') (λx s'=>R (.error x) s') s) :
  codeAny (model prog w) A (.call (.builtin "object.__setattr__") ⟨[.ref e,.str name tk,v],[]⟩) R s:=by
 have SF:=PySem.F.store_object;obtain⟨cd,hc,ho,_⟩:=c.ov;have ne:cd.mro.isEmpty=false:=by
  cases q:cd.mro with
  | nil=>rw[q] at ho;cases (beq_iff_eq.mp (show(([]:List Value)==bmV)=true from ho))
  | cons _ _=>rfl
 have sub:W.Looks (model prog w) s.heap (isInstance (.ref e) (.type "object")) true :=
  I.type.andThen (W.looks_mroIn X (by unfold W.mroIn;rw[hc,Option.bind_some,if_neg (by rw[ne];decide),u3T ho]))
 refine codeAny_call_builtin SF.slot.plain SF.entry (@W.check_slot (model prog w) _ _ s "object.__setattr__" "object" "__setattr__" (.ref e) [.str name tk,v] [] _ SF.kind SF.split sub (SF.args (.ref e) (.str name tk) v) ?_);have hm:W.Looks (model prog w) s.heap (mroOf (.ref C)) cd.mro:=(W.looks_clsIn X hc).andThen .now;rw[W.osa_eq,refuse_eq];refine wpAny_bind (wpAny_bind (I.type.here (wpAny_bind (hm.here ?_))));rw[u4Y _ ho];refine wpAny_pure (wpAny_bind (I.type.here (wpAny_bind ((W.looks_findIn X hn).here (wpAny_bind (wpAny_pure (a:=none) ?_))))));exact h _
set_option maxHeartbeats 4000000 in
def exc_get{Q:VP}{expr:Bool}{dx:Addr} (X:K.In s.heap) (c:XCls K C f) (he:ExAt s.heap e C (some dx)) (hm:s.heap.Ns1 dx mA) (hn:W.findIn K (.ref C) name=some none) (hv:mA name=some v)
  (hv':W.handedIn v=true) (h:Q v { s with toks:=s.toks+1 }):wpAny (model prog w) A (getAttr (.ref e) name expr) Q E s:=by
 obtain⟨t,f1,f2,f3,f4,f5,sl,he⟩:=he;obtain⟨od,hod,hl⟩:=u5Z hm;have I:W.InstAt s.heap e _ C (some od):=⟨he,rfl,rfl,hod⟩;obtain⟨cd,hc,ho,hd⟩:=c.ov;have L0:=I.type (M:=model prog w);have L1:=W.looks_findIn (M:=model prog w) X c.ga;have L2:=W.looks_findIn (M:=model prog w) X c.gt;have hf:W.findObj K C (some od) name=some (.value v):=by
  unfold W.findObj;rw[hc,Option.bind_some,hn,Option.bind_some,Option.bind_some,Option.bind_some];show((W.ownOf cd (some od) name).bind _)=_;unfold W.ownOf;rw[if_pos hd];show((W.lookIn name od).bind _)=_;rw[hl,hv];rfl
 have L3:=W.looks_find (M:=model prog w) X I hf;obtain⟨hh,g,d,tt,os⟩:=s;unfold getAttr getAttrBy;refine wpAny_bind (wpAny_mkText (wpAny_holding (wpAny_bind (L0.at (wpAny_bind (L1.at ?_))))));have FA:=PySem.F.attr_ValueError;have ne:cd.mro.isEmpty=false:=by
  cases q:cd.mro with
  | nil=>rw[q] at ho;cases (beq_iff_eq.mp (show(([]:List Value)==bmV)=true from ho))
  | cons _ _=>rfl
 have sub:W.Looks (model prog w) hh (isInstance (.ref e) (.type "BaseException")) true :=
  L0.andThen (W.looks_mroIn X (by unfold W.mroIn;rw[hc,Option.bind_some,if_neg (by rw[ne];decide),u1t ho]))
 show wpAny _ _ (getAttrByItsOwn _ _ _ _ _ _) _ _ _;unfold getAttrByItsOwn;refine wpAny_bind (L2.at ?_);refine wpAny_bind (wpAny_attempt ?_);have hx0:(expr&&onTheHeap (Value.builtin "BaseException.__getattribute__"))=false:=by cases expr<;>rfl
 unfold callGetattribute;rw[if_neg (by rw[hx0];exact z0I)]
 refine wpAny_holding ?_;unfold boundAndCalled;rw[FA.ga.bind];refine wpAny_bind (wpAny_pure (wpAny_call ?_));refine codeAny_call_builtin FA.ga.plain F.entry_bexc_ga (@W.check_slot (model prog w) _ _ ⟨hh,g,d,tt+1,os⟩ "BaseException.__getattribute__" "BaseException" "__getattribute__" (.ref e) [.str name tt] [] _ (by decide +kernel) (by decide +kernel) sub (F.args_bexc_ga (.ref e) (.str name tt)) ?_)
 show wpAny _ _ (Builtin.«object.__getattribute__» ⟨[.ref e,.str name tt],[]⟩) _ _ _;unfold Builtin.«object.__getattribute__»;refine wpAny_bind (wpAny_pure (a:=(Value.ref e,[Value.str name tt])) (wpAny_bind (wpAny_pure (a:=name) (wpAny_bind (L0.at (wpAny_bind (L3.at ?_)))))));refine wpAny_pure ?_;show wpAny _ _ (handedOut v) _ _ _;rw[W.handedOut_of hv'];exact wpAny_pure h
set_option maxHeartbeats 4000000 in
def v0t{Q:Option Value->Shared->Prop}{dx:Option Addr}{od:Option Obj} (X:K.In s.heap) (c:XCls K C f) (I:W.InstAt s.heap e ox C od) (h:Q (some (.ref C)) { s with toks:=s.toks+1 }) :
  wpAny (model prog w) A (getAttr? (.ref e) "__class__") Q E s:=by
 obtain⟨cd,hc,ho,hd⟩:=c.ov;have L0:=I.type (M:=model prog w);have L1:=W.looks_findIn (M:=model prog w) X c.ga;have L2:=W.looks_findIn (M:=model prog w) X c.gt;have hf:W.findObj K C od "__class__"=some (.bind (.builtin "getset_descriptor.__get__") (.builtin "object.__class__")):=by
  unfold W.findObj;rw[hc,Option.bind_some,c.cl,Option.bind_some];show((W.specialIn K (.builtin "object.__class__") "__get__").bind _)=_;rw[c.cg,Option.bind_some];show((W.takesIn K (.builtin "object.__class__")).bind _)=_;rw[c.ct,Option.bind_some]
 have L3:=W.looks_find (M:=model prog w) X I hf;have FA:=PySem.F.attr_ValueError;have ne:cd.mro.isEmpty=false:=by
  cases q:cd.mro with
  | nil=>rw[q] at ho;cases (beq_iff_eq.mp (show(([]:List Value)==bmV)=true from ho))
  | cons _ _=>rfl
 have sub:W.Looks (model prog w) s.heap (isInstance (.ref e) (.type "BaseException")) true :=
  L0.andThen (W.looks_mroIn X (by unfold W.mroIn;rw[hc,Option.bind_some,if_neg (by rw[ne];decide),u1t ho]))
 obtain⟨hh,g,d,tt,os⟩:=s;unfold getAttr? getAttrBy? getAttrBy;refine wpAny_bind (wpAny_mkText (wpAny_bind (wpAny_attempt (wpAny_holding (wpAny_bind (L0.at (wpAny_bind (L1.at ?_))))))));show wpAny _ _ (getAttrByItsOwn _ _ _ _ _ _) _ _ _;unfold getAttrByItsOwn;refine wpAny_bind (L2.at ?_);refine wpAny_bind (wpAny_attempt ?_);unfold callGetattribute;rw[if_neg (show ¬ (false&&onTheHeap (Value.builtin "BaseException.__getattribute__"))=true from z0I)]
 refine wpAny_holding ?_;unfold boundAndCalled;rw[FA.ga.bind];refine wpAny_bind (wpAny_pure (wpAny_call ?_));refine codeAny_call_builtin FA.ga.plain F.entry_bexc_ga (@W.check_slot (model prog w) _ _ ⟨hh,g,d,tt+1,os⟩ "BaseException.__getattribute__" "BaseException" "__getattribute__" (.ref e) [.str "__class__" tt] [] _ (by decide +kernel) (by decide +kernel) sub (F.args_bexc_ga (.ref e) (.str "__class__" tt)) ?_)
 show wpAny _ _ (Builtin.«object.__getattribute__» ⟨[.ref e,.str "__class__" tt],[]⟩) _ _ _;unfold Builtin.«object.__getattribute__»;refine wpAny_bind (wpAny_pure (a:=(Value.ref e,[Value.str "__class__" tt])) (wpAny_bind (wpAny_pure (a:=Str.ofString "__class__") (wpAny_bind (L0.at (wpAny_bind (L3.at ?_)))))));show wpAny _ _ (holding [_] (call _ [_,.ref e,.ref C]) >>= ret) _ _ _;refine wpAny_bind (wpAny_holding (wpAny_call (W.class_get (s:=⟨hh,g,d,tt+1,os⟩) (ox:=ox) (od:=od) X I c.co ?_)));refine wpAny_pure ?_;show wpAny _ _ (handedOut (.ref C)) _ _ _;exact wpAny_pure (wpAny_pure h)
def v2d {dx:Option Addr}{od:Option Obj} (c:XCls K C f):W.KitX K (.ref e) (.ref C) (λh=>∃ox od,W.InstAt h e ox C od) where
 ty:=λ_ _ _ ⟨_,_,I⟩=>I.type
 it:=λ_ _ X _=>by
  obtain⟨bm,N,nm,q,bs,sn,sub,ab,col,dd,k0,k1,k2,k3,k5,hK,ht⟩:=c.obj;intro A' Q' E' s' k q;unfold isType loadHead;exact wpAny_bind (wpAny_loadPart (k _ _ (X _ _ hK)) (wpAny_pure q))
 ne:=λh tp dd its n sl X htp=>by
  obtain⟨bm,N,nm,q,bs,sn,sub,ab,col,dd,k0,k1,k2,k3,k5,hK,ht⟩:=c.obj;refine Bool.eq_false_iff.mpr λq=>?_
  have ee:C=tp:=Value.ref.inj (beq_iff_eq.mp q);subst ee;have z:=congrArg Obj.cls (Option.some.inj ((X _ _ hK).symm.trans htp));exact absurd (Value.type.inj z) (by decide)
 ca:=λX z967 k=>by obtain⟨_,_,I⟩:=z967;exact v0t (dx:=none) X c I k
end
noncomputable def XO (C:Addr) (dx:Option Addr) (e:Addr):HO:=.ext λh=>ExAt h e C dx
noncomputable def DXO (dx:Addr) (fs:List (Str×V)):HO:=.ext λh=>∃mA,h.Ns1 dx mA/\(∀f,RelO (fs.lookup f) (mA f))/\PySem.Within mA (fs.map (·.1))
section
variable {e dx:Addr}{fs:List (Str×V)}
def xo_ok (x:ExAt h e C d):ObjOk P w H h e (XO C d e) :=
 ⟨x,by obtain⟨_,_,_,_,_,_,_,q⟩:=x;exact⟨_,q⟩,λh1 h2 z968 k=>by obtain⟨t,f1,f2,f3,f4,f5,sl,q⟩:=z968;exact⟨t,f1,f2,f3,f4,f5,sl,k _ q⟩⟩
def v3f(n:h.Ns1 dx mA) (r:∀f,RelO (fs.lookup f) (mA f)) (z:PySem.Within mA (fs.map (·.1))):ObjOk P w H h dx (DXO dx fs) :=
 ⟨⟨mA,n,r,z⟩,by obtain⟨o,_,_,q,_⟩:=n;exact⟨o,q⟩,λh1 h2 z969 k=>by obtain⟨m,a,b,c⟩:=z969;exact⟨m,a.at k,b,c⟩⟩
def v1e (x:HOk P w H h) (q:H e=some (XO C d e)):ExAt h e C d:=(show ObjOk P w H h e (XO C d e) from x e _ q).1
def dxo_at (x:HOk P w H h) (q:H dx=some (DXO dx fs)):∃mA,h.Ns1 dx mA/\(∀f,RelO (fs.lookup f) (mA f))/\PySem.Within mA (fs.map (·.1)):=(show ObjOk P w H h dx (DXO dx fs) from x dx _ q).1
def ExAt.inst (x:ExAt h e C (some dx)) {od:Obj} (q:h.get? dx=some od):∃ox,W.InstAt h e ox C (some od):=by obtain⟨t,f1,f2,f3,f4,f5,sl,z⟩:=x;exact⟨_,z,rfl,rfl,q⟩
end
section
variable {dx:Addr}{fs:List (Str×V)}{f:Str}{E:VP}
def xget_ok {b:Bool}{Q:VP} (I:Inv X pins σ H s) (e:H a=some (XO C (some dx) a)) (ed:H dx=some (DXO dx fs)) (c:XCls X.K C fI) (n:NoAttr X.K C f) (l:fs.lookup f=some v)
  (h:∀u s',Inv X pins σ H s'->RelV v u->Q u s'):wpAny (model X.prog X.w) A (getAttr (.ref a) f b) Q E s:=by
 obtain⟨mA,nA,r,_⟩:=dxo_at I.hok ed;obtain⟨u,hu,ru⟩:=RelO.some_of (v:=v) (o:=mA f) (by rw[<- l];exact r f)
 exact exc_get I.kIn c (v1e I.hok e) nA n hu (u6f ru) (h u _ (I.tok _) ru)
end
section
variable {o:Expr}{t:TA}{f:Str}
def tXFld (K:W.Frag) (ta:TE) (f:Str):TE:=λσ H Q=>ta σ H λx H1=>∃a C fI dx fs v,x=.ref a/\H1 a=some (XO C (some dx) a)/\H1 dx=some (DXO dx fs)/\XCls K C fI/\NoAttr K C f/\fs.lookup f=some v/\Q v H1
def pe_xfld (he:PE X e ta) (hb:attributeBase e f X.env (eval e X.env)=eval e X.env):PE X (.Attribute e f pos) (tXFld X.K ta f):=by
 intro pins s σ H Q I h;refine v0X hb (thn (he pins s σ H _ I h) λu s1 z970=>?_)
 obtain⟨x,H1,I1,rx,a,C,fI,dx,fs,v,ex,ea,ed,c,n,l,q⟩:=z970;subst ex;obtain rfl:u=Value.ref a:=rx;exact xget_ok I1 ea ed c n l λu' s2 I2 ru=>⟨v,H1,I2,ru,q⟩
end
def un5{γ:Type}{p q:α->β->γ->Prop}{r:Prop} (h:∃a b c,p a b c/\q a b c) (k:∀a b c,p a b c->q a b c->r):r:=by obtain⟨a,b,c,x,y⟩:=h;exact k a b c x y
inductive DK where
 | i (n:Int)|s (z:Str)|t (ks:List DK)
noncomputable instance:DecidableEq DK:=λa b=>_root_.Classical.propDecidable (a=b)
inductive D where
 | non|bl (b:Bool)|int (i:Int)|str (z:Str)|ty (T:String)
 | lst (ds:List D)|tup (ds:List D)|dct (kvs:List (D×D))|ins (C:Addr) (fs:List (Str×D))|exc (C:Addr) (fs:List (Str×D))|dn (hs:List DK->Int) (kvs:List (List DK×D))|hdl (a:Addr)|obj (a C:Addr)
variable {E R:D->Prop}{ds:List D}
inductive Res (α:Type) where
 | ok (a:α)|err (x:D)|bad
variable {r:Res D}
namespace Res
noncomputable def bind:Res α->(α->Res β)->Res β
 | .ok a,f=>f a
 | .err x,_=>.err x
 | .bad,_=>.bad
def all(r:Res α) (P:α->Prop) (E:D->Prop):Prop:=match r with
 | .ok a=>P a
 | .err x=>E x
 | .bad=>False
@[simp] theorem bind_ok(a:α) (f:α->Res β):(Res.ok a).bind f=f a:=rfl
@[simp] theorem bind_err(x:D) (f:α->Res β):(Res.err x).bind f=.err x:=rfl
@[simp] theorem bind_bad(f:α->Res β):Res.bad.bind f=.bad:=rfl
def all_bind{r:Res α}{f:α->Res β}{P:β->Prop}:(r.bind f).all P E↔r.all (λa=>(f a).all P E) E:=by
 cases r<;>exact Iff.rfl
def all_mono{r:Res α}{P Q:α->Prop}{F:D->Prop} (h:r.all P E) (p:∀a,P a->Q a) (e:∀x,E x->F x):r.all Q F:=by
 cases r with
 | ok a=>exact p a h
 | err x=>exact e x h
 | bad=>exact h
end Res
noncomputable def kD:Key->D
 | .inl i=>.int i
 | .inr z=>.str z
mutual
noncomputable def DK.toD:DK->D
 | .i n=>.int n
 | .s z=>.str z
 | .t ks=>.tup (DK.toDs ks)
noncomputable def DK.toDs:List DK->List D
 | []=>[]
 | k::ks=>k.toD::DK.toDs ks
end
mutual
noncomputable def DK.py:DK->PyData
 | .i n=>.int n
 | .s z=>.str z
 | .t ks=>.tuple (DK.pys ks)
noncomputable def DK.pys:List DK->List PyData
 | []=>[]
 | k::ks=>k.py::DK.pys ks
end
mutual
noncomputable def DK.dep:DK->Nat
 | .i _=>0
 | .s _=>0
 | .t ks=>DK.deps ks+1
noncomputable def DK.deps:List DK->Nat
 | []=>0
 | k::ks=>max k.dep (DK.deps ks)
end
noncomputable def okK (k:List DK):Bool:=decide ((DK.t k).dep<=8)&&SeqAt.shaped (DK.t k).py
noncomputable def NDO (a:Addr) (hs:List DK->Int) (xs:List (List DK×Addr×Value)):HO:=.ext λh=>∃o es ep,h.get? a=some o/\o.ExactDict/\o.data=.dict es ep/\es.toList=xs.map (λx=>⟨hs x.1,.ref x.2.1,x.2.2⟩)/\(xs.map (·.1)).Nodup/\xs.length<=sizeLine/\(a==sysModules)=false
mutual
inductive Rp (K:W.Frag) (H:Hp):V->D->Prop
 | non:Rp K H .non .non
 | bl (b:Bool):Rp K H (.bl b) (.bl b)
 | int (i:Int):Rp K H (.int i) (.int i)
 | str {z:Str} (h:z.length<=sizeLine):Rp K H (.str z) (.str z)
 | ty (T:String):Rp K H (.ty T) (.ty T)
 | lst {a:Addr}{xs:List V}{ds:List D}:Rd H a (.lst xs)->Rps K H xs ds->Rp K H (.ref a) (.lst ds)
 | tup {a:Addr}{xs:List V}{ds:List D}:SqT K H a xs->Rps K H xs ds->Rp K H (.ref a) (.tup ds)
 | dK {a:Addr}{kvs:List (Key×V)}{ps:List (D×D)}:H a=some (.dK kvs)->Rpk K H kvs ps->Rp K H (.ref a) (.dct ps)
 | ins {a C dx:Addr}{fs:List (Str×V)}{gs:List (Str×D)}:H a=some (.ins C dx fs)->Rpf K H fs gs->Rp K H (.ref a) (.ins C gs)
 | exc {a C dx:Addr}{fs:List (Str×V)}{gs:List (Str×D)}:H a=some (XO C (some dx) a)->H dx=some (DXO dx fs)->Rpf K H fs gs->Rp K H (.ref a) (.exc C gs)
 | dn {a:Addr}{hs:List DK->Int}{xs:List (List DK×Addr×Value)}{kvs:List (List DK×D)}:H a=some (NDO a hs xs)->Rpn K H xs kvs->Rp K H (.ref a) (.dn hs kvs)
 | hdl (a:Addr):Rp K H (.ref a) (.hdl a)
 | obj {a C dx:Addr}{fs:List (Str×V)}:H a=some (.ins C dx fs)->Rp K H (.ref a) (.obj a C)
inductive Rps (K:W.Frag) (H:Hp):List V->List D->Prop
 | nil:Rps K H [] []
 | cons {x:V}{d:D}{xs:List V}{ds:List D}:Rp K H x d->Rps K H xs ds->Rps K H (x::xs) (d::ds)
inductive Rpk (K:W.Frag) (H:Hp):List (Key×V)->List (D×D)->Prop
 | nil:Rpk K H [] []
 | cons {k:Key}{x:V}{d:D}{xs:List (Key×V)}{ds:List (D×D)}:Rp K H x d->Rpk K H xs ds->Rpk K H ((k,x)::xs) ((kD k,d)::ds)
inductive Rpf (K:W.Frag) (H:Hp):List (Str×V)->List (Str×D)->Prop
 | nil:Rpf K H [] []
 | cons {k:Str}{x:V}{d:D}{xs:List (Str×V)}{ds:List (Str×D)}:Rp K H x d->Rpf K H xs ds->Rpf K H ((k,x)::xs) ((k,d)::ds)
inductive Rpn (K:W.Frag) (H:Hp):List (List DK×Addr×Value)->List (List DK×D)->Prop
 | nil:Rpn K H [] []
 | cons {k:List DK}{q:Addr}{u:Value}{x:V}{d:D}{xs:List (List DK×Addr×Value)}{ds:List (List DK×D)}:okK k=true->Rp K H (.ref q) (DK.t k).toD->RelV x u->Rp K H x d->Rpn K H xs ds->Rpn K H ((k,q,u)::xs) ((k,d)::ds)
end
def Rd.same(e:Same H H') {u:HO} (h:Rd H a u):Rd H' a u:=by
 rcases h with h|⟨o,h⟩
 ·exact .inl (e _ _ h)
 ·exact .inr ⟨o,e _ _ h⟩
mutual
theorem Rp.same (e:Same H H'):∀{x:V}{d:D},Rp K H x d->Rp K H' x d
 | _,_,.non=>.non
 | _,_,.bl b=>.bl b
 | _,_,.int i=>.int i
 | _,_,.str h=>.str h
 | _,_,.ty T=>.ty T
 | _,_,.lst hq hs=>.lst (hq.same e) (Rps.same e hs)
 | _,_,.tup hq hs=>.tup (e.seqT hq) (Rps.same e hs)
 | _,_,.dK hq hs=>.dK (e _ _ hq) (Rpk.same e hs)
 | _,_,.ins hq hs=>.ins (e _ _ hq) (Rpf.same e hs)
 | _,_,.exc hq hr hs=>.exc (e _ _ hq) (e _ _ hr) (Rpf.same e hs)
 | _,_,.dn hq hs=>.dn (e _ _ hq) (Rpn.same e hs)
 | _,_,.hdl a=>.hdl a
 | _,_,.obj h=>.obj (e _ _ h)
theorem Rps.same (e:Same H H'):∀{x:List V}{d:List D},Rps K H x d->Rps K H' x d
 | _,_,.nil=>.nil
 | _,_,.cons h hs=>.cons (Rp.same e h) (Rps.same e hs)
theorem Rpk.same (e:Same H H'):∀{x:List (Key×V)}{d:List (D×D)},Rpk K H x d->Rpk K H' x d
 | _,_,.nil=>.nil
 | _,_,.cons h hs=>.cons (Rp.same e h) (Rpk.same e hs)
theorem Rpf.same (e:Same H H'):∀{x:List (Str×V)}{d:List (Str×D)},Rpf K H x d->Rpf K H' x d
 | _,_,.nil=>.nil
 | _,_,.cons h hs=>.cons (Rp.same e h) (Rpf.same e hs)
theorem Rpn.same (e:Same H H'):∀{x:List (List DK×Addr×Value)}{d:List (List DK×D)},Rpn K H x d->Rpn K H' x d
 | _,_,.nil=>.nil
 | _,_,.cons o h r h2 hs=>.cons o (Rp.same e h) r (Rp.same e h2) (Rpn.same e hs)
end
theorem Rps.length:∀{xs:List V}{ds:List D},Rps K H xs ds->xs.length=ds.length
 | _,_,.nil=>rfl
 | _,_,.cons _ hs=>congrArg (·+1) hs.length
theorem Rps.get:∀{xs:List V}{ds:List D}{i:Nat}{d:D},Rps K H xs ds->ds[i]?=some d->∃x,xs[i]?=some x/\Rp K H x d
 | _,_,0,_,.cons h _,e=>by cases e;exact⟨_,rfl,h⟩
 | _,_,i+1,_,.cons _ hs,e=>hs.get (i:=i) (by simpa using e)
theorem Rps.append:∀{xs ys:List V}{ds es:List D},Rps K H xs ds->Rps K H ys es->Rps K H (xs++ys) (ds++es)
 | _,_,_,_,.nil,h=>h
 | _,_,_,_,.cons h hs,h'=>.cons h (hs.append h')
theorem Rps.take:∀{xs:List V}{ds:List D} (n:Nat),Rps K H xs ds->Rps K H (xs.take n) (ds.take n)
 | _,_,0,_=>by simpa using Rps.nil
 | _,_,_+1,.nil=>by simpa using Rps.nil
 | _,_,n+1,.cons h hs=>by simpa using Rps.cons h (hs.take n)
theorem Rps.drop:∀{xs:List V}{ds:List D} (n:Nat),Rps K H xs ds->Rps K H (xs.drop n) (ds.drop n)
 | _,_,0,h=>h
 | _,_,_+1,.nil=>by simpa using Rps.nil
 | _,_,n+1,.cons _ hs=>by simpa using hs.drop n
theorem Rpf.lookup:∀{fs:List (Str×V)}{gs:List (Str×D)}{f:Str}{d:D},Rpf K H fs gs->gs.lookup f=some d->∃v,fs.lookup f=some v/\Rp K H v d
 | _,_,f,d,.cons (k:=k) h hs,e=>by
  rw[u6] at e |-
  cases q:f==k with
  | true=>rw[q] at e;cases e;exact⟨_,rfl,h⟩
  | false=>rw[q] at e;exact hs.lookup e
structure Stp (F H F' H':Hp):Prop where
 ff:Same F F'
 fh:Same F' H'
 hh:Same H H'
 no:∀a,F a=none->H a≠none->F' a=none
 nz:∀a o u,F' a=some (.frz o u)->F a=some (.frz o u)
section
variable {F F'' H'':Hp}{o:HO}
theorem Stp.refl (h:Same F H):Stp F H F H:=⟨Same.refl F,h,Same.refl H,λ_ q _=>q,λ_ _ _ q=>q⟩
def u0Q(e:Same H H')  (h:H a≠none):H' a≠none:=by
 intro q;cases z:H a with
 | none=>exact h z
 | some o=>rw[e a o z] at q;cases q
theorem Stp.trans (x:Stp F H F' H') (y:Stp F' H' F'' H''):Stp F H F'' H'' :=
 ⟨x.ff.trans y.ff,y.fh,x.hh.trans y.hh,λa q r=>y.no a (x.no a q r) (u0Q x.hh r),λa o u q=>x.nz a o u (y.nz a o u q)⟩
def v1p (h:Same F H):Same (upd F a o) (upd H a o):=λb u e=>by
 unfold upd at e |-
 by_cases q:b=a
 ·rw[if_pos q] at e |-;exact e
 ·rw[if_neg q] at e |-;exact h b u e
def u0g (h:F a=none):Same F (upd F a o):=λb u e=>by
 unfold upd;by_cases q:b=a
 ·subst q;rw[h] at e;cases e
 ·rw[if_neg q];exact e
def NoZ (o:HO):Prop:=∀x u,o≠.frz x u
def Stp.new (h:Same F H) (n:H a=none) (z:NoZ o:=by intro _ _ q;cases q):Stp F H (upd F a o) (upd H a o) :=
 ⟨u0g (h.free n),v1p h,u0g n,λb q r=>by
  unfold upd;by_cases z:b=a
  ·subst z;exact absurd n r
  ·rw[if_neg z];exact q,λb x u q=>by
  unfold upd at q;by_cases c:b=a
  ·rw[if_pos c] at q;exact absurd (Option.some.inj q) (z x u)
  ·rw[if_neg c] at q;exact q⟩
def u5z{h:HO} (z:NoZ h) (k:∀b x u,F' b=some (.frz x u)->F0 b=some (.frz x u)):∀b x u,upd F' a h b=some (.frz x u)->F0 b=some (.frz x u):=λb x u q=>by
 unfold upd at q;by_cases c:b=a
 ·rw[if_pos c] at q;exact absurd (Option.some.inj q) (z x u)
 ·rw[if_neg c] at q;exact k b x u q
def Stp.only (h:Same F H) (e:Same H H'):Stp F H F H':=⟨Same.refl F,h.trans e,e,λ_ q _=>q,λ_ _ _ q=>q⟩
end
inductive OD where
 | l (ds:List D)|d (kvs:List (D×D))|i (a C:Addr) (gs:List (Str×D))|n (hs:List DK->Int) (kvs:List (List DK×D))|p (a:Addr) (o:OD)
variable {o:OD}
noncomputable def OD.toD:OD->D
 | .l ds=>.lst ds
 | .d kvs=>.dct kvs
 | .i _ C gs=>.ins C gs
 | .n hs kvs=>.dn hs kvs
 | .p _ o=>o.toD
inductive Ro (K:W.Frag) (F:Hp) (a:Addr):HO->OD->Prop
 | l {xs:List V}{ds:List D}:Rps K F xs ds->Ro K F a (.lst xs) (.l ds)
 | d {kvs:List (Key×V)}{ps:List (D×D)}:Rpk K F kvs ps->Ro K F a (.dK kvs) (.d ps)
 | i {C dx:Addr}{fs:List (Str×V)}{gs:List (Str×D)}:Rpf K F fs gs->Ro K F a (.ins C dx fs) (.i a C gs)
 | n {hs:List DK->Int}{xs:List (List DK×Addr×Value)}{kvs:List (List DK×D)}:Rpn K F xs kvs->Ro K F a (NDO a hs xs) (.n hs kvs)
 | p {h:HO}{o:OD}:Ro K F a h o->Ro K F a h (.p a o)
theorem Ro.same{F:Hp} (e:Same F F') {h:HO} (r:Ro K F a h o):Ro K F' a h o:=by
 induction r with
 | l r=>exact .l (Rps.same e r)
 | d r=>exact .d (Rpk.same e r)
 | i r=>exact .i (Rpf.same e r)
 | n r=>exact .n (Rpn.same e r)
 | p _ ih=>exact .p ih
def Ro.nz{F:Hp}{h:HO} (r:Ro K F a h o):NoZ h:=by
 induction r with
 | p _ ih=>exact ih
 | _=>intro _ _ q;cases q
def Ro.rp{F:Hp}{h:HO} (r:Ro K F a h o) (e:F a=some h):Rp K F (.ref a) o.toD:=by
 induction r with
 | l r=>exact .lst (.inl e) r
 | d r=>exact .dK e r
 | i r=>exact .ins e r
 | n r=>exact .dn e r
 | p _ ih=>exact ih e
inductive Sl where
 | val (d:D)|own (o:OD)
abbrev Rho:=List (Option Sl)
variable {fa fs fi:Rho->Res (List D)}{ρ:Rho}{fe fo fv:Rho->Res D}{fA fB fT:Rho->Res Bool}
structure Rel (K:W.Frag) (B:Hp×Hp) (ρ:Rho) (σ:St) (F H:Hp):Prop where
 st:Stp B.1 B.2 F H
 len:σ.length=ρ.length
 val:∀(i:Nat) d,ρ[i]?=some (some (.val d))->∃v,σ[i]?=some (some v)/\Rp K F v d
 own:∀(i:Nat) o,ρ[i]?=some (some (.own o))->∃a h,σ[i]?=some (some (.ref a))/\F a=none/\B.2 a=none/\H a=some h/\Ro K F a h o
 dis:∀(i j:Nat) o u a,ρ[i]?=some (some (.own o))->ρ[j]?=some (some (.own u))->σ[i]?=some (some (.ref a))->σ[j]?=some (some (.ref a))->i=j
noncomputable def frzS:Sl->Sl
 | .val d=>.val d
 | .own o=>.val o.toD
noncomputable def frz (ρ:Rho):Rho:=ρ.map (Option.map frzS)
section
variable {F:Hp}
theorem Rel.fh (r:Rel K B ρ σ F H):Same F H:=r.st.fh
def Rel.step (r:Rel K B ρ σ F H) (s:Stp F H F' H'):Rel K B ρ σ F' H' where
 st:=r.st.trans s
 len:=r.len
 val i d e:=let ⟨v,h1,h2⟩:=r.val i d e;⟨v,h1,h2.same s.ff⟩
 own i o e:=let ⟨a,h,h1,h2,h3,h4,h5⟩:=r.own i o e;⟨a,h,h1,s.no a h2 (by rw[h4];simp),h3,s.hh a h h4,Ro.same s.ff h5⟩
 dis:=r.dis
def u7l{x:Sl} (h:(frz ρ)[i]?=some (some x)):∃y,ρ[i]?=some (some y)/\x=frzS y:=by
 unfold frz at h;rw[v7] at h;cases q:ρ[i]? with
 | none=>rw[q] at h;cases h
 | some z =>
  rw[q] at h;cases z with
  | none=>simp at h
  | some y=>simp at h;exact⟨y,rfl,h.symm⟩
open Classical in
theorem Rel.frz (r:Rel K B ρ σ F H):∃F',Same F F'/\Rel K B (frz ρ) σ F' H:=by
 let T:Addr->Prop:=λa=>∃(i:Nat) (o:OD),ρ[i]?=some (some (.own o))/\σ[i]?=some (some (.ref a))
 let F':Hp:=λa=>if T a then H a else F a
 have hT:∀a,T a->F a=none/\B.2 a=none:=λa ⟨i,o,e,q⟩=>by
  obtain⟨b,h,h1,h2,h3,_⟩:=r.own i o e;rw[q] at h1;cases h1;exact⟨h2,h3⟩
 have hZ:∀a,T a->∀x u,H a≠some (.frz x u):=λa ⟨i,o,e,q⟩ x u z=>by
  obtain⟨b,h,h1,h2,h3,h4,h5⟩:=r.own i o e;rw[q] at h1;cases h1;rw[h4] at z;exact h5.nz x u (Option.some.inj z)
 have e1:Same F F':=λa o e=>by
  show(if T a then H a else F a)=some o
  by_cases q:T a
  ·rw[(hT a q).1] at e;cases e
  ·rw[if_neg q];exact e
 have e2:Same F' H:=λa o e=>by
  have e':(if T a then H a else F a)=some o:=e
  by_cases q:T a
  ·rw[if_pos q] at e';exact e'
  ·rw[if_neg q] at e';exact r.fh a o e'
 refine⟨F',e1,⟨⟨r.st.ff.trans e1,e2,r.st.hh,λa q z=>?_,λa x u q=>?_⟩,?_,?_,?_,?_⟩⟩
 ·show (if T a then H a else F a)=none
  by_cases t:T a
  ·exact absurd (hT a t).2 z
  ·rw[if_neg t];exact r.st.no a q z
 ·have q:(if T a then H a else F a)=some (.frz x u):=q
  by_cases t:T a
  ·rw[if_pos t] at q;exact absurd q (hZ a t x u)
  ·rw[if_neg t] at q;exact r.st.nz a x u q
 ·rw[r.len];unfold L2.frz;simp
 ·intro i d e
  obtain⟨y,h1,h2⟩:=u7l e;cases y with
  | val d'=>cases h2;obtain⟨v,q1,q2⟩:=r.val i d h1;exact⟨v,q1,q2.same e1⟩
  | own o =>
   cases h2;obtain⟨a,h,q1,q2,q3,q4,q5⟩:=r.own i o h1;have t:T a:=⟨i,o,h1,q1⟩;exact⟨.ref a,q1,Ro.rp (Ro.same e1 q5) (show(if T a then H a else F a)=some h by rw[if_pos t];exact q4)⟩
 ·intro i o e
  obtain⟨y,h1,h2⟩:=u7l e;cases y<;>cases h2
 ·intro i j o u a e
  obtain⟨y,h1,h2⟩:=u7l e;cases y<;>cases h2
def u0A{l:List α}{x y:α} (h:(l.set i x)[j]?=some y):(j=i/\i<l.length/\y=x)\/(j≠i/\l[j]?=some y):=by
 rw[List.getElem?_set] at h;by_cases q:i=j
 ·rw [if_pos q] at h
  by_cases z:i<l.length
  ·rw[if_pos z] at h;exact .inl ⟨q.symm,z,(Option.some.inj h).symm⟩
  ·rw[if_neg z] at h;cases h
 ·rw[if_neg q] at h;exact .inr ⟨λe=>q e.symm,h⟩
def u4G{l:List α}{x:α} (h:i<l.length):(l.set i x)[i]?=some x:=by simp[h]
def u0E{l:List α}{x:α} (h:j≠i):(l.set i x)[j]?=l[j]?:=by rw[List.getElem?_set,if_neg (λe=>h e.symm)]
theorem Rel.set{d:D} (r:Rel K B ρ σ F H) (h:Rp K F v d):Rel K B (ρ.set i (some (.val d))) (σ.set i (some v)) F H where
 st:=r.st
 len:=by simp[r.len]
 val j d' e:=by
  rcases u0A e with⟨rfl,q,z⟩|⟨q,z⟩
  ·cases z;exact⟨v,u4G (r.len ▸ q),h⟩
  ·rw[u0E q];exact r.val j d' z
 own j o e:=by
  rcases u0A e with⟨rfl,q,z⟩|⟨q,z⟩
  ·cases z
  ·rw[u0E q];exact r.own j o z
 dis j k o u a e e':=by
  rcases u0A e with⟨rfl,q,z⟩|⟨q,z⟩
  ·cases z
  ·rcases u0A e' with ⟨rfl,q',z'⟩ | ⟨q',z'⟩
   ·cases z'
   ·rw[u0E q,u0E q'];exact r.dis j k o u a z z'
def Rel.setOwn{h:HO} (r:Rel K B ρ σ F H) (h1:F a=none) (h2:B.2 a=none) (h3:H a=some h) (h4:Ro K F a h o)
  (hd:∀(j:Nat) u,ρ[j]?=some (some (.own u))->σ[j]?≠some (some (.ref a))):Rel K B (ρ.set i (some (.own o))) (σ.set i (some (.ref a))) F H where
 st:=r.st
 len:=by simp[r.len]
 val j d' e:=by
  rcases u0A e with⟨rfl,q,z⟩|⟨q,z⟩
  ·cases z
  ·rw[u0E q];exact r.val j d' z
 own j u e:=by
  rcases u0A e with⟨rfl,q,z⟩|⟨q,z⟩
  ·cases z;exact⟨a,h,u4G (r.len ▸ q),h1,h2,h3,h4⟩
  ·rw[u0E q];exact r.own j u z
 dis j k u u' b e e':=by
  rcases u0A e with⟨rfl,q,z⟩|⟨q,z⟩
  ·rcases u0A e' with ⟨rfl,q',z'⟩ | ⟨q',z'⟩
   ·intro _ _;rfl
   ·rw [u0E q',u4G (r.len ▸ q)]
    intro x y;cases x;exact absurd y (hd k u' z')
  ·rcases u0A e' with ⟨rfl,q',z'⟩ | ⟨q',z'⟩
   ·rw [u0E q,u4G (r.len ▸ q')]
    intro x y;cases y;exact absurd x (hd j u z)
   ·rw[u0E q,u0E q'];exact r.dis j k u u' b z z'
def Rel.write{h':HO}{o':OD} (r:Rel K B ρ σ F H) (e:ρ[i]?=some (some (.own o))) (hs:σ[i]?=some (some (.ref a))) (h4:Ro K F a h' o') :
  Rel K B (ρ.set i (some (.own o'))) σ F (upd H a h'):=by
 obtain⟨b,h,q1,q2,q3,q4,q5⟩:=r.own i o e;rw[hs] at q1;cases q1;have e1:∀G:Hp,G a=none->Same G H->Same G (upd H a h'):=λG n s b u x=>by
  unfold upd;by_cases z:b=a
  ·subst z;rw[n] at x;cases x
  ·rw[if_neg z];exact s b u x
 refine⟨⟨r.st.ff,e1 F q2 r.fh,e1 B.2 q3 r.st.hh,r.st.no,r.st.nz⟩,by simp[r.len],?_,?_,?_⟩
 ·intro j d x
  rcases u0A x with⟨rfl,q,z⟩|⟨q,z⟩
  ·cases z
  ·exact r.val j d z
 ·intro j u x
  rcases u0A x with⟨rfl,q,z⟩|⟨q,z⟩
  ·cases z;exact⟨a,h',hs,q2,q3,u0c,h4⟩
  ·obtain ⟨c,g,p1,p2,p3,p4,p5⟩:=r.own j u z
   have ne:c≠a:=λw=>q (by subst w;exact r.dis j i u o c z e p1 hs)
   exact⟨c,g,p1,p2,p3,by rw[u0e ne];exact p4,p5⟩
 ·intro j k u u' c x y
  have f:∀(m:Nat) w,(ρ.set i (some (Sl.own o')))[m]?=some (some (.own w))->∃w',ρ[m]?=some (some (.own w')):=λm w p=>by
   rcases u0A p with⟨rfl,_,_⟩|⟨_,z⟩
   ·exact⟨o,e⟩
   ·exact⟨w,z⟩
  obtain⟨w1,z1⟩:=f j u x;obtain⟨w2,z2⟩:=f k u' y;exact r.dis j k w1 w2 c z1 z2
end
abbrev XQ:=V->St->Hp->Prop
variable {xq:XQ}
def frz_frz (ρ:Rho):frz (frz ρ)=frz ρ:=by
 unfold frz;rw[z3F];congr 1;funext x;cases x with
 | none=>rfl
 | some y=>cases y<;>rfl
def ErrK (K:W.Frag) (xq:XQ) (B:Hp×Hp) (ρ:Rho) (σ:St) (x:D):Prop:=∀v F' H',Rel K B (frz ρ) σ F' H'->Rp K F' v x->xq v σ H'
def liftE (K:W.Frag) (xq:XQ) (f:Rho->Res D):TE:=λσ H Q=>∃B F ρ,Rel K B ρ σ F H /\
 (f ρ).all (λd=>∀v F' H',Stp F H F' H'->Rp K F' v d->Q v H') (ErrK K xq B ρ σ)
def liftA (K:W.Frag) (xq:XQ) (f:Rho->Res (List D)):TA:=λσ H Q=>∃B F ρ,Rel K B ρ σ F H /\
 (f ρ).all (λds=>∀vs F' H',Stp F H F' H'->Rps K F' vs ds->Q vs H') (ErrK K xq B ρ σ)
def liftT (K:W.Frag) (xq:XQ) (f:Rho->Res Bool):TT:=λσ H Q=>∃B F ρ,Rel K B ρ σ F H /\
 (f (frz ρ)).all (λb=>∀H',Stp F H F H'->Q b H') (ErrK K xq B ρ σ)
def liftN (K:W.Frag) (xq:XQ) (f:Rho->Res OD):TE:=λσ H Q=>∃B F ρ,Rel K B ρ σ F H /\
 (f ρ).all (λo=>∀a h F' H',Stp F H F' H'->F' a=none->H a=none->H' a=some h->Ro K F' a h o->Q (.ref a) H') (ErrK K xq B ρ σ)
abbrev FD:=List D->Res D
variable {g:FD}
structure DE (X:Cx) (xq:XQ) (e:Expr) (f:Rho->Res D):Prop where
 out:PE X e (liftE X.K xq f)
structure DN (X:Cx) (xq:XQ) (e:Expr) (f:Rho->Res OD):Prop where
 out:PE X e (liftN X.K xq f)
structure DT (X:Cx) (xq:XQ) (e:Expr) (f:Rho->Res Bool):Prop where
 out:PT X e (liftT X.K xq f)
structure DW (X:Cx) (xq:XQ) (e:Expr) (f:Rho->Res Bool):Prop where
 out:PW X e (liftT X.K xq f)
structure DA (X:Cx) (xq:XQ) (es:List Expr) (f:Rho->Res (List D)):Prop where
 out:PA X es (liftA X.K xq f)
 ns:es.all notStar=true
def rD (K:W.Frag) (g:D->D->Res D):R2:=λx y H Q=>∃F dx dy,Same F H/\Rp K F x dx/\Rp K F y dy/\(g dx dy).all (λd=>∀v F' H',Stp F H F' H'->Rp K F' v d->Q v H') (λ_=>False)
def rD1 (K:W.Frag) (g:D->Res D):V->Hp->VK->Prop:=λx H Q=>∃F dx,Same F H/\Rp K F x dx/\(g dx).all (λd=>∀v F' H',Stp F H F' H'->Rp K F' v d->Q v H') (λ_=>False)
def rDs (K:W.Frag) (g:FD):List V->Hp->VK->Prop:=λxs H Q=>∃F ds,Same F H/\Rps K F xs ds/\(g ds).all (λd=>∀v F' H',Stp F H F' H'->Rp K F' v d->Q v H') (λ_=>False)
section
variable {F:Hp}{x:D}
def seqE{fa:Rho->Res D}{g:D->Res α}{P:α->Prop}{T:VK} (R:Rel K B ρ σ F H) (h:((fa ρ).bind g).all P (ErrK K xq B ρ σ))
  (k:∀d v F' H',Stp F H F' H'->Rel K B ρ σ F' H'->Rp K F' v d->(g d).all P (ErrK K xq B ρ σ)->T v H'):liftE K xq fa σ H T :=
 ⟨B,F,ρ,R,Res.all_mono (Res.all_bind.mp h) (λd h' v F' H' s p=>k d v F' H' s (R.step s) p h') (λ_ e=>e)⟩
def seqA{g:List D->Res α}{P:α->Prop}{T:List V->Hp->Prop} (R:Rel K B ρ σ F H) (h:((fa ρ).bind g).all P (ErrK K xq B ρ σ))
  (k:∀d v F' H',Stp F H F' H'->Rel K B ρ σ F' H'->Rps K F' v d->(g d).all P (ErrK K xq B ρ σ)->T v H'):liftA K xq fa σ H T :=
 ⟨B,F,ρ,R,Res.all_mono (Res.all_bind.mp h) (λd h' v F' H' s p=>k d v F' H' s (R.step s) p h') (λ_ e=>e)⟩
end
noncomputable def noE:Res α->Res α
 | .err _=>.bad
 | r=>r
section
variable {F:Hp}{x:D}
def doneN{H0:Hp} (s:Stp F0 H0 F H) (h:(noE r).all (λd=>∀v F' H',Stp F0 H0 F' H'->Rp K F' v d->Q v H') E) :
  r.all (λd=>∀v F' H',Stp F H F' H'->Rp K F' v d->Q v H') (λ_=>False):=by
 cases r with
 | ok d=>exact λv F' H' s' p=>h v F' H' (s.trans s') p
 | err x=>exact h
 | bad=>exact h
end
noncomputable def getV (ρ:Rho) (i:Nat):Res D:=match ρ[i]? with
 | some (some (.val d))=>.ok d
 | _=>.bad
set_option tactic.hygienic true in
def getV_ok{P:D->Prop} (h:(getV ρ i).all P E):∃d,ρ[i]?=some (some (.val d))/\P d:=by
 unfold getV at h;split at h
 ·rename_i d e;exact⟨d,e,h⟩
 ·exact h.elim
section
variable {a o:Expr}{fa fb fc:Rho->Res D}
def DE.of {t:TE} (h:PE X e t) (k:∀B F ρ σ H Q,Rel X.K B ρ σ F H->(fe ρ).all (λd=>∀v F' H',Stp F H F' H'->Rp X.K F' v d->Q v H') (ErrK X.K xq B ρ σ)->t σ H Q):DE X xq e fe :=
 ⟨λpins s σ H Q I z9=>un5 z9 λB F ρ R q=>h pins s σ H Q I (k B F ρ σ H Q R q)⟩
def DT.of {t:TT} (h:PT X e t) (k:∀B F ρ σ H Q,Rel X.K B ρ σ F H->(fA (frz ρ)).all (λb=>∀H',Stp F H F H'->Q b H') (ErrK X.K xq B ρ σ)->t σ H Q):DT X xq e fA :=
 ⟨λpins s σ H Q I z9=>un5 z9 λB F ρ R q=>h pins s σ H Q I (k B F ρ σ H Q R q)⟩
def d_C{d:D} (h:PE X e (tC v)) (p:∀F,Rp X.K F v d):DE X xq e (λ_=>.ok d):=DE.of h λB F ρ σ H Q R q=>q v F H (Stp.refl R.fh) (p F)
def u0d {i j pos}:DE X xq (.Constant (.int i) j pos) (λ_=>.ok (.int i)):=d_C pe_int λ_=>.int i
def d_bl {i j pos}:DE X xq (.Constant (.bool i) j pos) (λ_=>.ok (.bl i)):=d_C u4u λ_=>.bl i
def u7p {j pos}:DE X xq (.Constant .none j pos) (λ_=>.ok .non):=d_C u3o λ_=>.non
def u0r{j pos} (h:z.length<=sizeLine:=by decide):DE X xq (.Constant (.str z) j pos) (λ_=>.ok (.str z)):=d_C u5S λ_=>.str h
def dv(i:Nat)  (hN:X.N[i]?=some x:=by rfl) (hv:Vis X.env.scope x:=by first|exact Or.inl rfl|exact Or.inr (Or.inl rfl)|exact Or.inr (Or.inr rfl)) (hd:(x==("__debug__":Str))=false:=by decide)
  (hcd:(x==("__classdict__":Str))=false:=by decide):DE X xq (.Name x pos) (λρ=>getV ρ i) :=
 DE.of (u0v hN hv hd hcd) λB F ρ σ H Q R q=>by
  obtain⟨d,e,h⟩:=getV_ok q;obtain⟨v,h1,h2⟩:=R.val i d e;exact⟨v,h1,h v F H (Stp.refl R.fh) h2⟩
def GloD (K:W.Frag) (mg:MG) (x:Str) (d:D):Prop:=∃v,Glo mg x v/\∀F,Rp K F v d
def v0C{d:D} (h:GloD K mg x d) (hg:Gl X x:=by rfl) (em:X.mg=mg:=by rfl) (eK:X.K=K:=by rfl) (hd:(x==("__debug__":Str))=false:=by decide):DE X xq (.Name x pos) (λ_=>.ok d):=by
 obtain⟨v,h1,h2⟩:=h;subst eK;exact d_C (pe_glo h1 hg em hd) h2
def d_ty(hm:X.mg x=none) (hv:bootBuiltins x=some (.type T)) (hg:Gl X x:=by rfl) (hn:x≠"__name__":=by decide) (hd:(x==("__debug__":Str))=false:=by decide):DE X xq (.Name x pos) (λ_=>.ok (.ty T)) :=
 d_C (v:=.ty T) (pe_bltn hg hm hv rfl hn hd) λ_=>.ty T
def d_op {op:Operator}{g:D->D->Res D} (ho:OpR X (binaryOp op) (rD X.K g)) (ha:DE X xq a fa) (hb:DE X xq b fb):DE X xq (.BinOp a op b pos) (λρ=>(fa ρ).bind λx=>(fb ρ).bind λy=>noE (g x y)) :=
 DE.of (pe_op ho ha.out hb.out) λB F ρ σ H Q R q=>seqE R q λd v F1 H1 s1 R1 p1 q1=>seqE R1 q1 λd2 v2 F2 H2 s2 R2 p2 q2 =>
  ⟨F2,d,d2,R2.fh,p1.same s2.ff,p2,doneN (s1.trans s2) q2⟩
def d_un {op:UnaryOp}{g:D->Res D} (ho:UnR X (unaryOp op) (rD1 X.K g)) (ha:DE X xq a fa):DE X xq (.UnaryOp op a pos) (λρ=>(fa ρ).bind λx=>noE (g x)) :=
 DE.of (pe_un ho ha.out) λB F ρ σ H Q R q=>seqE R q λd v F1 H1 s1 R1 p1 q1=>⟨F1,d,R1.fh,p1,doneN s1 q1⟩
def u4g {op:CmpOp}{g:D->D->Res D} (ho:OpR X (compareOp op) (rD X.K g)) (ha:DE X xq a fa) (hb:DE X xq b fb) (hm:behindInMarks op b=false:=by first|exact nomark _|with_unfolding_all rfl) :
  DE X xq (.Compare a [op] [b] pos) (λρ=>(fa ρ).bind λx=>(fb ρ).bind λy=>noE (g x y)) :=
 DE.of (pe_cmpR ho ha.out hb.out hm) λB F ρ σ H Q R q=>seqE R q λd v F1 H1 s1 R1 p1 q1=>seqE R1 q1 λd2 v2 F2 H2 s2 R2 p2 q2 =>
  ⟨F2,d,d2,R2.fh,p1.same s2.ff,p2,doneN (s1.trans s2) q2⟩
def d_ix {g:D->D->Res D} (ho:IxR X (rD X.K g)) (ha:DE X xq a fa) (hb:DE X xq b fb) (hs:PlainIx b:=by intro _ _;rfl):DE X xq (.Subscript a b pos) (λρ=>(fa ρ).bind λx=>(fb ρ).bind λy=>noE (g x y)) :=
 DE.of (pe_ix ho ha.out hb.out hs) λB F ρ σ H Q R q=>seqE R q λd v F1 H1 s1 R1 p1 q1=>seqE R1 q1 λd2 v2 F2 H2 s2 R2 p2 q2 =>
  ⟨F2,d,d2,R2.fh,p1.same s2.ff,p2,doneN (s1.trans s2) q2⟩
noncomputable def asB:D->Res Bool
 | .bl b=>.ok b
 | _=>.bad
def u6z{d:D}{P:Bool->Prop} (h:(asB d).all P E):∃b,d=.bl b/\P b:=by
 cases d<;>first|exact h.elim|exact⟨_,rfl,h⟩
def Rp.blI{F:Hp}{b:Bool} (h:Rp K F v (.bl b)):v=.bl b:=by cases h;rfl
noncomputable def fChain (g g':D->D->Res D) (x y:D) (z:Res D):Res D:=(noE (g x y)).bind λw=>(asB w).bind λc=>if c=true then z.bind λz=>noE (g' y z) else .ok (.bl false)
def d_chain {op op':CmpOp}{g g':D->D->Res D} (ho:OpR X (compareOp op) (rD X.K g)) (ho':OpR X (compareOp op') (rD X.K g')) (ha:DE X xq a fa) (hb:DE X xq b fb) (hc:DE X xq c fc)
  (hm:lastMarks [op,op'] [b,c]=false:=by with_unfolding_all rfl):DE X xq (.Compare a [op,op'] [b,c] pos) (λρ=>(fa ρ).bind λx=>(fb ρ).bind λy=>fChain g g' x y (fc ρ)) :=
 DE.of (v1M ho ho' ha.out hb.out hc.out hm) λB F ρ σ H Q R q=>seqE R q λd v F1 H1 s1 R1 p1 q1=>seqE R1 q1 λd2 v2 F2 H2 s2 R2 p2 q2=>by
  refine⟨F2,d,d2,R2.fh,p1.same s2.ff,p2,?_⟩;unfold fChain at q2;have q3:=Res.all_bind.mp q2;generalize g d d2=r at q3;cases r with
  | err x=>exact q3
  | bad=>exact q3
  | ok w =>
   obtain⟨k,rfl,q4⟩:=u6z (Res.all_bind.mp (show((asB w).bind _).all _ _ from q3))
   intro v3 F3 H3 s3 p3;refine⟨k,p3.blI,?_⟩;have s03:=(s1.trans s2).trans s3;cases k with
   | false=>exact q4 (.bl false) F3 H3 s03 (.bl false)
   | true=>exact seqE (R2.step s3) q4 λd4 v4 F4 H4 s4 R4 p4 q5=>⟨F4,d2,d4,R4.fh,(p2.same s3.ff).same s4.ff,p4,doneN (s03.trans s4) q5⟩
def u7o {op} (h:DE X xq a fa):DE X xq (.BoolOp op [a] pos) fa:=⟨pe_one h.out⟩
def u4h (ha:DE X xq a fa) (hb:DE X xq (.BoolOp .And (b::rest) pos) fb):DE X xq (.BoolOp .And (a::b::rest) pos) (λρ=>(fa ρ).bind λx=>(asB x).bind λk=>if k=true then fb ρ else .ok (.bl false)) :=
 DE.of (pe_and ha.out hb.out) λB F ρ σ H Q R q=>seqE R q λd v F1 H1 s1 R1 p1 q1=>by
  obtain⟨k,rfl,q2⟩:=u6z (Res.all_bind.mp q1);refine⟨k,p1.blI,?_⟩;cases k with
  | false=>exact q2 _ F1 H1 s1 (.bl false)
  | true=>exact⟨B,F1,ρ,R1,Res.all_mono q2 (λd k v F' H' s p=>k v F' H' (s1.trans s) p) λ_ e=>e⟩
def d_not (ha:DE X xq a fa):DE X xq (.UnaryOp .Not a pos) (λρ=>(fa ρ).bind λx=>(asB x).bind λk=>.ok (.bl (!k))) :=
 DE.of (pe_not ha.out) λB F ρ σ H Q R q=>seqE R q λd v F1 H1 s1 R1 p1 q1=>by
  obtain⟨k,rfl,q2⟩:=u6z (Res.all_bind.mp q1);exact⟨k,p1.blI,q2 _ F1 H1 s1 (.bl _)⟩
theorem ErrK.frz{x:D} (h:ErrK K xq B ρ σ x):ErrK K xq B (frz ρ) σ x:=λv F' H' R p=>h v F' H' (frz_frz ρ ▸ R) p
def d_ife (hc:DT X xq c fA) (ha:DE X xq a fa) (hb:DE X xq b fb):DE X xq (.IfExp c a b pos) (λρ=>(fA (frz ρ)).bind λk=>if k=true then fa ρ else fb ρ) :=
 DE.of (v1K hc.out ha.out hb.out) λB F ρ σ H Q R q=>⟨B,F,ρ,R,Res.all_mono (Res.all_bind.mp q) (λk q1 H1 s1=>by
  cases k with
  | true=>exact⟨B,F,ρ,R.step s1,Res.all_mono q1 (λd k v F' H' s p=>k v F' H' (s1.trans s) p) λ_ e=>e⟩
  | false=>exact⟨B,F,ρ,R.step s1,Res.all_mono q1 (λd k v F' H' s p=>k v F' H' (s1.trans s) p) λ_ e=>e⟩) λ_ e=>e⟩
def tfrz{P:Bool->Prop}{F:Hp}{Q:Bool->Hp->Prop} (R:Rel K B ρ σ F H) (h:((fe (frz ρ)).bind asB).all (λb=>∀H',Stp F H F H'->Q b H') (ErrK K xq B ρ σ)) :
  liftE K xq fe σ H (λx H'=>∃k,x=.bl k/\Q k H'):=by
 obtain⟨F1,e1,R1⟩:=R.frz;refine⟨B,F1,L2.frz ρ,R1,Res.all_mono (Res.all_bind.mp h) (λd q v F' H' s p=>?_) λ_ e=>e.frz⟩
 obtain⟨k,rfl,q⟩:=u6z q;exact⟨k,p.blI,q H' (Stp.only R.fh s.hh)⟩
def u0D (h:DE X xq e fe) (he:∀whole,isTrue e X.env whole=(do let v <- whole;standAt e.pos;holding [v] (truthy v)):=by intro _;rfl):DT X xq e (λρ=>(fe ρ).bind asB) :=
 DT.of (u5I h.out he) λB F ρ σ H Q R q=>tfrz (P:=λ_=>True) R q
def u0o {op:CmpOp}{g:D->D->Res D} (ho:OpR X (compareOp op) (rD X.K g)) (ha:DE X xq a fa) (hb:DE X xq b fb) (hm:behindInMarks op b=false:=by first|exact nomark _|with_unfolding_all rfl) :
  DT X xq (.Compare a [op] [b] pos) (λρ=>(fa ρ).bind λx=>(fb ρ).bind λy=>(noE (g x y)).bind asB) :=
 DT.of (u9z ho ha.out hb.out hm) λB F ρ σ H Q R q=>by
  obtain⟨F0,e0,R0⟩:=R.frz;have q':=Res.all_mono q (λ_ k=>k) (λx (e:ErrK X.K xq B ρ σ x)=>e.frz)
  refine seqE R0 q' λd v F1 H1 s1 R1 p1 q1=>seqE R1 q1 λd2 v2 F2 H2 s2 R2 p2 q2=>⟨F2,d,d2,R2.fh,p1.same s2.ff,p2,?_⟩
  have q3:=Res.all_bind.mp q2;generalize g d d2=r at q3;cases r with
  | err x=>exact q3
  | bad=>exact q3
  | ok w =>
   obtain⟨k,rfl,q4⟩:=u6z (show(asB w).all _ _ from q3)
   exact λv3 F3 H3 s3 p3=>⟨k,p3.blI,q4 H3 (Stp.only R.fh ((s1.hh.trans s2.hh).trans s3.hh))⟩
def seqT{F:Hp}{g:Bool->Res α}{P:α->Prop}{T:Bool->Hp->Prop} (R:Rel K B ρ σ F H) (h:((fA (frz ρ)).bind g).all P (ErrK K xq B ρ σ))
  (k:∀b H',Stp F H F H'->Rel K B ρ σ F H'->(g b).all P (ErrK K xq B ρ σ)->T b H'):liftT K xq fA σ H T :=
 ⟨B,F,ρ,R,Res.all_mono (Res.all_bind.mp h) (λd h' H' s=>k d H' s (R.step s) h') (λ_ e=>e)⟩
def u1x (ha:DT X xq a fA):DT X xq (.UnaryOp .Not a pos) (λρ=>(fA ρ).bind λk=>.ok (!k)) :=
 DT.of (u5J ha.out) λB F ρ σ H Q R q=>seqT R q λk H1 s1 R1 q1=>q1 H1 s1
def dt_w (h:DW X xq e fA):DT X xq e fA:=⟨h.out.pt⟩
def dw_and1 (ha:DT X xq a fA):DW X xq (.BoolOp .And [a] pos) fA:=⟨pw_and1 ha.out⟩
def u1K (ha:DT X xq a fA):DW X xq (.BoolOp .Or [a] pos) fA:=⟨v2T ha.out⟩
def dw_and (ha:DT X xq a fA) (hb:DW X xq (.BoolOp .And (b::rest) pos) fB):DW X xq (.BoolOp .And (a::b::rest) pos) (λρ=>(fA ρ).bind λk=>if k=true then fB ρ else .ok false) :=
 ⟨λwh pins s σ H Q I z9=>un5 z9 λB F ρ R q=>pw_and ha.out hb.out wh pins s σ H Q I (seqT R q λk H1 s1 R1 q1=>by
  cases k with
  | false=>exact q1 H1 s1
  | true=>exact⟨B,F,ρ,R1,Res.all_mono q1 (λk q H2 s2=>q H2 (s1.trans s2)) λ_ e=>e⟩)⟩
def u2v (ha:DT X xq a fA) (hb:DW X xq (.BoolOp .Or (b::rest) pos) fB):DW X xq (.BoolOp .Or (a::b::rest) pos) (λρ=>(fA ρ).bind λk=>if k=true then .ok true else fB ρ) :=
 ⟨λwh pins s σ H Q I z9=>un5 z9 λB F ρ R q=>pw_or ha.out hb.out wh pins s σ H Q I (seqT R q λk H1 s1 R1 q1=>by
  cases k with
  | true=>exact q1 H1 s1
  | false=>exact⟨B,F,ρ,R1,Res.all_mono q1 (λk q H2 s2=>q H2 (s1.trans s2)) λ_ e=>e⟩)⟩
def u0b:DA X xq [] (λ_=>.ok []):=⟨λpos pins s σ H Q I z9=>un5 z9 λB F ρ R q=>u0t pos pins s σ H Q I (q [] F H (Stp.refl R.fh) .nil),rfl⟩
def u0a (ha:DE X xq e fe) (hr:DA X xq es fs) (hs:notStar e=true:=by rfl):DA X xq (e::es) (λρ=>(fe ρ).bind λd=>(fs ρ).bind λds=>.ok (d::ds)) :=
 ⟨λpos pins s σ H Q I z9=>un5 z9 λB F ρ R q=>pac ha.out hr.out hs pos pins s σ H Q I (seqE R q λd v F1 H1 s1 R1 p1 q1=>seqA R1 q1 λds vs F2 H2 s2 R2 p2 q2 =>
  q2 (v::vs) F2 H2 (s1.trans s2) (.cons (p1.same s2.ff) p2)),by rw[z1B,hs,hr.ns];rfl⟩
noncomputable def szD(ds:List D) (k:Res α):Res α:=if ds.length<=sizeLine then k else .bad
def u7w{k:Res α}{P:α->Prop} (h:(szD ds k).all P E):ds.length<=sizeLine/\k.all P E:=by
 unfold szD at h;by_cases q:ds.length<=sizeLine
 ·rw[if_pos q] at h;exact⟨q,h⟩
 ·rw[if_neg q] at h;exact h.elim
def v2t {x1} (h:DA X xq es fs):DE X xq (.Tuple es x1 pos) (λρ=>(fs ρ).bind λds=>szD ds (.ok (.tup ds))) :=
 DE.of (u9J h.out) λB F ρ σ H Q R q=>seqA R q λds vs F1 H1 s1 R1 p1 q1=>by
  obtain⟨hz,q2⟩:=u7w q1;exact⟨p1.length ▸ hz,λp n=>q2 _ _ _ (s1.trans (Stp.new R1.fh n)) (.tup (.inl (.inl u0c)) (p1.same (Stp.new R1.fh n).ff))⟩
def u4x (h:DA X xq es fs):DE X xq (.List es pos) (λρ=>(fs ρ).bind λds=>szD ds (.ok (.lst ds))) :=
 DE.of (u2l h.out) λB F ρ σ H Q R q=>seqA R q λds vs F1 H1 s1 R1 p1 q1=>by
  obtain⟨hz,q2⟩:=u7w q1;exact⟨p1.length ▸ hz,λp n=>q2 _ _ _ (s1.trans (Stp.new R1.fh n)) (.lst (.inl u0c) (p1.same (Stp.new R1.fh n).ff))⟩
def u4N (h:DA X xq es fs):DN X xq (.List es pos) (λρ=>(fs ρ).bind λds=>szD ds (.ok (.l ds))) :=
 ⟨λpins s σ H Q I z9=>un5 z9 λB F ρ R q=>u2l h.out pins s σ H Q I (seqA R q λds vs F1 H1 s1 R1 p1 q1=>by
  obtain⟨hz,q2⟩:=u7w q1;refine⟨p1.length ▸ hz,λp n=>q2 p _ F1 _ (s1.trans (Stp.only R1.fh (u0g n))) (R1.fh.free n) (s1.hh.free n) u0c (.l p1)⟩)⟩
def DN.de {f:Rho->Res OD} (h:DN X xq e f):DE X xq e (λρ=>(f ρ).bind λo=>.ok o.toD) :=
 ⟨λpins s σ H Q I z9=>un5 z9 λB F ρ R q=>h.out pins s σ H Q I ⟨B,F,ρ,R,Res.all_mono (Res.all_bind.mp q) (λo q1 a hh F' H' s1 n1 n2 e1 r1=>by
  have s2:Stp F H (upd F' a hh) H':=⟨s1.ff.trans (u0g n1),λb u x=>by
   unfold upd at x;by_cases z:b=a
   ·rw[if_pos z] at x;cases x;subst z;exact e1
   ·rw[if_neg z] at x;exact s1.fh b u x,s1.hh,λb x y=>by
   unfold upd;by_cases z:b=a
   ·subst z;exact absurd n2 y
   ·rw[if_neg z];exact s1.no b x y,u5z r1.nz s1.nz⟩
  exact q1 _ _ _ s2 ((Ro.same (u0g n1) r1).rp u0c)) λ_ e=>e⟩⟩
end
inductive Out where
 | nx (ρ:Rho)|rt (d:D)|bk (ρ:Rho)|ct (ρ:Rho)|er (x:D) (ρ:Rho)|bad
variable {fb:Rho->Out}
namespace Out
def all (o:Out) (N:Rho->Prop) (R:D->Prop) (B C:Rho->Prop) (E:Rho->D->Prop):Prop:=match o with
 | .nx ρ=>N ρ
 | .rt d=>R d
 | .bk ρ=>B ρ
 | .ct ρ=>C ρ
 | .er x ρ=>E ρ x
 | .bad=>False
noncomputable def andThen (o:Out) (f:Rho->Out):Out:=match o with
 | .nx ρ=>f ρ
 | o=>o
@[simp] theorem then_nx (ρ:Rho) (f:Rho->Out):(Out.nx ρ).andThen f=f ρ:=rfl
@[simp] theorem then_rt (d:D) (f:Rho->Out):(Out.rt d).andThen f=.rt d:=rfl
@[simp] theorem then_bk (ρ:Rho) (f:Rho->Out):(Out.bk ρ).andThen f=.bk ρ:=rfl
@[simp] theorem then_ct (ρ:Rho) (f:Rho->Out):(Out.ct ρ).andThen f=.ct ρ:=rfl
@[simp] theorem then_er (x:D) (ρ:Rho) (f:Rho->Out):(Out.er x ρ).andThen f=.er x ρ:=rfl
@[simp] theorem then_bad (f:Rho->Out):Out.bad.andThen f=.bad:=rfl
end Out
noncomputable def Res.go(r:Res α) (ρ:Rho) (k:α->Out):Out:=match r with
 | .ok a=>k a
 | .err x=>.er x (frz ρ)
 | .bad=>.bad
@[simp] theorem go_ok(a:α) (ρ:Rho) (k:α->Out):(Res.ok a).go ρ k=k a:=rfl
@[simp] theorem go_err(x:D) (ρ:Rho) (k:α->Out):(Res.err x).go ρ k=.er x (frz ρ):=rfl
@[simp] theorem go_bad(ρ:Rho) (k:α->Out):Res.bad.go ρ k=.bad:=rfl
def u0C{r:Res α}{k:α->Out}{N:Rho->Prop}{B C:Rho->Prop}{E:Rho->D->Prop} (h:(r.go ρ k).all N R B C E):r.all (λa=>(k a).all N R B C E) (E (frz ρ)):=by
 cases r<;>exact h
def v1k{o:Out}{f:Rho->Out}{N:Rho->Prop}{B C:Rho->Prop}{E:Rho->D->Prop} (h:(o.andThen f).all N R B C E):o.all (λρ=>(f ρ).all N R B C E) R B C E:=by
 cases o<;>exact h
structure OkS (K:W.Frag) (xq:XQ) (B:Hp×Hp) (T:Ends) (o:Out):Prop where
 out:o.all (λρ=>∀σ F H,Rel K B ρ σ F H->T.nx σ H) (λd=>∀v F H,Stp B.1 B.2 F H->Rp K F v d->T.rt v H)
  (λρ=>∀σ F H,Rel K B ρ σ F H->T.bk σ H) (λρ=>∀σ F H,Rel K B ρ σ F H->T.ct σ H) (λρ x=>∀v σ F H,Rel K B ρ σ F H->Rp K F v x->xq v σ H)
def liftS (K:W.Frag) (xq:XQ) (f:Rho->Out):TS:=λT σ H=>∃B F ρ,Rel K B ρ σ F H/\OkS K xq B T (f ρ)
structure DS (X:Cx) (xq:XQ) (st:Stmt) (f:Rho->Out):Prop where
 out:PS X st (liftS X.K xq f)
structure DB (X:Cx) (xq:XQ) (sts:List Stmt) (f:Rho->Out):Prop where
 out:PSs X sts (liftS X.K xq f)
def liftG (K:W.Frag) (ix:List Nat) (g:D->Rho->Res Rho):TG:=λv σ H Q=>∃B F ρ d,Rel K B ρ σ F H/\Rp K F v d /\
 (g d ρ).all (λρ'=>∀σ',Rel K B ρ' σ' F H->σ'.length=σ.length->(∀j,j∉ix->σ'[j]?=σ[j]?)->Q σ' H) (λ_=>False)
def liftGs (K:W.Frag) (ix:List Nat) (g:List D->Rho->Res Rho):TGs:=λvs σ H Q=>∃B F ρ ds,Rel K B ρ σ F H/\Rps K F vs ds /\
 (g ds ρ).all (λρ'=>∀σ',Rel K B ρ' σ' F H->σ'.length=σ.length->(∀j,j∉ix->σ'[j]?=σ[j]?)->Q σ' H) (λ_=>False)
structure DG (X:Cx) (tg:Expr) (ix:List Nat) (g:D->Rho->Res Rho):Prop where
 out:PG X tg (liftG X.K ix g)
structure DGs (X:Cx) (tgs:List Expr) (ix:List Nat) (g:List D->Rho->Res Rho):Prop where
 out:PGs X tgs (liftGs X.K ix g)
structure Feed (K:W.Frag) (F:Hp) (J:It) (ds:List D):Prop where
 go:∀i H,Same F H->i<ds.length->J.go i H
 yld:∀i F1 H x H' d,Same F F1->Same F1 H->ds[i]?=some d->J.yld i H x H'->∃F',Stp F1 H F' H'/\Rp K F' x d
 stop:∀i H,Same F H->ds.length<=i->J.stop i H
def liftI (K:W.Frag) (xq:XQ) (f:Rho->Res (List D)):TI:=λσ H R=>∃B F ρ,Rel K B ρ σ F H /\
 (f ρ).all (λds=>∀J F' H',Stp F H F' H'->Feed K F' J ds->R J H') (ErrK K xq B ρ σ)
structure DI (X:Cx) (xq:XQ) (tg iter:Expr) (f:Rho->Res (List D)):Prop where
 out:PI X tg iter (liftI X.K xq f)
def Feed.list{F:Hp} (h:SqL K F a xs) (r:Rps K F xs ds):Feed K F (Itl K a) ds where
 go i H e hi:=⟨xs,xs[i]'(r.length ▸ hi),e.seq h,by simp[r.length ▸ hi]⟩
 yld i F1 H x H' d e1 e2 hd y:=by
  obtain⟨rfl,y⟩:=y;obtain⟨v,hv,p⟩:=r.get hd
  have:xs[i]?=some x:=y xs ((e1.trans e2).seq h)
  rw[hv] at this;cases this;exact⟨F1,Stp.refl e2,p.same e1⟩
 stop i H e hi:=⟨xs,e.seq h,r.length ▸ hi⟩
def Feed.tup{F:Hp} (h:SqT K F a xs) (r:Rps K F xs ds):Feed K F (Itt K a) ds where
 go i H e hi:=⟨xs,xs[i]'(r.length ▸ hi),e.seqT h,by simp[r.length ▸ hi]⟩
 yld i F1 H x H' d e1 e2 hd y:=by
  obtain⟨rfl,y⟩:=y;obtain⟨v,hv,p⟩:=r.get hd
  have:xs[i]?=some x:=y xs ((e1.trans e2).seqT h)
  rw[hv] at this;cases this;exact⟨F1,Stp.refl e2,p.same e1⟩
 stop i H e hi:=⟨xs,e.seqT h,r.length ▸ hi⟩
def u1H:(1:Nat)<=sizeLine:=by decide
noncomputable def chars (z:Str):List D:=z.cps.toList.map λc=>.str ⟨#[c]⟩
theorem Feed.str{F:Hp} (z:Str):Feed K F (Its z) (chars z) where
 go i H e hi:=by
  show i<z.cps.size;simpa[chars] using hi
 yld i F1 H x H' d e1 e2 hd y:=by
  obtain⟨rfl,c,hc,rfl⟩:=y;have e3:z.cps.toList[i]?=some c:=by simpa using hc
  unfold chars at hd;rw[v7,e3] at hd;cases hd;exact⟨F1,Stp.refl e2,.str (by show(#[c]:Array Nat).size<=sizeLine;exact u1H)⟩
 stop i H e hi:=by
  show z.cps.size<=i;simpa[chars] using hi
noncomputable def intL (lo:Int) (n:Nat):List D:=(List.range n).map λ(i:Nat)=>.int (lo+(i:Int))
def Feed.rng{F:Hp} (lo:Int) (n:Nat):Feed K F (Itr lo n) (intL lo n) where
 go i H e hi:=by
  show i<n;simpa[intL] using hi
 yld i F1 H x H' d e1 e2 hd y:=by
  obtain⟨rfl,rfl⟩:=y;have hi:i<n:=by
   have:=(w9.mp hd).1
   simpa[intL] using this
  unfold intL at hd;rw[v7,List.getElem?_range hi] at hd;cases hd;exact⟨F1,Stp.refl e2,.int _⟩
 stop i H e hi:=by
  show n<=i;simpa[intL] using hi
section
variable {f g:Rho->Out}
def DS.of {t:TS} (h:PS X st t) (k:∀B F ρ σ H T,Rel X.K B ρ σ F H->OkS X.K xq B T (f ρ)->t T σ H):DS X xq st f :=
 ⟨λpins s σ H T I z9=>un5 z9 λB F ρ R q=>h pins s σ H T I (k B F ρ σ H T R q)⟩
def u0y:DB X xq [] (λρ=>.nx ρ):=⟨λpins s σ H T I z9=>un5 z9 λB F ρ R q=>u0G pins s σ H T I (q.out σ F H R)⟩
def u0h (h:DS X xq st f):DB X xq [st] f:=⟨u0n h.out⟩
def u0f (h1:DS X xq st f) (h2:DB X xq sts g):DB X xq (st::sts) (λρ=>(f ρ).andThen g) :=
 ⟨λpins s σ H T I z9=>un5 z9 λB F ρ R q=>u0i h1.out h2.out pins s σ H T I ⟨B,F,ρ,R,⟨by
  have q1:=v1k q.out;generalize f ρ=o at q1;cases o with
  | nx ρ1=>exact λσ1 F1 H1 R1=>⟨B,F1,ρ1,R1,⟨q1⟩⟩
  | rt d=>exact q1
  | bk r=>exact q1
  | ct r=>exact q1
  | er x r=>exact q1
  | bad=>exact q1⟩⟩⟩
def errOf{x:D} (h:∀v σ F H,Rel K B (frz ρ) σ F H->Rp K F v x->xq v σ H):ErrK K xq B ρ σ x:=λv F H R p=>h v σ F H R p
def u0m (he:DE X xq e fe):DS X xq (.Return (some e) pos) (λρ=>(fe (frz ρ)).go ρ λd=>.rt d) :=
 DS.of (u0H he.out) λB F ρ σ H T R q=>by
  obtain⟨F1,e1,R1⟩:=R.frz;exact⟨B,F1,frz ρ,R1,Res.all_mono (u0C q.out) (λd q v F' H' s p=>q v F' H' (R1.st.trans s) p) λx q=>(errOf q).frz⟩
def ds_expr (he:DE X xq e fe) (hs:swapsWith e none pos.line X.env=pure false:=by rfl):DS X xq (.Expr e pos) (λρ=>(fe (frz ρ)).go ρ λ_=>.nx ρ) :=
 DS.of (u1G he.out hs) λB F ρ σ H T R q=>by
  obtain⟨F1,e1,R1⟩:=R.frz;exact⟨B,F1,frz ρ,R1,Res.all_mono (u0C q.out) (λd q v F' H' s p=>q σ F H' (R.step (Stp.only R.fh s.hh))) λx q=>(errOf q).frz⟩
def u0R {a b:List Stmt} (hc:DT X xq c fT) (ha:DB X xq a f) (hb:DB X xq b g):DS X xq (.If c a b pos) (λρ=>(fT (frz ρ)).go ρ λk=>if k=true then f ρ else g ρ) :=
 DS.of (u1F hc.out ha.out hb.out) λB F ρ σ H T R q=>⟨B,F,ρ,R,Res.all_mono (u0C q.out) (λk q H' s=>by
  cases k with
  | true=>exact⟨B,F,ρ,R.step s,⟨q⟩⟩
  | false=>exact⟨B,F,ρ,R.step s,⟨q⟩⟩) λx q=>errOf q⟩
def ds_n(hN:X.N.Nodup) (he:DE X xq e fe) (hi:X.N.findIdx? (λy=>y==x)=some i:=by rfl) (hx:Loc X.env.scope x:=by first|exact Or.inl rfl|exact Or.inr rfl) (hs:swapsWith e (some (.Name x pos')) pos.line X.env=pure false:=by rfl)
  (hf:X.fn x=true\/X.env.scope.names.lookup x=some .local:=by first|exact .inl rfl|exact .inr rfl):DS X xq (.Assign [.Name x pos'] e pos) (λρ=>(fe ρ).go ρ λd=>.nx (ρ.set i (some (.val d)))) :=
 DS.of (ps_n hN he.out hi hx hs hf) λB F ρ σ H T R q=>⟨B,F,ρ,R,Res.all_mono (u0C q.out) (λd q v F' H' s p=>q _ F' H' ((R.step s).set p)) λx q=>errOf q⟩
def u8e{fn:Rho->Res OD} (hN:X.N.Nodup) (he:DN X xq e fn) (hi:X.N.findIdx? (λy=>y==x)=some i:=by rfl) (hx:Loc X.env.scope x:=by first|exact Or.inl rfl|exact Or.inr rfl) (hs:swapsWith e (some (.Name x pos')) pos.line X.env=pure false:=by rfl)
  (hf:X.fn x=true\/X.env.scope.names.lookup x=some .local:=by first|exact .inl rfl|exact .inr rfl):DS X xq (.Assign [.Name x pos'] e pos) (λρ=>(fn ρ).go ρ λo=>.nx (ρ.set i (some (.own o)))) :=
 DS.of (ps_n hN he.out hi hx hs hf) λB F ρ σ H T R q=>⟨B,F,ρ,R,Res.all_mono (u0C q.out) (λo q a h F' H' s n1 n2 e1 r1=>q _ F' H' ((R.step s).setOwn n1 (R.st.hh.free n2) e1 r1 λj u w z=>by
   obtain⟨b,hh,p1,p2,p3,p4,p5⟩:=R.own j u w;rw[p1] at z;cases z;rw[p4] at n2;cases n2)) λx q=>errOf q⟩
noncomputable def flatD:D->Bool
 | .non | .bl _ | .int _ | .str _ | .ty _=>true
 | _=>false
noncomputable def flatC (d:D):Res D:=if flatD d=true then .ok d else .bad
def Rp.flat{F:Hp}{d:D} (h:Rp K F v d) (f:flatD d=true):Rp K F' v d:=by
 cases h<;>first|(cases f;done)|exact .non|exact .bl _|exact .int _|exact .ty _|(exact .str (by assumption))|exact absurd f (by simp[flatD])
theorem DE.flat (h:DE X xq e fe):DE X xq e (λρ=>(fe (frz ρ)).bind flatC) :=
 DE.of h.out λB F ρ σ H Q R q=>by
  obtain⟨F1,e1,R1⟩:=R.frz;refine⟨B,F1,frz ρ,R1,Res.all_mono (Res.all_bind.mp q) (λd q v F' H' s p=>?_) λ_ e=>e.frz⟩
  unfold flatC at q;by_cases z:flatD d=true
  ·rw [if_pos z] at q
   exact q v F H' (Stp.only R.fh s.hh) (p.flat z)
  ·rw[if_neg z] at q;exact q.elim
def dg_n(hN:X.N.Nodup) (hi:X.N.findIdx? (λy=>y==x)=some i:=by rfl) (hx:Loc X.env.scope x:=by first|exact Or.inl rfl|exact Or.inr rfl) (hf:X.fn x=true\/X.env.scope.names.lookup x=some .local:=by first|exact .inl rfl|exact .inr rfl) :
  DG X (.Name x pos) [i] (λd ρ=>.ok (ρ.set i (some (.val d)))) :=
 ⟨λpins s σ H v u Q I rv ⟨B,F,ρ,d,R,p,q⟩=>pg_n hN hi hx hf pins s σ H v u Q I rv (q (σ.set i (some v)) (R.set p) (by simp) λj hj=>by
  rw[u0E (λz=>hj (by simp[z]))])⟩
def dgs_nil:DGs X [] [] (λds ρ=>match ds with | []=>.ok ρ|_=>.bad) :=
 ⟨λpins s σ H vs us Q I rv ⟨B,F,ρ,ds,R,p,q⟩=>pgs_nil pins s σ H vs us Q I rv (by
  cases p with
  | nil=>exact⟨rfl,q σ R rfl λ_ _=>rfl⟩
  | cons _ _=>exact q.elim)⟩
def u8i{jx:List Nat}{g:D->Rho->Res Rho}{gs:List D->Rho->Res Rho} (h1:DG X e ix g) (h2:DGs X tgs jx gs) (hs:(assignEach (e::tgs) X.env).map (·.2)=assign e X.env::(assignEach tgs X.env).map (·.2):=by rfl) :
  DGs X (e::tgs) (ix++jx) (λds ρ=>match ds with|d::r=>(g d ρ).bind (gs r)|_=>.bad) :=
 ⟨λpins s σ H vs us Q I rv ⟨B,F,ρ,ds,R,p,q⟩=>v1G h1.out h2.out hs pins s σ H vs us Q I rv (by
  cases p with
  | nil=>exact q.elim
  | cons p1 p2 =>
   refine⟨_,_,rfl,B,F,ρ,_,R,p1,Res.all_mono (Res.all_bind.mp q) (λρ1 q1 σ1 R1 l1 k1=>⟨B,F,ρ1,_,R1,p2,Res.all_mono q1 (λρ2 q2 σ2 R2 l2 k2=>q2 σ2 R2 (l2.trans l1) λj hj=>?_) λ_ e=>e⟩) λ_ e=>e⟩
   rw[k2 j λz=>hj (x0 _ z),k1 j λz=>hj (r9 _ z)])⟩
noncomputable def asT (n:Nat):D->Res (List D)
 | .tup ds=>if ds.length=n then .ok ds else .bad
 | _=>.bad
def dg_tup{gs:List D->Rho->Res Rho} (hc:X.calm=true) (h:DGs X tgs ix gs) (hn:(assignEach tgs X.env).length=n:=by rfl) (hst:(assignEach tgs X.env).findIdx? (·.1)=none:=by rfl) :
  DG X (.Tuple tgs k pos) ix (λd ρ=>(asT n d).bind λds=>gs ds ρ) :=
 ⟨λpins s σ H v u Q I rv ⟨B,F,ρ,d,R,p,q⟩=>pg_tup hc h.out hn hst pins s σ H v u Q I rv (by
  have q1:=Res.all_bind.mp q;cases p with
  | @tup a xs ds hq hs =>
   unfold asT at q1;dsimp only at q1;by_cases z:ds.length=n
   ·rw [if_pos z] at q1
    exact⟨a,xs,rfl,R.fh.seqT hq,hs.length.trans z,B,F,ρ,ds,R,hs,q1⟩
   ·rw[if_neg z] at q1;exact q1.elim
  | _=>exact q1.elim)⟩
def Stp.rebase{F:Hp} (st:Stp B.1 B.2 F H) (s:Stp F B.2 F' H'):Stp B.1 B.2 F' H' :=
 ⟨st.ff.trans s.ff,s.fh,s.hh,λa n z=>s.no a (st.no a n z) z,λa o u q=>st.nz a o u (s.nz a o u q)⟩
def Rel.rebase{F:Hp} (R:Rel K B ρ σ F H):Rel K (F,B.2) ρ σ F H :=
 ⟨⟨Same.refl F,R.st.fh,R.st.hh,λ_ n _=>n,λ_ _ _ q=>q⟩,R.len,R.val,R.own,R.dis⟩
def Rel.unbase{F:Hp} (st:Stp B.1 B.2 F H) (R:Rel K (F,B.2) ρ σ F' H'):Rel K B ρ σ F' H' :=
 ⟨st.rebase R.st,R.len,R.val,R.own,R.dis⟩
theorem OkS.rebase{F:Hp}{T:Ends}{o:Out} (st:Stp B.1 B.2 F H) (q:OkS K xq B T o):OkS K xq (F,B.2) T o:=⟨by
 have q:=q.out;cases o with
 | nx ρ=>exact λσ F' H' R=>q σ F' H' (R.unbase st)
 | rt d=>exact λv F' H' s p=>q v F' H' (st.rebase s) p
 | bk ρ=>exact λσ F' H' R=>q σ F' H' (R.unbase st)
 | ct ρ=>exact λσ F' H' R=>q σ F' H' (R.unbase st)
 | er x ρ=>exact λv σ F' H' R p=>q v σ F' H' (R.unbase st) p
 | bad=>exact q⟩
noncomputable def forD (g:D->Rho->Res Rho) (tb:Rho->Out):List D->Rho->Out
 | [],ρ=>.nx ρ
 | d::ds,ρ=>(noE (g d ρ)).go ρ λρ1=>match tb ρ1 with
  | .nx ρ2=>forD g tb ds ρ2
  | .ct ρ2=>forD g tb ds ρ2
  | .bk ρ2=>.nx ρ2
  | o=>o
def u6l{g:D->Rho->Res Rho}{tb:Rho->Out} (hc:X.calm=true) (hi:DI X xq tg iter fi) (hg:DG X tg ix g) (hb:DB X xq body tb)
  (hp:PassesOwn (model X.prog X.w) X.A X.env X.xe:=by exact PassesOwn.never) (hs:∀x,foldedSetIterable iter X.env x=pure x:=by intro _;rfl) :
  DS X xq (.For tg iter body [] pos) (λρ=>(fi ρ).go ρ λds=>forD g tb ds ρ) :=
 DS.of (u4I hp hc hi.out hg.out hb.out hs) λB F ρ σ H T R q=>⟨B,F,ρ,R,Res.all_mono (u0C q.out) (λds q J F0 H0 s0 fd=>by
  have R0:=R.step s0;obtain⟨C,hC⟩:∃C:Hp×Hp,C=(F0,B.2):=⟨_,rfl⟩;refine⟨λi m σ' H'=>m=ds.length - i/\i<=ds.length/\∃ρ' F',Rel X.K C ρ' σ' F' H'/\OkS X.K xq C T (forD g tb (ds.drop i) ρ'),
   ⟨ds.length,rfl,z0E _,ρ,F0,hC ▸ R0.rebase,hC ▸ OkS.rebase R0.st ⟨q⟩⟩,?_⟩
  rintro i m σ' H' ⟨rfl,hi,ρ',F',R',q'⟩;have e0:Same F0 F':=by have:=R'.st.ff;rw[hC] at this;exact this
  by_cases hlt:i<ds.length
  ·right
   refine⟨fd.go i H' (e0.trans R'.fh) hlt,λσ2 H2=>i+1<=ds.length/\∃ρ2 F2,Rel X.K C ρ2 σ2 F2 H2/\OkS X.K xq C T (forD g tb (ds.drop (i+1)) ρ2),
    λσ2 H2 p=>⟨ds.length - (i+1),by omega,rfl,p.1,p.2⟩,λx H2 y=>?_⟩
   have hd:ds[i]?=some ds[i]:=by simp[hlt]
   obtain⟨F2,s2,p2⟩:=fd.yld i F' H' x H2 _ e0 R'.fh hd y;have eqn:ds.drop i=ds[i]::ds.drop (i+1):=by rw[z2A hlt]
   rw[eqn] at q';have q2:=u0C q'.out;refine⟨C,F2,ρ',_,R'.step s2,p2,?_⟩;generalize g ds[i] ρ'=r at q2;cases r with
   | err x=>exact q2
   | bad=>exact q2
   | ok ρ1 =>
    intro σ3 R3 l3 k3;refine⟨C,F2,ρ1,R3,⟨?_⟩⟩;have q3:(match tb ρ1 with | .nx ρ2=>forD g tb (ds.drop (i+1)) ρ2 | .ct ρ2=>forD g tb (ds.drop (i+1)) ρ2 | .bk ρ2=>.nx ρ2|o=>o).all _ _ _ _ _:=q2
    generalize tb ρ1=o at q3;cases o with
    | nx ρ2=>exact λσ4 F4 H4 R4=>⟨hlt,ρ2,F4,R4,⟨q3⟩⟩
    | ct ρ2=>exact λσ4 F4 H4 R4=>⟨hlt,ρ2,F4,R4,⟨q3⟩⟩
    | bk ρ2=>exact q3
    | rt d=>exact q3
    | er x r=>exact q3
    | bad=>exact q3
  ·left
   have e:i=ds.length:=by omega
   subst e;rw[List.drop_length] at q';exact⟨fd.stop _ H' (e0.trans R'.fh) (y0 _),q'.out σ' F' H' R'⟩) λx q=>errOf q⟩
end
def Inv.lstR{l:Addr} (I:Inv X pins σ H s) (h:Rd H l (.lst xs)) :
  xs.length<=sizeLine/\∃(its:List Value) (n:Nat),Vals xs its/\xs.length=its.length/\s.heap.get? l=some { cls:=.type "list",data:=.seq its.toArray n }:=by
 obtain⟨z,its,n,r,e⟩:=h.ok I.hok;exact⟨z,its,n,r,r.length,e⟩
def rCatR:R2:=λx y H Q=>∃l b xs zs,x=.ref l/\y=.ref b/\Rd H l (.lst xs)/\Rd H b (.lst zs)/\xs.length+zs.length<=sizeLine/\∀p,H p=none->Q (.ref p) (upd H p (.lst (xs++zs)))
def op_catR:OpR X (binaryOp .Add) rCatR:=by
 intro pins s σ H x y v u Q I rx ry h;obtain⟨l,b,xs,zs,rfl,rfl,hH,hB,hz,q⟩:=h;cases rx;cases ry;obtain⟨z,its,n,r,hl,e⟩:=I.lstR hH;obtain⟨z2,its2,n2,r2,hl2,e2⟩:=I.lstR hB;refine PySem.P.add_list e e2 ?_ (by rw[y7,y7,<- hl,<- hl2];exact hz)
 rw[show its.toArray++its2.toArray=(its++its2).toArray by simp]
 exact⟨.ref _,_,I.lnew (t':=s.toks) (r.append r2) (by rw[u4];exact hz),rfl,q _ I.fresh⟩
noncomputable def gd(c:Prop) [Decidable c] (r:Res α):Res α:=if c then r else .bad
def u3w{c:Prop} [Decidable c] {r:Res α}{P:α->Prop} (h:(gd c r).all P E):c/\r.all P E:=by
 unfold gd at h;by_cases q:c
 ·rw[if_pos q] at h;exact⟨q,h⟩
 ·rw[if_neg q] at h;exact h.elim
@[simp] theorem u0u{c:Prop} [Decidable c] {r:Res α} (h:c):gd c r=r:=if_pos h
noncomputable def dAdd:D->D->Res D
 | .int i,.int j=>.ok (.int (i+j))
 | .str x,.str y=>gd (x.length+y.length<=sizeLine) (.ok (.str (x++y)))
 | .lst xs,.lst ys=>gd (xs.length+ys.length<=sizeLine) (.ok (.lst (xs++ys)))
 | _,_=>.bad
def u0q (x y:Str):(x++y).length=x.length+y.length:=by
 show(x.cps++y.cps).size=_;rw[Array.size_append];rfl
def u0I:OpR X (binaryOp .Add) (rD X.K dAdd):=by
 intro pins s σ H x y v u Q I rx ry z977;obtain⟨F,dx,dy,fh,px,py,q⟩:=z977;cases px with
 | int i =>
  cases py with
  | int j=>exact op_add pins s σ H _ _ v u Q I rx ry ⟨i,j,rfl,rfl,q _ F H (Stp.refl fh) (.int _)⟩
  | _=>exact q.elim
 | str hx =>
  cases py with
  | str hy =>
   obtain⟨hz,q⟩:=u3w q;exact u8z pins s σ H _ _ v u Q I rx ry ⟨_,_,rfl,rfl,hz,q _ F H (Stp.refl fh) (.str (by rw[u0q];exact hz))⟩
  | _=>exact q.elim
 | lst hx rx' =>
  cases py with
  | lst hy ry' =>
   obtain⟨hz,q⟩:=u3w q;exact op_catR pins s σ H _ _ v u Q I rx ry ⟨_,_,_,_,rfl,rfl,hx.same fh,hy.same fh,by rw[rx'.length,ry'.length];exact hz,λp n =>
    q _ _ _ (Stp.new fh n) (.lst (.inl u0c) ((rx'.append ry').same (Stp.new fh n).ff))⟩
  | _=>exact q.elim
 | _=>exact q.elim
noncomputable def dI (C:Int->Int->Prop) [∀i j,Decidable (C i j)] (g:Int->Int->D):D->D->Res D
 | .int i,.int j=>gd (C i j) (.ok (g i j))
 | _,_=>.bad
def v1P {f:Value->Value->Sem Value}{C:Int->Int->Prop} [∀i j,Decidable (C i j)] {g:Int->Int->V}{g':Int->Int->D} (h:OpR X f (rI C g)) (hg:∀F i j,Rp X.K F (g i j) (g' i j)):OpR X f (rD X.K (dI C g')):=by
 intro pins s σ H x y v u Q I rx ry z978;obtain⟨F,dx,dy,fh,px,py,q⟩:=z978;cases px with
 | int i =>
  cases py with
  | int j =>
   obtain⟨hz,q⟩:=u3w q;exact h pins s σ H _ _ v u Q I rx ry ⟨i,j,rfl,rfl,hz,q _ F H (Stp.refl fh) (hg F i j)⟩
  | _=>exact q.elim
 | _=>exact q.elim
noncomputable def dI0 (g:Int->Int->D):D->D->Res D
 | .int i,.int j=>.ok (g i j)
 | _,_=>.bad
def u5V {f:Value->Value->Sem Value}{g:Int->Int->V}{g':Int->Int->D} (h:OpR X f (rI0 g)) (hg:∀F i j,Rp X.K F (g i j) (g' i j)):OpR X f (rD X.K (dI0 g')):=by
 intro pins s σ H x y v u Q I rx ry z979;obtain⟨F,dx,dy,fh,px,py,q⟩:=z979;cases px with
 | int i =>
  cases py with
  | int j=>exact h pins s σ H _ _ v u Q I rx ry ⟨i,j,rfl,rfl,q _ F H (Stp.refl fh) (hg F i j)⟩
  | _=>exact q.elim
 | _=>exact q.elim
noncomputable instance (i j:Int):Decidable (CMul i j):=by unfold CMul;infer_instance
noncomputable instance (i j:Int):Decidable (CDivB i j):=by unfold CDivB;infer_instance
noncomputable instance (i j:Int):Decidable (CPow i j):=by unfold CPow;infer_instance
noncomputable abbrev dSub:=dI0 λi j=>.int (i - j)
noncomputable abbrev dMul:=dI CMul λi j=>.int (i*j)
noncomputable abbrev dDiv:=dI CDivB λi j=>.int (i / j)
noncomputable abbrev dMod:=dI (λ_ j=>0<j) λi j=>.int (i%j)
noncomputable abbrev dPow:=dI CPow λi j=>.int (i^j.toNat)
noncomputable abbrev dLt:=dI0 λi j=>.bl (decide (i<j))
noncomputable abbrev dLe:=dI0 λi j=>.bl (decide (i<=j))
noncomputable abbrev dGt:=dI0 λi j=>.bl (decide (j<i))
noncomputable abbrev dGe:=dI0 λi j=>.bl (decide (j<=i))
def u7d:OpR X (binaryOp .Sub) (rD X.K dSub):=u5V op_sub λ_ _ _=>.int _
def u9W:OpR X (binaryOp .Mult) (rD X.K dMul):=v1P op_mul λ_ _ _=>.int _
def u8A:OpR X (binaryOp .FloorDiv) (rD X.K dDiv):=v1P v1O λ_ _ _=>.int _
def u3d:OpR X (binaryOp .Mod) (rD X.K dMod):=v1P op_mod λ_ _ _=>.int _
def o_pow:OpR X (binaryOp .Pow) (rD X.K dPow):=v1P op_pow λ_ _ _=>.int _
def o_lt:OpR X (compareOp .Lt) (rD X.K dLt):=u5V op_lt λ_ _ _=>.bl _
def o_le:OpR X (compareOp .LtE) (rD X.K dLe):=u5V op_le λ_ _ _=>.bl _
def o_gt:OpR X (compareOp .Gt) (rD X.K dGt):=u5V op_gt λ_ _ _=>.bl _
def o_ge:OpR X (compareOp .GtE) (rD X.K dGe):=u5V op_ge λ_ _ _=>.bl _
noncomputable def isN:D->Bool
 | .non=>true
 | _=>false
noncomputable def dIs:D->D->Res D
 | d,.non=>.ok (.bl (isN d))
 | _,_=>.bad
noncomputable def dIsNot:D->D->Res D
 | d,.non=>.ok (.bl (!isN d))
 | _,_=>.bad
theorem Rp.isN{F:Hp}{d:D} (h:Rp K F v d):decide (v=.non)=L2.isN d:=by
 cases h<;>first|rfl|exact decide_eq_false λe=>nomatch e
def o_is:OpR X (compareOp .Is) (rD X.K dIs):=by
 intro pins s σ H x y v u Q I rx ry z980;obtain⟨F,dx,dy,fh,px,py,q⟩:=z980;cases py with
 | non =>
  have q':∀v F' H',Stp F H F' H'->Rp X.K F' v (.bl (isN dx))->Q v H':=q;exact op_isN pins s σ H _ _ v u Q I rx ry ⟨rfl,q' _ F H (Stp.refl fh) (by rw[px.isN];exact .bl _)⟩
 | _=>exact q.elim
def o_isnot:OpR X (compareOp .IsNot) (rD X.K dIsNot):=by
 intro pins s σ H x y v u Q I rx ry z981;obtain⟨F,dx,dy,fh,px,py,q⟩:=z981;cases py with
 | non =>
  have q':∀v F' H',Stp F H F' H'->Rp X.K F' v (.bl (!isN dx))->Q v H':=q;exact op_notN pins s σ H _ _ v u Q I rx ry ⟨rfl,q' _ F H (Stp.refl fh) (by rw[px.isN];exact .bl _)⟩
 | _=>exact q.elim
mutual
noncomputable def D.py:D->Option PyData
 | .non=>some .none
 | .bl b=>some (.bool b)
 | .int i=>some (.int i)
 | .str z=>some (.str z)
 | .lst ds=>(D.pys ds).map .list
 | .tup ds=>(D.pys ds).map .tuple
 | _=>none
noncomputable def D.pys:List D->Option (List PyData)
 | []=>some []
 | d::ds=>match D.py d,D.pys ds with
  | some a,some as=>some (a::as)
  | _,_=>none
end
mutual
theorem Rp.rd {K:W.Frag}{H:Hp}:∀{v:V}{d:D}{a:PyData},Rp K H v d->d.py=some a->RdV K H v a
 | _,_,_,.non,e=>by simp only[D.py] at e;cases e;exact .non
 | _,_,_,.bl b,e=>by simp only[D.py] at e;cases e;exact .bl b
 | _,_,_,.int i,e=>by simp only[D.py] at e;cases e;exact .int i
 | _,_,_,.str _,e=>by simp only[D.py] at e;cases e;exact .str _
 | _,_,_,.ty _,e=>by simp only[D.py] at e;cases e
 | _,_,_,.lst (ds:=ds) hq hs,e=>by
  simp only[D.py] at e;cases q:D.pys ds with
  | none=>rw[q] at e;cases e
  | some as=>rw[q] at e;cases e;exact .lst (.inl hq) (Rps.rd hs q)
 | _,_,_,.tup (ds:=ds) hq hs,e=>by
  simp only[D.py] at e;cases q:D.pys ds with
  | none=>rw[q] at e;cases e
  | some as=>rw[q] at e;cases e;exact .tup hq (Rps.rd hs q)
 | _,_,_,.dK _ _,e=>by simp only[D.py] at e;cases e
 | _,_,_,.ins _ _,e=>by simp only[D.py] at e;cases e
 | _,_,_,.exc _ _ _,e=>by simp only[D.py] at e;cases e
 | _,_,_,.dn _ _,e=>by simp only[D.py] at e;cases e
 | _,_,_,.hdl _,e=>by simp only[D.py] at e;cases e
 | _,_,_,.obj _,e=>by simp only[D.py] at e;cases e
theorem Rps.rd {K:W.Frag}{H:Hp}:∀{vs:List V}{ds:List D}{as:List PyData},Rps K H vs ds->D.pys ds=some as->RdVs K H vs as
 | _,_,_,.nil,e=>by simp only[D.pys] at e;cases e;exact .nil
 | _,_,_,.cons (d:=d) (ds:=ds) h hs,e=>by
  simp only[D.pys] at e;cases q:d.py with
  | none=>rw[q] at e;cases e
  | some a =>
   cases q2:D.pys ds with
   | none=>rw[q,q2] at e;cases e
   | some as=>rw[q,q2] at e;cases e;exact .cons (Rp.rd h q) (Rps.rd hs q2)
end
noncomputable def cmpD (d:D):Res PyData:=match d.py with
 | some a=>gd (SeqAt.shaped a=true) (.ok a)
 | none=>.bad
set_option tactic.hygienic true in
def u3j{d:D}{P:PyData->Prop} (h:(cmpD d).all P E):∃a,d.py=some a/\SeqAt.shaped a=true/\P a:=by
 unfold cmpD at h;split at h
 ·rename_i a q;obtain⟨hz,h⟩:=u3w h;exact⟨a,q,hz,h⟩
 ·exact h.elim
noncomputable def dEq (x y:D):Res D:=(cmpD x).bind λa=>(cmpD y).bind λb=>.ok (.bl (PyData.eqv a b))
noncomputable def dNe (x y:D):Res D:=(cmpD x).bind λa=>(cmpD y).bind λb=>.ok (.bl (!PyData.eqv a b))
def o_eq (hu:X.A.units+64<cLine):OpR X (compareOp .Eq) (rD X.K dEq):=by
 intro pins s σ H x y v u Q I rx ry z982;obtain⟨F,dx,dy,fh,px,py,q⟩:=z982;obtain⟨a,ea,sa,q⟩:=u3j (Res.all_bind.mp q);obtain⟨b,eb,sb,q⟩:=u3j (Res.all_bind.mp q);exact op_eqD hu pins s σ H _ _ v u Q I rx ry ⟨a,b,(px.rd ea).same fh,(py.rd eb).same fh,sa,sb,q _ F H (Stp.refl fh) (.bl _)⟩
def o_ne (hu:X.A.units+64<cLine):OpR X (compareOp .NotEq) (rD X.K dNe):=by
 intro pins s σ H x y v u Q I rx ry z983;obtain⟨F,dx,dy,fh,px,py,q⟩:=z983;obtain⟨a,ea,sa,q⟩:=u3j (Res.all_bind.mp q);obtain⟨b,eb,sb,q⟩:=u3j (Res.all_bind.mp q);exact op_neD hu pins s σ H _ _ v u Q I rx ry ⟨a,b,(px.rd ea).same fh,(py.rd eb).same fh,sa,sb,q _ F H (Stp.refl fh) (.bl _)⟩
noncomputable def dIx:D->D->Res D
 | .lst ds,.int i=>match atI ds i with
  | some d=>.ok d
  | none=>.bad
 | .tup ds,.int i=>match atI ds i with
  | some d=>.ok d
  | none=>.bad
 | .str z,.int i=>match atI z.cps.toList i with
  | some c=>.ok (.str ⟨#[c]⟩)
  | none=>.bad
 | _,_=>.bad
def v3o{F:Hp}{i:Int}{d:D} (r:Rps K F xs ds) (h:atI ds i=some d):∃v,atI xs i=some v/\Rp K F v d:=by
 unfold atI at h |-
 rw[r.length];cases q:ixN ds.length i with
 | none=>rw[q] at h;cases h
 | some j=>rw[q] at h;exact r.get h
def oix{o:Option α}{f:α->D}{P:D->Prop} (q:r.all P E) (e:r=match o with|some d=>Res.ok (f d)|none=>.bad):∃d,o=some d/\P (f d):=by
 subst e;cases o with
 | none=>exact q.elim
 | some d=>exact⟨d,rfl,q⟩
set_option tactic.hygienic true in
def x_ix:IxR X (rD X.K dIx):=by
 intro value slice pins s σ H x y v u Q I rx ry z984 hsub;obtain⟨F,dx,dy,fh,px,py,q⟩:=z984;cases px with
 | lst hx rs =>
  rename_i ds;cases py with
  | int i =>
   obtain⟨d,e,q⟩:=oix (o:=atI ds i) (f:=λd=>d) q (by rw[dIx];cases atI ds i<;>rfl)
   obtain⟨w,h1,h2⟩:=v3o rs e;exact ix_list value slice pins s σ H _ _ v u Q I rx ry ⟨_,_,i,w,rfl,rfl,.inl (hx.same fh),h1,q _ F H (Stp.refl fh) h2⟩ hsub
  | _=>exact q.elim
 | tup hx rs =>
  rename_i ds;cases py with
  | int i =>
   obtain⟨d,e,q⟩:=oix (o:=atI ds i) (f:=λd=>d) q (by rw[dIx];cases atI ds i<;>rfl)
   obtain⟨w,h1,h2⟩:=v3o rs e;exact ix_tup value slice pins s σ H _ _ v u Q I rx ry ⟨_,_,i,w,rfl,rfl,fh.seqT hx,h1,q _ F H (Stp.refl fh) h2⟩ hsub
  | _=>exact q.elim
 | str hz =>
  rename_i z;cases py with
  | int i =>
   obtain⟨c,e,q⟩:=oix (o:=atI z.cps.toList i) (f:=λc=>.str ⟨#[c]⟩) q (by rw[dIx];cases atI z.cps.toList i<;>rfl)
   exact ix_str value slice pins s σ H _ _ v u Q I rx ry ⟨_,i,c,rfl,rfl,hz,e,q _ F H (Stp.refl fh) (.str u1H)⟩ hsub
  | _=>exact q.elim
 | _=>exact q.elim
noncomputable def items:D->Res (List D)
 | .lst ds=>.ok ds
 | .tup ds=>.ok ds
 | .str z=>.ok (chars z)
 | _=>.bad
section
variable {fl:Rho->Res D}
def u1Z (hl:DE X xq l fl):DI X xq tg l (λρ=>(fl ρ).bind items):=⟨λpins s σ H R I z9=>un5 z9 λB F ρ R' q=>by
 have q0:=Res.all_bind.mp q;cases e:fl ρ with
 | bad=>rw[e] at q0;exact q0.elim
 | err x =>
  rw[e] at q0;exact u9I hl.out pins s σ H R I ⟨B,F,ρ,R',by rw[e];exact q0⟩
 | ok d =>
  rw[e] at q0;have go:∀{T:VK},(∀v F' H',Stp F H F' H'->Rp X.K F' v d->T v H')->liftE X.K xq fl σ H T:=λk=>⟨B,F,ρ,R',by rw[e];exact k⟩
  cases d with
  | lst ds =>
   refine u9I hl.out pins s σ H R I (go λv F' H' st p=>?_)
   cases p with
   | lst hq hs=>exact⟨_,rfl,⟨_,.inl (hq.same st.fh)⟩,q0 _ F' H' st (Feed.list (.inl hq) hs)⟩
  | tup ds =>
   refine pi_tup hl.out pins s σ H R I (go λv F' H' st p=>?_)
   cases p with
   | tup hq hs=>exact⟨_,rfl,⟨_,st.fh.seqT hq⟩,q0 _ F' H' st (Feed.tup hq hs)⟩
  | str z =>
   refine pi_str hl.out pins s σ H R I (go λv F' H' st p=>?_)
   cases p with
   | str hz=>exact⟨z,rfl,q0 _ F' H' st (Feed.str z)⟩
  | _=>exact q0.elim⟩
noncomputable def rng1:List D->Res (List D)
 | [.int j]=>gd (-(2^62)<=j/\j<2^62) (.ok (intL 0 j.toNat))
 | _=>.bad
noncomputable def rng2:List D->Res (List D)
 | [.int i,.int j]=>gd (-(2^62)<=i/\i<2^62/\-(2^62)<=j/\j<2^62) (.ok (intL i (j - i).toNat))
 | _=>.bad
def rps1{F:Hp}{d:D} (h:Rps K F vs [d]):∃v,vs=[v]/\Rp K F v d:=by
 cases h with
 | cons h hs=>cases hs;exact⟨_,rfl,h⟩
def rps2{F:Hp}{d e:D} (h:Rps K F vs [d,e]):∃v w,vs=[v,w]/\Rp K F v d/\Rp K F w e:=by
 cases h with
 | cons h hs=>obtain⟨w,rfl,q⟩:=rps1 hs;exact⟨_,w,rfl,h,q⟩
set_option tactic.hygienic true in
def u4f {a:Expr} (hm:X.mg "range"=none) (ha:DA X xq [a] fa) (hg:Gl X "range":=by rfl):DI X xq tg (.Call (.Name "range" p) [a] [] pos) (λρ=>(fa ρ).bind rng1) :=
 ⟨λpins s σ H R I z9=>un5 z9 λB F ρ R' q=>u5R hg hm ha.out (u0l (u0j ha.ns).1) pins s σ H R I (seqA R' q λds vs F1 H1 s1 R1 p1 q1=>by
  unfold rng1 at q1;split at q1
  ·rename_i j
   obtain⟨⟨h1,h2⟩,q2⟩:=u3w q1;obtain⟨v,rfl,pv⟩:=rps1 p1;cases pv;exact⟨j,rfl,h1,h2,q2 _ F1 H1 s1 (Feed.rng 0 _)⟩
  ·exact q1.elim)⟩
set_option tactic.hygienic true in
def v0A{a:Expr} (hm:X.mg "range"=none) (ha:DA X xq [a,b] fa) (hg:Gl X "range":=by rfl):DI X xq tg (.Call (.Name "range" p) [a,b] [] pos) (λρ=>(fa ρ).bind rng2) :=
 ⟨λpins s σ H R I z9=>un5 z9 λB F ρ R' q=>u9H hg hm ha.out (by rw[u0l (u0j ha.ns).1,u0l (u0j (u0j ha.ns).2).1];rfl) (u0l (u0j (u0j ha.ns).2).1) pins s σ H R I (seqA R' q λds vs F1 H1 s1 R1 p1 q1=>by
  unfold rng2 at q1;split at q1
  ·rename_i i j
   obtain⟨⟨h1,h2,h3,h4⟩,q2⟩:=u3w q1;obtain⟨v,w,rfl,pv,pw⟩:=rps2 p1;cases pv;cases pw;exact⟨i,j,rfl,⟨h1,h2,h3,h4⟩,q2 _ F1 H1 s1 (Feed.rng i _)⟩
  ·exact q1.elim)⟩
end
noncomputable def rhoC (k:Nat) (outs:List Nat) (ρ:Rho):Rho:=List.replicate k none++outs.map λj=>(ρ[j]?).join
set_option tactic.hygienic true in
def getC{l:List (Option α)}{x:α} (h:(List.replicate k none++outs.map λj=>(l[j]?).join)[i]?=some (some x)):k<=i/\∃j,outs[i - k]?=some j/\l[j]?=some (some x):=by
 rw[z2C] at h;split at h
 ·rename_i q
  rw[z0F] at h;split at h<;>simp at h
 ·rename_i q
  simp only[z1I] at h q;refine⟨by omega,?_⟩
  rw[v7] at h;cases e:outs[i - k]? with
  | none=>rw[e] at h;cases h
  | some j =>
   rw[e] at h;refine⟨j,rfl,?_⟩;simp only[Option.map_some,Option.some.injEq] at h;cases e2:l[j]? with
   | none=>rw[e2] at h;cases h
   | some y=>rw[e2] at h;simpa using h
def atC{l:List (Option α)} (hi:k<=i) (h:outs[i - k]?=some j):(List.replicate k none++outs.map λj=>(l[j]?).join)[i]?=some ((l[j]?).join):=by
 rw[z1F (by simpa using hi),z1I,v7,h];rfl
def Rel.comp{F:Hp} (R:Rel K B ρ σ F H) (nd:outs.Nodup):Rel K B (rhoC k outs ρ) (stC k outs σ) F H where
 st:=R.st
 len:=by unfold stC rhoC;simp
 val i d e:=by
  obtain⟨hi,j,h1,h2⟩:=getC e;obtain⟨v,q1,q2⟩:=R.val j d h2;exact⟨v,by unfold stC;rw[atC hi h1,q1];rfl,q2⟩
 own i o e:=by
  obtain⟨hi,j,h1,h2⟩:=getC e;obtain⟨a,h,q1,q2⟩:=R.own j o h2;exact⟨a,h,by unfold stC;rw[atC hi h1,q1];rfl,q2⟩
 dis i i' o u a e e' x y:=by
  obtain⟨hi,j,h1,h2⟩:=getC e;obtain⟨hi',j',h1',h2'⟩:=getC e';obtain⟨_,jx,g1,g2⟩:=getC (l:=σ) x;obtain⟨_,jy,g1',g2'⟩:=getC (l:=σ) y;rw[h1] at g1;cases g1;rw[h1'] at g1';cases g1';have ej:=R.dis j j' o u a h2 h2' g2 g2';subst ej
  have:=(List.getElem?_inj (w9.mp h1).1 nd).mp (h1.trans h1'.symm)
  omega
noncomputable def compD (g:D->Rho->Res Rho) (fT:Rho->Res Bool) (fe:Rho->Res D) (ρ:Rho):List D->Res (List D)
 | []=>.ok []
 | d::ds=>(noE (g d ρ)).bind λρ1=>(noE (fT (frz ρ1))).bind λb=>if b=true then (noE (fe ρ1)).bind λy=>(compD g fT fe ρ ds).bind λys=>.ok (y::ys) else compD g fT fe ρ ds
def xqF:XQ:=λ_ _ _=>False
structure DF (X:Cx) (xq:XQ) (es:List Expr) (f:Rho->Res Bool):Prop where
 out:PIf X es (liftT X.K xq f)
def u1V{r:Res α}{P:α->Prop}{E':D->Prop} (h:(noE r).all P E):r.all P E':=by
 cases r with
 | ok a=>exact h
 | err x=>exact h.elim
 | bad=>exact h.elim
section
variable {g:D->Rho->Res Rho}
def u4O:DF X xq [] (λ_=>.ok true):=⟨λpins s σ H Q I z9=>un5 z9 λB F ρ R q=>pif_nil pins s σ H Q I (q H (Stp.refl R.fh))⟩
def v3i (h:DT X xq c fA):DF X xq [c] fA:=⟨pif_one h.out⟩
def u6p(nd:outs.Nodup) (hix:∀j∈ix,j<k)  (h:liftN K xq (λρ=>(fi ρ).bind λds=>gd (ds.length<=sizeLine) ((compD g fA fe (rhoC k outs ρ) ds).bind λys=>.ok (.l ys))) σ H Q) :
  tComp k outs (liftI K xq fi) (liftG K ix g) (liftT K xqF fA) (liftE K xqF fe) σ H Q:=by
 obtain⟨B,F,ρ,R,q⟩:=h;exact
  ⟨B,F,ρ,R,Res.all_mono (Res.all_bind.mp q) (λds q1 J F0 H0 s0 fd=>by
   obtain⟨hz,q1⟩:=u3w q1
   let T:List D->Prop:=λys=>∀a h F' H',Stp F H F' H'->F' a=none->H a=none->H' a=some h->Ro K F' a h (.l ys)->Q (.ref a) H'
   have q2:(compD g fA fe (rhoC k outs ρ) ds).all T (ErrK K xq B ρ σ):=Res.all_mono (Res.all_bind.mp q1) (λ_ z=>z) λ_ z=>z
   clear q1;refine⟨λi m ys H'=>m=ds.length - i/\i<=ds.length/\∃F' es,Stp F H F' H'/\Same F0 F'/\Rps K F' ys es/\es.length<=i/\(compD g fA fe (rhoC k outs ρ) (ds.drop i)).all (λr=>T (es++r)) (ErrK K xq B ρ σ),
    ⟨ds.length,rfl,z0E _,F0,[],s0,Same.refl _,.nil,y0 _,q2⟩,?_⟩
   rintro i m ys H' ⟨rfl,hi',F',es,st,e0,rs,hl,q3⟩;refine⟨by rw[rs.length];omega,?_⟩
   by_cases hlt:i<ds.length
   ·right
    refine⟨fd.go i H' (e0.trans st.fh) hlt,λys' H2=>i+1<=ds.length/\∃F2 es',Stp F H F2 H2/\Same F0 F2/\Rps K F2 ys' es'/\es'.length<=i+1/\(compD g fA fe (rhoC k outs ρ) (ds.drop (i+1))).all (λr=>T (es'++r)) (ErrK K xq B ρ σ),
     λys' H2 p=>⟨ds.length - (i+1),by omega,rfl,p.1,p.2⟩,λx H2 y=>?_⟩
    have hd:ds[i]?=some ds[i]:=by simp[hlt]
    obtain⟨F2,s2,p2⟩:=fd.yld i F' H' x H2 _ e0 st.fh hd y;rw[z2A hlt] at q3;have R2:Rel K B (rhoC k outs ρ) (stC k outs σ) F2 H2:=((R.step st).step s2).comp nd;have q4:=Res.all_bind.mp (show((noE (g ds[i] (rhoC k outs ρ))).bind _).all _ _ from q3)
    refine⟨B,F2,_,_,R2,p2,u1V (Res.all_mono q4 (λρ1 q5 σ3 R3 l3 k3=>⟨?_,?_⟩) λ_ z=>z)⟩
    ·apply List.ext_getElem?
     intro j;rw[List.getElem?_drop,k3 (k+j) λz=>by have:=hix _ z;omega]
     unfold stC;rw[z1F (by simp),z1I,Nat.add_sub_cancel_left]
    ·refine ⟨B,F2,ρ1,R3,u1V (Res.all_mono (Res.all_bind.mp q5) (fun b q6 H3 s3=>?_) fun _ z=>z)⟩
     have R4:=R3.step s3;cases b with
     | false=>exact⟨hlt,F2,es,(st.trans s2).trans s3,e0.trans s2.ff,rs.same s2.ff,by omega,q6⟩
     | true =>
      refine⟨B,F2,ρ1,R4,u1V (Res.all_mono (Res.all_bind.mp (show((noE (fe ρ1)).bind _).all _ _ from q6)) (λd q7 v F4 H4 s4 p4=>?_) λ_ z=>z)⟩
      refine⟨hlt,F4,es++[d],((st.trans s2).trans s3).trans s4,(e0.trans s2.ff).trans s4.ff,((rs.same s2.ff).same s4.ff).append (.cons p4 .nil),by simp;omega,?_⟩
      exact Res.all_mono (Res.all_bind.mp q7) (λr z=>by
       have z':T (es++d::r):=z;simpa using z') λ_ z=>z
   ·left
    have e:i=ds.length:=by omega
    subst e;rw[List.drop_length] at q3;have q4:T es:=by simpa using(show T (es++[]) from q3)
    exact⟨fd.stop _ H' (e0.trans st.fh) (y0 _),λp n=>q4 p _ F' _ (st.trans (Stp.only st.fh (u0g n))) (st.fh.free n) (st.hh.free n) u0c (.l rs)⟩) λ_ e=>e⟩
def u3i (own:List Str) (outs:List Nat) (hc:X.calm=true) (ok:CompOk X.env.scope X.N own outs scope) (hi:DI X xq tg iter fi) (hg:∀{cl C s H fp},DG (cxC X own outs scope cl C s H fp) tg ix g) (hf:∀{cl C s H fp},DF (cxC X own outs scope cl C s H fp) xqF ifs fA) (he:∀{cl C s H fp},DE (cxC X own outs scope cl C s H fp) xqF elt fe)
  (nd:outs.Nodup:=by decide) (hix:∀j∈ix,j<own.length:=by decide) (hs:∀x,foldedSetIterable iter X.env x=pure x:=by intro _;rfl) :
  DN X xq (.ListComp elt [⟨tg,iter,ifs,0⟩] scope pos) (λρ=>(fi ρ).bind λds=>gd (ds.length<=sizeLine) ((compD g fA fe (rhoC own.length outs ρ) ds).bind λys=>.ok (.l ys))) :=
 ⟨λpins s σ H Q I h=>pe_comp own outs hc ok hi.out (g:=liftG X.K ix g) (ti:=liftT X.K xqF fA) (te:=liftE X.K xqF fe) (λ{cl C s H fp}=>hg.out) (λ{cl C s H fp}=>hf.out) (λ{cl C s H fp}=>he.out) hs pins s σ H Q I (u6p nd hix h)⟩
end
section
variable {a o:Expr}
def d_B{id:String} (hc:CallR X (.builtin id) (rDs X.K g)) (hm:X.mg x=none) (hv:bootBuiltins x=some (.builtin id)) (ha:DA X xq (e::es) fs) (hg:Gl X x:=by rfl) (hn:x≠"__name__":=by decide) (hdb:(x==("__debug__":Str))=false:=by decide) :
  DE X xq (.Call (.Name x p) (e::es) [] pos) (λρ=>(fs ρ).bind λds=>noE (g ds)) :=
 DE.of (pcB hc hg hm hv ha.out hn hdb ha.ns) λB F ρ σ H Q R q=>seqA R q λds vs F1 H1 s1 R1 p1 q1=>⟨F1,ds,R1.fh,p1,doneN s1 q1⟩
def d_T(hc:CallR X (.type T) (rDs X.K g)) (hm:X.mg x=none) (hv:bootBuiltins x=some (.type T)) (ha:DA X xq (e::es) fs) (hg:Gl X x:=by rfl) (hn:x≠"__name__":=by decide) (hdb:(x==("__debug__":Str))=false:=by decide) :
  DE X xq (.Call (.Name x p) (e::es) [] pos) (λρ=>(fs ρ).bind λds=>noE (g ds)) :=
 DE.of (pcT hc hg hm hv ha.out hn hdb ha.ns) λB F ρ σ H Q R q=>seqA R q λds vs F1 H1 s1 R1 p1 q1=>⟨F1,ds,R1.fh,p1,doneN s1 q1⟩
noncomputable def gLen:List D->Res D
 | [.str z]=>.ok (.int z.length)
 | [.lst ds]=>.ok (.int ds.length)
 | [.tup ds]=>.ok (.int ds.length)
 | _=>.bad
def u0T:CallR X (.builtin "len") (rDs X.K gLen):=by
 intro pins s σ H xs us Q I r z985;obtain⟨F,ds,fh,ps,q⟩:=z985;unfold gLen at q;split at q
 ·obtain ⟨v,rfl,pv⟩:=rps1 ps
  cases pv with
  | str hz=>exact u5x pins s σ H _ us Q I r ⟨_,_,rfl,⟨hz,rfl⟩,q _ F H (Stp.refl fh) (.int _)⟩
 ·obtain ⟨v,rfl,pv⟩:=rps1 ps
  cases pv with
  | lst hq hs=>exact u5x pins s σ H _ us Q I r ⟨_,_,rfl,.inl ⟨_,.inl (hq.same fh),rfl⟩,q _ F H (Stp.refl fh) (by rw[hs.length];exact .int _)⟩
 ·obtain ⟨v,rfl,pv⟩:=rps1 ps
  cases pv with
  | tup hq hs=>exact u5x pins s σ H _ us Q I r ⟨_,_,rfl,.inr ⟨_,fh.seqT hq,rfl⟩,q _ F H (Stp.refl fh) (by rw[hs.length];exact .int _)⟩
 ·exact q.elim
noncomputable def tyN:D->Option String
 | .non=>some "NoneType"
 | .bl _=>some "bool"
 | .int _=>some "int"
 | .str _=>some "str"
 | .lst _=>some "list"
 | .tup _=>some "tuple"
 | .dct _=>some "dict"
 | _=>none
noncomputable def isT (t T:String):Option Bool:=if T∈["bool","int","str","list","tuple","dict"] then some (t==T||(t=="bool"&&T=="int")) else none
set_option tactic.hygienic true in
def v0j(K:W.Frag) {d:D}{b:Bool} (ht:tyN d=some t) (h:isT t T=some b):W.kitOne K (.type t) (.type T)=some b:=by
 unfold isT at h;split at h
 ·rename_i hT
  simp only[z7,u5,or_false] at hT;cases h;cases d<;>simp only[tyN,Option.some.injEq,reduceCtorEq] at ht<;>subst ht<;>rcases hT with rfl|rfl|rfl|rfl|rfl|rfl<;>rfl
 ·cases h
def v2e{E:VP}{Q:VP}{c:Value}{F:Hp}{d:D} (I:Inv X pins σ H s) (rx:RelV v u) (fh:Same F H) (pv:Rp X.K F v d) (ht:tyN d=some t)
  (e:W.kitOne X.K (.type t) c=some bb) (h:∀tk,Q (.bool bb) { s with toks:=tk }):wpAny (model X.prog X.w) A (call (.builtin "isinstance") [u,c]) Q E s:=by
 cases pv with
 | non=>cases ht;exact u0S I rx .non e h
 | bl y=>cases ht;exact u0S I rx (.bl y) e h
 | int i=>cases ht;exact u0S I rx (.int i) e h
 | str hz=>cases ht;exact u0S I rx (.str _) e h
 | ty T=>cases ht
 | lst hq hs =>
  cases ht;rcases hq with hq|⟨ob,hq⟩
  ·exact u0S I rx (.lst (fh _ _ hq)) e h
  ·exact u0S I rx (.frz (fh _ _ hq)) e h
 | tup hq hs =>
  cases ht;obtain⟨its,r,p,hz⟩:=I.tuple (fh.seqT hq);obtain⟨ob,h1,h2,_⟩:=p;cases (show u=Value.ref _ from rx)
  exact W.kia_one W.kitx_tuple I.kIn ⟨ob,h1,h2⟩ e (λz=>nomatch z) h
 | dK hq hs=>cases ht;exact u0S I rx (.dK (fh _ _ hq)) e h
 | ins hq hs=>cases ht
 | exc hq hr hs=>cases ht
 | dn hq hs=>cases ht
 | hdl a=>cases ht
 | obj h=>cases ht
noncomputable def gIs:List D->Res D
 | [d,.ty T]=>match tyN d with
  | some t=>match isT t T with
   | some b=>.ok (.bl b)
   | none=>.bad
  | none=>.bad
 | _=>.bad
set_option tactic.hygienic true in
def v2A:CallR X (.builtin "isinstance") (rDs X.K gIs):=by
 intro pins s σ H xs us Q I r z986;obtain⟨F,ds,fh,ps,q⟩:=z986;unfold gIs at q;split at q
 ·rename_i d T
  obtain⟨v,w,rfl,pv,pw⟩:=rps2 ps;cases pw;cases ht:tyN d with
  | none=>rw[ht] at q;exact q.elim
  | some t =>
   rw[ht] at q;cases hb:isT t T with
   | none=>simp only[hb] at q;exact q.elim
   | some bb =>
    simp only[hb] at q;cases r with
    | cons r1 r2 =>
     cases r2 with
     | cons r2 r3 =>
      cases r3;cases r2;exact v2e I r1 fh pv ht (v0j X.K ht hb) λtk=>⟨.bl bb,H,I.tok _,rfl,q _ F H (Stp.refl fh) (.bl bb)⟩
 ·exact q.elim
noncomputable def blsOf:List D->Option (List Bool)
 | []=>some []
 | .bl b::r=>(blsOf r).map (b::·)
 | _=>none
theorem u8m{F:Hp}:∀{xs:List V}{ds:List D}{bs:List Bool},Rps K F xs ds->blsOf ds=some bs->xs=bs.map V.bl
 | _,_,_,.nil,e=>by cases e;rfl
 | _,_,_,.cons (d:=d) (ds:=ds) h hs,e=>by
  cases d<;>simp only[blsOf,reduceCtorEq] at e
  cases h;cases q:blsOf ds with
  | none=>rw[q] at e;cases e
  | some bs=>rw[q] at e;cases e;rw[u8m hs q];rfl
noncomputable def gAll:List D->Res D
 | [.lst ds]=>match blsOf ds with
  | some bs=>.ok (.bl (bs.all id))
  | none=>.bad
 | _=>.bad
set_option tactic.hygienic true in
def c_all (hc:X.calm=true):CallR X (.builtin "all") (rDs X.K gAll):=by
 intro pins s σ H xs us Q I r z987;obtain⟨F,ds,fh,ps,q⟩:=z987;unfold gAll at q;split at q
 ·rename_i ds
  obtain⟨v,rfl,pv⟩:=rps1 ps;cases pv with
  | lst hq hs =>
   cases hb:blsOf ds with
   | none=>rw[hb] at q;exact q.elim
   | some bs =>
    rw[hb] at q;exact v2y hc pins s σ H _ us Q I r ⟨_,bs,rfl,.inl (u8m hs hb ▸ hq.same fh),q _ F H (Stp.refl fh) (.bl _)⟩
 ·exact q.elim
noncomputable def gTuple:List D->Res D
 | [.lst ds]=>.ok (.tup ds)
 | [.tup ds]=>.ok (.tup ds)
 | _=>.bad
def c_tuple:CallR X (.type "tuple") (rDs X.K gTuple):=by
 intro pins s σ H xs us Q I r z988;obtain⟨F,ds,fh,ps,q⟩:=z988;unfold gTuple at q;split at q
 ·obtain ⟨v,rfl,pv⟩:=rps1 ps
  cases pv with
  | lst hq hs=>exact u2K pins s σ H _ us Q I r ⟨_,_,rfl,.inl ⟨.inl (hq.same fh),λl n=>q _ _ _ (Stp.new fh n) (.tup (.inl (.inl u0c)) (hs.same (Stp.new fh n).ff))⟩⟩
 ·obtain ⟨v,rfl,pv⟩:=rps1 ps
  cases pv with
  | tup hq hs=>exact u2K pins s σ H _ us Q I r ⟨_,_,rfl,.inr ⟨fh.seqT hq,q _ F H (Stp.refl fh) (.tup hq hs)⟩⟩
 ·exact q.elim
noncomputable def gMin:List D->Res D
 | [.int i,.int j]=>.ok (.int (if j<i then j else i))
 | _=>.bad
noncomputable def gMax:List D->Res D
 | [.int i,.int j]=>.ok (.int (if j > i then j else i))
 | _=>.bad
def c_min (hc:X.calm=true):CallR X (.builtin "min") (rDs X.K gMin):=by
 intro pins s σ H xs us Q I r z989;obtain⟨F,ds,fh,ps,q⟩:=z989;unfold gMin at q;split at q
 ·obtain ⟨v,w,rfl,pv,pw⟩:=rps2 ps
  cases pv;cases pw;exact v0T hc pins s σ H _ us Q I r ⟨_,_,rfl,q _ F H (Stp.refl fh) (.int _)⟩
 ·exact q.elim
def c_max (hc:X.calm=true):CallR X (.builtin "max") (rDs X.K gMax):=by
 intro pins s σ H xs us Q I r z990;obtain⟨F,ds,fh,ps,q⟩:=z990;unfold gMax at q;split at q
 ·obtain ⟨v,w,rfl,pv,pw⟩:=rps2 ps
  cases pv;cases pw;exact v0U hc pins s σ H _ us Q I r ⟨_,_,rfl,q _ F H (Stp.refl fh) (.int _)⟩
 ·exact q.elim
noncomputable def getL (ρ:Rho) (i:Nat):Res (List D):=match ρ[i]? with
 | some (some (.own (.l ds)))=>.ok ds
 | _=>.bad
set_option tactic.hygienic true in
def u5n{P:List D->Prop} (h:(getL ρ i).all P E):∃ds,ρ[i]?=some (some (.own (.l ds)))/\P ds:=by
 unfold getL at h;split at h
 ·rename_i d e;exact⟨d,e,h⟩
 ·exact h.elim
def u8g (i:Nat) (he:DE X xq e fe) (hN:X.N[i]?=some x:=by rfl) (hv:Vis X.env.scope x:=by first|exact Or.inl rfl|exact Or.inr (Or.inl rfl)|exact Or.inr (Or.inr rfl)) (hd:(x==("__debug__":Str))=false:=by decide) (hcd:(x==("__classdict__":Str))=false:=by decide)
  (hs:notStar e=true:=by rfl) (hbase:attributeBase (.Name x p) "append" X.env (eval (.Name x p) X.env)=eval (.Name x p) X.env:=by rfl) (hline:(apos.endLine==cpos.line)=true:=by rfl)
  (hsw:swapsWith (.Call (.Attribute (.Name x p) "append" apos) [e] [] cpos) none pos.line X.env=pure false:=by rfl) :
  DS X xq (.Expr (.Call (.Attribute (.Name x p) "append" apos) [e] [] cpos) pos) (λρ=>(getL ρ i).go ρ λds=>(fe ρ).go ρ λd=>if ds.length<sizeLine then .nx (ρ.set i (some (.own (.l (ds++[d]))))) else .bad) :=
 DS.of (u1G (pbm PySem.F.plainAttrs_list PySem.F.slot_list_append PySem.F.type_list_append u1n (u0v hN hv hd hcd) (pac he.out u0t hs) (by rw[z1B,hs];rfl) rfl hbase hline) hsw) λB F ρ σ H T R q=>by
  obtain⟨ds,e1,q1⟩:=u5n (u0C q.out);obtain⟨l,h,h1,h2,h3,h4,h5⟩:=R.own i _ e1;cases h5 with
  | l hs =>
   refine⟨.ref l,h1,.inl ⟨rfl,_,.inl (.inl h4)⟩,B,F,ρ,R,Res.all_mono (u0C q1) (λd q2 v F' H' st pv=>?_) λ_ z=>errOf z⟩
   by_cases hz:ds.length<sizeLine
   ·rw [if_pos hz] at q2
    have R':=R.step st;refine⟨l,_,v,rfl,rfl,st.hh _ _ h4,by rw[hs.length];exact hz,q2 σ F' _ (R'.write (e:=e1) h1 (.l ((hs.same st.ff).append (.cons pv .nil))))⟩
   ·rw[if_neg hz] at q2;exact q2.elim
def spF (K:W.Frag) (f:FD):Sp:=λvs H Q _=>∃F ds,Same F H/\Rps K F vs ds/\(noE (f ds)).all (λd=>∀v F' H',Stp F H F' H'->Rp K F' v d->Q v H') (λ_=>False)
def d_fn{base:Heap}{f:FD} (h:Callee P w K mg base k x ps (spF K f)) (hr:Room k' X.A) (ha:DA X xq (e::es) fs) (hk:k<=k':=by decide) (hg:Gl X x:=by rfl)
  (eP:X.prog=P:=by rfl) (ew:X.w=w:=by rfl) (eK:X.K=K:=by rfl) (em:X.mg=mg:=by rfl) (eb:X.base=base:=by rfl) (hdb:(x==("__debug__":Str))=false:=by decide):DE X xq (.Call (.Name x p) (e::es) [] pos) (λρ=>(fs ρ).bind λds=>noE (f ds)) :=
 DE.of (u9L h hr hk ha.out hg eP ew eK em eb hdb ha.ns) λB F ρ σ H Q R q=>seqA R q λds vs F1 H1 s1 R1 p1 q1=>by
  subst eK;refine⟨F1,ds,R1.fh,by rw[List.append_nil];exact p1,?_⟩
  cases e:f ds with
  | ok d=>rw[e] at q1;exact λv F' H' st pv=>q1 v F' H' (s1.trans st) pv
  | err x=>rw[e] at q1;exact q1.elim
  | bad=>rw[e] at q1;exact q1.elim
noncomputable def outR:Out->Res D
 | .nx _=>.ok .non
 | .rt d=>.ok d
 | .er x _=>.err x
 | _=>.bad
noncomputable def startD (n:Nat) (ds:List D):Rho:=ds.map (λd=>some (.val d))++List.replicate (n - ds.length) none
set_option tactic.hygienic true in
def Rps.begin{F:Hp} (fh:Same F H) (r:Rps K F vs ds):Rel K (F,H) (startD N.length ds) (start N vs) F H where
 st:=Stp.refl fh
 len:=by unfold startD L2.start;simp[r.length]
 val i d e:=by
  unfold startD at e;unfold L2.start;rw[z2C] at e;split at e
  ·rename_i hi
   rw[v7] at e;cases q:ds[i]? with
   | none=>rw[q] at e;cases e
   | some d' =>
    rw[q] at e;cases e;obtain⟨v,hv,p⟩:=r.get q;exact⟨v,by rw[z1J (by have:=(w9.mp hv).1;simpa using this),v7,hv];rfl,p⟩
  ·rw [z0F] at e
   split at e<;>simp at e
 own i o e:=by
  unfold startD at e;rw[z2C] at e;split at e
  ·rw [v7] at e
   cases q:ds[i]? with
   | none=>rw[q] at e;cases e
   | some d'=>rw[q] at e;cases e
  ·rw [z0F] at e
   split at e<;>simp at e
 dis i j o u a e:=by
  exfalso;unfold startD at e
  rw[z2C] at e;split at e
  ·rw [v7] at e
   cases q:ds[i]? with
   | none=>rw[q] at e;cases e
   | some d'=>rw[q] at e;cases e
  ·rw [z0F] at e
   split at e<;>simp at e
end
section
variable {base:Heap}
def Fun.okD(F:Fun K x qual st f fd) (S:FnScope N ps (defScope st)) (len:∀ds d,g ds=.ok d->ds.length=ps.length)
  (hbody:∀ (cdv:Value) (A:Around) (outer:List Env) (s:Shared) (H:Hp) (E:XK),Room k (A.deeper (envOfC qual (defScope st) s.heap.objs.size f cdv)) ->
   ∃t,DB (cxOf CX0 P w K mg base N qual (defScope st) f cdv A outer s H E).nox xqF (defBody st) t/\∀ds d,g ds=.ok d->outR (t (startD N.length ds))=.ok d):FnOk P w K mg base CX0 (k+1) f fd ps (spF K g) :=
 F.ok S (λvs H Q E ⟨G,ds,fh,r,q⟩=>by
  rw[r.length];cases e:g ds with
  | ok d=>exact len ds d e
  | err x=>rw[e] at q;exact q.elim
  | bad=>rw[e] at q;exact q.elim) λcdv A outer s H vs Q E hr ⟨G,ds,fh,r,q⟩=>by
  obtain⟨t,h1,h2⟩:=hbody cdv A outer s H E hr;refine⟨_,h1.out,(G,H),G,_,r.begin fh,⟨?_⟩⟩;cases e:g ds with
  | err x=>rw[e] at q;exact q.elim
  | bad=>rw[e] at q;exact q.elim
  | ok d =>
   rw[e] at q;have z:=h2 ds d e;generalize t (startD N.length ds)=o at z;cases o with
   | nx ρ=>cases z;exact λσ F' H' R=>q .non F' H' R.st .non
   | rt d'=>cases z;exact λv F' H' st pv=>q v F' H' st pv
   | bk ρ=>cases z
   | ct ρ=>cases z
   | er x ρ=>cases z
   | bad=>cases z
end
section
variable {M:Model}{E:VP}
def v0x{base:Heap}{outer:List Env}{L e:Addr}{vs:Array Value}{Q:Unit->Shared->Prop} (c1:A.frames=some (env::outer)) (c2:s.heap.FunFrames base (env::outer)) (c3:env.frame=some L)
  (c4:s.heap.get? e=some oe) (c5:oe.data=.fields vs) (c6:1<vs.size) (c7:e∉frs (env::outer))
  (k:∀ h' oT ts,(∀ b o,b∉frs (env::outer)->b≠e->s.heap.get? b=some o->h'.get? b=some o)->(∀ b o,b≠e->s.heap.get? b=some o->∃ sl,h'.get? b=some { o with slots:=sl }) ->
   h'.get? e=some (oe.mapFields (·.setIfInBounds 1 (.ref s.heap.objs.size)))->h'.get? s.heap.objs.size=some oT->oT.data=.fields ts->ts[3]?=some (rawInt L)->Q () { s with heap:=h' }) :
  wpAny M A (do setField (.ref e) 1 (<- EntryCells.newEntry head (<- frameOf env) .none (rawInt L) .none (<- entryPlaceOf L nx))) Q E s:=by
 refine wpAny_bind (wpAny_frameOf_fun c1 c2 c3 λg hg=>?_)
 refine wpAny_bind (wpAny_entryPlaceOf λpl hp=>?_)
 unfold EntryCells.newEntry newFields;refine wpAny_bind (wpAny_newObj_type ?_ (hp.sizeOk5 _ _ _ _ _));obtain⟨g1,g2,g3⟩:=hg;have ge:g.get? e=some oe:=(g2 e c7).trans c4;have lt:e<g.objs.size:=z8 ge;generalize hnt:({ cls:=.type "traceback",dict:=none,data:=.fields ([head,.ref L,.none,rawInt L,.none]++(if pl.isEmpty then List.replicate 6 Value.none else pl)).toArray }:Obj)=nt
 have ge2:(g.push nt).get? e=some oe:=z0 nt ge;refine wpAny_setField ge2 c5 c6 ?_;have nf:nt.isFreed=false:=by subst hnt;rfl
 have at_T:(g.push nt).get? g.objs.size=some nt:=y6 g nf;have ne:e≠g.objs.size:=u9 lt;rw[g1];refine k _ nt ([head,.ref L,.none,rawInt L,.none]++(if pl.isEmpty then List.replicate 6 Value.none else pl)).toArray (λb o b1 b2 b3=>?_) (λb o b2 b4=>?_) ?_ ?_ (by subst hnt;rfl) (by first|(simp;done)|(rcases hp with rfl|⟨_,_,_,_,_,_,_,rfl⟩<;>simp))
 ·rw[x6 _ _ (Ne.symm b2)];exact z0 nt ((g2 b b1).trans b3)
 ·obtain ⟨sl,q⟩:=g3 b o b4
  exact⟨sl,by rw[x6 _ _ (Ne.symm b2)];exact z0 nt q⟩
 ·exact u7 _ ge2 (Obj.isFreed_of_fields (Obj.data_mapFields c5 _))
 ·rw[<- g1,x6 _ _ ne];exact at_T
end
def Tb (n:Nat) (h:Heap) (H:Hp) (e:Addr) (fl:Value):Prop:=n<=e/\∃oe vs,h.get? e=some oe/\oe.data=.fields vs/\1<vs.size /\
 ((vs[1]?=some .none/\fl=.none)\/∃T oT ts,vs[1]?=some (.ref T)/\T≠e/\n<=T/\H T=none/\h.get? T=some oT/\oT.data=.fields ts/\ts[3]?=some fl)
def Tr (n:Nat) (h:Heap) (H:Hp) (e:Addr) (fl:Value):Prop:=n<=e/\∃oe vs,h.get? e=some oe/\oe.data=.fields vs/\1<vs.size /\
 ∃T oT ts,vs[1]?=some (.ref T)/\T≠e/\n<=T/\H T=none/\h.get? T=some oT/\oT.data=.fields ts/\ts[3]?=some fl
def Tr.tb{e:Addr} (x:Tr n h H e fl):Tb n h H e fl:=by obtain⟨a,oe,vs,b,c,d,f⟩:=x;exact⟨a,oe,vs,b,c,d,.inr f⟩
def Tb.mono{m:Nat}{e:Addr} (x:Tb n h H e fl) (q:m<=n):Tb m h H e fl:=by
 obtain⟨a,oe,vs,b,c,d,f⟩:=x;refine⟨y9 q a,oe,vs,b,c,d,?_⟩;rcases f with f|⟨T,oT,ts,f1,f2,f3,f4⟩
 ·exact .inl f
 ·exact .inr ⟨T,oT,ts,f1,f2,y9 q f3,f4⟩
structure Old (X:Cx) (pins:LO) (n:Nat):Prop where
 s0:X.s₀.heap.objs.size<=n
 loc:X.env.locals<n
 cel:∀x c,X.env.cells.lookup x=some c->c<n
 pin:∀p∈X.pn++pins,p.1<n
def Inv.old(I:Inv X pins σ H s):Old X pins s.heap.objs.size :=
 ⟨I.sz,I.lt,λx c e=>by obtain⟨_,q⟩:=I.cell x c e;exact q.lt,λp hp=>z8 (I.pin p hp).1⟩
section
variable {e:Addr}
def Inv.flown{ch:List Addr} (I:Inv X pins σ H s) (hst:X.stack=X.env::X.outer/\X.env.frame=some X.env.locals) (o:Old X pins n) (hch:∀b∈ch,n<=b) (hx:H e=some (XO C d e)) (hxe:ExAt h' e C d)
  (k1:∀b u,b∉frs X.stack->b≠e->b∉ch->s.heap.get? b=some u->h'.get? b=some u) (k2:∀b u,b≠e->b∉ch->s.heap.get? b=some u->∃sl,h'.get? b=some { u with slots:=sl })
  (k3:∀b∈ch,H b=none) (k4:∃u,h'.get? e=some u):Inv X pins σ H { s with heap:=h',toks:=t' }:=by
 have hfr:frs X.stack=X.env.locals::X.fs:=by
  rw[hst.1];unfold frs;rw[List.filterMap_cons,hst.2];rfl
 have ne:∀b,H b=none->b≠e:=λb hb z=>by subst z;rw[hx] at hb;cases hb
 refine I.step (ch:=ch) (h':=h') (H':=H) (g':=s.gens) (d':=s.drawn) (t':=t') (λb hb=>⟨.inr (y9 o.s0 (hch b hb)),λz=>?_,λx c q z=>?_,λp hp z=>?_⟩)
  (λb u b1 b2 b3 b4 b5=>k1 b u (by rw[hfr];simp[b1,b2]) (ne b b5) b3 b4) (λb u b1 b2 b3 b4 b5=>k2 b u (ne b b5) b3 b4) (λ_ _ _ _ z=>z) (λb u b3 b4=>?_) (λ_ _ z=>z) (λ_ _ _ z=>z) (λb ps z=>⟨#[],by simpa using z⟩) (λm hm=>?_) ?_ I.bare
 ·have w1:=o.loc;have w2:=hch b hb;subst z;exact absurd (x8 w1 w2) (z0B _)
 ·have w1:=o.cel x c q;have w2:=hch b hb;subst z;exact absurd (x8 w1 w2) (z0B _)
 ·have w1:=o.pin p hp;have w2:=hch b hb;rw[z] at w1;exact absurd (x8 w1 w2) (z0B _)
 ·by_cases z:b=e
  ·subst z;exact k4
  ·obtain⟨sl,q⟩:=k2 b u z b3 b4;exact⟨_,q⟩
 ·obtain ⟨u,es,ep,hu,hd,rr⟩:=hm
  have l1:X.env.locals≠e:=ne _ I.free;have l2:X.env.locals∉ch:=λz=>absurd (x8 o.loc (hch _ z)) (z0B _)
  obtain⟨sl,q⟩:=k2 _ u l1 l2 hu;exact⟨_,es,ep,q,hd,rr⟩
 ·intro a u q
  by_cases z:a=e
  ·subst z
   rw[hx] at q;cases q;exact xo_ok hxe
  ·refine ObjOk.stay (I.hok a u q) (fun b v hb hv=>k1 b v (fun y=>?_) (fun y=>?_) (fun y=>?_) hv) (fun _ y=>y) (fun _ _ y=>y)
   ·rcases hb with rfl | hb
    ·rw[I.stkFree _ y] at q;cases q
    ·rw[I.stkFree _ y] at hb;cases hb
   ·rcases hb with rfl | hb
    ·exact z y
    ·subst y;rw[hx] at hb;unfold XO at hb;cases hb
   ·rcases hb with rfl | hb
    ·rw[k3 _ y] at q;cases q
    ·rw[k3 _ y] at hb;cases hb
end
def v2n{e:Addr}{v:Value} (x:ExAt h e C d) (q:h.get? e=some oe) (q':h'.get? e=some (oe.mapFields (·.setIfInBounds 1 v))):ExAt h' e C d:=by
 obtain⟨t,f1,f2,f3,f4,f5,sl,z⟩:=x;rw[q] at z;cases z;exact⟨t,v,f2,f3,f4,f5,sl,q'⟩
def v0v{e:Addr} (x:ExAt h e C d) (q:h.get? e=some oe) (q':h'.get? e=some oe):ExAt h' e C d:=by
 obtain⟨t,f1,f2,f3,f4,f5,sl,z⟩:=x;rw[q] at z;cases z;exact⟨t,f1,f2,f3,f4,f5,sl,q'⟩
def u4L{o:Obj}{vs:Array Value}{v:Value} (h:o.data=.fields vs) (hi:i<vs.size):∃ws:Array Value,(o.mapFields (·.setIfInBounds i v)).data=.fields ws/\ws.size=vs.size/\ws[i]?=some v/\∀j,j≠i->ws[j]?=vs[j]?:=by
 refine⟨vs.setIfInBounds i v,Obj.data_mapFields h _,by simp,by simp[hi],λj hj=>?_⟩
 rw[Array.getElem?_setIfInBounds_ne (Ne.symm hj)]
section
variable {e:Addr}{E:VP}{M:Model}
def rawne (L:Addr):((Value.none==rawInt L)=true)=False:=by simp[rawInt]
def u4K{w:Value}{T:Addr}{Q:Unit->Shared->Prop}{oT:Obj}{vs ts:Array Value} (I:Inv X pins σ H s) (hst:X.stack=X.env::X.outer/\X.env.frame=some X.env.locals) (o:Old X pins n) (hx:H e=some (XO C d e))
  (a0:n<=e) (a1:s.heap.get? e=some oe) (a2:oe.data=.fields vs) (a3:1<vs.size) (a4:vs[1]?=some (.ref T)) (a5:T≠e) (a6:n<=T) (a7:H T=none) (a8:s.heap.get? T=some oT) (a9:oT.data=.fields ts) (a10:ts[3]?=some fl)
  (k:∀s',Inv X pins σ H s'->Tr n s'.heap H e w->s'.heap.get? e=some oe->Q () s'):wpAny M X.A (setField (.ref T) 3 w) Q E s:=by
 have hz:3<ts.size:=(Array.getElem?_eq_some_iff.mp a10).1;refine wpAny_setField a8 a9 hz ?_;obtain⟨ws,w1,w2,w3,w4⟩:=u4L (v:=w) a9 hz;have kT:=u7 (Obj.mapFields (·.setIfInBounds 3 w)) a8 (Obj.isFreed_of_fields w1)
 have ko:∀b u,b≠T->s.heap.get? b=some u->(s.heap.update T (Obj.mapFields (·.setIfInBounds 3 w))).get? b=some u:=λb u hb q=>by
  rw[x6 _ _ (Ne.symm hb)];exact q
 have ke:=ko e oe (Ne.symm a5) a1;refine k _ (I.flown (ch:=[T]) (t':=s.toks) hst o (λb hb=>by rw[z0H.mp hb];exact a6) hx (v0v (v1e I.hok hx) a1 ke) (λb u _ _ hb q=>ko b u (λz=>hb (by simp[z])) q)
  (λb u _ hb q=>⟨u.slots,ko b u (λz=>hb (by simp[z])) q⟩) (λb hb=>by rw[z0H.mp hb];exact a7) ⟨_,ke⟩) ⟨a0,oe,vs,ke,a2,a3,T,_,ws,a4,a5,a6,a7,kT,w1,w3⟩ ke
def u7O{Q:Unit->Shared->Prop}{vs:Array Value} (I:Inv X pins σ H s) (hst:X.stack=X.env::X.outer/\X.env.frame=some X.env.locals) (o:Old X pins n) (hx:H e=some (XO C d e))
  (a0:n<=e) (a1:s.heap.get? e=some oe) (a2:oe.data=.fields vs) (a3:1<vs.size) (k:∀s',Inv X pins σ H s'->Tr n s'.heap H e (rawInt X.env.locals)->Q () s') :
  wpAny M X.A (do setField (.ref e) 1 (<- EntryCells.newEntry head (<- frameOf X.env) .none (rawInt X.env.locals) .none (<- entryPlaceOf X.env.locals nx))) Q E s:=by
 have fr:X.A.frames=some (X.env::X.outer):=by rw[I.ok.frames,hst.1]
 have ff:s.heap.FunFrames X.base (X.env::X.outer):=hst.1 ▸ I.stack;have nm:e∉frs (X.env::X.outer):=λz=>by
  have:=I.stkFree e (by rw[hst.1];exact z)
  rw[hx] at this;cases this
 refine v0x fr ff hst.2 a1 a2 a3 nm λh' oT ts k1 k2 k3 k4 k5 k6=>?_
 have lt:e<s.heap.objs.size:=z8 a1;have fz:=I.hok.fresh (y0 s.heap.objs.size);obtain⟨ws,w1,w2,w3,w4⟩:=u4L (v:=.ref s.heap.objs.size) a2 a3;refine k _ (I.flown (ch:=[]) (t':=s.toks) hst o (λb hb=>by cases hb) hx (v2n (v1e I.hok hx) a1 k3) (λb u hb he _ q=>k1 b u (by rw[<- hst.1];exact hb) he q) (λb u he _ q=>k2 b u he q) (λb hb=>by cases hb) ⟨_,k3⟩)
  ⟨a0,_,ws,k3,w1,by omega,s.heap.objs.size,oT,ts,w3,Nat.ne_of_gt lt,y9 a0 (Nat.le_of_lt lt),fz,k4,k5,k6⟩
def u7e{Q:Unit->Shared->Prop} (I:Inv X pins σ H s) (hst:X.stack=X.env::X.outer/\X.env.frame=some X.env.locals) (o:Old X pins n) (hx:H e=some (XO C d e)) (tb:Tb n s.heap H e fl) (hfl:fl=.none\/fl=rawInt X.env.locals)
  (k:∀s',Inv X pins σ H s'->Tr n s'.heap H e (rawInt X.env.locals)->Q () s'):wpAny M X.A (noteFrame (.ref e) X.env) Q E s:=by
 obtain⟨a0,oe,vs,a1,a2,a3,tb⟩:=tb;unfold noteFrame;simp only[hst.2];rcases tb with⟨t1,t2⟩|⟨T,oT,ts,a4,a5,a6,a7,a8,a9,a10⟩
 ·refine wpAny_bind (wpAny_field a1 a2 t1 ?_)
  rw[if_neg (by decide)]
  exact u7O I hst o hx a0 a1 a2 a3 k
 ·refine wpAny_bind (wpAny_field a1 a2 a4 ?_)
  rw[if_pos (show(Value.ref T != Value.none)=true by simp)]
  refine wpAny_bind (wpAny_field a8 a9 a10 ?_);rcases hfl with rfl|rfl
  ·rw [if_neg (by rw [rawne];exact id)]
   refine wpAny_bind (u4K I hst o hx a0 a1 a2 a3 a4 a5 a6 a7 a8 a9 a10 λs' I' _ ke=>?_)
   exact u7O I' hst o hx a0 ke a2 a3 k
  ·rw [if_pos (by simp)]
   exact wpAny_pure (k s I ⟨a0,oe,vs,a1,a2,a3,T,oT,ts,a4,a5,a6,a7,a8,a9,a10⟩)
def u1X{f:Option Addr}{Q:Unit->Shared->Prop} (I:Inv X pins σ H s) (hst:X.stack=X.env::X.outer/\X.env.frame=some X.env.locals) (o:Old X pins n) (hx:H e=some (XO C d e)) (tr:Tr n s.heap H e fl)
  (k:∀s',Inv X pins σ H s'->Tr n s'.heap H e (f.elim .none λf=>rawInt f)->Q () s'):wpAny M X.A (setFlight (.ref e) f) Q E s:=by
 obtain⟨a0,oe,vs,a1,a2,a3,T,oT,ts,a4,a5,a6,a7,a8,a9,a10⟩:=tr;unfold setFlight;refine wpAny_bind (wpAny_field a1 a2 a4 ?_);rw[if_pos (show(Value.ref T != Value.none)=true by simp)]
 exact u4K I hst o hx a0 a1 a2 a3 a4 a5 a6 a7 a8 a9 a10 λs' I' t _=>k s' I' t
def u7S{Q:Unit->Shared->Prop} (I:Inv X pins σ H s) (hst:X.stack=X.env::X.outer/\X.env.frame=some X.env.locals) (o:Old X pins n) (hx:H e=some (XO C d e)) (tb:Tb n s.heap H e fl) (hfl:fl=.none\/fl=rawInt X.env.locals)
  (k:∀s',Inv X pins σ H s'->Tr n s'.heap H e .none->Q () s'):wpAny M X.A (leaving X.env (.ref e)) Q E s:=by
 unfold leaving;exact wpAny_bind (u7e I hst o hx tb hfl λs' I' tr=>u1X (f:=none) I' hst o hx tr k)
end
noncomputable def CXe (P:Program) (w:World):CXT:=λouter H s E u s'=>∃(e C:Addr) (d:Option Addr) (H':Hp),u=.ref e/\s'.os=s.os/\AllBare s'.gens/\Un (frs outer) [] H H' s.heap s'.heap/\HOk P w H' s'.heap/\H' e=some (XO C d e) /\
 Tb s.heap.objs.size s'.heap H' e .none/\E (.ref e) none H'
def Fly (X:Cx) (xq:XQ) (u:Value) (s':Shared):Prop:=∃(n:Nat) (e C:Addr) (d:Option Addr) (σ:St) (H:Hp) (fl:Value),Old X [] n/\u=.ref e/\Inv X [] σ H s'/\H e=some (XO C d e)/\Tb n s'.heap H e fl/\(fl=.none\/fl=rawInt X.env.locals)/\xq (.ref e) σ H
structure XqOk (X:Cx) (xq:XQ):Prop where
 st:X.stack=X.env::X.outer/\X.env.frame=some X.env.locals
 xe:∀u s',Fly X xq u s'->X.xe u s'
 ps:PassesOwn (model X.prog X.w) X.A X.env X.xe
section
variable {M:Model}
def u8I (hst:X.stack=X.env::X.outer/\X.env.frame=some X.env.locals):PassesOwn M X.A X.env (Fly X xq):=by
 rintro u s' ⟨n,e,C,d,σ,H,fl,o,rfl,I,hx,tb,hfl,q⟩;refine u7e I hst o hx tb hfl λs2 I2 tr=>?_
 have tr':=tr;obtain⟨a0,oe,vs,a1,a2,a3,T,oT,ts,a4,a5,a6,a7,a8,a9,a10⟩:=tr';unfold cameBackBy;refine wpAny_bind (wpAny_field a1 a2 a4 ?_);rw[if_neg (show ¬ ((Value.ref T==Value.none)=true) by simp),hst.2]
 exact u1X (f:=some X.env.locals) I2 hst o hx tr λs3 I3 tr3=>⟨n,e,C,d,σ,H,_,o,rfl,I3,hx,tr3.tb,.inr rfl,q⟩
def Old.unwish{E:VP} (o:Old (X.wish E) pins n):Old X pins n:=⟨o.s0,o.loc,o.cel,o.pin⟩
theorem Fly.unwish{E:VP} (h:Fly (X.wish E) xq u s'):Fly X xq u s':=by
 obtain⟨n,e,C,d,σ,H,fl,o,rfl,I,hx,tb,hfl,q⟩:=h;exact⟨n,e,C,d,σ,H,fl,o.unwish,rfl,I.unwish,hx,tb,hfl,q⟩
def u3D (hst:X.stack=X.env::X.outer/\X.env.frame=some X.env.locals):XqOk (X.wish (Fly X xq)) xq:=⟨hst,λ_ _ h=>h.unwish,u8I (X:=X) hst⟩
def Inv.bare0(I:Inv X pins σ H s):Inv X [] σ H s:=I.pins_of λp hp=>absurd hp (by simp)
def Old.bare0(o:Old X pins n):Old X [] n:=⟨o.s0,o.loc,o.cel,λp hp=>o.pin p (by simp at hp;exact r9 _ hp)⟩
def v2l(I:Inv X pins σ H s) (h:CXe X.prog X.w X.stack H s (λu _ H'=>∃a,u=.ref a/\xq (.ref a) σ H') u s'):Fly X xq u s':=by
 obtain⟨e,C,d,H',rfl,os,bare,un,hok,hx,tb,a,ha,q⟩:=h;cases ha;have I':Inv X pins σ H' s':=I.call' (ch:=[]) os un hok bare λb z=>absurd z (by simp)
 exact⟨_,e,C,d,σ,H',.none,I.old.bare0,rfl,I'.bare0,hx,tb,.inl rfl,q⟩
end
def spX (K:W.Frag) (f:FD):Sp:=λvs H Q E=>∃F ds,Same F H/\Rps K F vs ds/\(f ds).all (λd=>∀v F' H',Stp F H F' H'->Rp K F' v d->Q v H') (λx=>∀a F' H',Stp F H F' H'->Rp K F' (.ref a) x->E (.ref a) none H')
def CalleeX (P:Program) (w:World) (K:W.Frag) (mg:MG) (base:Heap) (k:Nat) (x:Str) (ps:List Str) (f:FD):Prop :=
 ∃a fd,FnOk P w K mg base (CXe P w) k a fd ps (spX K f)/\Binds K fd ps []/\W.keepIn K (.ref a)=true/\mg x=some (.ref a)
def u9u{ds:List Value} (hq:XqOk X xq) (F:FnOk X.prog X.w X.K X.mg X.base (CXe X.prog X.w) k f fd ps sp) (hr:Room k X.A)
  (hb:Binds X.K fd ps ds) (hd:Vals dvs ds) (I:Inv X pins σ H s) (r:Vals vs us) (h:sp (vs++dvs) H Q (λu _ H'=>∃a,u=.ref a/\xq (.ref a) σ H')):wpAny (model X.prog X.w) X.A (call (.ref f) us) (EP X pins σ Q) X.xe s:=by
 have r2:Vals (vs++dvs) (us++ds):=r.append hd;have hl:(us++ds).length=ps.length:=by rw[<- r2.length];exact F.len _ _ _ _ h
 refine wpAny_call (codeAny_mono (F.run X.A X.stack s H ⟨us,[]⟩ (us++ds) (vs++dvs) Q _ hr I.env0 (hb s us I.kIn hl) r2 h) λr s' hc=>?_)
 cases r with
 | error e=>exact hq.xe _ _ (v2l I hc)
 | ok fl =>
  cases fl with
  | ret u=>exact I.after hc
  | next=>exact False.elim hc
  | brk=>exact False.elim hc
  | cont=>exact False.elim hc
def errR{F:Hp}{d:D} (R:Rel K B ρ σ F H) (s:Stp F H F' H') (p:Rp K F' v d) (q:ErrK K xq B ρ σ d):xq v σ H':=by
 obtain⟨F1,e1,R1⟩:=(R.step s).frz;exact q v F1 H' R1 (p.same e1)
def spX_of{F H0:Hp}{f:FD} (R:Rel K B ρ σ F H) (pv:Rps K F vs ds) (s0:Stp F0 H0 F H) (q:(f ds).all (λd=>∀v F' H',Stp F0 H0 F' H'->Rp K F' v d->Q v H') (ErrK K xq B ρ σ)) :
  spX K f vs H Q (λu _ H'=>∃a,u=.ref a/\xq (.ref a) σ H') :=
 ⟨F,ds,R.fh,pv,Res.all_mono q (λd k v F' H' st p=>k v F' H' (s0.trans st) p) λx k a F' H' st p=>⟨a,rfl,errR R st p k⟩⟩
def u2w{base:Heap}{f:FD} (hq:XqOk X xq) (h:CalleeX P w K mg base k x ps f) (hr:Room k' X.A) (ha:DA X xq (e::es) fs) (hk:k<=k':=by decide) (hg:Gl X x:=by rfl)
  (eP:X.prog=P:=by rfl) (ew:X.w=w:=by rfl) (eK:X.K=K:=by rfl) (em:X.mg=mg:=by rfl) (eb:X.base=base:=by rfl) (hdb:(x==("__debug__":Str))=false:=by decide):DE X xq (.Call (.Name x p) (e::es) [] pos) (λρ=>(fs ρ).bind f) :=
 ⟨λpins s σ H Q I z9=>un5 z9 λB F ρ R q=>by
  subst eP ew eK em eb;obtain⟨a,fd,G,hb,hkp,hm⟩:=h;refine wpAny_Call_Name_kw (u1W I hg hm ?_ hdb);refine W.callWith_K (h₀:=X.base) I.ok.mod.kin hkp (thn (ha.out pos pins s σ H _ I (seqA R q λds vs F1 H1 s1 R1 p1 q1=>show spX X.K f (vs++[]) H1 Q (λu _ H'=>∃a,u=.ref a/\xq (.ref a) σ H') from by rw[List.append_nil];exact spX_of R1 p1 s1 q1)) λus s1 ⟨vs,H1,I1,r,q⟩=>⟨I1.kIn,?_⟩) (u0l (u0j ha.ns).1) (u0N (u0j ha.ns).2)
  exact u9u hq G (hr.mono hk) hb .nil I1 r q⟩
section
variable {base:Heap}
abbrev xq0 (E:XK):XQ:=λv _ H'=>∀a,v=.ref a->E (.ref a) none H'
noncomputable abbrev cxR (P:Program) (w:World) (K:W.Frag) (mg:MG) (base:Heap) (N:List Str) (qual:Str) (scope:Scope) (f:Addr) (cdv:Value) (A:Around) (outer:List Env) (s:Shared) (H:Hp) (E:XK):Cx :=
 (cxOf (CXe P w) P w K mg base N qual scope f cdv A outer s H E).wish (Fly (cxOf (CXe P w) P w K mg base N qual scope f cdv A outer s H E) (xq0 E))
def PSs.wishTo{E:VP}{t:TS} (h:PSs (X.wish E) sts t) (k:∀u s',E u s'->X.xe u s'):PSs X sts t:=λpins s σ H T I hw =>
 wpAny_mono (h pins s σ H T (I.wish _) hw) (λ_ _ q=>q.unwish) k
def Fun.okX(F:Fun K x qual st f fd) (S:FnScope N ps (defScope st)) (len:∀ds,g ds≠.bad->ds.length=ps.length)
  (hbody:∀ (cdv:Value) (A:Around) (outer:List Env) (s:Shared) (H:Hp) (E:XK),Room k (A.deeper (envOfC qual (defScope st) s.heap.objs.size f cdv))->XqOk (cxR P w K mg base N qual (defScope st) f cdv A outer s H E) (xq0 E) ->
   ∃t,DB (cxR P w K mg base N qual (defScope st) f cdv A outer s H E) (xq0 E) (defBody st) t/\∀ds,g ds≠.bad->outR (t (startD N.length ds))=g ds):FnOk P w K mg base (CXe P w) (k+1) f fd ps (spX K g):=by
 obtain⟨oc,od,kV,doc,pm,an,cdv,ct,osl,rfl,lk,hcd⟩:=F.ex;have nb:∀vs H Q E,spX K g vs H Q E->∃G ds,Same G H/\Rps K G vs ds/\g ds≠.bad/\(g ds).all (λd=>∀v F' H',Stp G H F' H'->Rp K F' v d->Q v H') (λx=>∀a F' H',Stp G H F' H'->Rp K F' (.ref a) x->E (.ref a) none H'):=λvs H Q E ⟨G,ds,fh,r,q⟩ =>
  ⟨G,ds,fh,r,λz=>by rw[z] at q;exact q,q⟩
 refine fn_of lk hcd S (λvs H Q E h=>?_) λA outer s H vs Q E hr hsp=>?_
 ·obtain ⟨G,ds,fh,r,z,q⟩:=nb vs H Q E h
  rw[r.length];exact len ds z
 ·obtain ⟨G,ds,fh,r,z,q⟩:=nb vs H Q E hsp
  have hst:(cxOf (CXe P w) P w K mg base N qual (defScope st) f cdv A outer s H E).stack=(cxOf (CXe P w) P w K mg base N qual (defScope st) f cdv A outer s H E).env::(cxOf (CXe P w) P w K mg base N qual (defScope st) f cdv A outer s H E).outer/\(cxOf (CXe P w) P w K mg base N qual (defScope st) f cdv A outer s H E).env.frame=some (cxOf (CXe P w) P w K mg base N qual (defScope st) f cdv A outer s H E).env.locals:=⟨rfl,rfl⟩;obtain⟨t,h1,h2⟩:=hbody cdv A outer s H E hr (u3D hst);refine⟨_,PSs.wishTo h1.out ?_,(G,H),G,_,r.begin fh,⟨?_⟩⟩
  ·rintro u s' ⟨n,e,C,d,σ,H',fl,o,rfl,I,hx,tb,hfl,q⟩
   refine u7S I hst o hx tb hfl λs2 I2 tr=>?_
   exact⟨e,C,d,H',rfl,I2.os,I2.bare,I2.base,I2.hok,hx,tr.tb.mono o.s0,q e rfl⟩
  ·have y:=h2 ds z
   rw[<- y] at q;generalize t (startD N.length ds)=o at q;cases o with
   | nx ρ=>exact λσ F' H' R=>q .non F' H' R.st .non
   | rt d'=>exact λv F' H' st pv=>q v F' H' st pv
   | bk ρ=>exact q.elim
   | ct ρ=>exact q.elim
   | er x ρ=>exact λv σ F' H' R pv a ea=>by subst ea;exact q a F' H' R.st pv
   | bad=>exact q.elim
end
def ExFr (h:Heap) (e C:Addr) (dx:Option Addr):Prop:=∃t sl,h.get? e=some { cls:=.ref C,dict:=dx,data:=.fields #[.ref t,.none,.none,.none,.bool false,.none],slots:=sl }
def ExFr.at{e:Addr} (x:ExFr h e C dx):ExAt h e C dx:=by obtain⟨t,sl,q⟩:=x;exact⟨t,_,_,_,_,_,sl,q⟩
noncomputable def XF (C:Addr) (dx:Option Addr) (e:Addr) (n:Nat):HO:=.ext λh=>ExFr h e C dx/\n<=e
section
variable {e dx:Addr}
def xf_ok (x:ExFr h e C d) (hn:n<=e):ObjOk P w H h e (XF C d e n) :=
 ⟨⟨x,hn⟩,by obtain⟨_,_,q⟩:=x;exact⟨_,q⟩,λh1 h2 z995 k=>by obtain⟨⟨t,sl,q⟩,z⟩:=z995;exact⟨⟨t,sl,k _ q⟩,z⟩⟩
def xf_at (x:HOk P w H h) (q:H e=some (XF C d e n)):ExFr h e C d/\n<=e:=(show ObjOk P w H h e (XF C d e n) from x e _ q).1
def HOk.xo (x:HOk P w H h) (q:H e=some (XF C d e n)):HOk P w (upd H e (XO C d e)) h:=λb u z=>by
 by_cases y:b=e
 ·subst y
  rw[u0c] at z;cases z;exact xo_ok (xf_at x q).1.at
 ·rw [u0e y] at z
  exact ObjOk.stay (x b u z) (λ_ _ _ v=>v) (λc v=>by
   rw[u0e (λt=>by subst t;rw[q] at v;unfold XF at v;cases v)];exact v) (λc xs v=>by
   rw[u0e (λt=>by subst t;rw[q] at v;unfold XF at v;cases v)];exact v)
end
section
variable {dx:Addr}{fs:List (Str×V)}{f:Str}{E:VP}
theorem Inv.xo (I:Inv X pins σ H s) (q:H a=some (XF C d a n)):Inv X pins σ (upd H a (XO C d a)) s:=by
 have hok:=I.hok.xo q;have nn:∀b,H b=none->upd H a (XO C d a) b=none:=λb z=>by
  rw[u0e (λt=>by subst t;rw[q] at z;cases z)];exact z
 have st:∀b u,H b=some u->(∀φ,u≠.ext φ)->upd H a (XO C d a) b=some u:=λb u z y=>by
  rw[u0e (λt=>by subst t;rw[q] at z;cases z;exact y _ rfl)];exact z
 exact I.un (h':=s.heap) (t':=s.toks) ⟨λ_ _ x _ _ _=>x,λ_ o x _ _ _=>⟨o.slots,x⟩,λb _ _ z _=>nn b z,λ_ o x _=>⟨o,x⟩,λb xs z=>st b _ z (λ_ y=>nomatch y),λb o u z=>st b _ z (λ_ y=>nomatch y),λb ps z=>⟨#[],by rw[Array.append_empty];exact st b _ z (λ_ y=>nomatch y)⟩⟩ hok
def v0u{e:Addr}{v:Value}{Q:Unit->Shared->Prop} (X:K.In s.heap) (c:XCls K C fI) (he:ExFr s.heap e C none) (hn:W.findIn K (.ref C) name=some none)
  (h:∀h1 h',ExFr h1 e C (some s.heap.objs.size)->(∀b o,b≠e->(s.heap.push W.emptyDict).get? b=some o->h1.get? b=some o)->h'.Ns1 s.heap.objs.size (λy=>if y=name then some v else none)->Heap.SameBut s.heap.objs.size h1 h'->Q () { s with heap:=h',toks:=s.toks+2 }) :
  wpAny (model prog w) A (setAttr (.ref e) name v) Q E s:=by
 obtain⟨t,sl,he⟩:=he;have I:W.InstAt s.heap e _ C none:=⟨he,rfl,rfl,True.intro⟩;refine W.set_plain X I c.sa (exc_osa (s:={ s with toks:=s.toks+1 }) X c I hn λb=>?_)
 obtain⟨cd,hc,_,hd⟩:=c.ov;have hlt:e<s.heap.objs.size:=z8 he;refine wpAny_bind (wpAny_pure (wpAny_bind (wpAny_bind (wpAny_loadPart he (wpAny_bind (W.Looks.here (s:={ s with toks:=s.toks+1 }) (W.looks_clsIn X hc) ?_))))))
 rw[hd];refine wpAny_bind (wpAny_alloc (wpAny_bind (wpAny_update (s:={ s with heap:=s.heap.push W.emptyDict,toks:=s.toks+1 }) (z0 _ he) ?_)))
 have hne:e≠s.heap.objs.size:=u9 hlt;have hd0:((s.heap.push W.emptyDict).update e λo=>{ o with dict:=some s.heap.objs.size }).get? s.heap.objs.size=some W.emptyDict:=by
  rw[x6 _ _ hne];exact y6 _ rfl
 have he1:((s.heap.push W.emptyDict).update e λo=>{ o with dict:=some s.heap.objs.size }).get? e=some { cls:=.ref C,dict:=some s.heap.objs.size,data:=.fields #[.ref t,.none,.none,.none,.bool false,.none],slots:=sl } :=
  u7 _ (z0 _ he) rfl
 have hk1:∀b o,b≠e->(s.heap.push W.emptyDict).get? b=some o->((s.heap.push W.emptyDict).update e λo=>{ o with dict:=some s.heap.objs.size }).get? b=some o:=λb o hb q=>by
  rw[x6 _ _ (Ne.symm hb)];exact q
 have hns:((s.heap.push W.emptyDict).update e λo=>{ o with dict:=some s.heap.objs.size }).Ns1 s.heap.objs.size (λ_=>none) :=
  Heap.Ns1.of_empty ⟨_,#[],_,hd0,rfl,λx hx=>absurd hx (by simp),λ_=>rfl⟩
 generalize (s.heap.push W.emptyDict).update e (λo=>{ o with dict:=some s.heap.objs.size })=h1 at hd0 he1 hk1 hns |-
 refine wpAny_pure (a:=some s.heap.objs.size) (wpAny_bind (wpAny_pure (wpAny_bind ?_)));refine wpAny_nsSet1 (s:={ s with heap:=h1,toks:=s.toks+1 }) hns λh' hn2 hs2=>?_
 obtain⟨oD,esD,epD,hoD,hdD,hcD⟩:=hn2.count (PySem.Within.cons name v (ns:=[]) (λy u=>absurd rfl u))
 refine wpAny_bind (wpAny_lookBehind hoD (by rw[hdD];exact pastItsLine_dict (y9 hcD (by rw[z1H,sizeLine_eq];decide))) ?_)
 exact wpAny_pure (h h1 _ ⟨t,sl,he1⟩ hk1 hn2 hs2)
def u8T{y:V}{Q:Unit->Shared->Prop} (I:Inv X pins σ H s) (e:H a=some (XF C none a n)) (c:XCls X.K C fI) (na:NoAttr X.K C f) (ry:RelV y u)
  (h:∀dx s',H dx=none->dx≠a->Inv X pins σ (upd (upd H dx (DXO dx [(f,y)])) a (XF C (some dx) a n)) s'->Q () s'):wpAny (model X.prog X.w) A (setAttr (.ref a) f u) Q E s:=by
 obtain⟨hx,hn⟩:=xf_at I.hok e;have hfr:H s.heap.objs.size=none:=I.hok.fresh (y0 _);have hne:s.heap.objs.size≠a:=(u0z e hfr).symm;refine v0u I.kIn c hx na λh1 h' x1 k1 n2 sb=>h s.heap.objs.size _ hfr hne ?_
 have e0:(s.heap.push W.emptyDict).get? s.heap.objs.size=some W.emptyDict:=y6 s.heap rfl;have n0:(s.heap.push W.emptyDict).Ns1 s.heap.objs.size (λ_=>none):=Heap.Ns1.of_empty ⟨_,#[],_,e0,rfl,λx hx=>absurd hx (by simp),λ_=>rfl⟩
 have I1:=I.laid (a:=s.heap.objs.size) (o:=DXO s.heap.objs.size []) (h':=s.heap.push W.emptyDict) (t':=s.toks) (λb u q=>z0 _ q) (y0 _) (v3f n0 (λ_=>True.intro) (λy hy=>absurd rfl hy))
 have ea:upd H s.heap.objs.size (DXO s.heap.objs.size []) a=some (XF C none a n):=by rw[u0e hne.symm];exact e
 have I2:=I1.write (x:=a) (e:=a) (o:=XF C (some s.heap.objs.size) a n) (h':=h1) (t':=s.toks) (by rw[ea];exact True.intro) (.inl rfl) (λb q hb z=>k1 b q hb z) (by obtain⟨_,_,q⟩:=x1;exact⟨_,q⟩) (xf_ok x1 hn)
 have ed:upd (upd H s.heap.objs.size (DXO s.heap.objs.size [])) a (XF C (some s.heap.objs.size) a n) s.heap.objs.size=some (DXO s.heap.objs.size []):=by rw[u0e hne,u0c]
 have I3:=I2.write (x:=s.heap.objs.size) (e:=s.heap.objs.size) (o:=DXO s.heap.objs.size [(f,y)]) (h':=h') (t':=s.toks+2) (by rw[ed];exact True.intro) (.inl rfl) (λb q hb z=>(sb.2 b hb).trans z) (by obtain⟨o,_,_,q,_⟩:=n2;exact⟨o,q⟩) (v3f n2 (λg=>by
  show RelO (List.lookup g [(f,y)]) (if g=f then some u else none)
  by_cases q:g=f
  ·subst q;rw[if_pos rfl];simp only[List.lookup,beq_self_eq_true];exact ry
  ·rw[if_neg q];simp only[List.lookup,beq_eq_false_iff_ne.mpr q];exact True.intro) (λg hg=>by
  by_cases q:g=f
  ·rw[q];exact z6
  ·exact absurd (if_neg q) hg))
 have eq:upd (upd (upd H s.heap.objs.size (DXO s.heap.objs.size [])) a (XF C (some s.heap.objs.size) a n)) s.heap.objs.size (DXO s.heap.objs.size [(f,y)])=upd (upd H s.heap.objs.size (DXO s.heap.objs.size [(f,y)])) a (XF C (some s.heap.objs.size) a n):=by
  funext b;unfold upd;by_cases q1:b=s.heap.objs.size
  ·rw[if_pos q1,if_neg (by rw[q1];exact hne),if_pos q1]
  ·rw [if_neg q1]
   by_cases q2:b=a
   ·rw[if_pos q2,if_pos q2]
   ·rw[if_neg q2,if_neg q2,if_neg q1,if_neg q1]
 rw[eq] at I3;exact I3
def Inv.xfmade (I:Inv X pins σ H s) (us:List Value):Inv X pins σ (upd H (s.heap.objs.size+1) (XF C none (s.heap.objs.size+1) s.heap.objs.size)) { s with heap:=(s.heap.push (tupO us)).push (excO C s.heap.objs.size none) }:=by
 have I1:=I.kept (t':=s.toks) (h':=s.heap.push (tupO us)) (λb u q=>z0 _ q)
 refine I1.laid (a:=s.heap.objs.size+1) (o:=XF C none (s.heap.objs.size+1) s.heap.objs.size) (t':=s.toks) (λb u q=>z0 _ q) (Nat.le_of_eq (Heap.size_push _ _)) ?_
 have:=y6 (s.heap.push (tupO us)) (o:=excO C s.heap.objs.size none) rfl
 rw[Heap.size_push] at this;exact xf_ok ⟨_,_,this⟩ (Nat.le_succ _)
end
section
variable {M:Model}{E:VP}
def XCls.base (c:XCls K C f):∃bm N nm q bs sn sub ab col dd k0 k1 k2 k3 k5,K.lookup C=some (excClassObj nm q C N bs bm true sn sub ab col dd k0 k1 k2 k3 k5 "ValueError.__new__")/\(Value.ref C::bm).contains (.type "BaseException")=true:=by
 obtain⟨bm,N,nm,q,bs,sn,sub,ab,col,dd,k0,k1,k2,k3,k5,hK,ht⟩:=c.obj;obtain⟨cd,hc,ho,_⟩:=c.ov;refine⟨bm,N,nm,q,bs,sn,sub,ab,col,dd,k0,k1,k2,k3,k5,hK,?_⟩;unfold W.clsIn at hc;rw[hK] at hc;cases hc;exact u1t ho
def u8v{x:Sem Value}{Q:Flow->Shared->Prop} (hh:A.handled=none)
  (h:wpAny M A x (fun v s₁=>∃ (e t C f:Addr) (dx:Option Addr) (sl:Array (Option Value)) (K:W.Frag),v=.ref e/\K.In s₁.heap/\XCls K C f /\
   s₁.heap.get? e=some { cls:=.ref C,dict:=dx,data:=.fields #[.ref t,.none,.none,.none,.bool false,.none],slots:=sl }/\E (.ref e) s₁) E s):wpAny M A (raiseStmt env (some x) none) Q E s:=by
 unfold raiseStmt;refine wpAny_bind (wpAny_mono h (λv s₁ h₁=>?_) λ_ _ x=>x)
 obtain⟨e,t,C,f,dx,sl,K,rfl,KI,c,he,hE⟩:=h₁;obtain⟨bm,N,nm,q,bs,sn,sub,ab,col,dd,k0,k1,k2,k3,k5,hK,hb⟩:=c.base;have hC:=KI _ _ hK;obtain⟨hp,g,d,tk,os⟩:=s₁
 repeat (first|(with_reducible refine wpAny_loadPart_at he ?_)|(with_reducible refine wpAny_loadPart_at hC ?_)|((with_reducible refine wpAny_isSubtype_exc hC ?_);rw[hb])|wp_step)
 exact wpAny_raiseNew_none hh hE
end
def spXI (C:Addr) (fls:List Str):Sp:=λvs H Q _=>∃a args n,vs=.ref a::args/\args.length=fls.length/\H a=some (XF C none a n)/\∀dx,H dx=none->dx≠a->Q .non (upd (upd H dx (DXO dx (fls.zip args))) a (XF C (some dx) a n))
section
variable {o:Expr}{f:Str}{fls:List Str}
def sXF (K:W.Frag) (ta tv:TE) (f:Str):TS:=λT σ H=>tv σ H λy H1=>ta σ H1 λx H2=>∃a C fI n,x=.ref a/\XCls K C fI/\NoAttr K C f/\H2 a=some (XF C none a n)/\∀dx,H2 dx=none->dx≠a->T.nx σ (upd (upd H2 dx (DXO dx [(f,y)])) a (XF C (some dx) a n))
def ps_xf (ha:PE X o ta) (hv:PE X value tv) (hs:swapsWith value (some (.Attribute o f pos')) pos.line X.env=pure false:=by rfl):PS X (.Assign [.Attribute o f pos'] value pos) (sXF X.K ta tv f):=by
 intro pins s σ H T I h;refine plainObj_wpAny_Assign_Attribute (thn (hv pins s σ H _ I h) λu s1 ⟨y,H1,I1,ry,q⟩=>thn (ha pins s1 σ H1 _ I1 q) λov s2 z997=>?_) hs
 obtain⟨x,H2,I2,rx,a,C,fI,n,ex,c,na,ea,q2⟩:=z997;subst ex;obtain rfl:ov=Value.ref a:=rx;exact u8T I2 ea c na ry λdx s3 h1 h2 I3=>⟨σ,_,I3,q2 dx h1 h2⟩
def run_xf{Q:VP} (c:XCls X.K C fI) (F:FnOk X.prog X.w X.K X.mg X.base CX0 k fI fd ps (spXI C fls)) (hr:Room (k+1) X.A) (hb:Binds X.K fd ps [])
  (I:Inv X pins σ H s) (r:Vals vs us) (hz:vs.length<=1000) (hn:vs.length=fls.length)
  (h:∀a dx s',H a=none->H dx=none->dx≠a->Inv X pins σ (upd (upd H dx (DXO dx (fls.zip vs))) a (XF C (some dx) a s.heap.objs.size)) s'->Q (.ref a) s'):wpAny (model X.prog X.w) X.A (call (.ref C) us) Q X.xe s:=by
 have h1:H (s.heap.objs.size+1)=none:=I.hok.fresh (Nat.le_succ _);have I2:=Inv.xfmade (C:=C) I us;have r2:Vals (V.ref (s.heap.objs.size+1)::vs) (Value.ref (s.heap.objs.size+1)::us):=.cons rfl r;have hq:spXI C fls (.ref (s.heap.objs.size+1)::vs) (upd H (s.heap.objs.size+1) (XF C none (s.heap.objs.size+1) s.heap.objs.size)) (λv H2=>v=.non/\∃dx,H dx=none/\dx≠s.heap.objs.size+1/\H2=upd (upd H dx (DXO dx (fls.zip vs))) (s.heap.objs.size+1) (XF C (some dx) (s.heap.objs.size+1) s.heap.objs.size)) E0:=by
  refine⟨_,_,_,rfl,hn,u0c,λdx d1 d2=>⟨rfl,dx,?_,d2,?_⟩⟩
  ·rw[u0e d2] at d1;exact d1
  ·funext b
   unfold upd;by_cases q1:b=s.heap.objs.size+1
   ·rw[if_pos q1,if_pos q1]
   ·rw[if_neg q1,if_neg q1,if_neg q1]
 have hl:(Value.ref (s.heap.objs.size+1)::us++[]).length=ps.length:=by
  have e:=r2.length;rw[F.len _ _ _ _ hq] at e;rw[List.append_nil];exact e.symm
 refine wpAny_call ?_;obtain⟨hh,g,d,tt,os⟩:=s;refine v2m (f:=fI) I.kIn c (by rw[<- r.length,sizeLine_eq];omega) ?_
 refine codeAny_mono (F.run _ X.stack _ _ ⟨Value.ref (hh.objs.size+1)::us,[]⟩ (Value.ref (hh.objs.size+1)::us) _ _ E0 (hr.make C us []) (I2.env0.make C us []) (by have:=hb _ (Value.ref (hh.objs.size+1)::us) I2.kIn hl;rwa [List.append_nil] at this) r2 hq) λr s' hq'=>?_
 cases r with
 | error e=>exact False.elim hq'
 | ok fl =>
  cases fl with
  | ret u =>
   obtain⟨v,H',I3,rv,ev,dx,q1,q2,q3⟩:=I2.after hq';subst ev q3;exact⟨rv,h _ dx s' h1 q1 q2 I3⟩
  | next=>exact False.elim hq'
  | brk=>exact False.elim hq'
  | cont=>exact False.elim hq'
def XCalleeF (P:Program) (w:World) (K:W.Frag) (mg:MG) (base:Heap) (k:Nat) (x:Str) (C:Addr) (ps fls:List Str):Prop :=
 ∃f fd,XCls K C f/\FnOk P w K mg base CX0 k f fd ps (spXI C fls)/\Binds K fd ps []/\mg x=some (.ref C)
theorem Rps.zip{F:Hp}:∀{vs:List V}{ds:List D} (fls:List Str),Rps K F vs ds->Rpf K F (fls.zip vs) (fls.zip ds)
 | _,_,[],_=>by simpa using Rpf.nil
 | _,_,_::_,.nil=>by simpa using Rpf.nil
 | _,_,f::fls,.cons h hs=>.cons h (hs.zip fls)
def u5r{base:Heap} (hq:XqOk X xq) (hc:X.calm=true) (h:XCalleeF P w K mg base k x C ps fls) (hr:Room k' X.A) (ha:DA X xq (e::es) fs) (hk:k+1<=k':=by decide) (hg:Gl X x:=by rfl)
  (eP:X.prog=P:=by rfl) (ew:X.w=w:=by rfl) (eK:X.K=K:=by rfl) (em:X.mg=mg:=by rfl) (eb:X.base=base:=by rfl) (hdb:(x==("__debug__":Str))=false:=by decide) :
  DS X xq (.Raise (some (.Call (.Name x p) (e::es) [] cpos)) none pos) (λρ=>(fs ρ).go ρ λds=>if ds.length=fls.length/\ds.length<=1000 then .er (.exc C (fls.zip ds)) (frz ρ) else .bad):=by
 subst eP ew eK em eb;obtain⟨f,fd,c,F,hb,hm⟩:=h;refine⟨λpins s σ H T I z998=>?_⟩
 obtain⟨B,G,ρ,R,q⟩:=z998;rw[arm_exec_Raise];refine wpAny_bind (wpAny_standAt ?_);refine u8v (I.ok.hd hc) ?_;refine wpAny_bind (m:=eval (.Call (.Name x p) (e::es) [] cpos) X.env) (wpAny_Call_Name_kw (u1W I hg hm ?_ hdb));refine W.callWith_K (h₀:=X.base) I.ok.mod.kin c.kp (thn (ha.out cpos pins s σ H (λvs H1=>∃G1 ds,Rel X.K B ρ σ G1 H1/\Rps X.K G1 vs ds/\ds.length=fls.length/\ds.length<=1000/\∀v σ F H,Rel X.K B (frz ρ) σ F H->Rp X.K F v (.exc C (fls.zip ds))->xq v σ H) I ?_) λus s1 ⟨vs,H1,I1,r,G1,ds,R1,p1,l1,l2,q1⟩=>⟨I1.kIn,?_⟩) (u0l (u0j ha.ns).1) (u0N (u0j ha.ns).2)
 ·refine ⟨B,G,ρ,R,Res.all_mono (u0C q.out) (fun ds z vs G1 H1 st p1=>?_) fun _ z=>errOf z⟩
  by_cases hz:ds.length=fls.length/\ds.length<=1000
  ·rw [if_pos hz] at z
   exact⟨G1,ds,R.step st,p1,hz.1,hz.2,z⟩
  ·rw[if_neg hz] at z;exact z.elim
 ·refine run_xf c F (hr.mono hk) hb I1 r (by rw [p1.length];exact l2) (p1.length.trans l1) fun a dx s2 n1 n2 n3 I2=>wpAny_bind (wpAny_standAt (wpAny_pure ?_))
  have xa:=xf_at I2.hok u0c;obtain⟨⟨t,sl,z⟩,hn⟩:=xa;refine⟨a,t,C,f,some dx,sl,X.K,rfl,I2.kIn,c,z,hq.xe _ _ ?_⟩;have I3:=I2.xo u0c;rw[upd_upd] at I3;refine⟨_,a,C,some dx,σ,_,.none,I1.old.bare0,rfl,I3.bare0,u0c,⟨hn,_,_,z,rfl,by show 1<6;decide,.inl ⟨rfl,rfl⟩⟩,.inl rfl,?_⟩
  have s1:=Stp.new (o:=DXO dx (fls.zip vs)) R1.fh n2;have n1':upd H1 dx (DXO dx (fls.zip vs)) a=none:=by rw[u0e (Ne.symm n3)];exact n1
  have s2:=s1.trans (Stp.new (o:=XO C (some dx) a) s1.fh n1');obtain⟨G3,e3,R3⟩:=(R1.step s2).frz;refine q1 _ σ G3 _ R3 (Rp.same e3 (.exc u0c (by rw[u0e n3];exact u0c) ((p1.zip fls).same s2.ff)))
end
def XBase (K:W.Frag) (C:Addr):Prop:=∃bm N nm q bs sn sub ab col dd k0 k1 k2 k3 k5,K.lookup C=some (excClassObj nm q C N bs bm true sn sub ab col dd k0 k1 k2 k3 k5 "ValueError.__new__")/\(Value.ref C::bm).contains (.type "BaseException")=true
noncomputable def xbB (K:W.Frag) (C:Addr):Bool:=match K.lookup C with
 | some ⟨.type "type",_,.cls cd,sl⟩=>(match cd.mro,sl.toList with
  | .ref C'::bm,[_,_,_,_,some (.builtin n),_]=>C'==C&&n=="ValueError.__new__"&&!cd.hasDel&&cd.hasDict&&(Value.ref C::bm).contains (.type "BaseException")
  | _,_=>false)
 | _=>false
set_option tactic.hygienic true in
def u4P(e:xbB K C=true):XBase K C:=by
 unfold xbB at e;split at e
 ·rename_i dd cd sl ho
  split at e
  ·rename_i C' bm k0 k1 k2 k3 n k5 hm hs
   simp only[z1G,beq_iff_eq,Bool.not_eq_true'] at e;obtain⟨⟨⟨⟨rfl,rfl⟩,hdel⟩,hdi⟩,hb⟩:=e;obtain⟨nm,bs,mro,ns,qn,hd,sn,sub,ab,col,del⟩:=cd;dsimp only at hm hdel hdi;subst hm hdel hdi;have hsl:sl=#[k0,k1,k2,k3,some (.builtin "ValueError.__new__"),k5]:=by
    obtain⟨l⟩:=sl;simp only at hs;rw[hs]
   subst hsl;exact⟨bm,ns,nm,qn,bs,sn,sub,ab,col,dd,k0,k1,k2,k3,k5,ho,hb⟩
  ·cases e
 ·cases e
noncomputable def subK (K:W.Frag) (C C':Addr):Bool:=match W.clsIn K C with
 | some cd=>cd.mro.contains (.ref C')
 | none=>false
section
variable {M:Model}{E:VP}{e:Addr}
def v0s{Q:Bool->Shared->Prop} (KI:K.In s.heap) (c:XBase K C) (c':XBase K C') (he:s.heap.get? e=some oe) (hcls:oe.cls=.ref C) (hq:Q (subK K C C') s):wpAny M A (excMatches (.ref e) (.ref C')) Q E s:=by
 obtain⟨bm,N,nm,q,bs,sn,sub,ab,col,dd,k0,k1,k2,k3,k5,hK,hb⟩:=c;obtain⟨bm',N',nm',q',bs',sn',sub',ab',col',dd',j0,j1,j2,j3,j5,hK',hb'⟩:=c';have hC:=KI _ _ hK;have hC':=KI _ _ hK';have hs:subK K C C'=(Value.ref C::bm).contains (.ref C'):=by
  unfold subK W.clsIn;rw[hK]
 rw[hs] at hq;have f:=tc_notTuple;obtain⟨hp,g,d,tk,os⟩:=s;unfold excMatches
 repeat (first|((with_reducible refine wpAny_loadPart_at he ?_);rw[hcls])|(with_reducible refine wpAny_loadPart_at hC' ?_)|((with_reducible refine wpAny_isSubtype_exc hC' ?_);rw[hb'])|((with_reducible refine wpAny_isSubtype_exc hC ?_);generalize hz:(Value.ref C::bm).contains (.ref C')=z at hq |-;cases z)|wp_step)
 all_goals (wp_walk;exact hq)
end
section
variable {M:Model}{E:VP}
def Inv.gone{n:Str}{w:Option Value} (I:Inv X pins σ H s) (hN:X.N.Nodup) (hi:X.N[i]?=some n) (hl:∀(j:Nat) (x:Str) (v:V),X.N[j]?=some x->σ[j]?=some (some v)->Vis X.env.scope x->∃u,RelV v u/\Look X.env s.heap m x u)
  (hn':h'.Ns X.env.locals (λx=>if x=n then w else m x)) (hs:Heap.SameBut X.env.locals s.heap h'):Inv X pins (σ.set i none) H { s with heap:=h',toks:=t' }:=by
 have ne:∀b,b≠X.env.locals->h'.get? b=s.heap.get? b:=hs.2;have old:∀b o,X.s₀.heap.get? b=some o->b≠X.env.locals:=λb o e=>u9 (x8 (z8 e) I.ok.above)
 refine⟨I.ok,I.os,I.bare,⟨λb o e z hb hx=>(ne b (old b o e)).trans (I.base.keep b o e z hb hx),λb o e z hb hx=>?_,I.base.free,λb o e hx=>?_,I.base.tups,I.base.frzs,I.base.tbls⟩,⟨_,hn',λj x v e1 e2 e3=>?_⟩,λx c e=>?_,I.free,I.freeC,λp hp=>?_,λa o e=>?_,by simp[I.len]⟩
 ·obtain ⟨sl,q⟩:=I.base.slot b o e z hb hx
  exact⟨sl,(ne b (old b o e)).trans q⟩
 ·obtain ⟨o',q⟩:=I.base.there b o e hx
  exact⟨o',(ne b (old b o e)).trans q⟩
 ·by_cases hj:j=i
  ·subst hj
   rw[z2H (by rw[I.len];exact(w9.mp hi).1)] at e2
   cases e2
  ·rw [List.getElem?_set_ne (Ne.symm hj)] at e2
   obtain⟨u,r,q⟩:=hl j x v e1 e2 e3;refine⟨u,r,?_⟩;rcases q with⟨k,q⟩|⟨k,c,q,z⟩
   ·have nx:x≠n:=fun y=>hj (u5j hN e1 (y ▸ hi))
    exact .inl ⟨k,by show(if x=n then w else m x)=some u;rw[if_neg nx];exact q⟩
   ·exact .inr ⟨k,c,q,z.sameBut hs (I.cne x c q)⟩
 ·obtain ⟨v,z⟩:=I.cell x c e
  exact⟨v,z.sameBut hs (I.cne x c e)⟩
 ·obtain ⟨q,z,nl,nf,d⟩:=I.pin p hp
  exact⟨(ne p.1 nl).trans q,z,nl,nf,d⟩
 ·refine (I.hok a o e).stay (fun c u hc q=>(ne c ?_).trans q) (fun _ q=>q) fun _ _ q=>q
  rintro rfl;rcases hc with rfl|hc
  ·rw[I.free] at e;cases e
  ·rw[I.free] at hc;cases hc
def u5m{n:Str}{Q:Unit->Shared->Prop} (I:Inv X pins σ H s) (hN:X.N.Nodup) (hi:X.N[i]?=some n) (hl:X.env.scope.names.lookup n=some .local) (hk:X.env.kindOf n=some .local)
  (h:∀s',Inv X pins (σ.set i none) H s'->Q () s'):wpAny M A (do bindName X.env n .none;unbindBehindTheSuite X.env n pos) Q E s:=by
 have hp:(X.env.scope.kind==.class||(X.env.scope.kind==.module&&X.env.locals != X.env.globals))=false:=by rw[I.ok.kind];rfl
 refine wpAny_bind (wpAny_bindName (u3z (v:=.non) I hN hi (.inl hl) rfl (λs1 I1=>?_) (.inr hl)))
 obtain⟨m,hn,hlo⟩:=id I1.loc;have hiσ:i<σ.length:=by rw[I.len];exact(w9.mp hi).1
 obtain⟨u,ru,lk⟩:=hlo i n .non hi (by rw[z2H hiσ]) (.inl hl)
 have hm:m n=some .none:=by
  cases ru;rcases lk with⟨_,q⟩|⟨k,_⟩
  ·exact q
  ·rw[hk] at k;rcases k with k|k<;>cases k
 unfold unbindBehindTheSuite;refine wpAny_onRaise ?_;unfold unbindName;refine wpAny_bind (wpAny_point (wpAny_bind ?_));unfold deleteName;simp only[hk,hp];rw[if_neg (by decide)]
 refine wpAny_bind (wpAny_nsDel_keeps hn λh2 w hn2 hs2=>?_)
 rw[hm];simp only[if_true,Option.isSome_some,Bool.not_true,z1E,if_false];refine wpAny_pure (wpAny_point ?_);have I2:=I1.gone (t':=s1.toks) hN hi hlo hn2 hs2;rw[List.set_set] at I2;exact h _ I2
end
abbrev cxH (X:Cx) (e:Addr):Cx:={ X with A:=X.A.mark (some (.ref e)),calm:=false,xe:=λ_ _=>False }
section
variable {e:Addr}
def Inv.toH (I:Inv X pins σ H s) (e:Addr):Inv (cxH X e) pins σ H s :=
 ⟨⟨I.ok.mod,I.ok.kind,I.ok.glob,I.ok.blt,I.ok.above,I.ok.inj,I.ok.has,I.ok.cab,(λz=>nomatch z),I.ok.frames,I.ok.stk,I.ok.exf,I.ok.bs,I.ok.bsz,I.ok.noex,I.ok.exfs,I.ok.funs,I.ok.frf⟩,I.os,I.bare,I.base,I.loc,I.cell,I.free,I.freeC,I.pin,I.hok,I.len⟩
def Inv.ofH (J:X.Ok) (I:Inv (cxH X e) pins σ H s):Inv X pins σ H s:=⟨J,I.os,I.bare,I.base,I.loc,I.cell,I.free,I.freeC,I.pin,I.hok,I.len⟩
def Rel.unset{F:Hp} (r:Rel K B ρ σ F H):Rel K B (ρ.set i none) (σ.set i none) F H where
 st:=r.st
 len:=by simp[r.len]
 val j d e:=by
  rcases u0A e with⟨rfl,q,z⟩|⟨q,z⟩
  ·cases z
  ·rw[u0E q];exact r.val j d z
 own j o e:=by
  rcases u0A e with⟨rfl,q,z⟩|⟨q,z⟩
  ·cases z
  ·rw[u0E q];exact r.own j o z
 dis j k o u a x y:=by
  rcases u0A x with⟨rfl,q,z⟩|⟨q,z⟩
  ·cases z
  ·rcases u0A y with ⟨rfl,q',z'⟩ | ⟨q',z'⟩
   ·cases z'
   ·rw[u0E q,u0E q'];exact r.dis j k o u a z z'
def PH (X:Cx) (xq:XQ) (hs:List ExceptHandler) (hd:D->Rho->Out):Prop:=∀(pins:LO) (s:Shared) (σ:St) (H:Hp) (B:Hp×Hp) (F:Hp) (ρ:Rho) (x:D) (e:Addr) (n:Nat) (T:Ends),Inv X pins σ H s->Old X pins n->Tr n s.heap H e .none ->
 Rel X.K B ρ σ F H->Rp X.K F (.ref e) x->OkS X.K xq B T (hd x ρ)->wpAny (model X.prog X.w) X.A (handleBy (.ref e) X.env hs) (SP X pins T) X.xe s
structure DH (X:Cx) (xq:XQ) (hs:List ExceptHandler) (hd:D->Rho->Out):Prop where
 out:PH X xq hs hd
noncomputable def isE:D->Bool
 | .exc _ _=>true
 | _=>false
set_option tactic.hygienic true in
def dh_nil (hq:XqOk X xq):DH X xq [] (λx ρ=>if isE x=true then .er x (frz ρ) else .bad):=⟨λpins s σ H B F ρ x e n T I o tr R p q=>by
 cases p with
 | exc h1 h2 h3 =>
  rename_i C dx fs gs;have q':∀v σ F H,Rel X.K B (frz ρ) σ F H->Rp X.K F v (.exc C gs)->xq v σ H:=q.out;have hx:=R.fh _ _ h1;refine wpAny_handleBy_nil ?_;unfold PySem.passOn;have tr':=tr;obtain⟨a0,oe,vs,a1,a2,a3,t,oT,ts,a4,a5,a6,a7,a8,a9,a10⟩:=tr';refine wpAny_bind (wpAny_field a1 a2 a4 ?_);rw[if_neg (show ¬ ((Value.ref t==Value.none)=true) by simp),hq.st.2]
  refine wpAny_bind (u1X (f:=some X.env.locals) I hq.st o hx tr λs3 I3 tr3=>wpAny_throw (hq.xe _ _ ?_))
  obtain⟨F1,e1,R1⟩:=R.frz;exact⟨n,e,C,some dx,σ,H,_,o.bare0,rfl,I3.bare0,hx,tr3.tb,.inr rfl,q' _ σ F1 H R1 (Rp.same e1 (.exc h1 h2 h3))⟩
 | _=>exact q.out.elim⟩
noncomputable def unset (i:Nat):Out->Out
 | .nx ρ=>.nx (ρ.set i none)
 | .rt d=>.rt d
 | .bk ρ=>.bk (ρ.set i none)
 | .ct ρ=>.ct (ρ.set i none)
 | _=>.bad
noncomputable def hdAs (K:W.Frag) (C':Addr) (i:Nat) (fb:Rho->Out) (rest:D->Rho->Out) (x:D) (ρ:Rho):Out:=match x with
 | .exc C gs=>if xbB K C=true then (if subK K C C'=true then unset i (fb (ρ.set i (some (.val (.exc C gs))))) else rest (.exc C gs) ρ) else .bad
 | _=>.bad
set_option tactic.hygienic true in
def dh_as{cn nm:Str}{rest:List ExceptHandler}{hr:D->Rho->Out} (hst:X.stack=X.env::X.outer/\X.env.frame=some X.env.locals) (hN:X.N.Nodup) (hm:X.mg cn=some (.ref C')) (hb:XBase X.K C')
  (hsu:∀e,DB (cxH X e) xqF (b0::bs) fb) (hrs:DH X xq rest hr) (hi:X.N[i]?=some nm:=by rfl) (hl:X.env.scope.names.lookup nm=some .local:=by rfl) (hk:X.env.kindOf nm=some .local:=by rfl) (hg:Gl X cn:=by rfl) (hdb:(cn==("__debug__":Str))=false:=by decide) :
  DH X xq (.ExceptHandler (some (.Name cn p)) (some nm) (b0::bs) pos::rest) (hdAs X.K C' i fb hr):=⟨λpins s σ H B F ρ x e n T I o tr R pe q=>by
 cases pe with
 | exc h1 h2 h3 =>
  rename_i C dx fs gs;have hx:=R.fh _ _ h1;have q:=q.out;unfold hdAs at q;dsimp only at q;by_cases hc:xbB X.K C=true
  ·rw [if_pos hc] at q
   obtain⟨oe,he,hcls⟩:∃oe,s.heap.get? e=some oe/\oe.cls=.ref C:=by
    obtain⟨t,f1,f2,f3,f4,f5,sl,z⟩:=v1e I.hok hx;exact⟨_,z,rfl⟩
   have IH:=I.toH e;refine wpAny_handleBy_cons (codeAny_handlers_test (u1W IH hg hm (v0s I.kIn (u4P hc) hb he hcls ?_) hdb)) (by intro z;cases z)
   cases hsb:subK X.K C C' with
   | false =>
    rw[hsb] at q;exact hrs.out pins s σ H B F ρ _ e n T I o tr R (.exc h1 h2 h3) ⟨q⟩
   | true =>
    rw[hsb] at q;refine codeAny_handlers_suite_as (u1X (X:=cxH X e) (f:=none) IH hst ⟨o.s0,o.loc,o.cel,o.pin⟩ hx tr λs2 I2 tr2=>?_)
    refine u3z (X:=cxH X e) (v:=.ref e) I2 hN hi (.inl hl) rfl (λs3 I3=>?_) (.inr hl)
    have R3:Rel X.K B (ρ.set i (some (.val (.exc C gs)))) (σ.set i (some (.ref e))) F H:=R.set (.exc h1 h2 h3);refine wpAny_mono ((hsu e).out pins s3 _ H { nx:=λσ' H'=>T.nx (σ'.set i none) H',rt:=T.rt,bk:=λσ' H'=>T.bk (σ'.set i none) H',ct:=λσ' H'=>T.ct (σ'.set i none) H' } I3 ⟨B,F,_,R3,⟨?_⟩⟩) (λf s4 z=>?_) λ_ _ z=>False.elim z
    ·generalize fb (ρ.set i (some (Sl.val (D.exc C gs))))=out at q
     cases out with
     | nx r=>exact λσ' F' H' R'=>q _ F' H' R'.unset
     | rt d=>exact q
     | bk r=>exact λσ' F' H' R'=>q _ F' H' R'.unset
     | ct r=>exact λσ' F' H' R'=>q _ F' H' R'.unset
     | er y r=>exact q.elim
     | bad=>exact q.elim
    ·cases f with
     | next=>obtain⟨σ',H',I4,z⟩:=z;exact u5m (Inv.ofH I.ok I4) hN hi hl hk λs5 I5=>⟨_,H',I5,z⟩
     | brk=>obtain⟨σ',H',I4,z⟩:=z;exact u5m (Inv.ofH I.ok I4) hN hi hl hk λs5 I5=>⟨_,H',I5,z⟩
     | cont=>obtain⟨σ',H',I4,z⟩:=z;exact u5m (Inv.ofH I.ok I4) hN hi hl hk λs5 I5=>⟨_,H',I5,z⟩
     | ret u=>obtain⟨v,σ',H',I4,r,z⟩:=z;exact u5m (Inv.ofH I.ok I4) hN hi hl hk λs5 I5=>⟨v,_,H',I5,r,z⟩
  ·rw[if_neg hc] at q;exact q.elim
 | _=>exact q.out.elim⟩
noncomputable def hdNo (K:W.Frag) (C':Addr) (fb:Rho->Out) (rest:D->Rho->Out) (x:D) (ρ:Rho):Out:=match x with
 | .exc C gs=>if xbB K C=true then (if subK K C C'=true then (match fb ρ with | .er _ _=>.bad|o=>o) else rest (.exc C gs) ρ) else .bad
 | _=>.bad
abbrev cxP (X:Cx) (pn:LO):Cx:={ X with pn:=X.pn++pn }
abbrev cxT (X:Cx) (pn:LO) (xq:XQ):Cx:=(cxP X pn).wish (Fly (cxP X pn) xq)
def Inv.toP (I:Inv X pins σ H s):Inv (cxP X pins) [] σ H s :=
 ⟨⟨I.ok.mod,I.ok.kind,I.ok.glob,I.ok.blt,I.ok.above,I.ok.inj,I.ok.has,I.ok.cab,I.ok.hd,I.ok.frames,I.ok.stk,I.ok.exf,I.ok.bs,I.ok.bsz,I.ok.noex,I.ok.exfs,I.ok.funs,I.ok.frf⟩,I.os,I.bare,I.base,I.loc,I.cell,I.free,I.freeC,λp hp=>I.pin p (by simpa using hp),I.hok,I.len⟩
def Inv.ofP (I:Inv (cxP X pins) [] σ H s):Inv X pins σ H s :=
 ⟨⟨I.ok.mod,I.ok.kind,I.ok.glob,I.ok.blt,I.ok.above,I.ok.inj,I.ok.has,I.ok.cab,I.ok.hd,I.ok.frames,I.ok.stk,I.ok.exf,I.ok.bs,I.ok.bsz,I.ok.noex,I.ok.exfs,I.ok.funs,I.ok.frf⟩,I.os,I.bare,I.base,I.loc,I.cell,I.free,I.freeC,λp hp=>I.pin p (by simpa using hp),I.hok,I.len⟩
def Old.ofP(o:Old (cxP X pins) [] n):Old X pins n:=⟨o.s0,o.loc,o.cel,λp hp=>o.pin p (by simpa using hp)⟩
noncomputable def catchD (hd:D->Rho->Out):Out->Out
 | .er x ρ=>hd x ρ
 | o=>o
def ds_try{h0:ExceptHandler}{hs:List ExceptHandler}{hd:D->Rho->Out} (hst:X.stack=X.env::X.outer/\X.env.frame=some X.env.locals)
  (hb:∀pn xq',XqOk (cxT X pn xq') xq'->DB (cxT X pn xq') xq' body fb) (hh:DH X xq (h0::hs) hd) :
  DS X xq (.Try body (h0::hs) [] [] pos) (λρ=>catchD hd (fb ρ)):=⟨λpins s σ H T I z9=>un5 z9 λB F ρ R q=>by
 rw[arm_exec_Try];refine wpAny_bind (wpAny_standAt (wpAny_tryStmt_except ?_))
 let xq':XQ:=λv σ' H'=>∃ρ' F' x,Rel X.K B ρ' σ' F' H'/\Rp X.K F' v x/\OkS X.K xq B T (hd x ρ')
 have hq':XqOk (cxT X pins xq') xq':=u3D (X:=cxP X pins) hst;refine wpAny_mono ((hb pins xq' hq').out [] s σ H T (I.toP.wish _) ⟨B,F,ρ,R,⟨?_⟩⟩) (λf s1 z=>?_) λu s1 z=>?_
 ·have q:=q.out
  dsimp only at q;generalize fb ρ=out at q;cases out with
  | nx r=>exact q
  | rt d=>exact q
  | bk r=>exact q
  | ct r=>exact q
  | er x r=>exact λv σ' F' H' R' p'=>⟨r,F',x,R',p',⟨q⟩⟩
  | bad=>exact q.elim
 ·cases f with
  | next=>obtain⟨σ',H',I4,z⟩:=z;exact wpAny_execs_nil ⟨σ',H',I4.unwish.ofP,z⟩
  | brk=>obtain⟨σ',H',I4,z⟩:=z;exact⟨σ',H',I4.unwish.ofP,z⟩
  | cont=>obtain⟨σ',H',I4,z⟩:=z;exact⟨σ',H',I4.unwish.ofP,z⟩
  | ret u=>obtain⟨v,σ',H',I4,r,z⟩:=z;exact⟨v,σ',H',I4.unwish.ofP,r,z⟩
 ·obtain ⟨n,e,C,d,σ',H',fl,o,rfl,I1,hx,tb,hfl,ρ',F',x,R',p',q'⟩:=z
  refine u7e (X:=cxP X pins) I1 hst o hx tb hfl λs2 I2 tr2=>?_
  refine u1X (X:=cxP X pins) (f:=none) I2 hst o hx tr2 λs3 I3 tr3=>?_
  exact hh.out pins s3 σ' H' B F' ρ' x e n T I3.ofP o.ofP tr3 R' p' q'⟩
def XRead (K:W.Frag) (f:Str) (Cs:List Addr):Prop:=∀C∈Cs,(∃fI,XCls K C fI)/\NoAttr K C f
set_option tactic.hygienic true in
def v3j{o:Expr}{f:Str}{Cs:List Addr} (hr:XRead K f Cs) (ho:DE X xq o fo) (eK:X.K=K:=by rfl) (hb:attributeBase o f X.env (eval o X.env)=eval o X.env:=by rfl) :
  DE X xq (.Attribute o f pos) (λρ=>(fo ρ).bind λx=>match x with | .exc C gs=>if C∈Cs then (match gs.lookup f with|some d=>.ok d|none=>.bad) else .bad|_=>.bad):=by
 subst eK;refine DE.of (pe_xfld ho.out hb) λB F ρ σ H Q R q=>seqE R q λd v F1 H1 s1 R1 p1 q1=>?_
 cases p1 with
 | exc h1 h2 h3 =>
  rename_i C dx fs gs;have q1:(if C∈Cs then (match gs.lookup f with|some d=>Res.ok d|none=>.bad) else .bad).all _ _:=q1
  by_cases hc:C∈Cs
  ·rw [if_pos hc] at q1
   cases hl:gs.lookup f with
   | none=>rw[hl] at q1;exact q1.elim
   | some d =>
    rw[hl] at q1;obtain⟨v,hv,pv⟩:=h3.lookup hl;obtain⟨⟨fI,c⟩,na⟩:=hr C hc;exact⟨_,C,fI,dx,fs,v,rfl,R1.fh _ _ h1,R1.fh _ _ h2,c,na,hv,q1 v F1 H1 s1 pv⟩
  ·rw[if_neg hc] at q1;exact q1.elim
 | _=>exact q1.elim
end
mutual
noncomputable def DK.hash (w:World):DK->Int
 | .i n=>keyH w (.inl n)
 | .s z=>keyH w (.inr z)
 | .t ks=>reduceHash (Builtin.Tuple.tupleHashOf (DK.hashes w ks))
noncomputable def DK.hashes (w:World):List DK->List Int
 | []=>[]
 | k::ks=>k.hash w::DK.hashes w ks
end
mutual
inductive KAt (h:Heap):DK->Value->Prop
 | i (n:Int) (t:Tok):KAt h (.i n) (.int n t)
 | s (z:Str) (t:Tok):KAt h (.s z) (.str z t)
 | t {a:Addr}{o:Obj}{its:Array Value}{n:Nat}{ks:List DK}:h.get? a=some o->o.cls=.type "tuple"->o.data=.seq its n->KAts h ks its.toList->KAt h (.t ks) (.ref a)
inductive KAts (h:Heap):List DK->List Value->Prop
 | nil:KAts h [] []
 | cons {k:DK}{v:Value}{ks:List DK}{vs:List Value}:KAt h k v->KAts h ks vs->KAts h (k::ks) (v::vs)
end
mutual
theorem KAt.inj {h:Heap}:∀{x y:DK}{v:Value},KAt h x v->KAt h y v->x=y
 | _,_,_,.i _ _,.i _ _=>rfl
 | _,_,_,.s _ _,.s _ _=>rfl
 | _,_,_,.t p1 _ p2 p3,.t q1 _ q2 q3=>by
  rw[p1] at q1;cases q1;rw[p2] at q2;cases q2;rw[KAts.inj p3 q3]
theorem KAts.inj {h:Heap}:∀{x y:List DK}{v:List Value},KAts h x v->KAts h y v->x=y
 | _,_,_,.nil,.nil=>rfl
 | _,_,_,.cons p ps,.cons q qs=>by rw[KAt.inj p q,KAts.inj ps qs]
end
mutual
theorem KAt.reads {h:Heap}:∀{x:DK}{v:Value},KAt h x v->∃as,Reads h v x.py as
 | _,_,.i n t=>⟨_,.int n t⟩
 | _,_,.s z t=>⟨_,.str z t⟩
 | _,_,.t p1 pc p2 p3=>let ⟨_,q⟩:=KAts.reads p3;⟨_,by rw[DK.py];exact .tuple p1 pc p2 q⟩
theorem KAts.reads {h:Heap}:∀{x:List DK}{v:List Value},KAts h x v->∃as,ReadsAll h v (DK.pys x) as
 | _,_,.nil=>⟨_,.nil⟩
 | _,_,.cons p ps=>let ⟨_,q⟩:=KAt.reads p;by obtain⟨_,qs⟩:=KAts.reads ps;exact⟨_,.cons q qs⟩
end
noncomputable def cmpDs:List D->Res (List PyData)
 | []=>.ok []
 | d::ds=>(cmpD d).bind λa=>(cmpDs ds).bind λas=>.ok (a::as)
noncomputable def inS (i j:Str):Bool:=!(Builtin.Str.occurrences j i 0 j.length 1).isEmpty
noncomputable def inD (x:D) (ds:List D) (neg:Bool):Res D:=(cmpD x).bind λa=>(cmpDs ds).bind λas=>.ok (.bl (if neg=true then !(as.any λb=>PyData.eqv b a) else as.any λb=>PyData.eqv b a))
noncomputable def dInG (neg:Bool):D->D->Res D
 | x,.lst ds=>inD x ds neg
 | x,.tup ds=>inD x ds neg
 | .str i,.str j=>.ok (.bl (if neg=true then !inS i j else inS i j))
 | _,_=>.bad
def v0E (neg:Bool) (x:D) (ds:List D):dInG neg x (.lst ds)=inD x ds neg:=by cases x<;>rfl
def v0D (neg:Bool) (x:D) (ds:List D):dInG neg x (.tup ds)=inD x ds neg:=by cases x<;>rfl
noncomputable abbrev dIn:=dInG false
noncomputable abbrev dNotIn:=dInG true
noncomputable def eqR (h:Heap) (a:PyData) (u:Value):Bool:=@decide (∃d as,Reads h u d as/\PyData.eqv d a=true) (_root_.Classical.propDecidable _)
def v3e{a d:PyData}{as:List Addr} (r:Reads h u d as):eqR h a u=PyData.eqv d a:=by
 unfold eqR;rw[Bool.eq_iff_iff,@decide_eq_true_iff _ (_root_.Classical.propDecidable _)];constructor
 ·rintro ⟨d',as',r',q⟩
  rw[(r.unique d' as' r').1];exact q
 ·exact λq=>⟨d,as,r,q⟩
def u8L{d:D}{bs:List PyData} (h:cmpDs (d::ds)=.ok bs):∃b r,d.py=some b/\SeqAt.shaped b=true/\cmpDs ds=.ok r/\bs=b::r:=by
 unfold cmpDs at h;cases e:cmpD d with
 | err x=>rw[e] at h;cases h
 | bad=>rw[e] at h;cases h
 | ok b =>
  rw[e] at h;obtain⟨b',q1,q2,q3⟩:=u3j (P:=λz=>z=b) (E:=λ_=>False) (by rw[e];exact rfl)
  subst q3;cases e2:cmpDs ds with
  | err x=>rw[e2] at h;cases h
  | bad=>rw[e2] at h;cases h
  | ok r=>rw[e2] at h;cases h;exact⟨_,r,q1,q2,rfl,rfl⟩
theorem u6A{F:Hp}{a:PyData}{v:Value}{vs:List Addr} (I:Inv X pins σ H s) (fh:Same F H) (rv:Reads s.heap v a vs) (sa:SeqAt.shaped a=true) (hu:A.units+64<cLine):∀{xs:List V}{ds:List D}{its:List Value}{bs:List PyData},Rps X.K F xs ds->Vals xs its->cmpDs ds=.ok bs ->
  (∀u∈its,SeqAt.EqAt A s u v (eqR s.heap a u))/\its.any (eqR s.heap a)=bs.any λb=>PyData.eqv b a
 | _,_,_,_,.nil,.nil,e=>by cases e;exact⟨(λu hu=>by cases hu),rfl⟩
 | _,_,_,_,.cons h hs,.cons r rs,e=>by
  obtain⟨b,r',q1,q2,q3,rfl⟩:=u8L e;obtain⟨i1,i2⟩:=u6A I fh rv sa hu hs rs q3;obtain⟨as,ru⟩:=((h.rd q1).same fh).reads I r;refine⟨λu hu'=>?_,by rw[List.any_cons,List.any_cons,i2,v3e ru]⟩
  rcases z7.mp hu' with rfl|hu'
  ·rw [v3e ru]
   refine SeqAt.eqAt_reads _ _ _ _ _ _ _ _ ru rv (SeqAt.canLay_of_shaped q2) (SeqAt.canLay_of_shaped sa) ?_
   have:=SeqAt.depth_of_shaped q2
   have h2:min b.depth a.depth<=b.depth:=Nat.min_le_left _ _;omega
  ·exact i1 u hu'
def u7Y{x:D}{neg:Bool}{P:D->Prop} (h:(inD x ds neg).all P E):∃a bs,x.py=some a/\SeqAt.shaped a=true/\cmpDs ds=.ok bs/\P (.bl (if neg=true then !(bs.any λb=>PyData.eqv b a) else bs.any λb=>PyData.eqv b a))\/∃y,cmpDs ds=.err y:=by
 unfold inD at h;obtain⟨a,q1,q2,q⟩:=u3j (Res.all_bind.mp h);cases e:cmpDs ds with
 | ok bs=>rw[e] at q;exact⟨a,bs,.inl ⟨q1,q2,rfl,q⟩⟩
 | err y=>exact⟨a,[],.inr ⟨y,rfl⟩⟩
 | bad=>rw[e] at q;exact q.elim
theorem u1o:∀(ds:List D) (y:D),cmpDs ds≠.err y
 | [],_,h=>by cases h
 | d::ds,y,h=>by
  unfold cmpDs at h;cases e:cmpD d with
  | err x =>
   unfold cmpD at e;split at e
   ·unfold gd at e;split at e<;>cases e
   ·cases e
  | bad=>rw[e] at h;cases h
  | ok b =>
   rw[e] at h;cases e2:cmpDs ds with
   | err x=>exact u1o ds x e2
   | bad=>rw[e2] at h;cases h
   | ok r=>rw[e2] at h;cases h
def o_in (hu:X.A.units+100<cLine):OpR X (compareOp .In) (rD X.K dIn):=by
 intro pins s σ H x y v u Q I rx ry z9100;obtain⟨F,dx,dy,fh,px,py,q⟩:=z9100;have hu':X.A.in1.units+64<cLine:=by show X.A.units+1+64<cLine;omega
 cases py with
 | lst hq hs =>
  unfold dIn at q;rw[v0E] at q;obtain⟨a,bs,⟨q1,q2,q3,q4⟩|⟨y,q3⟩⟩:=u7Y q
  ·obtain ⟨its,r,pl,hz⟩:=I.list (.inl (hq.same fh))
   obtain⟨as,rv⟩:=((px.rd q1).same fh).reads I rx;obtain⟨h1,h2⟩:=u6A I fh rv q2 hu' hs r q3;cases ry;refine SeqAt.in_listAt (eqR s.heap a) pl.isList (λw hw=>h1 w (by simpa using hw)) ⟨.bl _,H,I,rfl,?_⟩
   rw[show its.toArray.any (eqR s.heap a)=its.any (eqR s.heap a) by simp,h2]
   exact q4 _ F H (Stp.refl fh) (.bl _)
  ·exact absurd q3 (u1o _ _)
 | tup hq hs =>
  unfold dIn at q;rw[v0D] at q;obtain⟨a,bs,⟨q1,q2,q3,q4⟩|⟨y,q3⟩⟩:=u7Y q
  ·obtain ⟨its,r,pl,hz⟩:=I.tuple (fh.seqT hq)
   obtain⟨as,rv⟩:=((px.rd q1).same fh).reads I rx;obtain⟨h1,h2⟩:=u6A I fh rv q2 hu' hs r q3;cases ry;refine SeqAt.in_tupleAt (eqR s.heap a) pl (λw hw=>h1 w (by simpa using hw)) ⟨.bl _,H,I,rfl,?_⟩
   rw[show its.toArray.any (eqR s.heap a)=its.any (eqR s.heap a) by simp,h2]
   exact q4 _ F H (Stp.refl fh) (.bl _)
  ·exact absurd q3 (u1o _ _)
 | str hz =>
  cases px with
  | str hz'=>exact u9S pins s σ H _ _ v u Q I rx ry ⟨_,_,rfl,rfl,q _ F H (Stp.refl fh) (.bl _)⟩
  | _=>exact q.elim
 | _=>exact q.elim
def u9V (hu:X.A.units+100<cLine):OpR X (compareOp .NotIn) (rD X.K dNotIn):=by
 intro pins s σ H x y v u Q I rx ry z9101;obtain⟨F,dx,dy,fh,px,py,q⟩:=z9101;have hu':X.A.in1.units+64<cLine:=by show X.A.units+1+64<cLine;omega
 cases py with
 | lst hq hs =>
  unfold dNotIn at q;rw[v0E] at q;obtain⟨a,bs,⟨q1,q2,q3,q4⟩|⟨y,q3⟩⟩:=u7Y q
  ·obtain ⟨its,r,pl,hz⟩:=I.list (.inl (hq.same fh))
   obtain⟨as,rv⟩:=((px.rd q1).same fh).reads I rx;obtain⟨h1,h2⟩:=u6A I fh rv q2 hu' hs r q3;cases ry;refine SeqAt.notIn_listAt (eqR s.heap a) pl.isList (λw hw=>h1 w (by simpa using hw)) ⟨.bl _,H,I,rfl,?_⟩
   rw[show its.toArray.any (eqR s.heap a)=its.any (eqR s.heap a) by simp,h2]
   exact q4 _ F H (Stp.refl fh) (.bl _)
  ·exact absurd q3 (u1o _ _)
 | tup hq hs =>
  unfold dNotIn at q;rw[v0D] at q;obtain⟨a,bs,⟨q1,q2,q3,q4⟩|⟨y,q3⟩⟩:=u7Y q
  ·obtain ⟨its,r,pl,hz⟩:=I.tuple (fh.seqT hq)
   obtain⟨as,rv⟩:=((px.rd q1).same fh).reads I rx;obtain⟨h1,h2⟩:=u6A I fh rv q2 hu' hs r q3;cases ry;refine SeqAt.notIn_tupleAt (eqR s.heap a) pl (λw hw=>h1 w (by simpa using hw)) ⟨.bl _,H,I,rfl,?_⟩
   rw[show its.toArray.any (eqR s.heap a)=its.any (eqR s.heap a) by simp,h2]
   exact q4 _ F H (Stp.refl fh) (.bl _)
  ·exact absurd q3 (u1o _ _)
 | str hz =>
  cases px with
  | str hz'=>exact u5U pins s σ H _ _ v u Q I rx ry ⟨_,_,rfl,rfl,q _ F H (Stp.refl fh) (.bl _)⟩
  | _=>exact q.elim
 | _=>exact q.elim
noncomputable def liftO (K:W.Frag) (xq:XQ) (f:Rho->Res (Option Int)):TO:=λσ H Q=>∃B F ρ,Rel K B ρ σ F H /\
 (f ρ).all (λo=>∀F' H',Stp F H F' H'->Q o H') (ErrK K xq B ρ σ)
structure DO (X:Cx) (xq:XQ) (e:Option Expr) (f:Rho->Res (Option Int)):Prop where
 out:PO X e (liftO X.K xq f)
noncomputable def asI:D->Res (Option Int)
 | .int i=>.ok (some i)
 | _=>.bad
noncomputable def dSl (d:D) (lo hi:Option Int):Res D:=match d with
 | .lst ds=>.ok (.lst (cutC ds lo hi))
 | .tup ds=>if HT.sIx ds.length 0 lo=0/\HT.sIx ds.length ds.length hi=ds.length then .bad else .ok (.tup (cutC ds lo hi))
 | .str z=>.ok (.str (Txt.slice z lo hi))
 | _=>.bad
section
variable {lo hi:Option Expr}{fl fh:Rho->Res (Option Int)}{p2:Pos}
def u0x:DO X xq none (λ_=>.ok none):=⟨λpins s σ H Q I z9=>un5 z9 λB F ρ R q=>po_none pins s σ H Q I (q F H (Stp.refl R.fh))⟩
def u0s (h:DE X xq e fe):DO X xq (some e) (λρ=>(fe ρ).bind asI):=⟨λpins s σ H Q I z9=>un5 z9 λB F ρ R q=>po_some h.out pins s σ H Q I (seqE R q λd v F1 H1 s1 R1 p1 q1=>by
 cases p1 with
 | int i=>exact⟨i,rfl,q1 F1 H1 s1⟩
 | _=>exact q1.elim)⟩
def rSlD (K:W.Frag):V->Option Int->Option Int->Hp->VK->Prop:=λx lo hi H Q=>∃F d,Same F H/\Rp K F x d/\(dSl d lo hi).all (λd'=>∀v F' H',Stp F H F' H'->Rp K F' v d'->Q v H') (λ_=>False)
def Rps.cut{F:Hp} (r:Rps K F xs ds) (lo hi:Option Int):Rps K F (cutV xs lo hi) (cutC ds lo hi):=by
 unfold cutV cutC;rw[r.length];exact(r.drop _).take _
set_option tactic.hygienic true in
def sl_D:SlR X (rSlD X.K):=by
 intro pins s σ H x v vl vu lo hi sl Q I rx hs pl pu z9102;obtain⟨F,d,fh,px,q⟩:=z9102;cases px with
 | lst hq rs=>exact sl_list pins s σ H _ v vl vu lo hi sl Q I rx hs pl pu ⟨_,_,rfl,.inl (hq.same fh),λp n=>q _ _ _ (Stp.new fh n) (.lst (.inl u0c) ((rs.cut lo hi).same (Stp.new fh n).ff))⟩
 | tup hq rs =>
  unfold dSl at q;dsimp only at q;split at q
  ·exact q.elim
  ·rename_i nw
   exact sl_tup pins s σ H _ v vl vu lo hi sl Q I rx hs pl pu ⟨_,_,rfl,fh.seqT hq,by rw[rs.length];exact nw,λp n=>q _ _ _ (Stp.new fh n) (.tup (.inl (.inl u0c)) ((rs.cut lo hi).same (Stp.new fh n).ff))⟩
 | str hz=>exact sl_str pins s σ H _ v vl vu lo hi sl Q I rx hs pl pu ⟨_,rfl,hz,q _ F H (Stp.refl fh) (.str (y9 (Txt.slice_le _ _ _) hz))⟩
 | _=>exact q.elim
def d_sl (he:DE X xq e fe) (hl:DO X xq lo fl) (hu:DO X xq hi fh):DE X xq (.Subscript e (.Slice lo hi none p2) pos) (λρ=>(fe ρ).bind λd=>(fl ρ).bind λl=>(fh ρ).bind λu=>dSl d l u) :=
 DE.of (v1H sl_D he.out hl.out hu.out) λB F ρ σ H Q R q=>seqE R q λd v F1 H1 s1 R1 p1 q1 =>
  ⟨B,F1,ρ,R1,Res.all_mono (Res.all_bind.mp q1) (λl q2 F2 H2 s2=>⟨B,F2,ρ,R1.step s2,Res.all_mono (Res.all_bind.mp q2) (λu q3 F3 H3 s3=>by
   refine⟨F3,d,((R1.step s2).step s3).fh,(p1.same s2.ff).same s3.ff,?_⟩;cases hd:dSl d l u with
   | ok d'=>rw[hd] at q3;exact λv' F' H' st pv=>q3 v' F' H' (((s1.trans s2).trans s3).trans st) pv
   | err x=>unfold dSl at hd;split at hd<;>first|cases hd|(split at hd<;>cases hd)
   | bad=>rw[hd] at q3;exact q3) λ_ z=>z⟩) λ_ z=>z⟩
def u8f{g:D->Rho->Res Rho}{py:Pos} (own:List Str) (outs:List Nat) (hc:X.calm=true) (ok:CompOk X.env.scope X.N own outs scope) (hN:X.N.Nodup) (hi:DI X xq tg iter fi) (hg:∀{cl C s H fp},DG (cxC X own outs scope cl C s H fp) tg ix g) (hf:∀{cl C s H fp},DF (cxC X own outs scope cl C s H fp) xqF ifs fA) (he:∀{cl C s H fp},DE (cxC X own outs scope cl C s H fp) xqF elt fe)
  (nd:outs.Nodup:=by decide) (hix:∀j∈ix,j<own.length:=by decide) (hy:X.N.findIdx? (λy=>y==x)=some i:=by rfl) (hx:X.env.scope.names.lookup x=some .local:=by rfl)
  (hsw:swapsWith (.ListComp elt [⟨tg,iter,ifs,0⟩] scope pos) (some (.Name x py)) spos.line X.env=pure true:=by rfl) (hs:∀x,foldedSetIterable iter X.env x=pure x:=by intro _;rfl) :
  DS X xq (.Assign [.Name x py] (.ListComp elt [⟨tg,iter,ifs,0⟩] scope pos) spos) (λρ=>((fi ρ).bind λds=>gd (ds.length<=sizeLine) ((compD g fA fe (rhoC own.length outs ρ) ds).bind λys=>.ok (OD.l ys))).go ρ λo=>.nx (ρ.set i (some (.val o.toD)))) :=
 DS.of (u8w own outs hc ok hN (u6J hy) hx hi.out (g:=liftG X.K ix g) (ti:=liftT X.K xqF fA) (te:=liftE X.K xqF fe) (λ{cl C s H fp}=>hg.out) (λ{cl C s H fp}=>hf.out) (λ{cl C s H fp}=>he.out) hsw hs) λB F ρ σ H T R q =>
  u6p nd hix ⟨B,F,ρ,R,Res.all_mono (u0C q.out) (λo q a hh F' H' s1 n1 n2 e1 r1=>by
   have s2:Stp F H (upd F' a hh) H':=⟨s1.ff.trans (u0g n1),λb u x=>by
    unfold upd at x;by_cases z:b=a
    ·rw[if_pos z] at x;cases x;subst z;exact e1
    ·rw[if_neg z] at x;exact s1.fh b u x,s1.hh,λb x y=>by
    unfold upd;by_cases z:b=a
    ·subst z;exact absurd n2 y
    ·rw[if_neg z];exact s1.no b x y,u5z r1.nz s1.nz⟩
   exact q _ _ _ ((R.step s2).set ((Ro.same (u0g n1) r1).rp u0c))) λx q=>errOf q⟩
def rExtR:V->List V->Hp->VK->Prop:=λx vs H Q=>∃l b xs zs,x=.ref l/\vs=[.ref b]/\H l=some (.lst xs)/\Rd H b (.lst zs)/\xs.length+zs.length<=sizeLine/\Q .non (upd H l (.lst (xs++zs)))
def mt_extR:MtM X "list.extend" rExtR:=by
 intro pins s σ H x vs v us Q I rx rv h;obtain⟨l,b,xs,zs,rfl,rfl,hH,hB,hz,q⟩:=h;cases rx;obtain⟨u,rfl,ru⟩:=rv.one;cases ru;obtain⟨z,its,n,r,hl,e⟩:=I.lstM hH;obtain⟨z2,its2,n2,r2,hl2,e2⟩:=I.lstR hB;have hsz:its.toArray.size+its2.toArray.size<=sizeLine:=by rw[y7,y7];omega
 have hlong:¬ (!its.toArray.isEmpty&&Builtin.List.listTooLong (its.toArray.size+its2.toArray.size))=true:=by
  rw[notLongL hsz,Bool.and_false];exact z0I
 refine call_meets F.slot_list_extend ⟨_,e,rfl⟩ F.entry_list_extend (F.args_list_extend_2 _ _)
  (AutoSeq1.list_extend_list_list_0 l its.toArray n b its2.toArray n2 hlong (by rw[y7];omega) (by omega)) ⟨e,e2,?_⟩
 refine⟨.non,_,I.lset (its':=its++its2) hH e (by simp) (r.append r2) ?_,rfl,q⟩
 rw[u4];omega
def v3h(i:Nat) (he:DE X xq e fe) (hN:X.N[i]?=some x:=by rfl) (hv:Vis X.env.scope x:=by first|exact Or.inl rfl|exact Or.inr (Or.inl rfl)|exact Or.inr (Or.inr rfl)) (hd:(x==("__debug__":Str))=false:=by decide) (hcd:(x==("__classdict__":Str))=false:=by decide)
  (hs:notStar e=true:=by rfl) (hbase:attributeBase (.Name x p) "extend" X.env (eval (.Name x p) X.env)=eval (.Name x p) X.env:=by rfl) (hline:(apos.endLine==cpos.line)=true:=by rfl)
  (hsw:swapsWith (.Call (.Attribute (.Name x p) "extend" apos) [e] [] cpos) none pos.line X.env=pure false:=by rfl) :
  DS X xq (.Expr (.Call (.Attribute (.Name x p) "extend" apos) [e] [] cpos) pos) (λρ=>(getL ρ i).go ρ λds=>(fe ρ).go ρ λd=>match d with | .lst es=>if ds.length+es.length<=sizeLine then .nx (ρ.set i (some (.own (.l (ds++es))))) else .bad|_=>.bad) :=
 DS.of (u1G (pbm PySem.F.plainAttrs_list PySem.F.slot_list_extend PySem.F.type_list_extend mt_extR (u0v hN hv hd hcd) (pac he.out u0t hs) (by rw[z1B,hs];rfl) rfl hbase hline) hsw) λB F ρ σ H T R q=>by
  obtain⟨ds,e1,q1⟩:=u5n (u0C q.out);obtain⟨l,h,h1,h2,h3,h4,h5⟩:=R.own i _ e1;cases h5 with
  | l hs =>
   refine⟨.ref l,h1,.inl ⟨rfl,_,.inl (.inl h4)⟩,B,F,ρ,R,Res.all_mono (u0C q1) (λd q2 v F' H' st pv=>?_) λ_ z=>errOf z⟩
   cases pv with
   | @lst b zs es hq rs =>
    have q2:(if ds.length+es.length<=sizeLine then Out.nx (ρ.set i (some (.own (.l (ds++es))))) else .bad).all _ _ _ _ _:=q2
    by_cases hz:ds.length+es.length<=sizeLine
    ·rw [if_pos hz] at q2
     have R':=R.step st;exact⟨l,b,_,zs,rfl,rfl,st.hh _ _ h4,hq.same st.fh,by rw[hs.length,rs.length];exact hz,q2 σ F' _ (R'.write (e:=e1) h1 (.l ((hs.same st.ff).append rs)))⟩
    ·rw[if_neg hz] at q2;exact q2.elim
   | _=>exact q2.elim
end
@[simp] theorem u4J(a:α):noE (Res.ok a)=.ok a:=rfl
@[simp] theorem noE_bad:noE (Res.bad:Res α)=.bad:=rfl
@[simp] theorem asB_bl (b:Bool):asB (.bl b)=.ok b:=rfl
@[simp] theorem dI0_ii (g:Int->Int->D) (i j:Int):dI0 g (.int i) (.int j)=.ok (g i j):=rfl
@[simp] theorem u2x (C:Int->Int->Prop) [∀i j,Decidable (C i j)] (g:Int->Int->D) (i j:Int):dI C g (.int i) (.int j)=gd (C i j) (.ok (g i j)):=rfl
@[simp] theorem outR_nx (ρ:Rho):outR (.nx ρ)=.ok .non:=rfl
@[simp] theorem outR_rt (d:D):outR (.rt d)=.ok d:=rfl
@[simp] theorem outR_er (x:D) (ρ:Rho):outR (.er x ρ)=.err x:=rfl
@[simp] theorem frz_nil:frz []=[]:=rfl
@[simp] theorem frz_val (d:D) (ρ:Rho):frz (some (.val d)::ρ)=some (.val d)::frz ρ:=rfl
@[simp] theorem frz_own (o:OD) (ρ:Rho):frz (some (.own o)::ρ)=some (.val o.toD)::frz ρ:=rfl
@[simp] theorem frz_none (ρ:Rho):frz (none::ρ)=none::frz ρ:=rfl
@[simp] theorem frz_rep (n:Nat):frz (List.replicate n none)=List.replicate n none:=by unfold frz;simp
@[simp] theorem getV_zero (d:D) (ρ:Rho):getV (some (.val d)::ρ) 0=.ok d:=rfl
@[simp] theorem getV_succ (x:Option Sl) (ρ:Rho) (i:Nat):getV (x::ρ) (i+1)=getV ρ i:=rfl
@[simp] theorem getL_zero (ds:List D) (ρ:Rho):getL (some (.own (.l ds))::ρ) 0=.ok ds:=rfl
@[simp] theorem getL_succ (x:Option Sl) (ρ:Rho) (i:Nat):getL (x::ρ) (i+1)=getL ρ i:=rfl
@[simp] theorem u9f (ds:List D):(OD.l ds).toD=.lst ds:=rfl
@[simp] theorem szD_pos{k:Res α} (h:ds.length<=sizeLine):szD ds k=k:=if_pos h
@[simp] theorem unset_nx (i:Nat) (ρ:Rho):unset i (.nx ρ)=.nx (ρ.set i none):=rfl
@[simp] theorem catch_nx (hd:D->Rho->Out) (ρ:Rho):catchD hd (.nx ρ)=.nx ρ:=rfl
@[simp] theorem catch_rt (hd:D->Rho->Out) (d:D):catchD hd (.rt d)=.rt d:=rfl
@[simp] theorem catch_er (hd:D->Rho->Out) (x:D) (ρ:Rho):catchD hd (.er x ρ)=hd x ρ:=rfl
@[simp] theorem chain_eq (g g':D->D->Res D) (x y:D) (z:Res D):fChain g g' x y z=(noE (g x y)).bind λw=>(asB w).bind λc=>if c=true then z.bind λz=>noE (g' y z) else .ok (.bl false):=rfl
theorem u4j{g:D->Rho->Res Rho} (h:D->D):∀{ds:List D},(∀d∈ds,∃ρ1,g d ρ=.ok ρ1/\fT (frz ρ1)=.ok true/\fe ρ1=.ok (h d))->compD g fT fe ρ ds=.ok (ds.map h)
 | [],_=>rfl
 | d::ds,k=>by
  obtain⟨ρ1,k1,k2,k3⟩:=k d z6;simp[compD,k1,k2,k3,u4j h λx hx=>k x (z5 _ hx)]
section
variable {F:Hp}
def dd_new:DN X xq (.Dict [] [] pos) (λ_=>.ok (.d [])):=⟨λpins s σ H Q I z9=>un5 z9 λB F ρ R q=>v1L pins s σ H Q I λd n=>q d _ F _ (Stp.only R.fh (u0g n)) (R.fh.free n) n u0c (.d .nil)⟩
end
noncomputable def fldD (C0:Addr) (f:Str):D->Res D
 | .ins C gs=>if C=C0 then (match gs.lookup f with|some d=>.ok d|none=>.bad) else .bad
 | _=>.bad
noncomputable def getI (ρ:Rho) (j:Nat):Res (Addr×Addr×List (Str×D)):=match ρ[j]? with
 | some (some (.own (.i a C gs)))=>.ok (a,C,gs)
 | _=>.bad
set_option tactic.hygienic true in
def v0q{P:Addr×Addr×List (Str×D)->Prop} (h:(getI ρ i).all P E):∃a C gs,ρ[i]?=some (some (.own (.i a C gs)))/\P (a,C,gs):=by
 unfold getI at h;split at h
 ·rename_i a C gs e;exact⟨a,C,gs,e,h⟩
 ·exact h.elim
section
variable {o:Expr}{f m:Str}
def u7q(c:Cls K C0) (n:NoAttr K C0 f) (ho:DE X xq o fo) (eK:X.K=K:=by rfl) (hb:attributeBase o f X.env (eval o X.env)=eval o X.env:=by rfl):DE X xq (.Attribute o f pos) (λρ=>(fo ρ).bind (fldD C0 f)):=by
 subst eK;refine DE.of (u5T ho.out hb) λB F ρ σ H Q R q=>seqE R q λd v F1 H1 s1 R1 p1 q1=>?_
 cases p1 with
 | @ins a C dx gs0 gs h1 h2 =>
  unfold fldD at q1;dsimp only at q1;by_cases hc:C=C0
  ·rw [if_pos hc] at q1
   subst hc;cases hl:gs.lookup f with
   | none=>rw[hl] at q1;exact q1.elim
   | some d =>
    rw[hl] at q1;obtain⟨v,hv,pv⟩:=h2.lookup hl;exact⟨a,C,dx,gs0,v,rfl,R1.fh _ _ h1,c,n,hv,q1 v F1 H1 s1 pv⟩
  ·rw[if_neg hc] at q1;exact q1.elim
 | _=>exact q1.elim
def d_fldO(j:Nat) (c:Cls K C0) (n:NoAttr K C0 f) (eK:X.K=K:=by rfl) (hN:X.N[j]?=some x:=by rfl) (hvs:Vis X.env.scope x:=by first|exact Or.inl rfl|exact Or.inr (Or.inl rfl)|exact Or.inr (Or.inr rfl)) (hd:(x==("__debug__":Str))=false:=by decide) (hcd:(x==("__classdict__":Str))=false:=by decide)
  (hb:attributeBase (.Name x p) f X.env (eval (.Name x p) X.env)=eval (.Name x p) X.env:=by rfl):DE X xq (.Attribute (.Name x p) f pos) (λρ=>(getI ρ j).bind λt=>if t.2.1=C0 then (match t.2.2.lookup f with|some d=>.ok d|none=>.bad) else .bad):=by
 subst eK;refine DE.of (u5T (u0v hN hvs hd hcd) hb) λB F ρ σ H Q R q=>?_
 obtain⟨a,C,gs,e1,q1⟩:=v0q (Res.all_bind.mp q);obtain⟨a',h,h1,h2,h3,h4,h5⟩:=R.own j _ e1;cases h5 with
 | @i _ dx fs0 _ hr =>
  dsimp only at q1;by_cases hc:C=C0
  ·rw [if_pos hc] at q1
   subst hc;cases hl:gs.lookup f with
   | none=>rw[hl] at q1;exact q1.elim
   | some d =>
    rw[hl] at q1;obtain⟨v,hv,pv⟩:=hr.lookup hl;exact⟨.ref a,h1,a,C,dx,fs0,v,rfl,h4,c,n,hv,q1 v F H (Stp.refl R.fh) pv⟩
  ·rw[if_neg hc] at q1;exact q1.elim
theorem Rpf.length{F:Hp}:∀{fs:List (Str×V)}{gs:List (Str×D)},Rpf K F fs gs->fs.length=gs.length
 | _,_,.nil=>rfl
 | _,_,.cons _ hs=>congrArg (·+1) hs.length
noncomputable def putG (f:Str) (d:D):List (Str×D)->List (Str×D)
 | []=>[(f,d)]
 | (g,x)::r=>if g=f then (g,d)::r else (g,x)::putG f d r
theorem Rpf.put{F:Hp}{f:Str}{d:D} (pd:Rp K F v d):∀{fs:List (Str×V)}{gs:List (Str×D)},Rpf K F fs gs->Rpf K F (putF f v fs) (putG f d gs)
 | _,_,.nil=>.cons pd .nil
 | _,_,.cons (k:=k) h hs=>by
  unfold putF putG;by_cases e:k=f
  ·rw[if_pos e,if_pos e];exact .cons pd hs
  ·rw[if_neg e,if_neg e];exact .cons h (hs.put pd)
def u4e(j:Nat) (c:Cls K C0) (n:NoAttr K C0 f) (hv:DE X xq value fv) (eK:X.K=K:=by rfl) (hN:X.N[j]?=some x:=by rfl) (hvs:Vis X.env.scope x:=by first|exact Or.inl rfl|exact Or.inr (Or.inl rfl)|exact Or.inr (Or.inr rfl)) (hd:(x==("__debug__":Str))=false:=by decide) (hcd:(x==("__classdict__":Str))=false:=by decide)
  (hs:swapsWith value (some (.Attribute (.Name x p) f pos')) pos.line X.env=pure false:=by rfl) :
  DS X xq (.Assign [.Attribute (.Name x p) f pos'] value pos) (λρ=>(fv ρ).go ρ λd=>(getI ρ j).go ρ λt=>if t.2.1=C0/\t.2.2.length<1000 then .nx (ρ.set j (some (.own (.i t.1 t.2.1 (putG f d t.2.2))))) else .bad):=by
 subst eK;refine DS.of (u7K (u0v hN hvs hd hcd) hv.out hs) λB F ρ σ H T R q=>⟨B,F,ρ,R,Res.all_mono (u0C q.out) (λd q1 v F1 H1 st pv=>?_) λ_ z=>errOf z⟩
 obtain⟨a,C,gs,e1,q2⟩:=v0q (u0C q1);have R1:=R.step st;obtain⟨a',h,h1,h2,h3,h4,h5⟩:=R1.own j _ e1;cases h5 with
 | @i _ dx fs0 _ hr =>
  dsimp only at q2;by_cases hc:C=C0/\gs.length<1000
  ·rw [if_pos hc] at q2
   obtain⟨rfl,hl⟩:=hc;exact⟨.ref a,h1,a,C,dx,fs0,rfl,h4,c,n,by rw[hr.length];exact hl,q2 σ F1 _ (R1.write (e:=e1) h1 (.i (hr.put pv)))⟩
  ·rw[if_neg hc] at q2;exact q2.elim
theorem u3V{F:Hp}{m:Str}:∀{fs:List (Str×V)}{gs:List (Str×D)},Rpf K F fs gs->gs.lookup m=none->fs.lookup m=none
 | _,_,.nil,_=>rfl
 | _,_,.cons (k:=k) h hs,e=>by
  rw[u6] at e |-
  cases q:m==k with
  | true=>rw[q] at e;cases e
  | false=>rw[q] at e;exact u3V hs e
end
noncomputable def wo (H:Hp) (a:Addr):Hp:=λb=>if b=a then none else H b
def wo_at (H:Hp) (a:Addr):wo H a a=none:=if_pos rfl
def wo_ne{b:Addr} (h:b≠a):wo H a b=H b:=if_neg h
def u8W (H:Hp) (a:Addr):Same (wo H a) H:=λb o e=>by
 by_cases z:b=a
 ·subst z;rw[wo_at] at e;cases e
 ·rw[wo_ne z] at e;exact e
noncomputable def startI (n:Nat) (a C:Addr) (ds:List D):Rho:=some (.own (.i a C []))::startD (n - 1) ds
noncomputable def outI (a C:Addr):Out->Res (List (Str×D))
 | .nx ρ=>match ρ[(0:Nat)]? with
  | some (some (.own (.i a' C' gs)))=>if a'=a/\C'=C then .ok gs else .bad
  | _=>.bad
 | .er x _=>.err x
 | _=>.bad
def u2P:(startD n ds)[i]?≠some (some (.own o)):=λe=>by
 unfold startD at e;rw[z2C] at e;split at e
 ·rw [v7] at e
  cases q:ds[i]? with
  | none=>rw[q] at e;cases e
  | some d'=>rw[q] at e;cases e
 ·rw [z0F] at e
  split at e<;>simp at e
def v0V{F:Hp}{dx:Addr}{rest:List V} (fh:Same F H) (fa:F a=none) (ha:H a=some (.ins C dx [])) (r:Rps K F rest ds) :
  Rel K (F,wo H a) (startI N.length a C ds) (start N (.ref a::rest)) F H:=by
 have e:start N (.ref a::rest)=some (.ref a)::start N.tail rest:=by
  unfold start;rw[z0C,List.cons_append,z0D,List.length_tail,Nat.sub_sub,Nat.add_comm 1]
 have R0:Rel K (F,H) (startD (N.length - 1) ds) (start N.tail rest) F H:=by
  have:=r.begin (N:=N.tail) fh
  rwa [List.length_tail] at this
 rw[e];unfold startI;refine⟨⟨Same.refl F,fh,u8W H a,λ_ n _=>n,λ_ _ _ q=>q⟩,by simp[R0.len],λi d q=>?_,λi o q=>?_,λi j o u b q1 q2 x y=>?_⟩
 ·cases i with
  | zero=>cases q
  | succ i=>exact R0.val i d q
 ·cases i with
  | zero=>cases q;exact⟨a,_,rfl,fa,wo_at H a,ha,.i .nil⟩
  | succ i=>exact absurd q u2P
 ·cases i with
  | zero =>
   cases j with
   | zero=>rfl
   | succ j=>exact absurd q2 u2P
  | succ i=>exact absurd q1 u2P
section
variable {F:Hp}
def v3a{d:D} (I:Inv X pins σ H s) (rx:RelV v u) (fh:Same F H) (pv:Rp X.K F v d) (ht:tyN d=some t):∃Hh:Heap->Prop,W.KitX X.K u (.type t) Hh/\Hh s.heap/\u≠.builtin "__main__.__loader__#opaque":=by
 cases pv with
 | non=>cases ht;cases (show u=Value.none from rx);exact⟨_,W.kitx_none,True.intro,λz=>nomatch z⟩
 | bl y=>cases ht;cases (show u=Value.bool y from rx);exact⟨_,W.kitx_bool,True.intro,λz=>nomatch z⟩
 | int i=>cases ht;obtain⟨t,q⟩:=(show ∃t,u=Value.int i t from rx);cases q;exact⟨_,W.kitx_int,True.intro,λz=>nomatch z⟩
 | @str z hz=>cases ht;obtain⟨t,q⟩:=(show ∃t,u=Value.str z t from rx);cases q;exact⟨_,W.kitx_str,True.intro,λz=>nomatch z⟩
 | ty T=>cases ht
 | @lst a xs ds hq hs =>
  cases ht;cases (show u=Value.ref a from rx)
  obtain⟨z,its,n,r,hl,e⟩:=I.lstR (hq.same fh);exact⟨_,W.kitx_list,⟨_,e,rfl⟩,λz=>nomatch z⟩
 | @tup a xs ds hq hs =>
  cases ht;cases (show u=Value.ref a from rx)
  obtain⟨its,r,p,hz⟩:=I.tuple (fh.seqT hq);obtain⟨ob,h1,h2,_⟩:=p;exact⟨_,W.kitx_tuple,⟨ob,h1,h2⟩,λz=>nomatch z⟩
 | @dK a kvs ps hq hs =>
  cases ht;cases (show u=Value.ref a from rx)
  obtain⟨_,_,vs,_,p⟩:=(show ObjOk X.prog X.w H s.heap a (.dK kvs) from I.hok a _ (fh _ _ hq))
  obtain⟨ob,es,ep,h1,h2,_⟩:=p;exact⟨_,W.kitx_dict,⟨ob,h1,h2.1⟩,λz=>nomatch z⟩
 | ins hq hs=>cases ht
 | exc hq hr hs=>cases ht
 | dn hq hs=>cases ht
 | hdl a=>cases ht
 | obj h=>cases ht
noncomputable def isTs (t:String):List String->Option Bool
 | []=>some false
 | T::r=>match isT t T with
  | some true=>some true
  | some false=>isTs t r
  | none=>none
theorem u7V(K:W.Frag) {d:D} (ht:tyN d=some t):∀{Ts:List String}{b:Bool},isTs t Ts=some b->W.kitAny K (.type t) (Ts.map Value.type)=some b
 | [],_,e=>by cases e;rfl
 | T::r,b,e=>by
  simp only[isTs] at e;cases q:isT t T with
  | none=>rw[q] at e;cases e
  | some c =>
   rw[q] at e;simp only[z0C,W.kitAny,v0j K ht q];cases c with
   | true=>exact e
   | false=>exact u7V K ht e
noncomputable def tysOf:List D->Option (List String)
 | []=>some []
 | .ty T::r=>(tysOf r).map (T::·)
 | _=>none
theorem u4A:∀{ts:List D}{Ts:List String}{xs:List V}{us:List Value},tysOf ts=some Ts->Rps K F xs ts->Vals xs us->us=Ts.map Value.type
 | [],_,_,_,e,p,r=>by cases e;cases p;cases r;rfl
 | d::ts,Ts,_,_,e,p,r=>by
  cases d<;>simp only[tysOf,reduceCtorEq] at e
  cases q:tysOf ts with
  | none=>rw[q] at e;cases e
  | some Ts' =>
   rw[q] at e;cases e;cases p with
   | cons p1 p2 =>
    cases p1;cases r with
    | cons r1 r2=>cases r1;rw[u4A q p2 r2];rfl
noncomputable def isAny (d:D) (ts:List D):Res D:=match tyN d with
 | some t=>match tysOf ts with
  | some Ts=>match isTs t Ts with
   | some b=>.ok (.bl b)
   | none=>.bad
  | none=>.bad
 | none=>.bad
noncomputable def gIsA:List D->Res D
 | [d,.tup ts]=>isAny d ts
 | ds=>gIs ds
set_option tactic.hygienic true in
def u8N:CallR X (.builtin "isinstance") (rDs X.K gIsA):=by
 intro pins s σ H xs us Q I r z9103;obtain⟨F,ds,fh,ps,q⟩:=z9103;unfold gIsA at q;split at q
 ·rename_i d ts
  obtain⟨v,w,rfl,pv,pw⟩:=rps2 ps;unfold isAny at q;cases ht:tyN d with
  | none=>rw[ht] at q;exact q.elim
  | some t =>
   rw[ht] at q;cases hT:tysOf ts with
   | none=>simp only[hT] at q;exact q.elim
   | some Ts =>
    simp only[hT] at q;cases hb:isTs t Ts with
    | none=>simp only[hb] at q;exact q.elim
    | some bb =>
     simp only[hb] at q;cases pw with
     | @tup a zs _ hq hs =>
      obtain⟨u,u',rfl,ru,ru'⟩:=vals2 r;cases ru';obtain⟨its,rv,p,hz⟩:=I.tuple (fh.seqT hq);obtain⟨⟨cls,dd,data,sl⟩,ho,hc,n,hd⟩:=p;dsimp only at hc hd;subst hc hd;obtain⟨Hh,Z,hh,ne⟩:=v3a I ru fh pv ht;have ei:=u4A hT hs rv;exact W.kia_tup Z I.kIn hh ho (by rw[ei];exact u7V X.K ht hb) ne λtk=>⟨.bl bb,H,I.tok _,rfl,q _ F H (Stp.refl fh) (.bl bb)⟩
 ·exact v2A pins s σ H xs us Q I r ⟨F,ds,fh,ps,q⟩
noncomputable def dNeg:D->Res D
 | .int i=>.ok (.int (-i))
 | _=>.bad
def u6E:UnR X (unaryOp .USub) (rD1 X.K dNeg):=by
 intro pins s σ H x v Q I rx z9104;obtain⟨F,d,fh,px,q⟩:=z9104;cases px with
 | int i=>exact un_neg pins s σ H _ v Q I rx ⟨i,rfl,q _ F H (Stp.refl fh) (.int _)⟩
 | _=>exact q.elim
end
end L2
namespace L2
open PySem PySem.Spec PyProof.Rows PySem.W PySem.Calls
variable {K:W.Frag}{X:Cx}{pins:LO}{σ:St}{H F' H':Hp}{s:Shared}{P prog:Program}{w:World}{h base h':Heap}{a f C' q l z C I it i1 i2 l1 l2 a1 a2:Addr}{x y qual nm m:Str}{xq:XQ}{e tg iter:Expr}{es:List Expr}{fe fb fi fv fo:Rho->Res D}{pos p p2 pos2 apos cpos pos':Pos}{mg:MG}{st b0:Stmt}{fd:FuncData}{N ps:List Str}{k i j k' c n k1 k2 t' n0:Nat}{t tb:Rho->Out}{bs sts body:List Stmt}{A:Around}{E Q:VP}{ys xs acc:Array Value}{ds:List D}{ta:TA}{fa fs:Rho->Res (List D)}{o o0:OD}{B:Hp×Hp}{ρ ρ' ρ1 ρ2:Rho}{vs:List V}{α:Type}{v:V}{d:D}{b b1 b2:Bool}{T:String}{sl sl':List Sl}{fT fA:Rho->Res Bool}{its us:List Value}{f0 f1 res:Value}
noncomputable def strsOf:List D->Option (List Str)
 | []=>some []
 | .str z::ds=>(strsOf ds).map (z::·)
 | _=>none
theorem u5B{F:Hp}:∀{xs:List V}{ds:List D}{ss:List Str},Rps K F xs ds->strsOf ds=some ss->xs=ss.map V.str/\∀z∈ss,z.length<=sizeLine
 | _,_,_,.nil,e=>by cases e;exact⟨rfl,λ_ h=>(u5 h).elim⟩
 | _,d::ds,ss,.cons h hs,e=>by
  cases h with
  | str hz =>
   unfold strsOf at e;cases q:strsOf ds with
   | none=>rw[q] at e;cases e
   | some ts =>
    rw[q] at e;cases e;obtain⟨e1,e2⟩:=u5B hs q;rw[e1];exact⟨rfl,λz hz'=>by
     rcases z7.mp hz' with rfl|h
     ·exact hz
     ·exact e2 z h⟩
  | _=>cases e
theorem u7G{F:Hp}:∀{ss:List Str},(∀z∈ss,z.length<=sizeLine)->Rps K F (ss.map V.str) (ss.map D.str)
 | [],_=>.nil
 | z::ss,h=>.cons (.str (h z z6)) (u7G λy hy=>h y (z5 _ hy))
mutual
noncomputable def selfD:D->Bool
 | .non | .bl _ | .int _ | .str _=>true
 | .lst ds | .tup ds=>selfDs ds
 | .dct ps=>ps.isEmpty
 | _=>false
noncomputable def selfDs:List D->Bool
 | []=>true
 | d::ds=>selfD d&&selfDs ds
end
section
variable {F:Hp}
def u4M{P':Program}{w':World} (m:h.DictOf (mixKind P w) a []):h.DictOf (mixKind P' w') a []:=by
 obtain⟨o,es,ep,ho,hex,hd,hk,hp,hn⟩:=m;have e:es=#[]:=by
  obtain⟨l⟩:=es;cases l with
  | nil=>rfl
  | cons x l=>cases hp
 subst e;exact⟨o,#[],ep,ho,hex,hd,λe he=>by simp at he,.nil,hn⟩
noncomputable def lenNe:D->D->Bool
 | .lst (_::_),.lst []=>true
 | .lst [],.lst (_::_)=>true
 | _,_=>false
def v0f {x y:D} (h:lenNe x y=true):∃ds es,x=.lst ds/\y=.lst es/\ds.length≠es.length:=by
 unfold lenNe at h;split at h
 ·exact⟨_,_,rfl,rfl,by simp⟩
 ·exact⟨_,_,rfl,rfl,by simp⟩
 ·cases h
noncomputable def dNeX (x y:D):Res D:=if lenNe x y=true then .ok (.bl true) else dNe x y
set_option tactic.hygienic true in
def u5i (hu:X.A.units+64<cLine):OpR X (compareOp .NotEq) (rD X.K dNeX):=by
 intro pins s σ H x y v u Q I rx ry z9105;obtain⟨F,dx,dy,fh,px,py,q⟩:=z9105;unfold dNeX at q;split at q
 ·rename_i hl
  obtain⟨ds,es,rfl,rfl,ne⟩:=v0f hl;cases px with
  | lst hq hs =>
   cases py with
   | lst hq' hs' =>
    cases rx;cases ry;obtain⟨its,r1,l1,_⟩:=I.list (.inl (hq.same fh));obtain⟨its',r2,l2,_⟩:=I.list (.inl (hq'.same fh));have n:its.length≠its'.length:=by rw[<- r1.length,<- r2.length,hs.length,hs'.length];exact ne
    exact SeqAt.RcNeAt.lists_lengths l1.isList l2.isList (by simpa using n) (by omega) _ _ _ _ ⟨.bl true,H,I,rfl,q _ F H (Stp.refl fh) (.bl _)⟩
 ·exact o_ne hu pins s σ H x y v u Q I rx ry ⟨F,dx,dy,fh,px,py,q⟩
end
noncomputable def strI:D->Res Str
 | .int i=>gd (i.natAbs.log2<1920/\((toString i:Str)).length<=600) (.ok (toString i:Str))
 | _=>.bad
noncomputable def gStrI:List D->Res D
 | [d]=>(strI d).bind λz=>.ok (.str z)
 | _=>.bad
def v2z:CallR X (.type "str") (rDs X.K gStrI):=by
 intro pins s σ H xs us Q I r z9106;obtain⟨F,ds,fh,ps,q⟩:=z9106;unfold gStrI at q;split at q
 ·obtain ⟨v,rfl,pv⟩:=rps1 ps
  have q:=Res.all_bind.mp q;cases pv with
  | int i =>
   obtain⟨⟨h1,h2⟩,q⟩:=u3w (show(gd _ _).all _ _ from q)
   exact u6s pins s σ H _ us Q I r ⟨i,rfl,h1,q _ F H (Stp.refl fh) (.str (y9 h2 (by decide)))⟩
  | _=>exact q.elim
 ·exact q.elim
noncomputable def runT (n m:Nat) (t:Rho->Out) (ds:List D):Res D:=if ds.length=m then noE (outR (t (startD n ds))) else .bad
noncomputable def runX (n m:Nat) (t:Rho->Out) (ds:List D):Res D:=if ds.length=m then outR (t (startD n ds)) else .bad
def Fun.okT(F:Fun K x qual st f fd) (S:FnScope N ps (defScope st))
  (hbody:∀(cdv:Value) (A:Around) (outer:List Env) (s:Shared) (H:Hp) (E:XK),Room k (A.deeper (envOfC qual (defScope st) s.heap.objs.size f cdv))->DB (cxOf CX0 P w K mg base N qual (defScope st) f cdv A outer s H E).nox xqF (defBody st) t) :
  FnOk P w K mg base CX0 (k+1) f fd ps (spF K (runT N.length ps.length t)):=by
 refine F.okD S (λds d h=>?_) λcdv A outer s H E hr=>⟨t,hbody cdv A outer s H E hr,λds d h=>?_⟩
 ·unfold runT at h
  split at h
  ·assumption
  ·cases h
 ·unfold runT at h
  split at h
  ·cases q:outR (t (startD N.length ds)) with
   | ok d'=>rw[q] at h;exact h
   | err x=>rw[q] at h;cases h
   | bad=>rw[q] at h;cases h
  ·cases h
set_option tactic.hygienic true in
def Fun.okTX(F:Fun K x qual st f fd) (S:FnScope N ps (defScope st))
  (hbody:∀ (cdv:Value) (A:Around) (outer:List Env) (s:Shared) (H:Hp) (E:XK),Room k (A.deeper (envOfC qual (defScope st) s.heap.objs.size f cdv))->XqOk (cxR P w K mg base N qual (defScope st) f cdv A outer s H E) (xq0 E) ->
   DB (cxR P w K mg base N qual (defScope st) f cdv A outer s H E) (xq0 E) (defBody st) t):FnOk P w K mg base (CXe P w) (k+1) f fd ps (spX K (runX N.length ps.length t)):=by
 refine F.okX S (λds h=>?_) λcdv A outer s H E hr hq=>⟨t,hbody cdv A outer s H E hr hq,λds h=>?_⟩
 ·unfold runX at h
  split at h
  ·assumption
  ·exact absurd rfl h
 ·unfold runX at h |-
  split at h
  ·rename_i q;rw[if_pos q]
  ·exact absurd rfl h
def dh_asK{cn:Str}{rest:List ExceptHandler}{fb:Rho->Out}{hr:D->Rho->Out} (hst:X.stack=X.env::X.outer/\X.env.frame=some X.env.locals) (hN:X.N.Nodup) (hm:X.mg cn=some (.ref C')) (hb:XBase K C')
  (hsu:∀e,DB (cxH X e) xqF (b0::bs) fb) (hrs:DH X xq rest hr) (eK:X.K=K:=by rfl) (hi:X.N[i]?=some nm:=by rfl) (hl:X.env.scope.names.lookup nm=some .local:=by rfl) (hk:X.env.kindOf nm=some .local:=by rfl) (hg:Gl X cn:=by rfl) (hdb:(cn==("__debug__":Str))=false:=by decide) :
  DH X xq (.ExceptHandler (some (.Name cn p)) (some nm) (b0::bs) pos::rest) (hdAs K C' i fb hr):=by subst eK;exact dh_as hst hN hm hb hsu hrs hi hl hk hg hdb
structure FunD (K:W.Frag) (x qual:Str) (st:Stmt) (f:Addr) (fd:FuncData):Prop where
 ex:∃(oc:Value) (od:Option Addr) (dV kV doc pm:Value) (an:Option Addr) (cdv ct:Value) (osl:Array (Option Value)),
  fd=W.fnOf x qual (defArgs st) (defBody st) (defScope st) dV kV doc pm an cdv ct/\K.lookup f=some ⟨oc,od,.func fd,osl⟩/\W.codeIn K cdv qual=true
noncomputable def mulS (z:Str) (k:Nat):Str:=if k=0 then Str.empty else if (k==1||z.length==0)=true then z else ⟨(List.replicate k z.cps).foldl (·++·) #[]⟩
def nx_tup{j:Addr}{x:Value} (hj:s.heap.IsTupleIter j q i) (hq:s.heap.IsTuple q ys) (hx:ys[i]?=some x)
  (k:∀h',h'.IsTupleIter j q (i+1)->Heap.SameBut j s.heap h'->Q x { s with heap:=h' }):wpAny (model P w) A (Builtin.SmallTypes.nextOf (.ref j)) Q E s:=by
 obtain⟨oj,e1,e2,e3⟩:=id hj;obtain⟨oq,e4,-,n,e5⟩:=hq;unfold Builtin.SmallTypes.nextOf;refine wpAny_bind (wpAny_callSpecial?_slot (name:=Str.ofString "__next__") hj.typeIs F.slot_tuple_iterator_next (wpAny_call_entry F.slot_tuple_iterator_next hj.typeIs F.entry_tuple_iterator_next ?_ (F.args_tuple_iterator_next_1 _)));show wpAny _ _ (field (.ref j) 0 >>= _) _ _ s;refine wpAny_bind (wpAny_field e1 e3 (x:=.ref q) rfl ?_);show wpAny _ _ (if (Value.ref q==Value.none)=true then _ else _) _ _ s
 rw[if_neg (show ¬ ((Value.ref q==Value.none)=true) from z0I)]
 show wpAny _ _ (field (.ref j) 1 >>= _) _ _ s;refine wpAny_bind (wpAny_field e1 e3 (x:=.int i 0) rfl ?_);show wpAny _ _ (seqItems? (.ref q) >>= _) _ _ s;refine wpAny_bind (wpAny_seqItems e4 e5 ?_);simp only[Int.toNat_natCast,hx];exact wpAny_bind (wpAny_setField e1 e3 (by simp) (wpAny_pure ⟨x,rfl,wpAny_pure (k _ ⟨_,u7 _ e1 (Obj.isFreed_of_fields (Obj.data_mapFields e3 _)),(Obj.cls_mapFields ..).trans e2,by rw[Obj.data_mapFields e3];simp[rawInt]⟩ (Heap.SameBut.update ..))⟩))
def u8B{j:Addr} (hn:A.handled=none) (hj:s.heap.IsTupleIter j q i) (hq:s.heap.IsTuple q ys) (hx:ys[i]?=none)
  (k:∀h' u,Heap.ExtBut j s.heap h'->(∃o,h'.get? u=some o/\o.cls=.type "StopIteration")->E (.ref u) { s with heap:=h' }):wpAny (model P w) A (Builtin.SmallTypes.nextOf (.ref j)) Q E s:=by
 obtain⟨oj,e1,e2,e3⟩:=id hj;obtain⟨oq,e4,-,n,e5⟩:=hq;unfold Builtin.SmallTypes.nextOf;refine wpAny_bind (wpAny_callSpecial?_slot (name:=Str.ofString "__next__") hj.typeIs F.slot_tuple_iterator_next (wpAny_call_entry F.slot_tuple_iterator_next hj.typeIs F.entry_tuple_iterator_next ?_ (F.args_tuple_iterator_next_1 _)));show wpAny _ _ (field (.ref j) 0 >>= _) _ _ s;refine wpAny_bind (wpAny_field e1 e3 (x:=.ref q) rfl ?_);show wpAny _ _ (if (Value.ref q==Value.none)=true then _ else _) _ _ s
 rw[if_neg (show ¬ ((Value.ref q==Value.none)=true) from z0I)]
 show wpAny _ _ (field (.ref j) 1 >>= _) _ _ s;refine wpAny_bind (wpAny_field e1 e3 (x:=.int i 0) rfl ?_);show wpAny _ _ (seqItems? (.ref q) >>= _) _ _ s;refine wpAny_bind (wpAny_seqItems e4 e5 ?_);simp only[Int.toNat_natCast,hx];refine wpAny_bind (wpAny_rule (wpAny_bind (wpAny_setField e1 e3 (by simp) ?_)))
 show wpAny _ _ (newExc (.type "StopIteration") [] >>= _) _ _ _;refine wpAny_bind ?_;simp only[newExc,newTuple];refine wpAny_bind (wpAny_newObj_type (wpAny_bind (m:=firstArgMember _ _) (wpAny_of_eq (a:=Value.none) (by first|rfl|(simp only[firstArgMember];rfl)) (wpAny_newObj_type ?_ (by size_fits)))) (by size_fits))
 simp only[raiseNew];refine wpAny_bind (wpAny_handled ?_)
 first|rw[show A.in1.handled=none from hn] | rw[hn]
 exact wpAny_bind (wpAny_pure (wpAny_throw (k _ _ (((Heap.SameBut.update ..).extBut.push _).push _) ⟨_,y6 _ rfl,rfl⟩)))
def u9q:Manifest.owners.lookup (String.ofList ['d','e','s','r','e','v','e','r'].reverse)=some Manifest.sig_reversed:=by kernel_rfl
def u3Q:Slot "reversed" "__next__" "reversed.__next__":=.of (owner:="reversed") (n:="__next__") (by rw[typeLookup_type,builtinLookup_eq_fast];kernel_rfl) (by decide +kernel) (by decide +kernel) (by decide +kernel) (by first|exact .inl (by decide +kernel)|exact .inr (by decide +kernel)) (by rw[isSubtype_type];kernel_rfl)
def u9r:Slot "reversed" "__iter__" "reversed.__iter__":=.of (owner:="reversed") (n:="__iter__") (by rw[typeLookup_type,builtinLookup_eq_fast];kernel_rfl) (by decide +kernel) (by decide +kernel) (by decide +kernel) (by first|exact .inl (by decide +kernel)|exact .inr (by decide +kernel)) (by rw[isSubtype_type];kernel_rfl)
def rv_init:Slot "reversed" "__init__" "object.__init__":=.of (owner:="object") (n:="__init__") (by rw[typeLookup_type,builtinLookup_eq_fast];kernel_rfl) (by decide +kernel) (by decide +kernel) (by decide +kernel) (by first|exact .inl (by decide +kernel)|exact .inr (by decide +kernel)) (by rw[isSubtype_type];kernel_rfl)
def u7D:entryFor table "reversed.__next__"=some Builtin.«reversed.__next__»:=entryFor_of_tree (by kernel_rfl)
def u7E (a:Value):argsOk "reversed.__next__" ⟨[a],[]⟩:=by
 unfold argsOk;rw[signature?_of (id:="reversed.__next__") (n:=['_','_','t','x','e','n','_','_']) (o:=['d','e','s','r','e','v','e','r']) (by kernel_rfl) u9q];kernel_rfl
def v1v (a:Value):argsOk "reversed.__iter__" ⟨[a],[]⟩:=by
 unfold argsOk;rw[signature?_of (id:="reversed.__iter__") (n:=['_','_','r','e','t','i','_','_']) (o:=['d','e','s','r','e','v','e','r']) (by kernel_rfl) u9q];kernel_rfl
def v1t:entryFor table "reversed.__iter__"=some Builtin.«dict_keyiterator.__iter__» :=
 entryFor_alias (id':="dict_keyiterator.__iter__") (by kernel_rfl) (by first|rfl|decide +kernel|(unfold String.splitOn;simp +decide [String.splitOnAux])) (by decide +kernel) (by kernel_rfl)
def u9s:TypeCalled "reversed" "reversed.__new__" "object.__init__" :=
 ⟨by decide +kernel,by decide +kernel,⟨_,_,F.mro_reversed⟩,F.made_reversed,by decide +kernel,F.sub_reversed_self,rv_init⟩
def u5X:typeLookup (.type "tuple") "__reversed__"=pure none:=by rw[typeLookup_type,builtinLookup_eq_fast];kernel_rfl
def u5A:isSubtype (.type "tuple") (.type "dict")=pure false:=by rw[isSubtype_type];kernel_rfl
abbrev rvO (l:Addr) (i:Int):Obj:={ cls:=.type "reversed",data:=.fields #[.ref l,rawInt i] }
def IsRv (h:Heap) (a l:Addr) (i:Int):Prop:=h.get? a=some (rvO l i)
def IsRv.ty{i:Int} (x:IsRv s.heap a l i):s.TypeIs (.ref a) "reversed":=⟨_,x,rfl⟩
def rv_new(hL:s.heap.IsTuple l ys) (hz:(ys.size:Int)<2^63)
  (h:∀t,Q (.ref s.heap.objs.size) { s with heap:=s.heap.push (rvO l ((ys.size:Int) - 1)),toks:=t }):wpAny (model P w) A (Builtin.«reversed.__new__» ⟨[.type "reversed",.ref l],[]⟩) (λfin s'=>∃v,fin=.done (.ret v)/\Q v s') E s:=by
 unfold Builtin.«reversed.__new__»;refine wpAny_bind (wpAny_of_eq (newClass_reversed _) ?_)
 try dsimp only
 refine wpAny_bind (wpAny_of_eq (a:=()) (by first|rfl|kernel_rfl) (wpAny_bind (wpAny_of_eq (a:=()) (by first|rfl|kernel_rfl) ?_)))
 try dsimp only
 refine wpAny_bind (wpAny_specialOf hL.typeIs u5X ?_)
 try dsimp only
 refine wpAny_bind ?_;show wpAny _ _ (isInstance (.ref l) (.type "dict") >>= _) _ _ _;refine wpAny_bind (wpAny_isInstance (T:="tuple") (b:=false) hL.typeIs u5A ?_)
 try dsimp only
 rw[if_neg z0I];refine wpAny_bind (wpAny_specialOf hL.typeIs slot_tuple_getitem.lookup ?_);dsimp only;rw[if_pos (by decide)]
 refine wpAny_pure ?_;rw[if_neg (by decide)]
 refine wpAny_bind (len_tuple (show IsTup s.heap l ys from hL) hz (wpAny_bind (wpAny_of_eq (a:=some (ys.size:Int)) rfl ?_)))
 dsimp only;exact wpAny_bind (m:=Builtin.SmallTypes.newRecord _ _) (show wpAny _ _ (newObj (.type "reversed") (.fields #[.ref l,rawInt ((ys.size:Int) - 1)])) _ _ _ from wpAny_newObj_type (wpAny_pure ⟨_,rfl,h _⟩))
def v1U (l:Addr) (ys:Array Value):Meets (Builtin.«reversed.__new__» ⟨[.type "reversed",.ref l],[]⟩) (λ_ R s=>s.heap.IsTuple l ys/\(ys.size:Int)<2^63/\∀t,R (.ok (.ret (.ref s.heap.objs.size))) { s with heap:=s.heap.push (rvO l ((ys.size:Int) - 1)),toks:=t }) :=
 .of_wp λprog w A R s h=>rv_new (Q:=λv s'=>R (.ok (.ret v)) s') h.1 h.2.1 h.2.2
def v0S(hL:s.heap.IsTuple l ys) (hz:(ys.size:Int)<2^63)
  (h:∀t,Q (.ref s.heap.objs.size) { s with heap:=s.heap.push (rvO l ((ys.size:Int) - 1)),toks:=t }):wpAny (model P w) A (call (.type "reversed") [.ref l]) Q E s:=by
 refine callType_new u9s (by decide) (F.typeCall_reversed_1 _) (F.newCall_reversed_1 _) (λobj=>F.args_object_init_2 obj _) F.entry_reversed_new (v1U l ys) ⟨hL,hz,λt=>?_⟩
 show _/\_;exact⟨⟨_,y6 _ rfl,rfl⟩,h t⟩
def nx_rv{j:Addr}{x:Value}{Q:Option Value->Shared->Prop} (hj:IsRv s.heap j l (i:Int)) (hl:s.heap.IsTuple l ys) (hz:(ys.size:Int)<2^63) (hx:ys[i]?=some x)
  (k:∀h' t,IsRv h' j l ((i:Int) - 1)->Heap.SameBut j s.heap h'->Q (some x) { s with heap:=h',toks:=t }):wpAny (model P w) A (pyNext (.ref j)) Q E s:=by
 have hi:i<ys.size:=(Array.getElem?_eq_some_iff.mp hx).1;unfold pyNext;refine wpAny_bind (wpAny_attempt (wpAny_callSpecial?_slot (name:=Str.ofString "__next__") hj.ty u3Q (wpAny_call_entry u3Q hj.ty u7D ?_ (u7E _))));unfold Builtin.«reversed.__next__»;refine wpAny_bind (wpAny_of_eq (a:=(Value.ref j,[])) rfl ?_)
 try dsimp only
 refine wpAny_bind (wpAny_field hj rfl (x:=.ref l) rfl (wpAny_bind (wpAny_field hj rfl (x:=rawInt (i:Int)) rfl ?_)));show wpAny _ _ (if (i:Int)<0 then _ else _) _ _ s
 rw[if_neg (by omega)]
 refine wpAny_bind (wpAny_specialOf hl.typeIs slot_tuple_getitem.lookup ?_);simp only[Option.isNone_some,z1E,if_false];refine wpAny_bind (wpAny_mkInt (wpAny_bind (wpAny_attempt (getItem_tuple (j:=i) (show IsTup s.heap l ys from hl) (by omega) (by omega) (by simp[seqIndex?];omega) hx ?_))))
 dsimp only;refine wpAny_bind (wpAny_field hj rfl (x:=rawInt (i:Int)) rfl ?_);show wpAny _ _ (setField (.ref j) 1 (rawInt ((i:Int) - 1)) >>= _) _ _ _;exact wpAny_bind (wpAny_setField_rec hj (by simp) λh2 e2 s2=>wpAny_pure ⟨x,rfl,wpAny_pure (k h2 _ e2 s2)⟩)
def u5W{j:Addr}{Q:Option Value->Shared->Prop} (hn:A.handled=none) (hj:IsRv s.heap j l (-1))
  (k:∀h',Heap.ExtBut j s.heap h'->Q none { s with heap:=h' }):wpAny (model P w) A (pyNext (.ref j)) Q E s:=by
 unfold pyNext;refine wpAny_bind (wpAny_attempt (wpAny_callSpecial?_slot (name:=Str.ofString "__next__") hj.ty u3Q (wpAny_call_entry u3Q hj.ty u7D ?_ (u7E _))));unfold Builtin.«reversed.__next__»;refine wpAny_bind (wpAny_of_eq (a:=(Value.ref j,[])) rfl ?_)
 try dsimp only
 refine wpAny_bind (wpAny_field hj rfl (x:=.ref l) rfl (wpAny_bind (wpAny_field hj rfl (x:=rawInt (-1)) rfl ?_)));show wpAny _ _ (if (-1:Int)<0 then _ else _) _ _ s
 rw[if_pos (by decide)]
 refine wpAny_bind (wpAny_rule (wpAny_bind ?_));show wpAny _ _ (setField (.ref j) 1 (rawInt (-1)) >>= λ_=>setField (.ref j) 0 .none) _ _ _
 refine wpAny_bind (wpAny_setField_rec hj (by simp) λh2 e2 s2=>wpAny_setField_rec e2 (by simp) λh3 e3 s3=>?_)
 refine wpAny_bind ?_;show wpAny _ A.in1 (newExc (.type "StopIteration") [] >>= _) _ _ _;refine wpAny_bind ?_;simp only[newExc,newTuple];refine wpAny_bind (wpAny_newObj_type (wpAny_bind (m:=firstArgMember _ _) (wpAny_of_eq (a:=Value.none) (by first|rfl|(simp only[firstArgMember];rfl)) (wpAny_newObj_type ?_ (by size_fits)))) (by size_fits))
 simp only[raiseNew];refine wpAny_bind (wpAny_handled ?_)
 first|rw[show A.in1.handled=none from hn] | rw[hn]
 have x3:Heap.ExtBut j s.heap h3:=λb o hb e=>s3.extBut b o hb (s2.extBut b o hb e)
 refine wpAny_bind (wpAny_pure (wpAny_throw ?_));exact wpAny_bind (wpAny_isInstance (T:="StopIteration") (b:=true) ⟨_,y6 _ rfl,rfl⟩ isSubtype_stop (wpAny_pure (k _ ((x3.push _).push _))))
def it_rv{j:Addr}{i:Int} (hj:IsRv s.heap j l i) (h:Q (.ref j) s):wpAny (model P w) A (pyIter (.ref j)) Q E s:=by
 refine wpAny_pyIter_slot hj.ty u9r (wpAny_call_entry u9r hj.ty v1t ?_ (v1v _));show wpAny _ _ (ret (.ref j)) _ _ s;exact wpAny_pure ⟨_,rfl,"reversed",_,hj.ty,u3Q.lookup,h⟩
def ItR (K:W.Frag) (a:Addr) (n:Nat):It :=
 ⟨λi H=>∃xs,SqT K H a xs/\xs.length=n/\i<n,λi H x H'=>H'=H/\∀xs,SqT K H a xs->xs.reverse[i]?=some x,λi H=>∃xs,SqT K H a xs/\xs.length=n/\n<=i⟩
def turn_rv(a it:Addr) (n:Nat) (hz:(n:Int)<2^63):Turn P w K tg (ItR K a n) [it] it (λi h=>i<=n/\IsRv h it a ((n:Int) - 1 - (i:Int))) where
 mem:=by simp
 obj:=λi h st b hb=>by
  have e:b=it:=by simpa using hb
  subst e;exact⟨_,st.2,λv z=>by cases z⟩
 keep:=λi h h' st k=>⟨st.1,k it (by simp) _ st.2⟩
 item:=by
  intro X hP hw hK hc i pins s σ H E I hf st hg;subst hP hw hK;obtain⟨xs,hq,hn,hi⟩:=hg;obtain⟨its,rv,p,hl⟩:=I.tuple hq;have p:s.heap.IsTuple a its.toArray:=p;have hlen:=rv.length;have hxi:xs[n - 1 - i]?=some (xs[n - 1 - i]'(by omega)):=u3 (by omega)
  generalize xs[n - 1 - i]'(by omega)=x at hxi
  obtain⟨u,hu,ru⟩:=rv.get hxi;obtain⟨f0,f1,f2,f3,f4,f5⟩:=hf it (by simp)
  have st2:IsRv s.heap it a ((n - 1 - i:Nat):Int):=by
   have e:(n:Int) - 1 - (i:Int)=((n - 1 - i:Nat):Int):=by omega
   rw[<- e];exact st.2
  have hs:its.toArray.size=n:=by rw[y7];omega
  refine nx_rv st2 p (by rw[hs];exact hz) (x:=u) (by simpa using hu) λh' t st' sb=>?_
  have I1:Inv X pins σ H { s with heap:=h',toks:=t }:=I.turned (t':=t) (λb o hb e=>(sb.2 b hb).trans e) f0 f1 f3 f4 f5
  have e2:((n - 1 - i:Nat):Int) - 1=(n:Int) - 1 - ((i+1:Nat):Int):=by omega
  rw[e2] at st';refine⟨u,rfl,u8F (s:={ s with heap:=h',toks:=t }) (n:="reversed") st' rfl rfl (by decide) ⟨x,H,I1,ru,⟨rfl,λys hy=>?_⟩,⟨by omega,st'⟩,λb hb=>(hf b hb).1⟩⟩
  rw[I.tuple_inj hy hq,z2I (by omega),hn]
  exact hxi
 done:=by
  intro X hP hw hK hc i pins s σ H E I hf st hg;subst hP hw hK;obtain⟨xs,hq,hn,hi⟩:=hg;obtain⟨f0,f1,f2,f3,f4,f5⟩:=hf it (by simp)
  have e:(n:Int) - 1 - (i:Int)=-1:=by have:=st.1;omega
  have st2:=st.2;rw[e] at st2;exact u5W (I.ok.hd hc) st2 λh' eb=>⟨rfl,I.turned (t':=s.toks) (λb o hb e=>eb b o hb e) f0 f1 f3 f4 f5⟩
 self:=λ_ _ _ _ _ st h=>it_rv st.2 h
def Feed.rev{F:Hp}{xs:List V} (h:SqT K F a xs) (r:Rps K F xs ds):Feed K F (ItR K a xs.length) ds.reverse where
 go i H e hi:=⟨xs,e.seqT h,rfl,by rw[r.length];simpa using hi⟩
 yld i F1 H x H' d e1 e2 hd y:=by
  obtain⟨rfl,y⟩:=y;have hx:=y xs ((e1.trans e2).seqT h);have hi:i<ds.length:=by have:=(w9.mp hd).1;simpa using this
  rw[z2I hi] at hd;have hi2:i<xs.length:=by rw[r.length];exact hi
  rw[z2I hi2] at hx;obtain⟨v,hv,p⟩:=r.get hd;rw[r.length] at hx;rw[hv] at hx;cases hx;exact⟨F1,Stp.refl e2,p.same e1⟩
 stop i H e hi:=⟨xs,e.seqT h,rfl,by rw[r.length];simpa using hi⟩
def iRev (K:W.Frag) (ta:TA):TI:=λσ H R=>ta σ H λvs H1=>∃a xs,vs=[.ref a]/\SqT K H1 a xs/\R (ItR K a xs.length) H1
noncomputable def revT:List D->Res (List D)
 | [.tup ds]=>.ok ds.reverse
 | _=>.bad
section
variable {a:Expr}
def pi_rev (hg:Gl X "reversed") (hm:X.mg "reversed"=none) (ha:PA X [a] ta) (hs:starEach [a] X.env=[(false,eval a X.env)]:=by rfl):PI X tg (.Call (.Name "reversed" p) [a] [] pos) (iRev X.K ta):=by
 intro pins s σ H R I h;refine Call_ (u1J I hg hm (show bootBuiltins "reversed"=some (.type "reversed") by decide +kernel) (PyProof.Rows.callWith_type1 (thn (ha pos pins s σ H _ I h) λus s1 ⟨vs,H1,I1,r1,q1⟩=>?_) hs rfl))
 obtain⟨a',xs,e,hq,q⟩:=q1;subst e;obtain⟨u,rfl,ru⟩:=vals1 r1;cases ru;obtain⟨its,rv,pl,hl⟩:=I1.tuple hq;have hlen:=rv.length;have hs2:its.toArray.size=xs.length:=by rw[y7];omega
 have hz:(xs.length:Int)<2^63:=by have:=line63;omega
 refine v0S (show s1.heap.IsTuple a' its.toArray from pl) (by rw[hs2];exact hz) λt=>?_
 rw[hs2];have st:IsRv (s1.heap.push (rvO a' ((xs.length:Int) - 1))) s1.heap.objs.size a' ((xs.length:Int) - 1):=y6 _ rfl;refine it_rv st ?_;exact⟨s1.heap.objs.size,[s1.heap.objs.size],_,ItR X.K a' xs.length,H1,rfl,I1.kept (t':=t) (λb o e=>z0 _ e),turn_rv a' _ _ hz,⟨z0E _,by simpa using st⟩,λb hb=>by
  have e:b=s1.heap.objs.size:=by simpa using hb
  subst e;exact I1.fpOk (y0 _) (I1.hok.fresh (y0 _)),q⟩
def di_rev (hm:X.mg "reversed"=none) (ha:DA X xq [a] fa) (hg:Gl X "reversed":=by rfl):DI X xq tg (.Call (.Name "reversed" p) [a] [] pos) (λρ=>(fa ρ).bind revT) :=
 ⟨λpins s σ H R I z9=>un5 z9 λB F ρ R' q=>pi_rev hg hm ha.out (u0l (u0j ha.ns).1) pins s σ H R I (seqA R' q λds vs F1 H1 s1 R1 p1 q1=>by
  unfold revT at q1;split at q1
  ·obtain ⟨v,rfl,pv⟩:=rps1 p1
   cases pv with
   | tup hq hs=>exact⟨_,_,rfl,R1.fh.seqT hq,q1 _ F1 H1 s1 (Feed.rev hq hs)⟩
  ·exact q1.elim)⟩
end
def spN (K:W.Frag) (g:List D->Res (List D)):Sp:=λvs H Q E=>∃F ds,Same F H/\Rps K F vs ds/\(g ds).all (λes=>∀a h F' H',Stp F H F' H'->F' a=none->H a=none->H' a=some h->Ro K F' a h (.l es)->Q (.ref a) H') (λx=>∀a F' H',Stp F H F' H'->Rp K F' (.ref a) x->E (.ref a) none H')
inductive OutN where
 | rn (es:List D)|er (x:D) (ρ:Rho)|bad
structure OkN (K:W.Frag) (xq:XQ) (B:Hp×Hp) (T:Ends) (o:OutN):Prop where
 out:match o with
  | .rn es=>∀a h F' H',Stp B.1 B.2 F' H'->F' a=none->B.2 a=none->H' a=some h->Ro K F' a h (.l es)->T.rt (.ref a) H'
  | .er x ρ=>∀v σ F H,Rel K B ρ σ F H->Rp K F v x->xq v σ H
  | .bad=>False
def liftR (K:W.Frag) (xq:XQ) (f:Rho->OutN):TS:=λT σ H=>∃B F ρ,Rel K B ρ σ F H/\OkN K xq B T (f ρ)
structure DRB (X:Cx) (xq:XQ) (sts:List Stmt) (f:Rho->OutN):Prop where
 out:PSs X sts (liftR X.K xq f)
section
variable {o:Expr}{fn:Rho->Res OD}{f:Rho->Out}{g:Rho->OutN}
noncomputable def retN (fn:Rho->Res OD) (ρ:Rho):OutN:=match fn ρ with
 | .ok (.l es)=>.rn es
 | .err x=>.er x (frz ρ)
 | _=>.bad
def dr_ret (he:DN X xq e fn):DRB X xq [.Return (some e) pos] (retN fn) :=
 ⟨u0n λpins s σ H T I z9=>un5 z9 λB F ρ R q=>u0H he.out pins s σ H T I ⟨B,F,ρ,R,by
  have q:=q.out;unfold retN at q;cases h:fn ρ with
  | bad=>rw[h] at q;exact q.elim
  | err x=>rw[h] at q;exact λv F1 H1 R1 p1=>q v σ F1 H1 R1 p1
  | ok o =>
   rw[h] at q;cases o with
   | l ds=>exact λa hh F' H' s n1 n2 e1 r1=>q a hh F' H' (R.st.trans s) n1 (R.st.hh.free n2) e1 r1
   | _=>exact q.elim⟩⟩
def spN_of{F F0 H0:Hp}{f:List D->Res (List D)}{Q:VK} (R:Rel K B ρ σ F H) (pv:Rps K F vs ds) (s0:Stp F0 H0 F H)
  (q:(f ds).all (λes=>∀a h F' H',Stp F0 H0 F' H'->F' a=none->H0 a=none->H' a=some h->Ro K F' a h (.l es)->Q (.ref a) H') (ErrK K xq B ρ σ)):spN K f vs H Q (λu _ H'=>∃a,u=.ref a/\xq (.ref a) σ H') :=
 ⟨F,ds,R.fh,pv,Res.all_mono q (λes k a h F' H' st n1 n2 e1 r1=>k a h F' H' (s0.trans st) n1 (s0.hh.free n2) e1 r1) λx k a F' H' st p=>⟨a,rfl,errR R st p k⟩⟩
def CalleeN (P:Program) (w:World) (K:W.Frag) (mg:MG) (base:Heap) (k:Nat) (x:Str) (ps:List Str) (f:List D->Res (List D)):Prop :=
 ∃a fd,FnOk P w K mg base (CXe P w) k a fd ps (spN K f)/\Binds K fd ps []/\W.keepIn K (.ref a)=true/\mg x=some (.ref a)
def dn_fn{f:List D->Res (List D)} (hq:XqOk X xq) (h:CalleeN P w K mg base k x ps f) (hr:Room k' X.A) (ha:DA X xq (e::es) fs) (hk:k<=k':=by decide) (hg:Gl X x:=by rfl)
  (eP:X.prog=P:=by rfl) (ew:X.w=w:=by rfl) (eK:X.K=K:=by rfl) (em:X.mg=mg:=by rfl) (eb:X.base=base:=by rfl) (hdb:(x==("__debug__":Str))=false:=by decide):DN X xq (.Call (.Name x p) (e::es) [] pos) (λρ=>(fs ρ).bind λds=>(f ds).bind λes=>.ok (.l es)) :=
 ⟨λpins s σ H Q I z9=>un5 z9 λB F ρ R q=>by
  subst eP ew eK em eb;obtain⟨a,fd,G,hb,hkp,hm⟩:=h;refine wpAny_Call_Name_kw (u1W I hg hm ?_ hdb);refine W.callWith_K (h₀:=X.base) I.ok.mod.kin hkp (thn (ha.out pos pins s σ H _ I (seqA R q λds vs F1 H1 s1 R1 p1 q1=>show spN X.K f (vs++[]) H1 Q (λu _ H'=>∃a,u=.ref a/\xq (.ref a) σ H') from by rw[List.append_nil];exact spN_of R1 p1 s1 (Res.all_bind.mp q1))) λus s1 ⟨vs,H1,I1,r,q⟩=>⟨I1.kIn,?_⟩) (u0l (u0j ha.ns).1) (u0N (u0j ha.ns).2)
  exact u9u hq G (hr.mono hk) hb .nil I1 r q⟩
end
noncomputable def runN (n m:Nat) (t:Rho->OutN) (ds:List D):Res (List D):=if ds.length=m then (match t (startD n ds) with | .rn es=>.ok es | .er x _=>.err x | .bad=>.bad) else .bad
def Fun.okN{t:Rho->OutN} (F:Fun K x qual st f fd) (S:FnScope N ps (defScope st))
  (hbody:∀ (cdv:Value) (A:Around) (outer:List Env) (s:Shared) (H:Hp) (E:XK),Room k (A.deeper (envOfC qual (defScope st) s.heap.objs.size f cdv))->XqOk (cxR P w K mg base N qual (defScope st) f cdv A outer s H E) (xq0 E) ->
   DRB (cxR P w K mg base N qual (defScope st) f cdv A outer s H E) (xq0 E) (defBody st) t):FnOk P w K mg base (CXe P w) (k+1) f fd ps (spN K (runN N.length ps.length t)):=by
 obtain⟨oc,od,kV,doc,pm,an,cdv,ct,osl,rfl,lk,hcd⟩:=F.ex;refine fn_of lk hcd S (λvs H Q E h=>?_) λA outer s H vs Q E hr hsp=>?_
 ·obtain ⟨G,ds,fh,r,q⟩:=h
  rw[r.length];unfold runN at q;split at q
  ·assumption
  ·exact q.elim
 ·obtain ⟨G,ds,fh,r,q⟩:=hsp
  have hst:(cxOf (CXe P w) P w K mg base N qual (defScope st) f cdv A outer s H E).stack=(cxOf (CXe P w) P w K mg base N qual (defScope st) f cdv A outer s H E).env::(cxOf (CXe P w) P w K mg base N qual (defScope st) f cdv A outer s H E).outer/\(cxOf (CXe P w) P w K mg base N qual (defScope st) f cdv A outer s H E).env.frame=some (cxOf (CXe P w) P w K mg base N qual (defScope st) f cdv A outer s H E).env.locals:=⟨rfl,rfl⟩;have h1:=hbody cdv A outer s H E hr (u3D hst);refine⟨_,PSs.wishTo h1.out ?_,(G,H),G,_,r.begin fh,⟨?_⟩⟩
  ·rintro u s' ⟨n,e,C,d,σ,H',fl,o,rfl,I,hx,tb,hfl,q⟩
   refine u7S I hst o hx tb hfl λs2 I2 tr=>?_
   exact⟨e,C,d,H',rfl,I2.os,I2.bare,I2.base,I2.hok,hx,tr.tb.mono o.s0,q e rfl⟩
  ·unfold runN at q
   split at q
   ·generalize t (startD N.length ds)=o at q
    cases o with
    | rn es=>exact q
    | er x ρ=>exact λv σ F' H' R pv a ea=>by subst ea;exact q a F' H' R.st pv
    | bad=>exact q.elim
   ·exact q.elim
noncomputable def splitL  [DecidableEq α] (c:α):List α->List (List α)
 | []=>[[]]
 | a::l=>if a=c then []::splitL c l else match splitL c l with
  | []=>[[a]]
  | w::r=>(a::w)::r
def u1M  [DecidableEq α] (c:α) (l:List α):splitL c l≠[]:=by
 cases l with
 | nil=>simp[splitL]
 | cons a l =>
  rw[splitL];split
  ·simp
  ·split<;>simp
theorem u3H  [DecidableEq α] (c:α):∀(w:List α),c∉w->splitL c w=[w]
 | [],_=>rfl
 | a::w,h=>by
  have h1:¬ a=c:=λe=>h (by simp[e])
  rw[splitL,u3H c w (λm=>h (by simp[m])),if_neg h1]
theorem u4E  [DecidableEq α] (c:α) (r:List α):∀(w:List α),c∉w->splitL c (w++c::r)=w::splitL c r
 | [],_=>by simp[splitL]
 | a::w,h=>by
  have h1:¬ a=c:=λe=>h (by simp[e])
  rw[List.cons_append,splitL,u4E c r w (λm=>h (by simp[m])),if_neg h1]
noncomputable def glue(c:α):List (List α)->List α
 | []=>[]
 | [w]=>w
 | w::v::r=>w++c::glue c (v::r)
theorem u3G  [DecidableEq α] (c:α):∀(ws:List (List α)),ws≠[]->(∀w∈ws,c∉w)->splitL c (glue c ws)=ws
 | [w],_,h=>u3H c w (h w (by simp))
 | w::v::r,_,h=>by
  rw[glue,u4E c _ w (h w (by simp)),u3G c (v::r) (by simp) λx m=>h x (z5 _ m)]
noncomputable def cutsL (c:Nat):Nat->List Nat->List Nat
 | _,[]=>[]
 | o,a::l=>if a=c then o::cutsL c (o+1) l else cutsL c (o+1) l
theorem u6o (c:Nat):∀(l:List Nat) (o:Nat) (a:Nat),cutsL c o (l++[a])=cutsL c o l++if a=c then [o+l.length] else []
 | [],o,a=>by simp[cutsL]
 | b::l,o,a=>by
  rw[List.cons_append,cutsL,cutsL,u6o c l (o+1) a]
  have:o+1+l.length=o+(b::l).length:=by simp;omega
  rw[this];split<;>simp
theorem u5v (c:Nat):∀(l:List Nat) (o:Nat),∀x∈cutsL c o l,o<=x
 | [],o,x,m=>by simp[cutsL] at m
 | b::l,o,x,m=>by
  rw[cutsL] at m;split at m
  ·rcases z7.1 m with rfl | m
   ·exact y0 _
   ·exact Nat.le_of_succ_le (u5v c l (o+1) x m)
  ·exact Nat.le_of_succ_le (u5v c l (o+1) x m)
theorem u6n (c:Nat):∀(l:List Nat) (o:Nat),(cutsL c o l).length<=l.length
 | [],o=>by simp[cutsL]
 | b::l,o=>by
  have:=u6n c l (o+1)
  rw[cutsL];split<;>simp<;>omega
def occ_one (s:Str) (c:Nat):Builtin.Str.occurrences s ⟨#[c]⟩ 0 s.length (s.length+1)=cutsL c 0 s.cps.toList:=by
 unfold Builtin.Str.occurrences;simp only[Std.Legacy.Range.forIn_eq_forIn_range'];have key:∀k,k<=s.length->∃fr,fr<=k/\(List.range' 0 k).foldl (λ(b:Array Nat×Nat) i=>if (decide (b.1.size<s.length+1)&&decide (b.2<=i)&&decide (i+(Str.mk #[c]).length<=s.length)&&Builtin.Str.subAt s ⟨#[c]⟩ i)=true then (b.1.push i,i+(Str.mk #[c]).length) else b) (#[],0)=((cutsL c 0 (s.cps.toList.take k)).toArray,fr):=by
  intro k;induction k with
  | zero=>intro _;exact⟨0,y0 _,by simp[cutsL]⟩
  | succ k ih =>
   intro hk;obtain⟨fr,h1,h2⟩:=ih (by omega)
   have hk':k<s.cps.size:=hk;have e1:s.cps.toList.take (k+1)=s.cps.toList.take k++[s.cps[k]]:=by
    rw[List.take_succ];simp[hk']
   have hl:(s.cps.toList.take k).length=k:=by simp;omega
   have hlen:=u6n c (s.cps.toList.take k) 0;rw[hl] at hlen;rw[List.range'_concat,List.foldl_append,h2,e1,u6o,hl];have hsub:Builtin.Str.subAt s ⟨#[c]⟩ k=decide (s.cps[k]=c):=by
    unfold Builtin.Str.subAt
    have:s.cps.extract k (k+(Str.mk #[c]).length)=#[s.cps[k]]:=by
     apply Array.ext
     ·simp[Str.length];omega
     ·intro i h1 h2;simp at h2;subst h2;simp
    rw[this];by_cases e:s.cps[k]=c<;>simp[e]
   have hlen':(cutsL c 0 (List.take k s.cps.toList)).length<s.length+1:=by omega
   have hone:(Str.mk #[c]).length=1:=rfl;simp only[Nat.zero_add,Nat.one_mul,z3A,List.foldl_nil,hsub,hone,y7,hlen',h1,decide_true,Bool.true_and,hk];by_cases e:s.cps[k]=c
   ·exact⟨k+1,by omega,by simp[e]⟩
   ·exact⟨fr,by omega,by simp[e]⟩
 obtain⟨fr,h1,h2⟩:=key s.length (y0 _);have e0:(Std.Legacy.Range.mk 0 (s.length+1) 1 (by decide)).size=s.length+1:=by simp[Std.Legacy.Range.size]
 have e1:∀(b:Array Nat×Nat),(if (decide (b.1.size<s.length+1)&&decide (b.2<=s.length)&&decide (s.length+(Str.mk #[c]).length<=s.length)&&Builtin.Str.subAt s ⟨#[c]⟩ s.length)=true then (b.1.push s.length,s.length+(Str.mk #[c]).length) else b)=b:=by
  intro b
  have:¬ s.length+(Str.mk #[c]).length<=s.length:=by show ¬ s.length+1<=s.length;omega
  simp[this]
 have e3:cutsL c 0 (s.cps.toList.take s.length)=cutsL c 0 s.cps.toList:=by
  have:s.cps.toList.take s.length=s.cps.toList:=List.take_of_length_le (by simp[Str.length])
  rw[this]
 have e2:=List.forIn_pure_yield_eq_foldl (m:=Id) (l:=List.range' 0 (s.length+1)) (λi (b:Array Nat×Nat)=>if (decide (b.1.size<s.length+1)&&decide (b.2<=i)&&decide (i+(Str.mk #[c]).length<=s.length)&&Builtin.Str.subAt s ⟨#[c]⟩ i)=true then (b.1.push i,i+(Str.mk #[c]).length) else b) (#[],0)
 have e4:(List.range' 0 (s.length+1)).foldl (λ(b:Array Nat×Nat) i=>if (decide (b.1.size<s.length+1)&&decide (b.2<=i)&&decide (i+(Str.mk #[c]).length<=s.length)&&Builtin.Str.subAt s ⟨#[c]⟩ i)=true then (b.1.push i,i+(Str.mk #[c]).length) else b) (#[],0)=((cutsL c 0 s.cps.toList).toArray,fr):=by
  rw[List.range'_concat,List.foldl_append,h2,e3,Nat.zero_add,Nat.one_mul];exact e1 _
 rw[e4] at e2;have e5:∀(X:Id (Array Nat×Nat)),X=pure ((cutsL c 0 s.cps.toList).toArray,fr)->(do let q <- X;pure q.1.toList:Id (List Nat)).run=cutsL c 0 s.cps.toList:=by
  intro X h;subst h;simp
 refine e5 _ (Eq.trans ?_ e2);congr 1
 ·rw[e0]
 ·funext i b
  split<;>rfl
def u9O (c:Nat) (s:Str):Builtin.Str.partsBetween s (cutsL c 0 s.cps.toList) 1=(splitL c s.cps.toList).map λw=>⟨w.toArray⟩:=by
 unfold Builtin.Str.partsBetween;have key:∀(l pre:List Nat),s.cps.toList=pre++l->List.map (λx:Nat×Nat=>Builtin.Str.strSub s x.1 x.2) ((pre.length::(cutsL c pre.length l).map (·+1)).zip (cutsL c pre.length l++[s.length]))=(splitL c l).map λw=>⟨w.toArray⟩:=by
  intro l;induction l with
  | nil =>
   intro pre h;have hs:s.length=pre.length:=by show s.cps.size=_;rw[<- z0J,h];simp
   simp[cutsL,splitL,Builtin.Str.strSub,hs];exact Nat.min_le_left _ _
  | cons a l ih =>
   intro pre h;have ih':=ih (pre++[a]) (by simp[h])
   rw[u4,z1H] at ih';have hsub:∀j,pre.length+1<=j->(Builtin.Str.strSub s pre.length j).cps.toList=a::(Builtin.Str.strSub s (pre.length+1) j).cps.toList:=by
    intro j hj;simp only[Builtin.Str.strSub,Array.toList_extract,List.extract_eq_take_drop,h];rw[List.drop_append,List.drop_append];have q:j - pre.length=(j - (pre.length+1))+1:=by omega
    have q2:List.drop (pre.length+1) pre=[]:=List.drop_of_length_le (by omega)
    simp[q,q2]
   rw[cutsL,splitL];split
   ·show Builtin.Str.strSub s pre.length pre.length::_=_::_
    rw[<- ih'];congr 1;simp[Builtin.Str.strSub];exact Nat.min_le_left _ _
   ·have hc:∀ x∈cutsL c (pre.length+1) l,pre.length+1<=x:=u5v c l _
    have hs:pre.length+1<=s.length:=by show _<=s.cps.size;rw[<- z0J,h];simp
    have hj:∀j rest,cutsL c (pre.length+1) l++[s.length]=j::rest->pre.length+1<=j:=by
     intro j rest e
     have:j∈cutsL c (pre.length+1) l++[s.length]:=by rw[e];simp
     rcases v6.1 this with m|m
     ·exact hc _ m
     ·simp at m;omega
    cases e:cutsL c (pre.length+1) l++[s.length] with
    | nil=>simp at e
    | cons j rest =>
     rw[e,List.zip_cons_cons,z0C] at ih';rw[List.zip_cons_cons,z0C];cases e2:splitL c l with
     | nil=>exact absurd e2 (u1M c l)
     | cons w r =>
      rw[e2,z0C] at ih';injection ih' with i1 i2
      rw[z0C,i2];congr 1;have z:=hsub j (hj j rest e);dsimp only at i1;rw[i1] at z;show Builtin.Str.strSub s pre.length j=_;cases hq:Builtin.Str.strSub s pre.length j with
      | mk q =>
       rw[hq] at z;congr 1;apply Array.toList_inj.1;simpa using z
 exact key _ [] rfl
noncomputable def splitS (c:Nat) (z:Str):List Str:=(splitL c z.cps.toList).map λw=>⟨w.toArray⟩
set_option tactic.hygienic true in
theorem u2R  [DecidableEq α] (c:α):∀(l:List α),∀w∈splitL c l,w.length<=l.length
 | [],w,m=>by simp[splitL] at m;simp[m]
 | a::l,w,m=>by
  have ih:=u2R c l;rw[splitL] at m;split at m
  ·rcases z7.1 m with rfl | m
   ·simp
   ·have:=ih w m;simp;omega
  ·split at m
   ·simp at m;subst m;simp
   ·next w' r e =>
    rcases z7.1 m with rfl|m
    ·have:=ih w' (by rw[e];simp);simp;omega
    ·have:=ih w (by rw[e];simp[m]);simp;omega
set_option tactic.hygienic true in
theorem u4D  [DecidableEq α] (c:α):∀(l:List α),∀w∈splitL c l,∀z∈w,z∈l
 | [],w,m,z,h=>by simp[splitL] at m;subst m;simp at h
 | a::l,w,m,z,h=>by
  have ih:=u4D c l;rw[splitL] at m;split at m
  ·rcases z7.1 m with rfl | m
   ·simp at h
   ·exact z5 _ (ih w m z h)
  ·split at m
   ·simp at m;subst m;simp at h;simp[h]
   ·next w' r e =>
    rcases z7.1 m with rfl|m
    ·rcases z7.1 h with rfl | h
     ·simp
     ·exact z5 _ (ih w' (by rw[e];simp) z h)
    ·exact z5 _ (ih w (by rw[e];simp[m]) z h)
set_option tactic.hygienic true in
theorem u3F  [DecidableEq α] (c:α):∀(l:List α),(splitL c l).length<=l.length+1
 | []=>by simp[splitL]
 | a::l=>by
  have ih:=u3F c l;rw[splitL];split
  ·simp;omega
  ·split
   ·simp
   ·next w' r e=>rw[e] at ih;simp at ih |-;omega
theorem valsFrom:∀(ss:List Str) (t:Nat),Vals (ss.map V.str) (strsFrom t ss)
 | [],_=>.nil
 | s::ss,t=>.cons ⟨_,rfl⟩ (valsFrom ss (t+1))
def kind_le (c:Nat) (hc:c<256) (z:Str):decide (Builtin.Str.strKind z<Builtin.Str.strKind ⟨#[c]⟩)=false:=by
 have h1:Builtin.Str.strKind ⟨#[c]⟩=1:=by simp[Builtin.Str.strKind,hc]
 have h2:1<=Builtin.Str.strKind z:=by
  unfold Builtin.Str.strKind;split
  ·decide
  ·split<;>decide
 rw[h1];simp;omega
noncomputable def partsOf (c:Nat) (z:Str):List Str:=Builtin.Str.partsBetween z (Builtin.Str.occurrences z ⟨#[c]⟩ 0 z.length (z.length+1)) 1
def rSplit (c:Nat):V->List V->Hp->VK->Prop:=λx vs H Q=>∃z:Str,x=.str z/\vs=[.str ⟨#[c]⟩]/\z.length+1<=sizeLine/\∀p,H p=none->Q (.ref p) (upd H p (.lst ((splitS c z).map V.str)))
def v1R(hc:c<256):MtM X "str.split" (rSplit c):=by
 intro pins s σ H x vs v us Q I rx rv h;obtain⟨z,rfl,rfl,hz,q⟩:=h;obtain⟨t,rfl⟩:=rx;obtain⟨u,rfl,ru⟩:=rv.one;obtain⟨t2,rfl⟩:=ru;have e0:partsOf c z=splitS c z:=by unfold partsOf splitS;rw[occ_one];exact u9O c z
 have own:splitS c z=[z]->listOfItself z t X.A (wants (EP X pins σ Q) X.xe) s:=by
  intro e;rw[e] at q;exact⟨.ref _,_,I.lnew (ys:=[.str z]) (its:=[.str z t]) (t':=s.toks) (.cons ⟨t,rfl⟩ .nil) (by show 1<=sizeLine;omega),rfl,q _ I.fresh⟩
 by_cases h0:z.length<1
 ·refine call_meets F.slot_str_split (typeIs_str s z t) F.entry_str_split (F.args_str_split_2 _ _) (meets_str_split_cannot_occur z ⟨#[c]⟩ t t2 (by rw [decide_eq_true (show z.length<(Str.mk #[c]).length from h0)];rfl)) (own ?_)
  have:z.cps=#[]:=Array.size_eq_zero_iff.1 (by have:z.cps.size<1:=h0;omega)
  cases z with
  | mk cps=>cases this;rfl
 ·have h1:(decide (z.length<(Str.mk #[c]).length)||decide (Builtin.Str.strKind z<Builtin.Str.strKind ⟨#[c]⟩))=false:=by
   rw[kind_le c hc z,decide_eq_false (show ¬ z.length<(Str.mk #[c]).length from h0)];rfl
  cases h2:(Builtin.Str.occurrences z ⟨#[c]⟩ 0 z.length (z.length+1)).isEmpty with
  | true =>
   refine call_meets F.slot_str_split (typeIs_str s z t) F.entry_str_split (F.args_str_split_2 _ _) (meets_str_split_not_found z ⟨#[c]⟩ t t2 h1 rfl h2) (own ?_);rw[<- e0];unfold partsOf;rw[List.isEmpty_iff.1 h2];simp[Builtin.Str.partsBetween,Builtin.Str.strSub,Str.length]
  | false =>
   have hl:(splitS c z).length<=sizeLine:=by
    have:=u3F c z.cps.toList
    have h3:z.cps.toList.length=z.length:=rfl;unfold splitS;rw[x9];omega
   refine call_meets F.slot_str_split (typeIs_str s z t) F.entry_str_split (F.args_str_split_2 _ _) (meets_str_split_sep z ⟨#[c]⟩ t t2 h1 rfl h2 (by omega) (by have:=hl;rw[<- e0] at this;exact this)) ?_
   show EP X pins σ Q (.ref s.heap.objs.size) { s with heap:=s.heap.push { cls:=.type "list",data:=.seq (strsFrom s.toks (partsOf c z)).toArray },toks:=s.toks+(partsOf c z).length }
   rw[e0];exact⟨.ref _,_,I.lnew (ys:=(splitS c z).map V.str) (its:=strsFrom s.toks (splitS c z)) (t':=s.toks+(splitS c z).length) (valsFrom _ _) (by rw[x9];exact hl),rfl,q _ I.fresh⟩
noncomputable def splitD (c:Nat):D->Res OD
 | .str z=>gd (z.length+1<=sizeLine) (.ok (.l ((splitS c z).map D.str)))
 | _=>.bad
def u5t{j} (he:DE X xq e fe) (hc:c<256:=by decide) (hy:y=⟨#[c]⟩:=by rfl)
  (hbase:attributeBase e "split" X.env (eval e X.env)=eval e X.env:=by rfl) (hline:(apos.endLine==cpos.line)=true:=by rfl) :
  DN X xq (.Call (.Attribute e "split" apos) [.Constant (.str y) j p] [] cpos) (λρ=>(fe ρ).bind (splitD c)):=by
 subst hy;exact⟨λpins s σ H Q I z9=>un5 z9 λB F ρ R q=>pbm PySem.F.plainAttrs_str PySem.F.slot_str_split PySem.F.type_str_split (v1R hc) he.out (pac u5S u0t rfl) rfl rfl hbase hline pins s σ H Q I (seqE R q λd v F1 H1 s1 R1 p1 q1=>by
  cases p1 with
  | @str z hz =>
   obtain⟨h1,q2⟩:=u3w q1;exact⟨rfl,z,rfl,rfl,h1,λp n=>q2 p _ F1 _ (s1.trans (Stp.only R1.fh (u0g n))) (R1.fh.free n) (s1.hh.free n) u0c (.l (u7G λw m=>by
    obtain⟨l,m1,rfl⟩:=z2G.1 m
    have:=u2R c _ l m1
    have h3:z.cps.toList.length=z.length:=rfl;show l.toArray.size<=_;rw[y7];omega))⟩
  | _=>exact q1.elim)⟩
def u6h (z:Str) (ys:List Str):(Txt.join z ys).length<=(ys.map (·.length)).sum+ys.length*z.length:=by
 have key:∀(l:List Str) (acc:Array Nat),(l.foldl (λacc (p:Str)=>acc++z.cps++p.cps) acc).size=acc.size+(l.map (·.length)).sum+l.length*z.length:=by
  intro l;induction l with
  | nil=>intro acc;simp
  | cons p l ih =>
   intro acc;rw[z3A,ih,z0C,List.sum_cons,z0D,Nat.add_mul];show(acc++z.cps++p.cps).size+_+_=_+(p.cps.size+_)+(_+1*z.cps.size);rw[Array.size_append,Array.size_append];omega
 show(List.foldl _ _ _:Array Nat).size<=_;cases ys with
 | nil=>simp[Str.empty]
 | cons y ys =>
  rw[key];show y.cps.size+_+ys.length*z.length<=_;rw[z0C,List.sum_cons,z0D,Nat.add_mul];show _<=y.cps.size+_+_;simp only[List.drop_succ_cons,List.drop_zero];omega
def rJoinA (K:W.Frag):V->List V->Hp->VK->Prop:=λx vs H Q=>∃(z:Str) (p:Addr) (ys:List Str),x=.str z/\vs=[.ref p]/\(Rd H p (.lst (ys.map V.str))\/SqT K H p (ys.map V.str))/\(ys.map (·.length)).sum+ys.length*z.length<=16777216/\Q (.str (Txt.join z ys)) H
def v1S:MtM X "str.join" (rJoinA X.K):=by
 intro pins s σ H x vs v us Q I rx rv h;obtain⟨z,p,ys,rfl,rfl,hq,hz,q⟩:=h;obtain⟨t,rfl⟩:=rx;obtain⟨u,rfl,ru⟩:=rv.one;cases ru;rcases hq with hq|hq
 ·obtain ⟨hn,its,n,r,hl,e⟩:=I.lstR hq
  exact join_list (items:=its.toArray) ⟨_,e,rfl,_,rfl⟩ (by simpa using u2O r) hz λt' k=>⟨.str _,H,I.tok k,⟨t',rfl⟩,q⟩
 ·obtain ⟨its,r,ht,_⟩:=I.tuple hq
  exact join_tuple ht (by simpa using u2O r) hz λt' k=>⟨.str _,H,I.tok k,⟨t',rfl⟩,q⟩
noncomputable def joinL (z:Str) (ds:List D):Res D:=match strsOf ds with
 | some ys=>gd ((ys.map (·.length)).sum+ys.length*z.length<=16777216) (.ok (.str (Txt.join z ys)))
 | none=>.bad
noncomputable def joinD (z:Str):D->Res D
 | .lst ds=>joinL z ds
 | .tup ds=>joinL z ds
 | _=>.bad
def v0B{z:Str}{j} (he:DE X xq e fe) (hs:notStar e=true:=by rfl)
  (hbase:attributeBase (.Constant (.str z) j p) "join" X.env (eval (.Constant (.str z) j p) X.env)=eval (.Constant (.str z) j p) X.env:=by rfl) (hline:(apos.endLine==cpos.line)=true:=by rfl) :
  DE X xq (.Call (.Attribute (.Constant (.str z) j p) "join" apos) [e] [] cpos) (λρ=>(fe ρ).bind (joinD z)) :=
 ⟨λpins s σ H Q I z9=>un5 z9 λB F ρ R q=>pbm PySem.F.plainAttrs_str PySem.F.slot_str_join PySem.F.type_str_join v1S u5S (pac he.out u0t hs) (by rw[z1B,hs];rfl) rfl hbase hline pins s σ H Q I ⟨rfl,seqE R q λd v F1 H1 s1 R1 p1 q1=>by
  have fin:∀{ds:List D}{vs:List V},Rps X.K F1 vs ds->(joinL z ds).all (λd=>∀(v:V) (F' H':Hp),Stp F H F' H'->Rp X.K F' v d->Q v H') (ErrK X.K xq B ρ σ)->∃ys:List Str,vs=ys.map V.str/\(ys.map (·.length)).sum+ys.length*z.length<=16777216/\Q (.str (Txt.join z ys)) H1:=by
   intro ds vs r q2;unfold joinL at q2;cases e:strsOf ds with
   | none=>rw[e] at q2;exact q2.elim
   | some ys =>
    rw[e] at q2;obtain⟨h1,q3⟩:=u3w q2;exact⟨ys,(u5B r e).1,h1,q3 _ F1 H1 s1 (.str (y9 (u6h z ys) h1))⟩
  cases p1 with
  | lst hq r =>
   obtain⟨ys,rfl,h1,q2⟩:=fin r q1;exact⟨z,_,ys,rfl,rfl,.inl (hq.same R1.fh),h1,q2⟩
  | tup hq r =>
   obtain⟨ys,rfl,h1,q2⟩:=fin r q1;exact⟨z,_,ys,rfl,rfl,.inr (R1.fh.seqT hq),h1,q2⟩
  | _=>exact q1.elim⟩⟩
theorem u9v{F:Hp}:∀{xs:List V}{ds:List D} (j:Nat),Rps K F xs ds->Rp K F v d->Rps K F (xs.set j v) (ds.set j d)
 | _,_,_,.nil,_=>.nil
 | _,_,0,.cons _ hs,h=>.cons h hs
 | _,_,j+1,.cons h0 hs,h=>.cons h0 (u9v j hs h)
noncomputable def shS:Sl->Option D
 | .val d=>some d
 | .own _=>none
noncomputable def shp (ρ:Rho):List (Option (Option D)):=ρ.map (Option.map shS)
def u1N (ρ:Rho) (i:Nat):(shp ρ)[i]?=(ρ[i]?).map (Option.map shS):=by unfold shp;rw[v7]
def u3J(h:shp ρ'=shp ρ)  (e:ρ[i]?=some (some (.own o))):∃o',ρ'[i]?=some (some (.own o')):=by
 have z:(shp ρ')[i]?=(shp ρ)[i]?:=by rw[h]
 rw[u1N,u1N,e] at z;cases q:ρ'[i]? with
 | none=>rw[q] at z;cases z
 | some y =>
  rw[q] at z;cases y with
  | none=>cases z
  | some s =>
   cases s with
   | val d=>cases z
   | own o'=>exact⟨o',rfl⟩
def NotOwn (ρ:Rho) (σ:St) (b:Addr):Prop:=∀(i:Nat) o,ρ[i]?=some (some (.own o))->σ[i]?≠some (some (.ref b))
def NotOwn.of{b:Addr} (h:shp ρ'=shp ρ) (n:NotOwn ρ σ b):NotOwn ρ' σ b:=λi o e=>by obtain⟨o',e'⟩:=u3J h.symm e;exact n i o' e'
structure Mv (K:W.Frag) (B:Hp×Hp) (ρ:Rho) (σ:St) (F H:Hp) (ρ':Rho) (F' H':Hp):Prop where
 rel:Rel K B ρ' σ F' H'
 sh:shp ρ'=shp ρ
 ff:Same F F'
 hh:∀b o,NotOwn ρ σ b->H b=some o->H' b=some o
 no:∀b,F b=none->H b≠none->F' b=none
section
variable {F F1 H1 F2 H2:Hp}
theorem Mv.refl (R:Rel K B ρ σ F H):Mv K B ρ σ F H ρ F H:=⟨R,rfl,Same.refl F,λ_ _ _ e=>e,λ_ n _=>n⟩
theorem Mv.step (m:Mv K B ρ σ F H ρ1 F1 H1) (s:Stp F1 H1 F2 H2):Mv K B ρ σ F H ρ1 F2 H2 where
 rel:=m.rel.step s
 sh:=m.sh
 ff:=m.ff.trans s.ff
 hh b o n e:=s.hh b o (m.hh b o n e)
 no b n e:=by
  refine s.no b (m.no b n e) ?_;by_cases q:NotOwn ρ σ b
  ·cases z:H b with
   | none=>exact absurd z e
   | some o=>rw[m.hh b o q z];simp
  ·unfold NotOwn at q
   simp only[Classical.not_forall] at q;obtain⟨i,o,e1,e2⟩:=q;obtain⟨o',e3⟩:=u3J m.sh e1;obtain⟨a,h,p1,p2,p3,p4,p5⟩:=m.rel.own i o' e3;have e2:σ[i]?=some (some (.ref b)):=Classical.not_not.mp e2;rw[e2] at p1;cases p1;rw[p4];simp
def Mv.of (R:Rel K B ρ σ F H) (s:Stp F H F' H'):Mv K B ρ σ F H ρ F' H':=(Mv.refl R).step s
def Mv.dom (m:Mv K B ρ σ F H ρ1 F1 H1) {b:Addr} (e:H b≠none):H1 b≠none:=by
 by_cases q:NotOwn ρ σ b
 ·cases z:H b with
  | none=>exact absurd z e
  | some o=>rw[m.hh b o q z];simp
 ·unfold NotOwn at q
  simp only[Classical.not_forall] at q;obtain⟨i,o,e1,e2⟩:=q;obtain⟨o',e3⟩:=u3J m.sh e1;obtain⟨a,h,p1,p2,p3,p4,p5⟩:=m.rel.own i o' e3;have e2:σ[i]?=some (some (.ref b)):=Classical.not_not.mp e2;rw[e2] at p1;cases p1;rw[p4];simp
def Mv.free (m:Mv K B ρ σ F H ρ1 F1 H1) {b:Addr} (e:H1 b=none):H b=none:=by
 cases z:H b with
 | none=>rfl
 | some o=>exact absurd e (m.dom (by rw[z];simp))
theorem Mv.trans (x:Mv K B ρ σ F H ρ1 F1 H1) (y:Mv K B ρ1 σ F1 H1 ρ2 F2 H2):Mv K B ρ σ F H ρ2 F2 H2 :=
 ⟨y.rel,y.sh.trans x.sh,x.ff.trans y.ff,λb o n e=>y.hh b o (n.of x.sh) (x.hh b o n e),λb n e=>y.no b (x.no b n e) (x.dom e)⟩
end
def liftX (K:W.Frag) (f:Rho->Res (D×Rho)):TE:=λσ H Q=>∃B F ρ,Rel K B ρ σ F H /\
 (f ρ).all (λr=>∀v F' H',Mv K B ρ σ F H r.2 F' H'->Rp K F' v r.1->Q v H') (λ_=>False)
def liftXN (K:W.Frag) (f:Rho->Res (OD×Rho)):TE:=λσ H Q=>∃B F ρ,Rel K B ρ σ F H /\
 (f ρ).all (λr=>∀a h F' H',Mv K B ρ σ F H r.2 F' H'->F' a=none->H a=none->H' a=some h->Ro K F' a h r.1->Q (.ref a) H') (λ_=>False)
def liftXI (K:W.Frag) (f:Rho->Res (List D×Rho)):TI:=λσ H R=>∃B F ρ,Rel K B ρ σ F H /\
 (f ρ).all (λr=>∀J F' H',Mv K B ρ σ F H r.2 F' H'->Feed K F' J r.1->R J H') (λ_=>False)
inductive Ag where
 | v (d:D)|o (j:Nat)
inductive Agr (K:W.Frag) (F:Hp) (σ:St):List V->List Ag->Prop
 | nil:Agr K F σ [] []
 | v {x:V}{d:D}{xs:List V}{as:List Ag}:Rp K F x d->Agr K F σ xs as->Agr K F σ (x::xs) (.v d::as)
 | o {x:V}{j:Nat}{xs:List V}{as:List Ag}:σ[j]?=some (some x)->Agr K F σ xs as->Agr K F σ (x::xs) (.o j::as)
def liftXA (K:W.Frag) (f:Rho->Res (List Ag×Rho)):TA:=λσ H Q=>∃B F ρ,Rel K B ρ σ F H /\
 (f ρ).all (λr=>∀vs F' H',Mv K B ρ σ F H r.2 F' H'->Agr K F' σ vs r.1->Q vs H') (λ_=>False)
structure DX (X:Cx) (e:Expr) (f:Rho->Res (D×Rho)):Prop where
 out:PE X e (liftX X.K f)
structure DXN (X:Cx) (e:Expr) (f:Rho->Res (OD×Rho)):Prop where
 out:PE X e (liftXN X.K f)
structure DXI (X:Cx) (tg iter:Expr) (f:Rho->Res (List D×Rho)):Prop where
 out:PI X tg iter (liftXI X.K f)
structure DXA (X:Cx) (es:List Expr) (f:Rho->Res (List Ag×Rho)):Prop where
 out:PA X es (liftXA X.K f)
 ns:es.all notStar=true
section
variable {F F2 H2:Hp}
def seqX{fa:Rho->Res (D×Rho)}{g:D×Rho->Res α}{P:α->Prop}{T:VK} (R:Rel K B ρ σ F H) (h:((fa ρ).bind g).all P (λ_=>False))
  (k:∀r v F' H',Mv K B ρ σ F H r.2 F' H'->Rp K F' v r.1->(g r).all P (λ_=>False)->T v H'):liftX K fa σ H T :=
 ⟨B,F,ρ,R,Res.all_mono (Res.all_bind.mp h) (λr h' v F' H' m p=>k r v F' H' m p h') (λ_ e=>e)⟩
def seqXA{fa:Rho->Res (List Ag×Rho)}{g:List Ag×Rho->Res α}{P:α->Prop}{T:List V->Hp->Prop} (R:Rel K B ρ σ F H) (h:((fa ρ).bind g).all P (λ_=>False))
  (k:∀r v F' H',Mv K B ρ σ F H r.2 F' H'->Agr K F' σ v r.1->(g r).all P (λ_=>False)->T v H'):liftXA K fa σ H T :=
 ⟨B,F,ρ,R,Res.all_mono (Res.all_bind.mp h) (λr h' v F' H' m p=>k r v F' H' m p h') (λ_ e=>e)⟩
def doneX {r:Res D}{Q:VK} (m:Mv K B ρ σ F H ρ2 F2 H2) (h:((noE r).bind λd=>.ok (d,ρ2)).all (λr:D×Rho=>∀v F' H',Mv K B ρ σ F H r.2 F' H'->Rp K F' v r.1->Q v H') (λ_=>False)) :
  r.all (λd=>∀v F' H',Stp F2 H2 F' H'->Rp K F' v d->Q v H') (λ_=>False):=by
 cases r with
 | ok d=>exact λv F' H' s p=>h v F' H' (m.step s) p
 | err x=>exact h
 | bad=>exact h
end
section
variable {a b c:Expr}{fa fb fx:Rho->Res (D×Rho)}{fs:Rho->Res (List Ag×Rho)}
def DX.of {t:TE} (h:PE X e t) (k:∀B F ρ σ H Q,Rel X.K B ρ σ F H->(fx ρ).all (λr=>∀v F' H',Mv X.K B ρ σ F H r.2 F' H'->Rp X.K F' v r.1->Q v H') (λ_=>False)->t σ H Q):DX X e fx :=
 ⟨λpins s σ H Q I z9=>un5 z9 λB F ρ R q=>h pins s σ H Q I (k B F ρ σ H Q R q)⟩
def u1I (h:DE X xq e fe):DX X e (λρ=>(noE (fe ρ)).bind λd=>.ok (d,ρ)) :=
 DX.of h.out λB F ρ σ H Q R q=>⟨B,F,ρ,R,u1V (Res.all_mono (Res.all_bind.mp q) (λd q v F' H' s p=>q v F' H' (Mv.of R s) p) λ_ z=>z)⟩
def x_ixX {g:D->D->Res D} (ho:IxR X (rD X.K g)) (ha:DX X a fa) (hb:DX X b fb) (hs:PlainIx b:=by intro _ _;rfl):DX X (.Subscript a b pos) (λρ=>(fa ρ).bind λx=>(fb x.2).bind λy=>(noE (g x.1 y.1)).bind λd=>.ok (d,y.2)) :=
 DX.of (pe_ix ho ha.out hb.out hs) λB F ρ σ H Q R q=>seqX R q λx v F1 H1 m1 p1 q1=>seqX m1.rel q1 λy v2 F2 H2 m2 p2 q2 =>
  ⟨F2,x.1,y.1,m2.rel.fh,p1.same m2.ff,p2,doneX (m1.trans m2) q2⟩
def u2y:DXA X [] (λρ=>.ok ([],ρ)):=⟨λpos pins s σ H Q I z9=>un5 z9 λB F ρ R q=>u0t pos pins s σ H Q I (q [] F H (Mv.refl R) .nil),rfl⟩
def u1y (ha:DX X e fx) (hr:DXA X es fs) (hs:notStar e=true:=by rfl):DXA X (e::es) (λρ=>(fx ρ).bind λd=>(fs d.2).bind λr=>.ok (.v d.1::r.1,r.2)) :=
 ⟨λpos pins s σ H Q I z9=>un5 z9 λB F ρ R q=>pac ha.out hr.out hs pos pins s σ H Q I (seqX R q λd v F1 H1 m1 p1 q1=>seqXA m1.rel q1 λr vs F2 H2 m2 p2 q2 =>
  q2 (v::vs) F2 H2 (m1.trans m2) (.v (p1.same m2.ff) p2)),by rw[z1B,hs,hr.ns];rfl⟩
noncomputable def isOwnR (ρ:Rho) (j:Nat):Bool:=match ρ[j]? with
 | some (some (.own _))=>true
 | _=>false
set_option tactic.hygienic true in
def v0k(h:isOwnR ρ j=true):∃o,ρ[j]?=some (some (.own o)):=by
 unfold isOwnR at h;split at h
 ·rename_i o e;exact⟨o,e⟩
 ·cases h
def u3m (j:Nat) (hr:DXA X es fs) (hN:X.N[j]?=some x:=by rfl) (hv:Vis X.env.scope x:=by first|exact Or.inl rfl|exact Or.inr (Or.inl rfl)|exact Or.inr (Or.inr rfl)) (hd:(x==("__debug__":Str))=false:=by decide)
  (hcd:(x==("__classdict__":Str))=false:=by decide):DXA X (.Name x pos::es) (λρ=>if isOwnR ρ j=true then (fs ρ).bind λr=>.ok (.o j::r.1,r.2) else .bad) :=
 ⟨λpos pins s σ H Q I z9=>un5 z9 λB F ρ R q=>pac (u0v hN hv hd hcd) hr.out rfl pos pins s σ H Q I (by
  dsimp only at q;by_cases w:isOwnR ρ j=true
  ·rw [if_pos w] at q
   obtain⟨o,e⟩:=v0k w;obtain⟨a,h,p1,p2⟩:=R.own j o e;exact⟨.ref a,p1,seqXA R q λr vs F2 H2 m2 g2 q2=>q2 (.ref a::vs) F2 H2 m2 (.o p1 g2)⟩
  ·rw[if_neg w] at q;exact q.elim),by rw[z1B,hr.ns];rfl⟩
noncomputable def agv:List Ag->Res (List D)
 | []=>.ok []
 | .v d::as=>(agv as).bind λds=>.ok (d::ds)
 | _=>.bad
theorem u7s{F:Hp}:∀{vs:List V}{as:List Ag}{ds:List D},Agr K F σ vs as->agv as=.ok ds->Rps K F vs ds
 | _,_,_,.nil,e=>by cases e;exact .nil
 | _,_,_,.v (as:=as) h hs,e=>by
  rw[agv] at e;cases q:agv as with
  | ok es=>rw[q] at e;cases e;exact .cons h (u7s hs q)
  | err x=>rw[q] at e;cases e
  | bad=>rw[q] at e;cases e
 | _,_,_,.o _ _,e=>by cases e
set_option tactic.hygienic true in
def u8S(hm:X.mg "range"=none) (ha:DXA X [a] fs) (hg:Gl X "range":=by rfl) :DXI X tg (.Call (.Name "range" p) [a] [] pos) (λρ=>(fs ρ).bind λr=>(noE (agv r.1)).bind λds=>(noE (rng1 ds)).bind λl=>.ok (l,r.2)) :=
 ⟨λpins s σ H R I z9=>un5 z9 λB F ρ R' q=>u5R hg hm ha.out (u0l (u0j ha.ns).1) pins s σ H R I (seqXA R' q λr vs F1 H1 m1 p1 q1=>by
  cases w:agv r.1 with
  | err x=>rw[w] at q1;exact q1.elim
  | bad=>rw[w] at q1;exact q1.elim
  | ok ds =>
   rw[w] at q1
   replace q1:((noE (rng1 ds)).bind _).all _ _:=q1
   have p2:=u7s p1 w;unfold rng1 at q1;split at q1
   ·rename_i j
    by_cases c:-(2^62)<=j/\j<2^62
    ·rw [u0u c] at q1
     obtain⟨v,rfl,pv⟩:=rps1 p2;cases pv;exact⟨j,rfl,c.1,c.2,q1 _ F1 H1 m1 (Feed.rng 0 _)⟩
    ·unfold gd at q1;rw[if_neg c] at q1;exact q1.elim
   ·exact q1.elim)⟩
end
section
variable {elt:Expr}{fe:Rho->Res (D×Rho)}{fi:Rho->Res (List D×Rho)}{scope:Scope}
def Mv.keep{F:Hp}{hh:HO} (R:Rel K B ρ σ F H) (m:Mv K B ρ σ F H ρ1 F' H') (n1:F' a=none) (n2:H a=none) (e1:H' a=some hh) (z9:NoZ hh):Mv K B ρ σ F H ρ1 (upd F' a hh) H':=by
 have sf:Same F' (upd F' a hh):=u0g n1;have un:∀{b:Addr},b≠a->F' b=none->upd F' a hh b=none:=λz n=>by unfold upd;rw[if_neg z];exact n
 refine⟨⟨⟨m.rel.st.ff.trans sf,λb u x=>?_,m.rel.st.hh,λb x y=>un (λz=>?_) (m.rel.st.no b x y),u5z z9 m.rel.st.nz⟩,m.rel.len,λj d e=>?_,λj o e=>?_,m.rel.dis⟩,m.sh,m.ff.trans sf,m.hh,λb n e=>un (λz=>e (z ▸ n2)) (m.no b n e)⟩
 ·unfold upd at x
  by_cases z:b=a
  ·rw[if_pos z] at x;cases x;subst z;exact e1
  ·rw[if_neg z] at x;exact m.rel.st.fh b u x
 ·subst z;exact y (R.st.hh.free n2)
 ·obtain⟨v,p1,p2⟩:=m.rel.val j d e;exact⟨v,p1,p2.same sf⟩
 ·obtain ⟨b,h,p1,p2,p3,p4,p5⟩:=m.rel.own j o e
  obtain⟨o',e'⟩:=u3J m.sh.symm e;obtain⟨c,h',g1,g2,g3,g4,g5⟩:=R.own j o' e';rw[p1] at g1;cases g1;exact⟨b,h,p1,un (λz=>by subst z;rw[n2] at g4;cases g4) p2,p3,p4,Ro.same sf p5⟩
def DXN.de{f:Rho->Res (OD×Rho)} (h:DXN X e f):DX X e (λρ=>(f ρ).bind λr=>.ok (r.1.toD,r.2)) :=
 DX.of h.out λB F ρ σ H Q R q=>⟨B,F,ρ,R,Res.all_mono (Res.all_bind.mp q) (λr q1 a hh F' H' m n1 n2 e1 r1=>q1 _ _ _ (m.keep R n1 n2 e1 r1.nz) ((Ro.same (u0g n1) r1).rp u0c)) λ_ z=>z⟩
end
def spM (K:W.Frag) (g:List Sl->Res (D×List Sl)):Sp:=λvs H Q E=>∃(F hb:Hp) (sl:List Sl),Rel K (F,hb) (sl.map some) (vs.map some) F H/\(∀b o,NotOwn (sl.map some) (vs.map some) b->H b=some o->hb b=some o) /\
 (g sl).all (λr=>∀v F' H',Mv K (F,hb) (sl.map some) (vs.map some) F H (r.2.map some) F' H'->Rp K F' v r.1->Q v H') (λ_=>False)
noncomputable def unp:OD->OD
 | .p _ o=>o
 | o=>o
noncomputable def repO (o0 o:OD):OD:=match o0 with
 | .p a _=>.p a o
 | _=>o
theorem Ro.unp{F:Hp}{h:HO} (r:Ro K F a h o):Ro K F a h (L2.unp o):=by
 cases r with
 | p r=>exact r
 | l r=>exact .l r
 | d r=>exact .d r
 | i r=>exact .i r
 | n r=>exact .n r
def Ro.rep{F:Hp}{h h':HO} (r0:Ro K F a h' o0) (r:Ro K F' a h o):Ro K F' a h (repO o0 o):=by
 cases r0 with
 | p _=>exact .p r
 | l _=>exact r
 | d _=>exact r
 | i _=>exact r
 | n _=>exact r
noncomputable def slAll (ρ:Rho):List Ag->Res (List Sl)
 | []=>.ok []
 | .v d::as=>(slAll ρ as).bind λs=>.ok (.val d::s)
 | .o j::as=>match ρ[j]? with
  | some (some (.own o))=>(slAll ρ as).bind λs=>.ok (.own (unp o)::s)
  | _=>.bad
noncomputable def agO:List Ag->List Nat
 | []=>[]
 | .v _::as=>agO as
 | .o j::as=>j::agO as
noncomputable def slOf (ρ:Rho) (as:List Ag):Res (List Sl):=gd (agO as).Nodup (slAll ρ as)
noncomputable def putB:List Ag->List Sl->Rho->Rho
 | .o j::as,.own o::ss,ρ=>putB as ss (match ρ[j]? with
  | some (some (.own o0))=>ρ.set j (some (.own (repO o0 o)))
  | _=>ρ)
 | _::as,_::ss,ρ=>putB as ss ρ
 | _,_,ρ=>ρ
theorem u9m:∀{as:List Ag}{sl:List Sl}{i:Nat}{d:D},slAll ρ as=.ok sl->sl[i]?=some (.val d)->as[i]?=some (.v d)
 | [],sl,i,d,h,e=>by cases h;cases e
 | .v d'::as,sl,i,d,h,e=>by
  rw[slAll] at h;cases q:slAll ρ as with
  | ok s =>
   rw[q] at h;cases h;cases i with
   | zero=>simp at e;simp[e]
   | succ i=>simpa using u9m q (by simpa using e)
  | err x=>rw[q] at h;cases h
  | bad=>rw[q] at h;cases h
 | .o j::as,sl,i,d,h,e=>by
  rw[slAll] at h;split at h
  ·cases q:slAll ρ as with
   | ok s =>
    rw[q] at h;cases h;cases i with
    | zero=>simp at e
    | succ i=>simpa using u9m q (by simpa using e)
   | err x=>rw[q] at h;cases h
   | bad=>rw[q] at h;cases h
  ·cases h
set_option tactic.hygienic true in
theorem u4F:∀{as:List Ag}{sl:List Sl}{i:Nat}{o:OD},slAll ρ as=.ok sl->sl[i]?=some (.own o)->∃j o0,as[i]?=some (.o j)/\ρ[j]?=some (some (.own o0))/\o=unp o0
 | [],sl,i,d,h,e=>by cases h;cases e
 | .v d'::as,sl,i,o,h,e=>by
  rw[slAll] at h;cases q:slAll ρ as with
  | ok s =>
   rw[q] at h;cases h;cases i with
   | zero=>simp at e
   | succ i=>simpa using u4F q (by simpa using e)
  | err x=>rw[q] at h;cases h
  | bad=>rw[q] at h;cases h
 | .o j::as,sl,i,o,h,e=>by
  rw[slAll] at h;split at h
  ·rename_i o0 e0
   cases q:slAll ρ as with
   | ok s =>
    rw[q] at h;cases h;cases i with
    | zero=>simp at e;exact⟨j,o0,by simp,e0,e.symm⟩
    | succ i=>simpa using u4F q (by simpa using e)
   | err x=>rw[q] at h;cases h
   | bad=>rw[q] at h;cases h
  ·cases h
set_option tactic.hygienic true in
theorem v1m:∀{as:List Ag}{sl:List Sl}{i j:Nat},slAll ρ as=.ok sl->as[i]?=some (.o j)->∃o0,sl[i]?=some (.own (unp o0))/\ρ[j]?=some (some (.own o0))
 | [],sl,i,d,h,e=>by cases e
 | .v d'::as,sl,i,j,h,e=>by
  rw[slAll] at h;cases q:slAll ρ as with
  | ok s =>
   rw[q] at h;cases h;cases i with
   | zero=>simp at e
   | succ i=>simpa using v1m q (by simpa using e)
  | err x=>rw[q] at h;cases h
  | bad=>rw[q] at h;cases h
 | .o j'::as,sl,i,j,h,e=>by
  rw[slAll] at h;split at h
  ·rename_i o0 e0
   cases q:slAll ρ as with
   | ok s =>
    rw[q] at h;cases h;cases i with
    | zero=>simp at e;subst e;exact⟨o0,by simp,e0⟩
    | succ i=>simpa using v1m q (by simpa using e)
   | err x=>rw[q] at h;cases h
   | bad=>rw[q] at h;cases h
  ·cases h
theorem u9n:∀{as:List Ag}{sl:List Sl},slAll ρ as=.ok sl->sl.length=as.length
 | [],sl,h=>by cases h;rfl
 | .v d'::as,sl,h=>by
  rw[slAll] at h;cases q:slAll ρ as with
  | ok s=>rw[q] at h;cases h;simp[u9n q]
  | err x=>rw[q] at h;cases h
  | bad=>rw[q] at h;cases h
 | .o j::as,sl,h=>by
  rw[slAll] at h;split at h
  ·cases q:slAll ρ as with
   | ok s=>rw[q] at h;cases h;simp[u9n q]
   | err x=>rw[q] at h;cases h
   | bad=>rw[q] at h;cases h
  ·cases h
theorem u4m:∀{as:List Ag}{j:Nat},j∈agO as↔Ag.o j∈as
 | [],j=>by simp[agO]
 | .v d::as,j=>by simp[agO,u4m (as:=as)]
 | .o i::as,j=>by simp[agO,u4m (as:=as)]
theorem u7t:∀{as:List Ag}{i i' j:Nat},(agO as).Nodup->as[i]?=some (Ag.o j)->as[i']?=some (Ag.o j)->i=i'
 | [],_,_,_,_,e,_=>by cases e
 | .v d::as,i,i',j,n,e,e'=>by
  cases i with
  | zero=>simp at e
  | succ i =>
   cases i' with
   | zero=>simp at e'
   | succ i'=>exact congrArg (·+1) (u7t (as:=as) n (by simpa using e) (by simpa using e'))
 | .o k::as,i,i',j,n,e,e'=>by
  have n:=z2D.mp n;have nm:∀t,as[t]?=some (Ag.o j)->j≠k:=λt h z=>n.1 (by subst z;exact u4m.mpr (List.mem_of_getElem? h))
  cases i with
  | zero =>
   simp at e;cases i' with
   | zero=>rfl
   | succ i'=>exact absurd e.symm (nm i' (by simpa using e'))
  | succ i =>
   cases i' with
   | zero=>simp at e';exact absurd e'.symm (nm i (by simpa using e))
   | succ i'=>exact congrArg (·+1) (u7t (as:=as) n.2 (by simpa using e) (by simpa using e'))
theorem u2E:∀{as:List Ag}{ss:List Sl}{ρ:Rho},Ag.o j∉as->(putB as ss ρ)[j]?=ρ[j]?
 | [],_,_,_=>by simp[putB]
 | _::_,[],_,_=>by simp[putB]
 | .v d::as,s::ss,ρ,h=>by rw[putB];exact u2E (λm=>h (z5 _ m));exact λ_ _ e=>by cases e
 | .o i::as,.val d::ss,ρ,h=>by rw[putB];exact u2E (λm=>h (z5 _ m));exact λ_ _ _ e=>by cases e
 | .o i::as,.own o::ss,ρ,h=>by
  rw[putB,u2E (λm=>h (z5 _ m))]
  split
  ·exact u0E λe=>h (by simp[e])
  ·rfl
theorem u5a:∀{as:List Ag}{ss:List Sl}{ρ:Rho}{i:Nat},(agO as).Nodup->as[i]?=some (Ag.o j)->ss[i]?=some (.own o)->ρ[j]?=some (some (.own o0))->(putB as ss ρ)[j]?=some (some (.own (repO o0 o)))
 | [],_,_,_,_,e,_,_=>by cases e
 | _::_,[],_,_,_,_,e,_=>by cases e
 | .v d::as,s::ss,ρ,i,n,e,e',q=>by
  cases i with
  | zero=>simp at e
  | succ i=>rw[putB];exact u5a (as:=as) n (by simpa using e) (by simpa using e') q;exact λ_ _ e=>by cases e
 | .o k::as,.val d::ss,ρ,i,n,e,e',q=>by
  have n:=z2D.mp n;cases i with
  | zero=>simp at e'
  | succ i=>rw[putB];exact u5a (as:=as) n.2 (by simpa using e) (by simpa using e') q;exact λ_ _ _ e=>by cases e
 | .o k::as,.own u::ss,ρ,i,n,e,e',q=>by
  have n:=z2D.mp n;cases i with
  | zero =>
   simp at e e';subst e e';rw[putB,u2E (λm=>n.1 (u4m.mpr m)),q]
   exact u4G (w9.mp q).1
  | succ i =>
   have hk:j≠k:=λz=>n.1 (by subst z;exact u4m.mpr (List.mem_of_getElem? (by simpa using e)))
   rw[putB];refine u5a (as:=as) n.2 (by simpa using e) (by simpa using e') ?_
   split
   ·rw[u0E hk];exact q
   ·exact q
theorem u3B:∀{as:List Ag}{ss:List Sl}{ρ:Rho},(putB as ss ρ).length=ρ.length
 | [],_,_=>by simp[putB]
 | _::_,[],_=>by simp[putB]
 | .v d::as,s::ss,ρ=>by rw[putB];exact u3B;exact λ_ _ e=>by cases e
 | .o i::as,.val d::ss,ρ=>by rw[putB];exact u3B;exact λ_ _ _ e=>by cases e
 | .o i::as,.own o::ss,ρ=>by
  rw[putB,u3B]
  split<;>simp
theorem Agr.val{F:Hp}:∀{vs:List V}{as:List Ag}{i:Nat}{d:D},Agr K F σ vs as->as[i]?=some (.v d)->∃x,vs[i]?=some x/\Rp K F x d
 | _,_,i,d,.nil,e=>by cases e
 | _,_,0,d,.v h hs,e=>by simp at e;subst e;exact⟨_,rfl,h⟩
 | _,_,i+1,d,.v h hs,e=>by simpa using hs.val (by simpa using e)
 | _,_,0,d,.o h hs,e=>by simp at e
 | _,_,i+1,d,.o h hs,e=>by simpa using hs.val (by simpa using e)
theorem Agr.own{F:Hp}:∀{vs:List V}{as:List Ag}{i j:Nat},Agr K F σ vs as->as[i]?=some (Ag.o j)->∃x,vs[i]?=some x/\σ[j]?=some (some x)
 | _,_,i,d,.nil,e=>by cases e
 | _,_,0,d,.v h hs,e=>by simp at e
 | _,_,i+1,d,.v h hs,e=>by simpa using hs.own (by simpa using e)
 | _,_,0,d,.o h hs,e=>by simp at e;subst e;exact⟨_,rfl,h⟩
 | _,_,i+1,d,.o h hs,e=>by simpa using hs.own (by simpa using e)
theorem Agr.length{F:Hp}:∀{vs:List V}{as:List Ag},Agr K F σ vs as->vs.length=as.length
 | _,_,.nil=>rfl
 | _,_,.v _ hs=>congrArg (·+1) hs.length
 | _,_,.o _ hs=>congrArg (·+1) hs.length
def map_some{l:List α}{x:α}:(l.map some)[i]?=some (some x)↔l[i]?=some x:=by
 rw[v7];cases l[i]?<;>simp
section
variable {F:Hp}{as:List Ag}
open Classical in
noncomputable def lessH (σ:St) (as:List Ag) (H:Hp):Hp:=λb=>if ∃j,Ag.o j∈as/\σ[j]?=some (some (.ref b)) then none else H b
def Rel.hand (R:Rel K B ρ σ F H) (h:slAll ρ as=.ok sl) (nd:(agO as).Nodup) (ag:Agr K F σ vs as):Rel K (F,lessH σ as H) (sl.map some) (vs.map some) F H where
 st:=⟨Same.refl F,R.fh,λb o e=>by
  have e:lessH σ as H b=some o:=e;unfold lessH at e;by_cases z:∃j,Ag.o j∈as/\σ[j]?=some (some (.ref b))
  ·rw[if_pos z] at e;cases e
  ·rw[if_neg z] at e;exact e,λ_ n _=>n,λ_ _ _ q=>q⟩
 len:=by rw[x9,x9,ag.length,u9n h]
 val i d e:=by
  obtain⟨x,h1,h2⟩:=ag.val (u9m h (map_some.mp e));exact⟨x,map_some.mpr h1,h2⟩
 own i o e:=by
  obtain⟨j,o0,h1,h2,rfl⟩:=u4F h (map_some.mp e);obtain⟨x,h3,h4⟩:=ag.own h1;obtain⟨a,hh,p1,p2,p3,p4,p5⟩:=R.own j o0 h2;rw[p1] at h4;cases h4;refine⟨a,hh,map_some.mpr h3,p2,?_,p4,p5.unp⟩;show lessH σ as H a=none;unfold lessH;exact if_pos ⟨j,List.mem_of_getElem? h1,p1⟩
 dis i i' o u a e e' q q':=by
  obtain⟨j,o0,h1,h2,rfl⟩:=u4F h (map_some.mp e);obtain⟨j',o0',h1',h2',rfl⟩:=u4F h (map_some.mp e');obtain⟨x,h3,h4⟩:=ag.own h1;obtain⟨x',h3',h4'⟩:=ag.own h1';rw[map_some.mp q] at h3;cases h3;rw[map_some.mp q'] at h3';cases h3'
  have:=R.dis j j' o0 o0' a h2 h2' h4 h4'
  subst this;exact u7t nd h1 h1'
def v0o (R:Rel K B ρ σ F H) (h:slAll ρ as=.ok sl) (ag:Agr K F σ vs as):∀b o,NotOwn (sl.map some) (vs.map some) b->H b=some o->lessH σ as H b=some o:=λb o n e=>by
 unfold lessH;rw[if_neg]
 ·exact e
 ·rintro ⟨j,m,q⟩
  obtain⟨t,ht,z⟩:=List.mem_iff_getElem.mp m;have z:as[t]?=some (Ag.o j):=by rw[<- z];simp[ht]
  obtain⟨o0,h1,h2⟩:=v1m h z;obtain⟨x,h3,h4⟩:=ag.own z;rw[q] at h4;cases h4;exact n t _ (map_some.mpr h1) (map_some.mpr h3)
def u2D (h:slAll ρ as=.ok sl) (nd:(agO as).Nodup) (sh:shp (sl'.map some)=shp (sl.map some)) (j:Nat):(Ag.o j∉as/\(putB as sl' ρ)[j]?=ρ[j]?)\/∃(t:Nat) (o0 o':OD),as[t]?=some (Ag.o j)/\ρ[j]?=some (some (.own o0))/\sl'[t]?=some (Sl.own o')/\(putB as sl' ρ)[j]?=some (some (.own (repO o0 o'))):=by
 by_cases m:Ag.o j∈as
 ·obtain ⟨t,ht,z⟩:=List.mem_iff_getElem.mp m
  have z:as[t]?=some (Ag.o j):=by rw[<- z];simp[ht]
  obtain⟨o0,h1,h2⟩:=v1m h z;obtain⟨o',h3⟩:=u3J sh (map_some.mpr h1);have h3:=map_some.mp h3;exact .inr ⟨t,o0,o',z,h2,h3,u5a nd z h3 h2⟩
 ·exact .inl ⟨m,u2E m⟩
def Mv.call (R:Rel K B ρ σ F H) (h:slAll ρ as=.ok sl) (nd:(agO as).Nodup) (ag:Agr K F σ vs as) (m:Mv K (F,lessH σ as H) (sl.map some) (vs.map some) F H (sl'.map some) F' H'):Mv K B ρ σ F H (putB as sl' ρ) F' H':=by
 have nw:∀{b:Addr},(∀(j:Nat) o,Ag.o j∈as->ρ[j]?=some (some (.own o))->σ[j]?≠some (some (.ref b)))->NotOwn (sl.map some) (vs.map some) b:=λn x o e z=>by
  obtain⟨j,o0,h1,h2,rfl⟩:=u4F h (map_some.mp e);obtain⟨y,h3,h4⟩:=ag.own h1;rw[map_some.mp z] at h3;cases h3;exact n j o0 (List.mem_of_getElem? h1) h2 h4
 have own0:∀{j:Nat}{o:OD},(putB as sl' ρ)[j]?=some (some (.own o))->∃o0,ρ[j]?=some (some (.own o0)):=λ{j o} e=>by
  rcases u2D h nd m.sh j with⟨_,q⟩|⟨t,o0,o',_,q,_⟩
  ·rw[q] at e;exact⟨o,e⟩
  ·exact⟨o0,q⟩
 refine⟨⟨⟨R.st.ff.trans m.ff,m.rel.fh,λb o e=>?_,λb n e=>?_,λa x u q=>R.st.nz a x u (m.rel.st.nz a x u q)⟩,by rw[u3B];exact R.len,λj u e=>?_,λj o e=>?_,λj j' o u a e e'=>?_⟩,?_,m.ff,λb o n e=>m.hh b o (nw λj o _ e=>n j o e) e,m.no⟩
 ·refine m.hh b o (nw fun j o' _ e' z=>?_) (R.st.hh b o e)
  obtain⟨a,hh,p1,p2,p3,_⟩:=R.own j o' e';rw[z] at p1;cases p1;rw[p3] at e;cases e
 ·exact m.no b (R.st.no b n e) (u0Q R.st.hh e)
 ·rcases u2D h nd m.sh j with ⟨_,q⟩ | ⟨t,o0,o',_,_,_,q⟩
  ·rw [q] at e
   obtain⟨v,p1,p2⟩:=R.val j u e;exact⟨v,p1,p2.same m.ff⟩
  ·rw[q] at e;cases e
 ·rcases u2D h nd m.sh j with ⟨hj,q⟩ | ⟨t,o0,o',h1,h2,h3,q⟩
  ·rw [q] at e
   obtain⟨a,hh,p1,p2,p3,p4,p5⟩:=R.own j o e;refine⟨a,hh,p1,m.no a p2 (by rw[p4];simp),p3,m.hh a hh (nw λj' o' mj e' z=>?_) p4,Ro.same m.ff p5⟩
   have:=R.dis j j' o o' a e e' p1 z
   exact hj (this ▸ mj)
  ·rw [q] at e;cases e
   obtain⟨a,hh,p1,p2,p3,p4,p5⟩:=R.own j o0 h2;obtain⟨x,h4,h5⟩:=ag.own h1;rw[p1] at h5;cases h5;obtain⟨a',hh',g1,g2,g3,g4,g5⟩:=m.rel.own t o' (map_some.mpr h3);rw[map_some.mpr h4] at g1;cases g1;exact⟨a,hh',p1,g2,p3,g4,p5.rep g5⟩
 ·obtain ⟨o1,e1⟩:=own0 e
  obtain⟨o2,e2⟩:=own0 e';exact R.dis j j' o1 o2 a e1 e2
 ·apply List.ext_getElem?
  intro j;rw[u1N,u1N];rcases u2D h nd m.sh j with⟨_,q⟩|⟨t,o0,o',_,q1,_,q⟩
  ·rw[q]
  ·rw[q,q1];rfl
end
section
variable {a b c:Expr}{fx:Rho->Res (D×Rho)}{fs:Rho->Res (List Ag×Rho)}
def x_fn{g:List Sl->Res (D×List Sl)} (h:Callee P w K mg base k x ps (spM K g)) (hr:Room k' X.A) (ha:DXA X (e::es) fs) (hk:k<=k':=by decide) (hg:Gl X x:=by rfl)
  (eP:X.prog=P:=by rfl) (ew:X.w=w:=by rfl) (eK:X.K=K:=by rfl) (em:X.mg=mg:=by rfl) (eb:X.base=base:=by rfl) (hdb:(x==("__debug__":Str))=false:=by decide) :
  DX X (.Call (.Name x p) (e::es) [] pos) (λρ=>(fs ρ).bind λr=>(noE (slOf r.2 r.1)).bind λsl=>(noE (g sl)).bind λu=>.ok (u.1,putB r.1 u.2 r.2)) :=
 DX.of (u9L h hr hk ha.out hg eP ew eK em eb hdb ha.ns) λB F ρ σ H Q R q=>seqXA R q λr vs F1 H1 m1 p1 q1=>by
  subst eK;cases w1:slOf r.2 r.1 with
  | err x=>rw[w1] at q1;exact q1.elim
  | bad=>rw[w1] at q1;exact q1.elim
  | ok sl =>
   rw[w1] at q1;have w2:(agO r.1).Nodup/\slAll r.2 r.1=.ok sl:=by
    unfold slOf gd at w1;split at w1
    ·exact⟨by assumption,w1⟩
    ·cases w1
   refine⟨F1,lessH σ r.1 H1,sl,by rw[List.append_nil];exact m1.rel.hand w2.2 w2.1 p1,by rw[List.append_nil];exact v0o m1.rel w2.2 p1,?_⟩
   have q2:((noE (g sl)).bind _).all _ _:=q1;cases w3:g sl with
   | err x=>rw[w3] at q2;exact q2.elim
   | bad=>rw[w3] at q2;exact q2.elim
   | ok u =>
    rw[w3] at q2;intro v F' H' m p;rw[List.append_nil] at m;exact q2 v F' H' (m1.trans (Mv.call m1.rel w2.2 w2.1 p1 m)) p
def dsx_n(hN:X.N.Nodup) (he:DX X e fx) (hi:X.N.findIdx? (λy=>y==x)=some i:=by rfl) (hx:Loc X.env.scope x:=by first|exact Or.inl rfl|exact Or.inr rfl) (hs:swapsWith e (some (.Name x pos')) pos.line X.env=pure false:=by rfl)
  (hf:X.fn x=true\/X.env.scope.names.lookup x=some .local:=by first|exact .inl rfl|exact .inr rfl):DS X xq (.Assign [.Name x pos'] e pos) (λρ=>(noE (fx ρ)).go ρ λr=>.nx (r.2.set i (some (.val r.1)))) :=
 DS.of (ps_n hN he.out hi hx hs hf) λB F ρ σ H T R q=>⟨B,F,ρ,R,u1V (Res.all_mono (u0C q.out) (λr q v F' H' m p=>q _ F' H' (m.rel.set p)) λ_ z=>z)⟩
end
inductive OutM where
 | rm (d:D) (ρ:Rho)|bad
structure OkM (K:W.Frag) (B:Hp×Hp) (T:Ends) (o:OutM):Prop where
 out:match o with
  | .rm d ρ=>∀v σ F H,Rel K B ρ σ F H->Rp K F v d->T.rt v H
  | .bad=>False
def liftM (K:W.Frag) (f:Rho->OutM):TS:=λT σ H=>∃B F ρ,Rel K B ρ σ F H/\OkM K B T (f ρ)
structure DMB (X:Cx) (sts:List Stmt) (f:Rho->OutM):Prop where
 out:PSs X sts (liftM X.K f)
noncomputable def Res.gm(r:Res α) (k:α->OutM):OutM:=match r with
 | .ok a=>k a
 | _=>.bad
@[simp] theorem u8G(a:α) (k:α->OutM):(Res.ok a).gm k=k a:=rfl
@[simp] theorem gm_bad(k:α->OutM):(Res.bad:Res α).gm k=.bad:=rfl
@[simp] theorem gm_err(x:D) (k:α->OutM):(Res.err x:Res α).gm k=.bad:=rfl
noncomputable def thenM (o:Out) (g:Rho->OutM):OutM:=match o with
 | .nx ρ=>g ρ
 | _=>.bad
@[simp] theorem u2b (ρ:Rho) (g:Rho->OutM):thenM (.nx ρ) g=g ρ:=rfl
section
variable {c:Expr}{fx:Rho->Res (D×Rho)}{f:Rho->Out}{g ga:Rho->OutM}
def v0p{r:Res α}{k:α->OutM}{T:Ends}{E:D->Prop} (h:OkM K B T (r.gm k)):r.all (λa=>OkM K B T (k a)) E:=by
 cases r with
 | ok a=>exact h
 | err x=>exact(show False from h.out).elim
 | bad=>exact(show False from h.out).elim
def u6m (he:DX X e fx):DMB X [.Return (some e) pos] (λρ=>(fx ρ).gm λr=>.rm r.1 r.2) :=
 ⟨u0n λpins s σ H T I z9=>un5 z9 λB F ρ R q=>u0H he.out pins s σ H T I ⟨B,F,ρ,R,Res.all_mono (v0p q) (λr k v F' H' m p=>k.out v σ F' H' m.rel p) λ_ z=>z⟩⟩
def u1Y (h1:DS X xqF st f) (h2:DMB X sts g):DMB X (st::sts) (λρ=>thenM (f ρ) g) :=
 ⟨λpins s σ H T I z9=>un5 z9 λB F ρ R q=>u0i h1.out h2.out pins s σ H T I ⟨B,F,ρ,R,⟨by
  dsimp only at q;generalize f ρ=o at q;cases o with
  | nx ρ1=>exact λσ1 F1 H1 R1=>⟨B,F1,ρ1,R1,q⟩
  | rt d=>exact(show False from q.out).elim
  | bk r=>exact(show False from q.out).elim
  | ct r=>exact(show False from q.out).elim
  | er x r=>exact(show False from q.out).elim
  | bad=>exact(show False from q.out).elim⟩⟩⟩
def dm_if {a:List Stmt} (hc:DT X xqF c fT) (ha:DMB X a ga) (hb:DMB X sts g):DMB X (.If c a [] pos::sts) (λρ=>(fT (frz ρ)).gm λk=>if k=true then ga ρ else g ρ) :=
 ⟨λpins s σ H T I z9=>un5 z9 λB F ρ R q=>u0i (u1F hc.out ha.out u0G) hb.out pins s σ H T I ⟨B,F,ρ,R,Res.all_mono (v0p (E:=λ_=>False) q) (λk q H' s=>by
  cases k with
  | true =>
   rw[if_pos rfl] at q |-
   exact⟨B,F,ρ,R.step s,⟨by
    have q:=q.out;generalize ga ρ=o at q |-
    cases o with
    | rm d ρ'=>exact q
    | bad=>exact q⟩⟩
  | false =>
   rw[if_neg (by decide)] at q |-
   exact⟨B,F,ρ,R.step s,q⟩) λ_ z=>z.elim⟩⟩
end
noncomputable def pinS (A:Nat->Addr):Nat->List Sl->Rho
 | _,[]=>[]
 | i,.val d::r=>some (.val d)::pinS A (i+1) r
 | i,.own o::r=>some (.own (.p (A i) o))::pinS A (i+1) r
noncomputable def unS (A:Nat->Addr):Nat->List Sl->Rho->Res (List Sl)
 | _,[],_=>.ok []
 | i,.val d::r,ρ=>(unS A (i+1) r ρ).bind λs=>.ok (.val d::s)
 | i,.own _::r,ρ=>match ρ[i]? with
  | some (some (.own (.p a o)))=>if a=A i then (unS A (i+1) r ρ).bind λs=>.ok (.own o::s) else .bad
  | _=>.bad
noncomputable def runM (n m:Nat) (t:Rho->OutM) (A:Nat->Addr) (sl:List Sl):Res (D×List Sl) :=
 if sl.length=m then (match t (pinS A 0 sl++List.replicate (n - sl.length) none) with
  | .rm d ρ=>(unS A 0 sl ρ).bind λs=>.ok (d,s)
  | .bad=>.bad) else .bad
open Classical in
noncomputable def gM (n m:Nat) (t:Rho->OutM) (sl:List Sl):Res (D×List Sl):=if h:∃r,∀A,runM n m t A sl=.ok r then .ok h.choose else .bad
def u7k{m:Nat}{t:Rho->OutM}{r:D×List Sl} (h:∀A,runM n m t A sl=.ok r):gM n m t sl=.ok r:=by
 have e:∃r,∀A,runM n m t A sl=.ok r:=⟨r,h⟩;unfold gM;rw[dif_pos e]
 have:=e.choose_spec (λ_=>0)
 rw[h] at this;rw[Res.ok.inj this]
theorem u5h (A:Nat->Addr):∀(sl:List Sl) (k i:Nat),(pinS A k sl)[i]?=(sl[i]?).map λs=>some (match s with | .val d=>.val d | .own o=>.own (.p (A (k+i)) o))
 | [],k,i=>by simp[pinS]
 | .val d::r,k,0=>by simp[pinS]
 | .own o::r,k,0=>by simp[pinS]
 | .val d::r,k,i+1=>by
  simp only[pinS,z3D];rw[u5h A r (k+1) i,show k+1+i=k+(i+1) by omega]
 | .own o::r,k,i+1=>by
  simp only[pinS,z3D];rw[u5h A r (k+1) i,show k+1+i=k+(i+1) by omega]
theorem u5g (A:Nat->Addr):∀(sl:List Sl) (k:Nat),(pinS A k sl).length=sl.length
 | [],k=>rfl
 | .val d::r,k=>by simp[pinS,u5g A r]
 | .own o::r,k=>by simp[pinS,u5g A r]
set_option tactic.hygienic true in
theorem u6D{A:Nat->Addr}:∀{sl sl':List Sl}{k i:Nat},unS A k sl ρ=.ok sl'->match sl[i]? with
  | some (.val d)=>sl'[i]?=some (.val d)
  | some (.own _)=>∃o',sl'[i]?=some (.own o')/\ρ[k+i]?=some (some (.own (.p (A (k+i)) o')))
  | none=>sl'[i]?=none
 | [],sl',k,i,h=>by cases h;simp
 | .val d::r,sl',k,i,h=>by
  rw[unS] at h;cases q:unS A (k+1) r ρ with
  | ok s =>
   rw[q] at h;cases h;cases i with
   | zero=>simp
   | succ i =>
    have:=u6D (i:=i) q
    simpa[show k+1+i=k+(i+1) by omega] using this
  | err x=>rw[q] at h;cases h
  | bad=>rw[q] at h;cases h
 | .own o::r,sl',k,i,h=>by
  rw[unS] at h;split at h
  ·rename_i a o' e
   split at h
   ·rename_i ea
    cases q:unS A (k+1) r ρ with
    | ok s =>
     rw[q] at h;cases h;cases i with
     | zero=>simp;subst ea;exact e
     | succ i =>
      have:=u6D (i:=i) q
      simpa[show k+1+i=k+(i+1) by omega] using this
    | err x=>rw[q] at h;cases h
    | bad=>rw[q] at h;cases h
   ·cases h
  ·cases h
def u2B{x:V} (h:vs[i]?=some x):(start N vs)[i]?=some (some x):=by
 unfold L2.start;rw[z1J (by have:=(w9.mp h).1;simpa using this),v7,h];rfl
def u2A{A:Nat->Addr}{s:Sl} (h:(pinS A 0 sl++List.replicate n none)[i]?=some (some s)):(∃d,sl[i]?=some (.val d)/\s=.val d)\/∃o,sl[i]?=some (.own o)/\s=.own (.p (A i) o):=by
 rw[z2C] at h;split at h
 ·rw [u5h,Nat.zero_add] at h
  cases q:sl[i]? with
  | none=>rw[q] at h;cases h
  | some u =>
   rw[q] at h;cases u with
   | val d=>cases h;exact .inl ⟨d,rfl,rfl⟩
   | own o=>cases h;exact .inr ⟨o,rfl,rfl⟩
 ·rw [z0F] at h
  split at h<;>cases h
def Rel.begin{F hb:Hp}{A:Nat->Addr} (R:Rel K (F,hb) (sl.map some) (vs.map some) F H) (hA:∀(i:Nat) a,vs[i]?=some (.ref a)->A i=a):Rel K (F,hb) (pinS A 0 sl++List.replicate (N.length - sl.length) none) (start N vs) F H where
 st:=R.st
 len:=by
  have:=R.len
  simp only[x9] at this;unfold L2.start;simp[u5g,this]
 val i d e:=by
  rcases u2A e with⟨d',h1,h2⟩|⟨o,h1,h2⟩
  ·cases h2
   obtain⟨v,p1,p2⟩:=R.val i d (map_some.mpr h1);exact⟨v,u2B (map_some.mp p1),p2⟩
  ·cases h2
 own i o e:=by
  rcases u2A e with⟨d',h1,h2⟩|⟨o',h1,h2⟩
  ·cases h2
  ·cases h2
   obtain⟨a,h,p1,p2,p3,p4,p5⟩:=R.own i o' (map_some.mpr h1)
   have:=hA i a (map_some.mp p1)
   subst this;exact⟨_,h,u2B (map_some.mp p1),p2,p3,p4,.p p5⟩
 dis i j o u a e e' q q':=by
  rcases u2A e with⟨d',h1,h2⟩|⟨o1,h1,h2⟩
  ·cases h2
  ·rcases u2A e' with ⟨d',h1',h2'⟩ | ⟨o2,h1',h2'⟩
   ·cases h2'
   ·obtain ⟨a1,_,p1,_⟩:=R.own i o1 (map_some.mpr h1)
    obtain⟨a2,_,p2,_⟩:=R.own j o2 (map_some.mpr h1');have g1:=u2B (N:=N) (map_some.mp p1);have g2:=u2B (N:=N) (map_some.mp p2);rw[q] at g1;rw[q'] at g2;cases g1;cases g2;exact R.dis i j o1 o2 a (map_some.mpr h1) (map_some.mpr h1') p1 p2
def Mv.leave{F hb:Hp}{A:Nat->Addr} (R:Rel K (F,hb) (sl.map some) (vs.map some) F H) (hb1:∀b o,NotOwn (sl.map some) (vs.map some) b->H b=some o->hb b=some o) (hA:∀(i:Nat) a,vs[i]?=some (.ref a)->A i=a)
  (h:unS A 0 sl ρ=.ok sl') (R':Rel K (F,hb) ρ σ F' H'):Mv K (F,hb) (sl.map some) (vs.map some) F H (sl'.map some) F' H':=by
 have hg:=λi=>u6D (i:=i) h
 have own1:∀{i:Nat}{o':OD},sl'[i]?=some (.own o')->∃o a,sl[i]?=some (.own o)/\vs[i]?=some (.ref a)/\ρ[i]?=some (some (.own (.p a o'))):=λ{i o'} e=>by
  have:=hg i
  cases q:sl[i]? with
  | none=>rw[q] at this;rw[e] at this;cases this
  | some u =>
   rw[q] at this;cases u with
   | val d=>rw[e] at this;cases this
   | own o =>
    obtain⟨o2,h1,h2⟩:=this;rw[e] at h1;cases h1;rw[Nat.zero_add] at h2;obtain⟨a,_,p1,_⟩:=R.own i o (map_some.mpr q);exact⟨o,a,rfl,map_some.mp p1,by rw[hA i a (map_some.mp p1)] at h2;exact h2⟩
 have ro:∀{i:Nat}{o':OD},sl'[i]?=some (.own o')->∃a h,vs[i]?=some (.ref a)/\F' a=none/\hb a=none/\H' a=some h/\Ro K F' a h o':=λ{i o'} e=>by
  obtain⟨o,a,q1,q2,q3⟩:=own1 e;obtain⟨a',h',p1,p2,p3,p4,p5⟩:=R'.own i _ q3;cases p5 with
  | p p5=>exact⟨a,h',q2,p2,p3,p4,p5⟩
 have ln:sl'.length=sl.length:=by
  refine Nat.le_antisymm (Nat.not_lt.mp λz=>?_) (Nat.not_lt.mp λz=>?_)
  ·have:=hg sl.length
   rw[List.getElem?_eq_none (y0 _)] at this;rw[List.getElem?_eq_none_iff] at this;omega
  ·have:=hg sl'.length
   rw[u3 z] at this;cases q:sl[sl'.length] with
   | val d=>rw[q] at this;simp at this
   | own o=>rw[q] at this;simp at this
 refine⟨⟨R'.st,by have:=R.len;simp only[x9] at this |-;rw[this,ln],λi d e=>?_,λi o e=>?_,λi j o u a e e' q q'=>?_⟩,?_,R'.st.ff,λb o n e=>R'.st.hh b o (hb1 b o n e),λb n e=>?_⟩
 ·have e:=map_some.mp e
  have:=hg i
  cases q:sl[i]? with
  | none=>rw[q,e] at this;cases this
  | some u =>
   rw[q] at this;cases u with
   | val d' =>
    rw[e] at this;cases this;obtain⟨v,p1,p2⟩:=R.val i d (map_some.mpr q);exact⟨v,p1,p2.same R'.st.ff⟩
   | own o=>obtain⟨o2,h1,_⟩:=this;rw[e] at h1;cases h1
 ·obtain ⟨a,h,p1,p2⟩:=ro (map_some.mp e)
  exact⟨a,h,map_some.mpr p1,p2⟩
 ·obtain ⟨o1,_,h1,_⟩:=own1 (map_some.mp e)
  obtain⟨o2,_,h2,_⟩:=own1 (map_some.mp e');exact R.dis i j o1 o2 a (map_some.mpr h1) (map_some.mpr h2) q q'
 ·apply List.ext_getElem?
  intro i;rw[u1N,u1N,v7,v7]
  have:=hg i
  cases q:sl[i]? with
  | none=>rw[q] at this;rw[this]
  | some u =>
   rw[q] at this;cases u with
   | val d=>rw[this]
   | own o=>obtain⟨o2,h1,_⟩:=this;rw[h1];rfl
 ·by_cases z:NotOwn (sl.map some) (vs.map some) b
  ·cases w:H b with
   | none=>exact absurd w e
   | some o=>exact R'.st.no b n (by rw[show(F,hb).2 b=some o from hb1 b o z w];simp)
  ·unfold NotOwn at z
   simp only[Classical.not_forall] at z;obtain⟨i,o,e1,e2⟩:=z;have e2:=Classical.not_not.mp e2
   have:=hg i
   rw[map_some.mp e1] at this;obtain⟨o2,h1,_⟩:=this;obtain⟨a,h,p1,p2,_⟩:=ro h1;rw[map_some.mp e2] at p1;cases p1;exact p2
set_option tactic.hygienic true in
def Fun.okM{t:Rho->OutM} (F:Fun K x qual st f fd) (S:FnScope N ps (defScope st))
  (hbody:∀(cdv:Value) (A:Around) (outer:List Env) (s:Shared) (H:Hp) (E:XK),Room k (A.deeper (envOfC qual (defScope st) s.heap.objs.size f cdv))->DMB (cxOf CX0 P w K mg base N qual (defScope st) f cdv A outer s H E).nox (defBody st) t) :
  FnOk P w K mg base CX0 (k+1) f fd ps (spM K (gM N.length ps.length t)):=by
 have ex:∀{sl:List Sl}{Q:D×List Sl->Prop},(gM N.length ps.length t sl).all Q (λ_=>False)->∃r,(∀A,runM N.length ps.length t A sl=.ok r)/\Q r:=λ{sl Q} q=>by
  unfold gM at q;split at q
  ·rename_i h;exact⟨_,h.choose_spec,q⟩
  ·exact q.elim
 refine F.ok S (λvs H Q E ⟨G,hb,sl,R,h1,q⟩=>?_) λcdv A outer s H vs Q E hr ⟨G,hb,sl,R,h1,q⟩=>?_
 ·obtain ⟨r,hr,_⟩:=ex q
  have:=hr λ_=>0
  unfold runM at this;split at this
  ·have l:=R.len
   simp only[x9] at l;rw[l];assumption
  ·cases this
 ·obtain ⟨r,hr',q⟩:=ex q
  let A0:Nat->Addr:=λi=>match vs[i]? with
   | some (.ref a)=>a
   | _=>0
  have hA:∀(i:Nat) a,vs[i]?=some (.ref a)->A0 i=a:=λi a e=>by
   show(match vs[i]? with|some (.ref a)=>a|_=>0)=a
   rw[e]
  have hz:=hr' A0;refine⟨_,(hbody cdv A outer s H E hr).out,(G,hb),G,_,R.begin hA,⟨?_⟩⟩;unfold runM at hz;split at hz
  ·generalize t (pinS A0 0 sl++List.replicate (N.length - sl.length) none)=o at hz
   cases o with
   | bad=>cases hz
   | rm d ρ =>
    dsimp only at hz;cases hu:unS A0 0 sl ρ with
    | bad=>rw[hu] at hz;cases hz
    | err x=>rw[hu] at hz;cases hz
    | ok sl' =>
     rw[hu] at hz;cases hz;exact λv σ F' H' R' pv=>q v F' H' (Mv.leave R h1 hA hu R') pv
  ·cases hz
noncomputable def getP (ρ:Rho) (i:Nat):Res (Addr×List D):=match ρ[i]? with
 | some (some (.own (.p a (.l ds))))=>.ok (a,ds)
 | _=>.bad
set_option tactic.hygienic true in
def getP_ok{P:Addr×List D->Prop}{E:D->Prop} (h:(getP ρ i).all P E):∃a ds,ρ[i]?=some (some (.own (.p a (.l ds))))/\P (a,ds):=by
 unfold getP at h;split at h
 ·rename_i a d e;exact⟨a,d,e,h⟩
 ·exact h.elim
section
variable {i value:Expr}
noncomputable def setP (ρ:Rho) (j:Nat) (a:Addr) (ds:List D) (d:D):D->Out
 | .int k=>match ixN ds.length k with
  | some n=>.nx (ρ.set j (some (.own (.p a (.l (ds.set n d))))))
  | none=>.bad
 | _=>.bad
def u5q(j:Nat) (hi:DE X xq i fi) (hv:DE X xq value fv) (hN:X.N[j]?=some x:=by rfl) (hvs:Vis X.env.scope x:=by first|exact Or.inl rfl|exact Or.inr (Or.inl rfl)|exact Or.inr (Or.inr rfl)) (hd:(x==("__debug__":Str))=false:=by decide) (hcd:(x==("__classdict__":Str))=false:=by decide)
  (hs:swapsWithSole [.Subscript (.Name x p) i pos'] value pos.line X.env=pure false:=by rfl) (hw:swappedStores [.Subscript (.Name x p) i pos'] value X.env=pure none:=by rfl)
  (ha:∀ v,assign (.Subscript (.Name x p) i pos') X.env v=(do
   let ov <- holding [v] (eval (.Name x p) X.env)
   let iv <- holding [v,ov] (eval i X.env)
   standAt pos'
   holding [v,ov,iv] (setItem ov iv v)
   release [v,ov,iv] []):=by intro _;rfl)
  (h1:(assignEach [.Subscript (.Name x p) i pos'] X.env).map (·.2)=[assign (.Subscript (.Name x p) i pos') X.env]:=by rfl) :
  DS X xq (.Assign [.Subscript (.Name x p) i pos'] value pos) (λρ=>(fv (frz ρ)).go ρ λd=>(getP ρ j).go ρ λds=>(fi ρ).go ρ λk=>if flatD d=true then setP ρ j ds.1 ds.2 d k else .bad) :=
 DS.of (ps_asg hv.out (pg_sub (u0v hN hvs hd hcd) hi.out v1o ha) hs hw h1) λB F ρ σ H T R q=>by
  obtain⟨F0,ef,R0⟩:=R.frz;refine⟨B,F0,frz ρ,R0,Res.all_mono (u0C q.out) (λd q1 v F1 H1 st pv=>?_) λ_ z=>(errOf z).frz⟩
  have R1:=R.step (Stp.only R.fh st.hh);obtain⟨ap,ds,eo,q2⟩:=getP_ok (u0C q1);obtain⟨a,h,g1,g2,g3,g4,g5⟩:=R1.own j _ eo;refine⟨.ref a,g1,B,F,ρ,R1,Res.all_mono (u0C q2) (λk q3 y F3 H3 st3 py=>?_) λ_ z=>errOf z⟩
  have R3:=R1.step st3;obtain⟨a',h',k1,k2,k3,k4,k5⟩:=R3.own j _ eo;rw[g1] at k1;cases k1;by_cases hf:flatD d=true
  ·have q4:(if flatD d=true then setP ρ j ap ds d k else Out.bad).all _ _ _ _ _:=q3
   rw[if_pos hf] at q4;cases k5 with
   | p k5 =>
   cases k5 with
   | l hr =>
    cases py with
    | int n =>
     unfold setP at q4;dsimp only at q4;cases e:ixN ds.length n with
     | none=>rw[e] at q4;exact q4.elim
     | some m =>
      rw[e] at q4;exact⟨_,_,n,m,rfl,rfl,k4,by rw[hr.length];exact e,q4 σ F3 _ (R3.write (e:=eo) g1 (.p (.l (u9v m hr (pv.flat hf)))))⟩
    | _=>exact q4.elim
  ·have q4:(if flatD d=true then setP ρ j ap ds d k else Out.bad).all _ _ _ _ _:=q3
   rw[if_neg hf] at q4;exact q4.elim
end
noncomputable def whileD (fT:Rho->Res Bool) (tb:Rho->Out):Nat->Rho->Out
 | 0,_=>.bad
 | n+1,ρ=>(fT (frz ρ)).go ρ λb=>if b=true then (match tb ρ with
  | .nx ρ2=>whileD fT tb n ρ2
  | .ct ρ2=>whileD fT tb n ρ2
  | .bk ρ2=>.nx ρ2
  | o=>o) else .nx ρ
def notBad:Out->Prop
 | .bad=>False
 | _=>True
open Classical in
noncomputable def wD (fT:Rho->Res Bool) (tb:Rho->Out) (ρ:Rho):Out:=if h:∃n,notBad (whileD fT tb n ρ) then whileD fT tb h.choose ρ else .bad
theorem u2z:∀{n:Nat}{ρ:Rho},notBad (whileD fT tb n ρ)->∀{m:Nat},n<=m->whileD fT tb m ρ=whileD fT tb n ρ
 | 0,ρ,h,m,_=>h.elim
 | n+1,ρ,h,0,hm=>absurd hm (by omega)
 | n+1,ρ,h,m+1,hm=>by
  rw[whileD] at h;rw[whileD,whileD];cases e:fT (frz ρ) with
  | bad=>rfl
  | err x=>rfl
  | ok b =>
   rw[e] at h;cases b with
   | false=>rfl
   | true =>
    simp only[go_ok,if_true] at h |-
    cases q:tb ρ with
    | nx ρ2=>rw[q] at h;exact u2z h (by omega)
    | ct ρ2=>rw[q] at h;exact u2z h (by omega)
    | _=>rfl
def wD_eq{o:Out} (e:whileD fT tb n ρ=o) (h:notBad o):wD fT tb ρ=o:=by
 have ex:∃n,notBad (whileD fT tb n ρ):=⟨n,by rw[e];exact h⟩
 unfold wD;rw[dif_pos ex];have h1:=ex.choose_spec;rcases Nat.le_total ex.choose n with c|c
 ·rw[<- u2z h1 c,e]
 ·rw[u2z (by rw[e];exact h:notBad (whileD fT tb n ρ)) c,e]
section
variable {c:Expr}
def u5p (hc:DT X xq c fT) (hb:DB X xq body tb) (hp:PassesOwn (model X.prog X.w) X.A X.env X.xe:=by exact PassesOwn.never):DS X xq (.While c body [] pos) (wD fT tb) :=
 DS.of (v1B hp hc.out hb.out) λB F ρ σ H T R q=>by
  obtain⟨n,q⟩:∃n,OkS X.K xq B T (whileD fT tb n ρ):=by
   unfold wD at q;split at q
   ·exact⟨_,q⟩
   ·exact q.out.elim
  refine⟨λm σ' H'=>∃ρ' F',Rel X.K B ρ' σ' F' H'/\OkS X.K xq B T (whileD fT tb m ρ'),⟨n,ρ,F,R,q⟩,?_⟩
  rintro m σ1 H1 ⟨ρ1,F1,R1,q1⟩;cases m with
  | zero=>exact q1.out.elim
  | succ m =>
   have q1:=q1.out;rw[whileD] at q1;refine⟨B,F1,ρ1,R1,Res.all_mono (u0C q1) (λb q2 H2 s2=>?_) λ_ z=>errOf z⟩
   have R2:=R1.step s2;cases b with
   | false=>exact q2 σ1 F1 H2 R2
   | true =>
    rw[if_pos rfl] at q2;show ∃N:St->Hp->Prop,_/\_;refine⟨λσ' H'=>∃ρ' F',Rel X.K B ρ' σ' F' H'/\OkS X.K xq B T (whileD fT tb m ρ'),λσ' H' p=>⟨m,Nat.lt_succ_self m,p⟩,B,F1,ρ1,R2,⟨?_⟩⟩
    generalize tb ρ1=o at q2;cases o with
    | nx ρ2=>exact λσ4 F4 H4 R4=>⟨ρ2,F4,R4,⟨q2⟩⟩
    | ct ρ2=>exact λσ4 F4 H4 R4=>⟨ρ2,F4,R4,⟨q2⟩⟩
    | bk ρ2=>exact q2
    | rt d=>exact q2
    | er x r=>exact q2
    | bad=>exact q2
end
noncomputable def getW (ρ:Rho) (i:Nat):Res ((List D->OD)×List D):=match ρ[i]? with
 | some (some (.own (.l ds)))=>.ok (OD.l,ds)
 | some (some (.own (.p a (.l ds))))=>.ok (λes=>.p a (.l es),ds)
 | _=>.bad
set_option tactic.hygienic true in
def getW_ok{F:Hp}{P:(List D->OD)×List D->Prop}{E:D->Prop} (R:Rel K B ρ σ F H) (h:(getW ρ i).all P E) :
  ∃o a xs ds mk,ρ[i]?=some (some (.own o))/\σ[i]?=some (some (.ref a))/\H a=some (.lst xs)/\Rps K F xs ds/\(∀ys es F',Rps K F' ys es->Ro K F' a (.lst ys) (mk es))/\P (mk,ds):=by
 unfold getW at h;split at h
 ·rename_i ds e
  obtain⟨a,h',p1,p2,p3,p4,p5⟩:=R.own i _ e;cases p5 with
  | l r=>exact⟨_,a,_,ds,_,e,p1,p4,r,λys es F' q=>.l q,h⟩
 ·rename_i a0 ds e
  obtain⟨a,h',p1,p2,p3,p4,p5⟩:=R.own i _ e;cases p5 with
  | p p5 =>
   cases p5 with
   | l r=>exact⟨_,_,_,ds,_,e,p1,p4,r,λys es F' q=>.p (.l q),h⟩
 ·exact h.elim
theorem Mv.write{F:Hp}{h':HO}{o':OD} (R:Rel K B ρ σ F H) (e:ρ[i]?=some (some (.own o))) (hs:σ[i]?=some (some (.ref a))) (h4:Ro K F a h' o') :
  Mv K B ρ σ F H (ρ.set i (some (.own o'))) F (upd H a h'):=by
 refine⟨R.write e hs h4,?_,Same.refl F,λb u n q=>?_,λb n _=>n⟩
 ·apply List.ext_getElem?
  intro j;rw[u1N,u1N];by_cases c:j=i
  ·subst c;rw[u4G (w9.mp e).1,e];rfl
  ·rw[u0E c]
 ·rw[u0e (λz=>by subst z;exact n i o e hs)];exact q
def u6S{F:Hp}{xs:List V} (r:Rps K F xs ds) (h:ds.getLast?=some d):∃y,xs[xs.length - 1]?=some y/\Rp K F y d:=by
 rw[List.getLast?_eq_getElem?] at h;rw[r.length];exact r.get h
def u5G{F:Hp}{xs:List V} (r:Rps K F xs ds):Rps K F xs.dropLast ds.dropLast:=by
 rw[List.dropLast_eq_take,List.dropLast_eq_take,r.length];exact r.take _
noncomputable def popW (ρ:Rho) (i:Nat) (w:(List D->OD)×List D):Res (D×Rho):=match w.2.getLast? with
 | some d=>.ok (d,ρ.set i (some (.own (w.1 w.2.dropLast))))
 | none=>.bad
section
set_option tactic.hygienic true in
def x_pop (i:Nat) (hN:X.N[i]?=some x:=by rfl) (hv:Vis X.env.scope x:=by first|exact Or.inl rfl|exact Or.inr (Or.inl rfl)|exact Or.inr (Or.inr rfl)) (hd:(x==("__debug__":Str))=false:=by decide) (hcd:(x==("__classdict__":Str))=false:=by decide)
  (hbase:attributeBase (.Name x p) "pop" X.env (eval (.Name x p) X.env)=eval (.Name x p) X.env:=by rfl) (hline:(apos.endLine==cpos.line)=true:=by rfl) :
  DX X (.Call (.Attribute (.Name x p) "pop" apos) [] [] cpos) (λρ=>(getW ρ i).bind (popW ρ i)) :=
 DX.of (u9N PySem.F.plainAttrs_list PySem.F.slot_list_pop PySem.F.type_list_pop v0e (u0v hN hv hd hcd) hbase hline) λB F ρ σ H Q R q=>by
  obtain⟨o,a,xs,ds,mk,e1,e2,e3,r,hmk,q1⟩:=getW_ok R (Res.all_bind.mp q);unfold popW at q1;dsimp only at q1;split at q1
  ·rename_i d hl
   obtain⟨y,hy,py⟩:=u6S r hl;exact⟨.ref a,e2,.inl ⟨rfl,_,.inl (.inl e3)⟩,a,xs,y,rfl,rfl,e3,hy,q1 y F _ (Mv.write R e1 e2 (hmk _ _ F (u5G r))) py⟩
  ·exact q1.elim
end
noncomputable def fldV (Cs:List Addr) (f:Str):D->Res D
 | .ins C gs=>if C∈Cs then (match gs.lookup f with|some d=>.ok d|none=>.bad) else .bad
 | _=>.bad
section
variable {o:Expr}{f:Str}{Cs:List Addr}
def u1a(c:∀C∈Cs,Cls K C/\NoAttr K C f) (ho:DE X xq o fo) (eK:X.K=K:=by rfl) (hb:attributeBase o f X.env (eval o X.env)=eval o X.env:=by rfl):DE X xq (.Attribute o f pos) (λρ=>(fo ρ).bind (fldV Cs f)):=by
 subst eK;refine DE.of (u5T ho.out hb) λB F ρ σ H Q R q=>seqE R q λd v F1 H1 s1 R1 p1 q1=>?_
 cases p1 with
 | @ins a C dx gs0 gs h1 h2 =>
  unfold fldV at q1;dsimp only at q1;by_cases hc:C∈Cs
  ·rw [if_pos hc] at q1
   cases hl:gs.lookup f with
   | none=>rw[hl] at q1;exact q1.elim
   | some d =>
    rw[hl] at q1;obtain⟨v,hv,pv⟩:=h2.lookup hl;exact⟨a,C,dx,gs0,v,rfl,R1.fh _ _ h1,(c C hc).1,(c C hc).2,hv,q1 v F1 H1 s1 pv⟩
  ·rw[if_neg hc] at q1;exact q1.elim
 | _=>exact q1.elim
noncomputable def isV (Cs:List Addr) (m:Str) (x:D):Res (Addr×D):=match x with
 | .ins C gs=>if C∈Cs/\gs.lookup m=none then .ok (C,x) else .bad
 | _=>.bad
def isV_ok{F:Hp}{P:Addr×D->Prop}{E:D->Prop} (p:Rp K F v d) (h:(isV Cs m d).all P E):∃C a dx fs,C∈Cs/\v=.ref a/\F a=some (.ins C dx fs)/\fs.lookup m=none/\P (C,d):=by
 cases p with
 | @ins a C dx fs gs h1 h2 =>
  unfold isV at h;dsimp only at h;by_cases hc:C∈Cs/\gs.lookup m=none
  ·rw [if_pos hc] at h
   exact⟨C,a,dx,fs,hc.1,rfl,h1,u3V h2 hc.2,h⟩
  ·rw[if_neg hc] at h;exact h.elim
 | _=>exact h.elim
end
def tyN_mem{t:String} (h:tyN d=some t):t∈["NoneType","bool","int","str","list","tuple","dict"]:=by
 cases d<;>simp only[tyN,Option.some.injEq,reduceCtorEq] at h<;>subst h<;>decide
structure InK (K:W.Frag) (C:Addr):Prop where
 cl:Cls K C
 ha:W.findIn K (.ref C) "__class__"=some (some (.builtin "object.__class__"))
 hn:W.specialIn K (.builtin "object.__class__") "__get__"=some (some (.builtin "getset_descriptor.__get__"))
 ht:W.takesIn K (.builtin "object.__class__")=some true
 hm:W.mroIn K C (.type "object")=some true
structure IsO (K:W.Frag) (C:Addr) (ti tx:List (Addr×Bool)):Prop where
 i:∀p∈ti,InK K p.1/\W.kitOne K (.ref p.1) (.ref C)=some p.2
 x:∀p∈tx,(∃f,XCls K p.1 f)/\W.kitOne K (.ref p.1) (.ref C)=some p.2
 b:∀T∈["NoneType","bool","int","str","list","tuple","dict"],W.kitOne K (.type T) (.ref C)=some false
noncomputable def lookB (t:List (Addr×Bool)) (C:Addr):Res D:=match t.lookup C with
 | some b=>.ok (.bl b)
 | none=>.bad
noncomputable def isO (ti tx:List (Addr×Bool)) (d:D):Res D:=match d with
 | .ins C _=>lookB ti C
 | .exc C _=>lookB tx C
 | d=>match tyN d with
  | some _=>.ok (.bl false)
  | none=>.bad
def u7i{t:List (Addr×Bool)} (h:t.lookup C=some b):(C,b)∈t:=by
 induction t with
 | nil=>cases h
 | cons p r ih =>
  obtain⟨k,v⟩:=p;rw[u6] at h;by_cases q:(C==k)=true
  ·rw [q] at h
   cases h;rw[beq_iff_eq.mp q];exact z6
  ·rw [Bool.eq_false_iff.mpr q] at h
   exact z5 _ (ih h)
def rIsO (K:W.Frag) (C:Addr) (ti tx:List (Addr×Bool)):List V->Hp->VK->Prop:=λxs H Q=>∃v F d b,xs=[v,.ref C]/\Same F H/\Rp K F v d/\isO ti tx d=.ok (.bl b)/\Q (.bl b) H
section
variable {c:Str}{pc:Pos}{ti tx:List (Addr×Bool)}
def isO_bl{y:D} (h:isO ti tx d=.ok y):∃b,y=.bl b:=by
 unfold isO lookB at h;split at h
 ·split at h<;>cases h;exact⟨_,rfl⟩
 ·split at h<;>cases h;exact⟨_,rfl⟩
 ·split at h<;>cases h;exact⟨_,rfl⟩
def isO_err{y:D}:isO ti tx d≠.err y:=by
 intro h;unfold isO lookB at h;split at h
 ·split at h<;>cases h
 ·split at h<;>cases h
 ·split at h<;>cases h
def u7R{t:List (Addr×Bool)} (h:lookB t C=.ok (.bl b)):(C,b)∈t:=by
 unfold lookB at h;cases q:t.lookup C with
 | none=>rw[q] at h;cases h
 | some b'=>rw[q] at h;cases h;exact u7i q
set_option tactic.hygienic true in
def c_isO (h:IsO X.K C ti tx):CallR X (.builtin "isinstance") (rIsO X.K C ti tx):=by
 intro pins s σ H xs us Q I r z9111;obtain⟨v,F,d,b,exs,fh,pv,hd,q⟩:=z9111;subst exs;obtain⟨u,u',rfl,ru,ru'⟩:=vals2 r;cases (show u'=Value.ref C from ru')
 have fin:∀tk,∃v H',Inv X pins σ H' { s with toks:=tk }/\RelV v (.bool b)/\Q v H':=λtk=>⟨.bl b,H,I.tok _,rfl,q⟩
 cases ht:tyN d with
 | some t =>
  obtain⟨Hh,Z,hh,ne⟩:=v3a I ru fh pv ht;have eb:b=false:=by
   cases d<;>simp only[tyN,reduceCtorEq] at ht<;>(unfold isO at hd;simp only[tyN] at hd;cases hd;rfl)
  subst eb;exact W.kia_one Z I.kIn hh (h.b t (tyN_mem ht)) ne λtk=>fin tk
 | none =>
  cases pv with
  | @ins a C' dx fs gs h1 h2 =>
   cases (show u=Value.ref a from ru)
   obtain⟨K1,e⟩:=h.i _ (u7R (show lookB ti C'=.ok (.bl b) from hd))
   exact u0S I (show RelV (.ref a) (.ref a) from rfl) (.ins (fh _ _ h1) K1.cl K1.ha K1.hn K1.ht K1.hm) e fin
  | @exc a C' dx fs gs h1 h2 h3 =>
   cases (show u=Value.ref a from ru)
   obtain⟨⟨f,K1⟩,e⟩:=h.x _ (u7R (show lookB tx C'=.ok (.bl b) from hd))
   obtain⟨xa,_⟩:=(show ObjOk X.prog X.w H s.heap a (XO C' (some dx) a) from I.hok a _ (fh _ _ h1))
   obtain⟨⟨mA,n,_⟩,_⟩:=(show ObjOk X.prog X.w H s.heap dx (DXO dx fs) from I.hok dx _ (fh _ _ h2))
   obtain⟨od,_,_,qd,_⟩:=n;obtain⟨ox,J⟩:=xa.inst qd;exact W.kia_one (v2d (dx:=none) (od:=none) K1) I.kIn ⟨ox,_,J⟩ e (λz=>nomatch z) fin
  | ty T=>simp only[isO,tyN] at hd;cases hd
  | dn _ _=>simp only[isO,tyN] at hd;cases hd
  | hdl _=>simp only[isO,tyN] at hd;cases hd
  | obj _=>simp only[isO,tyN] at hd;cases hd
  | _=>cases ht
def u8K(h:IsO K C ti tx) (hC:mg c=some (.ref C)) (hm:mg x=none) (hv:bootBuiltins x=some (.builtin "isinstance")) (ha:DE X xq e fe) (eK:X.K=K:=by rfl) (em:X.mg=mg:=by rfl) (hs:notStar e=true:=by rfl) (hg:Gl X x:=by rfl) (hgc:Gl X c:=by rfl)
  (hn:x≠"__name__":=by decide) (hdb:(x==("__debug__":Str))=false:=by decide) (hdc:(c==("__debug__":Str))=false:=by decide) :
  DE X xq (.Call (.Name x p) [e,.Name c pc] [] pos) (λρ=>(fe ρ).bind (isO ti tx)):=by
 subst eK em;refine DE.of (pcB (c_isO h) hg hm hv (pac ha.out (pac (u9K hgc hC (show RelV (.ref C) (.ref C) from rfl) hdc) u0t) hs) hn hdb (by simp only[z1B,hs];rfl)) λB F ρ σ H Q R q=>seqE R q λd v F1 H1 s1 R1 p1 q1=>?_
 cases hd:isO ti tx d with
 | bad=>rw[hd] at q1;exact q1.elim
 | err y=>exact absurd hd isO_err
 | ok y =>
  rw[hd] at q1;obtain⟨b,rfl⟩:=isO_bl hd;exact⟨v,F1,d,b,rfl,R1.fh,p1,hd,q1 _ _ _ s1 (.bl b)⟩
end
noncomputable def intsOf:List D->Option (List Int)
 | []=>some []
 | .int i::r=>(intsOf r).map (i::·)
 | _=>none
noncomputable def gSum:List D->Res D
 | [.lst ds]=>match intsOf ds with
  | some is=>.ok (.int is.sum)
  | none=>.bad
 | _=>.bad
section
variable {F:Hp}
set_option tactic.hygienic true in
theorem u2u:∀{ds:List D}{is:List Int}{xs:List V}{us:List Value},intsOf ds=some is->Rps K F xs ds->Vals xs us->us.length=is.length/\∀(i:Nat) (v:Value),us[i]?=some v->∃t,v=Value.int (is.getD i 0) t
 | [],_,_,_,e,p,r=>by cases e;cases p;cases r;exact⟨rfl,λi v h=>by simp at h⟩
 | d::ds,is,_,_,e,p,r=>by
  cases d<;>simp only[intsOf,reduceCtorEq] at e
  rename_i n;cases q:intsOf ds with
  | none=>rw[q] at e;cases e
  | some is' =>
   rw[q] at e;cases e;cases p with
   | cons p1 p2 =>
    cases p1;cases r with
    | cons r1 r2 =>
     obtain⟨t,rfl⟩:=r1;obtain⟨l1,l2⟩:=u2u q p2 r2;refine⟨by simp[l1],λi v h=>?_⟩
     cases i with
     | zero=>simp only[List.getElem?_cons_zero,Option.some.injEq] at h;exact⟨t,by rw[<- h];rfl⟩
     | succ i=>rw[z3D] at h;obtain⟨t,ht⟩:=l2 i v h;exact⟨t,by rw[ht];rfl⟩
theorem u5K (is:List Int):∀n,n<=is.length->preSum (λi=>is.getD i 0) n=(is.take n).sum
 | 0,_=>by simp[preSum]
 | n+1,h=>by
  rw[preSum,u5K is n (by omega),List.take_add_one,List.sum_append]
  congr 1;rw[List.getD_eq_getElem?_getD,u3 (by omega)]
  simp
set_option tactic.hygienic true in
def c_sum (hc:X.calm=true):CallR X (.builtin "sum") (rDs X.K gSum):=by
 intro pins s σ H xs us Q I r z9112;obtain⟨F,ds,fh,ps,q⟩:=z9112;unfold gSum at q;split at q
 ·rename_i ds
  obtain⟨v,rfl,pv⟩:=rps1 ps;cases pv with
  | @lst l zs _ hq hs =>
   cases hb:intsOf ds with
   | none=>simp only[hb] at q;exact q.elim
   | some is =>
    simp only[hb] at q;obtain⟨u,rfl,ru⟩:=vals1 r;cases (show u=Value.ref l from ru)
    obtain⟨z,its,n,rv,hl,e⟩:=I.lstR (hq.same fh);obtain⟨l1,l2⟩:=u2u hb hs rv;have hL:s.heap.IsList l its.toArray:=⟨_,e,rfl,n,rfl⟩;have hlt:l<s.heap.objs.size:=z8 e;refine call_sum_walkAnyS (wpAny_pyIter_list hL ⟨_,_,_,_,_,_,_,λi=>is.getD i 0,rfl,(Walks.list (A:=X.A.in1) (I.ok.hd hc) s.heap.objs.size l (u9 hlt) its.toArray).toS,⟨⟨_,y6 _ rfl,rfl,rfl⟩,hL.push _⟩,λb hb=>?_,λi v h=>l2 i v (by simpa using h),λs' t' m=>?_⟩)
    ·show b<(s.heap.push _).objs.size
     rw[Heap.size_push];rcases z7.mp hb with rfl|hb
     ·exact Nat.lt_succ_self _
     ·rcases z7.mp hb with rfl | hb
      ·exact Nat.lt_succ_of_lt hlt
      ·cases hb
    ·obtain ⟨h',g',d',tk',os'⟩:=s'
     obtain⟨m1,m2,m3,m4,m5⟩:=m;cases m2;cases m3;cases m4;have I2:Inv X pins σ H { s with heap:=h',toks:=tk' }:=I.kept λb o eb=>m1 b o (λhm=>by
      rcases z7.mp hm with e1|hm
      ·exact absurd (e1 ▸ z8 eb) (z0B _)
      ·cases hm) (z0 _ eb)
     refine⟨.int is.sum,H,I2,⟨t',?_⟩,q _ F H (Stp.refl fh) (.int _)⟩;rw[u5K is _ (by simp[l1])]
     simp[l1]
 ·exact q.elim
end
def md_args (a v:Value):argsOk "max" ⟨[a],[(Str.ofString "default",v)]⟩:=by unfold argsOk;kernel_rfl
section
variable {R:Result->Shared->Prop}{fp wr:List Addr}{P:Nat->Value->Prop}{St:Nat->Heap->Prop}{kw:List (Str×Value)}
def md_loop (W:Walks prog w A.in1 I fp wr n P St) (bt:Nat->Nat->Bool) (hcmp:CmpOf prog w A.in1 .Gt P bt) (S:Addr) (hSf:S∉fp) :
  ∀(k j:Nat) (s:Shared) (vb:Value) (c:Nat),n - (j+1)=k->j+1<=n->St (j+1) s.heap->P (argBest bt j) vb ->
  s.heap.get? S=some { cls:=.type "list",dict:=none,data:=.seq #[vb,vb] c,slots:=#[] } ->
  (∀v h' tk,P (argBest bt (n - 1)) v->(∀b o,b∉wr->b≠S->s.heap.get? b=some o->h'.get? b=some o)->R (.ok (.ret v)) { s with heap:=h',toks:=tk }) ->
  codeAny (model prog w) A (.builtin "max.loop" ⟨[.ref I,.none,.ref S],kw⟩) R s:=by
 have hSw:S∉wr:=λh=>hSf (W.sub _ h)
 have hname:(toString "max"++toString ".loop":String)="max.loop":=by decide
 intro k;induction k with
 | zero =>
  intro j s vb c hk hj hst hPb hS hR;have hin:j+1=n:=by omega
  refine codeAny_builtin F.entry_max_loop ?_;rw[Around.under_plainId F.plain_max_loop _];show wpAny _ A.in1 (seqItems? (.ref S) >>= _) _ _ s;refine wpAny_bind (wpAny_seqItems hS rfl ?_);show wpAny _ A.in1 (tryCatch (pyNext (.ref I)) _ >>= _) _ _ s;refine wpAny_bind (wpAny_tryCatch (W.done s _ _ (hin ▸ hst) λh' tk hk'=>?_))
  have hS':=hk' S _ hSw hS;show wpAny _ A.in1 (updateSeq S (λ_=>#[]) >>= _) _ _ _
  refine wpAny_bind ?_;refine wpAny_updateSeq hS' rfl (wpAny_bind (wpAny_letGo (wpAny_pure ?_)));refine hR vb _ tk (by rw[<- hin];exact hPb) λb o hbw hbS e=>(x6 _ _ (Ne.symm hbS)).trans (hk' b o hbw e)
 | succ k ih =>
  intro j s vb c hk hj hst hPb hS hR;have hlt:j+1<n:=by omega
  refine codeAny_builtin F.entry_max_loop ?_;rw[Around.under_plainId F.plain_max_loop _];show wpAny _ A.in1 (seqItems? (.ref S) >>= _) _ _ s;refine wpAny_bind (wpAny_seqItems hS rfl ?_);show wpAny _ A.in1 (tryCatch (pyNext (.ref I)) _ >>= _) _ _ s;refine wpAny_bind (wpAny_tryCatch (W.item (j+1) s _ _ hlt hst λv h' tk hP hst' hk'=>?_))
  have hS':=hk' S _ hSw hS;show wpAny _ A.in1 (tryCatch (holding [v,v] (richCompare .Gt v vb >>= _)) _ >>= _) _ _ _;refine wpAny_bind (wpAny_tryCatch (wpAny_holding (wpAny_bind (hcmp (j+1) (argBest bt j) v vb _ _ _ hP hPb ?_))));refine wpAny_bind (wpAny_holding (wpAny_truthy_bool ?_));refine wpAny_bind (wpAny_letGo (wpAny_pure ?_));cases hb:bt (j+1) (argBest bt j) with
  | true =>
   simp only[if_true];refine wpAny_bind ?_;refine wpAny_updateSeq hS' rfl (wpAny_bind (wpAny_letGo ?_));rw[hname];refine wpAny_pure ⟨plainId_quiet F.plain_max_loop _,ih (j+1) _ v _ (by omega) hlt (W.frame _ _ _ hst' λb hbf o e=>?_) (by simp only[argBest,hb,if_true];exact hP) (u7 _ hS' rfl)
    λv' h'' tk'' hP' hk''=>?_⟩
   ·exact(x6 _ _ (λh:S=b=>hSf (by rw[h];exact hbf))).trans e
   ·exact hR v' h'' tk'' hP' λb o hbw hbS e=>hk'' b o hbw hbS ((x6 _ _ (Ne.symm hbS)).trans (hk' b o hbw e))
  | false =>
   simp only[z1E,if_false];refine wpAny_bind (wpAny_letGo ?_);rw[hname];refine wpAny_pure ⟨plainId_quiet F.plain_max_loop _,ih (j+1) _ vb c (by omega) hlt hst' (by simp only[argBest,hb,z1E,if_false];exact hPb) hS' λv' h'' tk'' hP' hk''=>?_⟩
   exact hR v' h'' tk'' hP' λb o hbw hbS e=>hk'' b o hbw hbS (hk' b o hbw e)
def v1V(W:Walks prog w A.in1 I fp wr n P St) (bt:Nat->Nat->Bool) (hcmp:CmpOf prog w A.in1 .Gt P bt) (S:Addr) (hSf:S∉fp) {dv:Value} (hst:St 0 s.heap)
  (hS:s.heap.get? S=some { cls:=.type "list",dict:=none,data:=.seq #[] c,slots:=#[] })
  (hR:∀v h' tk,(if n=0 then v=dv else P (argBest bt (n - 1)) v)->(∀b o,b∉wr->b≠S->s.heap.get? b=some o->h'.get? b=some o)->R (.ok (.ret v)) { s with heap:=h',toks:=tk }) :
  codeAny (model prog w) A (.builtin "max.loop" ⟨[.ref I,.none,.ref S],[(nm,dv)]⟩) R s:=by
 have hSw:S∉wr:=λh=>hSf (W.sub _ h)
 have hname:(toString "max"++toString ".loop":String)="max.loop":=by decide
 refine codeAny_builtin F.entry_max_loop ?_;rw[Around.under_plainId F.plain_max_loop _];show wpAny _ A.in1 (seqItems? (.ref S) >>= _) _ _ s;refine wpAny_bind (wpAny_seqItems hS rfl ?_);show wpAny _ A.in1 (tryCatch (pyNext (.ref I)) _ >>= _) _ _ s;by_cases hn:n=0
 ·refine wpAny_bind (wpAny_tryCatch (W.done s _ _ (by rw [hn];exact hst) fun h' tk hk'=>?_))
  refine wpAny_bind (wpAny_rule (wpAny_pure ?_));exact hR dv h' tk (by rw[if_pos hn]) λb o hbw _ e=>hk' b o hbw e
 ·refine wpAny_bind (wpAny_tryCatch (W.item 0 s _ _ (by omega) hst fun v h' tk hP hst' hk'=>?_))
  have hS':=hk' S _ hSw hS;show wpAny _ A.in1 (updateSeq S (λ_=>#[v,v]) >>= _) _ _ _
  refine wpAny_bind ?_;refine wpAny_updateSeq hS' rfl ?_;rw[hname];refine wpAny_pure ⟨plainId_quiet F.plain_max_loop _,md_loop W bt hcmp S hSf _ 0 _ v _ rfl (by omega) (W.frame _ _ _ hst' λb hbf o e=>?_) hP (u7 _ hS' rfl) λv' h'' tk'' hP' hk''=>?_⟩
  ·exact(x6 _ _ (λh:S=b=>hSf (by rw[h];exact hbf))).trans e
  ·exact hR v' h'' tk'' (by rw[if_neg hn];exact hP') λb o hbw hbS e=>hk'' b o hbw hbS ((x6 _ _ (Ne.symm hbS)).trans (hk' b o hbw e))
end
def md_call{is:List Int}{dv:Value} (hh:A.handled=none) (e:s.heap.get? l=some { cls:=.type "list",data:=.seq its.toArray c }) (l1:its.length=is.length)
  (l2:∀(i:Nat) (v:Value),its[i]?=some v->∃t,v=Value.int (is.getD i 0) t)
  (h:∀v h' tk,(if is.length=0 then v=dv else ∃t,v=.int (is.getD (argBest (λi j=>decide (is.getD i 0 > is.getD j 0)) (is.length - 1)) 0) t)->(∀b o,s.heap.get? b=some o->h'.get? b=some o)->Q v { s with heap:=h',toks:=tk }) :
  wpAny (model prog w) A (call (.builtin "max") [.ref l] [(Str.ofString "default",dv)]) Q E s:=by
 have hname:(toString "max"++toString ".loop":String)="max.loop":=by decide
 have hL:s.heap.IsList l its.toArray:=⟨_,e,rfl,c,rfl⟩;have hlt:l<s.heap.objs.size:=z8 e;refine PyProof.Rows.kmk_tree PySem.F.kind_max PySem.F.plain_max PySem.F.entry_max (md_args _ _) ?_;show wpAny _ A.in1 (Builtin.Builtins.bindParams "max" ["key","default"] 0 ⟨[],[(Str.ofString "default",dv)]⟩ >>= _) _ _ s;refine wpAny_bind (wpAny_of_eq (show Builtin.Builtins.bindParams "max" ["key","default"] 0 ⟨[],[(Str.ofString "default",dv)]⟩=pure [none,some dv] from rfl) ?_)
 refine wpAny_bind (wpAny_pure ?_);refine wpAny_bind (wpAny_pyIter_list hL ?_);refine wpAny_bind (wpAny_newObj_type ?_);have hS:(s.heap.push { cls:=.type "list_iterator",data:=.fields #[.ref l,.int 0 0] }).objs.size=s.heap.objs.size+1:=Heap.size_push ..;rw[hname];have W:=Walks.list (prog:=prog) (w:=w) (A:=A.in1) hh s.heap.objs.size l (u9 hlt) its.toArray;refine wpAny_pure ⟨plainId_quiet F.plain_max_loop _,v1V W (λi j=>decide (is.getD i 0 > is.getD j 0)) (CmpOf.ints_gt _ λi v h=>l2 i v (by simpa using h)) _ (λhm=>?_) (W.frame _ _ _ ⟨⟨_,y6 _ rfl,rfl,rfl⟩,hL.push _⟩ λb _ o e=>z0 _ e) (y6 _ rfl) λv h' tk hv hk=>?_⟩
 ·rw [hS] at hm
  rcases z7.mp hm with q|hm
  ·exact absurd q (Nat.ne_of_gt (Nat.lt_succ_self _))
  ·rcases z7.mp hm with q | hm
   ·exact absurd q (Nat.ne_of_gt (Nat.lt_succ_of_lt hlt))
   ·cases hm
 ·refine h v h' tk ?_ fun b o eb=>hk b o (fun hm=>?_) ?_ (z0 _ (z0 _ eb))
  ·have hz:its.toArray.size=is.length:=by simp [l1]
   rw[hz] at hv;by_cases q:is.length=0
   ·rw[if_pos q] at hv |-;exact hv
   ·rw[if_neg q] at hv |-;exact l2 _ _ (by simpa using hv)
  ·rcases z7.mp hm with q | hm
   ·exact absurd (q ▸ z8 eb) (z0B _)
   ·cases hm
  ·rw [hS]
   exact u9 (Nat.lt_succ_of_lt (z8 eb))
noncomputable def mx2 (a b:Int):Int:=if b > a then b else a
noncomputable def gMaxD:D->D->Res D
 | .lst ds,d=>match intsOf ds with
  | some []=>.ok d
  | some (i::r)=>.ok (.int (r.foldl mx2 i))
  | none=>.bad
 | _,_=>.bad
theorem u6y (i:Int) (r:List Int):∀k,k<=r.length->(i::r).getD (argBest (λa b=>decide ((i::r).getD a 0 > (i::r).getD b 0)) k) 0=(r.take k).foldl mx2 i
 | 0,_=>by simp[argBest]
 | k+1,h=>by
  have ih:=u6y i r k (by omega)
  have e:r.take (k+1)=r.take k++[r.getD k 0]:=by
   rw[List.take_add_one,List.getD_eq_getElem?_getD,u3 (by omega)]
   rfl
  rw[e,List.foldl_append];generalize (r.take k).foldl mx2 i=m at ih |-
  show _=mx2 m (r.getD k 0);unfold argBest;have e2:(i::r).getD (k+1) 0=r.getD k 0:=rfl;by_cases q:r.getD k 0 > m
  ·rw[if_pos (by rw[decide_eq_true_eq,ih,e2];exact q),e2,mx2,if_pos q]
  ·rw[if_neg (by rw[decide_eq_true_eq,ih,e2];exact q),ih,mx2,if_neg q]
section
variable {de:Expr}{fd:Rho->Res D}{kp:Pos}
def d_maxD (hc:X.calm=true) (hm:X.mg x=none) (hv:bootBuiltins x=some (.builtin "max")) (ha:DE X xq e fe) (hd:DE X xq de fd) (hs:notStar e=true:=by rfl) (hg:Gl X x:=by rfl) (hn:x≠"__name__":=by decide) (hdb:(x==("__debug__":Str))=false:=by decide) :
  DE X xq (.Call (.Name x p) [e] [⟨some "default",de,kp⟩] pos) (λρ=>(fe ρ).bind λa=>(fd ρ).bind λb=>noE (gMaxD a b)):=⟨λpins s σ H Q I z9=>un5 z9 λB F ρ R q=>by
 refine wpAny_Call_Name_kw (u1J I hg hm hv ?_ hn hdb);have PA1:=pac ha.out (u0t (X:=X)) hs;refine callWith_kw (thn (PA1 pos pins s σ H (λvs H1=>∃v F1 d1,vs=[v]/\Stp F H F1 H1/\Rel X.K B ρ σ F1 H1/\Rp X.K F1 v d1/\((fd ρ).bind λb=>noE (gMaxD d1 b)).all (λd=>∀v F' H',Stp F H F' H'->Rp X.K F' v d->Q v H') (ErrK X.K xq B ρ σ)) I (seqE R q λd v F1 H1 s1 R1 p1 q1=>⟨v,F1,d,rfl,s1,R1,p1,q1⟩)) λus s1 ⟨vs,H1,I1,r1,v,F1,d1,ev,st1,R1,p1,q1⟩=>?_) ?_ ?_
 ·subst ev
  obtain⟨u,rfl,ru⟩:=vals1 r1;refine kws_cons (thn (hd.out pins s1 σ H1 (λv2 H2=>∃F2 d2,Stp F1 H1 F2 H2/\Rp X.K F2 v2 d2/\(noE (gMaxD d1 d2)).all (λd=>∀v F' H',Stp F H F' H'->Rp X.K F' v d->Q v H') (ErrK X.K xq B ρ σ)) I1 (seqE R1 q1 λd v F2 H2 s2 R2 p2 q2=>⟨F2,d,s2,p2,q2⟩)) λu2 s2 ⟨v2,H2,I2,r2,F2,d2,st2,p2,q2⟩=>kws_nil ?_)
  show wpAny _ _ (call (.builtin "max") [u] [(Str.ofString "default",u2)]) _ _ _;have st:=st1.trans st2;cases d1 with
  | lst ds =>
   cases p1 with
   | @lst l zs _ hq hs =>
    cases (show u=Value.ref l from ru)
    obtain⟨z,its,n,rv,hl,el⟩:=I2.lstR ((hq.same st2.ff).same st2.fh);cases hb:intsOf ds with
    | none=>simp only[gMaxD,hb,noE] at q2;exact q2.elim
    | some is =>
     obtain⟨l1,l2⟩:=u2u hb hs rv;refine md_call (I2.ok.hd hc) el l1 l2 λw h' tk hw k=>?_
     cases is with
     | nil =>
      simp only[gMaxD,hb,noE] at q2;cases (show w=u2 from by simpa using hw)
      exact⟨v2,H2,I2.kept k,r2,q2 _ _ _ st p2⟩
     | cons i r =>
      simp only[gMaxD,hb,noE] at q2;rw[if_neg (by simp)] at hw
      obtain⟨t,rfl⟩:=hw;have eb:=u6y i r r.length (y0 _);rw[List.take_length] at eb;refine⟨.int (r.foldl mx2 i),H2,I2.kept k,⟨t,?_⟩,q2 _ F2 H2 st (.int _)⟩;rw[<- eb];rfl
  | _=>simp only[gMaxD,noE] at q2;exact q2.elim
 ·rw [u0l hs]
  rfl
 ·rw [u0l hs]
  rfl⟩
end
def ZIt (b:Bool) (h:Heap) (i l:Addr) (k:Nat):Prop:=if b then h.IsTupleIter i l k else h.IsListIter i l k
def ZSq (b:Bool) (h:Heap) (l:Addr) (xs:Array Value):Prop:=if b then h.IsTuple l xs else h.IsList l xs
section
variable {i c:Addr}
theorem ZIt.at (x:ZIt b h i l k) (e:∀o,h.get? i=some o->h'.get? i=some o):ZIt b h' i l k:=by
 cases b
 ·exact Heap.IsListIter.at x e
 ·exact Heap.IsTupleIter.at x e
theorem ZSq.at (x:ZSq b h l xs) (e:∀o,h.get? l=some o->h'.get? l=some o):ZSq b h' l xs:=by
 cases b
 ·exact Heap.IsList.at x e
 ·obtain⟨o,a,r⟩:=(show h.IsTuple l xs from x);exact⟨o,e o a,r⟩
def ZIt.extBut (x:ZIt b h i l k) (hs:Heap.ExtBut c h h') (n:i≠c):ZIt b h' i l k:=x.at λo e=>hs _ _ n e
def ZSq.extBut (x:ZSq b h l xs) (hs:Heap.ExtBut c h h') (n:l≠c):ZSq b h' l xs:=x.at λo e=>hs _ _ n e
def ZIt.lt (x:ZIt b h i l k):i<h.objs.size:=by
 cases b
 ·obtain⟨_,e,_⟩:=(show h.IsListIter i l k from x);exact z8 e
 ·obtain⟨_,e,_⟩:=(show h.IsTupleIter i l k from x);exact z8 e
def ZSq.lt (x:ZSq b h l xs):l<h.objs.size:=by
 cases b
 ·obtain⟨_,e,_⟩:=(show h.IsList l xs from x);exact z8 e
 ·obtain⟨_,e,_⟩:=(show h.IsTuple l xs from x);exact z8 e
end
abbrev ZG (h:Heap) (z TI TO:Addr) (f0 f1:Value):Prop :=
 h.get? z=some { cls:=.type "zip",dict:=none,data:=.fields #[f0,f1,.bool false,.ref TI,.ref TO],slots:=#[] }
def Fr0 (f:Value):Prop:=f=.none\/∃a,f=rawInt a
def v1f{Q:Option Obj->Shared->Prop}{M:Model} (h:Q (s.heap.get? a) s):wpAny M A (loadIfAlive a) Q E s:=λΓ p _=>by
 unfold loadIfAlive;rw[Sem.wp_loadIfAlive];exact wpAny_pure (M:=M) (A:=A) (E:=E) h Γ p ‹_›
def u4H{items:Array Value}{x:Value} (hit:ZIt b s.heap it l i) (hl:ZSq b s.heap l items) (hx:items[i]?=some x)
  (hQ:∀h',ZIt b h' it l (i+1)->Heap.SameBut it s.heap h'->Q x { s with heap:=h' }):wpAny (model prog w) A (Builtin.SmallTypes.nextOf (.ref it)) Q E s:=by
 cases b
 ·exact wpAny_nextOf_list_item hit hl hx hQ
 ·exact nx_tup hit hl hx hQ
def v1q{items:Array Value} (hh:A.handled=none) (hit:ZIt b s.heap it l i) (hl:ZSq b s.heap l items) (hx:items[i]?=none)
  (hE:∀h' e,Heap.ExtBut it s.heap h'->(∃o,h'.get? e=some o/\o.cls=.type "StopIteration")->E (.ref e) { s with heap:=h' }):wpAny (model prog w) A (Builtin.SmallTypes.nextOf (.ref it)) Q E s:=by
 cases b
 ·exact wpAny_nextOf_list_end hh hit hl hx hE
 ·exact u8B hh hit hl hx hE
def v2F{TI TO:Addr}{Q:Bool->Shared->Prop} (hz:ZG s.heap z TI TO f0 f1) (hf:Fr0 f0)
  (hQ:∀b h' f1',ZG h' z TI TO f0 f1'->Heap.SameBut z s.heap h'->Q b { s with heap:=h' }):wpAny (model prog w) A (Builtin.SmallTypes.ownedTupleIsFree (.ref z)) Q E s:=by
 have hr:Heap.SameBut z s.heap s.heap:=⟨rfl,λ_ _=>rfl⟩
 unfold Builtin.SmallTypes.ownedTupleIsFree;refine wpAny_bind (wpAny_field hz rfl (x:=f0) rfl ?_);rcases hf with rfl|⟨a,rfl⟩
 ·exact wpAny_pure (hQ true s.heap f1 hz hr)
 ·show wpAny _ _ (loadIfAlive _ >>= _) _ _ _
  refine wpAny_bind (v1f ?_);cases hg:s.heap.get? (Int.toNat a) with
  | none=>exact wpAny_pure (hQ true s.heap f1 hz hr)
  | some o =>
   show wpAny _ _ (field (.ref z) 1 >>= _) _ _ _;refine wpAny_bind (wpAny_field hz rfl (x:=f1) rfl ?_);by_cases q:(f1 != .bool true)=true
   ·rw [if_pos q]
    refine wpAny_bind (wpAny_setField_rec hz (by simp) λh₁ hz₁ hs₁=>wpAny_pure (hQ false h₁ _ hz₁ hs₁))
   ·rw [if_neg q]
    exact wpAny_bind (wpAny_pure (wpAny_pure (hQ false s.heap f1 hz hr)))
def zg_item{TI TO:Addr}{x y a b:Value} (D:ZipApart z TI TO i1 i2 l1 l2)
  (hz:ZG s.heap z TI TO f0 f1) (hf:Fr0 f0) (hTI:IsPair s.heap TI (.ref i1) (.ref i2)) (hTO:IsPair s.heap TO a b)
  (h1:ZIt b1 s.heap i1 l1 k1) (h2:ZIt b2 s.heap i2 l2 k2) (hl1:ZSq b1 s.heap l1 xs) (hl2:ZSq b2 s.heap l2 ys) (hx:xs[k1]?=some x) (hy:ys[k2]?=some y)
  (hQ:∀ h' f0' f1',ZG h' z TI TO f0' f1'->Fr0 f0'->(∃ a b,IsPair h' TO a b)->ZIt b1 h' i1 l1 (k1+1)->ZIt b2 h' i2 l2 (k2+1)->IsPair h' s.heap.objs.size x y->h'.objs.size=s.heap.objs.size+1 ->
   (∀c o,c≠z->c≠TO->c≠i1->c≠i2->s.heap.get? c=some o->h'.get? c=some o)->Q (.ref s.heap.objs.size) { s with heap:=h' }) :
  wpAny (model prog w) A (Builtin.«zip.__next__» ⟨[.ref z],[]⟩) (λfin s'=>∃v,fin=.done (.ret v)/\Q v s') E s:=by
 show wpAny _ _ (field (.ref z) 2 >>= _) _ _ _;refine wpAny_bind (wpAny_field hz rfl (x:=.bool false) rfl ?_);show wpAny _ _ (field (.ref z) 3 >>= _) _ _ _;refine wpAny_bind (wpAny_field hz rfl (x:=.ref TI) rfl ?_);refine wpAny_bind (wpAny_seqItems hTI rfl ?_);show wpAny _ _ (Builtin.SmallTypes.ownedTupleIsFree (.ref z) >>= _) _ _ _;refine wpAny_bind (v2F hz hf λfb h₀ f1' hz₀ hs₀=>?_)
 cases fb with
 | true =>
  simp only[if_true];refine wpAny_bind (wpAny_rule ?_);refine wpAny_bind (wpAny_field hz₀ rfl (x:=.ref TO) rfl ?_);refine wpAny_bind (wpAny_setField_rec hz₀ (by simp) λh₁ hz₁ hs₁'=>?_)
  replace hz₁:ZG h₁ z TI TO .ellipsis f1':=hz₁
  have hs₁:Heap.SameBut z s.heap h₁:=⟨hs₁'.1.trans hs₀.1,λb hb=>(hs₁'.2 b hb).trans (hs₀.2 b hb)⟩
  refine wpAny_bind ?_;simp only[List.zipIdx_cons,List.zipIdx_nil,List.forIn_cons,List.forIn_nil];refine wpAny_bind (wpAny_bind (wpAny_onRaise ?_));show wpAny _ _ (Builtin.SmallTypes.nextOf (.ref i1) >>= _) _ _ _;refine wpAny_bind (u4H (h1.extBut hs₁.extBut D.i1z) (hl1.extBut hs₁.extBut D.l1z) hx λh₂ h1₂ hs₂=>wpAny_pure ?_)
  have hTO₂:IsPair h₂ TO a b:=hs₂.extBut _ _ D.TOi1 (hs₁.extBut _ _ D.TOz hTO);refine wpAny_bind (wpAny_seqItems hTO₂ rfl ?_);refine wpAny_bind (wpAny_updateSeq_pair hTO₂ λh₃ hTO₃ hs₃=>?_)
  replace hTO₃:IsPair h₃ TO x b:=hTO₃
  refine wpAny_bind (wpAny_letGo (wpAny_pure ?_));refine wpAny_bind (wpAny_bind (wpAny_onRaise ?_));show wpAny _ _ (Builtin.SmallTypes.nextOf (.ref i2) >>= _) _ _ _;refine wpAny_bind (u4H (((h2.extBut hs₁.extBut D.i2z).extBut hs₂.extBut D.i12.symm).extBut hs₃.extBut D.TOi2.symm)
   (((hl2.extBut hs₁.extBut D.l2z).extBut hs₂.extBut D.l2i1).extBut hs₃.extBut D.l2TO) hy λh₄ h2₄ hs₄=>wpAny_pure ?_)
  have hTO₄:IsPair h₄ TO x b:=hs₄.extBut _ _ D.TOi2 hTO₃;refine wpAny_bind (wpAny_seqItems hTO₄ rfl ?_);refine wpAny_bind (wpAny_updateSeq_pair hTO₄ λh₅ hTO₅ hs₅=>?_)
  replace hTO₅:IsPair h₅ TO x y:=hTO₅
  refine wpAny_bind (wpAny_letGo (wpAny_pure (wpAny_pure ?_)));refine wpAny_bind (wpAny_seqItems hTO₅ rfl ?_);refine wpAny_bind (wpAny_newTuple ?_);have hsz:h₅.objs.size=s.heap.objs.size:=by rw[hs₅.1,hs₄.1,hs₃.1,hs₂.1,hs₁.1]
  have hz₅:ZG h₅ z TI TO .ellipsis f1':=hs₅.extBut _ _ D.TOz.symm (hs₄.extBut _ _ D.i2z.symm (hs₃.extBut _ _ D.TOz.symm (hs₂.extBut _ _ D.i1z.symm hz₁)));have hk₅:∀c o,c≠z->c≠TO->c≠i1->c≠i2->s.heap.get? c=some o->h₅.get? c=some o:=λc o c1 c2 c3 c4 e =>
   hs₅.extBut _ _ c2 (hs₄.extBut _ _ c4 (hs₃.extBut _ _ c2 (hs₂.extBut _ _ c3 (hs₁.extBut _ _ c1 e))))
  have h1₅:ZIt b1 h₅ i1 l1 (k1+1):=((h1₂.extBut hs₃.extBut D.TOi1.symm).extBut hs₄.extBut D.i12).extBut hs₅.extBut D.TOi1.symm;have h2₅:ZIt b2 h₅ i2 l2 (k2+1):=h2₄.extBut hs₅.extBut D.TOi2.symm;have hzlt:z<h₅.objs.size:=z8 hz₅;show wpAny _ _ (Builtin.SmallTypes.ownedTupleHandOut (.ref z) (.ref h₅.objs.size) >>= _) _ _ _;refine wpAny_bind ?_;unfold Builtin.SmallTypes.ownedTupleHandOut;have hz₆:ZG (h₅.push { cls:=.type "tuple",data:=.seq #[x,y] }) z TI TO .ellipsis f1':=z0 _ hz₅;refine wpAny_bind (wpAny_setField_rec hz₆ (by simp) λh₇ hz₇ hs₇=>?_)
  replace hz₇:ZG h₇ z TI TO (rawInt h₅.objs.size) f1':=hz₇
  refine wpAny_setField_rec hz₇ (by simp) λh₈ hz₈ hs₈=>?_
  replace hz₈:ZG h₈ z TI TO (rawInt h₅.objs.size) (.bool false):=hz₈
  have up:∀c o,c≠z->h₅.get? c=some o->h₈.get? c=some o:=λc o c1 e=>hs₈.extBut _ _ c1 (hs₇.extBut _ _ c1 (z0 _ e))
  have hT₈:IsPair h₈ h₅.objs.size x y:=hs₈.extBut _ _ (Nat.ne_of_gt hzlt) (hs₇.extBut _ _ (Nat.ne_of_gt hzlt) (y6 _ rfl));have hz8:h₈.objs.size=h₅.objs.size+1:=by rw[hs₈.1,hs₇.1,Heap.size_push]
  rw[hsz] at hz₈ hT₈ hz8;refine wpAny_pure ⟨_,rfl,?_⟩;show Q (.ref h₅.objs.size) _;rw[hsz];exact hQ h₈ _ _ hz₈ (.inr ⟨_,rfl⟩) ⟨_,_,up _ _ D.TOz hTO₅⟩ (h1₅.at λo e=>up _ o D.i1z e) (h2₅.at λo e=>up _ o D.i2z e) hT₈ hz8 λc o c1 c2 c3 c4 e=>up c o c1 (hk₅ c o c1 c2 c3 c4 e)
 | false =>
  simp only[z1E,if_false];refine wpAny_bind ?_;rw[<- Array.forIn_toList];simp only[List.forIn_cons,List.forIn_nil];refine wpAny_bind (wpAny_bind (wpAny_holding ?_));show wpAny _ _ (Builtin.SmallTypes.nextOf (.ref i1) >>= _) _ _ _;refine wpAny_bind (u4H (h1.extBut hs₀.extBut D.i1z) (hl1.extBut hs₀.extBut D.l1z) hx λh₂ h1₂ hs₂=>wpAny_pure (wpAny_pure ?_))
  refine wpAny_bind (wpAny_bind (wpAny_holding ?_));show wpAny _ _ (Builtin.SmallTypes.nextOf (.ref i2) >>= _) _ _ _;refine wpAny_bind (u4H ((h2.extBut hs₀.extBut D.i2z).extBut hs₂.extBut D.i12.symm) ((hl2.extBut hs₀.extBut D.l2z).extBut hs₂.extBut D.l2i1) hy λh₄ h2₄ hs₄=>wpAny_pure (wpAny_pure ?_))
  refine wpAny_pure ?_;have hsz:h₄.objs.size=s.heap.objs.size:=by rw[hs₄.1,hs₂.1,hs₀.1]
  have hz₄:ZG h₄ z TI TO f0 f1':=hs₄.extBut _ _ D.i2z.symm (hs₂.extBut _ _ D.i1z.symm hz₀);have hTO₄:IsPair h₄ TO a b:=hs₄.extBut _ _ D.TOi2 (hs₂.extBut _ _ D.TOi1 (hs₀.extBut _ _ D.TOz hTO));show wpAny _ _ (newTuple [x,y] >>= _) _ _ _;refine wpAny_bind (wpAny_newTuple (wpAny_pure ⟨_,rfl,?_⟩));show Q (.ref h₄.objs.size) _;have up:∀c o,h₄.get? c=some o->(h₄.push { cls:=.type "tuple",data:=.seq #[x,y] }).get? c=some o:=λc o e=>z0 _ e
  have hT₈:IsPair (h₄.push { cls:=.type "tuple",data:=.seq #[x,y] }) h₄.objs.size x y:=y6 _ rfl;have hz8:(h₄.push { cls:=.type "tuple",data:=.seq #[x,y] }).objs.size=h₄.objs.size+1:=Heap.size_push ..;rw[hsz] at hT₈ hz8 |-
  exact hQ _ _ _ (up _ _ hz₄) hf ⟨_,_,up _ _ hTO₄⟩ (((h1₂.extBut hs₄.extBut D.i12)).at λo e=>up _ o e) (h2₄.at λo e=>up _ o e) hT₈ hz8 λc o c1 c2 c3 c4 e=>up c o (hs₄.extBut _ _ c4 (hs₂.extBut _ _ c3 (hs₀.extBut _ _ c1 e)))
def zg_end{TI TO:Addr}{a b:Value}{Q:Fin->Shared->Prop} (hh:A.handled=none) (D:ZipApart z TI TO i1 i2 l1 l2)
  (hz:ZG s.heap z TI TO f0 f1) (hf:Fr0 f0) (hTI:IsPair s.heap TI (.ref i1) (.ref i2)) (hTO:IsPair s.heap TO a b)
  (h1:ZIt b1 s.heap i1 l1 k1) (h2:ZIt b2 s.heap i2 l2 k2) (hl1:ZSq b1 s.heap l1 xs) (hl2:ZSq b2 s.heap l2 ys) (hend:xs[k1]?=none\/ys[k2]?=none)
  (hE:∀h' e,(∀c o,c≠z->c≠TO->c≠i1->c≠i2->s.heap.get? c=some o->h'.get? c=some o)->(∃o,h'.get? e=some o/\o.cls=.type "StopIteration")->E (.ref e) { s with heap:=h' }) :
  wpAny (model prog w) A (Builtin.«zip.__next__» ⟨[.ref z],[]⟩) Q E s:=by
 show wpAny _ _ (field (.ref z) 2 >>= _) _ _ _;refine wpAny_bind (wpAny_field hz rfl (x:=.bool false) rfl ?_);show wpAny _ _ (field (.ref z) 3 >>= _) _ _ _;refine wpAny_bind (wpAny_field hz rfl (x:=.ref TI) rfl ?_);refine wpAny_bind (wpAny_seqItems hTI rfl ?_);show wpAny _ _ (Builtin.SmallTypes.ownedTupleIsFree (.ref z) >>= _) _ _ _;refine wpAny_bind (v2F hz hf λfb h₀ f1' hz₀ hs₀=>?_)
 cases fb with
 | true =>
  simp only[if_true];refine wpAny_bind (wpAny_rule ?_);refine wpAny_bind (wpAny_field hz₀ rfl (x:=.ref TO) rfl ?_);refine wpAny_bind (wpAny_setField_rec hz₀ (by simp) λh₁ hz₁ hs₁'=>?_)
  replace hz₁:ZG h₁ z TI TO .ellipsis f1':=hz₁
  have hs₁:Heap.SameBut z s.heap h₁:=⟨hs₁'.1.trans hs₀.1,λb hb=>(hs₁'.2 b hb).trans (hs₀.2 b hb)⟩
  refine wpAny_bind ?_;simp only[List.zipIdx_cons,List.zipIdx_nil,List.forIn_cons,List.forIn_nil];refine wpAny_bind (wpAny_bind (wpAny_onRaise ?_));show wpAny _ _ (Builtin.SmallTypes.nextOf (.ref i1) >>= _) _ _ _;cases hx:xs[k1]? with
  | none =>
   refine wpAny_bind (v1q hh (h1.extBut hs₁.extBut D.i1z) (hl1.extBut hs₁.extBut D.l1z) hx λh₂ e hs₂ he=>?_)
   obtain⟨oe,hoe,hce⟩:=he;have hz₂:ZG h₂ z TI TO .ellipsis f1':=hs₂ _ _ D.i1z.symm hz₁;have hez:e≠z:=λx=>by subst x;rw[hz₂] at hoe;cases hoe;simp at hce
   refine wpAny_setField_rec hz₂ (by simp) λh₃ _ hs₃=>hE h₃ e (λc o c1 _ c3 _ x=>hs₃.extBut _ _ c1 (hs₂ _ _ c3 (hs₁.extBut _ _ c1 x))) ⟨oe,hs₃.extBut _ _ hez hoe,hce⟩
  | some x =>
   have hy:ys[k2]?=none:=by rcases hend with h|h;rw[hx] at h;cases h;exact h
   refine wpAny_bind (u4H (h1.extBut hs₁.extBut D.i1z) (hl1.extBut hs₁.extBut D.l1z) hx λh₂ h1₂ hs₂=>wpAny_pure ?_)
   have hTO₂:IsPair h₂ TO a b:=hs₂.extBut _ _ D.TOi1 (hs₁.extBut _ _ D.TOz hTO);refine wpAny_bind (wpAny_seqItems hTO₂ rfl ?_);refine wpAny_bind (wpAny_updateSeq_pair hTO₂ λh₃ hTO₃ hs₃=>?_)
   refine wpAny_bind (wpAny_letGo (wpAny_pure ?_));refine wpAny_bind (wpAny_bind (wpAny_onRaise ?_));show wpAny _ _ (Builtin.SmallTypes.nextOf (.ref i2) >>= _) _ _ _;refine wpAny_bind (v1q hh (((h2.extBut hs₁.extBut D.i2z).extBut hs₂.extBut D.i12.symm).extBut hs₃.extBut D.TOi2.symm)
    (((hl2.extBut hs₁.extBut D.l2z).extBut hs₂.extBut D.l2i1).extBut hs₃.extBut D.l2TO) hy λh₄ e hs₄ he=>?_)
   obtain⟨oe,hoe,hce⟩:=he;have hz₄:ZG h₄ z TI TO .ellipsis f1':=hs₄ _ _ D.i2z.symm (hs₃.extBut _ _ D.TOz.symm (hs₂.extBut _ _ D.i1z.symm hz₁));have hez:e≠z:=λx=>by subst x;rw[hz₄] at hoe;cases hoe;simp at hce
   refine wpAny_setField_rec hz₄ (by simp) λh₅ _ hs₅=>hE h₅ e (λc o c1 c2 c3 c4 x=>hs₅.extBut _ _ c1 (hs₄ _ _ c4 (hs₃.extBut _ _ c2 (hs₂.extBut _ _ c3 (hs₁.extBut _ _ c1 x))))) ⟨oe,hs₅.extBut _ _ hez hoe,hce⟩
 | false =>
  simp only[z1E,if_false];refine wpAny_bind ?_;rw[<- Array.forIn_toList];simp only[List.forIn_cons,List.forIn_nil];refine wpAny_bind (wpAny_bind (wpAny_holding ?_));show wpAny _ _ (Builtin.SmallTypes.nextOf (.ref i1) >>= _) _ _ _;cases hx:xs[k1]? with
  | none =>
   exact wpAny_bind (v1q hh (h1.extBut hs₀.extBut D.i1z) (hl1.extBut hs₀.extBut D.l1z) hx λh₂ e hs₂ he=>hE h₂ e (λc o c1 _ c3 _ x=>hs₂ _ _ c3 (hs₀.extBut _ _ c1 x)) he)
  | some x =>
   have hy:ys[k2]?=none:=by rcases hend with h|h;rw[hx] at h;cases h;exact h
   refine wpAny_bind (u4H (h1.extBut hs₀.extBut D.i1z) (hl1.extBut hs₀.extBut D.l1z) hx λh₂ h1₂ hs₂=>wpAny_pure (wpAny_pure ?_))
   refine wpAny_bind (wpAny_bind (wpAny_holding ?_));show wpAny _ _ (Builtin.SmallTypes.nextOf (.ref i2) >>= _) _ _ _;exact wpAny_bind (v1q hh ((h2.extBut hs₀.extBut D.i2z).extBut hs₂.extBut D.i12.symm) ((hl2.extBut hs₀.extBut D.l2z).extBut hs₂.extBut D.l2i1) hy λh₄ e hs₄ he=>hE h₄ e (λc o c1 _ c3 c4 x=>hs₄ _ _ c4 (hs₂.extBut _ _ c3 (hs₀.extBut _ _ c1 x))) he)
section
variable {fp:List Addr}
def Inv.grow(I:Inv X pins σ H s) (hf:∀b∈fp,FpOk X pins H b) (k:∀b o,b∉fp->s.heap.get? b=some o->h'.get? b=some o) (e1:Same H H')
  (e2:∀b o,s.heap.get? b=some o->H b=none->H' b=none) (e3:∀b u,H b=none->H' b=some u->ObjOk X.prog X.w H' h' b u):Inv X pins σ H' { s with heap:=h',toks:=t' }:=by
 have nin:∀b u,H b=some u->b∉fp:=λb u q z=>by rw[(hf b z).1] at q;cases q
 refine I.call' (ch:=fp) rfl ⟨λb o q n _ hx=>k b o hx q,λb o q n _ hx=>⟨o.slots,k b o hx q⟩,λb o q n _=>e2 b o q n,λb o q hx=>⟨o,k b o hx q⟩,λb xs q=>e1 _ _ q,λb o u q=>e1 _ _ q,λb ps q=>⟨#[],?_⟩⟩ ?_ I.bare λb hb=>?_
 ·rw[e1 _ _ q];simp
 ·intro b u q
  cases hb:H b with
  | none=>exact e3 b u hb q
  | some u' =>
   obtain rfl:u'=u:=by rw[e1 _ _ hb] at q;exact Option.some.inj q
   refine(I.hok b u' hb).stay (λc v hc z=>?_) (λc z=>e1 _ _ z) λc xs z=>e1 _ _ z
   rcases hc with rfl|hc
   ·exact k c v (nin c _ hb) z
   ·exact k c v (nin c _ hc) z
 ·obtain ⟨_,f1,_,f3,f4,f5⟩:=hf b hb
  exact⟨f3,f1,f4,f5⟩
end
structure ZSt (b1 b2:Bool) (z TI TO i1 i2 l1 l2:Addr) (k:Nat) (h:Heap):Prop where
 zp:∃f0 f1,ZG h z TI TO f0 f1/\Fr0 f0
 ti:IsPair h TI (.ref i1) (.ref i2)
 to:∃a b,IsPair h TO a b
 a:ZIt b1 h i1 l1 k
 b:ZIt b2 h i2 l2 k
def ZSt.keep{TI TO:Addr} (x:ZSt b1 b2 z TI TO i1 i2 l1 l2 k h) (e:∀b∈[z,TI,TO,i1,i2],∀o,h.get? b=some o->h'.get? b=some o):ZSt b1 b2 z TI TO i1 i2 l1 l2 k h' :=
 ⟨by obtain⟨f0,f1,p,q⟩:=x.zp;exact⟨f0,f1,e _ (by simp) _ p,q⟩,e _ (by simp) _ x.ti,by obtain⟨a,b,p⟩:=x.to;exact⟨a,b,e _ (by simp) _ p⟩,x.a.at λo q=>e _ (by simp) o q,x.b.at λo q=>e _ (by simp) o q⟩
def u8P{TI TO:Addr}{x y:Value}{Q:Option Value->Shared->Prop} (D:ZipApart z TI TO i1 i2 l1 l2) (st:ZSt b1 b2 z TI TO i1 i2 l1 l2 k s.heap)
  (hl1:ZSq b1 s.heap l1 xs) (hl2:ZSq b2 s.heap l2 ys) (hx:xs[k]?=some x) (hy:ys[k]?=some y)
  (hQ:∀h',ZSt b1 b2 z TI TO i1 i2 l1 l2 (k+1) h'->IsPair h' s.heap.objs.size x y->(∀c o,c∉[z,TI,TO,i1,i2]->s.heap.get? c=some o->h'.get? c=some o)->Q (some (.ref s.heap.objs.size)) { s with heap:=h' }) :
  wpAny (model prog w) A (pyNext (.ref z)) Q E s:=by
 obtain⟨⟨f0,f1,hz,hf⟩,hTI,⟨a,b,hTO⟩,h1,h2⟩:=st;have hT:s.TypeIs (.ref z) "zip":=⟨_,hz,rfl⟩;unfold pyNext;exact wpAny_bind (wpAny_attempt (wpAny_callSpecial?_slot (name:=Str.ofString "__next__") hT F.slot_zip_next
  (wpAny_call_entry F.slot_zip_next hT F.entry_zip_next
   (zg_item D hz hf hTI hTO h1 h2 hl1 hl2 hx hy λh' f0' f1' a1 a2 a3 a4 a5 a6 a7 a8=>wpAny_pure (hQ h' ⟨⟨f0',f1',a1,a2⟩,a8 _ _ D.TIz D.TITO D.TIi1 D.TIi2 hTI,a3,a4,a5⟩ a6 λc o hc e=>a8 c o (λq=>hc (by simp[q])) (λq=>hc (by simp[q])) (λq=>hc (by simp[q])) (λq=>hc (by simp[q])) e)) (F.args_zip_next_1 _))))
def v2D{TI TO:Addr}{Q:Option Value->Shared->Prop} (hh:A.handled=none) (D:ZipApart z TI TO i1 i2 l1 l2) (st:ZSt b1 b2 z TI TO i1 i2 l1 l2 k s.heap)
  (hl1:ZSq b1 s.heap l1 xs) (hl2:ZSq b2 s.heap l2 ys) (hend:xs[k]?=none\/ys[k]?=none)
  (hQ:∀h',(∀c o,c∉[z,TI,TO,i1,i2]->s.heap.get? c=some o->h'.get? c=some o)->Q none { s with heap:=h' }):wpAny (model prog w) A (pyNext (.ref z)) Q E s:=by
 obtain⟨⟨f0,f1,hz,hf⟩,hTI,⟨a,b,hTO⟩,h1,h2⟩:=st;have hT:s.TypeIs (.ref z) "zip":=⟨_,hz,rfl⟩;unfold pyNext;refine wpAny_bind (wpAny_attempt (wpAny_callSpecial?_slot (name:=Str.ofString "__next__") hT F.slot_zip_next
  (wpAny_call_entry F.slot_zip_next hT F.entry_zip_next (zg_end hh D hz hf hTI hTO h1 h2 hl1 hl2 hend λh' e hk he=>?_) (F.args_zip_next_1 _))))
 obtain⟨o,ho,hc⟩:=he;refine wpAny_bind (wpAny_isInstance (T:="StopIteration") (b:=true) ⟨o,ho,hc⟩ isSubtype_stop ?_);exact wpAny_pure (hQ _ λc o hc e=>hk c o (λq=>hc (by simp[q])) (λq=>hc (by simp[q])) (λq=>hc (by simp[q])) (λq=>hc (by simp[q])) e)
def zn_go{x1}{TI TO T:Addr}{Q:Unit->Shared->Prop} (D:ZipApart z TI TO i1 i2 l1 l2) (st:ZSt b1 b2 z TI TO i1 i2 l1 l2 k s.heap)
  (hQ:∀h',ZSt b1 b2 z TI TO i1 i2 l1 l2 k h'->Heap.SameBut z s.heap h'->Q () { s with heap:=h' }):wpAny (model prog w) A (letOwnedTupleGo (.Tuple es x1 pos) (.ref z) (.ref T)) Q E s:=by
 obtain⟨⟨f0,f1,hz,hf⟩,hTI,⟨a,b,hTO⟩,h1,h2⟩:=st;unfold letOwnedTupleGo;refine wpAny_bind (wpAny_load hz ?_);show wpAny _ _ (if (["enumerate","zip","dict_itemiterator","dict_reverseitemiterator","odict_iterator","itertools.zip_longest","itertools.pairwise"].contains "zip" &&
   (#[f0,f1,.bool false,.ref TI,.ref TO]:Array Value)[0]?==some (rawInt T))=true then _ else _) Q E s
 split
 ·refine wpAny_bind (wpAny_rule ?_)
  show wpAny _ _ (setField (.ref z) 0 .none) Q E s;exact wpAny_setField_rec hz (by simp) λh' hz' hs'=>hQ h' ⟨⟨_,_,hz',.inl rfl⟩,hs'.extBut _ _ D.TIz hTI,⟨a,b,hs'.extBut _ _ D.TOz hTO⟩,h1.extBut hs'.extBut D.i1z,h2.extBut hs'.extBut D.i2z⟩ hs'
 ·exact wpAny_pure (hQ s.heap ⟨⟨f0,f1,hz,hf⟩,hTI,⟨a,b,hTO⟩,h1,h2⟩ ⟨rfl,λ_ _=>rfl⟩)
def u6B{TI TO:Addr} (st:ZSt b1 b2 z TI TO i1 i2 l1 l2 k s.heap) (h:Q (.ref z) s):wpAny (model prog w) A (pyIter (.ref z)) Q E s:=by
 obtain⟨⟨f0,f1,hz,hf⟩,_⟩:=st;have hT:s.TypeIs (.ref z) "zip":=⟨_,hz,rfl⟩;refine wpAny_pyIter_slot hT F.slot_zip_iter (wpAny_call_entry F.slot_zip_iter hT F.entry_zip_iter ?_ (F.args_zip_iter_1 _));show wpAny _ _ (ret (.ref z)) _ _ s;exact wpAny_pure ⟨_,rfl,"zip",_,hT,F.slot_zip_next.lookup,h⟩
abbrev itO (b:Bool) (l:Addr):Obj:={ cls:=.type (if b then "tuple_iterator" else "list_iterator"),data:=.fields #[.ref l,.int 0 0] }
abbrev zg1 (b1:Bool) (h:Heap) (l1:Addr):Heap:=h.push (itO b1 l1)
abbrev zg2 (b1 b2:Bool) (h:Heap) (l1 l2:Addr):Heap:=(zg1 b1 h l1).push (itO b2 l2)
abbrev zg3 (b1 b2:Bool) (h:Heap) (l1 l2:Addr):Heap:=(zg2 b1 b2 h l1 l2).push { cls:=.type "tuple",data:=.seq #[.ref h.objs.size,.ref (zg1 b1 h l1).objs.size] }
abbrev zg4 (b1 b2:Bool) (h:Heap) (l1 l2:Addr):Heap:=(zg3 b1 b2 h l1 l2).push { cls:=.type "tuple",data:=.seq #[.none,.none] }
abbrev zg5 (b1 b2:Bool) (h:Heap) (l1 l2:Addr):Heap:=(zg4 b1 b2 h l1 l2).push { cls:=.type "zip",data:=.fields #[.none,.bool false,.bool false,.ref (zg2 b1 b2 h l1 l2).objs.size,.ref (zg3 b1 b2 h l1 l2).objs.size] }
def v2P(hl:ZSq b s.heap l xs) (h:Q (.ref s.heap.objs.size) { s with heap:=s.heap.push (itO b l) }):wpAny (model prog w) A (pyIter (.ref l)) Q E s:=by
 cases b
 ·exact wpAny_pyIter_list hl h
 ·exact wpAny_pyIter_tuple hl h
def v1T (b1 b2:Bool) (l1 l2:Addr) (xs ys:Array Value) :
  Meets (Builtin.«zip.__new__» ⟨[.type "zip",.ref l1,.ref l2],[]⟩) (λ_ R s=>ZSq b1 s.heap l1 xs/\ZSq b2 s.heap l2 ys /\
   R (.ok (.ret (.ref (zg4 b1 b2 s.heap l1 l2).objs.size))) { s with heap:=zg5 b1 b2 s.heap l1 l2 }) :=
 .of_wp λprog w A R s h=>by
  obtain⟨hp,g,d,tk,os⟩:=s;obtain⟨hl1,hl2,h⟩:=h;have hsub:=sub_zip;have hL1:ZSq b1 (Shared.heap ⟨hp,g,d,tk,os⟩) l1 xs:=hl1;have hL2:ZSq b2 (Shared.heap ⟨hp.push (itO b1 l1),g,d,tk,os⟩) l2 ys:=hl2.at λo e=>z0 _ e
  wp_walk using v2P hL1,v2P hL2
  exact⟨_,rfl,h⟩
def v0R(hl1:ZSq b1 s.heap l1 xs) (hl2:ZSq b2 s.heap l2 ys)
  (h:∀ h',ZSt b1 b2 (s.heap.objs.size+4) (s.heap.objs.size+2) (s.heap.objs.size+3) s.heap.objs.size (s.heap.objs.size+1) l1 l2 0 h' ->
   (∀c o,s.heap.get? c=some o->h'.get? c=some o)->Q (.ref (s.heap.objs.size+4)) { s with heap:=h' }) :
  wpAny (model prog w) A (call (.type "zip") [.ref l1,.ref l2]) Q E s:=by
 refine callType_new F.called_zip (by decide) (F.typeCall_zip_2 _ _) (F.newCall_zip_2 _ _) (λobj=>F.args_object_init_3 obj _ _) F.entry_zip_new
  (v1T b1 b2 l1 l2 xs ys) ⟨hl1,hl2,?_⟩
 have z1:(zg1 b1 s.heap l1).objs.size=s.heap.objs.size+1:=Heap.size_push ..;have z2:(zg2 b1 b2 s.heap l1 l2).objs.size=s.heap.objs.size+2:=by rw[Heap.size_push,z1]
 have z3:(zg3 b1 b2 s.heap l1 l2).objs.size=s.heap.objs.size+3:=by rw[Heap.size_push,z2]
 have z4:(zg4 b1 b2 s.heap l1 l2).objs.size=s.heap.objs.size+4:=by rw[Heap.size_push,z3]
 have g5:(zg5 b1 b2 s.heap l1 l2).get? (zg4 b1 b2 s.heap l1 l2).objs.size=some _:=y6 _ rfl;have g4:(zg5 b1 b2 s.heap l1 l2).get? (zg3 b1 b2 s.heap l1 l2).objs.size=some _:=z0 _ (y6 _ rfl);have g3:(zg5 b1 b2 s.heap l1 l2).get? (zg2 b1 b2 s.heap l1 l2).objs.size=some _:=z0 _ (z0 _ (y6 _ rfl));have g2:(zg5 b1 b2 s.heap l1 l2).get? (zg1 b1 s.heap l1).objs.size=some _:=z0 _ (z0 _ (z0 _ (y6 _ rfl)));have g1:(zg5 b1 b2 s.heap l1 l2).get? s.heap.objs.size=some _:=z0 _ (z0 _ (z0 _ (z0 _ (y6 _ rfl))));show _/\_;rw[z2,z3,z4] at g5;rw[z1,z2] at g3;rw[z3] at g4;rw[z1] at g2;rw[z4];have mk:∀(b:Bool) (h:Heap) (i l:Addr),h.get? i=some (itO b l)->ZIt b h i l 0:=λb h i l e=>by
  cases b
  ·exact⟨_,e,rfl,rfl⟩
  ·exact⟨_,e,rfl,rfl⟩
 exact⟨⟨_,g5,rfl⟩,h _ ⟨⟨_,_,g5,.inl rfl⟩,g3,⟨_,_,g4⟩,mk _ _ _ _ g1,mk _ _ _ _ g2⟩ λc o x =>
  z0 _ (z0 _ (z0 _ (z0 _ (z0 _ x))))⟩
def SqB (b:Bool) (K:W.Frag) (H:Hp) (a:Addr) (xs:List V):Prop:=if b then SqT K H a xs else SqL K H a xs
section
variable {xs ys:List V}
def Inv.sqB (I:Inv X pins σ H s) (h:SqB b X.K H a xs):∃its,Vals xs its/\ZSq b s.heap a its.toArray:=by
 cases b
 ·obtain ⟨its,rv,pl,hz⟩:=I.list h
  exact⟨its,rv,pl.isList⟩
 ·obtain ⟨its,rv,pl,hz⟩:=I.tuple h
  exact⟨its,rv,pl⟩
def Inv.sqB_inj (I:Inv X pins σ H s) (h:SqB b X.K H a xs) (h':SqB b X.K H a ys):xs=ys:=by
 cases b
 ·exact I.list_inj h h'
 ·exact I.tuple_inj h h'
end
def ItZ (K:W.Frag) (b1 b2:Bool) (a1 a2:Addr):It :=
 ⟨λi H=>∃xs ys x y,SqB b1 K H a1 xs/\SqB b2 K H a2 ys/\xs[i]?=some x/\ys[i]?=some y,
  λi H v H'=>∃p x y,H p=none/\v=.ref p/\H'=upd H p (.tup [x,y])/\∀xs ys,SqB b1 K H a1 xs->SqB b2 K H a2 ys->xs[i]?=some x/\ys[i]?=some y,
  λi H=>∃xs ys,SqB b1 K H a1 xs/\SqB b2 K H a2 ys/\(xs.length<=i\/ys.length<=i)⟩
def v1i{TI TO:Addr} (D:ZipApart z TI TO i1 i2 a1 a2) :
  Turn P w K (.Tuple es k pos) (ItZ K b1 b2 a1 a2) [z,TI,TO,i1,i2] z (λi h=>ZSt b1 b2 z TI TO i1 i2 a1 a2 i h) where
 mem:=by simp
 obj:=λi h st b hb=>by
  obtain⟨⟨f0,f1,hz,hf⟩,hTI,⟨x,y,hTO⟩,h1,h2⟩:=st;have it:∀(b:Bool) (i l:Addr) (k:Nat),ZIt b h i l k->∃o,h.get? i=some o/\∀v,o.data≠.cell v:=λb i l k e=>by
   cases b
   ·obtain⟨o,a,_,c⟩:=(show h.IsListIter i l k from e);exact⟨o,a,λv z=>by rw[c] at z;cases z⟩
   ·obtain⟨o,a,_,c⟩:=(show h.IsTupleIter i l k from e);exact⟨o,a,λv z=>by rw[c] at z;cases z⟩
  simp only[z7,u5,or_false] at hb;rcases hb with rfl|rfl|rfl|rfl|rfl
  ·exact⟨_,hz,λv z=>by cases z⟩
  ·exact⟨_,hTI,λv z=>by cases z⟩
  ·exact⟨_,hTO,λv z=>by cases z⟩
  ·exact it _ _ _ _ h1
  ·exact it _ _ _ _ h2
 keep:=λi h h' st k=>st.keep k
 item:=by
  intro X hP hw hK hc i pins s σ H E I hf st hg;subst hP hw hK;obtain⟨xs,ys,x,y,q1,q2,hx,hy⟩:=hg;obtain⟨us,rv1,p1⟩:=I.sqB q1;obtain⟨ws,rv2,p2⟩:=I.sqB q2;obtain⟨u,hu,ru⟩:=rv1.get hx;obtain⟨v,hv,rw⟩:=rv2.get hy;refine u8P D st p1 p2 (x:=u) (y:=v) (by simpa using hu) (by simpa using hv) λh1 st1 pr k1=>⟨_,rfl,?_⟩
  refine zn_go (s:={ s with heap:=h1 }) D st1 λh2 st2 sb=>?_
  have hfr:H s.heap.objs.size=none:=I.hok.fresh (y0 _);have hzl:z<s.heap.objs.size:=by obtain⟨_,_,e,_⟩:=st.zp;exact z8 e
  have pr2:IsPair h2 s.heap.objs.size u v:=sb.extBut _ _ (Nat.ne_of_gt hzl) pr;have kk:∀c o,c∉[z,TI,TO,i1,i2]->s.heap.get? c=some o->h2.get? c=some o:=λc o hc e=>sb.extBut _ _ (λq=>hc (by simp[q])) (k1 c o hc e)
  have lt:∀b∈[z,TI,TO,i1,i2],b<s.heap.objs.size:=λb hb=>by
   simp only[z7,u5,or_false] at hb;rcases hb with rfl|rfl|rfl|rfl|rfl
   ·exact hzl
   ·exact z8 st.ti
   ·obtain⟨_,_,e⟩:=st.to;exact z8 e
   ·exact st.a.lt
   ·exact st.b.lt
  have I2:Inv X pins σ (upd H s.heap.objs.size (.tup [x,y])) { s with heap:=h2,toks:=s.toks }:=I.grow (fp:=[z,TI,TO,i1,i2]) hf kk (u0g hfr) (λb o e n=>by rw[u0e (u9 (z8 e))];exact n) λb w n e=>by
   by_cases hb:b=s.heap.objs.size
   ·subst hb
    rw[u0c] at e;cases e;exact⟨by show 2<=sizeLine;decide,[u,v],.cons ru (.cons rw .nil),⟨_,pr2,rfl,_,rfl⟩⟩
   ·rw[u0e hb,n] at e;cases e
  refine⟨.ref s.heap.objs.size,_,I2,rfl,⟨s.heap.objs.size,x,y,hfr,rfl,rfl,λxs' ys' e1 e2=>?_⟩,st2,λb hb=>?_⟩
  ·rw[I.sqB_inj e1 q1,I.sqB_inj e2 q2];exact⟨hx,hy⟩
  ·rw[u0e (u9 (lt b hb))];exact(hf b hb).1
 done:=by
  intro X hP hw hK hc i pins s σ H E I hf st hg;subst hP hw hK;obtain⟨xs,ys,q1,q2,hx⟩:=hg;obtain⟨us,rv1,p1⟩:=I.sqB q1;obtain⟨ws,rv2,p2⟩:=I.sqB q2;have n1:=rv1.length;have n2:=rv2.length;refine v2D (I.ok.hd hc) D st p1 p2 (by
   rcases hx with h|h
   ·exact .inl (by simp;omega)
   ·exact .inr (by simp;omega)) λh' kk=>⟨rfl,I.grow (t':=s.toks) (fp:=[z,TI,TO,i1,i2]) hf kk (Same.refl H) (λb o e n=>n) λb w n e=>by rw[n] at e;cases e⟩
 self:=λ_ _ _ _ _ st h=>u6B st h
def iZip (K:W.Frag) (ta:TA):TI:=λσ H R=>ta σ H λvs H1=>∃b1 b2 a1 a2 xs ys,vs=[.ref a1,.ref a2]/\SqB b1 K H1 a1 xs/\SqB b2 K H1 a2 ys/\R (ItZ K b1 b2 a1 a2) H1
noncomputable def zipL (ds es:List D):List D:=(ds.zip es).map λp=>.tup [p.1,p.2]
noncomputable def rowOf:D->Option (List D)
 | .lst ds=>some ds
 | .tup ds=>some ds
 | _=>none
noncomputable def zip2:List D->Res (List D)
 | [a,b]=>match rowOf a,rowOf b with
  | some x,some y=>.ok (zipL x y)
  | _,_=>.bad
 | _=>.bad
def u2Q{xs:List V} (e:Same H H') (h:SqB b K H a xs):SqB b K H' a xs:=by
 cases b
 ·exact e.seq h
 ·exact e.seqT h
def Feed.zip{F:Hp}{xs ys:List V}{es:List D} (h1:SqB b1 K F a1 xs) (h2:SqB b2 K F a2 ys) (r1:Rps K F xs ds) (r2:Rps K F ys es):Feed K F (ItZ K b1 b2 a1 a2) (zipL ds es) where
 go i H e hi:=by
  have hi':i<xs.length/\i<ys.length:=by
   rw[r1.length,r2.length];unfold zipL at hi;rw[x9,List.length_zip] at hi;omega
  exact⟨xs,ys,xs[i]'hi'.1,ys[i]'hi'.2,u2Q e h1,u2Q e h2,by simp,by simp⟩
 yld i F1 H x H' d e1 e2 hd y:=by
  obtain⟨p,u,v,hp,rfl,rfl,y⟩:=y;obtain⟨hu,hv⟩:=y xs ys (u2Q (e1.trans e2) h1) (u2Q (e1.trans e2) h2);have hd2:∃d1 d2,ds[i]?=some d1/\es[i]?=some d2/\d=.tup [d1,d2]:=by
   unfold zipL at hd;rw[v7,Option.map_eq_some_iff] at hd;obtain⟨⟨d1,d2⟩,hz,rfl⟩:=hd;rw[List.getElem?_zip_eq_some] at hz;exact⟨d1,d2,hz.1,hz.2,rfl⟩
  obtain⟨d1,d2,q1,q2,rfl⟩:=hd2;obtain⟨w1,hw1,pw1⟩:=r1.get q1;obtain⟨w2,hw2,pw2⟩:=r2.get q2;rw[hu] at hw1;cases hw1;rw[hv] at hw2;cases hw2;have s:=Stp.new (o:=.tup [u,v]) e2 hp;exact⟨_,s,.tup (.inl (.inl u0c)) (.cons (pw1.same (e1.trans s.ff)) (.cons (pw2.same (e1.trans s.ff)) .nil))⟩
 stop i H e hi:=⟨xs,ys,u2Q e h1,u2Q e h2,by
  rw[r1.length,r2.length];unfold zipL at hi;rw[x9,List.length_zip] at hi
  omega⟩
def u5H{F:Hp} (p:Rp K F v d) (h:rowOf d=some ds):∃b a xs,v=.ref a/\(∀H,Same F H->SqB b K H a xs)/\SqB b K F a xs/\Rps K F xs ds:=by
 cases p with
 | @lst a xs _ hq hs=>cases h;exact⟨false,a,xs,rfl,λH e=>.inl (hq.same e),.inl hq,hs⟩
 | @tup a xs _ hq hs=>cases h;exact⟨true,a,xs,rfl,λH e=>e.seqT hq,hq,hs⟩
 | _=>cases h
section
variable {a b:Expr}{tp:Pos}
def pi_zip (hg:Gl X "zip") (hm:X.mg "zip"=none) (ha:PA X [a,b] ta) (hs:([a,b]:List Expr).all notStar=true:=by rfl):PI X (.Tuple es k tp) (.Call (.Name "zip" p) [a,b] [] pos) (iZip X.K ta):=by
 intro pins s σ H R I h;refine Call_ (u1J I hg hm (show bootBuiltins "zip"=some (.type "zip") by decide +kernel) (PyProof.Rows.callWith_type1 (thn (ha pos pins s σ H _ I h) λus s1 ⟨vs,H1,I1,r1,q1⟩=>?_) (u0l (u0j hs).1) (u0N (u0j hs).2)))
 obtain⟨b1,b2,a1,a2,xs,ys,e,h1,h2,q⟩:=q1;subst e;obtain⟨u1,u2,rfl,ru1,ru2⟩:=vals2 r1;cases (show u1=Value.ref a1 from ru1)
 cases (show u2=Value.ref a2 from ru2)
 obtain⟨us,rv1,p1⟩:=I1.sqB h1;obtain⟨ws,rv2,p2⟩:=I1.sqB h2;refine v0R p1 p2 λh' st kk=>u6B st ?_
 have D:=zipApart_new p1.lt p2.lt;refine⟨s1.heap.objs.size+4,_,_,ItZ X.K b1 b2 a1 a2,H1,rfl,I1.kept (t':=s1.toks) kk,v1i D,st,λc hc=>?_,q⟩
 have hb:s1.heap.objs.size<=c:=by
  simp only[z7,u5,or_false] at hc;rcases hc with rfl|rfl|rfl|rfl|rfl
  ·exact Nat.le_add_right _ _
  ·exact Nat.le_add_right _ _
  ·exact Nat.le_add_right _ _
  ·exact y0 _
  ·exact Nat.le_add_right _ _
 exact I1.fpOk hb (I1.hok.fresh hb)
set_option tactic.hygienic true in
def di_zip (hm:X.mg "zip"=none) (ha:DA X xq [a,b] fa) (hg:Gl X "zip":=by rfl):DI X xq (.Tuple es k tp) (.Call (.Name "zip" p) [a,b] [] pos) (λρ=>(fa ρ).bind zip2) :=
 ⟨λpins s σ H R I z9=>un5 z9 λB F ρ R' q=>pi_zip hg hm ha.out ha.ns pins s σ H R I (seqA R' q λds vs F1 H1 s1 R1 p1 q1=>by
  unfold zip2 at q1;split at q1
  ·rename_i d e
   obtain⟨v,w,rfl,pv,pw⟩:=rps2 p1;cases hx:rowOf d with
   | none=>rw[hx] at q1;exact q1.elim
   | some x =>
    cases hy:rowOf e with
    | none=>rw[hx,hy] at q1;exact q1.elim
    | some y =>
     rw[hx,hy] at q1;obtain⟨b1,a1,xs,rfl,g1,g1',t1⟩:=u5H pv hx;obtain⟨b2,a2,ys,rfl,g2,g2',t2⟩:=u5H pw hy;exact⟨b1,b2,a1,a2,xs,ys,rfl,g1 _ R1.fh,g2 _ R1.fh,q1 _ F1 H1 s1 (Feed.zip g1' g2' t1 t2)⟩
  ·exact q1.elim)⟩
end
def ZAcc (n0:Nat) (fp:List Addr) (xs ys:Array Value) (acc:Array Value) (h:Heap):Prop :=
 (∀(j:Nat) (v:Value),acc[j]?=some v->∃T x y,v=.ref T/\IsPair h T x y/\n0<=T/\T∉fp/\xs[j]?=some x/\ys[j]?=some y)/\∀(j j':Nat) (v:Value),acc[j]?=some v->acc[j']?=some v->j=j'
def ZAcc.keep{fp:List Addr} (a:ZAcc n0 fp xs ys acc h) (k:∀b o,b∉fp->h.get? b=some o->h'.get? b=some o):ZAcc n0 fp xs ys acc h':=⟨λj v e=>by
 obtain⟨T,x,y,e1,e2,e3,e4,e5⟩:=a.1 j v e;exact⟨T,x,y,e1,k _ _ e4 e2,e3,e4,e5⟩,a.2⟩
section
variable {R:Result->Shared->Prop}
def zl_loop{TI TO S:Addr} (hh:A.handled=none) (D:ZipApart z TI TO i1 i2 l1 l2) (hS:S∉[z,TI,TO,i1,i2]) (hl1:l1∉S::[z,TI,TO,i1,i2]) (hl2:l2∉S::[z,TI,TO,i1,i2]) (hn:min xs.size ys.size<=sizeLine) (res:Value) :
  ∀(k i:Nat) (s:Shared) (acc:Array Value) (c:Nat),min xs.size ys.size - i=k->i<=min xs.size ys.size->n0<=s.heap.objs.size->ZSt b1 b2 z TI TO i1 i2 l1 l2 i s.heap->ZSq b1 s.heap l1 xs->ZSq b2 s.heap l2 ys ->
  s.heap.get? S=some { cls:=.type "list",dict:=none,data:=.seq acc c,slots:=#[] }->acc.size=i->ZAcc n0 (S::[z,TI,TO,i1,i2]) xs ys acc s.heap ->
  (∀ h' acc' c',(∀ b o,b∉S::[z,TI,TO,i1,i2]->s.heap.get? b=some o->h'.get? b=some o)->h'.get? S=some { cls:=.type "list",dict:=none,data:=.seq acc' c',slots:=#[] }->acc'.size=min xs.size ys.size ->
   ZAcc n0 (S::[z,TI,TO,i1,i2]) xs ys acc' h'->R (.ok (.ret res)) { s with heap:=h' }) ->
  codeAny (model prog w) A (.builtin "list.extend.loop" ⟨[.ref S,.ref z,res],[]⟩) R s:=by
 have sub:∀b,b∉S::[z,TI,TO,i1,i2]->b∉[z,TI,TO,i1,i2]:=λb h q=>h (z5 _ q)
 intro k;induction k with
 | zero =>
  intro i s acc c hk hi h0 hst q1 q2 hs ha hz hR;have hin:i=min xs.size ys.size:=by omega
  refine codeAny_builtin F.entry_extend_loop ?_;rw[Around.under_plainId F.plain_extend_loop _];show wpAny _ A.in1 (pyNext (.ref z) >>= _) _ _ s;refine wpAny_bind (v2D (A:=A.in1) hh D hst q1 q2 (by
   rcases Nat.le_total xs.size ys.size with h|h
   ·exact .inl (by rw[Array.getElem?_eq_none_iff];omega)
   ·exact .inr (by rw[Array.getElem?_eq_none_iff];omega)) λh' kk=>?_)
  exact wpAny_pure (hR h' acc c (λb o hb e=>kk b o (sub b hb) e) (kk S _ hS hs) (by omega) (hz.keep λb o hb e=>kk b o (sub b hb) e))
 | succ k ih =>
  intro i s acc c hk hi h0 hst q1 q2 hs ha hz hR;have hlt:i<min xs.size ys.size:=by omega
  refine codeAny_builtin F.entry_extend_loop ?_;rw[Around.under_plainId F.plain_extend_loop _];show wpAny _ A.in1 (pyNext (.ref z) >>= _) _ _ s;have hx:xs[i]?=some (xs[i]'(by omega)):=z2B (by omega)
  have hy:ys[i]?=some (ys[i]'(by omega)):=z2B (by omega)
  refine wpAny_bind (u8P D hst q1 q2 hx hy λh' st' pr kk=>?_)
  have hs':=kk S _ hS hs;show wpAny _ A.in1 (updateSeq S (·.push (.ref s.heap.objs.size)) >>= _) _ _ _
  refine wpAny_bind ?_;have oth:∀b o,b≠S->h'.get? b=some o->(h'.update S (Obj.mapSeq (·.push (.ref s.heap.objs.size)))).get? b=some o:=λb o hb e=>(x6 _ _ (Ne.symm hb)).trans e
  have all:∀b o,b∉S::[z,TI,TO,i1,i2]->s.heap.get? b=some o->(h'.update S (Obj.mapSeq (·.push (.ref s.heap.objs.size)))).get? b=some o:=λb o hb e=>oth b o (λq=>hb (by simp[q])) (kk b o (sub b hb) e)
  have lts:∀b∈S::[z,TI,TO,i1,i2],b<s.heap.objs.size:=λb hb=>by
   simp only[z7,u5,or_false] at hb;rcases hb with rfl|rfl|rfl|rfl|rfl|rfl
   ·exact z8 hs
   ·obtain⟨_,_,e,_⟩:=hst.zp;exact z8 e
   ·exact z8 hst.ti
   ·obtain⟨_,_,e⟩:=hst.to;exact z8 e
   ·exact hst.a.lt
   ·exact hst.b.lt
  have hnew:s.heap.objs.size∉S::[z,TI,TO,i1,i2]:=λhm=>z0B _ (lts _ hm)
  refine wpAny_updateSeq hs' rfl (wpAny_pure ⟨plainId_quiet F.plain_extend_loop _,ih (i+1) _ (acc.push (.ref s.heap.objs.size)) _ (by omega) hlt ?_ (st'.keep λb hb o e=>oth b o (λq=>hS (q ▸ hb)) e) (q1.at λo e=>all _ o hl1 e) (q2.at λo e=>all _ o hl2 e) (u7 _ hs' rfl) (by rw[Array.size_push,ha]) ?_ λh'' acc' c' k2 hS2 ha2 hz2=>?_⟩)
   (by rw[ha];omega) (by show(acc.push _).size<=sizeLine+1;rw[Array.size_push,ha];omega)
  ·have e1:=z8 (oth _ _ (fun q=>hnew (by simp [q])) pr)
   exact y9 h0 (Nat.le_of_lt e1)
  ·have old:∀(j:Nat),acc[j]?≠some (.ref s.heap.objs.size):=λj e=>by
    obtain⟨T,x,y,e1,e2,_⟩:=hz.1 j _ e;cases e1;exact z0B _ (z8 e2)
   refine⟨λj v e=>?_,λj j' v e e'=>?_⟩
   ·rw [Array.getElem?_push] at e
    by_cases hj:j=acc.size
    ·rw [if_pos hj] at e
     cases e;rw[hj,ha];exact⟨_,_,_,rfl,oth _ _ (λq=>hnew (by simp[q])) pr,h0,hnew,hx,hy⟩
    ·rw [if_neg hj] at e
     exact(hz.keep all).1 j v e
   ·rw [Array.getElem?_push] at e e'
    by_cases hj:j=acc.size
    ·by_cases hj':j'=acc.size
     ·rw[hj,hj']
     ·rw [if_pos hj] at e;rw [if_neg hj'] at e'
      cases e;exact absurd e' (old j')
    ·by_cases hj':j'=acc.size
     ·rw [if_neg hj] at e;rw [if_pos hj'] at e'
      cases e';exact absurd e (old j)
     ·rw [if_neg hj] at e;rw [if_neg hj'] at e'
      exact hz.2 j j' v e e'
  ·exact hR h'' acc' c' (λb o hb e=>k2 b o hb (all b o hb e)) hS2 ha2 hz2
end
def u8o:typeLookup (.type "zip") "__len__"=pure none:=by rw[typeLookup_type,builtinLookup_eq_fast];kernel_rfl
def u6C:typeLookup (.type "zip") "__length_hint__"=pure none:=by rw[typeLookup_type,builtinLookup_eq_fast];kernel_rfl
section
variable {R:Result->Shared->Prop}
def zl_ext{TI TO S:Addr}{c₀:Nat} (hh:A.handled=none) (D:ZipApart z TI TO i1 i2 l1 l2) (hSn:S∉[z,TI,TO,i1,i2]) (hl1:l1∉S::[z,TI,TO,i1,i2]) (hl2:l2∉S::[z,TI,TO,i1,i2]) (hn:min xs.size ys.size<=sizeLine)
  (h0:n0<=s.heap.objs.size) (hst:ZSt b1 b2 z TI TO i1 i2 l1 l2 0 s.heap) (q1:ZSq b1 s.heap l1 xs) (q2:ZSq b2 s.heap l2 ys) (hS:s.heap.get? S=some { cls:=.type "list",data:=.seq #[] c₀ })
  (hR:∀ h' acc' c',(∀ b o,b∉S::[z,TI,TO,i1,i2]->s.heap.get? b=some o->h'.get? b=some o)->h'.get? S=some { cls:=.type "list",dict:=none,data:=.seq acc' c',slots:=#[] }->acc'.size=min xs.size ys.size ->
   ZAcc n0 (S::[z,TI,TO,i1,i2]) xs ys acc' h'->R (.ok (.ret res)) { s with heap:=h' }) :
  wpAny (model prog w) A.in1 (Builtin.List.listExtendWith (.ref S) (.ref z) res)
   (λfin s'=>match fin with | .done f=>R (.ok f) s' | .again c'=>c'.quiet=true/\codeAny (model prog w) A c' R s') (λe s'=>R (.error e) s') s:=by
 have hSI:S≠z:=λe=>hSn (by simp[e])
 have hT:s.TypeIs (.ref z) "zip":=by obtain⟨_,_,e,_⟩:=hst.zp;exact⟨_,e,rfl⟩
 unfold Builtin.List.listExtendWith;refine wpAny_bind (wpAny_typeOf hT ?_);have h1:Builtin.List.listSameRef (.ref S) (.ref z)=false:=by simp[Builtin.List.listSameRef,hSI]
 have h2:(Value.type "zip"==Value.type "list")=false:=by decide
 have h3:(Value.type "zip"==Value.type "tuple")=false:=by decide
 simp only[h1,h2,h3,Bool.or_false,z1E,if_false];refine wpAny_bind (u6B hst ?_);refine wpAny_bind (wpAny_holding ?_);unfold Builtin.List.listLengthHint;refine wpAny_bind (wpAny_specialOf hT u8o ?_);show wpAny _ A.in1 (specialOf (Value.ref z) (Str.ofString "__length_hint__") >>= _) _ _ _;refine wpAny_bind (wpAny_specialOf hT u6C ?_);refine wpAny_pure ?_;show wpAny _ A.in1 (rule "list.extend.makes-room" >>= λ_=>Builtin.List.listTouch (.ref S) >>= λ_ =>
  again (.builtin "list.extend.loop" ⟨[.ref S,.ref z,res],[]⟩)) _ _ _
 refine wpAny_bind (wpAny_rule ?_);refine wpAny_bind ?_;show wpAny _ A.in1 (updateSeq S (·.push .none) >>= λ_=>updateSeq S (·.pop)) _ _ _
 refine wpAny_bind (wpAny_updateSeq hS rfl ?_);have hS₂:=u7 (Obj.mapSeq (·.push Value.none)) hS rfl
 refine wpAny_updateSeq (hz:=by seq_fits) hS₂ rfl ?_
 have hS₃:=u7 (Obj.mapSeq (·.pop)) hS₂ rfl
 have oth:∀b o,b≠S->s.heap.get? b=some o->((s.heap.update S (Obj.mapSeq (·.push Value.none))).update S (Obj.mapSeq (·.pop))).get? b=some o :=
  λb o hb e=>(x6 _ _ (Ne.symm hb)).trans ((x6 _ _ (Ne.symm hb)).trans e)
 have hz:((s.heap.update S (Obj.mapSeq (·.push Value.none))).update S (Obj.mapSeq (·.pop))).objs.size=s.heap.objs.size:=by rw[(Heap.SameBut.update ..).1,(Heap.SameBut.update ..).1]
 refine wpAny_pure ⟨plainId_quiet F.plain_extend_loop _,zl_loop hh D hSn hl1 hl2 hn res _ 0 _ _ _ rfl (z0E _) (by rw[hz];exact h0) (hst.keep λb hb o e=>oth b o (λq=>hSn (q ▸ hb)) e)
  (q1.at λo e=>oth _ o (λq=>hl1 (by simp[q])) e) (q2.at λo e=>oth _ o (λq=>hl2 (by simp[q])) e) hS₃ (by simp) ⟨λj v e=>by simp at e,λj j' v e=>by simp at e⟩ λh' acc' c' k e1 e2 e3=>hR h' acc' c' (λb o hb e=>k b o hb (oth b o (λq=>hb (by simp[q])) e)) e1 e2 e3⟩
def call_zl{TI TO:Addr} (hh:A.handled=none) (D:ZipApart z TI TO i1 i2 l1 l2) (hn:min xs.size ys.size<=sizeLine)
  (n1:l1∉[z,TI,TO,i1,i2]) (n2:l2∉[z,TI,TO,i1,i2])
  (h0:n0<=s.heap.objs.size) (hst:ZSt b1 b2 z TI TO i1 i2 l1 l2 0 s.heap) (q1:ZSq b1 s.heap l1 xs) (q2:ZSq b2 s.heap l2 ys)
  (hQ:∀ h' acc' c',(∀ b o,b∉[z,TI,TO,i1,i2]->s.heap.get? b=some o->h'.get? b=some o)->h'.get? s.heap.objs.size=some { cls:=.type "list",dict:=none,data:=.seq acc' c',slots:=#[] }->acc'.size=min xs.size ys.size ->
   ZAcc n0 (s.heap.objs.size::[z,TI,TO,i1,i2]) xs ys acc' h'->Q (.ref s.heap.objs.size) { s with heap:=h' }) :
  wpAny (model prog w) A (call (.type "list") [.ref z]) Q E s:=by
 have lts:∀b∈[z,TI,TO,i1,i2],b<s.heap.objs.size:=λb hb=>by
  simp only[z7,u5,or_false] at hb;rcases hb with rfl|rfl|rfl|rfl|rfl
  ·obtain⟨_,_,e,_⟩:=hst.zp;exact z8 e
  ·exact z8 hst.ti
  ·obtain⟨_,_,e⟩:=hst.to;exact z8 e
  ·exact hst.a.lt
  ·exact hst.b.lt
 have hSn:s.heap.objs.size∉[z,TI,TO,i1,i2]:=λhm=>z0B _ (lts _ hm)
 have m1:l1∉s.heap.objs.size::[z,TI,TO,i1,i2]:=λhm=>by
  rcases z7.mp hm with e|e
  ·exact absurd (e ▸ q1.lt) (z0B _)
  ·exact n1 e
 have m2:l2∉s.heap.objs.size::[z,TI,TO,i1,i2]:=λhm=>by
  rcases z7.mp hm with e|e
  ·exact absurd (e ▸ q2.lt) (z0B _)
  ·exact n2 e
 refine callType_codes (Q₁:=λobj s₁=>obj=.ref s.heap.objs.size/\s₁={ s with heap:=s.heap.push { cls:=.type "list",data:=.seq #[] } }) F.called_list (F.typeCall_list_1 _) F.entry_list_init
  (code_list_new _ ⟨rfl,rfl⟩) λobj s₁ h₁=>?_
 obtain⟨rfl,rfl⟩:=h₁;have hS:(s.heap.push { cls:=.type "list",data:=.seq #[] }).get? s.heap.objs.size=some { cls:=.type "list",data:=.seq #[] }:=y6 _ rfl;refine⟨⟨_,hS,rfl⟩,F.args_list_init_2 _ _,?_⟩;show wpAny _ _ (do let old <- Builtin.List.listItems (.ref s.heap.objs.size);Builtin.List.listUpdate (.ref s.heap.objs.size) (λ_=>#[]);letGo old.toList.reverse;Builtin.List.listExtendWith (.ref s.heap.objs.size) (.ref z) .none) _ _ _
 refine wpAny_bind ?_;unfold Builtin.List.listItems;refine wpAny_bind (wpAny_seqItems hS rfl (wpAny_pure ?_));show wpAny _ _ (updateSeq s.heap.objs.size (λ_=>#[]) >>= λ_=>letGo (#[]:Array Value).toList.reverse >>= λ_=>Builtin.List.listExtendWith (.ref s.heap.objs.size) (.ref z) .none) _ _ _
 refine wpAny_bind (wpAny_updateSeq hS rfl ?_);have hS₂:=u7 (Obj.mapSeq (λ_=>(#[]:Array Value))) hS rfl
 have oth:∀b o,s.heap.get? b=some o->((s.heap.push { cls:=.type "list",data:=.seq #[] }).update s.heap.objs.size (Obj.mapSeq (λ_=>(#[]:Array Value)))).get? b=some o :=
  λb o e=>(x6 _ _ (Nat.ne_of_gt (z8 e))).trans (z0 _ e)
 refine wpAny_bind (wpAny_letGo ?_);have hz:((s.heap.push { cls:=.type "list",data:=.seq #[] }).update s.heap.objs.size (Obj.mapSeq (λ_=>(#[]:Array Value)))).objs.size=s.heap.objs.size+1:=by rw[(Heap.SameBut.update ..).1,Heap.size_push]
 refine zl_ext (A:=A.in1) hh D hSn m1 m2 hn (by rw[hz];exact Nat.le_succ_of_le h0) (hst.keep λb hb o e=>oth b o e) (q1.at λo e=>oth _ o e) (q2.at λo e=>oth _ o e) hS₂ λh' acc' c' k e1 e2 e3=>?_
 exact⟨rfl,hQ h' acc' c' (λb o hb e=>k b o (λhm=>by
  rcases z7.mp hm with q|q
  ·exact absurd (q ▸ z8 e) (z0B _)
  ·exact hb q) (oth b o e)) e1 e2 e3⟩
end
noncomputable def ixT (n:Nat) (T:Nat->Addr) (b:Addr):Option Nat:=(List.range n).find? λj=>T j==b
noncomputable def prs (H:Hp) (n:Nat) (T:Nat->Addr) (xs ys:List V):Hp:=λb=>match ixT n T b with
 | some j=>some (.tup [xs.getD j .non,ys.getD j .non])
 | none=>H b
section
variable {T:Nat->Addr}{b:Addr}{F:Hp}{xs ys:List V}
def u7U (h:ixT n T b=some j):j<n/\T j=b:=by
 unfold ixT at h;have h1:=List.find?_some h;have h2:=List.mem_of_find?_eq_some h;exact⟨z3B.mp h2,by simpa using h1⟩
def u2I (h:∀j,j<n->T j≠b):ixT n T b=none:=by
 unfold ixT;rw[List.find?_eq_none];intro j hj;simpa using h j (z3B.mp hj)
def ixT_at (inj:∀i j,i<n->j<n->T i=T j->i=j) (hj:j<n):ixT n T (T j)=some j:=by
 cases h:ixT n T (T j) with
 | none =>
  unfold ixT at h;rw[List.find?_eq_none] at h
  have:=h j (z3B.mpr hj)
  simp at this
 | some i=>obtain⟨a,e⟩:=u7U h;rw[inj i j a hj e]
def u2F (h:∀j,j<n->H (T j)=none):Same H (prs H n T xs ys):=λb u e=>by
 unfold prs;rw[u2I λj hj q=>by rw[<- q,h j hj] at e;cases e]
 exact e
def prs_le (h:∀j,j<n->F (T j)=none) (e:Same F H):Same (prs F n T xs ys) (prs H n T xs ys):=λb u q=>by
 unfold prs at q |-
 cases hi:ixT n T b with
 | some j=>rw[hi] at q;exact q
 | none=>rw[hi] at q;exact e _ _ q
end
section
variable {S:Nat}{T:Nat->Addr}{xs ys:List V}
abbrev vT (n:Nat) (T:Nat->Addr):List V:=(List.range n).map λj=>V.ref (T j)
theorem v2J {T:Nat->Addr}:∀(l:List Nat),Vals (l.map λj=>V.ref (T j)) (l.map λj=>Value.ref (T j))
 | []=>.nil
 | _::l=>.cons rfl (v2J l)
def Inv.pairs {S:Addr} (I:Inv X pins σ H s) (kk:∀b o,s.heap.get? b=some o->h'.get? b=some o) (hS:s.heap.objs.size<=S) (hn:n<=sizeLine)
  (eS:h'.get? S=some { cls:=.type "list",dict:=none,data:=.seq ((List.range n).map λj=>Value.ref (T j)).toArray c,slots:=#[] })
  (hT:∀j,j<n->∃u v,RelV (xs.getD j .non) u/\RelV (ys.getD j .non) v/\IsPair h' (T j) u v/\s.heap.objs.size<=T j/\T j≠S) (inj:∀i j,i<n->j<n->T i=T j->i=j) :
  Inv X pins σ (upd (prs H n T xs ys) S (.lst (vT n T))) { s with heap:=h',toks:=t' }:=by
 have fS:H S=none:=I.hok.fresh hS;have fT:∀j,j<n->H (T j)=none:=λj hj=>by obtain⟨_,_,_,_,_,q,_⟩:=hT j hj;exact I.hok.fresh q
 have nS:prs H n T xs ys S=none:=by
  unfold prs;rw[u2I λj hj q=>by obtain⟨_,_,_,_,_,_,e⟩:=hT j hj;exact e q]
  exact fS
 refine I.grow (fp:=[]) (λb hb=>nomatch hb) (λb o _ e=>kk b o e) ((u2F fT).trans (u0g nS)) (λb o e nb=>?_) λb u nb e=>?_
 ·have lb:=z8 e
  rw[u0e (u9 (x8 lb hS))];unfold prs;rw[u2I λj hj q=>by obtain⟨_,_,_,_,_,l,_⟩:=hT j hj;rw[q] at l;exact absurd lb (Nat.not_lt.mpr l)]
  exact nb
 ·by_cases hb:b=S
  ·subst hb
   rw[u0c] at e;cases e;exact⟨by rw[x9,List.length_range];exact hn,_,c,v2J _,eS⟩
  ·rw [u0e hb] at e
   unfold prs at e;cases hi:ixT n T b with
   | none=>rw[hi,nb] at e;cases e
   | some j =>
    rw[hi] at e;cases e;obtain⟨hj,rfl⟩:=u7U hi;obtain⟨u,v,r1,r2,pr,_⟩:=hT j hj;exact⟨by show 2<=sizeLine;decide,[u,v],.cons r1 (.cons r2 .nil),⟨_,pr,rfl,_,rfl⟩⟩
end
theorem rps_T{F:Hp}{T:Nat->Addr}:∀(l:List Nat) (ds:List D),l.length=ds.length->(∀(i j:Nat) d,l[i]?=some j->ds[i]?=some d->Rp K F (.ref (T j)) d)->Rps K F (l.map λj=>V.ref (T j)) ds
 | [],[],_,_=>.nil
 | j::l,d::ds,hl,h=>.cons (h 0 j d rfl rfl) (rps_T l ds (by simpa using hl) λi j d e1 e2=>h (i+1) j d (by simpa using e1) (by simpa using e2))
noncomputable def zipN:List D->Res OD:=λds=>(zip2 ds).bind λr=>.ok (.l r)
section
variable {a b:Expr}
set_option tactic.hygienic true in
def dn_zip (hc:X.calm=true) (hm:X.mg "list"=none) (hm2:X.mg "zip"=none) (ha:DA X xq [a,b] fa) (hg:Gl X "list":=by rfl) (hg2:Gl X "zip":=by rfl) :
  DN X xq (.Call (.Name "list" p) [.Call (.Name "zip" p2) [a,b] [] pos2] [] pos) (λρ=>(fa ρ).bind zipN):=⟨λpins s σ H Q I z9=>un5 z9 λB F ρ R q=>by
 refine Call_ (u1J I hg hm (show bootBuiltins "list"=some (.type "list") by decide +kernel) (PyProof.Rows.callWith_type1 ?_ rfl rfl))
 show wpAny _ _ (spliced ((false,eval (.Call (.Name "zip" p2) [a,b] [] pos2) X.env)::[])) _ _ s;refine Calls.spliced_cons ?_;refine Call_ (u1J I hg2 hm2 (show bootBuiltins "zip"=some (.type "zip") by decide +kernel) (PyProof.Rows.callWith_type1 (thn (ha.out pos2 pins s σ H (λvs H1=>∃b1 b2 a1 a2 xs ys ds es F1,vs=[.ref a1,.ref a2]/\SqB b1 X.K H1 a1 xs/\SqB b2 X.K H1 a2 ys/\Rps X.K F1 xs ds/\Rps X.K F1 ys es/\Stp F H F1 H1 /\
   (∀a h F' H',Stp F H F' H'->F' a=none->H a=none->H' a=some h->Ro X.K F' a h (.l (zipL ds es))->Q (.ref a) H')) I (seqA R q λds vs F1 H1 s1 R1 p1 q1=>?_)) λus s1 ⟨vs,H1,I1,r1,q1⟩=>?_) (u0l (u0j ha.ns).1) (u0N (u0j ha.ns).2)))
 ·unfold zipN zip2 at q1
  split at q1
  ·rename_i d e
   obtain⟨v,w,rfl,pv,pw⟩:=rps2 p1;cases hx:rowOf d with
   | none=>rw[hx] at q1;exact q1.elim
   | some x =>
    cases hy:rowOf e with
    | none=>rw[hx,hy] at q1;exact q1.elim
    | some y =>
     rw[hx,hy] at q1;obtain⟨b1,a1,xs,rfl,g1,g1',t1⟩:=u5H pv hx;obtain⟨b2,a2,ys,rfl,g2,g2',t2⟩:=u5H pw hy;exact⟨b1,b2,a1,a2,xs,ys,x,y,F1,rfl,g1 _ R1.fh,g2 _ R1.fh,t1,t2,s1,q1⟩
  ·exact q1.elim
 ·obtain ⟨b1,b2,a1,a2,xs,ys,ds,es,F1,e,h1,h2,t1,t2,st1,q⟩:=q1
  subst e;obtain⟨u1,u2,rfl,ru1,ru2⟩:=vals2 r1;cases (show u1=Value.ref a1 from ru1)
  cases (show u2=Value.ref a2 from ru2)
  obtain⟨us,rv1,p1⟩:=I1.sqB h1;obtain⟨ws,rv2,p2⟩:=I1.sqB h2;refine v0R p1 p2 λhA zst kk=>Calls.spliced_nil ?_
  have D:=zipApart_new p1.lt p2.lt;have hh:X.A.handled=none:=I1.ok.hd hc;have l1:=rv1.length;have l2:=rv2.length;have z1:xs.length<=sizeLine:=by
   cases b1
   ·obtain⟨_,_,_,z⟩:=I1.list h1;exact z
   ·obtain⟨_,_,_,z⟩:=I1.tuple h1;exact z
  have hmin:min us.toArray.size ws.toArray.size<=sizeLine:=by simp only[y7];omega
  have lA:s1.heap.objs.size<=hA.objs.size:=by
   have:=z8 zst.ti
   exact Nat.le_of_lt (z1D (Nat.le_add_right _ _) this)
  have new:∀c∈[s1.heap.objs.size+4,s1.heap.objs.size+2,s1.heap.objs.size+3,s1.heap.objs.size,s1.heap.objs.size+1],s1.heap.objs.size<=c:=λc hc=>by
   simp only[z7,u5,or_false] at hc;rcases hc with rfl|rfl|rfl|rfl|rfl
   ·exact Nat.le_add_right _ _
   ·exact Nat.le_add_right _ _
   ·exact Nat.le_add_right _ _
   ·exact y0 _
   ·exact Nat.le_add_right _ _
  refine call_zl (s:={ s1 with heap:=hA }) (n0:=s1.heap.objs.size) hh D hmin (λhm=>absurd p1.lt (Nat.not_lt.mpr (new _ hm))) (λhm=>absurd p2.lt (Nat.not_lt.mpr (new _ hm))) lA zst (p1.at λo e=>kk _ o e) (p2.at λo e=>kk _ o e) λh' acc c kB eS esz ez=>?_
  let T:Nat->Addr:=λj=>match acc[j]? with|some (.ref t)=>t|_=>0
  let n:=min us.length ws.length
  have hsz:acc.size=n:=by rw[esz];simp only[y7];rfl
  have item:∀j,j<n->acc[j]?=some (.ref (T j))/\∃x y,IsPair h' (T j) x y/\s1.heap.objs.size<=T j/\T j≠hA.objs.size/\us[j]?=some x/\ws[j]?=some y:=λj hj=>by
   have e:acc[j]?=some (acc[j]'(by omega)):=z2B (by omega)
   obtain⟨t,x,y,e1,e2,e3,e4,e5,e6⟩:=ez.1 j _ e;have et:T j=t:=by show(match acc[j]? with|some (.ref t)=>t|_=>0)=t;rw[e,e1]
   rw[et];exact⟨by rw[e,e1],x,y,e2,e3,λq=>e4 (by rw[q];exact z6),by simpa using e5,by simpa using e6⟩
  have inj:∀i j,i<n->j<n->T i=T j->i=j:=λi j hi hj e=>ez.2 i j _ (item i hi).1 (by rw[e];exact(item j hj).1)
  have eacc:acc=((List.range n).map λj=>Value.ref (T j)).toArray:=by
   apply Array.ext_getElem?;intro j;by_cases hj:j<n
   ·rw[(item j hj).1];simp[hj]
   ·rw[Array.getElem?_eq_none (by omega)];simp[hj]
  rw[eacc] at eS;have fT:∀j,j<n->H1 (T j)=none:=λj hj=>by obtain⟨_,_,_,_,q,_⟩:=item j hj;exact I1.hok.fresh q
  have fT1:∀j,j<n->F1 (T j)=none:=λj hj=>st1.fh.free (fT j hj)
  have fS:H1 hA.objs.size=none:=I1.hok.fresh lA;have prS:∀(G:Hp),G hA.objs.size=none->prs G n T xs ys hA.objs.size=none:=λG g=>by
   unfold prs;rw[u2I λj hj q=>by obtain⟨_,_,_,_,_,e,_⟩:=item j hj;exact e q]
   exact g
  have I2:=I1.pairs (t':=s1.toks) (S:=hA.objs.size) (n:=n) (T:=T) (xs:=xs) (ys:=ys) (c:=c) (λb o e=>kB b o (λhm=>absurd (z8 e) (Nat.not_lt.mpr (new _ hm))) (kk b o e)) lA (by show min us.length ws.length<=_;omega) eS (λj hj=>by
   obtain⟨_,x,y,e2,e3,e4,e5,e6⟩:=item j hj;have hx:xs[j]?=some (xs.getD j .non):=by
    rw[List.getD_eq_getElem?_getD,u3 (show j<xs.length from by have:j<min us.length ws.length:=hj;omega)];rfl
   have hy:ys[j]?=some (ys.getD j .non):=by
    rw[List.getD_eq_getElem?_getD,u3 (show j<ys.length from by have:j<min us.length ws.length:=hj;omega)];rfl
   obtain⟨u,hu,ru⟩:=rv1.get hx;obtain⟨v,hv,rv⟩:=rv2.get hy;rw[e5] at hu;cases hu;rw[e6] at hv;cases hv;exact⟨x,y,ru,rv,e2,e3,e4⟩) inj
  have ssame:Same (prs F1 n T xs ys) (upd (prs H1 n T xs ys) hA.objs.size (.lst (vT n T))):=(prs_le fT1 st1.fh).trans (u0g (prS H1 fS));refine⟨.ref hA.objs.size,_,I2,rfl,q _ (.lst (vT n T)) (prs F1 n T xs ys) _ (st1.trans ⟨u2F fT1,ssame,(u2F fT).trans (u0g (prS H1 fS)),λb f1 hb=>?_,λb x u q=>by
   unfold prs at q;split at q
   ·cases q
   ·exact q⟩) (prS F1 (st1.fh.free fS)) (st1.hh.free fS) u0c (.l (rps_T _ _ ?_ λi j d e1 e2=>?_))⟩
  ·unfold prs
   rw[u2I λj hj e=>hb (by rw[<- e];exact fT j hj)]
   exact f1
  ·have:=t1.length
   have:=t2.length
   unfold zipL;rw[List.length_range,x9,List.length_zip];show min us.length ws.length=_;omega
  ·have hi:i<n/\j=i:=by
    have l:=(w9.mp e1).1;rw[List.length_range] at l;rw[List.getElem?_range l] at e1;exact⟨l,(Option.some.inj e1).symm⟩
   obtain⟨hi,rfl⟩:=hi;unfold zipL at e2;rw[v7,Option.map_eq_some_iff] at e2;obtain⟨⟨d1,d2⟩,hz,rfl⟩:=e2;rw[List.getElem?_zip_eq_some] at hz;obtain⟨x,hx,px⟩:=t1.get hz.1;obtain⟨y,hy,py⟩:=t2.get hz.2;have e3:prs F1 n T xs ys (T j)=some (.tup [x,y]):=by
    unfold prs;rw[ixT_at inj hi];simp only[List.getD_eq_getElem?_getD,hx,hy,Option.getD_some]
   exact .tup (.inl (.inl e3)) (.cons (px.same (u2F fT1)) (.cons (py.same (u2F fT1)) .nil))⟩
end
section
variable {R:Result->Shared->Prop}
variable {fp wr:List Addr}{G:Array GenState->Array GenState->Prop}{P:Nat->Value->Prop}{St:Nat->Shared->Prop}
def Hints (prog:Program) (w:World) (A:Around) (I:Addr) (St:Nat->Shared->Prop):Prop:=∀(s:Shared) (Q:Bool->Shared->Prop) (E:VP),St 0 s->(∀b tk,s.toks<=tk->Q b { s with toks:=tk })->wpAny (model prog w) A (Builtin.List.listLengthHint (.ref I)) Q E s
def ext_it (W:WalksS prog w A.in1 I fp wr G n P St) (hH:Hints prog w A.in1 I St) (hT:∀i s,St i s->s.TypeIs (.ref I) T) (n1:(Value.type T==Value.type "list")=false) (n2:(Value.type T==Value.type "tuple")=false) (S:Addr) (res:Value) (c₀:Nat) (hst:St 0 s) (hSf:S∉fp) (hI:I∈fp)
  (hS:s.heap.get? S=some { cls:=.type "list",data:=.seq #[] c₀ }) (hn:n<=sizeLine)
  (hR:∀s' acc' c',Moved (S::wr) G s s'->s'.heap.get? S=some { cls:=.type "list",dict:=none,data:=.seq acc' c',slots:=#[] }->ItemsOf P acc' n->R (.ok (.ret res)) s') :
  wpAny (model prog w) A.in1 (Builtin.List.listExtendWith (.ref S) (.ref I) res)
   (λfin s'=>match fin with | .done f=>R (.ok f) s' | .again c'=>c'.quiet=true/\codeAny (model prog w) A c' R s') (λe s'=>R (.error e) s') s:=by
 have hSI:S≠I:=λe=>hSf (e ▸ hI)
 unfold Builtin.List.listExtendWith;refine wpAny_bind (wpAny_typeOf (hT 0 _ hst) ?_);have h1:Builtin.List.listSameRef (.ref S) (.ref I)=false:=by simp[Builtin.List.listSameRef,hSI]
 simp only[h1,n1,n2,Bool.or_false,z1E,if_false];refine wpAny_bind (W.self 0 _ _ _ hst ?_);refine wpAny_bind (wpAny_holding (hH s _ _ hst λb tk htk=>?_))
 have hst2:St 0 { s with toks:=tk }:=W.frame 0 s s.heap tk hst htk λb _ o e=>e
 have m0:Moved (S::wr) G s { s with toks:=tk }:=(Moved.refl W.grefl).then_heap htk λb o _ e=>e
 split
 ·refine wpAny_bind (wpAny_rule ?_)
  refine wpAny_bind ?_;show wpAny _ A.in1 (updateSeq S (·.push .none) >>= λ_=>updateSeq S (·.pop)) _ _ _
  refine wpAny_bind (wpAny_updateSeq hS rfl ?_);have hS₂:=u7 (Obj.mapSeq (·.push Value.none)) hS rfl
  refine wpAny_updateSeq (hz:=by seq_fits) hS₂ rfl ?_
  have hS₃:=u7 (Obj.mapSeq (·.pop)) hS₂ rfl
  have oth:∀b o,b≠S->s.heap.get? b=some o->((s.heap.update S (Obj.mapSeq (·.push Value.none))).update S (Obj.mapSeq (·.pop))).get? b=some o :=
   λb o hb e=>(x6 _ _ (Ne.symm hb)).trans ((x6 _ _ (Ne.symm hb)).trans e)
  refine wpAny_pure ⟨plainId_quiet F.plain_extend_loop _,codeAny_extend_loopS W hn _ hSf _ n 0 _ _ _ rfl (z0E _)
   (W.frame 0 s _ tk hst htk λb hb o e=>oth b o (λh=>hSf (h ▸ hb)) e) hS₃ (ItemsOf.nil P) λs' acc' c' hm hS' hacc=>?_⟩
  exact hR s' acc' c' (Moved.trans W.gtrans ((Moved.refl W.grefl).then_heap htk λb o hb e=>oth b o (λh=>hb (h ▸ z6)) e) hm) hS' hacc
 ·exact wpAny_pure ⟨plainId_quiet F.plain_extend_loop _,codeAny_extend_loopS W hn _ hSf _ n 0 _ _ _ rfl (z0E _) hst2 hS (ItemsOf.nil P) λs' acc' c' hm hS' hacc=>hR s' acc' c' (Moved.trans W.gtrans m0 hm) hS' hacc⟩
def u3r(W:WalksS prog w A.in1.in1 I fp wr G n P St) (hH:Hints prog w A.in1.in1 I St) (hT:∀i s,St i s->s.TypeIs (.ref I) T) (n1:(Value.type T==Value.type "list")=false) (n2:(Value.type T==Value.type "tuple")=false) (hst:St 0 s) (hfp:∀b∈fp,b<s.heap.objs.size) (hI:I∈fp) (hn:n<=sizeLine)
  (hQ:∀ s' acc' c',Moved (s.heap.objs.size::wr) G { s with heap:=s.heap.push { cls:=.type "list",data:=.seq #[] } } s' ->
   s'.heap.get? s.heap.objs.size=some { cls:=.type "list",dict:=none,data:=.seq acc' c',slots:=#[] }->ItemsOf P acc' n->Q (.ref s.heap.objs.size) s') :
  wpAny (model prog w) A (call (.type "list") [.ref I]) Q E s:=by
 have hSf:s.heap.objs.size∉fp:=λhm=>z0B _ (hfp _ hm)
 refine callType_codes (Q₁:=λobj s₁=>obj=.ref s.heap.objs.size/\s₁={ s with heap:=s.heap.push { cls:=.type "list",data:=.seq #[] } }) F.called_list (F.typeCall_list_1 _) F.entry_list_init
  (code_list_new _ ⟨rfl,rfl⟩) λobj s₁ h₁=>?_
 obtain⟨rfl,rfl⟩:=h₁;have hS:(s.heap.push { cls:=.type "list",data:=.seq #[] }).get? s.heap.objs.size=some { cls:=.type "list",data:=.seq #[] }:=y6 _ rfl;have st1:=W.frame 0 s _ s.toks hst (y0 _) λb _ o e=>z0 { cls:=.type "list",data:=.seq #[] } e
 refine⟨⟨_,hS,rfl⟩,F.args_list_init_2 _ _,?_⟩;show wpAny _ A.in1.in1 (do let old <- Builtin.List.listItems (.ref s.heap.objs.size);Builtin.List.listUpdate (.ref s.heap.objs.size) (λ_=>#[]);letGo old.toList.reverse;Builtin.List.listExtendWith (.ref s.heap.objs.size) (.ref I) .none) _ _ _
 refine wpAny_bind ?_;unfold Builtin.List.listItems;refine wpAny_bind (wpAny_seqItems hS rfl (wpAny_pure ?_));show wpAny _ A.in1.in1 (updateSeq s.heap.objs.size (λ_=>#[]) >>= λ_=>letGo (#[]:Array Value).toList.reverse >>= λ_=>Builtin.List.listExtendWith (.ref s.heap.objs.size) (.ref I) .none) _ _ _
 refine wpAny_bind (wpAny_updateSeq hS rfl ?_);have hS₂:=u7 (Obj.mapSeq (λ_=>(#[]:Array Value))) hS rfl
 have oth:∀b o,b≠s.heap.objs.size->(s.heap.push { cls:=.type "list",data:=.seq #[] }).get? b=some o->((s.heap.push { cls:=.type "list",data:=.seq #[] }).update s.heap.objs.size (Obj.mapSeq (λ_=>(#[]:Array Value)))).get? b=some o :=
  λb o hb e=>(x6 _ _ (Ne.symm hb)).trans e
 refine wpAny_bind (wpAny_letGo ?_);refine ext_it W hH hT n1 n2 _ .none _ (W.frame 0 _ _ _ st1 (y0 _) λb hb o e=>oth b o (λh=>hSf (h ▸ hb)) e) hSf hI hS₂ hn λs' acc' c' hm hS' hacc=>?_
 exact⟨rfl,hQ s' acc' c' (Moved.trans W.gtrans ((Moved.refl W.grefl).then_heap (y0 _) λb o hb e=>oth b o (λh=>hb (h ▸ z6)) e) hm) hS' hacc⟩
end
def v1s:typeLookup (.type "reversed") "__len__"=pure none:=by rw[typeLookup_type,builtinLookup_eq_fast];kernel_rfl
def u6R:Slot "reversed" "__length_hint__" "reversed.__length_hint__":=.of (owner:="reversed") (n:="__length_hint__") (by rw[typeLookup_type,builtinLookup_eq_fast];kernel_rfl) (by decide +kernel) (by decide +kernel) (by decide +kernel) (by first|exact .inl (by decide +kernel)|exact .inr (by decide +kernel)) (by rw[isSubtype_type];kernel_rfl)
def v1u:entryFor table "reversed.__length_hint__"=some Builtin.«reversed.__length_hint__»:=entryFor_of_tree (by kernel_rfl)
def v1w (a:Value):argsOk "reversed.__length_hint__" ⟨[a],[]⟩:=by
 unfold argsOk;rw[signature?_of (id:="reversed.__length_hint__") (n:=['_','_','t','n','i','h','_','h','t','g','n','e','l','_','_']) (o:=['d','e','s','r','e','v','e','r']) (by kernel_rfl) u9q];kernel_rfl
def v1r:splitId "reversed.__length_hint__"=some ("reversed","__length_hint__"):=by decide +kernel
def v1h (hh:A.handled=none) (I l:Addr) (hne:l≠I) (items:Array Value) (hz:(items.size:Int)<2^63) :
  Walks P w A I [I,l] [I] items.size (λi v=>items[items.size - 1 - i]?=some v) (λi h=>i<=items.size/\IsRv h I l ((items.size:Int) - 1 - (i:Int))/\h.IsTuple l items) where
 sub:=λb hb=>by simp at hb;simp[hb]
 frame:=λ_ _ _ x hk=>⟨x.1,hk I (by simp) _ x.2.1,x.2.2.at λo e=>hk l (by simp) o e⟩
 item:=λi s Q E hi x hQ=>by
  have e:(items.size:Int) - 1 - (i:Int)=((items.size - 1 - i:Nat):Int):=by omega
  have hit:=x.2.1;rw[e] at hit;have hx:items[items.size - 1 - i]?=some (items[items.size - 1 - i]'(by omega)):=z2B (by omega)
  refine nx_rv hit x.2.2 hz hx λh' t hit' hs'=>?_
  have e2:((items.size - 1 - i:Nat):Int) - 1=(items.size:Int) - 1 - ((i+1:Nat):Int):=by omega
  rw[e2] at hit';exact hQ _ h' t hx ⟨hi,hit',x.2.2.at λo eo=>(hs'.2 l hne).trans eo⟩ λb o hb eo=>hs'.extBut b o (λh=>hb (by simp[h])) eo
 done:=λs Q E x hQ=>by
  have e:(items.size:Int) - 1 - (items.size:Int)=-1:=by omega
  have hit:=x.2.1;rw[e] at hit;exact u5W hh hit λh' he'=>hQ h' s.toks λb o hb eo=>he' b o (λh=>hb (by simp[h])) eo
 self:=λ_ _ _ _ x hQ=>it_rv x.2.1 hQ
def hint_rv{items:Array Value}{Q:Bool->Shared->Prop} (hz:items.size<=sizeLine) (hI:IsRv s.heap I l ((items.size:Int) - 1)) (hl:s.heap.IsTuple l items) (h:∀b tk,s.toks<=tk->Q b { s with toks:=tk }) :
  wpAny (model P w) A (Builtin.List.listLengthHint (.ref I)) Q E s:=by
 unfold Builtin.List.listLengthHint;refine wpAny_bind (wpAny_specialOf hI.ty v1s ?_);dsimp only;rw[if_neg (by decide)]
 rw[if_neg (by decide)]
 refine wpAny_bind (wpAny_specialOf hI.ty u6R.lookup ?_);dsimp only;rw[v1r];dsimp only;refine wpAny_bind (wpAny_isInstance (T:="reversed") (b:=true) hI.ty F.sub_reversed_self ?_);rw[if_neg (by decide)]
 rw[if_neg (by decide +kernel)]
 refine wpAny_bind (wpAny_rule ?_);refine wpAny_bind (wpAny_of_eq (u6R.bind (.ref I)) ?_);refine wpAny_bind (wpAny_attempt (wpAny_call_entry u6R hI.ty v1u ?_ (v1w _)));unfold Builtin.«reversed.__length_hint__»;have hzi:(items.size:Int)<2^63:=Int.lt_of_le_of_lt (Int.ofNat_le.mpr hz) (by decide +kernel)
 refine wpAny_bind (wpAny_of_eq (a:=Value.ref I) rfl ?_);refine wpAny_bind (wpAny_field hI rfl (x:=.ref l) rfl ?_);rw[if_neg (by simp)]
 refine wpAny_bind (len_tuple (show IsTup s.heap l items from hl) hzi (wpAny_bind (wpAny_of_eq (a:=some (items.size:Int)) rfl ?_)))
 dsimp only;refine wpAny_bind (wpAny_field hI rfl (x:=rawInt ((items.size:Int) - 1)) rfl ?_);show wpAny _ _ (if (items.size:Int)<(items.size:Int) - 1+1 then _ else _) _ _ _
 rw[if_neg (by omega)]
 have e:(items.size:Int) - 1+1=(items.size:Int):=by omega
 rw[e];refine wpAny_ret_mkInt ?_;dsimp only;generalize hN:(items.size:Int)=N at hzi |-
 have ea:∀(k:Int) (t:Tok),asInt? (.int k t)=pure (some k):=λ_ _=>rfl
 rw[ea,pure_bind];dsimp only;have f1:Builtin.List.listFitsIndex N=true:=fitsIndex_both (Int.le_trans (by decide +kernel) (hN ▸ Int.natCast_nonneg _)) hzi
 rw[f1,if_neg (by decide),if_neg (by omega),<- hN,Int.toNat_natCast,notLongL hz,if_neg (by decide)]
 refine wpAny_pure ?_;generalize ((items.size:Int) != 0)=bb;exact h bb _ (by omega)
def v1Z:typeLookup (.type "list_reverseiterator") "__len__"=pure none:=by rw[typeLookup_type,builtinLookup_eq_fast];kernel_rfl
def lr_hint:Slot "list_reverseiterator" "__length_hint__" "list_reverseiterator.__length_hint__":=.of (owner:="list_reverseiterator") (n:="__length_hint__") (by rw[typeLookup_type,builtinLookup_eq_fast];kernel_rfl) (by decide +kernel) (by decide +kernel) (by decide +kernel) (by first|exact .inl (by decide +kernel)|exact .inr (by decide +kernel)) (by rw[isSubtype_type];kernel_rfl)
def v1Y:splitId "list_reverseiterator.__length_hint__"=some ("list_reverseiterator","__length_hint__"):=by decide +kernel
def sub_lr:isSubtype (.type "list_reverseiterator") (.type "list_reverseiterator")=pure true:=by rw[isSubtype_type];kernel_rfl
def hint_lr{Q:Bool->Shared->Prop} (hT:s.TypeIs (.ref I) "list_reverseiterator") (h:Q false s) :
  wpAny (model P w) A (Builtin.List.listLengthHint (.ref I)) Q E s:=by
 unfold Builtin.List.listLengthHint;refine wpAny_bind (wpAny_specialOf hT v1Z ?_);dsimp only;rw[if_neg (by decide)]
 rw[if_neg (by decide)]
 refine wpAny_bind (wpAny_specialOf hT lr_hint.lookup ?_);dsimp only;rw[v1Y];dsimp only;refine wpAny_bind (wpAny_isInstance (T:="list_reverseiterator") (b:=true) hT sub_lr ?_);rw[if_neg (by decide)]
 rw[if_pos (by decide +kernel)]
 rw[if_neg (by decide +kernel)]
 exact wpAny_pure h
def rev_acc(h:ItemsOf (λi v=>us.toArray[us.toArray.size - 1 - i]?=some v) acc us.toArray.size):acc=us.reverse.toArray:=by
 apply Array.ext_getElem?;intro j;by_cases hj:j<acc.size
 ·have e:acc[j]?=some (acc[j]'hj):=z2B hj
  have q:=h.2 j _ e;have hs:acc.size=us.length:=by have:=h.1;simpa using this
  rw[y7] at q;rw[e,<- q];simp;rw[z2I (by omega)]
 ·have hs:acc.size=us.length:=by have:=h.1;simpa using this
  rw[Array.getElem?_eq_none (by omega)]
  simp;omega
def v2a(hh:A.handled=none) (hz:us.length<=sizeLine) (hl:ZSq b s.heap l us.toArray)
  (hQ:∀h' c tk,(∀b o,s.heap.get? b=some o->h'.get? b=some o)->h'.get? (s.heap.objs.size+1)=some { cls:=.type "list",dict:=none,data:=.seq us.reverse.toArray c,slots:=#[] }->Q (.ref (s.heap.objs.size+1)) { s with heap:=h',toks:=tk }) :
  wpAny (model P w) A (call (.type "reversed") [.ref l]) (λv s2=>wpAny (model P w) A (call (.type "list") [v]) Q E s2) E s:=by
 have hzi:(us.toArray.size:Int)<2^63:=by rw[y7];exact Int.lt_of_le_of_lt (Int.ofNat_le.mpr hz) (by decide +kernel)
 have hz2:us.toArray.size<=sizeLine:=by rw[y7];exact hz
 have lt:=hl.lt;have ne:l≠s.heap.objs.size:=u9 lt;have e0:(us.toArray.size:Int) - 1 - ((0:Nat):Int)=(us.toArray.size:Int) - 1:=by omega
 have fin:∀(O:Obj) (t:Nat) (s':Shared) (acc:Array Value) (c:Nat),Moved ((s.heap.push O).objs.size::[s.heap.objs.size]) (λa b=>b=a) { s with heap:=(s.heap.push O).push { cls:=.type "list",data:=.seq #[] },toks:=t } s' ->
   s'.heap.get? (s.heap.push O).objs.size=some { cls:=.type "list",dict:=none,data:=.seq acc c,slots:=#[] }->ItemsOf (λi v=>us.toArray[us.toArray.size - 1 - i]?=some v) acc us.toArray.size->Q (.ref (s.heap.push O).objs.size) s':=by
  intro O t s' acc c hm hS hacc;obtain⟨h',g',d',tk',os'⟩:=s';have eg:g'=s.gens:=hm.gens;have ed:d'=s.drawn:=hm.drawn;have eo:os'=s.os:=hm.os;subst eg ed eo;have ez:(s.heap.push O).objs.size=s.heap.objs.size+1:=Heap.size_push ..;rw[rev_acc hacc] at hS;rw[ez] at hS hm |-
  refine hQ h' c tk' (λb o e=>hm.heap b o (λhb=>?_) (z0 _ (z0 _ e))) hS
  have:=z8 e
  simp only[z7,u5,or_false] at hb;rcases hb with rfl|rfl
  ·exact absurd this (Nat.not_lt.mpr (Nat.le_succ _))
  ·exact absurd this (z0B _)
 cases b
 ·have hl:s.heap.IsList l us.toArray:=hl
  refine call_reversed_list hl ?_;have st0:(0:Nat)<=us.toArray.size/\(s.heap.push (revObj l ((us.toArray.size:Int) - 1))).IsRevIter s.heap.objs.size l ((us.toArray.size:Int) - 1 - ((0:Nat):Int))/\(s.heap.push (revObj l ((us.toArray.size:Int) - 1))).IsList l us.toArray :=
   ⟨z0E _,⟨_,y6 _ rfl,rfl,by rw[e0];rfl⟩,hl.at λo e=>z0 _ e⟩
  refine u3r (T:="list_reverseiterator") ((Walks.listRev (show A.in1.in1.handled=none by simp[hh]) s.heap.objs.size l ne us.toArray).toS) (λs' Q' E' st h=>hint_lr st.2.1.typeIs (h false s'.toks (y0 _))) (λi s' st=>st.2.1.typeIs) (by decide) (by decide) st0 ?_ (by simp) hz2 λs' acc c hm hS hacc=>fin _ _ s' acc c hm hS hacc
  intro b hb;simp only[z7,u5,or_false] at hb;rcases hb with rfl|rfl
  ·exact z8 (y6 _ rfl)
  ·exact x8 lt (by show _<=(s.heap.push _).objs.size;rw[Heap.size_push];exact Nat.le_succ _)
 ·have hl:s.heap.IsTuple l us.toArray:=hl
  refine v0S hl hzi λt=>?_
  have st0:(0:Nat)<=us.toArray.size/\IsRv (s.heap.push (rvO l ((us.toArray.size:Int) - 1))) s.heap.objs.size l ((us.toArray.size:Int) - 1 - ((0:Nat):Int))/\(s.heap.push (rvO l ((us.toArray.size:Int) - 1))).IsTuple l us.toArray :=
   ⟨z0E _,by rw[e0];exact y6 _ rfl,hl.at λo e=>z0 _ e⟩
  refine u3r (T:="reversed") ((v1h (show A.in1.in1.handled=none by simp[hh]) s.heap.objs.size l ne us.toArray hzi).toS) (λs' Q' E' st h=>hint_rv hz2 (by rw[<- e0];exact st.2.1) st.2.2 h) (λi s' st=>st.2.1.ty) (by decide) (by decide) st0 ?_ (by simp) hz2 λs' acc c hm hS hacc=>fin _ _ s' acc c hm hS hacc
  intro b hb;simp only[z7,u5,or_false] at hb;rcases hb with rfl|rfl
  ·exact z8 (y6 _ rfl)
  ·exact x8 lt (by show _<=(s.heap.push _).objs.size;rw[Heap.size_push];exact Nat.le_succ _)
noncomputable def revN:List D->Res OD
 | [d]=>match rowOf d with
  | some x=>.ok (.l x.reverse)
  | none=>.bad
 | _=>.bad
def Vals.rev{xs:List V} (h:Vals xs us):Vals xs.reverse us.reverse:=by
 induction h with
 | nil=>exact .nil
 | cons a b ih =>
  rw[List.reverse_cons,List.reverse_cons];exact ih.append (.cons a .nil)
theorem Rps.rev{F:Hp}:∀{xs:List V}{ds:List D},Rps K F xs ds->Rps K F xs.reverse ds.reverse
 | _,_,.nil=>.nil
 | _,_,.cons a b=>by
  rw[List.reverse_cons,List.reverse_cons];exact rps_appR (Rps.rev b) (.cons a .nil)
where rps_appR {K:W.Frag}{F:Hp}:∀{xs ys:List V}{ds es:List D},Rps K F xs ds->Rps K F ys es->Rps K F (xs++ys) (ds++es)
 | _,_,_,_,.nil,h=>h
 | _,_,_,_,.cons a b,h=>.cons a (rps_appR b h)
section
variable {a:Expr}
set_option tactic.hygienic true in
def dn_rev (hc:X.calm=true) (hm:X.mg "list"=none) (hm2:X.mg "reversed"=none) (ha:DA X xq [a] fa) (hg:Gl X "list":=by rfl) (hg2:Gl X "reversed":=by rfl) :
  DN X xq (.Call (.Name "list" p) [.Call (.Name "reversed" p2) [a] [] pos2] [] pos) (λρ=>(fa ρ).bind revN):=⟨λpins s σ H Q I z9=>un5 z9 λB F ρ R q=>by
 refine Call_ (u1J I hg hm (show bootBuiltins "list"=some (.type "list") by decide +kernel) (PyProof.Rows.callWith_type1 ?_ rfl rfl))
 show wpAny _ _ (spliced ((false,eval (.Call (.Name "reversed" p2) [a] [] pos2) X.env)::[])) _ _ s;refine Calls.spliced_cons ?_;refine Call_ (u1J I hg2 hm2 (show bootBuiltins "reversed"=some (.type "reversed") by decide +kernel) (PyProof.Rows.callWith_type1 (thn (ha.out pos2 pins s σ H (λvs H1=>∃b1 a1 xs ds F1,vs=[.ref a1]/\SqB b1 X.K H1 a1 xs/\Rps X.K F1 xs ds/\Stp F H F1 H1 /\
   (∀a h F' H',Stp F H F' H'->F' a=none->H a=none->H' a=some h->Ro X.K F' a h (.l ds.reverse)->Q (.ref a) H')) I (seqA R q λds vs F1 H1 s1 R1 p1 q1=>?_)) λus s1 ⟨vs,H1,I1,r1,q1⟩=>?_) (u0l (u0j ha.ns).1) (u0N (u0j ha.ns).2)))
 ·unfold revN at q1
  split at q1
  ·rename_i d
   obtain⟨v,rfl,pv⟩:=rps1 p1;cases hx:rowOf d with
   | none=>rw[hx] at q1;exact q1.elim
   | some x =>
    rw[hx] at q1;obtain⟨b1,a1,xs,rfl,g1,g1',t1⟩:=u5H pv hx;exact⟨b1,a1,xs,x,F1,rfl,g1 _ R1.fh,t1,s1,q1⟩
  ·exact q1.elim
 ·obtain ⟨b1,a1,xs,ds,F1,e,h1,t1,st1,q⟩:=q1
  subst e;obtain⟨u1,rfl,ru1⟩:=vals1 r1;cases (show u1=Value.ref a1 from ru1)
  obtain⟨us,rv1,p1⟩:=I1.sqB h1;have hh:X.A.handled=none:=I1.ok.hd hc;have l1:=rv1.length;have z1:xs.length<=sizeLine:=by
   cases b1
   ·obtain⟨_,_,_,z⟩:=I1.list h1;exact z
   ·obtain⟨_,_,_,z⟩:=I1.tuple h1;exact z
  refine thn (v2a hh (by omega) p1 λh' c tk kk eS=>?_) λv s2 h2=>Calls.spliced_nil h2
  have lA:s1.heap.objs.size<=s1.heap.objs.size+1:=Nat.le_succ _;have fS:H1 (s1.heap.objs.size+1)=none:=I1.hok.fresh lA;have I2:=I1.laid (t':=tk) (a:=s1.heap.objs.size+1) (o:=.lst xs.reverse) kk lA ⟨by rw[z1C];exact z1,us.reverse,c,rv1.rev,eS⟩
  exact⟨.ref (s1.heap.objs.size+1),_,I2,rfl,q _ (.lst xs.reverse) F1 _ (st1.trans ⟨Same.refl _,st1.fh.trans (u0g fS),u0g fS,λb f1 hb=>f1,λ_ _ _ q=>q⟩) (st1.fh.free fS) (st1.hh.free fS) u0c (.l t1.rev)⟩⟩
end
def MCalleeF (P:Program) (w:World) (K:W.Frag) (mg:MG) (base:Heap) (k:Nat) (C:Addr) (m:Str) (ps:List Str) (f:FD):Prop :=
 ∃a fd,Cls K C/\Meth K C m a/\FnOk P w K mg base CX0 k a fd ps (spF K f)/\Binds K fd ps []
section
variable {o:Expr}{f:Str}{Cs:List Addr}
def u4w{g:Addr->List D->Res D}{pl:Sem Bool} (h:∀C∈Cs,MCalleeF P w K mg base k C m ps (g C)) (hr:Room k' X.A) (ho:DE X xq o fo) (hk:k<=k':=by decide)
  (eP:X.prog=P:=by rfl) (ew:X.w=w:=by rfl) (eK:X.K=K:=by rfl) (em:X.mg=mg:=by rfl) (eb:X.base=base:=by rfl)
  (ht:eval (.Call (.Attribute o m apos) [] [] pos) X.env=(do
   let ov <- eval o X.env
   standAt apos.atName
   let (f,first) <- holding [ov] (getMethod ov m pl)
   callWith pos f first (backTo pos (starEach [] X.env)) (backToKw pos (keywordEach [] X.env))):=by rfl) :
  DE X xq (.Call (.Attribute o m apos) [] [] pos) (λρ=>(fo ρ).bind λx=>(isV Cs m x).bind λy=>noE (g y.1 [y.2])):=⟨λpins s σ H Q I z9=>un5 z9 λB F ρ R q=>by
 subst eP ew eK em eb;refine W.methodCall_KW (pl:=pl) (thn (ho.out pins s σ H (λx H1=>∃C a dx fs0,C∈Cs/\x=.ref a/\H1 a=some (.ins C dx fs0)/\fs0.lookup m=none/\spF X.K (g C) [.ref a] H1 Q E0) I (seqE R q λd v F1 H1 s1 R1 p1 q1=>?_)) λu s1 ⟨x,H1,I1,rx,C,a,dx,fs0,hC,ex,ea,l,q⟩=>?_) ht
 ·obtain ⟨C,a,dx,fs0,hC,rfl,e1,e2,q2⟩:=isV_ok p1 (Res.all_bind.mp q1)
  refine⟨C,a,dx,fs0,hC,rfl,R1.fh _ _ e1,e2,F1,[d],R1.fh,.cons p1 .nil,?_⟩;have q2:(noE (g C [d])).all _ _:=q2;cases e:g C [d] with
  | ok d=>rw[e] at q2;exact λv F' H' st pv=>q2 v F' H' (s1.trans st) pv
  | err x=>rw[e] at q2;exact q2.elim
  | bad=>rw[e] at q2;exact q2.elim
 ·subst ex
  obtain rfl:u=Value.ref a:=rx;obtain⟨fa,fd,c,hm,G,hb⟩:=h C hC;refine u3h I1 ea c hm l ?_;exact W.callWith_K0 (first:=[.ref a]) I1.kIn hm.kp (u7F (us:=[.ref a]) (vs:=[.ref a]) G (hr.mono hk) hb .nil pass0 I1 (.cons rfl .nil) q)⟩
end
def spIni (K:W.Frag) (C:Addr) (g:List D->Res (List (Str×D))):Sp:=λvs H Q _=>∃F a dx rest ds,vs=.ref a::rest/\Same F H/\F a=none/\H a=some (.ins C dx [])/\Rps K F rest ds /\
 (g ds).all (λgs=>∀dx' fs F' H',Stp F (wo H a) F' H'->F' a=none->H' a=some (.ins C dx' fs)->Rpf K F' fs gs->Q .non H') (λ_=>False)
section
set_option tactic.hygienic true in
def Fun.okI0{g:List D->Res (List (Str×D))} (F:Fun K x qual st f fd) (S:FnScope N ps (defScope st)) (len:∀ds gs,g ds=.ok gs->ds.length+1=ps.length)
  (hbody:∀ (cdv:Value) (A:Around) (outer:List Env) (s:Shared) (H:Hp) (E:XK),Room k (A.deeper (envOfC qual (defScope st) s.heap.objs.size f cdv)) ->
   ∃t,DB (cxOf CX0 P w K mg base N qual (defScope st) f cdv A outer s H E).nox xqF (defBody st) t/\∀a ds gs,g ds=.ok gs->outI a C (t (startI N.length a C ds))=.ok gs):FnOk P w K mg base CX0 (k+1) f fd ps (spIni K C g) :=
 F.ok S (λvs H Q E ⟨G,a,dx,rest,ds,e1,fh,fa,ha,r,q⟩=>by
  subst e1;rw[z0D,r.length];cases e:g ds with
  | ok d=>exact len ds d e
  | err x=>rw[e] at q;exact q.elim
  | bad=>rw[e] at q;exact q.elim) λcdv A outer s H vs Q E hr ⟨G,a,dx,rest,ds,e1,fh,fa,ha,r,q⟩=>by
  subst e1;obtain⟨t,h1,h2⟩:=hbody cdv A outer s H E hr;refine⟨_,h1.out,(G,wo H a),G,_,v0V fh fa ha r,⟨?_⟩⟩;cases e:g ds with
  | err x=>rw[e] at q;exact q.elim
  | bad=>rw[e] at q;exact q.elim
  | ok gs =>
   rw[e] at q;have z:=h2 a ds gs e;generalize t (startI N.length a C ds)=o at z;cases o with
   | nx ρ =>
    intro σ F' H' R;unfold outI at z;dsimp only at z;split at z
    ·rename_i a' C' gs' e
     split at z
     ·rename_i c
      obtain⟨rfl,rfl⟩:=c;cases z;obtain⟨b,h,p1,p2,p3,p4,p5⟩:=R.own 0 _ e;cases p5 with
      | i hr=>exact q _ _ F' H' R.st p2 p4 hr
     ·cases z
    ·cases z
   | rt d'=>cases z
   | bk ρ=>cases z
   | ct ρ=>cases z
   | er x ρ=>cases z
   | bad=>cases z
end
def KCalleeF (P:Program) (w:World) (K:W.Frag) (mg:MG) (base:Heap) (k:Nat) (x:Str) (C:Addr) (ps:List Str) (g:List D->Res (List (Str×D))):Prop :=
 ∃f fd,Mk K C f/\FnOk P w K mg base CX0 k f fd ps (spIni K C g)/\Binds K fd ps []/\mg x=some (.ref C)
def u9t{sp:Sp}{Q:VK} (M:Mk X.K C f) (F:FnOk X.prog X.w X.K X.mg X.base CX0 k f fd ps sp) (hr:Room (k+1) X.A) (hb:Binds X.K fd ps [])
  (I:Inv X pins σ H s) (r:Vals vs us)
  (h:∀x dx,H x=none->H dx=none->dx≠x->sp (.ref x::vs) (upd (upd H dx (.own x)) x (.ins C dx [])) (λv H2=>v=.non/\Q (.ref x) H2) E0) :
  wpAny (model X.prog X.w) X.A (call (.ref C) us) (EP X pins σ Q) X.xe s:=by
 have hc:=h (s.heap.objs.size+1) s.heap.objs.size (I.hok.fresh (Nat.le_succ _)) (I.hok.fresh (y0 _)) (u9 (Nat.lt_succ_self _));have I2:=Inv.made (C:=C) I;have r2:Vals (V.ref (s.heap.objs.size+1)::vs) (Value.ref (s.heap.objs.size+1)::us):=.cons rfl r;have hl:(Value.ref (s.heap.objs.size+1)::us++[]).length=ps.length:=by
  have e:=r2.length;rw[F.len _ _ _ _ hc] at e;rw[List.append_nil];exact e.symm
 have hb2:=hb _ (Value.ref (s.heap.objs.size+1)::us) I2.kIn hl;rw[List.append_nil] at hb2;refine wpAny_call (u7P (f:=f) I.kIn M.makes M.init (beq_iff_eq.mp M.fn) (codeAny_mono (F.run _ X.stack _ _ ⟨Value.ref (s.heap.objs.size+1)::us,[]⟩ (Value.ref (s.heap.objs.size+1)::us) _ _ _ (hr.make C us [])
  (I2.env0.make C us []) hb2 r2 hc) λr s' hq'=>?_))
 cases r with
 | error e=>exact False.elim hq'
 | ok fl =>
  cases fl with
  | ret u =>
   obtain⟨v,H',I3,rv,ev,q3⟩:=I2.after hq';subst ev;exact⟨rv,⟨V.ref (s.heap.objs.size+1),H',I3,rfl,q3⟩⟩
  | next=>exact False.elim hq'
  | brk=>exact False.elim hq'
  | cont=>exact False.elim hq'
def u5u{g:List D->Res (List (Str×D))} (h:KCalleeF P w K mg base k x C ps g) (hr:Room k' X.A) (ha:DA X xq (e::es) fs) (hk:k+1<=k':=by decide) (hg:Gl X x:=by rfl)
  (eP:X.prog=P:=by rfl) (ew:X.w=w:=by rfl) (eK:X.K=K:=by rfl) (em:X.mg=mg:=by rfl) (eb:X.base=base:=by rfl) (hdb:(x==("__debug__":Str))=false:=by decide) :
  DE X xq (.Call (.Name x p) (e::es) [] pos) (λρ=>(fs ρ).bind λds=>(noE (g ds)).bind λgs=>.ok (.ins C gs)):=⟨λpins s σ H Q I z9=>un5 z9 λB F ρ R q=>by
 subst eP ew eK em eb;obtain⟨fi,fd,M,G,hb,hm⟩:=h;refine wpAny_Call_Name_kw (u1W I hg hm ?_ hdb);refine W.callWith_K (h₀:=X.base) I.ok.mod.kin M.kp (thn (ha.out pos pins s σ H (λvs H1=>∀x dx,H1 x=none->H1 dx=none->dx≠x->spIni X.K C g (.ref x::vs) (upd (upd H1 dx (.own x)) x (.ins C dx [])) (λv H2=>v=.non/\Q (.ref x) H2) E0) I (seqA R q λds vs F1 H1 s1 R1 p1 q1=>?_)) λus s1 ⟨vs,H1,I1,r,q⟩=>⟨I1.kIn,?_⟩) (u0l (u0j ha.ns).1) (u0N (u0j ha.ns).2)
 ·intro y dx n1 n2 n3
  have sH:Same H1 (wo (upd (upd H1 dx (.own y)) y (.ins C dx [])) y):=λb o e=>by
   have b1:b≠y:=λz=>by subst z;rw[n1] at e;cases e
   have b2:b≠dx:=λz=>by subst z;rw[n2] at e;cases e
   rw[wo_ne b1,u0e b1,u0e b2];exact e
  refine⟨F1,y,dx,_,ds,rfl,R1.fh.trans (sH.trans (u8W _ _)),R1.fh.free n1,u0c,p1,?_⟩;cases eg:g ds with
  | bad=>rw[eg] at q1;exact q1.elim
  | err z=>rw[eg] at q1;exact q1.elim
  | ok gs =>
   rw[eg] at q1;intro dx' fs0 F' H' st fa ha' pf;refine⟨rfl,?_⟩;have st2:Stp F1 H1 (upd F' y (.ins C dx' fs0)) H':=⟨st.ff.trans (u0g fa),λb u z=>by
    unfold upd at z;by_cases zz:b=y
    ·rw[if_pos zz] at z;cases z;subst zz;exact ha'
    ·rw[if_neg zz] at z;exact st.fh b u z,sH.trans st.hh,λb z1 z2=>by
    unfold upd;by_cases zz:b=y
    ·subst zz;exact absurd n1 z2
    ·rw[if_neg zz];exact st.no b z1 (u0Q sH z2),u5z (by intro _ _ q;cases q) st.nz⟩
   exact q1 _ _ _ (s1.trans st2) (.ins u0c (pf.same (u0g fa)))
 ·exact u9t M G (hr.mono hk) hb I1 r q⟩
noncomputable def wo2 (H:Hp) (a c:Addr):Hp:=λb=>if b=a\/b=c then none else H b
def wo2_in{c b:Addr}{o:HO} (e:wo2 H a c b=some o):H b=some o:=by
 unfold wo2 at e;split at e
 ·cases e
 ·exact e
def u8X{c b:Addr} (h1:b≠a) (h2:b≠c):wo2 H a c b=H b:=by
 unfold wo2;rw[if_neg];rintro(h|h)
 ·exact h1 h
 ·exact h2 h
section
variable {a b c:Expr}{fa fc:Rho->Res OD}
def d_fnN3{g:List Sl->Res (D×List Sl)} (h:Callee P w K mg base k x ps (spM K g)) (hr:Room k' X.A) (ha:DN X xq a fa) (hb:DE X xq b fb) (hc:DN X xq c fc) (hk:k<=k':=by decide) (hg:Gl X x:=by rfl)
  (eP:X.prog=P:=by rfl) (ew:X.w=w:=by rfl) (eK:X.K=K:=by rfl) (em:X.mg=mg:=by rfl) (eb:X.base=base:=by rfl) (hdb:(x==("__debug__":Str))=false:=by decide) (h1:notStar a=true:=by rfl) (h2:notStar b=true:=by rfl) (h3:notStar c=true:=by rfl) :
  DE X xq (.Call (.Name x p) [a,b,c] [] pos) (λρ=>(fa ρ).bind λo1=>(fb ρ).bind λd=>(fc ρ).bind λo2=>(noE (g [.own o1,.val d,.own o2])).bind λr=>.ok r.1) :=
 DE.of (u9L h hr hk (pac ha.out (pac hb.out (pac hc.out u0t h3) h2) h1) hg eP ew eK em eb hdb (by simp only[z1B,h1,h2,h3];rfl)) λB F ρ σ H Q R q=>by
  subst eK;have q1:=Res.all_bind.mp q;refine⟨B,F,ρ,R,Res.all_mono q1 (λo1 q1 a1 g1 F1 H1 s1 n1 m1 e1 r1=>?_) λy e=>e⟩
  have q2:=Res.all_bind.mp q1;have R1:=R.step s1;refine⟨B,F1,ρ,R1,Res.all_mono q2 (λd q2 v F2 H2 s2 pv=>?_) λy e=>e⟩
  have q3:=Res.all_bind.mp q2;have R2:=R1.step s2;refine⟨B,F2,ρ,R2,Res.all_mono q3 (λo2 q3 a2 g2 F3 H3 s3 n3 m3 e3 r3=>?_) λy e=>e⟩
  have ne1:H1 a1≠none:=by rw[e1];exact λz=>nomatch z
  have e1':H2 a1=some g1:=s2.hh _ _ e1;have e1'':H3 a1=some g1:=s3.hh _ _ e1';have n1':F2 a1=none:=s2.no _ n1 ne1;have n1'':F3 a1=none:=s3.no _ n1' (by rw[e1'];exact λz=>nomatch z)
  have ne12:a1≠a2:=λz=>by rw[z,m3] at e1';cases e1'
  have r1':Ro X.K F3 a1 g1 o1:=(Ro.same s2.ff r1).same s3.ff;have pv':Rp X.K F3 v d:=pv.same s3.ff;have s13:Stp F H F3 H3:=(s1.trans s2).trans s3;have hN:H a2=none:=by
   cases z:H a2 with
   | none=>rfl
   | some o=>rw[(s1.trans s2).hh _ _ z] at m3;cases m3
  have base:Stp F3 (wo2 H3 a1 a2) F3 H3:=⟨Same.refl _,s3.fh,λb o e=>wo2_in e,λ_ n _=>n,λ_ _ _ q=>q⟩
  refine⟨F3,wo2 H3 a1 a2,[.own o1,.val d,.own o2],⟨base,rfl,λi y e=>?_,λi o e=>?_,λi j o u b' w1 w2 w3 w4=>?_⟩,λb o nb e=>?_,?_⟩
  ·match i,e with
   | 1,e=>cases e;exact⟨v,rfl,pv'⟩
   | 0,e=>cases e
   | 2,e=>cases e
  ·match i,e with
   | 0,e=>cases e;exact⟨a1,g1,rfl,n1'',if_pos (.inl rfl),e1'',r1'⟩
   | 2,e=>cases e;exact⟨a2,g2,rfl,n3,if_pos (.inr rfl),e3,r3⟩
   | 1,e=>cases e
  ·have ci:∀(i:Nat) o,([some (.own o1),some (.val d),some (.own o2)]:Rho)[i]?=some (some (.own o))->i=0\/i=2:=λi o e=>by
    match i,e with
    | 0,_=>exact .inl rfl
    | 2,_=>exact .inr rfl
    | 1,e=>cases e
   rcases ci i o w1 with rfl|rfl<;>rcases ci j u w2 with rfl|rfl
   ·rfl
   ·cases w3;cases w4;exact absurd rfl ne12
   ·cases w3;cases w4;exact absurd rfl ne12
   ·rfl
  ·rw [u8X (fun z=>nb 0 o1 rfl (by rw [z];rfl)) (fun z=>nb 2 o2 rfl (by rw [z];rfl))]
   exact e
  ·cases eg:g [.own o1,.val d,.own o2] with
   | bad=>rw[eg] at q3;exact q3.elim
   | err y=>rw[eg] at q3;exact q3.elim
   | ok r =>
    rw[eg] at q3;intro v' F' H' m pv2;have st:Stp F3 (wo2 H3 a1 a2) F' H':=m.rel.st;refine q3 v' F' H' ⟨s13.ff.trans st.ff,st.fh,λb o e=>?_,λb z1 z2=>?_,λa x u q=>s13.nz a x u (st.nz a x u q)⟩ pv2
    ·have b1:b≠a1:=fun z=>by rw [z,m1] at e;cases e
     have b2:b≠a2:=λz=>by rw[z,hN] at e;cases e
     exact st.hh b o (by rw[u8X b1 b2];exact s13.hh _ _ e)
    ·have b1:b≠a1:=fun z=>z2 (by rw [z];exact m1)
     have b2:b≠a2:=λz=>z2 (by rw[z];exact hN)
     refine st.no b (s13.no b z1 z2) ?_;rw[u8X b1 b2];exact u0Q s13.hh z2
end
def liftXT (K:W.Frag) (f:Rho->Res (Bool×Rho)):TT:=λσ H Q=>∃B F ρ,Rel K B ρ σ F H /\
 (f ρ).all (λr=>∀F' H',Mv K B ρ σ F H r.2 F' H'->Q r.1 H') (λ_=>False)
structure DXT (X:Cx) (e:Expr) (f:Rho->Res (Bool×Rho)):Prop where
 out:PT X e (liftXT X.K f)
structure DXW (X:Cx) (e:Expr) (f:Rho->Res (Bool×Rho)):Prop where
 out:PW X e (liftXT X.K f)
section
variable {a b:Expr}{rest:List Expr}{fa fb:Rho->Res (D×Rho)}{fX fY:Rho->Res (Bool×Rho)}{fs:Rho->Res (List Ag×Rho)}
def DXT.of {t:TT} (h:PT X e t) (k:∀B F ρ σ H Q,Rel X.K B ρ σ F H->(fX ρ).all (λr=>∀F' H',Mv X.K B ρ σ F H r.2 F' H'->Q r.1 H') (λ_=>False)->t σ H Q):DXT X e fX :=
 ⟨λpins s σ H Q I z9=>un5 z9 λB F ρ R q=>h pins s σ H Q I (k B F ρ σ H Q R q)⟩
def u8R (h:DT X xq e fA):DXT X e (λρ=>(noE (fA (frz ρ))).bind λk=>.ok (k,ρ)) :=
 DXT.of h.out λB F ρ σ H Q R q=>⟨B,F,ρ,R,u1V (Res.all_mono (Res.all_bind.mp q) (λk q H' s=>q F H' (Mv.of R s)) λ_ z=>z)⟩
def xt_cmp {op:CmpOp}{g:D->D->Res D} (ho:OpR X (compareOp op) (rD X.K g)) (ha:DX X a fa) (hb:DX X b fb) (hm:behindInMarks op b=false:=by first|exact nomark _|with_unfolding_all rfl) :
  DXT X (.Compare a [op] [b] pos) (λρ=>(fa ρ).bind λx=>(fb x.2).bind λy=>(noE (g x.1 y.1)).bind λw=>(noE (asB w)).bind λk=>.ok (k,y.2)) :=
 DXT.of (u9z ho ha.out hb.out hm) λB F ρ σ H Q R q=>seqX R q λx v F1 H1 m1 p1 q1=>seqX m1.rel q1 λy v2 F2 H2 m2 p2 q2=>⟨F2,x.1,y.1,m2.rel.fh,p1.same m2.ff,p2,by
  have q3:=Res.all_bind.mp q2;generalize g x.1 y.1=r at q3;cases r with
  | err x=>exact q3
  | bad=>exact q3
  | ok w =>
   replace q3:((noE (asB w)).bind _).all _ _:=q3
   cases w with
   | bl k=>exact λv3 F3 H3 s3 p3=>⟨k,p3.blI,q3 F3 H3 ((m1.trans m2).step s3)⟩
   | _=>exact q3.elim⟩
def xt_w (h:DXW X e fX):DXT X e fX:=⟨h.out.pt⟩
def xw_or1 (ha:DXT X a fX):DXW X (.BoolOp .Or [a] pos) fX:=⟨v2T ha.out⟩
def xw_or (ha:DXT X a fX) (hb:DXW X (.BoolOp .Or (b::rest) pos) fY):DXW X (.BoolOp .Or (a::b::rest) pos) (λρ=>(fX ρ).bind λk=>if k.1=true then .ok (true,k.2) else fY k.2) :=
 ⟨λwh pins s σ H Q I z9=>un5 z9 λB F ρ R q=>pw_or ha.out hb.out wh pins s σ H Q I ⟨B,F,ρ,R,Res.all_mono (Res.all_bind.mp q) (λk q1 F1 H1 m1=>by
  obtain⟨k,ρ1⟩:=k;cases k with
  | true=>exact q1 F1 H1 m1
  | false=>exact⟨B,F1,ρ1,m1.rel,Res.all_mono (show(fY ρ1).all _ _ from q1) (λr q F2 H2 m2=>q F2 H2 (m1.trans m2)) λ_ z=>z⟩) λ_ z=>z⟩⟩
def xn_lst (h:DXA X es fs):DXN X (.List es pos) (λρ=>(fs ρ).bind λr=>(noE (agv r.1)).bind λds=>szD ds (.ok (.l ds,r.2))) :=
 ⟨λpins s σ H Q I z9=>un5 z9 λB F ρ R q=>u2l h.out pins s σ H Q I (seqXA R q λr vs F1 H1 m1 p1 q1=>by
  cases w:agv r.1 with
  | err x=>rw[w] at q1;exact q1.elim
  | bad=>rw[w] at q1;exact q1.elim
  | ok ds =>
   rw[w] at q1;obtain⟨hz,q2⟩:=u7w (show(szD ds _).all _ _ from q1)
   have p2:=u7s p1 w;exact⟨p2.length ▸ hz,λp n=>q2 p _ F1 _ (m1.step (Stp.only m1.rel.fh (u0g n))) (m1.rel.fh.free n) (m1.free n) u0c (.l p2)⟩)⟩
end
section
variable {c:Expr}{fx:Rho->Res (D×Rho)}
def dsx_for{fi:Rho->Res (List D×Rho)}{ix:List Nat}{g:D->Rho->Res Rho} (hc:X.calm=true) (hi:DXI X tg iter fi) (hg:DG X tg ix g) (hb:DB X xq body tb)
  (hp:PassesOwn (model X.prog X.w) X.A X.env X.xe:=by exact PassesOwn.never) (hs:∀x,foldedSetIterable iter X.env x=pure x:=by intro _;rfl) :
  DS X xq (.For tg iter body [] pos) (λρ=>(noE (fi ρ)).go ρ λds=>forD g tb ds.1 ds.2) :=
 DS.of (u4I hp hc hi.out hg.out hb.out hs) λB F ρ σ H T R q=>⟨B,F,ρ,R,u1V (Res.all_mono (u0C q.out) (λdr q J F0 H0 m0 fd=>by
  obtain⟨ds,ρ0⟩:=dr;have R0:=m0.rel;obtain⟨C,hC⟩:∃C:Hp×Hp,C=(F0,B.2):=⟨_,rfl⟩;refine⟨λi m σ' H'=>m=ds.length - i/\i<=ds.length/\∃ρ' F',Rel X.K C ρ' σ' F' H'/\OkS X.K xq C T (forD g tb (ds.drop i) ρ'),
   ⟨ds.length,rfl,z0E _,ρ0,F0,hC ▸ R0.rebase,hC ▸ OkS.rebase R0.st ⟨q⟩⟩,?_⟩
  rintro i m σ' H' ⟨rfl,hi,ρ',F',R',q'⟩;have e0:Same F0 F':=by have:=R'.st.ff;rw[hC] at this;exact this
  by_cases hlt:i<ds.length
  ·right
   refine⟨fd.go i H' (e0.trans R'.fh) hlt,λσ2 H2=>i+1<=ds.length/\∃ρ2 F2,Rel X.K C ρ2 σ2 F2 H2/\OkS X.K xq C T (forD g tb (ds.drop (i+1)) ρ2),
    λσ2 H2 p=>⟨ds.length - (i+1),by omega,rfl,p.1,p.2⟩,λx H2 y=>?_⟩
   have hd:ds[i]?=some ds[i]:=by simp[hlt]
   obtain⟨F2,s2,p2⟩:=fd.yld i F' H' x H2 _ e0 R'.fh hd y;have eqn:ds.drop i=ds[i]::ds.drop (i+1):=by rw[z2A hlt]
   rw[eqn] at q';have q2:=u0C q'.out;refine⟨C,F2,ρ',_,R'.step s2,p2,?_⟩;generalize g ds[i] ρ'=r at q2;cases r with
   | err x=>exact q2
   | bad=>exact q2
   | ok ρ1 =>
    intro σ3 R3 l3 k3;refine⟨C,F2,ρ1,R3,⟨?_⟩⟩;have q3:(match tb ρ1 with | .nx ρ2=>forD g tb (ds.drop (i+1)) ρ2 | .ct ρ2=>forD g tb (ds.drop (i+1)) ρ2 | .bk ρ2=>.nx ρ2|o=>o).all _ _ _ _ _:=q2
    generalize tb ρ1=o at q3;cases o with
    | nx ρ2=>exact λσ4 F4 H4 R4=>⟨hlt,ρ2,F4,R4,⟨q3⟩⟩
    | ct ρ2=>exact λσ4 F4 H4 R4=>⟨hlt,ρ2,F4,R4,⟨q3⟩⟩
    | bk ρ2=>exact q3
    | rt d=>exact q3
    | er x r=>exact q3
    | bad=>exact q3
  ·left
   have e:i=ds.length:=by omega
   subst e;rw[List.drop_length] at q';exact⟨fd.stop _ H' (e0.trans R'.fh) (y0 _),q'.out σ' F' H' R'⟩) λx q=>q)⟩
def dsx_app (i:Nat) (he:DX X e fx) (hN:X.N[i]?=some x:=by rfl) (hv:Vis X.env.scope x:=by first|exact Or.inl rfl|exact Or.inr (Or.inl rfl)|exact Or.inr (Or.inr rfl)) (hd:(x==("__debug__":Str))=false:=by decide) (hcd:(x==("__classdict__":Str))=false:=by decide)
  (hs:notStar e=true:=by rfl) (hbase:attributeBase (.Name x p) "append" X.env (eval (.Name x p) X.env)=eval (.Name x p) X.env:=by rfl) (hline:(apos.endLine==cpos.line)=true:=by rfl)
  (hsw:swapsWith (.Call (.Attribute (.Name x p) "append" apos) [e] [] cpos) none pos.line X.env=pure false:=by rfl) :
  DS X xq (.Expr (.Call (.Attribute (.Name x p) "append" apos) [e] [] cpos) pos) (λρ=>(getL ρ i).go ρ λ_=>(noE (fx ρ)).go ρ λr=>(getL r.2 i).go ρ λds=>if ds.length<sizeLine then .nx (r.2.set i (some (.own (.l (ds++[r.1]))))) else .bad) :=
 DS.of (u1G (pbm PySem.F.plainAttrs_list PySem.F.slot_list_append PySem.F.type_list_append u1n (u0v hN hv hd hcd) (pac he.out u0t hs) (by rw[z1B,hs];rfl) rfl hbase hline) hsw) λB F ρ σ H T R q=>by
  obtain⟨ds0,e1,q1⟩:=u5n (u0C q.out);obtain⟨l,h,h1,h2,h3,h4,h5⟩:=R.own i _ e1;cases h5 with
  | l hs0 =>
   refine⟨.ref l,h1,.inl ⟨rfl,_,.inl (.inl h4)⟩,B,F,ρ,R,u1V (Res.all_mono (u0C q1) (λr q2 v F' H' m pv=>?_) λ_ z=>z)⟩
   obtain⟨ds,e2,q3⟩:=u5n (u0C q2);obtain⟨l2,g,g1,g2,g3,g4,g5⟩:=m.rel.own i _ e2;rw[h1] at g1;cases g1;cases g5 with
   | l gs =>
    by_cases hz:ds.length<sizeLine
    ·rw [if_pos hz] at q3
     exact⟨l,_,v,rfl,rfl,g4,by rw[gs.length];exact hz,q3 σ F' _ (m.rel.write (e:=e2) h1 (.l (gs.append (.cons pv .nil))))⟩
    ·rw[if_neg hz] at q3;exact q3.elim
def dmx_if{a:List Stmt}{fT:Rho->Res (Bool×Rho)}{g ga:Rho->OutM} (hc:DXT X c fT) (ha:DMB X a ga) (hb:DMB X sts g):DMB X (.If c a [] pos::sts) (λρ=>(fT ρ).gm λk=>if k.1=true then ga k.2 else g k.2) :=
 ⟨λpins s σ H T I z9=>un5 z9 λB F ρ R q=>u0i (u1F hc.out ha.out u0G) hb.out pins s σ H T I ⟨B,F,ρ,R,Res.all_mono (v0p (E:=λ_=>False) q) (λk q F' H' m=>by
  obtain⟨k,ρ1⟩:=k;cases k with
  | true =>
   rw[if_pos rfl] at q |-
   exact⟨B,F',ρ1,m.rel,⟨by
    have q:=q.out;generalize ga ρ1=o at q |-
    cases o with
    | rm d ρ'=>exact q
    | bad=>exact q⟩⟩
  | false =>
   have q:OkM X.K B _ (g ρ1):=q;rw[if_neg (show ¬ (false=true) by decide)]
   exact⟨B,F',ρ1,m.rel,q⟩) λ_ z=>z.elim⟩⟩
end
section
variable {F:Hp}
def Rel.fix1 (R:Rel K B ρ σ F H) (e:ρ[j]?=some (some (.own o))):∃F',Same F F'/\Rel K B (ρ.set j (some (.val o.toD))) σ F' H:=by
 obtain⟨a,h,p1,p2,p3,p4,p5⟩:=R.own j o e;have sf:Same F (upd F a h):=u0g p2;have un:∀{b:Addr},b≠a->F b=none->upd F a h b=none:=λz n=>by unfold upd;rw[if_neg z];exact n
 refine⟨_,sf,⟨⟨R.st.ff.trans sf,λb u x=>?_,R.st.hh,λb x y=>un (λz=>y (z ▸ p3)) (R.st.no b x y),u5z p5.nz R.st.nz⟩,by rw[R.len];simp,λi d w=>?_,λi o' w=>?_,λi i' o1 o2 b w w'=>?_⟩⟩
 ·unfold upd at x
  by_cases z:b=a
  ·rw[if_pos z] at x;cases x;subst z;exact p4
  ·rw[if_neg z] at x;exact R.st.fh b u x
 ·rcases u0A w with ⟨rfl,_,z⟩ | ⟨_,z⟩
  ·cases z
   exact⟨.ref a,p1,Ro.rp (Ro.same sf p5) u0c⟩
  ·obtain⟨v,q1,q2⟩:=R.val i d z;exact⟨v,q1,q2.same sf⟩
 ·rcases u0A w with ⟨_,_,z⟩ | ⟨hij,z⟩
  ·cases z
  ·obtain ⟨b,h',q1,q2,q3,q4,q5⟩:=R.own i o' z
   exact⟨b,h',q1,un (λy=>hij (R.dis i j o' o b z e q1 (y ▸ p1))) q2,q3,q4,Ro.same sf q5⟩
 ·rcases u0A w with ⟨_,_,z⟩ | ⟨_,z⟩
  ·cases z
  ·rcases u0A w' with ⟨_,_,z'⟩ | ⟨_,z'⟩
   ·cases z'
   ·exact R.dis i i' o1 o2 b z z'
end
noncomputable def fix1 (j:Nat) (ρ:Rho):Rho:=match ρ[j]? with
 | some (some (.own o))=>ρ.set j (some (.val o.toD))
 | _=>ρ
set_option tactic.hygienic true in
def dm_fix{g:Rho->OutM} (j:Nat) (h:DMB X sts g):DMB X sts (λρ=>g (fix1 j ρ)) :=
 ⟨λpins s σ H T I z9=>un5 z9 λB F ρ R q=>h.out pins s σ H T I (by
  replace q:OkM X.K B T (g (fix1 j ρ)):=q
  unfold fix1 at q;split at q
  ·rename_i o e
   obtain⟨F',_,R'⟩:=R.fix1 e;exact⟨B,F',_,R',q⟩
  ·exact⟨B,F,ρ,R,q⟩)⟩
noncomputable def gIntS:List D->Res D
 | [.str z]=>match PySem.intText? z with
  | some n=>gd (z.length<=640) (.ok (.int n))
  | none=>.bad
 | _=>.bad
set_option tactic.hygienic true in
def v3m:CallR X (.type "int") (rDs X.K gIntS):=by
 intro pins s σ H xs us Q I r z9122;obtain⟨F,ds,fh,ps,q⟩:=z9122;unfold gIntS at q;split at q
 ·obtain ⟨v,rfl,pv⟩:=rps1 ps
  cases pv with
  | @str z hz =>
   split at q
   ·rename_i n hn
    obtain⟨h1,q⟩:=u3w q;obtain⟨u,rfl,t,rfl⟩:=vals1 r;exact W.KIN.call_text hn h1 ⟨.int n,H,I.tok _,⟨_,rfl⟩,q _ F H (Stp.refl fh) (.int n)⟩
   ·exact q.elim
 ·exact q.elim
def rStrip:V->List V->Hp->VK->Prop:=λx vs H Q=>∃z y:Str,x=.str z/\vs=[.str y]/\z.length<=sizeLine/\Q (.str (Txt.rstripChars z y)) H
def v0d:MtM X "str.rstrip" rStrip:=by
 intro pins s σ H x vs v us Q I rx rv h;obtain⟨z,y,rfl,rfl,hz,q⟩:=h;obtain⟨t,rfl⟩:=rx;obtain⟨u,rfl,ru⟩:=rv.one;obtain⟨t2,rfl⟩:=ru;exact SC.rstripChars (λt' k=>⟨.str _,H,I.tok _,⟨_,rfl⟩,q⟩) hz
def rStarts:V->List V->Hp->VK->Prop:=λx vs H Q=>∃z y:Str,x=.str z/\vs=[.str y]/\Q (.bl (Txt.startswith z y)) H
def v0c:MtM X "str.startswith" rStarts:=by
 intro pins s σ H x vs v us Q I rx rv h;obtain⟨z,y,rfl,rfl,q⟩:=h;obtain⟨t,rfl⟩:=rx;obtain⟨u,rfl,ru⟩:=rv.one;obtain⟨t2,rfl⟩:=ru;exact SC.startswith ⟨.bl _,H,I,rfl,q⟩
noncomputable def stripD (y:Str):D->Res D
 | .str z=>.ok (.str (Txt.rstripChars z y))
 | _=>.bad
noncomputable def startsD (y:Str):D->Res D
 | .str z=>.ok (.bl (Txt.startswith z y))
 | _=>.bad
def v2v(he:DE X xq e fe) (hl:∀z:Str,(Txt.rstripChars z y).length<=z.length) (hbase:attributeBase e "rstrip" X.env (eval e X.env)=eval e X.env:=by rfl) (hline:(apos.endLine==cpos.line)=true:=by rfl) :
  DE X xq (.Call (.Attribute e "rstrip" apos) [.Constant (.str y) j p] [] cpos) (λρ=>(fe ρ).bind (stripD y)) :=
 DE.of (pbm PySem.F.plainAttrs_str PySem.F.slot_str_rstrip PySem.F.type_str_rstrip v0d he.out (pac u5S u0t rfl) rfl rfl hbase hline) λB F ρ σ H Q R q=>seqE R q λd v F1 H1 s1 R1 p1 q1=>by
  cases p1 with
  | @str z hz=>exact⟨rfl,z,y,rfl,rfl,hz,q1 _ F1 H1 s1 (.str (y9 (hl z) hz))⟩
  | _=>exact q1.elim
def v2u(he:DE X xq e fe) (hbase:attributeBase e "startswith" X.env (eval e X.env)=eval e X.env:=by rfl) (hline:(apos.endLine==cpos.line)=true:=by rfl) :
  DE X xq (.Call (.Attribute e "startswith" apos) [.Constant (.str y) j p] [] cpos) (λρ=>(fe ρ).bind (startsD y)) :=
 DE.of (pbm PySem.F.plainAttrs_str PySem.F.slot_str_startswith PySem.F.type_str_startswith v0c he.out (pac u5S u0t rfl) rfl rfl hbase hline) λB F ρ σ H Q R q=>seqE R q λd v F1 H1 s1 R1 p1 q1=>by
  cases p1 with
  | @str z hz=>exact⟨rfl,z,y,rfl,rfl,q1 _ F1 H1 s1 (.bl _)⟩
  | _=>exact q1.elim
theorem u8Z:∀(cs:List Nat) (acc:List Value),acc.length=cs.length->(∀(j:Nat) v,acc[j]?=some v->∃c u,cs[j]?=some c/\v=.str ⟨#[c]⟩ u)->Vals (cs.map λc=>V.str ⟨#[c]⟩) acc
 | [],[],_,_=>.nil
 | c::cs,v::acc,hl,h=>by
  obtain⟨c',u,e1,e2⟩:=h 0 v rfl;cases e1;exact .cons ⟨u,e2⟩ (u8Z cs acc (by simpa using hl) λj v e=>h (j+1) v e)
noncomputable def seqS:List D->Res OD
 | [.str z]=>.ok (.l (chars z))
 | _=>.bad
def rListS:List V->Hp->VK->Prop:=λxs H Q=>∃z:Str,xs=[.str z]/\z.length<=sizeLine/\∀p,H p=none->Q (.ref p) (upd H p (.lst (z.cps.toList.map λc=>V.str ⟨#[c]⟩)))
def u8M (hc:X.calm=true):CallR X (.type "list") rListS:=by
 intro pins s σ H xs us Q I r z9123;obtain⟨z,e,hz,q⟩:=z9123;subst e;obtain⟨u,rfl,t,rfl⟩:=vals1 r;refine call_list_str (I.ok.hd hc) z t (λh' tk acc' c' k hS hacc=>?_) hz
 have hv:Vals (z.cps.toList.map λc=>V.str ⟨#[c]⟩) acc'.toList:=u8Z _ _ (by rw[z0J,hacc.1,z0J]) λj v e=>by
  obtain⟨c,u,e1,e2⟩:=hacc.2 j v (by rw[<- e,Array.getElem?_toList])
  exact⟨c,u,by rw[Array.getElem?_toList];exact e1,e2⟩
 exact⟨.ref _,_,I.laid (a:=s.heap.objs.size) (o:=.lst _) (t':=tk) k (y0 _) ⟨by rw[x9,z0J];exact hz,acc'.toList,c',hv,hS⟩,rfl,q _ I.fresh⟩
set_option tactic.hygienic true in
def v2q (hc:X.calm=true) (hm:X.mg "list"=none) (ha:DA X xq [e] fs) (hg:Gl X "list":=by rfl):DN X xq (.Call (.Name "list" p) [e] [] pos) (λρ=>(fs ρ).bind seqS) :=
 ⟨λpins s σ H Q I z9=>un5 z9 λB F ρ R q=>pcT (u8M hc) hg hm rfl ha.out (by decide) (by decide) ha.ns pins s σ H Q I (seqA R q λds vs F1 H1 s1 R1 p1 q1=>by
  unfold seqS at q1;split at q1
  ·rename_i z
   obtain⟨v,rfl,pv⟩:=rps1 p1;cases pv with
   | str hz=>exact⟨z,rfl,hz,λl n=>q1 l _ F1 _ (s1.trans (Stp.only R1.fh (u0g n))) (R1.fh.free n) (s1.hh.free n) u0c (.l (by
     unfold chars;generalize z.cps.toList=cs;induction cs with
     | nil=>exact .nil
     | cons c cs ih=>exact .cons (.str u1H) ih))⟩
  ·exact q1.elim)⟩
noncomputable def dEqJ (x y:D):Res D:=match x,y with
 | .dct [],.dct []=>.ok (.bl true)
 | x,y=>dEq x y
def u1u (hu:X.A.units+64<cLine):OpR X (compareOp .Eq) (rD X.K dEqJ):=by
 intro pins s σ H x y v u Q I rx ry z9124;obtain⟨F,dx,dy,fh,px,py,q⟩:=z9124;unfold dEqJ at q;split at q
 ·cases px with
  | @dK a _ _ ha hr =>
   cases py with
   | @dK b _ _ hb hr' =>
    cases rx;cases ry;cases hr;cases hr';obtain⟨_,k1,vs,r1,m1⟩:_/\_/\∃vs,KV ([]:List (Key×V)) vs/\_:=I.hok _ _ (fh _ _ ha);obtain⟨_,k2,vs',r2,m2⟩:_/\_/\∃vs,KV ([]:List (Key×V)) vs/\_:=I.hok _ _ (fh _ _ hb);cases r1;cases r2;have z:SeqAt.RcAt X.A s (.ref a) (.ref b) true:=λprog w E Q hQ=>W.keq_eq (knd:=mixKind prog w) k1 k2 (u4M m1) (u4M m2) (by omega) (λ_=>.nil) hQ
    exact z _ _ _ _ ⟨.bl true,H,I,rfl,q _ F H (Stp.refl fh) (.bl _)⟩
 ·exact o_eq hu pins s σ H x y v u Q I rx ry ⟨F,_,_,fh,px,py,q⟩
section
open PySem.W
variable {x:Addr}{ox:Obj}{od:Option Obj}
def eq_bind (self:Value):bindSpecial (.builtin "object.__eq__") self=pure (.builtin "object.__eq__",[self]):=PySem.F.cmp_object.eq.bind self
def u6I {Q:Option Value->Shared->Prop} (X:K.In s.heap) (I:W.InstAt s.heap x ox C od) (he:findIn K (.ref C) "__eq__"=some (some (.builtin "object.__eq__"))) (hm:mroIn K C (.type "object")=some true) (hq:Q (some (.bool true)) s) :
  wpAny (model prog w) A (callSpecialIfBound? (.ref x) "__eq__" [.ref x]) Q E s:=by
 simp only[callSpecialIfBound?,bindSpecialIfBound?];refine wpAny_holding (wpAny_bind (wpAny_bind (wpAny_bind (I.type.here ((looks_findIn X he).here ?_)))));simp only[eq_bind];refine wpAny_bind (wpAny_askSetting (wpAny_ite ?_));have hcall:wpAny (model prog w) A (call (.builtin "object.__eq__") ([.ref x]++[.ref x])) (λv=>Q (some v)) E s :=
  wpAny_call (codeAny_call_builtin PySem.F.cmp_object.eq.plain PySem.F.cmpEntry_eq (check_slot PySem.F.cmpKind_eq PySem.F.cmpSplit_eq (I.type.andThen (looks_mroIn X hm)) (PySem.F.cmpArgs_eq _ _) (objEq_entry_same hq)))
 have fin:wpAny (model prog w) A (call (.builtin "object.__eq__") ([.ref x]++[.ref x]) >>= λv=>pure (some v)) Q E s :=
  wpAny_bind (wpAny_mono hcall (λv s' h'=>wpAny_pure h') λ_ _ h'=>h')
 split
 ·exact wpAny_bind (wpAny_pure (wpAny_pure fin))
 ·exact wpAny_tryCatch (wpAny_bind (wpAny_pure (wpAny_pure fin)))
def u4n {Q:Option Value->Shared->Prop} (X:K.In s.heap) (I:W.InstAt s.heap x ox C od) (he:findIn K (.ref C) "__eq__"=some (some (.builtin "object.__eq__"))) (hm:mroIn K C (.type "object")=some true) (hq:Q (some (.bool true)) s) :
  wpAny (model prog w) A (tryCompare (.ref x) "__eq__" (.ref x)) Q E s:=by
 simp only[tryCompare];refine wpAny_bind (u6I X I he hm ?_);exact wpAny_pure hq
def v0a{k:Bool->Sem α}{Q:α->Shared->Prop} (hq:wpAny (model prog w) A (k false) Q E s) :
  wpAny (model prog w) A (if Value.ref C != Value.ref C then isSubtype (.ref C) (.ref C) >>= k else pure false >>= k) Q E s:=by
 rw[if_neg (by simp)]
 exact wpAny_bind (wpAny_pure hq)
def v2o(X:K.In s.heap) (I:W.InstAt s.heap x ox C od) (he:findIn K (.ref C) "__eq__"=some (some (.builtin "object.__eq__"))) (hm:mroIn K C (.type "object")=some true) (hu:A.units<cLine) (hq:Q (.bool true) s) :
  wpAny (model prog w) A (compareOp .Eq (.ref x) (.ref x)) Q E s:=by
 show wpAny (model prog w) A (richCompare .Eq (.ref x) (.ref x)) Q E s;obtain⟨h,g,d,t,os⟩:=s;have hx:=I.at_;have hc:=I.cls;simp only[richCompare,cmpInfo_Eq,oneThing_ref]
 repeat (first|with_reducible refine wpAny_cRoomFor hu ?_|(with_reducible refine wpAny_loadPart_at hx ?_;rw[hc])|with_reducible refine v0a ?_|with_reducible refine u4n X I he hm ?_|wp_step)
 exact hq
end
def IsI (K:W.Frag) (cs:List Addr):Prop:=∀C∈cs,InK K C/\(∀T∈(["bool","int","str","list","tuple","dict"]:List String),W.kitOne K (.ref C) (.type T)=some false)/\W.findIn K (.ref C) "__eq__"=some (some (.builtin "object.__eq__"))
noncomputable def gIsI (cs:List Addr):List D->Res D
 | [.ins C _,.ty T]=>if C∈cs/\T∈(["bool","int","str","list","tuple","dict"]:List String) then .ok (.bl false) else .bad
 | [.obj _ C,.ty T]=>if C∈cs/\T∈(["bool","int","str","list","tuple","dict"]:List String) then .ok (.bl false) else .bad
 | ds=>gIsA ds
section
variable {cs:List Addr}
def v3c{Q:VK}{dx:Addr}{fs:List (Str×V)} (h:IsI X.K cs) (I:Inv X pins σ H s) (e:H a=some (.ins C dx fs)) (hc:C∈cs) (hT:T∈(["bool","int","str","list","tuple","dict"]:List String)) (q:Q (.bl false) H) :
  wpAny (model X.prog X.w) X.A (call (.builtin "isinstance") [.ref a,.type T]) (EP X pins σ Q) X.xe s:=by
 obtain⟨K1,h2,_⟩:=h C hc;exact u0S I (show RelV (.ref a) (.ref a) from rfl) (.ins e K1.cl K1.ha K1.hn K1.ht K1.hm) (h2 T hT) λtk=>⟨.bl false,H,I.tok _,rfl,q⟩
set_option tactic.hygienic true in
def v2B (h:IsI X.K cs):CallR X (.builtin "isinstance") (rDs X.K (gIsI cs)):=by
 intro pins s σ H xs us Q I r z9125;obtain⟨F,ds,fh,ps,q⟩:=z9125;unfold gIsI at q;split at q
 ·rename_i C gs T
  split at q
  ·rename_i c
   obtain⟨v,w,rfl,pv,pw⟩:=rps2 ps;obtain⟨u,u',rfl,ru,ru'⟩:=vals2 r;cases pw;cases (show u'=Value.type T from ru')
   cases pv with
   | @ins a C dx fs gs h1 h2 =>
    cases (show u=Value.ref a from ru)
    exact v3c h I (fh _ _ h1) c.1 c.2 (q _ F H (Stp.refl fh) (.bl false))
  ·exact q.elim
 ·rename_i a C T
  split at q
  ·rename_i c
   obtain⟨v,w,rfl,pv,pw⟩:=rps2 ps;obtain⟨u,u',rfl,ru,ru'⟩:=vals2 r;cases pw;cases (show u'=Value.type T from ru')
   cases pv with
   | obj h1 =>
    cases (show u=Value.ref a from ru)
    exact v3c h I (fh _ _ h1) c.1 c.2 (q _ F H (Stp.refl fh) (.bl false))
  ·exact q.elim
 ·exact u8N pins s σ H xs us Q I r ⟨F,ds,fh,ps,q⟩
noncomputable def dEqI (cs:List Addr):D->D->Res D
 | .obj a C,.obj b _=>if a=b/\C∈cs then .ok (.bl true) else .bad
 | x,y=>dEqJ x y
set_option tactic.hygienic true in
def o_eqI (h:IsI X.K cs) (hu:X.A.units+64<cLine):OpR X (compareOp .Eq) (rD X.K (dEqI cs)):=by
 intro pins s σ H x y v u Q I rx ry z9126;obtain⟨F,dx,dy,fh,px,py,q⟩:=z9126;unfold dEqI at q;split at q
 ·rename_i a C b C'
  split at q
  ·rename_i c
   obtain⟨rfl,hc⟩:=c;cases px with
   | obj h1 =>
    cases py with
    | obj h2 =>
     cases (show v=Value.ref a from rx)
     cases (show u=Value.ref a from ry)
     obtain⟨K1,_,he⟩:=h C hc;obtain⟨mA,O,_⟩:=u4b I.hok (fh _ _ h1);obtain⟨od,J,_⟩:=O.look;exact v2o I.kIn J he K1.hm (by omega) ⟨.bl true,H,I,rfl,q _ F H (Stp.refl fh) (.bl true)⟩
  ·exact q.elim
 ·exact u1u hu pins s σ H x y v u Q I rx ry ⟨F,dx,dy,fh,px,py,q⟩
end
end L2
namespace K15
open PySem L2 PySem.Spec PyProof.Rows
variable {k n i e N:Nat}{K:W.Frag}{mg:MG}{α β:Type}{ds l:List D}{C f:Addr}{x d:D}{P:Program}{w:World}{base:Heap}{fd:FuncData}{c j:Int}{g z t:Str}{fT:Rho->Res Bool}{fe:Rho->Res D}{tb:Rho->Out}
def top (i:Nat):Stmt:=PySem.Challenge.pw_rulestable_k15_whole_trees_as_texts.main.body.getD i (.Pass ⟨0,0,0,0⟩)
def meth (i j:Nat):Stmt:=match top i with
 | .ClassDef (body:=b) ..=>b.getD j (.Pass ⟨0,0,0,0⟩)
 | _=>.Pass ⟨0,0,0,0⟩
def hu64{A:Around} (hr:Room k A):A.units+64<cLine:=by have:=hr.un;omega
def hu100{A:Around} (hr:Room k A):A.units+100<cLine:=by have:=hr.un;omega
structure Adr where
 NoTree:Addr
 TableError:Addr
 Tree:Addr
 Leaf:Addr
 Node:Addr
 TreeReader:Addr
variable {A:Adr}
structure Txt (K:W.Frag) (mg:MG) (A:Adr):Prop where
 z_isinstance:mg "isinstance"=none
 z_str:mg "str"=none
 z_int:mg "int"=none
 z_bool:mg "bool"=none
 z_list:mg "list"=none
 z_tuple:mg "tuple"=none
 z_dict:mg "dict"=none
 z_len:mg "len"=none
 z_all:mg "all"=none
 z_range:mg "range"=none
 z_enumerate:mg "enumerate"=none
 z_zip:mg "zip"=none
 z_reversed:mg "reversed"=none
 z_max:mg "max"=none
 z_min:mg "min"=none
 z_sum:mg "sum"=none
 m_NoTree:mg "NoTree"=some (.ref A.NoTree)
 b_NoTree:XBase K A.NoTree
 m_TableError:mg "TableError"=some (.ref A.TableError)
 b_TableError:XBase K A.TableError
 m_Tree:mg "Tree"=some (.ref A.Tree)
 m_Leaf:mg "Leaf"=some (.ref A.Leaf)
 m_Node:mg "Node"=some (.ref A.Node)
 m_TreeReader:mg "TreeReader"=some (.ref A.TreeReader)
 g_IN_SIGNS:GloD K mg "IN_SIGNS" (.str "abcdefghijklmnopqrstuvwxyz0123456789+-*/()[]=<>,;.!?^&")
 g_LONGEST:GloD K mg "LONGEST" (.int 6)
 g_DEEPEST:GloD K mg "DEEPEST" (.int 500)
 g_MOST_CHILDREN:GloD K mg "MOST_CHILDREN" (.int 4)
 g_NUMBERS:GloD K mg "NUMBERS" (.tup [(.str "0"),(.str "1"),(.str "2"),(.str "3"),(.str "4"),(.str "5"),(.str "6"),(.str "7"),(.str "8"),(.str "9"),(.str "10"),(.str "11"),(.str "12"),(.str "13"),(.str "14"),(.str "15"),(.str "16"),(.str "17"),(.str "18"),(.str "19")])
 c_Leaf:Cls K A.Leaf
 c_Node:Cls K A.Node
 c_TreeReader:Cls K A.TreeReader
 na_Leaf_sign:NoAttr K A.Leaf "sign"
 na_Leaf_tree_size:NoAttr K A.Leaf "tree_size"
 na_Leaf_tree_depth:NoAttr K A.Leaf "tree_depth"
 na_Node_number:NoAttr K A.Node "number"
 na_Node_children:NoAttr K A.Node "children"
 na_Node_tree_size:NoAttr K A.Node "tree_size"
 na_Node_tree_depth:NoAttr K A.Node "tree_depth"
 na_TreeReader_finished:NoAttr K A.TreeReader "finished"
 na_TreeReader_opened:NoAttr K A.TreeReader "opened"
 ne:A.Leaf≠A.Node
 isI:IsI K [A.Leaf,A.Node]
 x_found:XRead K "found" [A.NoTree]
 o_Tree:IsO K A.Tree [(A.Leaf,true),(A.Node,true)] [(A.NoTree,false)]
 o_Leaf:IsO K A.Leaf [(A.Leaf,true),(A.Node,false)] [(A.NoTree,false)]
 o_Node:IsO K A.Node [(A.Leaf,false),(A.Node,true)] [(A.NoTree,false)]
 o_NoTree:IsO K A.NoTree [(A.Leaf,false),(A.Node,false)] [(A.NoTree,true)]
def Txt.f_sign (T:Txt K mg A):∀C∈[A.Leaf],Cls K C/\NoAttr K C "sign":=by
 intro C h;simp only[z7,u5,or_false] at h;subst h;exact⟨T.c_Leaf,T.na_Leaf_sign⟩
def Txt.f_number (T:Txt K mg A):∀C∈[A.Node],Cls K C/\NoAttr K C "number":=by
 intro C h;simp only[z7,u5,or_false] at h;subst h;exact⟨T.c_Node,T.na_Node_number⟩
def Txt.f_children (T:Txt K mg A):∀C∈[A.Node],Cls K C/\NoAttr K C "children":=by
 intro C h;simp only[z7,u5,or_false] at h;subst h;exact⟨T.c_Node,T.na_Node_children⟩
def Txt.f_tree_size (T:Txt K mg A):∀C∈[A.Leaf,A.Node],Cls K C/\NoAttr K C "tree_size":=by
 intro C h;simp only[z7,u5,or_false] at h;rcases h with rfl|rfl
 ·exact⟨T.c_Leaf,T.na_Leaf_tree_size⟩
 ·exact⟨T.c_Node,T.na_Node_tree_size⟩
def Txt.f_tree_depth (T:Txt K mg A):∀C∈[A.Leaf,A.Node],Cls K C/\NoAttr K C "tree_depth":=by
 intro C h;simp only[z7,u5,or_false] at h;rcases h with rfl|rfl
 ·exact⟨T.c_Leaf,T.na_Leaf_tree_depth⟩
 ·exact⟨T.c_Node,T.na_Node_tree_depth⟩
abbrev u1m:Stmt:=top 9
def u3t:FnScope ["thing"] ["thing"] (defScope u1m):=.au
abbrev u2e:Stmt:=top 10
def u6P:FnScope ["text","allowed"] ["text","allowed"] (defScope u2e):=.au
abbrev u3P:Stmt:=top 11
def u8u:FnScope ["thing"] ["thing"] (defScope u3P):=.au
abbrev u1D:Stmt:=top 16
def u4q:FnScope ["tree"] ["tree"] (defScope u1D):=.au
abbrev u1e:Stmt:=top 18
def u2V:FnScope ["one","other"] ["one","other"] (defScope u1e):=.au
abbrev u6Q:Stmt:=top 19
def u4V:FnScope ["one","other","waiting","pair"] ["one","other"] (defScope u6Q):=.au
abbrev u2p:Stmt:=top 24
def u0X:FnScope ["tree","told","waiting","part","child"] ["tree"] (defScope u2p):=.au
abbrev u1R:Stmt:=top 26
def u1z:FnScope ["reader","word","begun","turn"] ["reader","word"] (defScope u1R):=.au
abbrev u2q:Stmt:=top 27
def u1O:FnScope ["text","reader","word"] ["text"] (defScope u2q):=.au
abbrev u3b:Stmt:=top 29
def u6O:FnScope ["_law_script","_law_k"] ["_law_script","_law_k"] (defScope u3b):=.au
abbrev u2W:Stmt:=top 30
def u2n:FnScope ["_law_cell_here","_law_k","_law_number_here"] ["_law_cell_here","_law_k"] (defScope u2W):=.au
abbrev u1S:Stmt:=top 31
def u4U:FnScope ["_law_cell_here"] ["_law_cell_here"] (defScope u1S):=.au
abbrev u2Z:Stmt:=top 32
def u3N:FnScope ["_law_left","_law_many","_law_found"] ["_law_left","_law_many"] (defScope u2Z):=.au
abbrev u2X:Stmt:=top 33
def u3L:FnScope ["_law_left","_law_some"] ["_law_left"] (defScope u2X):=.au
abbrev u2s:Stmt:=top 34
def u1p:FnScope ["_law_left","_law_deep_here","_law_room","_law_children","_law_number_here","_law_k"] ["_law_left","_law_deep_here","_law_room"] (defScope u2s):=.au
abbrev u2d:Stmt:=top 35
def u6N:FnScope ["_law_model"] ["_law_model"] (defScope u2d):=.au
abbrev u4W:Stmt:=top 36
def u3M:FnScope ["_law_tree","_law_model","_law_child","_law_one"] ["_law_tree","_law_model"] (defScope u4W):=.au
abbrev u2c:Stmt:=top 37
def u6M:FnScope ["_law_model"] ["_law_model"] (defScope u2c):=.au
abbrev u1i:Stmt:=top 38
def u2k:FnScope ["_law_thing","_law_signs"] ["_law_thing"] (defScope u1i):=.au
abbrev u1q:Stmt:=top 39
def u2C:FnScope ["_law_word","_law_some"] ["_law_word"] (defScope u1q):=.au
abbrev u1U:Stmt:=top 40
def u1A:FnScope ["_law_pile","_law_many","_law_lap","_law_model"] ["_law_pile","_law_many"] (defScope u1U):=.au
abbrev u2Y:Stmt:=top 41
def u1l:FnScope ["_law_text_here","_law_pile","_law_word","_law_core"] ["_law_text_here"] (defScope u2Y):=.au
abbrev u1T:Stmt:=top 42
def u0k:FnScope ["_law_text_here","_law_cell_here","_law_signs","_law_way","_law_sign_here","_law_at","_law_words","_law_place","_law_more","_law_turned"] ["_law_text_here","_law_cell_here"] (defScope u1T):=.au
abbrev u1C:Stmt:=top 43
def u0V:FnScope ["_law_thing","_law_caught","e"] ["_law_thing"] (defScope u1C):=.au
abbrev u2r:Stmt:=top 44
def u1Q:FnScope ["_law_text_here","_law_due","_law_tree"] ["_law_text_here"] (defScope u2r):=.au
abbrev u3a:Stmt:=top 45
def u2o:FnScope ["_law_number_here","_law_deep_here","_law_text_here","_law_tree"] ["_law_number_here","_law_deep_here"] (defScope u3a):=.au
abbrev u4X:Stmt:=top 46
def u3O:FnScope ["_law_script","_law_model","_law_text_here","_law_some","_law_k","_law_thing","_law_number_here"] ["_law_script"] (defScope u4X):=.au
abbrev u1h:Stmt:=meth 13 0
def u4o:FnScope ["self"] ["self"] (defScope u1h):=.au
abbrev u0W:Stmt:=meth 13 1
def u3K:FnScope ["self"] ["self"] (defScope u0W):=.au
abbrev u1B:Stmt:=meth 14 0
def u4p:FnScope ["self","sign"] ["self","sign"] (defScope u1B):=.au
abbrev u1d:Stmt:=meth 14 1
def u2U:FnScope ["self"] ["self"] (defScope u1d):=.au
abbrev u0K:Stmt:=meth 15 0
def u2j:FnScope ["self","number","children","trees"] ["self","number","children"] (defScope u0K):=.au
abbrev u1c:Stmt:=meth 15 1
def u2T:FnScope ["self"] ["self"] (defScope u1c):=.au
abbrev u0P:Stmt:=meth 25 0
def u2i:FnScope ["self"] ["self"] (defScope u0P):=.au
abbrev u0M:Stmt:=meth 25 1
def u1P:FnScope ["self","word"] ["self","word"] (defScope u0M):=.au
abbrev u0F:Stmt:=meth 25 2
def u0U:FnScope ["self","tree","children"] ["self","tree"] (defScope u0F):=.au
abbrev u0L:Stmt:=meth 25 3
def u0Y:FnScope ["self","opened"] ["self"] (defScope u0L):=.au
inductive Md where
 | leaf (s:Str)
 | node (n:Int) (cs:List Md)
variable {a b m:Md}
def Md.ind {P:Md->Prop} (hl:∀s,P (.leaf s)) (hn:∀n cs,(∀c∈cs,P c)->P (.node n cs)) (m:Md):P m :=
 Md.rec (motive_1:=P) (motive_2:=λms=>∀c∈ms,P c) hl hn (λc h=>nomatch h) (λm ms h1 h2 c h=>by
  rcases z7.mp h with e|h
  ·rw[e];exact h1
  ·exact h2 c h) m
mutual
noncomputable def toD:Md->D
 | .leaf s=>.str s
 | .node n cs=>.tup [.int n,.lst (toDs cs)]
noncomputable def toDs:List Md->List D
 | []=>[]
 | m::ms=>toD m::toDs ms
end
mutual
noncomputable def sz:Md->Nat
 | .leaf _=>1
 | .node _ cs=>szs cs+1
noncomputable def szs:List Md->Nat
 | []=>0
 | m::ms=>sz m+szs ms
end
mutual
noncomputable def dp:Md->Nat
 | .leaf _=>1
 | .node _ cs=>dps cs+1
noncomputable def dps:List Md->Nat
 | []=>0
 | m::ms=>max (dp m) (dps ms)
end
mutual
noncomputable def tr (A:Adr):Md->D
 | .leaf s=>.ins A.Leaf [("sign",.str s),("tree_size",.int 1),("tree_depth",.int 1)]
 | .node n cs=>.ins A.Node [("number",.int n),("children",.tup (trs A cs)),("tree_size",.int (1+szs cs)),("tree_depth",.int (1+dps cs))]
noncomputable def trs (A:Adr):List Md->List D
 | []=>[]
 | m::ms=>tr A m::trs A ms
end
theorem u2a:∀ms,toDs ms=ms.map toD
 | []=>rfl
 | m::ms=>by rw[toDs,u2a ms];rfl
theorem u2M (A:Adr):∀ms,trs A ms=ms.map (tr A)
 | []=>rfl
 | m::ms=>by rw[trs,u2M A ms];rfl
def u3x (ms:List Md):(toDs ms).length=ms.length:=by rw[u2a];simp
def u4Q (A:Adr) (ms:List Md):(trs A ms).length=ms.length:=by rw[u2M];simp
inductive Ok:Md->Prop
 | leaf {s:Str} (h:PyData.strOk s=true) (l:s.length<=1000):Ok (.leaf s)
 | node {n:Int}{cs:List Md} (h0:0<=n) (h1:n<1000) (hl:cs.length<=1000) (hc:∀c∈cs,Ok c):Ok (.node n cs)
noncomputable def tsz:D->Int
 | .ins _ gs=>match gs.lookup ("tree_size":Str) with
  | some (.int i)=>i
  | _=>0
 | _=>0
noncomputable def tdp:D->Int
 | .ins _ gs=>match gs.lookup ("tree_depth":Str) with
  | some (.int i)=>i
  | _=>0
 | _=>0
inductive Kid (A:Adr):D->Prop
 | mk {C:Addr}{gs:List (Str×D)}{i j:Int} (h:C=A.Leaf\/C=A.Node) (hi:gs.lookup ("tree_size":Str)=some (.int i)) (hj:gs.lookup ("tree_depth":Str)=some (.int j)) (h1:gs.lookup ("size":Str)=none) (h2:gs.lookup ("depth":Str)=none):Kid A (.ins C gs)
def v0g (A:Adr) (m:Md):Kid A (tr A m):=by
 cases m with
 | leaf s=>exact .mk (.inl rfl) (i:=1) (j:=1) (by rfl) (by rfl) (by rfl) (by rfl)
 | node n cs=>exact .mk (.inr rfl) (i:=1+szs cs) (j:=1+dps cs) (by rfl) (by rfl) (by rfl) (by rfl)
def v2L (A:Adr) (m:Md):tsz (tr A m)=sz m:=by
 cases m with
 | leaf s=>rfl
 | node n cs=>show(1+(szs cs:Int))=((szs cs+1:Nat):Int);omega
def u9g (A:Adr) (m:Md):tdp (tr A m)=dp m:=by
 cases m with
 | leaf s=>rfl
 | node n cs=>show(1+(dps cs:Int))=((dps cs+1:Nat):Int);omega
noncomputable def sumT (ds:List D):Int:=(ds.map tsz).sum
noncomputable def maxT (ds:List D):Int:=match ds.map tdp with
 | []=>0
 | i::r=>r.foldl mx2 i
theorem u7y (A:Adr):∀ms,sumT (trs A ms)=szs ms
 | []=>rfl
 | m::ms=>by
  have:=u7y A ms
  unfold sumT at this |-
  rw[trs,z0C,List.sum_cons,this,v2L,szs];omega
def mx2_n (a b:Nat):mx2 (a:Int) (b:Int)=((max a b:Nat):Int):=by
 unfold mx2;by_cases h:a<b
 ·rw[if_pos (Int.ofNat_lt.mpr h),Nat.max_eq_right (Nat.le_of_lt h)]
 ·rw[if_neg (λz=>h (Int.ofNat_lt.mp z)),Nat.max_eq_left (Nat.le_of_not_lt h)]
theorem u8b (A:Adr):∀(ms:List Md) (k:Nat),((trs A ms).map tdp).foldl mx2 (k:Int)=((max k (dps ms):Nat):Int)
 | [],k=>by simp[trs,dps]
 | m::ms,k=>by
  rw[trs,z0C,z3A,u9g,mx2_n,u8b A ms,dps,Nat.max_assoc]
def v1W (A:Adr) (ms:List Md):maxT (trs A ms)=dps ms:=by
 cases ms with
 | nil=>rfl
 | cons m ms =>
  show((trs A ms).map tdp).foldl mx2 (tdp (tr A m))=_;rw[u9g,u8b,dps]
def u3W(h:n<=1000):n<=sizeLine:=y9 h (by decide)
@[simp] theorem u1k{k:Res α} (h:ds.length<=1000):szD ds k=k:=szD_pos (u3W h)
noncomputable def kids:Md->List Md
 | .leaf _=>[]
 | .node _ cs=>cs
def u5Y:C∈[A.Leaf,A.Node]↔C=A.Leaf\/C=A.Node:=by simp
structure LeafM (A:Adr) (g:Addr->List D->Res D):Prop where
 l:∀d,g A.Leaf [d]=.ok (.bl true)
 n:∀d,g A.Node [d]=.ok (.bl false)
noncomputable def isLeafB:Md->Bool
 | .leaf _=>true
 | .node _ _=>false
def isV_tr (A:Adr) (m:Md) {x:Str} (h:x∉([("sign":Str),"tree_size","tree_depth","number","children"]:List Str)):isV [A.Leaf,A.Node] x (tr A m)=.ok (match m with | .leaf _=>A.Leaf | .node _ _=>A.Node,tr A m):=by
 simp only[z7,u5,or_false,not_or] at h;obtain⟨h1,h2,h3,h4,h5⟩:=h;have b1:=beq_false_of_ne h1;have b2:=beq_false_of_ne h2;have b3:=beq_false_of_ne h3;have b4:=beq_false_of_ne h4;have b5:=beq_false_of_ne h5;cases m<;>simp[isV,tr,List.lookup,b1,b2,b3,b4,b5]
def u1j{g:Addr->List D->Res D} (p:LeafM A g) (m:Md):((isV [A.Leaf,A.Node] "is_leaf" (tr A m)).bind λy=>noE (g y.1 [y.2]))=.ok (.bl (isLeafB m)):=by
 rw[isV_tr A m (by decide +kernel)]
 cases m with
 | leaf s=>show noE (g A.Leaf _)=_;rw[p.l];rfl
 | node n cs=>show noE (g A.Node _)=_;rw[p.n];rfl
def u0Z (A:Adr) (n:Int) (cs:List Md):fldV [A.Node] "children" (tr A (.node n cs))=.ok (.tup (trs A cs)):=by
 show(if A.Node∈[A.Node] then _ else _)=_
 rw[if_pos (by simp)]
 rfl
def u2h (A:Adr) (n:Int) (cs:List Md):fldV [A.Node] "number" (tr A (.node n cs))=.ok (.int n):=by
 show(if A.Node∈[A.Node] then _ else _)=_
 rw[if_pos (by simp)]
 rfl
def u5o (A:Adr) (s:Str):fldV [A.Leaf] "sign" (tr A (.leaf s))=.ok (.str s):=by
 show(if A.Leaf∈[A.Leaf] then _ else _)=_
 rw[if_pos (by simp)]
 rfl
structure Whole (G:FD):Prop where
 i:∀i,G [.int i]=.ok (.bl true)
 b:∀b,G [.bl b]=.ok (.bl false)
 s:∀s,G [.str s]=.ok (.bl false)
 n:G [.non]=.ok (.bl false)
 l:∀ds,G [.lst ds]=.ok (.bl false)
def u3S (F:Fun K "is_leaf" "Leaf.is_leaf" u1d f fd) (T:Txt K mg A):∃G,FnOk P w K mg base CX0 1 f fd ["self"] (spF K G)/\∀d,G [d]=.ok (.bl true):=by
 refine⟨_,F.okT (k:=0) u2U (λcdv Ar outer s H E hr=>u0h (u0m d_bl)),?_⟩
 intro d;simp[runT,startD]
def u3R (F:Fun K "is_leaf" "Node.is_leaf" u1c f fd) (T:Txt K mg A):∃G,FnOk P w K mg base CX0 1 f fd ["self"] (spF K G)/\∀d,G [d]=.ok (.bl false):=by
 refine⟨_,F.okT (k:=0) u2T (λcdv Ar outer s H E hr=>u0h (u0m d_bl)),?_⟩
 intro d;simp[runT,startD]
def u3n (F:Fun K "size" "Tree.size" u1h f fd) (T:Txt K mg A):∃G,FnOk P w K mg base CX0 1 f fd ["self"] (spF K G)/\∀d,Kid A d->G [d]=.ok (.int (tsz d)):=by
 refine⟨_,F.okT (k:=0) u4o (λcdv Ar outer s H E hr=>u0h (u0m (u1a T.f_tree_size (dv 0)))),?_⟩
 intro d h;cases h with
 | mk h hi hj h1 h2 =>
  rw[<- u5Y] at h;simp[runT,startD,fldV,h,hi,tsz]
def u2G (F:Fun K "depth" "Tree.depth" u0W f fd) (T:Txt K mg A):∃G,FnOk P w K mg base CX0 1 f fd ["self"] (spF K G)/\∀d,Kid A d->G [d]=.ok (.int (tdp d)):=by
 refine⟨_,F.okT (k:=0) u3K (λcdv Ar outer s H E hr=>u0h (u0m (u1a T.f_tree_depth (dv 0)))),?_⟩
 intro d h;cases h with
 | mk h hi hj h1 h2 =>
  rw[<- u5Y] at h;simp[runT,startD,fldV,h,hj,tdp]
def u4t {g_is_leaf:Addr->List D->Res D} (m_is_leaf:∀C∈[A.Leaf,A.Node],MCalleeF P w K mg base 1 C "is_leaf" ["self"] (g_is_leaf C)) (a0g:LeafM A g_is_leaf) (F:Fun K "children_of" "children_of" u1D f fd) (T:Txt K mg A):∃G,FnOk P w K mg base CX0 2 f fd ["tree"] (spF K G)/\∀m,G [tr A m]=.ok (.tup (trs A (kids m))):=by
 refine⟨_,F.okT (k:=1) u4q (λcdv Ar outer s H E hr=>u0h (u0m (d_ife (u0D (u4w m_is_leaf hr (dv 0))) (v2t u0b) (u1a T.f_children (dv 0))))),?_⟩
 intro m;simp[runT,startD,u1j a0g];cases m with
 | leaf s=>simp[isLeafB,kids,trs]
 | node n cs=>simp[isLeafB,u0Z,kids]
noncomputable def gLeaf:List D->Res (List (Str×D))
 | [d]=>.ok [("sign",d),("tree_size",.int 1),("tree_depth",.int 1)]
 | _=>.bad
open Classical in
noncomputable def gNode (A:Adr):List D->Res (List (Str×D))
 | [n,c]=>match rowOf c with
  | some ds=>if (∀d∈ds,Kid A d)/\ds.length<=1000 then .ok [("number",n),("children",.tup ds),("tree_size",.int (1+sumT ds)),("tree_depth",.int (1+maxT ds))] else .bad
  | none=>.bad
 | _=>.bad
def v2j (A:Adr) (n:Int) (ms:List Md) (h:ms.length<=1000) {c:D} (e:rowOf c=some (trs A ms)):gNode A [.int n,c]=.ok [("number",.int n),("children",.tup (trs A ms)),("tree_size",.int (1+szs ms)),("tree_depth",.int (1+dps ms))]:=by
 have k:(∀d∈trs A ms,Kid A d)/\(trs A ms).length<=1000:=⟨λd m=>by
  rw[u2M] at m;obtain⟨x,_,rfl⟩:=z2G.mp m;exact v0g A x,by rw[u4Q];exact h⟩
 unfold gNode;simp only[e];rw[if_pos k,u7y,v1W]
def getI0 (a C:Addr) (gs:List (Str×D)) (ρ:Rho):getI (some (.own (.i a C gs))::ρ) 0=.ok (a,C,gs):=rfl
def outI0 (a C:Addr) (gs:List (Str×D)) (ρ:Rho):outI a C (.nx (some (.own (.i a C gs))::ρ))=.ok gs:=if_pos ⟨rfl,rfl⟩
def u7J (f:Str) (d:D):putG f d []=[(f,d)]:=rfl
def u1E{f:Str}{r:List (Str×D)} (h:g≠f):putG f d ((g,x)::r)=(g,x)::putG f d r:=if_neg h
def lk_ne{f:Str}{r:List (Str×D)} (h:f≠g):List.lookup f ((g,x)::r)=List.lookup f r:=by rw[u6,beq_false_of_ne h]
def u7j{f:Str}{r:List (Str×D)}:List.lookup f ((f,x)::r)=some x:=by rw[u6];simp
def comp1(h:D->D) (k:∀d∈ds,fT [some (.val d)]=.ok true/\fe [some (.val d)]=.ok (h d)):compD (λd ρ=>.ok (ρ.set 0 (some (.val d)))) fT fe [none] ds=.ok (ds.map h) :=
 u4j h λd hd=>⟨[some (.val d)],rfl,(k d hd).1,(k d hd).2⟩
def kid_isO(h:Kid A d):isO [(A.Leaf,true),(A.Node,true)] [(A.NoTree,false)] d=.ok (.bl true):=by
 cases h with
 | @mk C gs i j h hi hj h1 h2 =>
  have e:List.lookup C [(A.Leaf,true),(A.Node,true)]=some true:=by
   rw[u6];by_cases c:(C==A.Leaf)=true
   ·rw[c]
   ·rw [Bool.eq_false_iff.mpr c,u6]
    rcases h with h|h
    ·rw[h] at c;simp at c
    ·rw[h];simp
  show lookB _ C=_;unfold lookB;rw[e]
def u7T{g:Addr->List D->Res D} (p:∀C d,C∈[A.Leaf,A.Node]->Kid A d->g C [d]=.ok (.int (tsz d))) (h:Kid A d):((isV [A.Leaf,A.Node] "size" d).bind λy=>noE (g y.1 [y.2]))=.ok (.int (tsz d)):=by
 cases id h with
 | @mk C gs i j hC hi hj h1 h2 =>
  have hm:=u5Y.mpr hC;unfold isV;simp only[hm,h1,and_self,if_true,Res.bind_ok];rw[p C _ hm h];rfl
def u6b{g:Addr->List D->Res D} (p:∀C d,C∈[A.Leaf,A.Node]->Kid A d->g C [d]=.ok (.int (tdp d))) (h:Kid A d):((isV [A.Leaf,A.Node] "depth" d).bind λy=>noE (g y.1 [y.2]))=.ok (.int (tdp d)):=by
 cases id h with
 | @mk C gs i j hC hi hj h1 h2 =>
  have hm:=u5Y.mpr hC;unfold isV;simp only[hm,h2,and_self,if_true,Res.bind_ok];rw[p C _ hm h];rfl
def items_t (ds:List D):items (.tup ds)=.ok ds:=rfl
def u2t (ds:List D):items (.lst ds)=.ok ds:=rfl
def rhoC10 (ρ:Rho):rhoC 1 [] ρ=[none]:=rfl
theorem u5l (h:D->Int):∀ds:List D,intsOf (ds.map λd=>.int (h d))=some (ds.map h)
 | []=>rfl
 | d::ds=>by rw[z0C,intsOf,u5l h ds];rfl
def u8Y(S:Nat->Rho->Prop) (Q:Out->Prop) (hQ:∀o,Q o->notBad o)
  (step:∀n ρ,S n ρ->(fT (frz ρ)=.ok false/\Q (.nx ρ))\/(fT (frz ρ)=.ok true/\((∃ρ2 n2,n2<n/\tb ρ=.nx ρ2/\S n2 ρ2)\/∃v,tb ρ=.rt v/\Q (.rt v)))) (n:Nat) (ρ:Rho) (h:S n ρ):Q (wD fT tb ρ):=by
 suffices ∃k,Q (whileD fT tb k ρ) by
  obtain⟨k,q⟩:=this;rw[wD_eq rfl (hQ _ q)];exact q
 induction n using Nat.strongRecOn generalizing ρ with
 | ind n ih =>
  rcases step n ρ h with⟨e,q⟩|⟨e,⟨ρ2,n2,l,e2,h2⟩|⟨v,e2,q⟩⟩
  ·exact⟨1,by simp only[whileD,e,go_ok];exact q⟩
  ·obtain ⟨k,q⟩:=ih n2 l ρ2 h2
   exact⟨k+1,by simp only[whileD,e,go_ok,e2];exact q⟩
  ·exact⟨1,by simp only[whileD,e,go_ok,e2];exact q⟩
def u5Q (F:Fun K "__init__" "Leaf.__init__" u1B f fd) (T:Txt K mg A):FnOk P w K mg base CX0 1 f fd ["self","sign"] (spIni K A.Leaf gLeaf) :=
 F.okI0 (k:=0) u4p (λds gs h=>by
  match ds,h with
  | [d],h=>rfl
  | [],h=>cases h
  | _::_::_,h=>cases h) (λcdv Ar outer s H E hr=>⟨_,u0f (u4e 0 T.c_Leaf T.na_Leaf_sign (dv 1))
  (u0f (u4e 0 T.c_Leaf T.na_Leaf_tree_size u0d)
  (u0h (u4e 0 T.c_Leaf T.na_Leaf_tree_depth u0d))),λa ds gs h=>by
  match ds,h with
  | [d],h =>
   cases h;have n1:("sign":Str)≠"tree_size":=by decide +kernel
   have n2:("sign":Str)≠"tree_depth":=by decide +kernel
   have n3:("tree_size":Str)≠"tree_depth":=by decide +kernel
   simp[startI,startD,getI0,outI0,u7J,u1E n1,u1E n2,u1E n3]
  | [],h=>cases h
  | _::_::_,h=>cases h⟩)
set_option tactic.hygienic true in
def u5P {g_size:Addr->List D->Res D} (m_size:∀C∈[A.Leaf,A.Node],MCalleeF P w K mg base 1 C "size" ["self"] (g_size C)) {g_depth:Addr->List D->Res D} (m_depth:∀C∈[A.Leaf,A.Node],MCalleeF P w K mg base 1 C "depth" ["self"] (g_depth C)) (a2a:∀C d,C∈[A.Leaf,A.Node]->Kid A d->g_size C [d]=.ok (.int (tsz d))) (a1q:∀C d,C∈[A.Leaf,A.Node]->Kid A d->g_depth C [d]=.ok (.int (tdp d))) (F:Fun K "__init__" "Node.__init__" u0K f fd) (T:Txt K mg A):FnOk P w K mg base CX0 2 f fd ["self","number","children"] (spIni K A.Node (gNode A)) :=
 F.okI0 (k:=1) u2j (λds gs h=>by
  match ds,h with
  | [n,c],h=>rfl
  | [],h=>cases h
  | [_],h=>cases h
  | _::_::_::_,h=>cases h) (λcdv Ar outer s H E hr=>⟨_,u0f (u4e 0 T.c_Node T.na_Node_number (dv 1))
  (u0f (u4e 0 T.c_Node T.na_Node_children (d_T c_tuple T.z_tuple (by decide +kernel) (u0a (dv 2) u0b)))
  (u0f (u8f ["child"] [] rfl (u1b (sc:=defScope u0K) (N:=["self","number","children","trees"]) (by decide +kernel)) u2j.nd (u1Z (d_fldO 0 T.c_Node T.na_Node_children)) (dg_n (show(["child"]:List Str).Nodup by decide +kernel)) (v3i (u0D (u8K T.o_Tree T.m_Tree T.z_isinstance (by decide +kernel) (dv 0)))) (dv 0))
  (u0f (u4e 0 T.c_Node T.na_Node_tree_size (d_op u0I u0d (d_B (c_sum rfl) T.z_sum (by decide +kernel) (u0a (DN.de (u3i ["child"] [] rfl (u1b (sc:=defScope u0K) (N:=["self","number","children","trees"]) (by decide +kernel)) (u1Z (dv 3)) (dg_n (show(["child"]:List Str).Nodup by decide +kernel)) u4O (u4w m_size hr (dv 0)))) u0b))))
  (u0h (u4e 0 T.c_Node T.na_Node_tree_depth (d_op u0I u0d (d_maxD rfl T.z_max (by decide +kernel) (DN.de (u3i ["child"] [] rfl (u1b (sc:=defScope u0K) (N:=["self","number","children","trees"]) (by decide +kernel)) (u1Z (dv 3)) (dg_n (show(["child"]:List Str).Nodup by decide +kernel)) u4O (u4w m_depth hr (dv 0)))) u0d))))))),λa ds gs h=>by
  match ds,h with
  | [n,c],h =>
   unfold gNode at h;simp only at h;split at h
   ·rename_i ds e
    split at h
    ·rename_i hk
     cases h;have et:gTuple [c]=.ok (.tup ds):=by
      cases c<;>first|(cases e;rfl)|cases e
     have n1:("number":Str)≠"children":=by decide +kernel
     have n2:("number":Str)≠"tree_size":=by decide +kernel
     have n3:("number":Str)≠"tree_depth":=by decide +kernel
     have n4:("children":Str)≠"tree_size":=by decide +kernel
     have n5:("children":Str)≠"tree_depth":=by decide +kernel
     have n6:("tree_size":Str)≠"tree_depth":=by decide +kernel
     have hz:ds.length<=sizeLine:=y9 hk.2 (by decide)
     have c1:=comp1 (ds:=ds) (fT:=λρ=>((getV ρ 0).bind (isO [(A.Leaf,true),(A.Node,true)] [(A.NoTree,false)])).bind asB) (fe:=λρ=>getV ρ 0) id λd m=>⟨by simp[kid_isO (hk.1 d m)],rfl⟩
     have c2:=comp1 (ds:=ds) (fT:=λx=>Res.ok true) (fe:=λρ=>(getV ρ 0).bind λx=>(isV [A.Leaf,A.Node] (Str.ofString "size") x).bind λy=>noE (g_size y.fst [y.snd])) (λd=>.int (tsz d)) λd m=>⟨rfl,by simp[u7T a2a (hk.1 d m)]⟩
     have c3:=comp1 (ds:=ds) (fT:=λx=>Res.ok true) (fe:=λρ=>(getV ρ 0).bind λx=>(isV [A.Leaf,A.Node] (Str.ofString "depth") x).bind λy=>noE (g_depth y.fst [y.snd])) (λd=>.int (tdp d)) λd m=>⟨rfl,by simp[u6b a1q (hk.1 d m)]⟩
     rw[List.map_id] at c1;have es:gSum [.lst (ds.map λd=>.int (tsz d))]=.ok (.int (sumT ds)):=by
      unfold gSum;simp only[u5l];rfl
     have em:gMaxD (.lst (ds.map λd=>.int (tdp d))) (.int 0)=.ok (.int (maxT ds)):=by
      unfold gMaxD maxT;simp only[u5l];cases ds<;>rfl
     simp[startI,startD,getI0,outI0,et,u7J,u1E n1,u1E n2,u1E n3,u1E n4,u1E n5,u1E n6,lk_ne n1.symm,u7j,items_t,u2t,rhoC10,u0u hz,c1,c2,c3,es,em,dAdd]
    ·cases h
   ·cases h
  | [],h=>cases h
  | [_],h=>cases h
  | _::_::_::_,h=>cases h⟩)
def u4k(h:PyData.strOk z=true):cmpD (.str z)=.ok (.str z):=by
 unfold cmpD;rw[show(D.str z).py=some (.str z) from rfl]
 simp[SeqAt.shaped,PyData.canLay0,h,PyData.depth]
def eqZ {a b:Str} (h:PyData.strOk a=true) (k:PyData.strOk b=true):dEqJ (.str a) (.str b)=.ok (.bl (decide (a=b))):=by
 show dEq _ _=_;unfold dEq;rw[u4k h,u4k k];show Res.ok (D.bl (a==b))=_;rfl
def eqI (i j:Int):dEqJ (.int i) (.int j)=.ok (.bl (decide (i=j))):=by
 show Res.ok (D.bl (i==j))=_;rfl
noncomputable def hereB:Md->Md->Bool
 | .leaf s,.leaf t=>decide (s=t)
 | .node n cs,.node n' cs'=>decide (n=n')&&decide (cs.length=cs'.length)
 | _,_=>false
def u9F{ρ:Rho} (h:ρ[i]?=some (some (.own (.l (l++[x]))))):(getW ρ i).bind (popW ρ i)=.ok (x,ρ.set i (some (.own (.l l)))):=by
 unfold getW;rw[h];show popW ρ i (OD.l,l++[x])=_;unfold popW;simp
def u4R:0<sz m:=by cases m<;>simp[sz]
theorem u2N:∀(a b:List Md),szs (a++b)=szs a+szs b
 | [],b=>by simp[szs]
 | m::a,b=>by simp[szs,u2N a b];omega
theorem u3e:∀ms:List Md,ms.length<=szs ms
 | []=>y0 _
 | m::ms=>by have:=u3e ms;have:=u4R (m:=m);simp[szs];omega
noncomputable def prs (A:Adr) (ps:List (Md×Md)):List D:=ps.map λp=>.tup [tr A p.1,tr A p.2]
noncomputable def szp:List (Md×Md)->Nat
 | []=>0
 | p::ps=>sz p.1+szp ps
def prs_app (A:Adr) (a b:List (Md×Md)):prs A (a++b)=prs A a++prs A b:=by simp[prs]
def u9B (A:Adr) (a:List (Md×Md)):(prs A a).length=a.length:=by simp[prs]
theorem u4S:∀a b,szp (a++b)=szp a+szp b
 | [],b=>by simp[szp]
 | p::a,b=>by simp[szp,u4S a b];omega
theorem u6G:∀ps,ps.length<=szp ps
 | []=>y0 _
 | p::ps=>by have:=u6G ps;have:=u4R (m:=p.1);simp[szp];omega
theorem u7v:∀(a b:List Md),szp (a.zip b)<=szs a
 | [],b=>by simp[szp]
 | x::a,[]=>by simp[szp]
 | x::a,y::b=>by have:=u7v a b;simp[szp,szs];omega
def szp_zip(h:hereB a b=true):szp ((kids a).zip (kids b))<sz a:=by
 have:=u7v (kids a) (kids b)
 cases a<;>simp[sz,kids,szp,szs] at *
 omega
theorem u9A (A:Adr):∀(a b:List Md),zipL (trs A a) (trs A b)=prs A (a.zip b)
 | [],b=>rfl
 | x::a,[]=>rfl
 | x::a,y::b=>by
  have:=u9A A a b
  unfold zipL prs at *
  simp[trs] at *
  exact this
def here_ne(h:hereB a b=false):a≠b:=λe=>by
 subst e;cases a<;>simp[hereB] at h
theorem u8Q:∀{a b:List Md},a.length=b.length->(a=b↔∀p∈a.zip b,p.1=p.2)
 | [],[],_=>by simp
 | x::a,y::b,h=>by
  have:=u8Q (a:=a) (b:=b) (by simpa using h)
  simp;rw[this]
  simp
 | [],_::_,h=>by simp at h
 | _::_,[],h=>by simp at h
def v2h(h:hereB a b=true):a=b↔∀p∈(kids a).zip (kids b),p.1=p.2:=by
 cases a with
 | leaf s =>
  cases b with
  | leaf t=>simp[hereB] at h;simp[kids,h]
  | node n cs=>simp[hereB] at h
 | node n cs =>
  cases b with
  | leaf t=>simp[hereB] at h
  | node n' cs' =>
   simp[hereB] at h;rw[<- u8Q (show(kids (.node n cs)).length=(kids (.node n' cs')).length from h.2)]
   simp[kids,h.1]
def Ok.kid{c:Md} (h:Ok m) (hc:c∈kids m):Ok c:=by
 cases h with
 | leaf=>cases hc
 | node h0 h1 hl h=>exact h c hc
def u3c {g_is_leaf:Addr->List D->Res D} (m_is_leaf:∀C∈[A.Leaf,A.Node],MCalleeF P w K mg base 1 C "is_leaf" ["self"] (g_is_leaf C)) (a0g:LeafM A g_is_leaf) (F:Fun K "are_alike_here" "are_alike_here" u1e f fd) (T:Txt K mg A):∃G,FnOk P w K mg base CX0 2 f fd ["one","other"] (spF K G)/\∀a b,Ok a->Ok b->G [tr A a,tr A b]=.ok (.bl (hereB a b)):=by
 refine⟨_,F.okT (k:=1) u2V (λcdv Ar outer s H E hr=>u0f (u0R (dt_w (u2v (u0D (u4w m_is_leaf hr (dv 0))) (u1K (u0D (u4w m_is_leaf hr (dv 1)))))) (u0h (u0m (u4h (u4w m_is_leaf hr (dv 0)) (u4h (u4w m_is_leaf hr (dv 1)) (u7o (u4g (u1u (hu64 hr)) (u1a T.f_sign (dv 0)) (u1a T.f_sign (dv 1)))))))) u0y)
  (u0h (u0m (u4h (u4g (u1u (hu64 hr)) (u1a T.f_number (dv 0)) (u1a T.f_number (dv 1))) (u7o (u4g (u1u (hu64 hr)) (d_B u0T T.z_len (by decide +kernel) (u0a (u1a T.f_children (dv 0)) u0b)) (d_B u0T T.z_len (by decide +kernel) (u0a (u1a T.f_children (dv 1)) u0b)))))))),?_⟩
 intro a b ha hb;simp[runT,startD,u1j a0g];cases ha with
 | leaf h l =>
  cases hb with
  | leaf h2 l2=>simp[isLeafB,u5o,eqZ h h2,hereB,u1j a0g]
  | node=>simp[isLeafB,hereB,u1j a0g]
 | @node n cs h0 h1 hl hc =>
  cases hb with
  | leaf h2 l2=>simp[isLeafB,hereB,u1j a0g]
  | @node n' cs' k0 k1 kl kc =>
   simp[isLeafB,u2h,u0Z,gLen,eqI,hereB,u4Q];by_cases c:n=n'<;>simp[c,u2h,u0Z,gLen,eqI,hereB,u4Q]
   omega
def v1C {a1o:FD} (a0q:Callee P w K mg base 2 "children_of" ["tree"] (spF K a1o)) {a1a:FD} (a0p:Callee P w K mg base 2 "are_alike_here" ["one","other"] (spF K a1a)) (a0x:∀m,a1o [tr A m]=.ok (.tup (trs A (kids m)))) (a0l:∀a b,Ok a->Ok b->a1a [tr A a,tr A b]=.ok (.bl (hereB a b))) (F:Fun K "alike" "alike" u6Q f fd) (T:Txt K mg A):∃G,FnOk P w K mg base CX0 3 f fd ["one","other"] (spF K G)/\∀a b,Ok a->Ok b->sz a<=10000->∃c,G [tr A a,tr A b]=.ok (.bl c)/\(c=true↔a=b):=by
 refine⟨_,F.okT (k:=2) u4V (λcdv Ar outer s H E hr=>u0f (u8e u4V.nd (u4N (u0a (v2t (u0a (dv 0) (u0a (dv 1) u0b))) u0b)))
  (u0f (u5p (u0o o_gt (d_B u0T T.z_len (by decide +kernel) (u0a (dv 2) u0b)) u0d) (u0f (dsx_n u4V.nd (x_pop 2))
   (u0f (u0R (u1x (u0D (d_fn a0p hr (u0a (d_ix x_ix (dv 3) u0d) (u0a (d_ix x_ix (dv 3) u0d) u0b))))) (u0h (u0m d_bl)) u0y)
   (u0h (v3h 2 (DN.de (dn_zip rfl T.z_list T.z_zip (u0a (d_fn a0q hr (u0a (d_ix x_ix (dv 3) u0d) u0b)) (u0a (d_fn a0q hr (u0a (d_ix x_ix (dv 3) u0d) u0b)) u0b)))))))))
  (u0h (u0m d_bl)))),?_⟩
 intro a b ha hb hz;simp[runT,startD];generalize hI:wD _ _ _=o;have q:(∃ρ,o=.nx ρ/\a=b)\/(o=.rt (.bl false)/\a≠b):=by
  rw[<- hI];refine u8Y (S:=λn ρ=>∃todo x,ρ=[some (.val (tr A a)),some (.val (tr A b)),some (.own (.l (prs A todo))),x]/\(a=b↔∀p∈todo,p.1=p.2)/\(∀p∈todo,Ok p.1/\Ok p.2)/\szp todo=n/\n<=10000)
   (Q:=λo=>(∃ρ,o=.nx ρ/\a=b)\/(o=.rt (.bl false)/\a≠b)) (λo h=>by rcases h with⟨ρ,e,_⟩|⟨e,_⟩<;>(rw[e];trivial)) (λn ρ h=>?_) (sz a) _ ⟨[(a,b)],none,rfl,by simp,by simp;exact⟨ha,hb⟩,by simp[szp],hz⟩
  obtain⟨todo,x,rfl,hab,hok,hn,hl⟩:=h;rcases List.eq_nil_or_concat todo with rfl|⟨todo,p,rfl⟩
  ·left
   refine⟨by simp[gLen,prs],.inl ⟨_,rfl,hab.mpr λp h=>nomatch h⟩⟩
  ·right
   obtain⟨p1,p2⟩:=p;rw[List.concat_eq_append] at *
   have ok:=hok (p1,p2) (by simp)
   have pw:=u9F (ρ:=[some (.val (tr A a)),some (.val (tr A b)),some (.own (.l (prs A (todo++[(p1,p2)])))),x]) (i:=2) (l:=prs A todo) (x:=.tup [tr A p1,tr A p2]) (by simp[prs])
   have i0:dIx (.tup [tr A p1,tr A p2]) (.int 0)=.ok (tr A p1):=rfl;have i1:dIx (.tup [tr A p1,tr A p2]) (.int 1)=.ok (tr A p2):=rfl;refine⟨by simp[gLen,prs],?_⟩
   rw[pw];cases hh:hereB p1 p2 with
   | false =>
    right;refine⟨_,by simp[i0,i1,a0l _ _ ok.1 ok.2,hh],.inr ⟨rfl,λe=>?_⟩⟩
    exact here_ne hh (hab.mp e (p1,p2) (by simp))
   | true =>
    left;have hs:=u4S todo [(p1,p2)]
    have hz2:=szp_zip hh;have hk:=v2h hh;have l1:=u6G todo;have l2:=u6G ((kids p1).zip (kids p2));simp[szp] at hs;refine⟨_,szp (todo++(kids p1).zip (kids p2)),by rw[u4S];omega,by simp[i0,i1,a0l _ _ ok.1 ok.2,hh,a0x,zipN,zip2,rowOf,u9A];rw[if_pos (y9 (show _<=20000 by rw[u9B,u9B];omega) (by decide))],todo++(kids p1).zip (kids p2),_,by simp[prs_app];exact rfl,?_,λp m=>?_,rfl,by rw[u4S];omega⟩
    ·rw [hab]
     constructor
     ·intro h p m
      rcases v6.mp m with m|m
      ·exact h p (by simp[m])
      ·exact hk.mp (h (p1,p2) (by simp)) p m
     ·intro h p m
      rcases v6.mp m with m|m
      ·exact h p (by simp[m])
      ·obtain rfl:=z0H.mp m
       exact hk.mpr λp m=>h p (by simp[m])
    ·rcases v6.mp m with m | m
     ·exact hok p (by simp[m])
     ·obtain ⟨x1,x2⟩:=p
      have m:=List.of_mem_zip m;exact⟨ok.1.kid m.1,ok.2.kid m.2⟩
 rcases q with⟨ρ,rfl,e⟩|⟨rfl,e⟩
 ·exact .inr (by simp[e])
 ·exact .inl (by simp[e])
def v0h(h:l[i]?=some d):dIx (.lst l) (.int (i:Int))=.ok d:=by
 have hl:=(w9.mp h).1;show(match atI l (i:Int) with|some d=>Res.ok d|none=>.bad)=_
 have:atI l (i:Int)=some d:=by
  unfold atI ixN;rw[if_pos (by omega),if_pos (by omega)]
  simpa using h
 rw[this]
abbrev dN (n:Nat):D:=.int (n:Int)
def u7X (n:Nat):(intL 0 n).length=n:=by simp[intL]
def ix_m{c:α->D}{rs:List α} (h:i<rs.length):dIx (.lst (rs.map c)) (.int (i:Int))=.ok (c rs[i]):=v0h (by rw[v7,u3 h];rfl)
def v3b{c:α->D}{rs:List α} (h:i<rs.length):∃x,x∈rs/\dIx (.lst (rs.map c)) (.int (i:Int))=.ok (c x):=⟨rs[i],z2J h,ix_m h⟩
def u4v (x y:D) (l:List D):dIx (.lst (x::y::l)) (.int 1)=.ok y:=v0h (i:=1) rfl
def ixl_2 (x y z:D) (l:List D):dIx (.lst (x::y::z::l)) (.int 2)=.ok z:=v0h (i:=2) rfl
def modI (a:Int) {b:Nat} (h:0<b):∃m:Nat,a%(b:Int)=(m:Int)/\m<b:=by
 have h1:=Int.emod_nonneg a (show(b:Int)≠0 by omega)
 have h2:=Int.emod_lt_of_pos a (show(0:Int)<(b:Int) by omega)
 exact⟨(a%b).toNat,by omega,by omega⟩
def modZ (a:Int) {b:Int} (h:0<b):∃m:Nat,a%b=(m:Int)/\(m:Int)<b:=by
 have h1:=Int.emod_nonneg a (show b≠0 by omega)
 have h2:=Int.emod_lt_of_pos a h;exact⟨(a%b).toNat,by omega,by omega⟩
@[simp] theorem u0J (i j:Int):dMul (.int i) (.int j)=gd (CMul i j) (.ok (.int (i*j))):=Eq.trans rfl rfl
@[simp] theorem add_ii (i j:Int):dAdd (.int i) (.int j)=.ok (.int (i+j)):=Eq.trans rfl rfl
def u1v{i:Int} (h:0<j):dMod (.int i) (.int j)=.ok (.int (i%j)):=if_pos h
def u8h{i:Int} (h:0<j) (h2:j<2^64):dDiv (.int i) (.int j)=.ok (.int (i / j)):=if_pos ⟨h,h2⟩
def v1y(h:n<=1000):rng1 [.int (n:Int)]=.ok (intL 0 n):=by
 show gd _ _=_;rw[u0u (by omega),Int.toNat_natCast]
def bindN(a:α) (f:α->Res β):(Res.ok a).bind f=f a:=Eq.trans rfl rfl
def goN(a:α) (ρ:Rho) (k:α->Out):(Res.ok a).go ρ k=k a:=Eq.trans rfl rfl
def thenN (ρ:Rho) (f:Rho->Out):(Out.nx ρ).andThen f=f ρ:=Eq.trans rfl rfl
def thenMN (ρ:Rho) (g:Rho->OutM):thenM (.nx ρ) g=g ρ:=Eq.trans rfl rfl
def gmN(a:α) (k:α->OutM):(Res.ok a).gm k=k a:=Eq.trans rfl rfl
def u3v (x:D) (l:List D):dIx (.lst (x::l)) (.int 0)=.ok x:=v0h (i:=0) rfl
def skolem  [Inhabited β] {P:α->Prop}{Q:α->β->Prop} (h:∀x,P x->∃y,Q x y):∃f:α->β,∀x,P x->Q x (f x):=by
 classical
 refine⟨λx=>if h':∃y,Q x y then h'.choose else default,λx px=>?_⟩
 have h':=h x px;simp only[dif_pos h'];exact h'.choose_spec
abbrev scr (ns:List Int):D:=.lst (ns.map D.int)
@[simp] theorem toD_p (a:Addr) (o:OD):(OD.p a o).toD=o.toD:=rfl
@[simp] theorem getP_zero (a:Addr) (ds:List D) (ρ:Rho):getP (some (.own (.p a (.l ds)))::ρ) 0=.ok (a,ds):=rfl
abbrev stm (a c:Int) (k:Nat):OD:=.l [.int a,.int c,dN k]
def Draw (G:List Sl->Res (D×List Sl)):Prop:=∀(a c:Int) (k b:Nat),0<b->b<1000->k<1000->∃(m:Nat) (a':Int),m<b/\G [.own (stm a c k),.val (dN b)]=.ok (dN m,[.own (stm a' c (k+1)),.val (dN b)])
noncomputable def SIGNS:List Str:=["a","b","+","*","(",")","id","0","12","[]","<=","z9z9z9","?","if"]
def u7A:∀x∈SIGNS,PyData.strOk x=true/\x.length<=1000:=by decide +kernel
def Sign (G:List Sl->Res (D×List Sl)):Prop:=∀(a c:Int) (k:Nat),k<1000->∃(s:Str) (a':Int),s∈SIGNS/\G [.own (stm a c k)]=.ok (.str s,[.own (stm a' c (k+1))])
def u6U (F:Fun K "_law_stir" "_law_stir" u2W f fd) (T:Txt K mg A):∃G,FnOk P w K mg base CX0 1 f fd ["_law_cell_here","_law_k"] (spF K G)/\∀(c:Int) (k:Nat),k<=1000->∃n:Int,G [.int c,dN k]=.ok (.int n):=by
 refine⟨_,F.okT (k:=0) u2n (λcdv Ar outer s H E hr=>u0f (ds_n u2n.nd (d_op u3d (d_op u0I (d_op u0I (d_op u9W (d_op u3d (dv 0) u0d) u0d) (d_op u9W u0d (dv 1))) u0d) u0d))
  (u0f (ds_n u2n.nd (d_op u3d (d_op u9W (dv 2) (dv 2)) u0d))
  (u0h (u0m (d_op u3d (d_op u0I (d_op u0I (d_op u9W (dv 2) (dv 2)) (d_op u9W u0d (dv 2))) u0d) u0d))))),?_⟩
 intro c k hk;obtain⟨m,e,hm⟩:=modZ c (b:=2147483647) (by omega)
 obtain⟨m2,e2,hm2⟩:=modZ ((m:Int)*48271+69621*(k:Int)+7) (b:=2147483647) (by omega)
 obtain⟨m3,e3,hm3⟩:=modZ ((m2:Int)*m2) (b:=2147483629) (by omega)
 have c1:CMul (m:Int) 48271:=.inr ⟨by omega,by omega⟩
 have c2:CMul 69621 (k:Int):=.inl ⟨by omega,by omega⟩
 have c3:CMul (m2:Int) m2:=.inr ⟨by omega,by omega⟩
 have c4:CMul (m3:Int) m3:=.inr ⟨by omega,by omega⟩
 have c5:CMul 16807 (m3:Int):=.inl ⟨by omega,by omega⟩
 refine⟨((m3:Int)*m3+16807*m3+11)%2147483587,?_⟩;have r1:dMod (.int c) (.int 2147483647)=.ok (.int m):=by rw[u1v (by omega),e]
 have r2:dMod (.int ((m:Int)*48271+69621*(k:Int)+7)) (.int 2147483647)=.ok (.int m2):=by rw[u1v (by omega),e2]
 have r3:dMod (.int ((m2:Int)*m2)) (.int 2147483629)=.ok (.int m3):=by rw[u1v (by omega),e3]
 have r4:dMod (.int ((m3:Int)*m3+16807*m3+11)) (.int 2147483587)=.ok (.int (((m3:Int)*m3+16807*m3+11)%2147483587)):=u1v (by omega)
 have s1:dMul (.int m) (.int 48271)=.ok (.int (m*48271)):=by rw[u0J,u0u c1]
 have s2:dMul (.int 69621) (.int k)=.ok (.int (69621*k)):=by rw[u0J,u0u c2]
 have s3:dMul (.int m2) (.int m2)=.ok (.int (m2*m2)):=by rw[u0J,u0u c3]
 have s4:dMul (.int m3) (.int m3)=.ok (.int (m3*m3)):=by rw[u0J,u0u c4]
 have s5:dMul (.int 16807) (.int m3)=.ok (.int (16807*m3)):=by rw[u0J,u0u c5]
 simp[runT,startD,r1,r2,r3,r4,s1,s2,s3,s4,s5,-u2x,-u0J,-Res.bind_ok,-L2.go_ok,-Out.then_nx,bindN,goN,thenN]
def u7a (F:Fun K "_law_cell" "_law_cell" u3b f fd) (T:Txt K mg A):∃G,FnOk P w K mg base CX0 1 f fd ["_law_script","_law_k"] (spF K G)/\∀(ns:List Int) (k:Nat),∃c:Int,G [scr ns,dN k]=.ok (.int c):=by
 refine⟨_,F.okT (k:=0) u6O (λcdv Ar outer s H E hr=>u0f (u0R (u0o o_lt (dv 1) (d_B u0T T.z_len (by decide +kernel) (u0a (dv 0) u0b))) (u0h (u0m (d_ix x_ix (dv 0) (dv 1)))) u0y)
  (u0h (u0m u0d))),?_⟩
 intro ns k;by_cases h:k<ns.length
 ·have h':(k:Int)<ns.length:=by omega
  exact⟨ns[k],by simp[runT,startD,gLen,h,h',ix_m h]⟩
 ·have h':¬ (k:Int)<ns.length:=by omega
  exact⟨0,by simp[runT,startD,gLen,h,h']⟩
def u5c (F:Fun K "_law_stream" "_law_stream" u1S f fd) (T:Txt K mg A):∃G,FnOk P w K mg base (CXe P w) 1 f fd ["_law_cell_here"] (spN K G)/\∀c:Int,G [.int c]=.ok [.int (c - 1000000000000000000),.int c,dN 0]:=by
 refine⟨_,F.okN (k:=0) u4U (λcdv Ar outer s H E hr hq=>dr_ret (u4N (u0a (d_op u7d (dv 0) (d_op o_pow u0d u0d)) (u0a (dv 0) (u0a u0d u0b))))),?_⟩
 intro c;have cp:CPow 10 18:=by decide
 have r0:dPow (.int 10) (.int 18)=.ok (.int 1000000000000000000):=by
  show gd _ _=_;rw[u0u cp];rfl
 simp[L2.runN,startD,retN,r0,-u2x]
def u6Y {a1j:FD} (a1g:Callee P w K mg base 1 "_law_stir" ["_law_cell_here","_law_k"] (spF K a1j)) (a2u:∀(c:Int) (k:Nat),k<=1000->∃n:Int,a1j [.int c,dN k]=.ok (.int n)) (F:Fun K "_law_draw" "_law_draw" u2Z f fd) (T:Txt K mg A):∃G,FnOk P w K mg base CX0 2 f fd ["_law_left","_law_many"] (spM K G)/\Draw G:=by
 refine⟨_,F.okM (k:=1) u3N (λcdv Ar outer s H E hr=>u1Y (u5q 0 u0d (d_op u0I (d_ix x_ix (dv 0) u0d) u0d))
  (dm_if (u0o o_ge (d_ix x_ix (dv 0) u0d) (d_op o_pow u0d u0d)) (u1Y (ds_n u3N.nd (DE.flat (d_op u3d (d_ix x_ix (dv 0) u0d) (dv 1))))
   (u1Y (u5q 0 u0d (d_op u8A (d_ix x_ix (dv 0) u0d) (dv 1)))
   (u6m (u1I (xq:=xqF) (dv 2)))))
  (u6m (u1I (xq:=xqF) (DE.flat (d_op u3d (d_op u8A (d_fn a1g hr (u0a (d_ix x_ix (dv 0) u0d) (u0a (d_ix x_ix (dv 0) u0d) u0b))) u0d) (dv 1))))))),?_⟩
 intro a c k b hb hb2 hk;have cp:CPow 10 18:=by decide
 have r0:dPow (.int 10) (.int 18)=.ok (.int 1000000000000000000):=by
  show gd _ _=_;rw[u0u cp];rfl
 have hb':(0:Int)<b:=by omega
 by_cases hc:(1000000000000000000:Int)<=c
 ·obtain ⟨m,e,hm⟩:=modI a (b:=b) hb
  have r1:dMod (.int a) (.int b)=.ok (.int m):=by rw[u1v hb',e]
  have r2:dDiv (.int a) (.int b)=.ok (.int (a / b)):=by rw[u8h hb' (by omega)]
  refine⟨m,a / b,hm,u7k λA=>?_⟩
  simp[runM,pinS,unS,u3v,u4v,ixl_2,setP,ixN,flatD,flatC,hc,r0,r1,r2,-u2x]
 ·obtain ⟨t,et⟩:=a2u c (k+1) (by omega)
  obtain⟨m,e,hm⟩:=modI (t / 8) (b:=b) hb;have r1:dMod (.int (t / 8)) (.int b)=.ok (.int m):=by rw[u1v hb',e]
  have r2:dDiv (.int t) (.int 8)=.ok (.int (t / 8)):=by rw[u8h (by omega) (by omega)]
  have et:a1j [.int c,.int ((k:Int)+1)]=.ok (.int t):=et;refine⟨m,a,hm,u7k λA=>?_⟩
  simp[runM,pinS,unS,u3v,u4v,ixl_2,setP,ixN,flatD,flatC,hc,r0,et,r1,r2,-u2x]
def u6V {g_law_draw:List Sl->Res (D×List Sl)} (a0e:Callee P w K mg base 2 "_law_draw" ["_law_left","_law_many"] (spM K g_law_draw)) (a1m:Draw g_law_draw) (F:Fun K "_law_sign" "_law_sign" u2X f fd) (T:Txt K mg A):∃G,FnOk P w K mg base CX0 3 f fd ["_law_left"] (spM K G)/\Sign G:=by
 refine⟨_,F.okM (k:=2) u3L (λcdv Ar outer s H E hr=>u1Y (ds_n u3L.nd (u4x (u0a u0r (u0a u0r (u0a u0r (u0a u0r (u0a u0r (u0a u0r (u0a u0r (u0a u0r (u0a u0r (u0a u0r (u0a u0r (u0a u0r (u0a u0r (u0a u0r u0b))))))))))))))))
  (u6m (x_ixX x_ix (u1I (xq:=xqF) (dv 1)) (x_fn a0e hr (u3m 0 (u1y (u1I (xq:=xqF) u0d) u2y)))))),?_⟩
 intro a c k hk;obtain⟨m,a',hm,e⟩:=a1m a c k 14 (by omega) (by omega) hk
 have e:g_law_draw [.own (stm a c k),.val (.int 14)]=.ok (dN m,[.own (stm a' c (k+1)),.val (.int 14)]):=e;have ex:dIx (.lst [.str "a",.str "b",.str "+",.str "*",.str "(",.str ")",.str "id",.str "0",.str "12",.str "[]",.str "<=",.str "z9z9z9",.str "?",.str "if"]) (dN m)=.ok (.str SIGNS[m]):=v0h (by
  rw[show([.str "a",.str "b",.str "+",.str "*",.str "(",.str ")",.str "id",.str "0",.str "12",.str "[]",.str "<=",.str "z9z9z9",.str "?",.str "if"]:List D)=SIGNS.map D.str from rfl,v7,u3 (show m<SIGNS.length from hm)]
  rfl)
 refine⟨SIGNS[m],a',z2J _,u7k λA=>?_⟩
 simp[runM,pinS,unS,u1k,isOwnR,slOf,slAll,agO,unp,putB,repO,e,ex,-u2x,-u0J,-Res.bind_ok,-L2.go_ok,-Out.then_nx,bindN,goN,thenN,-u2b,-u8G,thenMN,gmN]
inductive Gd:Md->Prop
 | leaf {s:Str} (h:s∈SIGNS):Gd (.leaf s)
 | node {n:Int}{cs:List Md} (h0:0<=n) (h1:n<20) (hl:cs.length<=4) (hc:∀c∈cs,Gd c):Gd (.node n cs)
theorem Gd.ok:∀{m:Md},Gd m->Ok m
 | _,.leaf h=>.leaf (u7A _ h).1 (u7A _ h).2
 | _,.node h0 h1 hl hc=>.node h0 (by omega) (by omega) λc m=>(hc c m).ok
def Grow (d:Nat) (G:List Sl->Res (D×List Sl)):Prop:=∀(a c:Int) (k r e:Nat),e<d->1<=r->k+4*r<=900->∃(m:Md) (a':Int) (k' r':Nat),Gd m/\dp m<=e+1/\sz m+r'<=r/\k'+4*r'<=k+4*r /\
 G [.own (stm a c k),.val (dN e),.own (.l [dN r])]=.ok (toD m,[.own (stm a' c k'),.val (dN e),.own (.l [dN r'])])
@[simp] theorem getP_succ (x:Option Sl) (ρ:Rho) (i:Nat):getP (x::ρ) (i+1)=getP ρ i:=rfl
def u9Q (o:OD) (ρ:Rho):isOwnR (some (.own o)::ρ) 0=true:=rfl
def u9P (x:Option Sl) (ρ:Rho) (i:Nat):isOwnR (x::ρ) (i+1)=isOwnR ρ i:=rfl
abbrev GS:=Int×Nat×Nat
noncomputable def loopG (Gr:GS->Md×GS):Nat->GS->List Md×GS
 | 0,s=>([],s)
 | n+1,s=>if 0<s.2.2 then ((Gr s).1::(loopG Gr n (Gr s).2).1,(loopG Gr n (Gr s).2).2) else loopG Gr n s
structure GrOk (e:Nat) (Gr:GS->Md×GS):Prop where
 ok:∀s:GS,1<=s.2.2->s.2.1+4*s.2.2<=900->Gd (Gr s).1/\dp (Gr s).1<=e+1/\sz (Gr s).1+(Gr s).2.2.2<=s.2.2/\(Gr s).2.2.1+4*(Gr s).2.2.2<=s.2.1+4*s.2.2
set_option tactic.hygienic true in
theorem u7h{Gr:GS->Md×GS} (h:GrOk e Gr):∀(n:Nat) (s:GS),s.2.1+4*s.2.2<=900->(∀m∈(loopG Gr n s).1,Gd m)/\dps (loopG Gr n s).1<=e+1/\szs (loopG Gr n s).1+(loopG Gr n s).2.2.2<=s.2.2/\(loopG Gr n s).2.2.1+4*(loopG Gr n s).2.2.2<=s.2.1+4*s.2.2/\(loopG Gr n s).1.length<=n
 | 0,s,_=>by simp[loopG,dps,szs]
 | n+1,s,hs=>by
  unfold loopG;split
  ·rename_i c
   obtain⟨h1,h2,h3,h4⟩:=h.ok s c hs;obtain⟨i1,i2,i3,i4,i5⟩:=u7h h n (Gr s).2 (by omega)
   refine⟨λm hm=>?_,?_,?_,by dsimp only;omega,by simp;exact i5⟩
   ·rcases z7.mp hm with rfl | hm
    ·exact h1
    ·exact i1 m hm
   ·simp only[dps];omega
   ·simp only[szs];omega
  ·obtain ⟨i1,i2,i3,i4,i5⟩:=u7h h n s hs
   exact⟨i1,i2,i3,i4,by omega⟩
noncomputable abbrev gRho (A:Nat->Addr) (c:Int) (e:Nat) (s:GS) (cs:List Md) (num:D) (x:Option Sl):Rho:=[some (.own (.p (A 0) (stm s.1 c s.2.1))),some (.val (dN e)),some (.own (.p (A 2) (.l [dN s.2.2]))),some (.own (.l (toDs cs))),some (.val num),x]
def v1j (a b:List Md):toDs (a++b)=toDs a++toDs b:=by simp[u2a]
theorem u4d{g:D->Rho->Res Rho}{A:Nat->Addr}{num:D}{Gr:GS->Md×GS}{e1:Nat} (ok:GrOk e1 Gr) (hg:∀d s cs x,g d (gRho A c e s cs num x)=.ok (gRho A c e s cs num (some (.val d))))
  (h1:∀s cs x,0<s.2.2->s.2.1+4*s.2.2<=900->cs.length<=900->tb (gRho A c e s cs num x)=.nx (gRho A c e (Gr s).2 (cs++[(Gr s).1]) num x)) (h0:∀s cs x,s.2.2=0->tb (gRho A c e s cs num x)=.nx (gRho A c e s cs num x)) :
  ∀(ds:List D) (s:GS) (cs:List Md) (x:Option Sl),s.2.1+4*s.2.2<=900->cs.length+ds.length<=900->∃x',forD g tb ds (gRho A c e s cs num x)=.nx (gRho A c e (loopG Gr ds.length s).2 (cs++(loopG Gr ds.length s).1) num x')
 | [],s,cs,x,_,_=>⟨x,by simp[forD,loopG]⟩
 | d::ds,s,cs,x,hs,hl=>by
  simp only[z0D] at hl;by_cases c0:0<s.2.2
  ·obtain ⟨_,_,o3,o4⟩:=ok.ok s c0 hs
   obtain⟨x',ih⟩:=u4d ok hg h1 h0 ds (Gr s).2 (cs++[(Gr s).1]) (some (.val d)) (by omega) (by simp;omega)
   refine⟨x',?_⟩;rw[forD,hg,u4J,go_ok,h1 s cs (some (.val d)) c0 hs (by omega)]
   show forD g tb ds _=_;rw[ih];simp[loopG,c0]
  ·obtain ⟨x',ih⟩:=u4d ok hg h1 h0 ds s cs (some (.val d)) hs (by omega)
   refine⟨x',?_⟩;rw[forD,hg,u4J,go_ok,h0 s cs (some (.val d)) (by omega)]
   show forD g tb ds _=_;rw[ih];simp[loopG,c0]
def fix_g (A:Nat->Addr) (c:Int) (e:Nat) (s:GS) (cs:List Md) (num:D) (x:Option Sl):fix1 3 (gRho A c e s cs num x)=[some (.own (.p (A 0) (stm s.1 c s.2.1))),some (.val (dN e)),some (.own (.p (A 2) (.l [dN s.2.2]))),some (.val (.lst (toDs cs))),some (.val num),x]:=rfl
noncomputable instance:Inhabited Md:=⟨.leaf ""⟩
def u5O(h3:3<=k) {g_law_draw:List Sl->Res (D×List Sl)} (a0e:Callee P w K mg base 2 "_law_draw" ["_law_left","_law_many"] (spM K g_law_draw)) {g_law_sign:List Sl->Res (D×List Sl)} (a1h:Callee P w K mg base 3 "_law_sign" ["_law_left"] (spM K g_law_sign)) {g_law_grown:List Sl->Res (D×List Sl)} (a0o:Callee P w K mg base k "_law_grown" ["_law_left","_law_deep_here","_law_room"] (spM K g_law_grown)) (a1m:Draw g_law_draw) (a1v:Sign g_law_sign) {d:Nat} (a1x:Grow d g_law_grown) (F:Fun K "_law_grown" "_law_grown" u2s f fd) (T:Txt K mg A):∃G,FnOk P w K mg base CX0 (k+1) f fd ["_law_left","_law_deep_here","_law_room"] (spM K G)/\Grow (d+1) G:=by
 refine⟨_,F.okM (k:=k) u1p (λcdv Ar outer s H E hr=>u1Y (u5q 2 u0d (d_op u7d (d_ix x_ix (dv 2) u0d) u0d))
  (dmx_if (xt_w (xw_or (u8R (xq:=xqF) (u0o (u1u (hu64 hr)) (dv 1) u0d)) (xw_or (u8R (xq:=xqF) (u0o o_lt (d_ix x_ix (dv 2) u0d) u0d)) (xw_or1 (xt_cmp (u1u (hu64 hr)) (x_fn a0e (hk:=by omega) hr (u3m 0 (u1y (u1I (xq:=xqF) u0d) u2y))) (u1I (xq:=xqF) u0d)))))) (u6m (x_fn a1h (hk:=by omega) hr (u3m 0 u2y)))
  (u1Y (u8e u1p.nd (u4N u0b))
  (u1Y (dsx_n u1p.nd (x_ixX x_ix (DXN.de (xn_lst (u1y (x_fn a0e (hk:=by omega) hr (u3m 0 (u1y (u1I (xq:=xqF) u0d) u2y))) (u1y (x_fn a0e (hk:=by omega) hr (u3m 0 (u1y (u1I (xq:=xqF) u0d) u2y))) u2y)))) (u1I (xq:=xqF) (DE.flat (d_op u3d (d_ix x_ix (dv 0) u0d) u0d)))))
  (u1Y (dsx_for rfl (u8S T.z_range (u1y (x_fn a0e (hk:=by omega) hr (u3m 0 (u1y (u1I (xq:=xqF) u0d) u2y))) u2y)) (dg_n u1p.nd)
  (u0h (u0R (u0o o_gt (d_ix x_ix (dv 2) u0d) u0d) (u0h (dsx_app 3 (x_fn a0o (hk:=by omega) hr (u3m 0 (u1y (u1I (xq:=xqF) (d_op u7d (dv 1) u0d)) (u3m 2 u2y)))))) u0y)))
  (dm_fix 3 (u6m (u1I (xq:=xqF) (v2t (u0a (dv 4) (u0a (dv 3) u0b))))))))))),?_⟩
 intro a c k0 r e he hr1 hb;obtain⟨r,rfl⟩:∃r1,r=r1+1:=⟨r - 1,by omega⟩
 have s1:dSub (dN (r+1)) (.int 1)=.ok (dN r):=by
  show Res.ok (D.int (((r+1:Nat):Int) - 1))=_;congr 2;omega
 by_cases c0:e=0
 ·subst c0
  obtain⟨s,a',hs,es⟩:=a1v a c k0 (by omega)
  refine⟨.leaf s,a',k0+1,r,.leaf hs,by simp[dp],by simp[sz];omega,by omega,u7k λA=>?_⟩
  have q0:dEqJ (dN 0) (.int 0)=.ok (.bl true):=eqI _ _;simp[runM,pinS,unS,u3v,setP,ixN,flatD,flatC,u9Q,u9P,slOf,slAll,agO,unp,putB,repO,s1,q0,es,toD,-u2x,-u0J,-Res.bind_ok,-L2.go_ok,-Out.then_nx,bindN,goN,thenN,-u2b,-u8G,thenMN,gmN]
 ·have q0:dEqJ (dN e) (.int 0)=.ok (.bl false):=by rw [eqI];simp;omega
  by_cases c1:r=0
  ·subst c1
   obtain⟨s,a',hs,es⟩:=a1v a c k0 (by omega)
   refine⟨.leaf s,a',k0+1,0,.leaf hs,by simp[dp],by simp[sz],by omega,u7k λA=>?_⟩
   simp[runM,pinS,unS,u3v,setP,ixN,flatD,flatC,u9Q,u9P,slOf,slAll,agO,unp,putB,repO,s1,q0,es,toD,-u2x,-u0J,-Res.bind_ok,-L2.go_ok,-Out.then_nx,bindN,goN,thenN,-u2b,-u8G,thenMN,gmN]
  ·have hr:¬ ((r:Int)<1):=by omega
   obtain⟨m1,a1,hm1,e1⟩:=a1m a c k0 5 (by omega) (by omega) (by omega)
   have e1:g_law_draw [.own (stm a c k0),.val (.int 5)]=.ok (dN m1,[.own (stm a1 c (k0+1)),.val (.int 5)]):=e1;by_cases c2:m1=0
   ·subst c2
    obtain⟨s,a',hs,es⟩:=a1v a1 c (k0+1) (by omega)
    have q1:dEqJ (dN 0) (.int 0)=.ok (.bl true):=eqI _ _;refine⟨.leaf s,a',k0+1+1,r,.leaf hs,by simp[dp],by simp[sz];omega,by omega,u7k λA=>?_⟩
    simp[runM,pinS,unS,u3v,setP,ixN,flatD,flatC,u9Q,u9P,slOf,slAll,agO,unp,putB,repO,s1,q0,q1,hr,e1,es,toD,-u2x,-u0J,-Res.bind_ok,-L2.go_ok,-Out.then_nx,bindN,goN,thenN,-u2b,-u8G,thenMN,gmN]
   ·have q1:dEqJ (dN m1) (.int 0)=.ok (.bl false):=by rw [eqI];simp;omega
    obtain⟨n1,a2,hn1,e2⟩:=a1m a1 c (k0+1) 3 (by omega) (by omega) (by omega)
    have e2:g_law_draw [.own (stm a1 c (k0+1)),.val (.int 3)]=.ok (dN n1,[.own (stm a2 c (k0+1+1)),.val (.int 3)]):=e2;obtain⟨n2,a3,hn2,e3⟩:=a1m a2 c (k0+1+1) 20 (by omega) (by omega) (by omega)
    have e3:g_law_draw [.own (stm a2 c (k0+1+1)),.val (.int 20)]=.ok (dN n2,[.own (stm a3 c (k0+1+1+1)),.val (.int 20)]):=e3;obtain⟨n3,a4,hn3,e4⟩:=a1m a3 c (k0+1+1+1) 5 (by omega) (by omega) (by omega)
    have e4:g_law_draw [.own (stm a3 c (k0+1+1+1)),.val (.int 5)]=.ok (dN n3,[.own (stm a4 c (k0+1+1+1+1)),.val (.int 5)]):=e4;obtain⟨m4,em,hm4⟩:=modI ((k0+1+1+1:Nat):Int) (b:=2) (by omega)
    have r1:dMod (dN (k0+1+1+1)) (.int 2)=.ok (dN m4):=by
     show dMod (.int ((k0+1+1+1:Nat):Int)) (.int 2)=_;rw[u1v (by omega)]
     exact congrArg (λz=>Res.ok (D.int z)) em
    obtain⟨num,hnum,ex⟩:∃num:Nat,num<20/\dIx (.lst [dN n1,dN n2]) (dN m4)=.ok (dN num):=by
     match m4,hm4 with
     | 0,_=>exact⟨n1,by omega,rfl⟩
     | 1,_=>exact⟨n2,by omega,rfl⟩
    obtain⟨e,rfl⟩:∃e',e=e'+1:=⟨e - 1,by omega⟩
    obtain⟨Gr,hG⟩:=skolem (α:=GS) (β:=Md×GS) (P:=λs=>1<=s.2.2/\s.2.1+4*s.2.2<=900) (Q:=λs y=>Gd y.1/\dp y.1<=e+1/\sz y.1+y.2.2.2<=s.2.2/\y.2.2.1+4*y.2.2.2<=s.2.1+4*s.2.2/\g_law_grown [.own (stm s.1 c s.2.1),.val (dN e),.own (.l [dN s.2.2])]=.ok (toD y.1,[.own (stm y.2.1 c y.2.2.1),.val (dN e),.own (.l [dN y.2.2.2])])) (λs h=>by
     obtain⟨m,a',k',r',h1,h2,h3,h4,h5⟩:=a1x s.1 c s.2.1 s.2.2 e (by omega) h.1 h.2
     exact⟨(m,a',k',r'),h1,h2,h3,h4,h5⟩)
    have ok:GrOk e Gr:=⟨λs h1 h2=>by obtain⟨x1,x2,x3,x4,_⟩:=hG s ⟨h1,h2⟩;exact⟨x1,x2,x3,x4⟩⟩
    obtain⟨l1,l2,l3,l4,l5⟩:=u7h ok n3 (a4,k0+1+1+1+1,r) (by dsimp only;omega)
    dsimp only at l3 l4;refine⟨.node num (loopG Gr n3 (a4,k0+1+1+1+1,r)).1,(loopG Gr n3 (a4,k0+1+1+1+1,r)).2.1,(loopG Gr n3 (a4,k0+1+1+1+1,r)).2.2.1,(loopG Gr n3 (a4,k0+1+1+1+1,r)).2.2.2,.node (by omega) (by omega) (by omega) l1,by simp only[dp];omega,by simp only[sz];omega,by omega,u7k λA=>?_⟩
    simp[runM,pinS,unS,u3v,ixl_2,setP,ixN,flatD,flatC,u9Q,u9P,slOf,slAll,agO,agv,unp,putB,repO,s1,q0,q1,hr,e1,e2,e3,e4,ex,r1,v1y (show n3<=1000 by omega),-u2x,-u0J,-Res.bind_ok,-L2.go_ok,-Out.then_nx,bindN,goN,thenN,-u2b,-u8G,thenMN,gmN]
    generalize hI:forD _ _ _ _=o;obtain⟨x5,e5⟩:∃x5,o=.nx (gRho A c (e+1) (loopG Gr n3 (a4,k0+1+1+1+1,r)).2 (loopG Gr n3 (a4,k0+1+1+1+1,r)).1 (dN num) x5):=by
     rw[<- hI];have key:=λ{g:D->Rho->Res Rho}{tb:Rho->Out} hg h1 h0=>u4d (g:=g) (tb:=tb) (A:=A) (c:=c) (e:=e+1) (num:=dN num) ok hg h1 h0 (intL 0 n3) (a4,k0+1+1+1+1,r) [] none (by dsimp only;omega) (by rw[u7X];simp;omega)
     rw[u7X] at key;refine key (λd s cs x=>rfl) (λs cs x hs1 hs2 hcs=>?_) (λs cs x hs0=>?_)
     ·obtain ⟨_,_,_,_,eg⟩:=hG s ⟨hs1,hs2⟩
      have h':(0:Int)<(s.2.2:Int):=by omega
      have s2:dSub (dN (e+1)) (.int 1)=.ok (dN e):=by
       show Res.ok (D.int (((e+1:Nat):Int) - 1))=_;congr 2;omega
      have hz:cs.length<sizeLine:=z1D hcs (by decide)
      simp[u3v,h',s2,u9Q,u9P,slOf,slAll,agO,unp,putB,repO,eg,u3x,hz,-u2x,-u0J,-Res.bind_ok,-L2.go_ok,-Out.then_nx,bindN,goN,thenN];rw[if_pos hs1,gRho,v1j];rfl
     ·have h':¬ (0:Int)<(s.2.2:Int):=by omega
      simp[u3v,h',-u2x,-u0J,-Res.bind_ok,-L2.go_ok,-Out.then_nx,bindN,goN,thenN];intro z;omega
    rw[e5];simp[fix_g,toD,-u2x,-u0J,-Res.bind_ok,-L2.go_ok,-Out.then_nx,bindN,goN,thenN,-u2b,-u8G,thenMN,gmN]
def Made (A:Adr) (d:Nat) (G:FD):Prop:=∀m,dp m<=d->Ok m->G [toD m]=.ok (tr A m)
def IsM (A:Adr) (d:Nat) (G:FD):Prop:=∀m,dp m<=d->Ok m->G [tr A m,toD m]=.ok (.bl true)
def v1d (s:Str):gIsA [toD (.leaf s),.ty "str"]=.ok (.bl true):=rfl
def v1c (n:Int) (cs:List Md):gIsA [toD (.node n cs),.ty "str"]=.ok (.bl false):=rfl
def ix_n0 (n:Int) (cs:List Md):dIx (toD (.node n cs)) (.int 0)=.ok (.int n):=rfl
def ix_n1 (n:Int) (cs:List Md):dIx (toD (.node n cs)) (.int 1)=.ok (.lst (toDs cs)):=rfl
theorem u5s:∀{cs:List Md}{c:Md},c∈cs->dp c<=dps cs
 | x::cs,c,h=>by
  rcases z7.mp h with rfl|h
  ·simp[dps];omega
  ·have:=u5s h;simp[dps];omega
def comp1m{c:α->D}{ds:List α} (h:α->D) (k:∀d∈ds,fT [some (.val (c d))]=.ok true/\fe [some (.val (c d))]=.ok (h d)):compD (λd ρ=>.ok (ρ.set 0 (some (.val d)))) fT fe [none] (ds.map c)=.ok (ds.map h):=by
 induction ds with
 | nil=>rfl
 | cons x ds ih =>
  have h1:=k x z6;have h2:=ih λd m=>k d (z5 _ m)
  simp[compD,h1.1,h1.2,h2]
def isO_l (A:Adr) (b1 b2:Bool) (tx:List (Addr×Bool)) (s:Str):isO [(A.Leaf,b1),(A.Node,b2)] tx (tr A (.leaf s))=.ok (.bl b1):=by
 show lookB _ A.Leaf=_;unfold lookB;simp[List.lookup]
def isO_n(ne:A.Leaf≠A.Node) (b1 b2:Bool) (tx:List (Addr×Bool)) (n:Int) (cs:List Md):isO [(A.Leaf,b1),(A.Node,b2)] tx (tr A (.node n cs))=.ok (.bl b2):=by
 show lookB _ A.Node=_;unfold lookB
 have:(A.Node==A.Leaf)=false:=beq_false_of_ne ne.symm
 simp[List.lookup,this]
def u7m {s:Str} (h:PyData.strOk s=true):dEqJ (.str s) (.str s)=.ok (.bl true):=by
 rw[eqZ h h];simp
def neI (i j:Int):dNeX (.int i) (.int j)=.ok (.bl (decide (i≠j))):=by
 unfold dNeX;rw[if_neg (show ¬ lenNe (.int i) (.int j)=true from z0I)]
 show Res.ok (D.bl (!(i==j)))=_;by_cases h:i=j<;>simp[h]
theorem v2E (A:Adr):∀cs:List Md,zipL (trs A cs) (toDs cs)=cs.map λc=>.tup [tr A c,toD c]
 | []=>rfl
 | c::cs=>by
  have:=v2E A cs
  unfold zipL at *
  simp[trs,toDs] at *
  exact this
theorem u6k{g:D->Rho->Res Rho} (S:List D->Rho->Prop) (Q:Out->Prop) (nil:∀ρ,S [] ρ->Q (.nx ρ))
  (cons:∀d ds ρ,S (d::ds) ρ->∃ρ1,g d ρ=.ok ρ1/\((∃ρ2,tb ρ1=.nx ρ2/\S ds ρ2)\/(∃v,tb ρ1=.rt v/\Q (.rt v))\/∃x ρ2,tb ρ1=.er x ρ2/\Q (.er x ρ2))):∀ds ρ,S ds ρ->Q (forD g tb ds ρ)
 | [],ρ,h=>nil ρ h
 | d::ds,ρ,h=>by
  obtain⟨ρ1,e,k⟩:=cons d ds ρ h;simp only[forD,e,u4J,go_ok];rcases k with⟨ρ2,k1,k2⟩|⟨v,k1,k2⟩|⟨x,ρ2,k1,k2⟩
  ·rw[k1];exact u6k S Q nil cons ds ρ2 k2
  ·rw[k1];exact k2
  ·rw[k1];exact k2
def len_t (ds:List D):gLen [.tup ds]=.ok (.int ds.length):=rfl
def u3Z (l:List D) (x:D):dIx (.lst (l++[x])) (.int (-1))=.ok x:=by
 show(match atI (l++[x]) (-1) with|some d=>Res.ok d|none=>.bad)=_
 have:atI (l++[x]) (-1)=some x:=by
  unfold atI ixN;rw[if_neg (by omega),if_pos (by simp;omega)]
  simp;rw[show(-1+((l.length:Int)+1)).toNat=l.length by omega]
  simp
 rw[this]
def a_tup (ds:List D):gIsA [.tup ds,.ty "tuple"]=.ok (.bl true):=rfl
def len_l (ds:List D):gLen [.lst ds]=.ok (.int ds.length):=rfl
theorem u9i:∀{cs:List Md}{c:Md},c∈cs->sz c<=szs cs
 | x::cs,c,h=>by
  rcases z7.mp h with rfl|h
  ·simp[szs]
  ·have:=u9i h;simp[szs];omega
def u2L {x y:List D} (h:x.length+y.length<=10000):dAdd (.lst x) (.lst y)=.ok (.lst (x++y)):=u0u (y9 h (by decide))
def u6X(h3:3<=k) {a1k:FD} (a0n:Callee P w K mg base k "_law_made" ["_law_model"] (spF K a1k)) {g_Node:List D->Res (List (Str×D))} (k_Node:KCalleeF P w K mg base 2 "Node" A.Node ["self","number","children"] g_Node) {g_Leaf:List D->Res (List (Str×D))} (k_Leaf:KCalleeF P w K mg base 1 "Leaf" A.Leaf ["self","sign"] g_Leaf) (a2b:∀(n:Int) (ms:List Md),ms.length<=1000->∀{c:D},rowOf c=some (trs A ms)->g_Node [.int n,c]=.ok [("number",.int n),("children",.tup (trs A ms)),("tree_size",.int (1+szs ms)),("tree_depth",.int (1+dps ms))]) (a2c:∀s:Str,g_Leaf [.str s]=.ok [("sign",.str s),("tree_size",.int 1),("tree_depth",.int 1)]) {d:Nat} (a2k:Made A d a1k) (F:Fun K "_law_made" "_law_made" u2d f fd) (T:Txt K mg A):∃G,FnOk P w K mg base CX0 (k+1) f fd ["_law_model"] (spF K G)/\Made A (d+1) G:=by
 refine⟨_,F.okT (k:=k) u6N (λcdv Ar outer s H E hr=>u0f (u0R (u0D (d_B u8N T.z_isinstance (by decide +kernel) (u0a (dv 0) (u0a (d_ty T.z_str (T:="str") (by decide +kernel)) u0b)))) (u0h (u0m (u5u k_Leaf (hk:=by omega) hr (u0a (dv 0) u0b)))) u0y)
  (u0h (u0m (u5u k_Node (hk:=by omega) hr (u0a (d_ix x_ix (dv 0) u0d) (u0a (DN.de (u3i ["_law_child"] [] rfl (u1b (sc:=defScope u2d) (N:=["_law_model"]) (by decide +kernel)) (u1Z (d_ix x_ix (dv 0) u0d)) (dg_n (show(["_law_child"]:List Str).Nodup by decide +kernel)) u4O (d_fn a0n (hk:=by omega) hr (u0a (dv 0) u0b)))) u0b)))))),?_⟩
 intro m hd ok;cases ok with
 | @leaf s h l =>
  have pl:g_Leaf [toD (.leaf s)]=.ok [("sign",.str s),("tree_size",.int 1),("tree_depth",.int 1)]:=a2c s;simp[runT,startD,v1d,pl,tr]
 | @node n cs h0 h1 hl hc =>
  have hz:(toDs cs).length<=sizeLine:=by rw[u3x];exact u3W hl
  have c1:compD (λd ρ=>.ok (ρ.set 0 (some (.val d)))) (λx=>Res.ok true) (λρ=>((getV ρ 0).bind λd=>Res.ok [d]).bind λds=>noE (a1k ds)) [none] (toDs cs)=.ok (trs A cs):=by
   rw[u2a,u2M];refine comp1m (tr A) λc m=>⟨rfl,?_⟩
   have:=u5s m
   simp only[dp] at hd;simp[a2k c (by omega) (hc c m)]
  have g1:=a2b n cs hl (c:=.lst (trs A cs)) rfl;simp[runT,startD,v1c,ix_n0,ix_n1,u2t,rhoC10,u0u hz,c1,g1];rfl
def u9C(h3:3<=k) {a2o:FD} (a1c:Callee P w K mg base k "_law_is" ["_law_tree","_law_model"] (spF K a2o)) {d:Nat} (p_is:IsM A d a2o) (F:Fun K "_law_is" "_law_is" u4W f fd) (T:Txt K mg A):∃G,FnOk P w K mg base CX0 (k+1) f fd ["_law_tree","_law_model"] (spF K G)/\IsM A (d+1) G:=by
 refine⟨_,F.okT (k:=k) u3M (λcdv Ar outer s H E hr=>u0f (u0R (u0D (d_B u8N T.z_isinstance (by decide +kernel) (u0a (dv 1) (u0a (d_ty T.z_str (T:="str") (by decide +kernel)) u0b)))) (u0h (u0m (u4h (u8K T.o_Leaf T.m_Leaf T.z_isinstance (by decide +kernel) (dv 0)) (u4h (d_not (u8K T.o_Node T.m_Node T.z_isinstance (by decide +kernel) (dv 0))) (u7o (u4g (u1u (hu64 hr)) (u1a T.f_sign (dv 0)) (dv 1))))))) u0y)
  (u0f (u0R (dt_w (u2v (u1x (u0D (u8K T.o_Node T.m_Node T.z_isinstance (by decide +kernel) (dv 0)))) (u2v (u0D (u8K T.o_Leaf T.m_Leaf T.z_isinstance (by decide +kernel) (dv 0))) (u1K (u0o (u5i (hu64 hr)) (u1a T.f_number (dv 0)) (d_ix x_ix (dv 1) u0d)))))) (u0h (u0m d_bl)) u0y)
  (u0f (u0R (dt_w (u2v (u1x (u0D (d_B u8N T.z_isinstance (by decide +kernel) (u0a (u1a T.f_children (dv 0)) (u0a (d_ty T.z_tuple (T:="tuple") (by decide +kernel)) u0b))))) (u1K (u0o (u5i (hu64 hr)) (d_B u0T T.z_len (by decide +kernel) (u0a (u1a T.f_children (dv 0)) u0b)) (d_B u0T T.z_len (by decide +kernel) (u0a (d_ix x_ix (dv 1) u0d) u0b)))))) (u0h (u0m d_bl)) u0y)
  (u0f (u6l rfl (di_zip T.z_zip (u0a (u1a T.f_children (dv 0)) (u0a (d_ix x_ix (dv 1) u0d) u0b))) (dg_tup (n:=2) rfl (u8i (dg_n u3M.nd) (u8i (dg_n u3M.nd) dgs_nil)))
  (u0h (u0R (u1x (u0D (d_fn a1c (hk:=by omega) hr (u0a (dv 2) (u0a (dv 3) u0b))))) (u0h (u0m d_bl)) u0y)))
  (u0h (u0m d_bl)))))),?_⟩
 intro m hd ok;cases ok with
 | @leaf s h l =>
  have es:dEqJ (.str s) (toD (.leaf s))=.ok (.bl true):=u7m h;simp[runT,startD,v1d,isO_l,u5o,es]
 | @node n cs h0 h1 hl hc =>
  simp[runT,startD,v1c,isO_n T.ne,u2h,u0Z,ix_n0,ix_n1,neI,a_tup,len_t,len_l,u4Q,u3x,zip2,rowOf,v2E];generalize hI:forD _ _ _ _=o;have q:∃ρ,o=.nx ρ:=by
   rw[<- hI];refine u6k (S:=λds ρ=>∃cs' x1 x2,ρ=[some (.val (tr A (.node n cs))),some (.val (toD (.node n cs))),x1,x2]/\ds=cs'.map (λc=>.tup [tr A c,toD c])/\∀c∈cs',c∈cs) (Q:=λo=>∃ρ,o=.nx ρ) (λρ _=>⟨ρ,rfl⟩) ?_ _ _ ⟨cs,none,none,rfl,rfl,λc m=>m⟩
   rintro d1 ds ρ ⟨cs',x1,x2,rfl,e,hm⟩;cases cs' with
   | nil=>simp at e
   | cons c cs' =>
    obtain⟨rfl,rfl⟩:d1=.tup [tr A c,toD c]/\ds=cs'.map (λc=>.tup [tr A c,toD c]):=by simpa using e
    have hc1:=hm c z6
    have:=u5s hc1
    simp only[dp] at hd;refine⟨_,rfl,.inl ⟨_,by simp[p_is c (by omega) (hc c hc1)];exact⟨rfl,rfl⟩,cs',_,_,rfl,rfl,λx m=>hm x (z5 _ m)⟩⟩
  obtain⟨ρ,rfl⟩:=q;simp
noncomputable def isStrD:D->Bool
 | .str _=>true
 | _=>false
def a_str(h:selfD d=true):gIsA [d,.ty "str"]=.ok (.bl (isStrD d)):=by cases d<;>first|rfl|simp[selfD] at h
noncomputable def signT:Str:="abcdefghijklmnopqrstuvwxyz0123456789+-*/()[]=<>,;.!?^&"
noncomputable def greatT:Str:="ABCDEFGHIJKLMNOPQRSTUVWXYZ"
noncomputable def smallT:Str:="abcdefghijklmnopqrstuvwxyz0123456789"
@[simp] theorem fold_sign:Str.ofString "abcdefghijklmnopqrstuvwxyz0123456789+-*/()[]=<>,;.!?^&"=signT:=rfl
@[simp] theorem fold_great:Str.ofString "ABCDEFGHIJKLMNOPQRSTUVWXYZ"=greatT:=rfl
@[simp] theorem fold_small:Str.ofString "abcdefghijklmnopqrstuvwxyz0123456789"=smallT:=rfl
noncomputable def fstC (z:Str):Str:=⟨#[z.cps.getD 0 0]⟩
noncomputable def tailC (z:Str):Str:=Txt.slice z (some 1) none
noncomputable def onlyS (z a:Str):Bool:=z.cps.toList.all λc=>inS ⟨#[c]⟩ a
noncomputable def shortS (z:Str):Bool:=decide (1<=z.length)&&decide (z.length<=6)
noncomputable def sgnS (z:Str):Bool:=shortS z&&onlyS z signT
noncomputable def hdS (z:Str):Bool:=shortS z&&(inS (fstC z) greatT&&onlyS (tailC z) smallT)
noncomputable def sgnD:D->Bool
 | .str z=>sgnS z
 | _=>false
noncomputable def hdD:D->Bool
 | .str z=>hdS z
 | _=>false
noncomputable def shortD:D->Bool
 | .str z=>shortS z
 | _=>false
noncomputable def goodS (z:Str):Bool:=PyData.strOk z&&decide (z.length<=1000)
mutual
noncomputable def goodD:D->Bool
 | .non | .bl _ | .int _=>true
 | .str z=>goodS z
 | .lst ds | .tup ds=>goodDs ds
 | .dct ps=>ps.isEmpty
 | _=>false
noncomputable def goodDs:List D->Bool
 | []=>true
 | d::ds=>goodD d&&goodDs ds
end
mutual
theorem u6g:∀{d:D},goodD d=true->selfD d=true
 | .non,_ | .bl _,_ | .int _,_ | .str _,_=>rfl
 | .lst ds,h=>u3f (ds:=ds) h
 | .tup ds,h=>u3f (ds:=ds) h
 | .dct ps,h=>h
 | .ty _,h=>by simp[goodD] at h
 | .ins _ _,h=>by simp[goodD] at h
 | .exc _ _,h=>by simp[goodD] at h
 | .dn _ _,h=>by simp[goodD] at h
 | .hdl _,h=>by simp[goodD] at h
 | .obj _ _,h=>by simp[goodD] at h
theorem u3f:∀{ds:List D},goodDs ds=true->selfDs ds=true
 | [],_=>rfl
 | d::ds,h=>by
  have h:=z2E.mp h;exact z2E.mpr ⟨u6g h.1,u3f h.2⟩
end
def P1 (p:D->Bool) (G:FD):Prop:=∀d,goodD d=true->G [d]=.ok (.bl (p d))
theorem u6t(p:α->Bool):∀l:List α,blsOf (l.map λd=>D.bl (p d))=some (l.map p)
 | []=>rfl
 | x::l=>by simp[blsOf,u6t p l]
def u4l (z:Str):(chars z).length=z.length:=by unfold chars;rw[x9,z0J];rfl
def u7B(h:shortS z=true):z.length<=6:=by
 unfold shortS at h;simp at h;exact h.2
@[simp] theorem v2k(p:α->Bool) (l:List α):gAll [.lst (l.map λd=>D.bl (p d))]=.ok (.bl (l.all p)):=by
 show(match blsOf (l.map λd=>D.bl (p d)) with|some bs=>Res.ok (D.bl (bs.all id))|none=>.bad)=_
 rw[u6t];simp[List.all_map,Function.comp_def]
noncomputable def chIn (a:Str):D->Bool
 | .str c=>inS c a
 | _=>false
def v0Y (z a:Str):((chars z).all λd=>chIn a d)=onlyS z a:=by
 unfold chars onlyS;rw[List.all_map];rfl
def v0w (a b:Str):PyData.eqv (.str a) (.str b)=(a==b):=rfl
@[simp] theorem len_strK (z:Str):gLen [.str z]=.ok (.int z.length):=rfl
@[simp] theorem len_tup (ds:List D):gLen [.tup ds]=.ok (.int ds.length):=rfl
@[simp] theorem len_lst (ds:List D):gLen [.lst ds]=.ok (.int ds.length):=rfl
def eq_int (i j:Int):dEq (.int i) (.int j)=.ok (.bl (i==j)):=rfl
def ix_tn(h:ds[i]?=some d):dIx (.tup ds) (.int i)=.ok d:=by
 show(match atI ds i with|some d=>Res.ok d|none=>.bad)=_
 rw[atI_nat h]
def ix_0 (x:D) (l:List D):dIx (.tup (x::l)) (.int 0)=.ok x:=ix_tn (i:=0) rfl
def ix_1 (x y:D) (l:List D):dIx (.tup (x::y::l)) (.int 1)=.ok y:=ix_tn (i:=1) rfl
def neX_nil (ds:List D):dNeX (.lst ds) (.lst [])=.ok (.bl (!ds.isEmpty)):=by
 cases ds with
 | nil=>rfl
 | cons x l =>
  unfold dNeX;rw[if_pos (by simp[lenNe])]
  rfl
def u0O {a b:Str} (h:a.cps.toList=b.cps.toList):a=b:=by
 obtain⟨a⟩:=a;obtain⟨b⟩:=b;congr;exact Array.ext' h
def u1f (a b:Str):(a++b).cps.toList=a.cps.toList++b.cps.toList:=Array.toList_append
def u2H (z:Str) (y:Str) (ys:List Str):(Txt.join z (y::ys)).cps.toList=y.cps.toList++ys.flatMap λp=>z.cps.toList++p.cps.toList:=by
 have key:∀(l:List Str) (acc:Array Nat),(l.foldl (λacc (p:Str)=>acc++z.cps++p.cps) acc).toList=acc.toList++l.flatMap λp=>z.cps.toList++p.cps.toList:=by
  intro l;induction l with
  | nil=>intro acc;simp
  | cons p l ih=>intro acc;rw[z3A,ih,List.flatMap_cons];simp
 show(List.foldl _ _ _:Array Nat).toList=_;rw[key];rfl
theorem u6j (c:Nat):∀(w:List Nat) (ws:List (List Nat)),glue c (w::ws)=w++ws.flatMap λp=>c::p
 | w,[]=>by simp[glue]
 | w,v::r=>by rw[glue,u6j c v r];simp
def u3E {c:Nat}{ys:List Str} (h:ys≠[]) (k:∀y∈ys,c∉y.cps.toList):splitS c (Txt.join ⟨#[c]⟩ ys)=ys:=by
 match ys,h with
 | y::ys,_ =>
  have e:(Txt.join ⟨#[c]⟩ (y::ys)).cps.toList=glue c ((y::ys).map λp=>p.cps.toList):=by
   rw[u2H,z0C,u6j,List.flatMap_map];rfl
  unfold splitS;rw[e,u3G c _ (by simp) (λw hw=>by
   obtain⟨p,hp,rfl⟩:=z2G.mp hw;exact k p hp),z3F]
  refine(List.map_congr_left λp _=>?_).trans (List.map_id _)
  exact u0O (by simp)
noncomputable def nmS (n:Int):Str:=(toString n:Str)
mutual
noncomputable def shL:Md->List Nat
 | .leaf s=>s.cps.toList
 | .node n cs=>123::((nmS n).cps.toList++(shLs cs++[125]))
noncomputable def shLs:List Md->List Nat
 | []=>[]
 | m::ms=>32::(shL m++shLs ms)
end
theorem u7C:∀a b:List Md,shLs (a++b)=shLs a++shLs b
 | [],b=>rfl
 | m::a,b=>by simp[shLs,u7C a b]
noncomputable def shw (m:Md):Str:=⟨(shL m).toArray⟩
structure RS where
 fin:Option Md
 st:List (Int×List Md)
noncomputable def putM (s:RS) (m:Md):Bool×RS:=match s.st with
 | []=>(true,⟨some m,[]⟩)
 | (n,ms)::st=>(decide (ms.length+1<=4),⟨s.fin,(n,ms++[m])::st⟩)
noncomputable def clsM (s:RS):Bool×RS:=match s.st with
 | []=>(false,s)
 | (n,ms)::st=>putM ⟨s.fin,st⟩ (.node n ms)
noncomputable def clsN:Nat->RS->Bool×RS
 | 0,s=>(true,s)
 | k+1,s=>if (clsM s).1=true then clsN k (clsM s).2 else (false,(clsM s).2)
noncomputable def NUMS:List Str:=["0","1","2","3","4","5","6","7","8","9","10","11","12","13","14","15","16","17","18","19"]
noncomputable def tlS (z:Str):Str:=⟨(z.cps.toList.drop 1).toArray⟩
noncomputable def opnS (z:Str):Bool:=decide (z.cps.toList.take 1=[123])
noncomputable def numS (z:Str):Option Nat:=NUMS.idxOf? z
noncomputable def begM (s:RS) (w:Str):Bool×RS :=
 if s.fin.isSome=true\/500<=s.st.length then (false,s)
 else if sgnS w=true then putM s (.leaf w)
 else if opnS w=true then match numS (tlS w) with
  | some n=>(true,⟨s.fin,((n:Int),[])::s.st⟩)
  | none=>(false,s)
 else (false,s)
noncomputable def coreL (l:List Nat):List Nat:=(l.reverse.dropWhile λc=>decide (c=125)).reverse
noncomputable def coreS (z:Str):Str:=⟨(coreL z.cps.toList).toArray⟩
noncomputable def clsK (z:Str):Nat:=z.length - (coreS z).length
noncomputable def takW (s:RS) (w:Str):Bool×RS:=if (begM s (coreS w)).1=true then clsN (clsK w) (begM s (coreS w)).2 else (false,(begM s (coreS w)).2)
noncomputable def rdW:RS->List Str->Bool×RS
 | s,[]=>(true,s)
 | s,w::ws=>if (takW s w).1=true then rdW (takW s w).2 ws else (false,(takW s w).2)
noncomputable def RS0:RS:=⟨none,[]⟩
noncomputable def readP (t:Str):Option Md:=if (rdW RS0 (splitS 32 t)).1=true then (rdW RS0 (splitS 32 t)).2.fin else none
structure LS where
 rt:List Md
 st:List (Int×List Md)
variable {s s1:LS}
noncomputable def topC (s:LS):List Md:=match s.st with
 | []=>s.rt
 | (_,ms)::_=>ms
noncomputable def addC (s:LS) (m:Md):LS:=match s.st with
 | []=>⟨s.rt++[m],[]⟩
 | (n,ms)::st=>⟨s.rt,(n,ms++[m])::st⟩
noncomputable def lclo:Nat->LS->Bool×LS
 | 0,s=>(decide ((topC s).length<5),s)
 | k+1,⟨rt,[]⟩=>(false,⟨rt,[]⟩)
 | k+1,⟨rt,(n,ms)::st⟩=>if 4<ms.length then (false,⟨rt,(n,ms)::st⟩) else lclo k (addC ⟨rt,st⟩ (.node n ms))
noncomputable def lbeg (s:LS) (w:Str):Option LS :=
 if s.st=[]/\s.rt≠[] then none
 else if opnS w=true then (numS (tlS w)).map λn=>⟨s.rt,((n:Int),[])::s.st⟩
 else if sgnS w=true then some (addC s (.leaf w))
 else none
noncomputable def ltak (s:LS) (w:Str):Option LS:=match lbeg s (coreS w) with
 | none=>none
 | some s1=>if (lclo (clsK w) s1).1=true then some (lclo (clsK w) s1).2 else none
noncomputable def lrd:LS->List Str->Option LS
 | s,[]=>some s
 | s,w::ws=>match ltak s w with
  | none=>none
  | some s1=>lrd s1 ws
noncomputable def LS0:LS:=⟨[],[]⟩
noncomputable def lfin:LS->Option Md
 | ⟨[m],[]⟩=>some m
 | _=>none
noncomputable def lreadP (t:Str):Option Md:=(lrd LS0 (splitS 32 t)).bind lfin
structure LI (s:LS):Prop where
 r:s.rt.length<=1
 e:s.st≠[]->s.rt=[]
noncomputable def toR (s:LS):RS:=⟨s.rt.head?,s.st⟩
theorem v0O:∀(k:Nat) (s:LS) (m:Md),s.rt=[] ->
  ((if (putM (toR s) m).1=true then clsN k (putM (toR s) m).2 else (false,(putM (toR s) m).2)).1=(lclo k (addC s m)).1) /\
  ((lclo k (addC s m)).1=true->clsN k (putM (toR s) m).2=(true,toR (lclo k (addC s m)).2)/\(putM (toR s) m).1=true/\LI (lclo k (addC s m)).2)
 | 0,⟨rt,[]⟩,m,h=>by
  cases h;exact⟨rfl,λ_=>⟨rfl,rfl,⟨y0 _,λz=>absurd rfl z⟩⟩⟩
 | 0,⟨rt,(n,ms)::st⟩,m,h=>by
  cases h;have e1:(lclo 0 (addC ⟨[],(n,ms)::st⟩ m)).1=decide (ms.length+1<5):=by simp[lclo,addC,topC]
  have e2:(putM (toR ⟨[],(n,ms)::st⟩) m).1=decide (ms.length+1<=4):=rfl;have e3:decide (ms.length+1<5)=decide (ms.length+1<=4):=by by_cases c:ms.length+1<=4<;>simp[c]<;>omega
  refine⟨?_,λz=>?_⟩
  ·rw [e1,e2,e3]
   cases decide (ms.length+1<=4)<;>rfl
  ·rw [e1,e3] at z
   exact⟨rfl,by rw[e2];exact z,⟨z0E _,λ_=>rfl⟩⟩
 | k+1,⟨rt,[]⟩,m,h=>by
  cases h;exact⟨rfl,λz=>by cases z⟩
 | k+1,⟨rt,(n,ms)::st⟩,m,h=>by
  cases h;have e2:(putM (toR ⟨[],(n,ms)::st⟩) m).1=decide (ms.length+1<=4):=rfl;by_cases c:ms.length+1<=4
  ·have e1:lclo (k+1) (addC ⟨[],(n,ms)::st⟩ m)=lclo k (addC ⟨[],st⟩ (.node n (ms++[m]))):=by
    show(if 4<(ms++[m]).length then _ else _)=_
    rw[if_neg (by simp;omega)]
   have ih:=v0O k ⟨[],st⟩ (.node n (ms++[m])) rfl;have e3:clsN (k+1) (putM (toR ⟨[],(n,ms)::st⟩) m).2=(if (putM (toR ⟨[],st⟩) (.node n (ms++[m]))).1=true then clsN k (putM (toR ⟨[],st⟩) (.node n (ms++[m]))).2 else (false,(putM (toR ⟨[],st⟩) (.node n (ms++[m]))).2)):=rfl
   rw[e1,e2,decide_eq_true c,if_pos rfl,e3];refine⟨ih.1,λz=>?_⟩
   obtain⟨i1,i2,i3⟩:=ih.2 z;rw[i2,if_pos rfl];exact⟨i1,rfl,i3⟩
  ·have e1:lclo (k+1) (addC ⟨[],(n,ms)::st⟩ m)=(false,⟨[],(n,ms++[m])::st⟩):=by
    show(if 4<(ms++[m]).length then _ else _)=_
    rw[if_pos (by simp;omega)]
   rw[e1,e2,decide_eq_false c];exact⟨rfl,λz=>by cases z⟩
def u9R {w:Str} (h:opnS w=true):sgnS w=false:=by
 cases c:sgnS w with
 | false=>rfl
 | true =>
  exfalso;have h:=of_decide_eq_true h
  have k:onlyS w signT=true:=(z2E.mp c).2;have m:123∈w.cps.toList:=z1A (by rw[h];simp)
  have:=z3E.mp k 123 m
  revert this
  decide +kernel
def cls_eq (k:Nat) (s:LS) (i:LI s) (h:(topC s).length<=4):(clsN k (toR s)).1=(lclo k s).1/\((lclo k s).1=true->clsN k (toR s)=(true,toR (lclo k s).2)/\LI (lclo k s).2):=by
 cases k with
 | zero =>
  have e:(lclo 0 s).1=true:=decide_eq_true (by omega)
  exact⟨by rw[e];rfl,λ_=>⟨rfl,i⟩⟩
 | succ k =>
  obtain⟨rt,st⟩:=s;cases st with
  | nil=>exact⟨rfl,λz=>by cases z⟩
  | cons p st =>
   obtain⟨n,ms⟩:=p;have hr:rt=[]:=i.e (by simp)
   subst hr;have e1:lclo (k+1) ⟨[],(n,ms)::st⟩=lclo k (addC ⟨[],st⟩ (.node n ms)):=if_neg (show ¬ 4<ms.length by simp[topC] at h;omega)
   have c:=v0O k ⟨[],st⟩ (.node n ms) rfl;rw[e1];refine⟨c.1,λz=>?_⟩
   obtain⟨c1,c2,c3⟩:=c.2 z;refine⟨?_,c3⟩;show(if (putM (toR ⟨[],st⟩) (.node n ms)).1=true then clsN k (putM (toR ⟨[],st⟩) (.node n ms)).2 else (false,(putM (toR ⟨[],st⟩) (.node n ms)).2))=_
   rw[if_pos c2];exact c1
def RtL (r:Bool×RS) (o:Option LS):Prop:=match o with
 | none=>r.1=false
 | some s=>r=(true,toR s)/\LI s
def v2Q {r:Bool×RS}{q:Bool×LS} (h1:r.1=q.1) (h2:q.1=true->r=(true,toR q.2)/\LI q.2):RtL r (if q.1=true then some q.2 else none):=by
 by_cases c:q.1=true
 ·rw[if_pos c];exact h2 c
 ·rw[if_neg c];show r.1=false;rw[h1];exact Bool.not_eq_true _ ▸ c
def tak_eq(i:LI s) (w:Str) (hl:s.st.length<500):RtL (takW (toR s) w) (ltak s w):=by
 by_cases c0:s.st=[]/\s.rt≠[]
 ·have e:lbeg s (coreS w)=none:=if_pos c0
  have f:(toR s).fin.isSome=true:=by
   cases h:s.rt with
   | nil=>exact absurd h c0.2
   | cons x l=>simp[toR,h]
  have b:begM (toR s) (coreS w)=(false,toR s):=if_pos (.inl f);unfold ltak takW;rw[e,b];rfl
 have hr:s.rt=[]:=by
  by_cases c:s.st=[]
  ·exact Classical.byContradiction λz=>c0 ⟨c,z⟩
  ·exact i.e c
 have f:¬ ((toR s).fin.isSome=true\/500<=(toR s).st.length):=by
  rintro(z|z)
  ·rw[show(toR s).fin=none by simp[toR,hr]] at z;cases z
  ·exact absurd hl (Nat.not_lt.mpr z)
 unfold ltak takW;by_cases c1:opnS (coreS w)=true
 ·have c2:=u9R c1
  cases c3:numS (tlS (coreS w)) with
  | none =>
   have e:lbeg s (coreS w)=none:=by unfold lbeg;rw[if_neg c0,if_pos c1,c3];rfl
   have b:begM (toR s) (coreS w)=(false,toR s):=by unfold begM;rw[if_neg f,c2,if_neg (by simp),if_pos c1,c3]
   rw[e,b];rfl
  | some n =>
   have e:lbeg s (coreS w)=some ⟨s.rt,((n:Int),[])::s.st⟩:=by unfold lbeg;rw[if_neg c0,if_pos c1,c3];rfl
   have b:begM (toR s) (coreS w)=(true,toR ⟨s.rt,((n:Int),[])::s.st⟩):=by unfold begM;rw[if_neg f,c2,if_neg (by simp),if_pos c1,c3];rfl
   rw[e,b]
   have:=cls_eq (clsK w) ⟨s.rt,((n:Int),[])::s.st⟩ ⟨by rw[hr];simp,λ_=>hr⟩ (z0E _)
   exact v2Q this.1 this.2
 ·by_cases c2:sgnS (coreS w)=true
  ·have e:lbeg s (coreS w)=some (addC s (.leaf (coreS w))):=by unfold lbeg;rw [if_neg c0,if_neg c1,if_pos c2]
   have b:begM (toR s) (coreS w)=putM (toR s) (.leaf (coreS w)):=by unfold begM;rw[if_neg f,if_pos c2]
   rw[e,b]
   have:=v0O (clsK w) s (.leaf (coreS w)) hr
   exact v2Q this.1 λz=>by rw[(this.2 z).2.1,if_pos rfl];exact⟨(this.2 z).1,(this.2 z).2.2⟩
  ·have e:lbeg s (coreS w)=none:=by unfold lbeg;rw [if_neg c0,if_neg c1,if_neg c2]
   have b:begM (toR s) (coreS w)=(false,toR s):=by unfold begM;rw[if_neg f,if_neg c2,if_neg c1]
   rw[e,b];rfl
def v1a (s:LS) (m:Md):(addC s m).st.length=s.st.length:=by
 obtain⟨rt,st⟩:=s;cases st with
 | nil=>rfl
 | cons p st=>obtain⟨n,ms⟩:=p;rfl
theorem v0N:∀(k:Nat) (s:LS),(lclo k s).2.st.length<=s.st.length
 | 0,s=>y0 _
 | k+1,⟨rt,[]⟩=>y0 _
 | k+1,⟨rt,(n,ms)::st⟩=>by
  rw[lclo];split
  ·exact y0 _
  ·have:=v0N k (addC ⟨rt,st⟩ (.node n ms))
   rw[v1a] at this;exact Nat.le_succ_of_le this
set_option tactic.hygienic true in
def tak_len{w:Str} (h:ltak s w=some s1):s1.st.length<=s.st.length+1:=by
 unfold ltak at h;split at h
 ·cases h
 ·rename_i s2 e
  split at h
  ·cases h
   refine y9 (v0N _ _) ?_;unfold lbeg at e;split at e
   ·cases e
   ·split at e
    ·cases c:numS (tlS (coreS w)) with
     | none=>rw[c] at e;cases e
     | some n=>rw[c] at e;cases e;simp
    ·split at e
     ·cases e;rw[v1a];exact Nat.le_succ _
     ·cases e
  ·cases h
theorem rd_eq:∀(ws:List Str) (s:LS),LI s->s.st.length+ws.length<500->RtL (rdW (toR s) ws) (lrd s ws)
 | [],s,i,_=>⟨rfl,i⟩
 | w::ws,s,i,hl=>by
  simp at hl;have h:=tak_eq i w (by omega)
  rw[rdW,lrd];cases e:ltak s w with
  | none=>rw[e] at h;rw[show(takW (toR s) w).1=false from h];rfl
  | some s1 =>
   rw[e] at h;obtain⟨h1,h2⟩:=h;rw[h1,if_pos rfl]
   have:=tak_len e
   exact rd_eq ws s1 h2 (by omega)
def read_eq(h:(splitS 32 t).length<500):lreadP t=readP t:=by
 have:=rd_eq (splitS 32 t) LS0 ⟨z0E _,λ_=>rfl⟩ (by show 0+_<500;omega)
 unfold lreadP readP;cases e:lrd LS0 (splitS 32 t) with
 | none=>rw[e] at this;rw[show(rdW RS0 (splitS 32 t)).1=false from this];rfl
 | some s =>
  rw[e] at this;obtain⟨h1,h2⟩:=this;rw[show rdW RS0 (splitS 32 t)=_ from h1,if_pos rfl]
  obtain⟨rt,st⟩:=s;show lfin ⟨rt,st⟩=rt.head?;cases st with
  | cons p st =>
   have:rt=[]:=h2.e (by simp)
   subst this;rfl
  | nil =>
   match rt,h2.r with
   | [],_=>rfl
   | [m],_=>rfl
theorem u3g  [DecidableEq α] (c:α):∀l:List α,glue c (splitL c l)=l
 | []=>rfl
 | x::l=>by
  have ih:=u3g c l;have ne:=u1M c l;rw[splitL];by_cases e:x=c
  ·rw [if_pos e]
   cases h:splitL c l with
   | nil=>exact absurd h ne
   | cons w r=>rw[h] at ih;rw[glue,ih,e];rfl
  ·rw [if_neg e]
   cases h:splitL c l with
   | nil=>exact absurd h ne
   | cons w r =>
    rw[h] at ih;cases r with
    | nil=>exact congrArg (x::·) ih
    | cons v r=>exact congrArg (x::·) ih
theorem u6i(c:α) (b:List α):∀(ws:List (List α)),ws≠[]->glue c (ws++[b])=glue c ws++c::b
 | [w],_=>rfl
 | w::v::r,_=>by
  have:=u6i c b (v::r) (by simp)
  rw[List.cons_append,List.cons_append,glue,<- List.cons_append,this,glue];simp
noncomputable def curL:List (Int×List Md)->List Nat
 | []=>[]
 | (n,ms)::st=>curL st++((if st.isEmpty=true then [] else [32])++123::((nmS n).cps.toList++shLs ms))
noncomputable def txtL:LS->List Nat
 | ⟨rt,[]⟩=>match rt with
  | [m]=>shL m
  | _=>[]
 | ⟨_,p::st⟩=>curL (p::st)
def u3C (l:List Nat):coreL l++List.replicate (l.length - (coreL l).length) 125=l:=by
 unfold coreL;have h:∀r:List Nat,(r.takeWhile λc=>decide (c=125))=List.replicate (r.length - (r.dropWhile λc=>decide (c=125)).length) 125:=by
  intro r;induction r with
  | nil=>rfl
  | cons a r ih =>
   by_cases c:a=125
   ·have:=(List.dropWhile_sublist (fun c=>decide (c=125)) (l:=r)).length_le
    rw[List.takeWhile_cons,List.dropWhile_cons,if_pos (by simp[c]),if_pos (by simp[c]),ih,z0D,show r.length+1 - (r.dropWhile λc=>decide (c=125)).length=(r.length - (r.dropWhile λc=>decide (c=125)).length)+1 by omega,List.replicate_succ,c]
   ·rw [List.takeWhile_cons,List.dropWhile_cons,if_neg (by simp [c]),if_neg (by simp [c])]
    simp
 have e:=List.takeWhile_append_dropWhile (p:=λc=>decide (c=125)) (l:=l.reverse)
 rw[h l.reverse] at e;have e2:=congrArg List.reverse e;rw[List.reverse_append,List.reverse_replicate,List.reverse_reverse,z1C] at e2;rw[z1C];exact e2
def v0Z{st:List (Int×List Md)}:txtL (addC ⟨[],st⟩ m)=curL st++((if st.isEmpty=true then [] else [32])++shL m):=by
 cases st with
 | nil=>rfl
 | cons p st =>
  obtain⟨n,ms⟩:=p;show curL ((n,ms++[m])::st)=_;rw[curL,curL,u7C];simp[shLs]
set_option tactic.hygienic true in
theorem v0M:∀(k:Nat) (s:LS),(s.st≠[]->s.rt=[])->(lclo k s).1=true->txtL (lclo k s).2=txtL s++List.replicate k 125
 | 0,s,_,_=>by simp[lclo]
 | k+1,⟨rt,[]⟩,_,z=>by cases z
 | k+1,⟨rt,(n,ms)::st⟩,h,z=>by
  have hr:rt=[]:=h (by simp)
  subst hr;rw[lclo] at z |-
  split at z
  ·cases z
  ·rename_i c
   rw[if_neg c];have ih:=v0M k (addC ⟨[],st⟩ (.node n ms)) (λq=>by cases st with|nil=>exact absurd rfl q|cons p st=>obtain⟨a,b⟩:=p;rfl) z
   rw[ih,v0Z,List.replicate_succ];show _=curL ((n,ms)::st)++_;rw[curL,shL];simp
def v2Y(h:numS z=some n):n<20/\z=nmS n:=by
 have e:∀n:Nat,n<20->NUMS[n]?=some (nmS (n:Int)):=by decide +kernel
 unfold numS at h;have h1:=List.idxOf?_eq_some_iff.mp h;obtain⟨hl,h2,_⟩:=h1;refine⟨hl,?_⟩
 have:=e n hl
 rw[u3 hl] at this;rw[<- Option.some.inj this];exact h2.symm
def opn_ok {w:Str} (h:opnS w=true):w.cps.toList=123::(tlS w).cps.toList:=by
 have h:=of_decide_eq_true h;show _=123::(w.cps.toList.drop 1);rw[<- List.singleton_append,<- h,List.take_append_drop]
def v3p{st:List (Int×List Md)}:LI (addC ⟨[],st⟩ m):=by
 cases st with
 | nil=>exact⟨y0 _,λq=>absurd rfl q⟩
 | cons p st=>obtain⟨n,ms⟩:=p;exact⟨z0E _,λ_=>rfl⟩
theorem v3l:∀(k:Nat) (s:LS),LI s->LI (lclo k s).2
 | 0,s,i=>i
 | k+1,⟨rt,[]⟩,i=>i
 | k+1,⟨rt,(n,ms)::st⟩,i=>by
  have hr:rt=[]:=i.e (by simp)
  subst hr;rw[lclo];split
  ·exact i
  ·exact v3l k _ v3p
theorem v0P:∀(k:Nat) (s:LS),(s.st≠[]\/s.rt≠[])->((lclo k s).2.st≠[]\/(lclo k s).2.rt≠[])
 | 0,s,h=>h
 | k+1,⟨rt,[]⟩,h=>h
 | k+1,⟨rt,(n,ms)::st⟩,h=>by
  rw[lclo];split
  ·exact h
  ·refine v0P k _ ?_
   cases st with
   | nil=>exact .inr (by simp[addC])
   | cons p st=>obtain⟨a,b⟩:=p;exact .inl (by simp[addC])
inductive Beg (s:LS) (w:Str):LS->Prop
 | leaf (h:sgnS w=true):Beg s w (addC s (.leaf w))
 | node (n:Nat) (h:n<20) (e:w.cps.toList=123::(nmS n).cps.toList):Beg s w ⟨s.rt,((n:Int),[])::s.st⟩
def v3n{s2:LS}{w:Str} (h:lbeg s w=some s2):(s.st=[]->s.rt=[])/\Beg s w s2:=by
 unfold lbeg at h;by_cases c0:s.st=[]/\s.rt≠[]
 ·rw[if_pos c0] at h;cases h
 ·rw [if_neg c0] at h
  refine⟨λz=>Classical.byContradiction λq=>c0 ⟨z,q⟩,?_⟩
  by_cases c1:opnS w=true
  ·rw [if_pos c1] at h
   cases c:numS (tlS w) with
   | none=>rw[c] at h;cases h
   | some n =>
    rw[c] at h;cases h;obtain⟨h1,h2⟩:=v2Y c;exact .node n h1 (by rw[opn_ok c1,h2])
  ·rw [if_neg c1] at h
   by_cases c2:sgnS w=true
   ·rw[if_pos c2] at h;cases h;exact .leaf c2
   ·rw[if_neg c2] at h;cases h
set_option tactic.hygienic true in
def v2M{w:Str} (h:ltak s w=some s1):∃s2,lbeg s (coreS w)=some s2/\(lclo (clsK w) s2).1=true/\s1=(lclo (clsK w) s2).2:=by
 unfold ltak at h;split at h
 ·cases h
 ·rename_i s2 e
  split at h
  ·rename_i c;cases h;exact⟨s2,e,c,rfl⟩
  ·cases h
def u9h{w:Str} (i:LI s) (h:ltak s w=some s1):LI s1/\(s1.st≠[]\/s1.rt≠[])/\txtL s1=(if s.st.isEmpty=true then [] else txtL s++[32])++w.cps.toList/\(s.st=[]->s.rt=[]):=by
 obtain⟨s2,e,c,rfl⟩:=v2M h;obtain⟨h0,b⟩:=v3n e;have hr:s.rt=[]:=by
  by_cases c:s.st=[]
  ·exact h0 c
  ·exact i.e c
 obtain⟨rt,st⟩:=s;cases hr;have ew:w.cps.toList=(coreS w).cps.toList++List.replicate (clsK w) 125:=(u3C w.cps.toList).symm;have key:LI s2/\(s2.st≠[]\/s2.rt≠[])/\txtL s2=(if st.isEmpty=true then [] else txtL ⟨[],st⟩++[32])++(coreS w).cps.toList:=by
  cases b with
  | leaf h =>
   refine⟨v3p,?_,?_⟩
   ·cases st with
    | nil=>exact .inr (by simp[addC])
    | cons p st=>obtain⟨a,b⟩:=p;exact .inl (by simp[addC])
   ·rw [v0Z]
    cases st with
    | nil=>rfl
    | cons p st=>show _=curL (p::st)++[32]++_;simp[shL]
  | node n hn e9 =>
   refine⟨⟨z0E _,λ_=>rfl⟩,.inl (by simp),?_⟩
   show curL (((n:Int),[])::st)=_;rw[curL,e9];cases st with
   | nil=>simp[shLs,curL]
   | cons p st=>show _=curL (p::st)++[32]++_;simp[shLs]
 obtain⟨k1,k2,k3⟩:=key;exact⟨v3l _ _ k1,v0P _ _ k2,by rw[v0M _ _ k1.e c,k3,ew,List.append_assoc],h0⟩
theorem v2R:∀(ws us:List Str) (s s1:LS),LI s->us≠[]->(s.st≠[]\/s.rt≠[])->txtL s=glue 32 (us.map λz=>z.cps.toList)->lrd s ws=some s1->LI s1/\txtL s1=glue 32 ((us++ws).map λz=>z.cps.toList)
 | [],us,s,s1,i,_,_,e,h=>by cases h;exact⟨i,by simpa using e⟩
 | w::ws,us,s,s1,i,hu,ha,e,h=>by
  rw[lrd] at h;cases c:ltak s w with
  | none=>rw[c] at h;cases h
  | some s2 =>
   rw[c] at h;obtain⟨t1,t2,t3,t4⟩:=u9h i c;have hs:s.st≠[]:=λz=>ha.elim (λq=>q z) λq=>q (t4 z)
   have:=v2R ws (us++[w]) s2 s1 t1 (by simp) t2 (by
    rw[t3,e,z0A,List.map_singleton,u6i _ _ _ (by simpa using hu),if_neg (by simpa using hs)]
    simp) h
   rw[List.append_assoc] at this;exact this
def v1z(h:lreadP t=some m):shw m=t:=by
 unfold lreadP at h;cases e:lrd LS0 (splitS 32 t) with
 | none=>rw[e] at h;cases h
 | some s =>
  rw[e] at h;have h:lfin s=some m:=h;have ne:splitS 32 t≠[]:=by unfold splitS;simpa using u1M 32 t.cps.toList
  have gl:glue 32 ((splitS 32 t).map λz=>z.cps.toList)=t.cps.toList:=by
   unfold splitS;rw[z3F];exact(congrArg (glue 32) (List.map_id _)).trans (u3g 32 _)
  cases ws:splitS 32 t with
  | nil=>exact absurd ws ne
  | cons w ws' =>
   rw[ws,lrd] at e;cases c:ltak LS0 w with
   | none=>rw[c] at e;cases e
   | some s2 =>
    rw[c] at e;obtain⟨t1,t2,t3,_⟩:=u9h ⟨z0E _,λ_=>rfl⟩ c
    obtain⟨u1,u2⟩:=v2R ws' [w] s2 s t1 (by simp) t2 (by rw[t3];rfl) e
    rw[List.singleton_append,<- ws,gl] at u2;unfold lfin at h;split at h
    ·cases h
     exact u0O (by rw[<- u2];rfl)
    ·cases h
noncomputable def stz (st:List (Int×List Md)):Nat:=(st.map λp=>szs p.2+1).sum
structure LG (k:Nat) (s:LS):Prop where
 r:∀m∈s.rt,Ok m
 t:∀p∈s.st,0<=p.1/\p.1<1000/\∀m∈p.2,Ok m
 z:szs s.rt+stz s.st<=k
def LG.add(g:LG k s) (h:Ok m):LG (k+sz m) (addC s m):=by
 obtain⟨rt,st⟩:=s;cases st with
 | nil =>
  refine⟨λx mx=>?_,λp mp=>(nomatch mp),?_⟩
  ·rcases v6.mp mx with q | q
   ·exact g.r x q
   ·rw[z0H.mp q];exact h
  ·have:=g.z
   simp[addC,u2N,szs,stz] at this |-
   omega
 | cons p st =>
  obtain⟨n,ms⟩:=p;obtain⟨g1,g2,g3⟩:=g.t (n,ms) z6;refine⟨g.r,λq mq=>?_,?_⟩
  ·rcases z7.mp mq with e | mq
   ·rw [e]
    refine⟨g1,g2,λx mx=>?_⟩
    rcases v6.mp mx with q|q
    ·exact g3 x q
    ·rw[z0H.mp q];exact h
   ·exact g.t q (z5 _ mq)
  ·have:=g.z
   simp[addC,u2N,szs,stz] at this |-
   omega
theorem LG.clo(hN:N<=1000):∀(k:Nat) (s:LS),LG N s->LG N (lclo k s).2
 | 0,s,g=>g
 | k+1,⟨rt,[]⟩,g=>g
 | k+1,⟨rt,(n,ms)::st⟩,g=>by
  rw[lclo];split
  ·exact g
  ·obtain ⟨g1,g2,g3⟩:=g.t (n,ms) z6
   have z:=g.z;simp[stz] at z;have lm:=u3e ms;have ok:Ok (.node n ms):=.node g1 g2 (by omega) g3
   have g':LG (N - (szs ms+1)) ⟨rt,st⟩:=⟨g.r,λq mq=>g.t q (z5 _ mq),by simp[stz];omega⟩
   have a:=g'.add ok;rw[show N - (szs ms+1)+sz (.node n ms)=N by simp[sz];omega] at a
   exact LG.clo hN k _ a
def LG.tak(hN:N+1<=1000) {w:Str} (g:LG N s) (hw:PyData.strOk w=true) (h:ltak s w=some s1):LG (N+1) s1:=by
 obtain⟨s2,e,c,rfl⟩:=v2M h;refine LG.clo hN _ _ ?_;obtain⟨_,b⟩:=v3n e;cases b with
 | leaf h9 =>
  refine g.add (m:=.leaf (coreS w)) (.leaf ?_ ?_)
  ·unfold PyData.strOk at hw |-
   rw[Array.all_eq_true'] at hw |-
   intro x mx;refine hw x ?_;have mx:x∈(coreS w).cps.toList:=u0.mpr mx
   have:=(u3C w.cps.toList) ▸ (r9 (List.replicate (w.cps.toList.length - (coreL w.cps.toList).length) 125) mx)
   exact u0.mp this
  ·have:shortS (coreS w)=true:=(z2E.mp h9).1
   exact y9 (u7B this) (by decide)
 | node n hn e9 =>
  refine⟨g.r,λq mq=>?_,?_⟩
  ·rcases z7.mp mq with e | mq
   ·rw[e];exact⟨by simp,by simp;omega,λx mx=>nomatch mx⟩
   ·exact g.t q mq
  ·have:=g.z
   simp[stz,szs] at this |-
   omega
theorem LG.rd:∀(ws:List Str) (N:Nat) (s s1:LS),N+ws.length<=1000->LG N s->(∀w∈ws,PyData.strOk w=true)->lrd s ws=some s1->LG (N+ws.length) s1
 | [],N,s,s1,_,g,_,h=>by cases h;exact g
 | w::ws,N,s,s1,hN,g,hw,h=>by
  rw[lrd] at h;simp at hN;cases c:ltak s w with
  | none=>rw[c] at h;cases h
  | some s2 =>
   rw[c] at h
   have:=LG.rd ws (N+1) s2 s1 (by omega) (g.tak (by omega) (hw w z6) c) (λx m=>hw x (z5 _ m)) h
   rw[show N+(w::ws).length=N+1+ws.length by simp;omega]
   exact this
def u3A(h:PyData.strOk t=true):∀w∈splitS 32 t,PyData.strOk w=true:=λw m=>by
 obtain⟨l,ml,rfl⟩:=z2G.mp m;unfold PyData.strOk at h |-
 rw[Array.all_eq_true'] at h |-
 intro x mx;exact h x (u0.mp (u4D 32 _ l ml x (by simpa using mx)))
def read_ok(h:PyData.strOk t=true) (hl:(splitS 32 t).length<=1000) (e:lreadP t=some m):Ok m/\sz m<=(splitS 32 t).length:=by
 unfold lreadP at e;cases c:lrd LS0 (splitS 32 t) with
 | none=>rw[c] at e;cases e
 | some s =>
  rw[c] at e;have e:lfin s=some m:=e;have g:=LG.rd _ 0 LS0 s (by omega) ⟨λ_ q=>(nomatch q),λ_ q=>(nomatch q),y0 _⟩ (u3A h) c
  unfold lfin at e;split at e
  ·cases e
   refine⟨g.r m (by simp),?_⟩
   have:=g.z
   simp[szs,stz] at this;exact this
  ·cases e
def dp_sz:∀m:Md,dp m<=sz m:=by
 intro m;induction m using Md.ind with
 | hl s=>exact y0 _
 | hn n cs ih =>
  have:dps cs<=szs cs:=by
   induction cs with
   | nil=>exact y0 _
   | cons c cs ih2 =>
    have a:=ih c z6;have b:=ih2 λx m=>ih x (z5 _ m)
    simp only[dps,szs];omega
  simp only[dp,sz];omega
end K15
namespace L2
open PySem PySem.Spec PyProof.Rows
variable {X:Cx}{xq:XQ}{f:Rho->Out}
def DB.of{sts:List Stmt}{t:TS} (h:PSs X sts t) (k:∀B F ρ σ H T,Rel X.K B ρ σ F H->OkS X.K xq B T (f ρ)->t T σ H):DB X xq sts f :=
 ⟨λpins s σ H T I z9=>un5 z9 λB F ρ R q=>h pins s σ H T I (k B F ρ σ H T R q)⟩
section
variable {K:W.Frag}{B:Hp×Hp}{ρ:Rho}{σ:St}{F H F' H':Hp}{a:Addr}{T:Ends}
def seq_nx{u:TS}{ρ':Rho} (R:Rel K B ρ σ F H) (e:f ρ=.nx ρ') (k:∀σ' F' H',Rel K B ρ' σ' F' H'->u T σ' H'):tSeq (liftS K xq f) u T σ H :=
 ⟨B,F,ρ,R,⟨by rw[e];exact k⟩⟩
variable {kvs:List (Key×V)}{N:Nat}
end
end L2
namespace K15
open PySem L2 PySem.Spec PyProof.Rows
variable {K:W.Frag}{v:Option V}{w:World}{α:Type}{a b dx f x:Addr}{H F' H':Hp}{ρ:Rho}{A:Adr}{s:RS}{P:Program}{mg:MG}{base:Heap}{fd:FuncData}{vf:V}
noncomputable def valD:D->Option V
 | .non=>some .non
 | .bl b=>some (.bl b)
 | .int i=>some (.int i)
 | .str z=>some (.str z)
 | .hdl a=>some (.ref a)
 | _=>none
def rpV{F:Hp}{v w:V}{d:D} (p:Rp K F v d) (h:valD d=some w):v=w:=by
 cases p<;>first|(cases h;rfl)|cases h
def lc{n:Nat}{l:List α} (h:l.length=n+1):∃x r,l=x::r/\r.length=n:=by
 cases l with
 | nil=>cases h
 | cons x r=>exact⟨x,r,rfl,Nat.succ.inj h⟩
def l0{l:List α} (h:l.length=0):l=[]:=List.eq_nil_of_length_eq_zero h
def st3{σ:L2.St} (l:σ.length=3) (e:σ[0]?=some v):∃x1 x2,σ=[v,x1,x2]:=by
 obtain⟨x,r,rfl,l1⟩:=lc l;obtain⟨y,r2,rfl,l2⟩:=lc l1;obtain⟨z,r3,rfl,l3⟩:=lc l2;cases l0 l3;cases e;exact⟨y,z,rfl⟩
def st4{σ:L2.St} (l:σ.length=4) (e:σ[0]?=some v):∃x1 x2 x3,σ=[v,x1,x2,x3]:=by
 obtain⟨x,r,rfl,l1⟩:=lc l;obtain⟨y,r2,rfl,l2⟩:=lc l1;obtain⟨a,b,e2⟩:=st3 (σ:=y::r2) (v:=y) l1 rfl;rw[e2];cases e;exact⟨y,a,b,rfl⟩
def st4f {σ:L2.St}{a b c d:Option V} (l:σ.length=4) (e0:σ[0]?=some a) (e1:σ[1]?=some b) (e2:σ[2]?=some c) (e3:σ[3]?=some d):σ=[a,b,c,d]:=by
 obtain⟨x,y,z,rfl⟩:=st4 l e0;cases e1;cases e2;cases e3;rfl
noncomputable def cellO (tp:Bool) (x:V) (c:Addr):HO:=if tp=true then .tup [x,.ref c] else .lst [x,.ref c]
inductive Cells (K:W.Frag) (F H:Hp) (tp:Bool) (f:Md->D):List Addr->List (D×List Md)->List Addr->Prop
 | nil:Cells K F H tp f [] [] []
 | cons {t c:Addr}{x:V}{xs:List V}{d:D}{ms:List Md}{ts cs:List Addr}{st:List (D×List Md)} (ht:H t=some (cellO tp x c)) (hx:Rp K F x d) (hc:H c=some (.lst xs)) (hs:Rps K F xs (ms.map f)) (fc:F c=none)
   (n1:c∉cs) (n2:c∉ts) (n3:t∉cs) (n4:t≠c) (r:Cells K F H tp f ts st cs):Cells K F H tp f (t::ts) ((d,ms)::st) (c::cs)
structure Chg (P:Addr->Prop) (F H F' H':Hp):Prop where
 ff:Same F F'
 fh:Same F' H'
 hh:∀x o,¬ P x->H x=some o->H' x=some o
 no:∀x,¬ P x->F x=none->H x≠none->F' x=none
 nz:∀a o u,F' a=some (.frz o u)->F a=some (.frz o u)
def _root_.L2.Stp.chg{P:Addr->Prop}{F:Hp} (s:Stp F H F' H'):Chg P F H F' H':=⟨s.ff,s.fh,λx o _ e=>s.hh x o e,λx _ n h=>s.no x n h,s.nz⟩
theorem Chg.trans{P P':Addr->Prop}{F F'' H'':Hp} (x:Chg P F H F' H') (y:Chg P' F' H' F'' H'') (n:∀z,P' z->P z\/H z=none):Chg P F H F'' H'':=by
 have np:∀z,¬ P z->H z≠none->¬ P' z:=λz h1 h2 h3=>(n z h3).elim h1 h2
 refine⟨x.ff.trans y.ff,y.fh,λz o h e=>y.hh z o (np z h (by rw[e];simp)) (x.hh z o h e),λz h1 h2 h3=>?_,λa o u q=>x.nz a o u (y.nz a o u q)⟩
 refine y.no z (np z h1 h3) (x.no z h1 h2 h3) λq=>?_
 cases e:H z with
 | none=>exact h3 e
 | some o=>rw[x.hh z o h1 e] at q;cases q
section
variable {F:Hp}{tp:Bool}{f:Md->D}{ts cs:List Addr}{st:List (D×List Md)}
theorem Cells.same (h:Cells K F H tp f ts st cs) (ff:Same F F') (hh:∀x o,x∈ts\/x∈cs->H x=some o->H' x=some o) (no:∀c∈cs,F' c=none):Cells K F' H' tp f ts st cs:=by
 induction h with
 | nil=>exact .nil
 | cons ht hx hc hs fc n1 n2 n3 n4 r ih =>
  refine .cons (hh _ _ (.inl z6) ht) (hx.same ff) (hh _ _ (.inr z6) hc) (hs.same ff) (no _ z6) n1 n2 n3 n4 (ih (λx o m e=>hh x o (m.imp (z5 _) (z5 _)) e) λc m=>no c (z5 _ m))
def Cells.free (h:Cells K F H tp f ts st cs):∀c∈cs,F c=none:=by
 induction h with
 | nil=>intro c m;cases m
 | cons ht hx hc hs fc n1 n2 n3 n4 r ih =>
  intro z m;rcases z7.mp m with rfl|m
  ·exact fc
  ·exact ih z m
def Cells.there (h:Cells K F H tp f ts st cs):∀x,x∈ts\/x∈cs->H x≠none:=by
 induction h with
 | nil=>rintro x (m|m)<;>cases m
 | cons ht hx hc hs fc n1 n2 n3 n4 r ih =>
  rintro z (m|m)
  ·rcases z7.mp m with rfl | m
   ·rw[ht];simp
   ·exact ih z (.inl m)
  ·rcases z7.mp m with rfl | m
   ·rw[hc];simp
   ·exact ih z (.inr m)
def Cells.kind (h:Cells K F H tp f ts st cs):∀x,x∈ts\/x∈cs->∃xs,H x=some (.tup xs)\/H x=some (.lst xs):=by
 induction h with
 | nil=>rintro x (m|m)<;>cases m
 | cons ht hx hc hs fc n1 n2 n3 n4 r ih =>
  rintro z (m|m)
  ·rcases z7.mp m with rfl | m
   ·unfold cellO at ht
    split at ht
    ·exact⟨_,.inl ht⟩
    ·exact⟨_,.inr ht⟩
   ·exact ih z (.inl m)
  ·rcases z7.mp m with rfl | m
   ·exact⟨_,.inr hc⟩
   ·exact ih z (.inr m)
def Cells.step (h:Cells K F H tp f ts st cs) (s:Stp F H F' H'):Cells K F' H' tp f ts st cs :=
 h.same s.ff (λx o _ e=>s.hh x o e) λc m=>s.no c (h.free c m) (h.there c (.inr m))
end
noncomputable def finD (A:Adr):Option Md->D
 | none=>.non
 | some m=>tr A m
noncomputable def rdF (vf:V) (b:Addr):List (Str×V):=[("finished",vf),("opened",.ref b)]
noncomputable def stD (st:List (Int×List Md)):List (D×List Md):=st.map λp=>(D.int p.1,p.2)
structure Rdr (K:W.Frag) (A:Adr) (F H:Hp) (a b dx:Addr) (s:RS) (ts cs:List Addr):Prop where
 fh:Same F H
 ha:∃vf,H a=some (.ins A.TreeReader dx (rdF vf b))/\Rp K F vf (finD A s.fin)
 hb:H b=some (.lst (ts.reverse.map V.ref))
 cl:Cells K F H true (tr A) ts (stD s.st) cs
 fa:F a=none
 fb:F b=none
 bc:b∉cs
 bt:b∉ts
def RP (a b:Addr) (cs:List Addr) (x:Addr):Prop:=x=a\/x=b\/x∈cs
inductive Sls (K:W.Frag) (F:Hp):L2.St->Rho->Prop
 | nil:Sls K F [] []
 | no {x:Option V}{σ:L2.St}{ρ:Rho}:Sls K F σ ρ->Sls K F (x::σ) (none::ρ)
 | val {v:V}{d:D}{σ:L2.St}{ρ:Rho}:Rp K F v d->Sls K F σ ρ->Sls K F (some v::σ) (some (.val d)::ρ)
def Sls.relB{B:Hp×Hp}{F:Hp}{σ:L2.St} (h:Sls K F σ ρ) (st:Stp B.1 B.2 F H):Rel K B ρ σ F H:=by
 have key:σ.length=ρ.length/\(∀(i:Nat) d,ρ[i]?=some (some (.val d))->∃v,σ[i]?=some (some v)/\Rp K F v d)/\∀(i:Nat) o,ρ[i]?≠some (some (.own o)):=by
  induction h with
  | nil=>exact⟨rfl,λi d e=>(by cases e),λi o e=>by cases e⟩
  | no _ ih =>
   refine⟨by simp[ih.1],λi d e=>?_,λi o e=>?_⟩
   ·cases i with
    | zero=>cases e
    | succ i=>exact ih.2.1 i d e
   ·cases i with
    | zero=>cases e
    | succ i=>exact ih.2.2 i o e
  | val p _ ih =>
   refine⟨by simp[ih.1],λi d e=>?_,λi o e=>?_⟩
   ·cases i with
    | zero=>cases e;exact⟨_,rfl,p⟩
    | succ i=>exact ih.2.1 i d e
   ·cases i with
    | zero=>cases e
    | succ i=>exact ih.2.2 i o e
 exact⟨st,key.1,key.2.1,λi o e=>absurd e (key.2.2 i o),λi j o u a e=>absurd e (key.2.2 i o)⟩
def Sls.rel{F:Hp}{σ:L2.St} (h:Sls K F σ ρ) (fh:Same F H):Rel K (F,H) ρ σ F H:=h.relB (Stp.refl fh)
noncomputable def opD:List (Int×List Md)->List Addr->List D
 | (n,_)::st,c::cs=>opD st cs++[.tup [.int n,.hdl c]]
 | _,_=>[]
noncomputable def rdD (A:Adr) (s:RS) (cs:List Addr):D:=.ins A.TreeReader [("finished",finD A s.fin),("opened",.lst (opD s.st cs))]
theorem v2W{F:Hp}:∀{ts cs:List Addr}{st:List (Int×List Md)},Cells K F H true (tr A) ts (stD st) cs->Rps K H (ts.reverse.map V.ref) (opD st cs)
 | _,_,[],h=>by cases h;exact .nil
 | _,_,(n,ms)::st,h=>by
  cases h with
  | cons ht hx hc hs fc n1 n2 n3 n4 r =>
   rw[List.reverse_cons,z0A,opD];refine(v2W r).append (.cons (.tup (.inl (.inl ht)) ?_) .nil);cases hx;exact .cons (.int n) (.cons (.hdl _) .nil)
def Rdr.rp{F:Hp}{ts cs:List Addr} (M:Rdr K A F H a b dx s ts cs):Rp K H (.ref a) (rdD A s cs):=by
 obtain⟨vf,h1,h2⟩:=M.ha;exact .ins h1 (.cons (h2.same M.fh) (.cons (.lst (.inl M.hb) (v2W M.cl)) .nil))
theorem u7N{F:Hp}:∀{ts cs:List Addr}{st:List (Int×List Md)},Cells K F H true (tr A) ts (stD st) cs->(opD st cs).length=st.length
 | _,_,[],h=>by cases h;rfl
 | _,_,(n,ms)::st,h=>by
  cases h with
  | cons ht hx hc hs fc n1 n2 n3 n4 r=>rw[opD,u4,u7N r];rfl
section
variable {F:Hp}{ts cs:List Addr}
theorem Rdr.step (M:Rdr K A F H a b dx s ts cs) (st:Stp F H F' H'):Rdr K A F' H' a b dx s ts cs:=by
 obtain⟨vf,h1,h2⟩:=M.ha;exact⟨st.fh,⟨vf,st.hh _ _ h1,h2.same st.ff⟩,st.hh _ _ M.hb,M.cl.step st,st.no _ M.fa (by rw[h1];simp),st.no _ M.fb (by rw[M.hb];simp),M.bc,M.bt⟩
theorem Rdr.only (M:Rdr K A F H a b dx s ts cs) (h:Same H H'):Rdr K A F H' a b dx s ts cs:=M.step (Stp.only M.fh h)
def Rdr.ab (M:Rdr K A F H a b dx s ts cs):a≠b:=λz=>by
 obtain⟨vf,h1,_⟩:=M.ha;rw[z,M.hb] at h1;cases h1
def Rdr.ac (M:Rdr K A F H a b dx s ts cs):∀x,x∈ts\/x∈cs->x≠a:=λx m z=>by
 obtain⟨vf,h1,_⟩:=M.ha;obtain⟨xs,k⟩:=M.cl.kind x m;rw[z,h1] at k;rcases k with k|k<;>cases k
end
def Stay (a:Addr) (H H':Hp):Prop:=∀x o,x≠a->H x=some o->H' x=some o
def spTI (C:Addr):Sp:=λvs H Q _=>∃a dx,vs=[.ref a]/\H a=some (.ins C dx [])/\∀H' b,Stay a H H'->H b=none->H' a=some (.ins C dx (rdF .non b))->H' b=some (.lst [])->Q .non H'
def spFin (K:W.Frag) (A:Adr):Sp:=λvs H Q _=>∃F a b dx s ts cs m vt,vs=[.ref a,vt]/\Rdr K A F H a b dx s ts cs/\Rp K F vt (tr A m)/\(∀p∈s.st,p.2.length<=1000)/\∀F' H',Chg (RP a b (ts++cs)) F H F' H'->Rdr K A F' H' a b dx (putM s m).2 ts cs->Q (.bl (putM s m).1) H'
def nFO:("finished":Str)≠"opened":=by decide +kernel
def putF_ne {f g:Str}{d x:V}{r:List (Str×V)} (h:g≠f):putF f d ((g,x)::r)=(g,x)::putF f d r:=if_neg h
def putF_eq {f:Str}{d x:V}{r:List (Str×V)}:putF f d ((f,x)::r)=(f,d)::r:=if_pos rfl
def v1A{cs:List Addr}:fldD A.TreeReader "opened" (rdD A s cs)=.ok (.lst (opD s.st cs)):=by
 simp[fldD,rdD,lk_ne nFO.symm,u7j]
def u9x{cs:List Addr}:fldD A.TreeReader "finished" (rdD A s cs)=.ok (finD A s.fin):=by
 simp[fldD,rdD,u7j]
def u0w{r:Res α}{P:α->Prop}{E:D->Prop} (v:α) (h:r=.ok v) (k:P v):r.all P E:=by rw[h];exact k
def eq0 (n:Nat):dEq (.int (n:Int)) (.int 0)=.ok (.bl (decide (n=0))):=by
 rw[eq_int];by_cases c:n=0
 ·subst c;rfl
 ·rw[decide_eq_false c,beq_false_of_ne (by omega)]
def pm_init (F:Fun K "__init__" "TreeReader.__init__" u0P f fd) (T:Txt K mg A):FnOk P w K mg base CX0 1 f fd ["self"] (spTI A.TreeReader) :=
 F.ok (k:=0) u2i (λvs H Q E h=>by obtain⟨a,dx,e,_⟩:=h;rw[e];rfl) λcdv Ar outer s H vs Q E hr ⟨a,dx,e,ha,q⟩=>by
  subst e;refine⟨_,u0i (u7K (u0v (i:=0) rfl (Or.inl rfl)) u3o rfl) (u0n (u7K (u0v (i:=0) rfl (Or.inl rfl)) (u2l u0t) rfl)),?_⟩;refine⟨.ref a,rfl,a,_,dx,[],rfl,ha,T.c_TreeReader,T.na_TreeReader_finished,by decide,?_⟩
  refine⟨by decide,λb hb=>⟨.ref a,rfl,a,A.TreeReader,dx,[("finished",.non)],rfl,?_⟩⟩
  have hba:b≠a:=λz=>by rw[z,u0c] at hb;cases hb
  have hb0:H b=none:=by rw[u0e hba] at hb;exact hb
  refine⟨by rw[u0e hba.symm];exact u0c,T.c_TreeReader,T.na_TreeReader_opened,(show 1<1000 by decide),?_⟩
  refine q _ b (λx o n e=>?_) hb0 (by rw[u0c,putF_ne nFO];rfl) (by rw[u0e hba,u0c])
  have xb:x≠b:=λz=>by rw[z,hb0] at e;cases e
  rw[u0e n,u0e xb,u0e n];exact e
def u9G (F:Fun K "finish" "TreeReader.finish" u0F f fd) (T:Txt K mg A):FnOk P w K mg base CX0 1 f fd ["self","tree"] (spFin K A) :=
 F.ok (k:=0) u0U (λvs H Q E h=>by obtain⟨F,a,b,dx,s,ts,cs,m,vt,e,_⟩:=h;rw[e];rfl) λcdv Ar outer s0 H vs Q E hr h=>by
  obtain⟨F0,a,b,dx,s,ts,cs,m,vt,rfl,M,pt,hl,q⟩:=h;refine⟨_,u0i (u1F (DT.out (xq:=xqF) (u0o (o_eq (hu64 hr)) (d_B u0T T.z_len (by decide +kernel) (u0a (u7q T.c_TreeReader T.na_TreeReader_opened (dv 0)) u0b)) u0d)) (u0i (u7K (u0v (i:=0) rfl (Or.inl rfl)) (u0v (i:=1) rfl (Or.inl rfl)) rfl) (u0n (u0H u4u))) u0G)
   (u0i (ps_n u0U.nd (DE.out (xq:=xqF) (d_ix x_ix (d_ix x_ix (u7q T.c_TreeReader T.na_TreeReader_opened (dv 0)) (d_un u6E u0d)) u0d)))
   (u0i (u1G (pbm PySem.F.plainAttrs_list PySem.F.slot_list_append PySem.F.type_list_append u1n (u0v (i:=2) rfl (Or.inl rfl)) (pac (u0v (i:=1) rfl (Or.inl rfl)) u0t)) rfl)
   (u0n (u0H (DE.out (xq:=xqF) (u4g o_le (d_B u0T T.z_len (by decide +kernel) (u0a (dv 2) u0b)) (v0C T.g_MOST_CHILDREN))))))),?_⟩
  have R0:Rel K (H,H) [some (.val (rdD A s cs)),none,none] (start ["self","tree","children"] [.ref a,vt]) H H:=Sls.rel (.val M.rp (.no (.no .nil))) (Same.refl H);have ln:=u7N M.cl;refine⟨_,H,_,R0,u0w (decide (s.st.length=0)) (by simp[frz,frzS,v1A,gLen,ln,eq0]) λH1 s1=>?_⟩
  have M1:=M.only s1.hh;obtain⟨fin,st⟩:=s;cases st with
  | nil =>
   obtain⟨vf,ha,pf⟩:=M1.ha;refine⟨vt,rfl,.ref a,rfl,a,_,dx,_,rfl,ha,T.c_TreeReader,T.na_TreeReader_finished,(show 2<1000 by decide),?_⟩
   have ec:cs=[]:=by cases M1.cl;rfl
   have et:ts=[]:=by cases M1.cl;rfl
   refine q F0 _ ⟨Same.refl _,λx o e=>?_,λx o n e=>?_,λx _ n _=>n,λ_ _ _ z=>z⟩ ⟨λx o e=>?_,⟨vt,?_,pt⟩,?_,?_,M1.fa,M1.fb,M1.bc,M1.bt⟩
   ·rw[u0e (λz=>by rw[z,M1.fa] at e;cases e)];exact M1.fh x o e
   ·rw[u0e (λz=>n (.inl z))];exact s1.hh x o e
   ·rw[u0e (λz=>by rw[z,M1.fa] at e;cases e)];exact M1.fh x o e
   ·rw [u0c]
    unfold rdF;rw[putF_eq]
   ·rw[u0e M1.ab.symm];exact M1.hb
   ·rw[ec,et];exact .nil
  | cons p st =>
   obtain⟨n,ms⟩:=p;have M1':=M1;obtain⟨fh1,⟨vf,ha,pf⟩,hb,cl,fa,fb,bc,bt⟩:=M1;cases cl with
   | @cons t c x xs d _ ts' cs' _ ht hx hc hs fc n1 n2 n3 n4 r =>
   have R1:Rel K (H1,H1) [some (.val (rdD A ⟨fin,(n,ms)::st⟩ (c::cs'))),none,none] (start ["self","tree","children"] [.ref a,vt]) H1 H1:=Sls.rel (.val M1'.rp (.no (.no .nil))) (Same.refl H1);refine⟨_,H1,_,R1,u0w (.hdl c) ?_ λv2 F2 H2 s2 p2=>?_⟩
   ·simp [v1A,opD,u3Z,dNeg]
    exact congrArg noE (ix_1 _ _ _)
   cases rpV p2 rfl;have hc2:=s2.hh _ _ hc;have lx:xs.length=ms.length:=by have:=hs.length;simpa using this
   have lm:ms.length<=1000:=hl (n,ms) z6;refine⟨.ref c,rfl,.inl ⟨rfl,xs,.inl (.inl hc2)⟩,vt,rfl,c,xs,vt,rfl,rfl,hc2,by rw[lx];exact z1D lm (by decide),?_⟩
   have M2:=M1'.only s2.hh;generalize h3:upd H2 c (.lst (xs++[vt]))=H3;have e3:H3 c=some (.lst (xs++[vt])):=by rw[<- h3];exact u0c
   have k3:∀x,x≠c->H3 x=H2 x:=λx n=>by rw[<- h3,u0e n]
   have f3:Same F0 H3:=λx o e=>by rw[k3 x (λz=>by rw[z,fc] at e;cases e)];exact M2.fh x o e
   have ps3:Rps K H3 (xs++[vt]) ((ms++[m]).map (tr A)):=by
    rw[z0A];exact(hs.same f3).append (.cons (pt.same f3) .nil)
   have R3:Rel K (H3,H3) [none,none,some (.val (.lst ((ms++[m]).map (tr A))))] ((start ["self","tree","children"] [.ref a,vt]).set 2 (some (.ref c))) H3 H3:=Sls.rel (.no (.no (.val (.lst (.inl e3) ps3) .nil))) (Same.refl H3);refine⟨_,H3,_,R3,u0w (.bl (decide (ms.length+1<=4))) ?_ λv4 F4 H4 s4 p4=>?_⟩
   ·simp [gLen]
    omega
   cases rpV p4 rfl;have ca:c≠a:=M1'.ac c (.inr z6);have cb:c≠b:=λz=>bc (by rw[z];exact z6)
   refine q F0 H4 ⟨Same.refl _,f3.trans s4.hh,λx o n e=>?_,λx _ n _=>n,λ_ _ _ z=>z⟩ ⟨f3.trans s4.hh,⟨vf,?_,pf⟩,?_,?_,fa,fb,bc,bt⟩
   ·refine s4.hh x o ?_
    rw[k3 x (λz=>n (.inr (.inr (by rw[z];exact x0 _ z6))))]
    exact s2.hh x o (s1.hh x o e)
   ·refine s4.hh a _ ?_
    rw[k3 a ca.symm];exact s2.hh _ _ ha
   ·refine s4.hh b _ ?_
    rw[k3 b cb.symm];exact s2.hh _ _ hb
   ·refine .cons (x:=x) (xs:=xs++[vt]) (s4.hh _ _ (by rw [k3 t n4];exact s2.hh _ _ ht)) hx (s4.hh _ _ e3) ?_ fc n1 n2 n3 n4 ?_
    ·rw [z0A]
     exact hs.append (.cons pt .nil)
    ·refine r.same (Same.refl _) (fun y o hy e=>s4.hh _ _ ?_) fun z hz=>r.free z hz
     rw[k3 y (λz=>hy.elim (λh=>n2 (z ▸ h)) λh=>n1 (z ▸ h))]
     exact s2.hh _ _ e
def CMeth (P:Program) (w:World) (K:W.Frag) (mg:MG) (base:Heap) (k:Nat) (C:Addr) (m:Str) (ps:List Str) (sp:Sp):Prop :=
 ∃a fd,Cls K C/\Meth K C m a/\FnOk P w K mg base CX0 k a fd ps sp/\Binds K fd ps []
open Classical in
noncomputable def fpl (F H:Hp) (S:Addr->Prop):Hp:=λx=>if S x then H x else F x
def u1w{F:Hp}{S:Addr->Prop} (h:Same F H):Same F (fpl F H S):=λx o e=>by
 unfold fpl;split
 ·exact h x o e
 ·exact e
def u3p{F:Hp}{S:Addr->Prop} (h:Same F H):Same (fpl F H S) H:=λx o e=>by
 unfold fpl at e;split at e
 ·exact e
 ·exact h x o e
def u3q{F:Hp}{S:Addr->Prop} (h:S x):fpl F H S x=H x:=if_pos h
def u2m{F:Hp}{S:Addr->Prop} (h:¬ S x):fpl F H S x=F x:=if_neg h
def Rng (s:RS):Prop:=∀p∈s.st,p.2.length<=1000
def spCls (K:W.Frag) (A:Adr):Sp:=λvs H Q _=>∃F a b dx s ts cs,vs=[.ref a]/\Rdr K A F H a b dx s ts cs/\Rng s/\∀F' H' ts' cs',Chg (RP a b (ts++cs)) F H F' H'->Rdr K A F' H' a b dx (clsM s).2 ts' cs'->(∀z∈ts'++cs',z∈ts++cs)->Q (.bl (clsM s).1) H'
def NodeG (A:Adr) (g:List D->Res (List (Str×D))):Prop:=∀(n:Int) (ms:List Md),ms.length<=1000->∀{c:D},rowOf c=some (trs A ms)->g [.int n,c]=.ok [("number",.int n),("children",.tup (trs A ms)),("tree_size",.int (1+szs ms)),("tree_depth",.int (1+dps ms))]
def u4Z{m:Str} (h1:m≠"finished") (h2:m≠"opened"):(rdF vf b).lookup m=none:=by
 unfold rdF;rw[u6,beq_false_of_ne h1];show List.lookup m [(_,_)]=none;rw[u6,beq_false_of_ne h2];rfl
def v2S:(rdF vf b).lookup ("opened":Str)=some (.ref b):=by
 unfold rdF;rw[u6,beq_false_of_ne nFO.symm];show List.lookup _ [(_,_)]=_;rw[u6];simp
set_option tactic.hygienic true in
def v1D (m_finish:CMeth P w K mg base 1 A.TreeReader "finish" ["self","tree"] (spFin K A)) {g_Node:List D->Res (List (Str×D))} (k_Node:KCalleeF P w K mg base 2 "Node" A.Node ["self","number","children"] g_Node) (a2b:NodeG A g_Node) (F:Fun K "close" "TreeReader.close" u0L f fd) (T:Txt K mg A):FnOk P w K mg base CX0 4 f fd ["self"] (spCls K A) :=
 F.ok (k:=3) u0Y (λvs H Q E h=>by obtain⟨F,a,b,dx,s,ts,cs,e,_⟩:=h;rw[e];rfl) λcdv Ar outer s0 H vs Q E hr h=>by
  obtain⟨F0,a,b,dx,s,ts,cs,rfl,M,hl,q⟩:=h;obtain⟨ff,fdf,cC,hm,G,hbd⟩:=m_finish;refine⟨_,u0i (u1F (DT.out (xq:=xqF) (u0o (o_eq (hu64 hr)) (d_B u0T T.z_len (by decide +kernel) (u0a (u7q T.c_TreeReader T.na_TreeReader_opened (dv 0)) u0b)) u0d)) (u0n (u0H u4u)) u0G)
   (u0i (ps_n u0Y.nd (u9N PySem.F.plainAttrs_list PySem.F.slot_list_pop PySem.F.type_list_pop v0e (u5T (u0v (i:=0) rfl (Or.inl rfl)) rfl)))
   (u0n (u0H (u7c (u0v (i:=0) rfl (Or.inl rfl)) cC hm G (hr.mono (by decide)) hbd .nil pass0 (pac (DE.out (xq:=xqF) (u5u k_Node hr (u0a (d_ix x_ix (dv 1) u0d) (u0a (d_ix x_ix (dv 1) u0d) u0b)))) u0t))))),?_⟩
  have R0:Rel K (H,H) [some (.val (rdD A s cs)),none] (start ["self","opened"] [.ref a]) H H:=Sls.rel (.val M.rp (.no .nil)) (Same.refl H);have ln:=u7N M.cl;refine⟨_,H,_,R0,u0w (decide (s.st.length=0)) (by simp[frz,frzS,v1A,gLen,ln,eq0]) λH1 s1=>?_⟩
  have M1:=M.only s1.hh;obtain⟨fin,st⟩:=s;cases st with
  | nil=>exact q F0 H1 ts cs (Stp.only M.fh s1.hh).chg M1 λz h=>h
  | cons p st =>
   obtain⟨n,ms⟩:=p;have M1':=M1;obtain⟨fh1,⟨vf,ha,pf⟩,hb,cl,fa,fb,bc,bt⟩:=M1;cases cl with
   | @cons t c x xs d _ ts' cs' _ ht hx hc hs fc n1 n2 n3 n4 r =>
   cases hx;have lm:ms.length<=1000:=hl (n,ms) z6;have hrev:((t::ts').reverse.map V.ref)=ts'.reverse.map V.ref++[.ref t]:=by simp
   refine⟨.ref a,rfl,a,_,dx,_,_,rfl,ha,T.c_TreeReader,T.na_TreeReader_opened,v2S,.inl ⟨rfl,_,.inl (.inl hb)⟩,b,_,.ref t,rfl,rfl,hb,by rw[hrev];simp,?_⟩
   rw[hrev,List.dropLast_concat];generalize h2:upd H1 b (.lst (ts'.reverse.map V.ref))=H2;have e2:H2 b=some (.lst (ts'.reverse.map V.ref)):=by rw[<- h2];exact u0c
   have k2:∀x,x≠b->H2 x=H1 x:=λx n=>by rw[<- h2,u0e n]
   have tb:t≠b:=λz=>bt (by rw[z];exact z6)
   have cb:c≠b:=λz=>bc (by rw[z];exact z6)
   have ta:t≠a:=M1'.ac t (.inl z6);have ca:c≠a:=M1'.ac c (.inr z6);have ab:a≠b:=M1'.ab;have f2:Same F0 H2:=λx o e=>by rw[k2 x (λz=>by rw[z,fb] at e;cases e)];exact fh1 x o e
   let S:Addr->Prop:=λx=>x=t\/x=c
   have ht2:fpl F0 H2 S t=some (.tup [.int n,.ref c]):=by rw[u3q (.inl rfl),k2 t tb];exact ht
   have hc2:fpl F0 H2 S c=some (.lst xs):=by rw[u3q (.inr rfl),k2 c cb];exact hc
   have hm2:trs A ms=ms.map (tr A):=u2M A ms;have pt:Rp K (fpl F0 H2 S) (.ref t) (.tup [.int n,.lst (trs A ms)]):=.tup (.inl (.inl ht2)) (.cons (.int n) (.cons (.lst (.inl hc2) (by rw[hm2];exact hs.same (u1w f2))) .nil))
   refine⟨.ref a,rfl,a,dx,_,rfl,by rw[k2 a ab];exact ha,u4Z (by decide +kernel) (by decide +kernel),?_⟩
   have R2:Rel K (fpl F0 H2 S,H2) [none,some (.val (.tup [.int n,.lst (trs A ms)]))] ((start ["self","opened"] [.ref a]).set 1 (some (.ref t))) (fpl F0 H2 S) H2:=Sls.rel (.no (.val pt .nil)) (u3p f2);refine⟨_,_,_,R2,u0w (tr A (.node n ms)) ?_ λv3 F3 H3 s3 p3=>?_⟩
   ·simp [ix_0,ix_1,a2b n ms lm (c:=.lst (trs A ms)) rfl]
    rfl
   have M2:Rdr K A (fpl F0 H2 S) H2 a b dx ⟨fin,st⟩ ts' cs':=by
    refine⟨u3p f2,⟨vf,by rw[k2 a ab];exact ha,pf.same (u1w f2)⟩,e2,r.same (u1w f2) (λy o hy e=>?_) λz hz=>?_,?_,?_,λz=>bc (z5 _ z),λz=>bt (z5 _ z)⟩
    ·rw[k2 y (λz=>hy.elim (λh=>bt (z ▸ z5 _ h)) λh=>bc (z ▸ z5 _ h))];exact e
    ·rw[u2m (λh=>h.elim (λe=>n3 (e ▸ hz)) λe=>n1 (e ▸ hz))];exact r.free z hz
    ·rw[u2m (λh=>h.elim (λe=>ta e.symm) λe=>ca e.symm)];exact fa
    ·rw[u2m (λh=>h.elim (λe=>tb e.symm) λe=>cb e.symm)];exact fb
   have c1:Chg (RP a b ((t::ts')++(c::cs'))) F0 H F3 H3:=by
    refine⟨(u1w f2).trans s3.ff,s3.fh,λx o np e=>?_,λx np nx hx=>?_,λy o u z=>?_⟩
    ·refine s3.hh x o ?_
     rw[k2 x (λz=>np (.inr (.inl z)))]
     exact s1.hh x o e
    ·have nS:¬ S x:=fun h=>np (.inr (.inr (h.elim (fun e=>e ▸ r9 _ z6) fun e=>e ▸ x0 _ z6)))
     refine s3.no x (by rw[u2m nS];exact nx) ?_
     rw[k2 x (λz=>np (.inr (.inl z)))]
     exact u0Q s1.hh hx
    ·have:=s3.nz y o u z
     unfold fpl at this;split at this
     ·rename_i h
      rcases h with rfl|rfl
      ·rw[k2 _ tb,ht] at this;cases this
      ·rw[k2 _ cb,hc] at this;cases this
     ·exact this
   refine⟨F3,a,b,dx,⟨fin,st⟩,ts',cs',.node n ms,v3,rfl,M2.step s3,p3,λp hp=>hl p (z5 _ hp),λF' H' c2 M3=>?_⟩
   have sub:∀z∈ts'++cs',z∈(t::ts')++(c::cs'):=λz h=>by
    rcases v6.mp h with h|h
    ·exact r9 _ (z5 _ h)
    ·exact x0 _ (z5 _ h)
   exact q F' H' ts' cs' (c1.trans c2 λz h=>.inl (h.elim .inl λh=>.inr (h.elim .inl λh=>.inr (sub z h)))) M3 sub
end K15
namespace K15
open PySem L2 PySem.Spec PyProof.Rows PySem.Builtin.Str
variable {z:Str}{n d L S:Nat}{K:W.Frag}{H:Hp}{hs told ws:List Str}{P:Program}{w:World}{mg:MG}{base:Heap}{f b:Addr}{fd:FuncData}{A:Adr}{s:RS}{m:Md}{B:Hp×Hp}{tb t:Rho->Out}{T:Ends}{ρ:Rho}{ds:List D}{rt ms cs:List Md}{fT:Rho->Res Bool}{γ α:Type}{fe:Rho->Res D}{a o:Out}{r:Res D}{v:D}
def u0p (z:Str):z.cps.toList.length=z.length:=by rw[z0J];rfl
def u8d(h:z.length=0):z=Str.empty:=u0O (by
 have:z.cps.toList=[]:=List.eq_nil_of_length_eq_zero (by rw[u0p];exact h)
 rw[this];rfl)
def u6L (z:Str) (n:Nat):(Txt.slice z (some (n:Int)) none).cps.toList=z.cps.toList.drop n:=by
 have hl:=u0p z;by_cases c:n<=z.length
 ·rw [slice_from_eq (b:=(z.length:Int)) (by omega) (by omega) rfl]
  show((z.cps.toList.drop (n:Int).toNat).take _)=_;rw[Int.toNat_natCast,List.take_of_length_le (by rw[z2F];omega)]
 ·rw [slice_beyond (by omega),List.drop_of_length_le (by omega)]
  rfl
def sl_to(h:n<=z.length):(Txt.slice z none (some (n:Int))).cps.toList=z.cps.toList.take n:=by
 rw[eq_of_beq (slice_closes_toL (x:=z) (j:=(n:Int)) (by omega) (by omega))]
 show((z.cps.toList.drop (0:Int).toNat).take _)=_;simp
def sl_one (z:Str):(Txt.slice z none (some 1)).cps.toList=z.cps.toList.take 1:=by
 by_cases c:1<=z.length
 ·exact sl_to (n:=1) c
 ·rw[u8d (z:=z) (by omega)];decide +kernel
def u9o (z:Str):(Txt.slice z none (some (-1))).cps.toList=z.cps.toList.dropLast:=by
 have hl:=u0p z;by_cases c:1<=z.length
 ·rw [eq_of_beq (slice_closes_to_neg (x:=z) (j:=-1) (k:=-1+z.length) (by omega) (by omega) rfl)]
  rw[List.dropLast_eq_take,hl];simp;congr 1;omega
 ·rw[u8d (z:=z) (by omega)];decide +kernel
def u6K (z:Str):(Txt.slice z (some (-1)) none).cps.toList=z.cps.toList.drop (z.length - 1):=by
 have hl:=u0p z;by_cases c:1<=z.length
 ·rw [eq_of_beq (slice_closes_from_neg (x:=z) (i:=-1) (a:=-1+z.length) (b:=z.length) (by omega) (by omega) rfl rfl)]
  show((z.cps.toList.drop _).take _)=_;rw[List.take_of_length_le (by rw[z2F];omega)]
  congr 1;omega
 ·rw[u8d (z:=z) (by omega)];decide +kernel
def u8s (z:Str):Txt.startswith z "{"=opnS z:=by
 have hl:=u0p z;unfold Txt.startswith opnS subAt;have e:(("{":Str).length)=1:=by decide +kernel
 have e2:("{":Str).cps=#[123]:=by decide +kernel
 rw[e,e2];by_cases c:1<=z.length
 ·rw [decide_eq_true (show 0+1<=z.length by omega),Bool.true_and]
  have:(z.cps.extract 0 (0+1)).toList=z.cps.toList.take 1:=by simp
  by_cases d:z.cps.toList.take 1=[123]
  ·rw [decide_eq_true d,beq_iff_eq]
   exact Array.toList_inj.mp (by rw[this,d])
  ·rw [decide_eq_false d,beq_eq_false_iff_ne]
   intro q;rw[q] at this;exact d this.symm
 ·rw[u8d (z:=z) (by omega)];decide +kernel
set_option tactic.hygienic true in
def u4C (z:Str):Txt.rstripChars z "}"=coreS z:=by
 have hl:=u0p z;have e:∀c:Nat,("}":Str).cps.contains c=decide (c=125):=λc=>by
  have:("}":Str).cps=#[125]:=by decide +kernel
  rw[this];by_cases d:c=125
  ·subst d;simp
  ·rw[decide_eq_false d];simp[d]
 have e2:(λc=>("}":Str).cps.contains c)=λc=>decide (c=125):=funext e
 have ht:=u3C z.cps.toList;have hlen:(coreL z.cps.toList).length<=z.cps.toList.length:=by
  unfold coreL;rw[z1C];exact y9 (List.dropWhile_sublist _).length_le (by simp)
 have hi:stripHi ("}":Str).cps.contains true z 0=(coreL z.cps.toList).length:=by
  show z.length - ((z.cps.toList.drop 0).reverse.takeWhile λc=>("}":Str).cps.contains c).length=_
  rw[e2,List.drop_zero]
  have:=congrArg List.length (List.takeWhile_append_dropWhile (p:=λc=>decide (c=125)) (l:=z.cps.toList.reverse))
  rw[u4,z1C] at this;unfold coreL;rw[z1C];omega
 have sub:(strSub z 0 (coreL z.cps.toList).length)=coreS z:=u0O (by
  show(z.cps.extract 0 _).toList=coreL z.cps.toList;rw[Array.toList_extract];simp
  conv=>lhs;arg 2;rw[<- ht]
  exact List.take_left)
 unfold Txt.rstripChars Txt.stripBy;split
 ·rename_i h
  have h:=(z2E.mp h).2;rw[show stripLo ("}":Str).cps.contains false z=0 from rfl,hi] at h
  have h:=eq_of_beq h;rw[<- sub,h];exact u0O (by show _=(z.cps.extract 0 _).toList;simp;rw[List.take_of_length_le (by omega)])
 ·unfold stripped
  rw[show stripLo ("}":Str).cps.contains false z=0 from rfl,hi]
  exact sub
def u6F (z:Str):Txt.slice z (some 1) none=tlS z:=u0O (u6L z 1)
def Gw (w:Str):Prop:=PyData.strOk w=true/\w.length<=1000
def spBeg (K:W.Frag) (A:Adr):Sp:=λvs H Q _=>∃F a b dx s ts cs w,vs=[.ref a,.str w]/\Rdr K A F H a b dx s ts cs/\Rng s/\Gw w/\∀F' H' ts' cs',Chg (RP a b (ts++cs)) F H F' H'->Rdr K A F' H' a b dx (begM s w).2 ts' cs'->(∀z∈ts'++cs',z∈ts++cs\/H z=none)->Q (.bl (begM s w).1) H'
def LeafG (A:Adr) (g:List D->Res (List (Str×D))):Prop:=∀s:Str,g [.str s]=.ok [("sign",.str s),("tree_size",.int 1),("tree_depth",.int 1)]
def tl_ok(h:PyData.strOk z=true):PyData.strOk (tlS z)=true:=by
 unfold PyData.strOk at h |-
 rw[Array.all_eq_true'] at h |-
 intro x mx;have mx:x∈z.cps.toList.drop 1:=u0.mpr mx;exact h x (u0.mp (z0G mx))
def Cells.len{F:Hp}{tp:Bool}{f:Md->D}{ts cs:List Addr}{st:List (D×List Md)} (h:Cells K F H tp f ts st cs):ts.length=st.length:=by
 induction h with
 | nil=>rfl
 | cons _ _ _ _ _ _ _ _ _ _ ih=>simp[ih]
theorem u6r:∀{hs:List Str},(∀b∈hs,PyData.strOk b=true)->cmpDs (hs.map D.str)=.ok (hs.map PyData.str)
 | [],_=>rfl
 | z::hs,h=>by
  simp[cmpDs,u4k (h z z6),u6r λb hb=>h b (z5 _ hb)]
def v0m(g:PyData.strOk z=true) (gs:∀b∈hs,PyData.strOk b=true) (neg:Bool):inD (.str z) (hs.map D.str) neg=.ok (.bl (if neg=true then !decide (z∈hs) else decide (z∈hs))):=by
 have e:((hs.map PyData.str).any λb=>PyData.eqv b (.str z))=decide (z∈hs):=by
  rw[List.any_map,Bool.eq_iff_iff,List.any_eq_true,decide_eq_true_eq];constructor
  ·rintro ⟨q,hq,e⟩
   simp only[Function.comp,v0w,beq_iff_eq] at e;rw[<- e];exact hq
  ·intro h
   exact⟨z,h,by simp only[Function.comp,v0w,beq_iff_eq]⟩
 simp only[inD,u4k g,u6r gs,Res.bind_ok,e]
def u9Y (z:Str):decide (z∈NUMS)=(numS z).isSome:=by
 unfold numS;cases h:NUMS.idxOf? z with
 | none =>
  have:=List.idxOf?_eq_none_iff.mp h
  rw[decide_eq_false this];rfl
 | some n =>
  obtain⟨hl,e,_⟩:=List.idxOf?_eq_some_iff.mp h;rw[decide_eq_true (e ▸ z2J hl)];rfl
def u9X:∀b∈NUMS,PyData.strOk b=true:=by decide +kernel
def in_nums(h:PyData.strOk z=true):dNotIn (.str z) (.tup (NUMS.map D.str))=.ok (.bl (numS z).isNone):=by
 show inD _ _ true=_;rw[v0m h u9X,if_pos rfl,u9Y];cases numS z<;>rfl
def u9Z(h:numS z=some n):gIntS [.str z]=.ok (.int n):=by
 obtain⟨h1,rfl⟩:=v2Y h
 have:∀n:Nat,n<20->PySem.intText? (nmS n)=some (n:Int)/\(nmS (n:Int)).length<=640:=by decide +kernel
 unfold gIntS;simp only[(this n h1).1];exact u0u (this n h1).2
def v1E (m_finish:CMeth P w K mg base 1 A.TreeReader "finish" ["self","tree"] (spFin K A)) {a2n:FD} (a1y:Callee P w K mg base 2 "is_sign" ["thing"] (spF K a2n)) {g_Leaf:List D->Res (List (Str×D))} (k_Leaf:KCalleeF P w K mg base 1 "Leaf" A.Leaf ["self","sign"] g_Leaf) (a2c:LeafG A g_Leaf) (a1v:∀z,Gw z->a2n [.str z]=.ok (.bl (sgnS z)))
  (F:Fun K "begin" "TreeReader.begin" u0M f fd) (T:Txt K mg A):FnOk P w K mg base CX0 4 f fd ["self","word"] (spBeg K A) :=
 F.ok (k:=3) u1P (λvs H Q E h=>by obtain⟨F,a,b,dx,s,ts,cs,w,e,_⟩:=h;rw[e];rfl) λcdv Ar outer s0 H vs Q E hr h=>by
  obtain⟨F0,a,b,dx,s,ts,cs,z,rfl,M,hl,gz,q⟩:=h;obtain⟨ff,fdf,cC,hm,G,hbd⟩:=m_finish;refine⟨_,u0i (u1F (DT.out (xq:=xqF) (dt_w (u2v (u0o o_isnot (u7q T.c_TreeReader T.na_TreeReader_finished (dv 0)) u7p) (u1K (u0o o_ge (d_B u0T T.z_len (by decide +kernel) (u0a (u7q T.c_TreeReader T.na_TreeReader_opened (dv 0)) u0b)) (v0C T.g_DEEPEST)))))) (u0n (u0H u4u)) u0G)
   (u0i (u1F (DT.out (xq:=xqF) (u0D (d_fn a1y hr (u0a (dv 1) u0b)))) (u0n (u0H (u7c (u0v (i:=0) rfl (Or.inl rfl)) cC hm G (hr.mono (by decide)) hbd .nil pass0 (pac (DE.out (xq:=xqF) (u5u k_Leaf hr (u0a (dv 1) u0b))) u0t)))) u0G)
   (u0i (u1F (DT.out (xq:=xqF) (dt_w (u2v (u1x (u0D (v2u (dv 1)))) (u1K (u0o (u9V (hu100 hr)) (d_sl (dv 1) (u0s u0d) u0x) (v0C T.g_NUMBERS)))))) (u0n (u0H u4u)) u0G)
   (u0i (u1G (pbm PySem.F.plainAttrs_list PySem.F.slot_list_append PySem.F.type_list_append u1n (u5T (u0v (i:=0) rfl (Or.inl rfl)) rfl) (pac (u9J (pac (DE.out (xq:=xqF) (d_T v3m T.z_int (by decide +kernel) (u0a (d_sl (dv 1) (u0s u0d) u0x) u0b))) (pac (u2l u0t) u0t))) u0t)) rfl)
   (u0n (u0H u4u))))),?_⟩
  have zl:z.length<=sizeLine:=y9 gz.2 (by decide)
  have R0:Rel K (H,H) [some (.val (rdD A s cs)),none] (start ["self","word"] [.ref a,.str z]) H H:=Sls.rel (.val M.rp (.no .nil)) (Same.refl H);have ln:=u7N M.cl;refine⟨_,H,_,R0,u0w (s.fin.isSome||decide (500<=s.st.length)) ?_ λH1 s1=>?_⟩
  ·have e1:dIsNot (finD A s.fin) .non=.ok (.bl s.fin.isSome):=by
    cases s.fin with
    | none=>rfl
    | some m=>cases m<;>rfl
   cases c9:s.fin.isSome with
   | true=>rw[c9] at e1;simp[frz,frzS,u9x,e1]
   | false =>
    rw[c9] at e1;simp[frz,frzS,u9x,v1A,gLen,ln,e1];omega
  have M1:=M.only s1.hh;have same0:∀H',Same H H'->(∀(x:Bool),begM s z=(x,s)->Q (.bl x) H'):=λH' h x e=>by
   have:=q F0 H' ts cs (Stp.only M.fh h).chg (by rw[e];exact M.only h) λz m=>.inl m
   rw[e] at this;exact this
  by_cases c0:s.fin.isSome=true\/500<=s.st.length
  ·have e0:(s.fin.isSome||decide (500<=s.st.length))=true:=by simpa using c0
   rw[e0];exact same0 H1 s1.hh false (if_pos c0)
  have e0:(s.fin.isSome||decide (500<=s.st.length))=false:=by
   rw[Bool.or_eq_false_iff];exact⟨by simpa using λh=>c0 (.inl h),decide_eq_false λh=>c0 (.inr h)⟩
  rw[e0];have R1:Rel K (F0,H1) [none,some (.val (.str z))] (start ["self","word"] [.ref a,.str z]) F0 H1:=Sls.rel (.no (.val (.str zl) .nil)) M1.fh;refine⟨_,F0,_,R1,u0w (sgnS z) (by simp[frz,frzS,a1v z gz]) λH2 s2=>?_⟩
  have M2:=M1.only s2.hh;by_cases c1:sgnS z=true
  ·rw [c1]
   have eb:begM s z=putM s (.leaf z):=by unfold begM;rw[if_neg c0,if_pos c1]
   obtain⟨vf,ha,pf⟩:=M2.ha;refine⟨.ref a,rfl,a,dx,_,rfl,ha,u4Z (by decide +kernel) (by decide +kernel),?_⟩
   have R2:Rel K (F0,H2) [none,some (.val (.str z))] (start ["self","word"] [.ref a,.str z]) F0 H2:=Sls.rel (.no (.val (.str zl) .nil)) M2.fh;refine⟨_,F0,_,R2,u0w (tr A (.leaf z)) (by simp[a2c z];rfl) λv3 F3 H3 s3 p3=>?_⟩
   refine⟨F3,a,b,dx,s,ts,cs,.leaf z,v3,rfl,M2.step s3,p3,hl,λF' H' c2 M3=>?_⟩
   have:=q F' H' ts cs (((Stp.only M.fh (s1.hh.trans s2.hh)).trans s3).chg.trans c2 λz h=>.inl h) (by rw[eb];exact M3) λz m=>.inl m
   rw[eb] at this;exact this
  have c1f:sgnS z=false:=Bool.not_eq_true _ ▸ c1;rw[c1f];have R2:Rel K (F0,H2) [none,some (.val (.str z))] (start ["self","word"] [.ref a,.str z]) F0 H2:=Sls.rel (.no (.val (.str zl) .nil)) M2.fh;have tok:PyData.strOk (tlS z)=true:=tl_ok gz.1;refine⟨_,F0,_,R2,u0w (!opnS z||(numS (tlS z)).isNone) ?_ λH3 s3=>?_⟩
  ·have e1:startsD "{" (.str z)=.ok (.bl (opnS z)):=by show Res.ok (D.bl _)=_;rw [u8s]
   have e2:dSl (.str z) (some 1) none=.ok (.str (tlS z)):=by show Res.ok (D.str _)=_;rw[u6F]
   have e3:=in_nums tok;simp only[NUMS,z0C,List.map_nil] at e3;cases c9:opnS z with
   | false=>rw[c9] at e1;simp[frz,frzS,e1]
   | true=>rw[c9] at e1;simp[frz,frzS,e1,e2,asI,e3]
  have M3:=M2.only s3.hh;have s13:Same H H3:=(s1.hh.trans s2.hh).trans s3.hh;cases c2:opnS z with
  | false =>
   refine same0 H3 s13 false ?_;unfold begM;rw[if_neg c0,if_neg c1,c2,if_neg (by simp)]
  | true =>
  cases c3:numS (tlS z) with
  | none =>
   refine same0 H3 s13 false ?_;unfold begM;rw[if_neg c0,if_neg c1,c2,if_pos rfl,c3]
  | some n =>
  have eb:begM s z=(true,⟨s.fin,((n:Int),[])::s.st⟩):=by
   unfold begM;rw[if_neg c0,if_neg c1,c2,if_pos rfl,c3]
  show _;obtain⟨vf,ha,pf⟩:=M3.ha;refine⟨.ref a,rfl,a,_,dx,_,_,rfl,ha,T.c_TreeReader,T.na_TreeReader_opened,v2S,.inl ⟨rfl,_,.inl (.inl M3.hb)⟩,?_⟩;have R3:Rel K (F0,H3) [none,some (.val (.str z))] (start ["self","word"] [.ref a,.str z]) F0 H3:=Sls.rel (.no (.val (.str zl) .nil)) M3.fh;refine⟨_,F0,_,R3,u0w (.int n) ?_ λv4 F4 H4 s4 p4=>?_⟩
  ·have e2:dSl (.str z) (some 1) none=.ok (.str (tlS z)):=by show Res.ok (D.str _)=_;rw [u6F]
   simp[asI,e2,u9Z c3]
  cases rpV p4 rfl;have M4:=M3.only s4.hh;refine⟨z0E _,λc hc=>⟨(show 2<=sizeLine by decide),λt ht=>?_⟩⟩
  have tc:t≠c:=λe=>by rw[e,u0c] at ht;cases ht
  have ht4:H4 t=none:=by rw[u0e tc] at ht;exact ht
  have bn:∀x,H4 x≠none->x≠c/\x≠t:=λx h=>⟨λe=>h (e ▸ hc),λe=>h (e ▸ ht4)⟩
  have hb4:=M4.hb;have bb:=bn b (by rw[hb4];simp)
  have k5:∀x o,H4 x=some o->(upd (upd H4 c (.lst [])) t (.tup [.int n,.ref c])) x=some o:=λx o e=>by
   have:=bn x (by rw[e];simp)
   rw[u0e this.2,u0e this.1];exact e
  have lts:ts.length<=500:=by
   have e:ts.length=s.st.length:=by have:=M4.cl.len;simpa[stD] using this
   have:¬ 500<=s.st.length:=λh=>c0 (.inr h)
   omega
  refine⟨b,_,.ref t,rfl,rfl,k5 b _ hb4,by rw[x9,z1C];exact z1D lts (by decide),?_⟩
  generalize h5:upd (upd (upd H4 c (.lst [])) t (.tup [.int n,.ref c])) b (.lst (ts.reverse.map V.ref++[.ref t]))=H5;have k6:∀x o,x≠b->H4 x=some o->H5 x=some o:=λx o nb e=>by rw[<- h5,u0e nb];exact k5 x o e
  have s14:Same H H4:=s13.trans s4.hh;have f5:Same F0 H5:=λx o e=>k6 x o (λq=>by rw[q,M4.fb] at e;cases e) (M4.fh x o e)
  have n5:∀x,x∈ts\/x∈cs->x≠c/\x≠t:=λx m=>bn x (M4.cl.there x m)
  have M5:Rdr K A F0 H5 a b dx ⟨s.fin,((n:Int),[])::s.st⟩ (t::ts) (c::cs):=by
   obtain⟨vf,ha,pf⟩:=M4.ha;refine⟨f5,⟨vf,k6 a _ M4.ab ha,pf⟩,by rw[<- h5,u0c];simp,?_,M4.fa,M4.fb,?_,?_⟩
   ·refine .cons (x:=.int n) (xs:=[]) (by rw [<- h5,u0e bb.2.symm,u0c];rfl) (.int n) (by rw [<- h5,u0e bb.1.symm,u0e tc.symm,u0c]) .nil (M4.fh.free hc) (fun m=>(n5 c (.inr m)).1 rfl) (fun m=>(n5 c (.inl m)).1 rfl) (fun m=>(n5 t (.inr m)).2 rfl) tc ?_
    refine M4.cl.same (Same.refl _) (λy o hy e=>k6 y o (λq=>?_) e) λz hz=>M4.cl.free z hz
    rcases hy with hy|hy
    ·exact M4.bt (q ▸ hy)
    ·exact M4.bc (q ▸ hy)
   ·intro m
    rcases z7.mp m with e|m
    ·exact bb.1 e
    ·exact M4.bc m
   ·intro m
    rcases z7.mp m with e|m
    ·exact bb.2 e
    ·exact M4.bt m
  have:=q F0 H5 (t::ts) (c::cs) ⟨Same.refl _,f5,λx o np e=>k6 x o (λe=>np (.inr (.inl e))) (s14 x o e),λx _ n _=>n,λ_ _ _ z=>z⟩ (by rw[eb];exact M5) λy m=>by
   rcases v6.mp m with m|m
   ·rcases z7.mp m with e | m
    ·exact .inr (e ▸ s14.free ht4)
    ·exact .inl (r9 _ m)
   ·rcases z7.mp m with e | m
    ·exact .inr (e ▸ s14.free hc)
    ·exact .inl (x0 _ m)
  rw[eb] at this;exact this
def Sz (n:Nat) (s:RS):Prop:=szs s.fin.toList+stz s.st<=n
def v2U(h:Sz n s):Sz (n+sz m) (putM s m).2:=by
 obtain⟨fin,st⟩:=s;cases st with
 | nil=>unfold Sz at h |-;simp[putM,szs,stz] at h |-
 | cons p st =>
  obtain⟨k,ms⟩:=p;unfold Sz at h |-
  simp[putM,u2N,szs,stz] at h |-
  omega
def v0J(h:Sz n s):Sz n (clsM s).2:=by
 obtain⟨fin,st⟩:=s;cases st with
 | nil=>exact h
 | cons p st =>
  obtain⟨k,ms⟩:=p;have h0:szs ms+1<=n:=by
   unfold Sz at h;simp[stz] at h;omega
  have:Sz (n - (szs ms+1)) ⟨fin,st⟩:=by
   unfold Sz at h |-
   simp[stz] at h |-
   omega
  have:=v2U (m:=.node k ms) this
  rw[show n - (szs ms+1)+sz (.node k ms)=n by simp[sz];omega] at this
  exact this
def v0W{w:Str} (h:Sz n s):Sz (n+1) (begM s w).2:=by
 have h':Sz (n+1) s:=Nat.le_succ_of_le h;unfold begM;split
 ·exact h'
 ·split
  ·exact v2U (m:=.leaf w) h
  ·split
   ·split
    ·unfold Sz at h |-
     simp[stz,szs] at h |-
     omega
    ·exact h'
   ·exact h'
theorem u9l {p:Int×List Md}:∀{st:List (Int×List Md)},p∈st->szs p.2+1<=stz st
 | q::st,m=>by
  rcases z7.mp m with rfl|m
  ·simp[stz]
  ·have:=u9l m
   simp[stz] at this |-
   omega
def Sz.rng(h:Sz n s) (hn:n<=1000):Rng s:=λp m=>by
 have l:=u3e p.2
 have:szs p.2+1<=stz s.st:=by
  exact u9l m
 unfold Sz at h;omega
def v0G(h:Gw z):Gw (coreS z):=by
 have e:=u3C z.cps.toList;refine⟨?_,?_⟩
 ·have h:=h.1
  unfold PyData.strOk at h |-
  rw[Array.all_eq_true'] at h |-
  intro x mx;have mx:x∈(coreS z).cps.toList:=u0.mpr mx;exact h x (u0.mp (e ▸ (r9 (List.replicate (z.cps.toList.length - (coreL z.cps.toList).length) 125) mx)))
 ·have h2:=congrArg List.length e
  rw[u4,u0p] at h2
  have:(coreS z).length=(coreL z.cps.toList).length:=(u0p (coreS z)).symm
  have:=h.2
  omega
def u8k (z:Str):(coreS z).length<=z.length:=by
 rw[<- u4C];exact len_rstripChars z _
def spTak (K:W.Frag) (A:Adr):Sp:=λvs H Q _=>∃F a b dx s ts cs w n,vs=[.ref a,.str w]/\Rdr K A F H a b dx s ts cs/\Sz n s/\n+1<=1000/\Gw w/\∀F' H' ts' cs',Chg (RP a b (ts++cs)) F H F' H'->Rdr K A F' H' a b dx (takW s w).2 ts' cs'->(∀z∈ts'++cs',z∈ts++cs\/H z=none)->Q (.bl (takW s w).1) H'
def u5b (m_begin:CMeth P w K mg base 4 A.TreeReader "begin" ["self","word"] (spBeg K A)) (m_close:CMeth P w K mg base 4 A.TreeReader "close" ["self"] (spCls K A)) (F:Fun K "takes_word" "takes_word" u1R f fd) (T:Txt K mg A):FnOk P w K mg base CX0 5 f fd ["reader","word"] (spTak K A) :=
 F.ok (k:=4) u1z (λvs H Q E h=>by obtain⟨F,a,b,dx,s,ts,cs,w,n,e,_⟩:=h;rw[e];rfl) λcdv Ar outer s0 H vs Q E hr h=>by
  obtain⟨F0,a,b,dx,s,ts,cs,z,n,rfl,M,hs,hn,gz,q⟩:=h;obtain⟨fB,fdB,cB,mB,GB,bB⟩:=m_begin;obtain⟨fC,fdC,cC,mC,GC,bC⟩:=m_close;refine⟨_,u0i (ps_n u1z.nd (DE.out (xq:=xqF) (v2v (dv 1) (λz=>len_rstripChars z _))))
   (u0i (u1F (u5J (u5I (u7c (u0v (i:=0) rfl (Or.inl rfl)) cB mB GB (hr.mono (by decide)) bB .nil pass0 (pac (u0v (i:=2) rfl (Or.inl rfl)) u0t)))) (u0n (u0H u4u)) u0G)
   (u0i (u4I PassesOwn.never rfl (DI.out (xq:=xqF) (u4f T.z_range (u0a (d_op u7d (d_B u0T T.z_len (by decide +kernel) (u0a (dv 1) u0b)) (d_B u0T T.z_len (by decide +kernel) (u0a (dv 2) u0b))) u0b))) (pg_n u1z.nd) (u0n (u1F (u5J (u5I (v1I (u0v (i:=0) rfl (Or.inl rfl)) cC mC GC (hr.mono (by decide)) bC .nil pass0))) (u0n (u0H u4u)) u0G)))
   (u0n (u0H u4u)))),?_⟩
  have zl:z.length<=sizeLine:=y9 gz.2 (by decide)
  have gc:=v0G gz;have cl:(coreS z).length<=sizeLine:=y9 gc.2 (by decide)
  have R0:Rel K (F0,H) [none,some (.val (.str z)),none,none] (start ["reader","word","begun","turn"] [.ref a,.str z]) F0 H:=Sls.rel (.no (.val (.str zl) (.no (.no .nil)))) M.fh;refine⟨_,F0,_,R0,u0w (.str (coreS z)) (by simp[stripD,u4C]) λv1 F1 H1 s1 p1=>?_⟩
  cases rpV p1 rfl;have M1:=M.step s1;obtain⟨vf,ha,_⟩:=M1.ha;refine⟨.ref a,rfl,a,dx,_,rfl,ha,u4Z (by decide +kernel) (by decide +kernel),.str (coreS z),rfl,?_⟩
  refine⟨F1,a,b,dx,s,ts,cs,coreS z,rfl,M1,hs.rng (by omega),gc,λF2 H2 ts2 cs2 c2 M2 n2=>⟨_,rfl,?_⟩⟩
  have c02:Chg (RP a b (ts++cs)) F0 H F2 H2:=s1.chg.trans c2 λz h=>.inl h
  have n02:∀z∈ts2++cs2,z∈ts++cs\/H z=none:=λz m=>(n2 z m).imp id λh=>s1.hh.free h
  cases e1:(begM s (coreS z)).1 with
  | false =>
   have et:takW s z=(false,(begM s (coreS z)).2):=by unfold takW;rw[e1,if_neg (by simp)]
   have:=q F2 H2 ts2 cs2 c02 (by rw[et];exact M2) n02
   rw[et] at this;exact this
  | true =>
  have et:takW s z=clsN (clsK z) (begM s (coreS z)).2:=by unfold takW;rw[e1,if_pos rfl]
  have sz2:Sz (n+1) (begM s (coreS z)).2:=v0W hs;have R2:Rel K (F2,H2) [none,some (.val (.str z)),some (.val (.str (coreS z))),none] ((start ["reader","word","begun","turn"] [.ref a,.str z]).set 2 (some (.str (coreS z)))) F2 H2:=Sls.rel (.no (.val (.str zl) (.val (.str cl) (.no .nil)))) M2.fh;refine⟨_,F2,_,R2,u0w (intL 0 (clsK z)) ?_ λJ F3 H3 s3 fd=>?_⟩
  ·have:=u8k z
   have g2:=gz.2;have e:(z.length:Int) - ((coreS z).length:Int)=((clsK z:Nat):Int):=by unfold clsK;omega
   have e2:dSub (.int (z.length:Int)) (.int ((coreS z).length:Int))=.ok (.int ((clsK z:Nat):Int)):=by rw[<- e];rfl
   have hk:clsK z<=1000:=by unfold clsK;omega
   simp[gLen,e2,v1y hk,-u2x,-u0J,-Res.bind_ok,-L2.go_ok,-Out.then_nx,bindN,goN,thenN]
  have M3:=M2.step s3;refine⟨λi m σ' H'=>m=clsK z - i/\i<=clsK z/\∃x3 F1 si ts1 cs1,σ'=[some (.ref a),some (.str z),some (.str (coreS z)),x3]/\Same F3 F1/\Chg (RP a b (ts++cs)) F0 H F1 H'/\Rdr K A F1 H' a b dx si ts1 cs1/\Sz (n+1) si/\(∀z∈ts1++cs1,z∈ts++cs\/H z=none)/\clsN (clsK z) (begM s (coreS z)).2=clsN (clsK z - i) si,
   ⟨clsK z,rfl,z0E _,none,F3,_,ts2,cs2,rfl,Same.refl _,c02.trans (s3.chg (P:=RP a b (ts2++cs2))) (λy h=>?_),M3,sz2,n02,rfl⟩,?_⟩
  ·exact h.elim (λe=>.inl (.inl e)) λh=>h.elim (λe=>.inl (.inr (.inl e))) λh=>(n02 y h).imp (λh=>.inr (.inr h)) id
  rintro i m σ' H' ⟨rfl,hi,x3,F4,si,ts4,cs4,rfl,f34,c4,M4,sz4,n4,e4⟩;by_cases hlt:i<clsK z
  ·right
   have ek:clsK z - i=(clsK z - (i+1))+1:=by omega
   have ln:(intL 0 (clsK z)).length=clsK z:=by simp[intL]
   refine⟨fd.go i H' (f34.trans M4.fh) (by omega),λσ2 H2=>∃x3 F1 si ts1 cs1,σ2=[some (.ref a),some (.str z),some (.str (coreS z)),x3]/\Same F3 F1/\Chg (RP a b (ts++cs)) F0 H F1 H2/\Rdr K A F1 H2 a b dx si ts1 cs1/\Sz (n+1) si/\(∀z∈ts1++cs1,z∈ts++cs\/H z=none)/\clsN (clsK z) (begM s (coreS z)).2=clsN (clsK z - (i+1)) si,
    λσ2 H2 p=>⟨clsK z - (i+1),by omega,rfl,hlt,p⟩,λx H5 y=>?_⟩
   obtain⟨d,hd⟩:∃d,(intL 0 (clsK z))[i]?=some d:=⟨_,u3 (by omega)⟩
   obtain⟨F5,s5,p5⟩:=fd.yld i F4 H' x H5 d f34 M4.fh hd y;have M5:=M4.step s5;obtain⟨vf,ha,_⟩:=M5.ha;refine⟨.ref a,rfl,a,dx,_,rfl,ha,u4Z (by decide +kernel) (by decide +kernel),?_⟩
   refine⟨F5,a,b,dx,si,ts4,cs4,rfl,M5,sz4.rng (by omega),λF6 H6 ts6 cs6 c6 M6 n6=>⟨_,rfl,?_⟩⟩
   have c06:Chg (RP a b (ts++cs)) F0 H F6 H6:=(c4.trans (s5.chg (P:=RP a b (ts4++cs4))) λy h=>h.elim (λe=>.inl (.inl e)) λh=>h.elim (λe=>.inl (.inr (.inl e))) λh=>(n4 y h).imp (λh=>.inr (.inr h)) id).trans c6 λy h=>h.elim (λe=>.inl (.inl e)) λh=>h.elim (λe=>.inl (.inr (.inl e))) λh=>(n4 y h).imp (λh=>.inr (.inr h)) id
   have n06:∀z∈ts6++cs6,z∈ts++cs\/H z=none:=λz m=>n4 z (n6 z m)
   rw[ek,clsN] at e4;cases e7:(clsM si).1 with
   | false =>
    rw[e7,if_neg (by simp)] at e4
    have ett:takW s z=(false,(clsM si).2):=et.trans e4
    have:=q F6 H6 ts6 cs6 c06 (by rw[ett];exact M6) n06
    rw[ett] at this;exact this
   | true =>
    rw[e7,if_pos rfl] at e4;exact⟨some x,F6,_,ts6,cs6,rfl,(f34.trans s5.ff).trans c6.ff,c06,M6,v0J sz4,n06,e4⟩
  ·left
   have e:i=clsK z:=by omega
   subst e;rw[Nat.sub_self,clsN] at e4;have ett:takW s z=(true,si):=et.trans e4
   have:=q F4 H' ts4 cs4 c4 (by rw[ett];exact M4) n4
   rw[ett] at this;exact⟨fd.stop _ H' (f34.trans M4.fh) (by simp[intL]),this⟩
structure Tx (t:Str):Prop where
 ok:PyData.strOk t=true
 len:t.length<=3000
 n:(splitS 32 t).length<=900
 w:∀w∈splitS 32 t,w.length<=1000
noncomputable def excN (A:Adr) (d:D):D:=.exc A.NoTree [("found",d)]
noncomputable def readR (A:Adr) (t:Str):Res D:=match readP t with
 | some m=>.ok (tr A m)
 | none=>.err (excN A (.str t))
noncomputable def readO (A:Adr) (t:Str):Out:=match readP t with
 | some m=>.rt (tr A m)
 | none=>.er (excN A (.str t)) [some (.val (.str t)),none,none]
open Classical in
noncomputable def tailR (A:Adr):Rho->Out
 | [some (.val (.str t)),none,none]=>if Tx t then readO A t else .bad
 | _=>.bad
structure ReadG (A:Adr) (G:FD):Prop where
 s:∀t,Tx t->G [.str t]=readR A t
 o:∀d,gIsI [A.Leaf,A.Node] [d,.ty "str"]=.ok (.bl false)->G [d]=.err (excN A d)
def Chg.stp{P:Addr->Prop}{F F' H':Hp} (st:Stp B.1 B.2 F H) (c:Chg P F H F' H') (n:∀x,P x->B.2 x=none):Stp B.1 B.2 F' H':=by
 have np:∀x,B.2 x≠none->¬ P x:=λx h p=>h (n x p)
 refine⟨st.ff.trans c.ff,c.fh,λx o e=>c.hh x o (np x (by rw[e];simp)) (st.hh x o e),λx h1 h2=>c.no x (np x h2) (st.no x h1 h2) (u0Q st.hh h2),λa o u z=>st.nz a o u (c.nz a o u z)⟩
theorem v0L:∀(k:Nat) (s:RS),Sz n s->Sz n (clsN k s).2
 | 0,s,h=>h
 | k+1,s,h=>by
  rw[clsN];split
  ·exact v0L k _ (v0J h)
  ·exact v0J h
def tak_sz{w:Str} (h:Sz n s):Sz (n+1) (takW s w).2:=by
 unfold takW;split
 ·exact v0L _ _ (v0W h)
 ·exact v0W h
def RKls (P:Program) (w:World) (K:W.Frag) (mg:MG) (base:Heap) (C:Addr):Prop :=
 ∃f fd,Mk K C f/\FnOk P w K mg base CX0 1 f fd ["self"] (spTI C)/\Binds K fd ["self"] []/\mg "TreeReader"=some (.ref C)
set_option tactic.hygienic true in
def u5M (a1b:Callee P w K mg base 5 "takes_word" ["reader","word"] (spTak K A)) (k_TreeReader:RKls P w K mg base A.TreeReader) (x_NoTree:XCalleeF P w K mg base 1 "NoTree" A.NoTree ["self","found"] ["found"]) (F:Fun K "read_tree" "read_tree" u2q f fd) (T:Txt K mg A) :
  ∃G,FnOk P w K mg base (CXe P w) 6 f fd ["text"] (spX K G)/\ReadG A G:=by
 obtain⟨fT,fdT,mk,GT,bT,gT⟩:=k_TreeReader;refine⟨_,F.okTX (k:=5) u1O (λcdv Ar outer s H E hr hq=>u0f (u0R (u1x (u0D (d_B (v2B T.isI) T.z_isinstance (by decide +kernel) (u0a (dv 0) (u0a (d_ty T.z_str (T:="str") (by decide +kernel)) u0b))))) (u0h (u5r hq rfl x_NoTree hr (u0a (dv 0) u0b))) u0y)
  (DB.of (f:=tailR A) (u0i (ps_n u1O.nd (v1J mk GT (hr.mono (by decide)) rfl gT bT .nil pass0))
   (u0i (u4I hq.ps rfl (DI.out (xq:=xq0 E) (u1Z (DN.de (u5t (c:=32) (dv 0))))) (pg_n u1O.nd) (u0n (u1F (u5J (u5I (u9L a1b hr (by decide) (pac (u0v (i:=1) rfl (Or.inl rfl)) (pac (u0v (i:=2) rfl (Or.inl rfl)) u0t)) rfl rfl rfl rfl rfl rfl))) (DB.out (xq:=xq0 E) (u0h (u5r hq rfl x_NoTree hr (u0a (dv 0) u0b)))) u0G)))
   (u0i (u1F (DT.out (xq:=xq0 E) (u0o o_is (u7q T.c_TreeReader T.na_TreeReader_finished (dv 1)) u7p)) (DB.out (xq:=xq0 E) (u0h (u5r hq rfl x_NoTree hr (u0a (dv 0) u0b)))) u0G)
   (u0n (u0H (DE.out (xq:=xq0 E) (u7q T.c_TreeReader T.na_TreeReader_finished (dv 1)))))))) (fun B F ρ σ H T9 R q=>by
    unfold tailR at q;split at q
    case h_2=>exact False.elim q.out
    rename_i t;split at q
    case isFalse=>exact False.elim q.out
    rename_i tx;have tl:t.length<=sizeLine:=y9 tx.len (by decide)
    obtain⟨x1,x2,rfl⟩:∃x1 x2,σ=[some (.str t),x1,x2]:=by
     obtain⟨v,e,p⟩:=R.val 0 (.str t) rfl;cases rpV p rfl;exact st3 R.len e
    intro a dx ha hdx nad;refine⟨a,dx,rfl,u0c,λH2 b st hb e2 eb=>⟨rfl,?_⟩⟩
    have hba:b≠a:=λz=>by rw[z,u0c] at hb;cases hb
    have hbx:b≠dx:=λz=>by rw[u0e hba,z,u0c] at hb;cases hb
    have hb0:H b=none:=by rw[u0e hba,u0e hbx] at hb;exact hb
    have up:Same H H2:=λx o e=>by
     have na:x≠a:=λz=>by rw[z,ha] at e;cases e
     have nd:x≠dx:=λz=>by rw[z,hdx] at e;cases e
     exact st x o na (by rw[u0e na,u0e nd];exact e)
    have M:Rdr K A F H2 a b dx RS0 [] []:=⟨R.fh.trans up,⟨.non,e2,.non⟩,eb,.nil,R.fh.free ha,R.fh.free hb0,(by simp),(by simp)⟩
    have c0:Chg (RP a b []) F H F H2:=(Stp.only R.fh up).chg;have pn:∀ts:List Addr,(∀z∈ts,H z=none)->∀x,RP a b ts x->H x=none:=λts h x p=>p.elim (λe=>e ▸ ha) λp=>p.elim (λe=>e ▸ hb0) λp=>h x p
    have R2:Rel K (F,H2) [some (.val (.str t)),none,none] ([some (.str t),some (.ref a),x2]:L2.St) F H2:=Sls.rel (.val (.str tl) (.no (.no .nil))) M.fh;generalize hws:splitS 32 t=ws at *
    have lw:ws.length<=900:=hws ▸ tx.n;refine⟨_,F,_,R2,u0w (ws.map D.str) ?_ λJ F3 H3 s3 fd=>?_⟩
    ·have e:splitD 32 (.str t)=.ok (.l (ws.map D.str)):=by
      show gd _ _=_;rw[u0u (y9 (Nat.succ_le_succ tx.len) (by decide)),hws]
     simp[e,OD.toD,u2t]
    have M3:=M.step s3;have go:∀{F6 H6:Hp}{x2:Option V},Chg (RP a b []) F H F6 H6->Rel K B [some (.val (.str t)),none,none] ([some (.str t),some (.ref a),x2]:L2.St) F6 H6:=λc=>Sls.relB (.val (.str tl) (.no (.no .nil))) (c.stp R.st λx p=>R.st.hh.free (pn [] (λ_ m=>nomatch m) x p))
    refine⟨λi m σ' H'=>m=ws.length - i/\i<=ws.length/\∃x2 F1 si ts1 cs1,σ'=[some (.str t),some (.ref a),x2]/\Same F3 F1/\Chg (RP a b []) F H F1 H'/\Rdr K A F1 H' a b dx si ts1 cs1/\Sz i si/\(∀z∈ts1++cs1,H z=none)/\rdW RS0 ws=rdW si (ws.drop i),
     ⟨ws.length,rfl,z0E _,x2,F3,RS0,[],[],rfl,Same.refl _,c0.trans (s3.chg (P:=RP a b [])) (λy h=>.inl h),M3,y0 _,(λ_ m=>nomatch m),rfl⟩,?_⟩
    rintro i m σ' H' ⟨rfl,hi,x2,F4,si,ts4,cs4,rfl,f34,c4,M4,sz4,n4,e4⟩;by_cases hlt:i<ws.length
    ·right
     have ln:(ws.map D.str).length=ws.length:=by simp
     refine⟨fd.go i H' (f34.trans M4.fh) (by omega),λσ2 H2=>∃x2 F1 si ts1 cs1,σ2=[some (.str t),some (.ref a),x2]/\Same F3 F1/\Chg (RP a b []) F H F1 H2/\Rdr K A F1 H2 a b dx si ts1 cs1/\Sz (i+1) si/\(∀z∈ts1++cs1,H z=none)/\rdW RS0 ws=rdW si (ws.drop (i+1)),
      λσ2 H2 p=>⟨ws.length - (i+1),by omega,rfl,hlt,p⟩,λx H5 y=>?_⟩
     have hd:(ws.map D.str)[i]?=some (.str ws[i]):=by simp[hlt]
     obtain⟨F5,s5,p5⟩:=fd.yld i F4 H' x H5 _ f34 M4.fh hd y;cases rpV p5 rfl;have M5:=M4.step s5;have mw:ws[i]∈ws:=z2J hlt;have gw:Gw ws[i]:=⟨u3A tx.ok _ (hws ▸ mw),tx.w _ (hws ▸ mw)⟩;refine⟨.ref a,rfl,.str ws[i],rfl,F5,a,b,dx,si,ts4,cs4,ws[i],i,rfl,M5,sz4,by omega,gw,λF6 H6 ts6 cs6 c6 M6 n6=>⟨_,rfl,?_⟩⟩
     have sub:∀y,RP a b (ts4++cs4) y->RP a b [] y\/H y=none:=λy h=>h.elim (λe=>.inl (.inl e)) λh=>h.elim (λe=>.inl (.inr (.inl e))) λh=>.inr (n4 y h)
     have c5:Chg (RP a b []) F H F5 H5:=c4.trans (s5.chg (P:=RP a b (ts4++cs4))) sub;have c06:Chg (RP a b []) F H F6 H6:=c5.trans c6 sub;have n06:∀z∈ts6++cs6,H z=none:=λz m=>(n6 z m).elim (n4 z) λh=>by
      cases e:H z with
      | none=>rfl
      | some o =>
       by_cases pz:RP a b [] z
       ·have:=pn [] (λ_ m=>nomatch m) z pz;rw[e] at this;exact this
       ·rw[c5.hh z o pz e] at h;cases h
     rw[z2A hlt,rdW] at e4;cases e7:(takW si ws[i]).1 with
     | false =>
      rw[e7,if_neg (by simp)] at e4
      have er:readP t=none:=by unfold readP;rw[hws,e4,if_neg (by simp)]
      have qo:=q.out;rw[show readO A t=_ from by unfold readO;rw[er]] at qo
      exact⟨B,F6,_,go c06,⟨qo⟩⟩
     | true =>
      rw[e7,if_pos rfl] at e4;exact⟨some (.str ws[i]),F6,_,ts6,cs6,rfl,(f34.trans s5.ff).trans c6.ff,c06,M6,tak_sz sz4,n06,e4⟩
    ·left
     have e:i=ws.length:=by omega
     subst e;rw[List.drop_length,rdW] at e4;have er:readP t=si.fin:=by unfold readP;rw[hws,e4,if_pos rfl]
     refine⟨fd.stop _ H' (f34.trans M4.fh) (by simp),?_⟩
     have R4:Rel K (H',H') [none,some (.val (rdD A si cs4)),none] ([some (.str t),some (.ref a),x2]:L2.St) H' H':=Sls.rel (.no (.val M4.rp (.no .nil))) (Same.refl _);refine⟨_,H',_,R4,u0w si.fin.isNone ?_ λH7 s7=>?_⟩
     ·have e1:dIs (finD A si.fin) .non=.ok (.bl si.fin.isNone):=by
       cases si.fin with
       | none=>rfl
       | some m=>cases m<;>rfl
      simp[frz,frzS,u9x,e1]
     have M7:=M4.only s7.hh;have c7:Chg (RP a b []) F H F4 H7:=c4.trans ((Stp.only M4.fh s7.hh).chg (P:=RP a b [])) λy h=>.inl h
     cases e7:si.fin with
     | none =>
      have qo:=q.out;rw[show readO A t=_ from by unfold readO;rw[er,e7]] at qo
      exact⟨B,F4,_,go c7,⟨qo⟩⟩
     | some m =>
      have qo:=q.out;rw[show readO A t=.rt (tr A m) from by unfold readO;rw[er,e7]] at qo
      obtain⟨vf,h1,h2⟩:=M7.ha;rw[e7] at h2
      let S:Addr->Prop:=λx=>x=a
      have R8:Rel K (fpl F4 H7 S,H7) [none,some (.val (.ins A.TreeReader [("finished",tr A m),("opened",.hdl b)])),none] ([some (.str t),some (.ref a),x2]:L2.St) (fpl F4 H7 S) H7:=Sls.rel (.no (.val (.ins ((u3q (S:=S) rfl).trans h1) (.cons (h2.same (u1w M7.fh)) (.cons (.hdl b) .nil))) (.no .nil))) (u3p M7.fh);refine⟨_,_,_,R8,u0w (tr A m) ?_ λv F9 H9 s9 p9=>?_⟩
      ·simp[fldD,u7j]
      have c8:Chg (RP a b []) F4 H7 (fpl F4 H7 S) H7:=⟨u1w M7.fh,u3p M7.fh,λx o _ e=>e,λx np n _=>by rw[u2m (S:=S) (x:=x) (λe=>np (.inl e))];exact n,λy o u z=>by
       unfold fpl at z;split at z
       ·rename_i h
        rw[show y=a from h,h1] at z;cases z
       ·exact z⟩
      have c9:Chg (RP a b []) F H F9 H9:=(c7.trans c8 λy h=>.inl h).trans (s9.chg (P:=RP a b [])) λy h=>.inl h
      exact qo v F9 H9 (c9.stp R.st λx p=>R.st.hh.free (pn [] (λ_ m=>nomatch m) x p)) p9))),?_⟩
 refine⟨λt tx=>?_,λd e1=>by simp[runX,startD,frz,frzS,e1];rfl⟩
 have e1:gIsI [A.Leaf,A.Node] [.str t,.ty "str"]=.ok (.bl true):=rfl;have e2:tailR A [some (.val (.str t)),none,none]=readO A t:=if_pos tx;simp[runX,startD,frz,frzS,e1];rw[e2];unfold readO readR;cases readP t<;>rfl
def forB (g:TG) (tb:TS) (T:Ends) (σ:L2.St) (J:It) (H1:Hp):Prop:=∃W:Nat->Nat->L2.St->Hp->Prop,(∃m,W 0 m σ H1)/\∀i m σ H,W i m σ H ->
 (J.stop i H/\T.nx σ H)\/(J.go i H/\∃N:L2.St->Hp->Prop,(∀σ' H',N σ' H'->∃m',m'<m/\W (i+1) m' σ' H')/\∀x H',J.yld i H x H'->g x σ H' λσ2 H2=>tb { T with nx:=N,ct:=N,bk:=T.nx } σ2 H2)
def v3d{xq:XQ}{fi:Rho->Res (List D)}{g:TG}{tb:TS}{σ:L2.St}{F:Hp} (R:Rel K B ρ σ F H) (e:fi ρ=.ok ds) (k:∀J F' H',Stp F H F' H'->Feed K F' J ds->forB g tb T σ J H'):tFor (liftI K xq fi) g tb T σ H :=
 ⟨B,F,ρ,R,by rw[e];exact k⟩
noncomputable def lsD (s:LS):List (D×List Md):=stD s.st++[(.non,s.rt)]
structure Pil (K:W.Frag) (F H:Hp) (b:Addr) (s:LS) (ts cs:List Addr):Prop where
 fh:Same F H
 hb:H b=some (.lst (ts.reverse.map V.ref))
 cl:Cells K F H false toD ts (lsD s) cs
 fb:F b=none
 bc:b∉cs
 bt:b∉ts
def RL (b:Addr) (cs:List Addr) (x:Addr):Prop:=x=b\/x∈cs
noncomputable def pilP:List (D×List Md)->List D
 | []=>[]
 | (d,ms)::r=>pilP r++[.lst [d,.lst (ms.map toD)]]
noncomputable def pilH:List (D×List Md)->List Addr->List D
 | (d,_)::r,c::cs=>pilH r cs++[.lst [d,.hdl c]]
 | _,_=>[]
section
variable {F F' H':Hp}{s:LS}{ts cs:List Addr}
theorem pil_p (fh:Same F H):∀{ts cs:List Addr}{L:List (D×List Md)},Cells K F H false toD ts L cs->Rps K H (ts.reverse.map V.ref) (pilP L)
 | _,_,[],h=>by cases h;exact .nil
 | _,_,(d,ms)::L,h=>by
  cases h with
  | cons ht hx hc hs fc n1 n2 n3 n4 r =>
   rw[List.reverse_cons,z0A,pilP];exact(pil_p fh r).append (.cons (.lst (.inl ht) (.cons (hx.same fh) (.cons (.lst (.inl hc) (hs.same fh)) .nil))) .nil)
theorem pil_h (fh:Same F H):∀{ts cs:List Addr}{L:List (D×List Md)},Cells K F H false toD ts L cs->Rps K H (ts.reverse.map V.ref) (pilH L cs)
 | _,_,[],h=>by cases h;exact .nil
 | _,_,(d,ms)::L,h=>by
  cases h with
  | cons ht hx hc hs fc n1 n2 n3 n4 r =>
   rw[List.reverse_cons,z0A,pilH];exact(pil_h fh r).append (.cons (.lst (.inl ht) (.cons (hx.same fh) (.cons (.hdl _) .nil))) .nil)
def Pil.p (M:Pil K F H b s ts cs):Rp K H (.ref b) (.lst (pilP (lsD s))):=.lst (.inl M.hb) (pil_p M.fh M.cl)
def Pil.h (M:Pil K F H b s ts cs):Rp K H (.ref b) (.lst (pilH (lsD s) cs)):=.lst (.inl M.hb) (pil_h M.fh M.cl)
theorem Pil.step (M:Pil K F H b s ts cs) (st:Stp F H F' H'):Pil K F' H' b s ts cs :=
 ⟨st.fh,st.hh _ _ M.hb,M.cl.step st,st.no _ M.fb (by rw[M.hb];simp),M.bc,M.bt⟩
theorem Pil.only (M:Pil K F H b s ts cs) (h:Same H H'):Pil K F H' b s ts cs:=M.step (Stp.only M.fh h)
theorem u2f:∀L,(pilP L).length=L.length
 | []=>rfl
 | (d,ms)::L=>by rw[pilP,u4,u2f L];rfl
end
def LSz (n:Nat) (s:LS):Prop:=szs s.rt+stz s.st<=n
def v1b{s:LS} (h:LSz n s):LSz (n+sz m) (addC s m):=by
 obtain⟨rt,st⟩:=s;cases st with
 | nil=>unfold LSz at h |-;simp[addC,u2N,szs,stz] at h |-;omega
 | cons p st =>
  obtain⟨k,ms⟩:=p;unfold LSz at h |-
  simp[addC,u2N,szs,stz] at h |-
  omega
def u9E{k:Int}{st:List (Int×List Md)} (h:LSz n ⟨rt,(k,ms)::st⟩):LSz n (addC ⟨rt,st⟩ (.node k ms)):=by
 have h0:szs ms+1<=n:=by
  unfold LSz at h;simp[stz] at h;omega
 have:LSz (n - (szs ms+1)) ⟨rt,st⟩:=by
  unfold LSz at h |-
  simp[stz] at h |-
  omega
 have:=v1b (m:=.node k ms) this
 rw[show n - (szs ms+1)+sz (.node k ms)=n by simp[sz];omega] at this
 exact this
def v1X (k:Int) (ms:List Md) (rt:List Md) (st:List (Int×List Md)):lsD ⟨rt,(k,ms)::st⟩=(.int k,ms)::lsD ⟨rt,st⟩:=rfl
def u7Q (s:LS):∃d ms r,lsD s=(d,ms)::r/\∀m,lsD (addC s m)=(d,ms++[m])::r:=by
 obtain⟨rt,st⟩:=s;cases st with
 | nil=>exact⟨.non,rt,[],rfl,λm=>rfl⟩
 | cons p st=>obtain⟨k,ms⟩:=p;exact⟨.int k,ms,lsD ⟨rt,st⟩,rfl,λm=>rfl⟩
def u7g{s:LS}{d:D}{r:List (D×List Md)} (h:lsD s=(d,ms)::r):topC s=ms:=by
 obtain⟨rt,st⟩:=s;cases st with
 | nil=>cases h;rfl
 | cons p st=>obtain⟨k,ms⟩:=p;cases h;rfl
def u9e{s:LS} (h:LSz n s):(topC s).length<=n:=by
 obtain⟨rt,st⟩:=s;unfold LSz at h;cases st with
 | nil=>have:=u3e rt;simp[topC,stz] at h |-;omega
 | cons p st=>obtain⟨k,ms⟩:=p;have:=u3e ms;simp[topC,stz] at h |-;omega
def spClo (K:W.Frag):Sp:=λvs H Q _=>∃F b s ts cs,∃k n:Nat,vs=[.ref b,.int k]/\Pil K F H b s ts cs/\LSz n s/\n<=1000/\k<=1000/\∀F' H' ts' cs',Chg (RL b (ts++cs)) F H F' H'->Pil K F' H' b (lclo k s).2 ts' cs'->(∀z∈ts'++cs',z∈ts++cs)->Q (.bl (lclo k s).1) H'
section
set_option tactic.hygienic true in
def u5f (F:Fun K "_law_closed" "_law_closed" u1U f fd) (T:Txt K mg A):FnOk P w K mg base CX0 1 f fd ["_law_pile","_law_many"] (spClo K) :=
 F.ok (k:=0) u1A (λvs H Q E h=>by obtain⟨F,b,s,ts,cs,k,n,e,_⟩:=h;rw[e];rfl) λcdv Ar outer s0 H vs Q E hr h=>by
  obtain⟨F0,b,s,ts,cs,k,n,rfl,M,hs,hn,hk,q⟩:=h;refine⟨_,u0i (u4I PassesOwn.never rfl (DI.out (xq:=xqF) (u4f T.z_range (u0a (dv 1) u0b))) (pg_n u1A.nd)
    (u0i (u1F (DT.out (xq:=xqF) (dt_w (u2v (u0o o_lt (d_B u0T T.z_len (by decide +kernel) (u0a (dv 0) u0b)) u0d) (u1K (u0o o_gt (d_B u0T T.z_len (by decide +kernel) (u0a (d_ix x_ix (d_ix x_ix (dv 0) (d_un u6E u0d)) u0d) u0b)) u0d))))) (u0n (u0H u4u)) u0G)
    (u0i (ps_n u1A.nd (u9N PySem.F.plainAttrs_list PySem.F.slot_list_pop PySem.F.type_list_pop v0e (u0v (i:=0) rfl (Or.inl rfl))))
    (u0n (u1G (pbm PySem.F.plainAttrs_list PySem.F.slot_list_append PySem.F.type_list_append u1n (DE.out (xq:=xqF) (d_ix x_ix (d_ix x_ix (dv 0) (d_un u6E u0d)) u0d)) (pac (u9J (pac (DE.out (xq:=xqF) (d_ix x_ix (dv 3) u0d)) (pac (DE.out (xq:=xqF) (d_ix x_ix (dv 3) u0d)) u0t))) u0t)) rfl)))))
   (u0n (u0H (DE.out (xq:=xqF) (u4g o_lt (d_B u0T T.z_len (by decide +kernel) (u0a (d_ix x_ix (d_ix x_ix (dv 0) (d_un u6E u0d)) u0d) u0b)) u0d)))),?_⟩
  have R0:Rel K (F0,H) [none,some (.val (.int k)),none,none] (start ["_law_pile","_law_many","_law_lap","_law_model"] [.ref b,.int k]) F0 H:=Sls.rel (.no (.val (.int k) (.no (.no .nil)))) M.fh;have er:rng1 [.int (k:Int)]=.ok (intL 0 k):=v1y hk;refine v3d (ds:=intL 0 k) R0 ?_ λJ F3 H3 s3 fd=>?_
  ·simp[er,-u2x,-u0J,-Res.bind_ok,-L2.go_ok,-Out.then_nx,bindN,goN,thenN]
  have M3:=M.step s3;refine⟨λi m σ' H'=>m=k - i/\i<=k/\∃x2 x3 F1 si ts1 cs1,σ'=[some (.ref b),some (.int k),x2,x3]/\Same F3 F1/\Chg (RL b (ts++cs)) F0 H F1 H'/\Pil K F1 H' b si ts1 cs1/\LSz n si/\(∀z∈ts1++cs1,z∈ts++cs)/\lclo k s=lclo (k - i) si,
   ⟨k,rfl,z0E _,none,none,F3,s,ts,cs,rfl,Same.refl _,s3.chg,M3,hs,λ_ h=>h,rfl⟩,?_⟩
  rintro i m σ' H' ⟨rfl,hi,x2,x3,F4,si,ts4,cs4,rfl,f34,c4,M4,sz4,n4,e4⟩;obtain⟨d0,ms0,r0,el,ea⟩:=u7Q si;have etop:=u7g el;have tn:=u9e sz4;rw[etop] at tn;have sub:∀y,RL b (ts4++cs4) y->RL b (ts++cs) y\/H y=none:=λy h=>h.elim (λe=>.inl (.inl e)) λh=>.inl (.inr (n4 y h))
  by_cases hlt:i<k
  ·right
   have ek:k - i=(k - (i+1))+1:=by omega
   have ln:(intL 0 k).length=k:=by simp[intL]
   refine⟨fd.go i H' (f34.trans M4.fh) (by omega),λσ2 H2=>∃x2 x3 F1 si ts1 cs1,σ2=[some (.ref b),some (.int k),x2,x3]/\Same F3 F1/\Chg (RL b (ts++cs)) F0 H F1 H2/\Pil K F1 H2 b si ts1 cs1/\LSz n si/\(∀z∈ts1++cs1,z∈ts++cs)/\lclo k s=lclo (k - (i+1)) si,
    λσ2 H2 p=>⟨k - (i+1),by omega,rfl,hlt,p⟩,λx H5 y=>?_⟩
   obtain⟨d,hd⟩:∃d,(intL 0 k)[i]?=some d:=⟨_,u3 (by omega)⟩
   obtain⟨F5,s5,p5⟩:=fd.yld i F4 H' x H5 d f34 M4.fh hd y;have M5:=M4.step s5;have c5:Chg (RL b (ts++cs)) F0 H F5 H5:=c4.trans (s5.chg (P:=RL b (ts4++cs4))) sub;have R5:Rel K (H5,H5) [some (.val (.lst (pilP (lsD si)))),none,none,none] ([some (.ref b),some (.int k),some x,x3]:L2.St) H5 H5:=Sls.rel (.val M5.p (.no (.no (.no .nil)))) (Same.refl _);rw[ek] at e4;have el2:(lsD si).length=si.st.length+1:=by simp[lsD,stD]
   have e1:gLen [.lst (pilP (lsD si))]=.ok (.int ((si.st.length+1:Nat):Int)):=by show Res.ok (D.int _)=_;rw[u2f,el2]
   have e2:dIx (.lst (pilP (lsD si))) (.int (-1))=.ok (.lst [d0,.lst (ms0.map toD)]):=by rw[el,pilP];exact u3Z _ _
   have e3:dIx (.lst [d0,.lst (ms0.map toD)]) (.int 1)=.ok (.lst (ms0.map toD)):=u4v _ _ _;refine⟨_,H5,_,R5,u0w (decide (si.st=[]\/4<ms0.length)) ?_ λH6 s6=>?_⟩
   ·by_cases c8:si.st=[]
    ·rw [c8] at e1
     simp[frz,frzS,e1,c8]
    ·have l8:1<=si.st.length:=by
      cases h:si.st with
      | nil=>exact absurd h c8
      | cons p r=>simp
     have l9:¬ ((si.st.length+1:Nat):Int)<2:=by omega
     have l10:¬ ((pilP (lsD si)).length:Int)<2:=by rw[u2f,el2];exact l9
     simp[frz,frzS,e2,e3,dNeg,gLen,l10,c8];omega
   have M6:=M5.only s6.hh;have c6:Chg (RL b (ts++cs)) F0 H F5 H6:=c5.trans ((Stp.only M5.fh s6.hh).chg (P:=RL b (ts4++cs4))) sub;obtain⟨rt,st⟩:=si;cases st with
   | nil =>
    have ett:lclo k s=(false,⟨rt,[]⟩):=e4
    have:=q F5 H6 ts4 cs4 c6 (by rw[ett];exact M6) n4
    rw[ett] at this;exact this
   | cons p st =>
    obtain⟨num,ms⟩:=p;cases el;by_cases c9:4<ms.length
    ·have ett:lclo k s=(false,⟨rt,(num,ms)::st⟩):=by rw [e4,lclo,if_pos c9]
     rw[decide_eq_true (.inr c9)]
     have:=q F5 H6 ts4 cs4 c6 (by rw[ett];exact M6) n4
     rw[ett] at this;exact this
    ·rw [decide_eq_false (fun h=>h.elim (fun h=>by cases h) c9)]
     rw[lclo,if_neg c9] at e4;obtain⟨d',ms',r',el',ea'⟩:=u7Q ⟨rt,st⟩;have M6':=M6;obtain⟨fh6,hb6,cl6,fb6,bc6,bt6⟩:=M6;rw[v1X] at cl6;cases cl6 with
     | @cons t c xv xs _ _ ts' cs' _ ht hx hc hs' fc n1 n2 n3 n4' r6 =>
     cases hx;have hrev:((t::ts').reverse.map V.ref)=ts'.reverse.map V.ref++[.ref t]:=by simp
     refine⟨.ref b,rfl,.inl ⟨rfl,_,.inl (.inl hb6)⟩,b,_,.ref t,rfl,rfl,hb6,by rw[hrev];simp,?_⟩
     rw[hrev,List.dropLast_concat];generalize h7:upd H6 b (.lst (ts'.reverse.map V.ref))=H7;have e7:H7 b=some (.lst (ts'.reverse.map V.ref)):=by rw[<- h7];exact u0c
     have k7:∀x,x≠b->H7 x=H6 x:=λx n=>by rw[<- h7,u0e n]
     have tb:t≠b:=λz=>bt6 (by rw[z];exact z6)
     have cb:c≠b:=λz=>bc6 (by rw[z];exact z6)
     have M7:Pil K F5 H7 b ⟨rt,st⟩ ts' cs':=by
      refine⟨λx o e=>by rw[k7 x (λz=>by rw[z,fb6] at e;cases e)];exact fh6 x o e,e7,r6.same (Same.refl _) (λy o hy e=>?_) (λz hz=>r6.free z hz),fb6,λz=>bc6 (z5 _ z),λz=>bt6 (z5 _ z)⟩
      rw[k7 y (λz=>hy.elim (λh=>bt6 (z ▸ z5 _ h)) λh=>bc6 (z ▸ z5 _ h))]
      exact e
     have cl7:=M7.cl;rw[el'] at cl7;cases cl7 with
     | @cons t' c' xv' xs' _ _ ts'' cs'' _ ht' hx' hc' hs'' fc' n1' n2' n3' n4'' r7 =>
     have R7:Rel K (H7,H7) [some (.val (.lst (pilH (lsD ⟨rt,st⟩) (c'::cs'')))),none,none,none] ([some (.ref b),some (.int k),some x,some (.ref t)]:L2.St) H7 H7:=Sls.rel (.val M7.h (.no (.no (.no .nil)))) (Same.refl _);refine⟨_,H7,_,R7,u0w (.hdl c') ?_ λv8 F8 H8 s8 p8=>?_⟩
     ·have g1:dIx (.lst (pilH (lsD ⟨rt,st⟩) (c'::cs''))) (.int (-1))=.ok (.lst [d',.hdl c']):=by rw [el',pilH];exact u3Z _ _
      have g2:dIx (.lst [d',.hdl c']) (.int 1)=.ok (.hdl c'):=u4v _ _ _;simp[g1,g2,dNeg]
     cases rpV p8 rfl;have hc8:=s8.hh _ _ hc';refine⟨.inl ⟨rfl,xs',.inl (.inl hc8)⟩,?_⟩;have ht8:H8 t=some (.lst [.int num,.ref c]):=s8.hh _ _ (by rw[k7 t tb];exact ht)
     have R8:Rel K (H8,H8) [none,none,none,some (.val (.lst [.int num,.hdl c]))] ([some (.ref b),some (.int k),some x,some (.ref t)]:L2.St) H8 H8:=Sls.rel (.no (.no (.no (.val (.lst (.inl ht8) (.cons (.int num) (.cons (.hdl c) .nil))) .nil)))) (Same.refl _);refine⟨_,H8,_,R8,u0w (.int num) ?_ λv9 F9 H9 s9 p9=>?_⟩
     ·have g1:dIx (.lst [.int num,.hdl c]) (.int 0)=.ok (.int num):=u3v _ _
      simp[g1]
     cases rpV p9 rfl;have ht9:=s9.hh _ _ ht8;have R9:Rel K (H9,H9) [none,none,none,some (.val (.lst [.int num,.hdl c]))] ([some (.ref b),some (.int k),some x,some (.ref t)]:L2.St) H9 H9:=Sls.rel (.no (.no (.no (.val (.lst (.inl ht9) (.cons (.int num) (.cons (.hdl c) .nil))) .nil)))) (Same.refl _);refine⟨_,H9,_,R9,u0w (.hdl c) ?_ λv10 F10 H10 s10 p10=>?_⟩
     ·have g1:dIx (.lst [.int num,.hdl c]) (.int 1)=.ok (.hdl c):=u4v _ _ _
      simp[g1]
     cases rpV p10 rfl;have s710:Same H7 H10:=(s8.hh.trans s9.hh).trans s10.hh;refine⟨(show 2<=sizeLine by decide),λu hu=>?_⟩
     have un:∀y,H10 y≠none->y≠u:=λy h e=>h (e ▸ hu)
     have hc10:=s710 _ _ hc';have cu':c'≠u:=un c' (by rw[hc10];simp)
     have lx:xs'.length=ms'.length:=by have:=hs''.length;simpa using this
     have lm:ms'.length<=1000:=by
      have sp:=u9E sz4
      have:LSz n ⟨rt,st⟩:=by
       unfold LSz at sz4 |-
       simp[stz] at sz4 |-
       omega
      have t1:=u9e this;rw[u7g el'] at t1;omega
     refine⟨c',xs',.ref u,rfl,rfl,by rw[u0e cu'];exact hc10,by rw[lx];exact z1D lm (by decide),?_⟩
     generalize h12:upd (upd H10 u (.tup [.int num,.ref c])) c' (.lst (xs'++[.ref u]))=H12;have e12:H12 c'=some (.lst (xs'++[.ref u])):=by rw[<- h12];exact u0c
     have eu12:H12 u=some (.tup [.int num,.ref c]):=by rw[<- h12,u0e cu'.symm,u0c]
     have k12:∀y o,y≠c'->H7 y=some o->H12 y=some o:=λy o nc e=>by
      have e:=s710 y o e;rw[<- h12,u0e nc,u0e (un y (by rw[e];simp))];exact e
     have k6:∀y o,y≠c'->y≠b->H6 y=some o->H12 y=some o:=λy o nc nb e=>k12 y o nc (by rw[k7 y nb];exact e)
     have cc':c≠c':=λe=>n1 (e ▸ z6)
     have tc':t≠c':=λe=>n3 (e ▸ z6)
     have ec12:H12 c=some (.lst xs):=k6 c _ cc' cb hc;have f12:Same F5 H12:=λy o e=>k12 y o (λz=>by rw[z,fc'] at e;cases e) (M7.fh y o e)
     let S:Addr->Prop:=λy=>y=u\/y=c
     have fu:fpl F5 H12 S u=some (.tup [.int num,.ref c]):=(u3q (S:=S) (.inl rfl)).trans eu12;have fc12:fpl F5 H12 S c=some (.lst xs):=(u3q (S:=S) (.inr rfl)).trans ec12;have pu:Rp K (fpl F5 H12 S) (.ref u) (toD (.node num ms)):=.tup (.inl (.inl fu)) (.cons (.int num) (.cons (.lst (.inl fc12) (by rw[u2a];exact hs'.same (u1w f12))) .nil))
     have hu6:H6 u=none:=by
      cases e:H6 u with
      | none=>rfl
      | some o =>
       by_cases ub:u=b
       ·rw[ub] at hu;rw[s710 _ _ e7] at hu;cases hu
       ·rw[s710 u o (by rw[k7 u ub];exact e)] at hu;cases hu
     have nu:∀y,y∈t'::ts''\/y∈c'::cs''->y≠u:=λy m e=>by
      have:=r6.there y m
      rw[e,hu6] at this;exact this rfl
     have bu:b≠u:=λe=>by rw[<- e,hb6] at hu6;cases hu6
     have bc':b≠c':=λe=>M7.bc (e ▸ z6)
     have M12:Pil K (fpl F5 H12 S) H12 b (addC ⟨rt,st⟩ (.node num ms)) (t'::ts'') (c'::cs''):=by
      refine⟨u3p f12,k12 b _ bc' e7,?_,?_,M7.bc,M7.bt⟩
      ·rw [ea' (.node num ms)]
       refine .cons (x:=xv') (xs:=xs'++[.ref u]) (k12 t' _ n4'' ht') (hx'.same (u1w f12)) e12 ?_ ?_ n1' n2' n3' n4'' ?_
       ·rw [z0A]
        exact(hs''.same (u1w f12)).append (.cons pu .nil)
       ·rw[u2m (S:=S) (λh=>h.elim cu' λe=>cc' e.symm)];exact fc'
       ·refine r7.same (u1w f12) (fun y o hy e=>k12 y o (fun z=>hy.elim (fun h=>n2' (z ▸ h)) fun h=>n1' (z ▸ h)) e) fun z hz=>?_
        rw[u2m (S:=S) (λh=>h.elim (nu z (.inr (z5 _ hz))) λe=>n1 (e ▸ z5 _ hz))]
        exact r7.free z hz
      ·rw[u2m (S:=S) (λh=>h.elim bu λe=>cb e.symm)];exact fb6
     have c12:Chg (RL b ((t::t'::ts'')++(c::c'::cs''))) F5 H6 (fpl F5 H12 S) H12:=by
      refine⟨u1w f12,u3p f12,λy o np e=>k6 y o (λz=>np (.inr (z ▸ x0 _ (z5 _ z6)))) (λz=>np (.inl z)) e,λy np ny hy=>?_,λy o v z=>?_⟩
      ·rw[u2m (S:=S) (λh=>h.elim (λe=>hy (by rw[show y=u from e];exact hu6)) λe=>np (.inr (e ▸ x0 _ z6)))];exact ny
      ·unfold fpl at z
       split at z
       ·rename_i h
        rcases h with h|h
        ·rw[h,eu12] at z;cases z
        ·rw[h,ec12] at z;cases z
       ·exact z
     refine⟨some x,some (.ref t),_,_,_,_,rfl,((f34.trans s5.ff).trans (u1w f12)),c6.trans c12 sub,M12,u9E sz4,λz m=>n4 z ?_,e4⟩
     rcases v6.mp m with m|m
     ·exact r9 _ (z5 _ m)
     ·exact x0 _ (z5 _ m)
  ·left
   have e:i=k:=by omega
   subst e;rw[Nat.sub_self,lclo,etop] at e4;refine⟨fd.stop _ H' (f34.trans M4.fh) (by simp[intL]),?_⟩
   have R4:Rel K (H',H') [some (.val (.lst (pilP (lsD si)))),none,none,none] ([some (.ref b),some (.int i),x2,x3]:L2.St) H' H':=Sls.rel (.val M4.p (.no (.no (.no .nil)))) (Same.refl _);have e2:dIx (.lst (pilP (lsD si))) (.int (-1))=.ok (.lst [d0,.lst (ms0.map toD)]):=by rw[el,pilP];exact u3Z _ _
   have e3:dIx (.lst [d0,.lst (ms0.map toD)]) (.int 1)=.ok (.lst (ms0.map toD)):=u4v _ _ _;refine⟨_,H',_,R4,u0w (.bl (decide (ms0.length<5))) ?_ λv5 F5 H5 s5 p5=>?_⟩
   ·simp [e2,e3,dNeg,gLen]
    omega
   cases rpV p5 rfl
   have:=q F4 H5 ts4 cs4 (c4.trans ((Stp.only M4.fh s5.hh).chg (P:=RL b (ts4++cs4))) sub) (by rw[e4];exact M4.only s5.hh) n4
   rw[e4] at this;exact this
end
def v0F (l:List Nat):coreL (l++[125])=coreL l:=by
 unfold coreL;rw[List.reverse_append,List.reverse_singleton,List.singleton_append,List.dropWhile_cons,if_pos (by simp)]
def v0H (l:List Nat) (h:∀i,l≠i++[125]):coreL l=l:=by
 unfold coreL;rcases List.eq_nil_or_concat l with rfl|⟨i,x,rfl⟩
 ·rfl
 ·rw [List.concat_eq_append] at h |-
  have:x≠125:=λe=>h i (by rw[e])
  rw[List.reverse_append,List.reverse_singleton,List.singleton_append,List.dropWhile_cons,if_neg (by simpa using this)]
  simp
noncomputable def lastS (z:Str):Str:=Txt.slice z (some (-1)) none
noncomputable def initS (z:Str):Str:=Txt.slice z none (some (-1))
def v2c(h:lastS z="}"):coreS (initS z)=coreS z/\(initS z).length<z.length:=by
 have e:z.cps.toList.drop (z.length - 1)=[125]:=by
  have:=u6K z
  rw[show Txt.slice z (some (-1)) none="}" from h] at this
  rw[<- this];decide +kernel
 have hl:=u0p z;have el:z.cps.toList=z.cps.toList.dropLast++[125]:=by
  rw[List.dropLast_eq_take,hl]
  conv=>lhs;rw[<- List.take_append_drop (z.length - 1) z.cps.toList,e]
 have ei:(initS z).cps.toList=z.cps.toList.dropLast:=u9o z;refine⟨u0O ?_,?_⟩
 ·show coreL (initS z).cps.toList=coreL z.cps.toList
  rw[ei]
  conv=>rhs;rw[el]
  exact(v0F _).symm
 ·have h2:=congrArg List.length el
  rw[u4,hl] at h2;rw[<- u0p (initS z),ei];simp at h2 |-
  omega
def last_no(h:lastS z≠"}"):coreS z=z:=u0O (by
 show coreL z.cps.toList=z.cps.toList;refine v0H _ λi e=>h (u0O ?_)
 have hl:=u0p z
 have:=u6K z
 rw[show lastS z=Txt.slice z (some (-1)) none from rfl,this,<- hl,e]
 simp;decide +kernel)
def u9k{y:Str} (h:PyData.strOk z=true) (k:∀x∈y.cps.toList,x∈z.cps.toList):PyData.strOk y=true:=by
 unfold PyData.strOk at h |-
 rw[Array.all_eq_true'] at h |-
 intro x mx;exact h x (u0.mp (k x (u0.mpr mx)))
def last_ok(h:PyData.strOk z=true):PyData.strOk (lastS z)=true:=u9k h λx m=>by
 rw[show(lastS z).cps.toList=_ from u6K z] at m
 exact z0G m
def init_ok(h:PyData.strOk z=true):PyData.strOk (initS z)=true:=u9k h λx m=>by
 rw[show(initS z).cps.toList=_ from u9o z] at m
 exact List.dropLast_subset _ m
def u6H{a b c:Option Sl}{w:Str} (hw:PyData.strOk w=true) (hT:∀z,PyData.strOk z=true->fT (frz [a,b,c,some (.val (.str z))])=.ok (decide (lastS z="}"))) (hb:∀z,tb [a,b,c,some (.val (.str z))]=.nx [a,b,c,some (.val (.str (initS z)))]) :
  wD fT tb [a,b,c,some (.val (.str w))]=.nx [a,b,c,some (.val (.str (coreS w)))]:=by
 refine u8Y (S:=λn ρ=>∃z,ρ=[a,b,c,some (.val (.str z))]/\PyData.strOk z=true/\coreS z=coreS w/\z.length=n) (Q:=λo=>o=.nx [a,b,c,some (.val (.str (coreS w)))]) (λo h=>by rw[h];trivial) (λn ρ h=>?_) w.length _ ⟨w,rfl,hw,rfl,rfl⟩
 obtain⟨z,rfl,oz,ec,rfl⟩:=h;by_cases c1:lastS z="}"
 ·obtain ⟨h1,h2⟩:=v2c c1
  exact .inr ⟨by rw[hT z oz,decide_eq_true c1],.inl ⟨_,_,h2,hb z,initS z,rfl,init_ok oz,h1.trans ec,rfl⟩⟩
 ·exact .inl ⟨by rw[hT z oz,decide_eq_false c1],by rw[<- ec,last_no c1]⟩
def seq_two{t u:TS}{σ:L2.St} (P:L2.St->Hp->Prop) (k:∀σ' H',P σ' H'->u T σ' H') (h:(∀σ' H',P σ' H'->u T σ' H')->tSeq t u T σ H):tSeq t u T σ H:=h k
section
variable {F:Hp}{c t:Addr}{s:LS}{ts cs:List Addr}
def Pil.push {n:Int} (M:Pil K F H b s ts cs) (hc:H c=none) (ht:(upd H c (.lst [])) t=none) :
  Pil K F (upd (upd (upd H c (.lst [])) t (.lst [.int n,.ref c])) b (.lst (ts.reverse.map V.ref++[.ref t]))) b ⟨s.rt,(n,[])::s.st⟩ (t::ts) (c::cs) /\
  Chg (RL b (ts++cs)) F H F (upd (upd (upd H c (.lst [])) t (.lst [.int n,.ref c])) b (.lst (ts.reverse.map V.ref++[.ref t])))/\(∀z∈(t::ts)++(c::cs),z∈ts++cs\/H z=none)/\(upd (upd H c (.lst [])) t (.lst [.int n,.ref c])) b=some (.lst (ts.reverse.map V.ref)):=by
 have tc:t≠c:=λe=>by rw[e,u0c] at ht;cases ht
 have ht0:H t=none:=by rw[u0e tc] at ht;exact ht
 have bn:∀x,H x≠none->x≠c/\x≠t:=λx h=>⟨λe=>h (e ▸ hc),λe=>h (e ▸ ht0)⟩
 have bb:=bn b (by rw[M.hb];simp)
 have k5:∀x o,H x=some o->(upd (upd H c (.lst [])) t (.lst [.int n,.ref c])) x=some o:=λx o e=>by
  have:=bn x (by rw[e];simp)
  rw[u0e this.2,u0e this.1];exact e
 generalize h5:upd (upd (upd H c (.lst [])) t (.lst [.int n,.ref c])) b (.lst (ts.reverse.map V.ref++[.ref t]))=H5;have k6:∀x o,x≠b->H x=some o->H5 x=some o:=λx o nb e=>by rw[<- h5,u0e nb];exact k5 x o e
 have f5:Same F H5:=λx o e=>k6 x o (λq=>by rw[q,M.fb] at e;cases e) (M.fh x o e)
 have n5:∀x,x∈ts\/x∈cs->x≠c/\x≠t:=λx m=>bn x (M.cl.there x m)
 refine⟨⟨f5,by rw[<- h5,u0c];simp,?_,M.fb,?_,?_⟩,⟨Same.refl _,f5,λx o np e=>k6 x o (λe=>np (.inl e)) e,λx _ n _=>n,λ_ _ _ z=>z⟩,λy m=>?_,k5 b _ M.hb⟩
 ·refine .cons (x:=.int n) (xs:=[]) (by rw [<- h5,u0e bb.2.symm,u0c];rfl) (.int n) (by rw [<- h5,u0e bb.1.symm,u0e tc.symm,u0c]) .nil (M.fh.free hc) (fun m=>(n5 c (.inr m)).1 rfl) (fun m=>(n5 c (.inl m)).1 rfl) (fun m=>(n5 t (.inr m)).2 rfl) tc ?_
  refine M.cl.same (Same.refl _) (λy o hy e=>k6 y o (λq=>?_) e) λz hz=>M.cl.free z hz
  rcases hy with hy|hy
  ·exact M.bt (q ▸ hy)
  ·exact M.bc (q ▸ hy)
 ·intro m
  rcases z7.mp m with e|m
  ·exact bb.1 e
  ·exact M.bc m
 ·intro m
  rcases z7.mp m with e|m
  ·exact bb.2 e
  ·exact M.bt m
 ·rcases v6.mp m with m | m
  ·rcases z7.mp m with e | m
   ·exact .inr (e ▸ ht0)
   ·exact .inl (r9 _ m)
  ·rcases z7.mp m with e | m
   ·exact .inr (e ▸ hc)
   ·exact .inl (x0 _ m)
theorem Pil.leaf(M:Pil K F H b s ts cs) (hz:z.length<=sizeLine):∃c cs' xs d ms r,cs=c::cs'/\lsD s=(d,ms)::r/\H c=some (.lst xs)/\xs.length=ms.length /\
  Pil K F (upd H c (.lst (xs++[.str z]))) b (addC s (.leaf z)) ts cs/\Chg (RL b (ts++cs)) F H F (upd H c (.lst (xs++[.str z]))):=by
 obtain⟨d,ms,r,el,ea⟩:=u7Q s;have cl:=M.cl;rw[el] at cl;cases cl with
 | @cons t c x xs _ _ ts' cs' _ ht hx hc hs fc n1 n2 n3 n4 rr =>
 have lx:xs.length=ms.length:=by have:=hs.length;simpa using this
 have cb:c≠b:=λe=>M.bc (e ▸ z6)
 refine⟨c,cs',xs,d,ms,r,rfl,el,hc,lx,?_⟩;generalize h5:upd H c (.lst (xs++[.str z]))=H5;have e5:H5 c=some (.lst (xs++[.str z])):=by rw[<- h5];exact u0c
 have k5:∀y,y≠c->H5 y=H y:=λy n=>by rw[<- h5,u0e n]
 have f5:Same F H5:=λy o e=>by rw[k5 y (λq=>by rw[q,fc] at e;cases e)];exact M.fh y o e
 refine⟨⟨f5,by rw[k5 b cb.symm];exact M.hb,?_,M.fb,M.bc,M.bt⟩,⟨Same.refl _,f5,λy o np e=>by rw[k5 y (λq=>np (.inr (q ▸ x0 _ z6)))];exact e,λy _ n _=>n,λ_ _ _ z=>z⟩⟩
 rw[ea (.leaf z)];refine .cons (x:=x) (xs:=xs++[.str z]) (by rw[k5 t n4];exact ht) hx e5 ?_ fc n1 n2 n3 n4 ?_
 ·rw [z0A]
  exact hs.append (.cons (.str hz) .nil)
 ·exact rr.same (Same.refl _) (λy o hy e=>by rw[k5 y (λq=>hy.elim (λh=>n2 (q ▸ h)) λh=>n1 (q ▸ h))];exact e) λy hy=>rr.free y hy
end
theorem u7L:∀a b,pilP (a++b)=pilP b++pilP a
 | [],b=>by simp[pilP]
 | (d,ms)::a,b=>by simp[pilP,u7L a b]
def pil_0 (s:LS):dIx (.lst (pilP (lsD s))) (.int 0)=.ok (.lst [.non,.lst (s.rt.map toD)]):=by
 unfold lsD;rw[u7L];exact u3v _ _
def pil_len (s:LS):gLen [.lst (pilP (lsD s))]=.ok (.int ((s.st.length+1:Nat):Int)):=by
 show Res.ok (D.int _)=_;rw[u2f];simp[lsD,stD]
noncomputable def lrD (t:Str):D:=match lreadP t with
 | some m=>toD m
 | none=>.non
open Classical in
noncomputable def tailL:Rho->Out
 | [some (.val (.str t)),none,none,none]=>if Tx t then .rt (lrD t) else .bad
 | _=>.bad
def NumG (G:FD):Prop:=∀z,PyData.strOk z=true->G [.str z]=.ok (match numS z with|some n=>.int n|none=>.non)
def SgnG (G:FD):Prop:=∀z,Gw z->G [.str z]=.ok (.bl (sgnS z))
def opn_eq(h:PyData.strOk z=true):dEqJ (.str (Txt.slice z none (some 1))) (.str "{")=.ok (.bl (opnS z)):=by
 have e:(Txt.slice z none (some 1)).cps.toList=z.cps.toList.take 1:=sl_one z;have ok:PyData.strOk (Txt.slice z none (some 1))=true:=u9k h λx m=>by rw[e] at m;exact z1A m
 rw[eqZ ok (by decide +kernel)]
 unfold opnS;have e2:("{":Str).cps.toList=[123]:=by decide +kernel
 congr 2;rw[decide_eq_decide];constructor
 ·intro h;rw[<- e,h,e2]
 ·intro h;exact u0O (by rw[e,h,e2])
def if_nx {A B:Prop} (h:B):if (false:Bool)=true then A else B:=h
theorem v2N:∀st:List (Int×List Md),st.length<=stz st
 | []=>y0 _
 | p::st=>by have:=v2N st;simp[stz] at this |-;omega
theorem v3k:∀{k:Nat}{s:LS},LSz n s->LSz n (lclo k s).2
 | 0,s,h=>h
 | k+1,⟨rt,[]⟩,h=>h
 | k+1,⟨rt,(m,ms)::st⟩,h=>by
  rw[lclo];split
  ·exact h
  ·exact v3k (u9E h)
section
set_option tactic.hygienic true in
def u6W {a1u:FD} (a0r:Callee P w K mg base 1 "_law_number" ["_law_word"] (spF K a1u)) {a1n:FD} (a0w:Callee P w K mg base 1 "_law_is_sign" ["_law_thing"] (spF K a1n)) (a0z:Callee P w K mg base 1 "_law_closed" ["_law_pile","_law_many"] (spClo K)) (a2j:NumG a1u) (a1w:SgnG a1n)
  (F:Fun K "_law_read" "_law_read" u2Y f fd) (T:Txt K mg A):∃G,FnOk P w K mg base CX0 2 f fd ["_law_text_here"] (spF K G)/\∀t,Tx t->G [.str t]=.ok (lrD t):=by
 refine⟨_,F.okT (k:=1) u1l (λcdv Ar outer s H E hr=>DB.of (f:=tailL) (u0i (ps_n u1l.nd (u2l (pac (u2l (pac u3o (pac (u2l u0t) u0t))) u0t)))
  (u0i (u4I PassesOwn.never rfl (DI.out (xq:=xqF) (u1Z (DN.de (u5t (c:=32) (dv 0))))) (pg_n u1l.nd)
   (u0i (ps_n u1l.nd (u0v (i:=2) rfl (Or.inl rfl)))
   (u0i (DS.out (xq:=xqF) (u5p (u0o (u1u (hu64 hr)) (d_sl (dv 3) (u0s (d_un u6E u0d)) u0x) u0r) (u0h (ds_n u1l.nd (d_sl (dv 3) u0x (u0s (d_un u6E u0d)))))))
   (u0i (u1F (DT.out (xq:=xqF) (dt_w (dw_and (u0o (u1u (hu64 hr)) (d_B u0T T.z_len (by decide +kernel) (u0a (dv 1) u0b)) u0d) (dw_and1 (u0o (u5i (hu64 hr)) (d_ix x_ix (d_ix x_ix (dv 1) u0d) u0d) (u4x u0b)))))) (u0n (u0H u3o)) u0G)
   (u0i (u1F (DT.out (xq:=xqF) (u0o (u1u (hu64 hr)) (d_sl (dv 3) u0x (u0s u0d)) u0r))
     (u0i (u1F (DT.out (xq:=xqF) (u0o o_is (d_fn a0r hr (u0a (d_sl (dv 3) (u0s u0d) u0x) u0b)) u7p)) (u0n (u0H u3o)) u0G)
     (u0n (u1G (pbm PySem.F.plainAttrs_list PySem.F.slot_list_append PySem.F.type_list_append u1n (u0v (i:=1) rfl (Or.inl rfl)) (pac (u2l (pac (DE.out (xq:=xqF) (d_fn a0r hr (u0a (d_sl (dv 3) (u0s u0d) u0x) u0b))) (pac (u2l u0t) u0t))) u0t)) rfl)))
     (u0n (u1F (DT.out (xq:=xqF) (u0D (d_fn a0w hr (u0a (dv 3) u0b))))
      (u0n (u1G (pbm PySem.F.plainAttrs_list PySem.F.slot_list_append PySem.F.type_list_append u1n (DE.out (xq:=xqF) (d_ix x_ix (d_ix x_ix (dv 1) (d_un u6E u0d)) u0d)) (pac (u0v (i:=3) rfl (Or.inl rfl)) u0t)) rfl))
      (u0n (u0H u3o)))))
   (u0n (u1F (u5J (u5I (u9L a0z hr (by decide) (pac (u0v (i:=1) rfl (Or.inl rfl)) (pac (DE.out (xq:=xqF) (d_op u7d (d_B u0T T.z_len (by decide +kernel) (u0a (dv 2) u0b)) (d_B u0T T.z_len (by decide +kernel) (u0a (dv 3) u0b)))) u0t)) rfl rfl rfl rfl rfl rfl))) (u0n (u0H u3o)) u0G)))))))
  (u0i (u1F (DT.out (xq:=xqF) (dt_w (u2v (u0o o_gt (d_B u0T T.z_len (by decide +kernel) (u0a (dv 1) u0b)) u0d) (u1K (u0o (u5i (hu64 hr)) (d_B u0T T.z_len (by decide +kernel) (u0a (d_ix x_ix (d_ix x_ix (dv 1) u0d) u0d) u0b)) u0d))))) (u0n (u0H u3o)) u0G)
  (u0n (u0H (DE.out (xq:=xqF) (d_ix x_ix (d_ix x_ix (d_ix x_ix (dv 1) u0d) u0d) u0d))))))) (fun B F ρ σ H T9 R q=>by
   unfold tailL at q;split at q
   case h_2=>exact False.elim q.out
   rename_i t;split at q
   case isFalse=>exact False.elim q.out
   rename_i tx;have qo:∀v F H,Stp B.1 B.2 F H->Rp K F v (lrD t)->T9.rt v H:=q.out;have tl:t.length<=sizeLine:=y9 tx.len (by decide)
   obtain⟨x1,x2,x3,rfl⟩:∃x1 x2 x3,σ=[some (.str t),x1,x2,x3]:=by
    obtain⟨v,e,p⟩:=R.val 0 (.str t) rfl;cases rpV p rfl;exact st4 R.len e
   refine⟨z0E _,λc hc=>⟨(show 2<=sizeLine by decide),λt0 ht=>⟨u1H,λb hb=>?_⟩⟩⟩
   have tc:t0≠c:=λe=>by rw[e,u0c] at ht;cases ht
   have ht0:H t0=none:=by rw[u0e tc] at ht;exact ht
   have bt0:b≠t0:=λe=>by rw[e,u0c] at hb;cases hb
   have bc0:b≠c:=λe=>by rw[e,u0e tc.symm,u0c] at hb;cases hb
   have hb0:H b=none:=by rw[u0e bt0,u0e bc0] at hb;exact hb
   generalize h1:upd (upd (upd H c (.lst [])) t0 (.lst [.non,.ref c])) b (.lst [.ref t0])=H1;have up:Same H H1:=λx o e=>by
    rw[<- h1,u0e (λz=>by rw[z,hb0] at e;cases e),u0e (λz=>by rw[z,ht0] at e;cases e),u0e (λz=>by rw[z,hc] at e;cases e)]
    exact e
   have M1:Pil K F H1 b LS0 [t0] [c]:=by
    refine⟨R.fh.trans up,by rw[<- h1,u0c];rfl,?_,R.fh.free hb0,by simpa using bc0,by simpa using bt0⟩
    exact .cons (x:=.non) (xs:=[]) (by rw[<- h1,u0e bt0.symm,u0c];rfl) .non (by rw[<- h1,u0e bc0.symm,u0e tc.symm,u0c]) .nil (R.fh.free hc) (by simp) (by simp) (by simp) tc .nil
   have c1:Chg (RL b []) F H F H1:=(Stp.only R.fh up).chg;have n1:∀z∈[t0]++[c],H z=none:=λz m=>by
    simp at m;rcases m with rfl|rfl
    ·exact ht0
    ·exact hc
   have pn:∀x,RL b [] x->B.2 x=none:=λx p=>p.elim (λe=>R.st.hh.free (e ▸ hb0)) λp=>nomatch p
   have R1:Rel K (F,H1) [some (.val (.str t)),none,none,none] ([some (.str t),some (.ref b),x2,x3]:L2.St) F H1:=Sls.rel (.val (.str tl) (.no (.no (.no .nil)))) M1.fh;generalize hws:splitS 32 t=ws at *
   have lw:ws.length<=900:=hws ▸ tx.n;have none_ok:∀{F' H':Hp},Chg (RL b []) F H F' H'->lrd LS0 ws=none->T9.rt .non H':=λc e=>qo .non _ _ (c.stp R.st pn) (by
    have:lrD t=.non:=by unfold lrD lreadP;rw[hws,e];rfl
    rw[this];exact .non)
   refine v3d (ds:=ws.map D.str) R1 ?_ λJ F3 H3 s3 fd=>?_
   ·have e:splitD 32 (.str t)=.ok (.l (ws.map D.str)):=by
     show gd _ _=_;rw[u0u (y9 (Nat.succ_le_succ tx.len) (by decide)),hws]
    simp[e,OD.toD,u2t]
   have M3:=M1.step s3;refine⟨λi m σ' H'=>m=ws.length - i/\i<=ws.length/\∃x2 x3 F1 si ts1 cs1,σ'=[some (.str t),some (.ref b),x2,x3]/\Same F3 F1/\Chg (RL b []) F H F1 H'/\Pil K F1 H' b si ts1 cs1/\LSz i si/\(∀z∈ts1++cs1,H z=none)/\lrd LS0 ws=lrd si (ws.drop i),
    ⟨ws.length,rfl,z0E _,x2,x3,F3,LS0,_,_,rfl,Same.refl _,c1.trans (s3.chg (P:=RL b [])) (λy h=>.inl h),M3,y0 _,n1,rfl⟩,?_⟩
   rintro i m σ' H' ⟨rfl,hi,x2,x3,F4,si,ts4,cs4,rfl,f34,c4,M4,sz4,n4,e4⟩;have sub:∀ts:List Addr,(∀z∈ts,H z=none)->∀y,RL b ts y->RL b [] y\/H y=none:=λts h y p=>p.elim (λe=>.inl (.inl e)) λp=>.inr (h y p)
   by_cases hlt:i<ws.length
   ·right
    have ln:(ws.map D.str).length=ws.length:=by simp
    refine⟨fd.go i H' (f34.trans M4.fh) (by omega),λσ2 H2=>∃x2 x3 F1 si ts1 cs1,σ2=[some (.str t),some (.ref b),x2,x3]/\Same F3 F1/\Chg (RL b []) F H F1 H2/\Pil K F1 H2 b si ts1 cs1/\LSz (i+1) si/\(∀z∈ts1++cs1,H z=none)/\lrd LS0 ws=lrd si (ws.drop (i+1)),
     λσ2 H2 p=>⟨ws.length - (i+1),by omega,rfl,hlt,p⟩,λx H5 y=>?_⟩
    have hd:(ws.map D.str)[i]?=some (.str ws[i]):=by simp[hlt]
    obtain⟨F5,s5,p5⟩:=fd.yld i F4 H' x H5 _ f34 M4.fh hd y;cases rpV p5 rfl;have M5:=M4.step s5;have mw:ws[i]∈ws:=z2J hlt;have gw:Gw ws[i]:=⟨u3A tx.ok _ (hws ▸ mw),tx.w _ (hws ▸ mw)⟩;rw[z2A hlt,lrd] at e4;generalize ws[i]=wd at *
    have c5:Chg (RL b []) F H F5 H5:=c4.trans (s5.chg (P:=RL b [])) λy h=>.inl h
    have wl:wd.length<=sizeLine:=y9 gw.2 (by decide)
    have gc:=v0G gw;have cl:(coreS wd).length<=sizeLine:=y9 gc.2 (by decide)
    refine⟨.str wd,rfl,?_⟩;have R5:Rel K (F5,H5) [some (.val (.str t)),some (.val (.hdl b)),some (.val (.str wd)),some (.val (.str wd))] ([some (.str t),some (.ref b),some (.str wd),some (.str wd)]:L2.St) F5 H5:=Sls.rel (.val (.str tl) (.val (.hdl b) (.val (.str wl) (.val (.str wl) .nil)))) M5.fh;refine seq_nx R5 (u6H gw.1 (λz oz=>?_) λz=>?_) λσ6 F6 H6 R6=>?_
    ·have e1:=eqZ (last_ok oz) (show PyData.strOk "}"=true by decide +kernel)
     have e2:dSl (.str z) (some (-1)) none=.ok (.str (lastS z)):=rfl;simp[frz,frzS,dNeg,asI,e2,e1]
    ·have e2:dSl (.str z) none (some (-1))=.ok (.str (initS z)):=rfl
     simp[dNeg,asI,e2]
    obtain rfl:σ6=[some (.str t),some (.ref b),some (.str wd),some (.str (coreS wd))]:=by
     have l:=R6.len;obtain⟨v0,e0,p0⟩:=R6.val 0 _ rfl;obtain⟨v1,e1,p1⟩:=R6.val 1 _ rfl;obtain⟨v2,e2,p2⟩:=R6.val 2 _ rfl;obtain⟨v3,e3,p3⟩:=R6.val 3 _ rfl;cases rpV p0 rfl;cases rpV p1 rfl;cases rpV p2 rfl;cases rpV p3 rfl;exact st4f l e0 e1 e2 e3
    have M6:=M5.step R6.st;have c6:Chg (RL b []) F H F6 H6:=c5.trans (R6.st.chg (P:=RL b [])) λy h=>.inl h
    have R6':Rel K (H6,H6) [none,some (.val (.lst (pilP (lsD si)))),none,none] ([some (.str t),some (.ref b),some (.str wd),some (.str (coreS wd))]:L2.St) H6 H6:=Sls.rel (.no (.val M6.p (.no (.no .nil)))) (Same.refl _);have g0:=pil_0 si;have g1:dIx (.lst [.non,.lst (si.rt.map toD)]) (.int 1)=.ok (.lst (si.rt.map toD)):=u4v _ _ _;have g2:=pil_len si;refine⟨_,H6,_,R6',u0w (decide (si.st=[]/\si.rt≠[])) ?_ λH7 s7=>?_⟩
    ·have hL:(pilP (lsD si)).length=si.st.length+1:=by rw [u2f];simp [lsD,stD]
     have g3:dEqJ (.int ((pilP (lsD si)).length:Int)) (.int 1)=.ok (.bl (decide (si.st=[]))):=by
      rw[hL,eqI];congr 2;rw[decide_eq_decide];constructor
      ·intro h;exact List.eq_nil_of_length_eq_zero (by omega)
      ·intro h;rw[h];rfl
     have g4:dNeX (.lst (si.rt.map toD)) (.lst [])=.ok (.bl (decide (si.rt≠[]))):=by
      rw[neX_nil];cases si.rt<;>rfl
     by_cases c8:si.st=[]
     ·rw [decide_eq_true c8] at g3
      simp[frz,frzS,g3,g0,g1,g4,c8]
     ·rw [decide_eq_false c8] at g3
      simp[frz,frzS,g3,c8]
    have M7:=M6.only s7.hh;have c7:Chg (RL b []) F H F6 H7:=c6.trans ((Stp.only M6.fh s7.hh).chg (P:=RL b [])) λy h=>.inl h
    by_cases c0:si.st=[]/\si.rt≠[]
    ·rw [decide_eq_true c0]
     have el:ltak si wd=none:=by unfold ltak lbeg;rw[if_pos c0]
     rw[el] at e4;exact none_ok c7 e4
    rw[decide_eq_false c0];refine if_nx ?_;unfold tNext;dsimp only;refine seq_two (P:=λσ' H'=>σ'=[some (.str t),some (.ref b),some (.str wd),some (.str (coreS wd))]/\∃F8 s8 ts8 cs8,lbeg si (coreS wd)=some s8/\Same F3 F8/\Chg (RL b []) F H F8 H'/\Pil K F8 H' b s8 ts8 cs8/\LSz (i+1) s8/\∀z∈ts8++cs8,H z=none) ?_ λgoon=>?_
    ·rintro _ H8 ⟨rfl,F8,s8,ts8,cs8,el,f38,c8,M8,sz8,n8⟩
     have cle:=u8k wd;have gw2:=gw.2;have R8:Rel K (F8,H8) [none,none,some (.val (.str wd)),some (.val (.str (coreS wd)))] ([some (.str t),some (.ref b),some (.str wd),some (.str (coreS wd))]:L2.St) F8 H8:=Sls.rel (.no (.no (.val (.str wl) (.val (.str cl) .nil)))) M8.fh;refine⟨.ref b,rfl,_,F8,_,R8,u0w (.int (clsK wd:Nat)) ?_ λv9 F9 H9 s9 p9=>?_⟩
     ·have e:(wd.length:Int) - ((coreS wd).length:Int)=((clsK wd:Nat):Int):=by unfold clsK;omega
      have e2:dSub (.int (wd.length:Int)) (.int ((coreS wd).length:Int))=.ok (.int ((clsK wd:Nat):Int)):=by rw[<- e];rfl
      simp[gLen,e2,-u2x,-u0J,-Res.bind_ok,-L2.go_ok,-Out.then_nx,bindN,goN,thenN]
     cases rpV p9 rfl;have M9:=M8.step s9;have c9:Chg (RL b []) F H F9 H9:=c8.trans (s9.chg (P:=RL b [])) λy h=>.inl h
     refine⟨F9,b,s8,ts8,cs8,clsK wd,i+1,rfl,M9,sz8,by omega,by unfold clsK;omega,λF10 H10 ts10 cs10 c10 M10 n10=>⟨_,rfl,?_⟩⟩
     have c010:Chg (RL b []) F H F10 H10:=c9.trans c10 (sub _ n8);have n010:∀z∈ts10++cs10,H z=none:=λz m=>n8 z (n10 z m)
     have elt:ltak si wd=if (lclo (clsK wd) s8).1=true then some (lclo (clsK wd) s8).2 else none:=by unfold ltak;rw[el]
     cases e11:(lclo (clsK wd) s8).1 with
     | false =>
      rw[e11,if_neg (by simp)] at elt
      rw[elt] at e4;exact none_ok c010 e4
     | true =>
      rw[e11,if_pos rfl] at elt;rw[elt] at e4;exact⟨_,_,F10,_,ts10,cs10,rfl,(f38.trans s9.ff).trans c10.ff,c010,M10,v3k sz8,n010,e4⟩
    ·have f37:Same F3 F6:=(f34.trans s5.ff).trans R6.st.ff
     have R7:Rel K (F6,H7) [none,none,none,some (.val (.str (coreS wd)))] ([some (.str t),some (.ref b),some (.str wd),some (.str (coreS wd))]:L2.St) F6 H7:=Sls.rel (.no (.no (.no (.val (.str cl) .nil)))) M7.fh;have gtl:PyData.strOk (tlS (coreS wd))=true:=tl_ok gc.1;have e1:dSl (.str (coreS wd)) none (some 1)=.ok (.str (Txt.slice (coreS wd) none (some 1))):=rfl;have e2:dSl (.str (coreS wd)) (some 1) none=.ok (.str (tlS (coreS wd))):=by show Res.ok (D.str _)=_;rw[u6F]
     have e3:=opn_eq gc.1;have pnum:=a2j _ gtl;refine⟨_,F6,_,R7,u0w (opnS (coreS wd)) (by simp[frz,frzS,asI,e1,e3]) λH8 s8=>?_⟩
     have M8:=M7.only s8.hh;have c8:Chg (RL b []) F H F6 H8:=c7.trans ((Stp.only M7.fh s8.hh).chg (P:=RL b [])) λy h=>.inl h
     have R8:Rel K (F6,H8) [none,none,none,some (.val (.str (coreS wd)))] ([some (.str t),some (.ref b),some (.str wd),some (.str (coreS wd))]:L2.St) F6 H8:=Sls.rel (.no (.no (.no (.val (.str cl) .nil)))) M8.fh;cases o8:opnS (coreS wd) with
     | true =>
      refine⟨_,F6,_,R8,u0w (numS (tlS (coreS wd))).isNone ?_ λH9 s9=>?_⟩
      ·simp [frz,frzS,asI,e2,pnum]
       cases numS (tlS (coreS wd))<;>rfl
      have M9:=M8.only s9.hh;have c9:Chg (RL b []) F H F6 H9:=c8.trans ((Stp.only M8.fh s9.hh).chg (P:=RL b [])) λy h=>.inl h
      cases nu:numS (tlS (coreS wd)) with
      | none =>
       have el:ltak si wd=none:=by unfold ltak lbeg;rw[if_neg c0,if_pos o8,nu];rfl
       rw[el] at e4;exact none_ok c9 e4
      | some n =>
       have el:lbeg si (coreS wd)=some ⟨si.rt,((n:Int),[])::si.st⟩:=by unfold lbeg;rw[if_neg c0,if_pos o8,nu];rfl
       rw[nu] at pnum;have R9:Rel K (F6,H9) [none,none,none,some (.val (.str (coreS wd)))] ([some (.str t),some (.ref b),some (.str wd),some (.str (coreS wd))]:L2.St) F6 H9:=Sls.rel (.no (.no (.no (.val (.str cl) .nil)))) M9.fh;refine⟨.ref b,rfl,.inl ⟨rfl,_,.inl (.inl M9.hb)⟩,_,F6,_,R9,u0w (.int n) ?_ λv10 F10 H10 s10 p10=>?_⟩
       ·simp[asI,e2,pnum]
       cases rpV p10 rfl;have M10:=M9.step s10;have c10:Chg (RL b []) F H F10 H10:=c9.trans (s10.chg (P:=RL b [])) λy h=>.inl h
       refine⟨z0E _,λc2 hc2=>⟨(show 2<=sizeLine by decide),λt2 ht2=>?_⟩⟩
       obtain⟨M11,c11,n11,hb11⟩:=M10.push (n:=(n:Int)) hc2 ht2;have lts:ts4.length<=1000:=by
        have e:=M10.cl.len;have h9:(lsD si).length=si.st.length+1:=by simp[lsD,stD]
        have h10:=v2N si.st;unfold LSz at sz4;omega
       refine⟨b,_,.ref t2,rfl,rfl,hb11,by rw[x9,z1C];exact z1D lts (by decide),?_⟩
       refine goon _ _ ⟨rfl,F10,_,_,_,el,f37.trans s10.ff,c10.trans c11 (sub _ n4),M11,?_,λz m=>(n11 z m).elim (n4 z) λh=>?_⟩
       ·unfold LSz at sz4 |-
        simp[stz,szs] at sz4 |-
        omega
       ·cases e:H z with
        | none=>rfl
        | some o =>
         by_cases pz:RL b [] z
         ·rcases pz with pz | pz
          ·rw[pz,hb0] at e;cases e
          ·exact nomatch pz
         ·rw[c10.hh z o pz e] at h;cases h
     | false =>
      refine⟨_,F6,_,R8,u0w (sgnS (coreS wd)) (by simp[frz,frzS,a1w _ gc]) λH9 s9=>?_⟩
      have M9:=M8.only s9.hh;have c9:Chg (RL b []) F H F6 H9:=c8.trans ((Stp.only M8.fh s9.hh).chg (P:=RL b [])) λy h=>.inl h
      cases sg:sgnS (coreS wd) with
      | false =>
       have el:ltak si wd=none:=by unfold ltak lbeg;rw[if_neg c0,o8,if_neg (by simp),sg,if_neg (by simp)]
       rw[el] at e4;exact none_ok c9 e4
      | true =>
       have el:lbeg si (coreS wd)=some (addC si (.leaf (coreS wd))):=by unfold lbeg;rw[if_neg c0,o8,if_neg (by simp),if_pos sg]
       have R9:Rel K (H9,H9) [none,some (.val (.lst (pilH (lsD si) cs4))),none,none] ([some (.str t),some (.ref b),some (.str wd),some (.str (coreS wd))]:L2.St) H9 H9:=Sls.rel (.no (.val M9.h (.no (.no .nil)))) (Same.refl _);obtain⟨d1,ms1,r1,el1,_⟩:=u7Q si;obtain⟨c2,cs2,rfl⟩:∃c2 cs2,cs4=c2::cs2:=by
        have:=M9.cl
        rw[el1] at this;cases this;exact⟨_,_,rfl⟩
       refine⟨_,H9,_,R9,u0w (.hdl c2) ?_ λv10 F10 H10 s10 p10=>?_⟩
       ·have g1:dIx (.lst (pilH (lsD si) (c2::cs2))) (.int (-1))=.ok (.lst [d1,.hdl c2]):=by rw [el1,pilH];exact u3Z _ _
        have g2:dIx (.lst [d1,.hdl c2]) (.int 1)=.ok (.hdl c2):=u4v _ _ _;simp[g1,g2,dNeg]
       cases rpV p10 rfl;have M10:=M9.only s10.hh;have c10:Chg (RL b []) F H F6 H10:=c9.trans ((Stp.only M9.fh s10.hh).chg (P:=RL b [])) λy h=>.inl h
       obtain⟨c3,cs3,xs,d2,ms2,r2,ec,el2,hc3,lx,M11,c11⟩:=M10.leaf (z:=coreS wd) cl;cases ec;rw[el1] at el2;cases el2;have tn:=u9e sz4;rw[u7g el1] at tn;refine⟨.inl ⟨rfl,xs,.inl (.inl hc3)⟩,.str (coreS wd),rfl,c2,xs,.str (coreS wd),rfl,rfl,hc3,by rw[lx];exact z1D (show _<=1000 by omega) (by decide),?_⟩
       exact goon _ _ ⟨rfl,F6,_,_,_,el,f37,c10.trans c11 (sub _ n4),M11,v1b (m:=.leaf (coreS wd)) sz4,n4⟩
   ·left
    have e:i=ws.length:=by omega
    subst e;rw[List.drop_length,lrd] at e4;have elr:lreadP t=lfin si:=by unfold lreadP;rw[hws,e4];rfl
    refine⟨fd.stop _ H' (f34.trans M4.fh) (by simp),?_⟩
    have R4:Rel K (H',H') [none,some (.val (.lst (pilP (lsD si)))),none,none] ([some (.str t),some (.ref b),x2,x3]:L2.St) H' H':=Sls.rel (.no (.val M4.p (.no (.no .nil)))) (Same.refl _);have g0:=pil_0 si;have g1:dIx (.lst [.non,.lst (si.rt.map toD)]) (.int 1)=.ok (.lst (si.rt.map toD)):=u4v _ _ _;refine⟨_,H',_,R4,u0w (decide (¬ (si.st=[]/\si.rt.length=1))) ?_ λH7 s7=>?_⟩
    ·have hL:(pilP (lsD si)).length=si.st.length+1:=by rw [u2f];simp [lsD,stD]
     have g4:=neI (si.rt.length:Int) 1;by_cases c8:si.st=[]
     ·have l10:¬ 1<((pilP (lsD si)).length:Int):=by rw [hL,c8];simp
      by_cases c9:si.rt.length=1
      ·have g5:dNeX (.int 1) (.int 1)=.ok (.bl false):=(neI 1 1).trans (by simp)
       simp[frz,frzS,l10,g0,g1,g5,c8,c9]
      ·rw [decide_eq_true (by omega)] at g4
       simp[frz,frzS,l10,g0,g1,g4,c8,c9]
     ·have l10:1<((pilP (lsD si)).length:Int):=by
       have:si.st.length≠0:=λh=>c8 (List.eq_nil_of_length_eq_zero h)
       rw[hL];omega
      simp[frz,frzS,l10,c8]
    have M7:=M4.only s7.hh;have c7:Chg (RL b []) F H F4 H7:=c4.trans ((Stp.only M4.fh s7.hh).chg (P:=RL b [])) λy h=>.inl h
    by_cases c0:si.st=[]/\si.rt.length=1
    ·rw [decide_eq_false (fun h=>h c0)]
     obtain⟨rt,st⟩:=si;obtain⟨rfl,h1⟩:=c0
     match rt,h1 with
     | [m],_ =>
     have ed:lrD t=toD m:=by unfold lrD;rw[elr];rfl
     have cl7:=M7.cl;cases cl7 with
     | @cons t2 c2 xv xs _ _ ts' cs' _ ht2 hx hc2 hs2 fc n1' n2 n3 n4' r7 =>
     cases r7;cases hx
     let S:Addr->Prop:=RL b ([t2]++[c2])
     have fb:fpl F4 H7 S b=some (.lst [.ref t2]):=(u3q (S:=S) (.inl rfl)).trans M7.hb;have ft:fpl F4 H7 S t2=some (.lst [.non,.ref c2]):=(u3q (S:=S) (.inr (by simp))).trans ht2
     have fc2:fpl F4 H7 S c2=some (.lst xs):=(u3q (S:=S) (.inr (by simp))).trans hc2
     have ff:=u1w (S:=S) M7.fh;have R8:Rel K (fpl F4 H7 S,H7) [none,some (.val (.lst [.lst [.non,.lst [toD m]]])),none,none] ([some (.str t),some (.ref b),x2,x3]:L2.St) (fpl F4 H7 S) H7:=Sls.rel (.no (.val (.lst (.inl fb) (.cons (.lst (.inl ft) (.cons .non (.cons (.lst (.inl fc2) (hs2.same ff)) .nil))) .nil)) (.no (.no .nil)))) (u3p M7.fh);refine⟨_,_,_,R8,u0w (toD m) ?_ λv F9 H9 s9 p9=>?_⟩
     ·have g2:dIx (.lst [.lst [.non,.lst [toD m]]]) (.int 0)=.ok (.lst [.non,.lst [toD m]]):=u3v _ _
      have g3:dIx (.lst [.non,.lst [toD m]]) (.int 1)=.ok (.lst [toD m]):=u4v _ _ _;have g4:dIx (.lst [toD m]) (.int 0)=.ok (toD m):=u3v _ _;simp[g2,g3,g4]
     have c8:Chg (RL b ([t2]++[c2])) F4 H7 (fpl F4 H7 S) H7:=⟨ff,u3p M7.fh,λx o _ e=>e,λx np n _=>by rw[u2m (S:=S) np];exact n,λy o u z=>by
      unfold fpl at z;split at z
      ·rename_i h
       rcases h with h|h
       ·rw[h,M7.hb] at z;cases z
       ·simp at h
        rcases h with h|h
        ·rw[h,ht2] at z;cases z
        ·rw[h,hc2] at z;cases z
      ·exact z⟩
     have c9:Chg (RL b []) F H F9 H9:=(c7.trans c8 (sub _ n4)).trans (s9.chg (P:=RL b [])) λy h=>.inl h
     exact qo v F9 H9 (c9.stp R.st pn) (by rw[ed];exact p9)
    ·rw [decide_eq_true c0]
     have:lrD t=.non:=by
      have e9:lfin si=none:=by
       obtain⟨rt,st⟩:=si;unfold lfin;split
       ·rename_i m e;cases e;exact absurd ⟨rfl,rfl⟩ c0
       ·rfl
      unfold lrD;rw[elr,e9]
     exact qo .non _ _ (c7.stp R.st pn) (by rw[this];exact .non))),?_⟩
 intro t tx;have e2:tailL [some (.val (.str t)),none,none,none]=.rt (lrD t):=if_pos tx;simp[runT,startD];rw[e2];rfl
end
theorem compF(c:γ->D) (p:γ->Bool) (e:γ->D) {g:D->Rho->Res Rho}:∀{xs:List γ},(∀x∈xs,∃ρ1,g (c x) ρ=.ok ρ1/\fT (frz ρ1)=.ok (p x)/\(p x=true->fe ρ1=.ok (e x)))->compD g fT fe ρ (xs.map c)=.ok ((xs.filter p).map e)
 | [],_=>rfl
 | x::xs,k=>by
  obtain⟨ρ1,k1,k2,k3⟩:=k x z6;have ih:=compF c p e (xs:=xs) λy hy=>k y (z5 _ hy)
  cases h:p x with
  | true=>simp[compD,k1,k2,h,k3 h,ih]
  | false=>simp[compD,k1,k2,h,ih]
def compM(c:γ->D) (e:γ->D) {g:D->Rho->Res Rho}{xs:List γ} (h:∀x∈xs,∃ρ1,g (c x) ρ=.ok ρ1/\fT (frz ρ1)=.ok true/\fe ρ1=.ok (e x)):compD g fT fe ρ (xs.map c)=.ok (xs.map e):=by
 rw[compF c (λ_=>true) e λx hx=>?_,List.filter_eq_self.mpr λ_ _=>rfl]
 obtain⟨ρ1,a,b,d⟩:=h x hx;exact⟨ρ1,a,b,λ_=>d⟩
def th{Q:Out->Prop}{f:Rho->Out} (h:a=.nx ρ) (k:Q (f ρ)):Q (a.andThen f):=by rw[h];exact k
def goq{Q:Out->Prop}{r:Res α}{k:α->Out}{v:α} (h:r=.ok v) (q:Q (k v)):Q (r.go ρ k):=by rw[h];exact q
def thq{Q T:Out->Prop}{f:Rho->Out} (q:T a) (k:∀o,T o->Q (o.andThen f)):Q (a.andThen f):=k _ q
def RetsX (r:Res D) (o:Out):Prop:=outR o=r
def runX1{m:Nat} (hl:ds.length=m) (h:RetsX r (t (startD n ds))):runX n m t ds=r:=by unfold runX;rw[if_pos hl];exact h
def Rets (v:D) (o:Out):Prop:=o=.rt v
def run1{m:Nat} (hl:ds.length=m) (h:Rets v (t (startD n ds))):runT n m t ds=.ok v:=by unfold runT;rw[if_pos hl,h];rfl
def asg{Q:Out->Prop}{r:Res α}{ρ2:Rho}{k:α->Out}{f:Rho->Out} (v:α) (h:r=.ok v) (e:k v=.nx ρ2) (q:Q (f ρ2)):Q ((r.go ρ k).andThen f):=by rw[h];exact th e q
def brI{Q:Out->Prop}{r:Res Bool}{A B:Out} (b:Bool) (h:r=.ok b) (t:b=true->Q A) (e:b=false->Q B):Q (r.go ρ λb=>if b=true then A else B):=by
 rw[h];cases b with
 | true=>exact t rfl
 | false=>exact e rfl
def brT{Q:Out->Prop}{r:Res Bool}{A B:Out}{f:Rho->Out} (b:Bool) (h:r=.ok b) (t:b=true->Q (A.andThen f)) (e:b=false->Q (B.andThen f)):Q ((r.go ρ λb=>if b=true then A else B).andThen f):=by
 rw[h];cases b with
 | true=>exact t rfl
 | false=>exact e rfl
def retq{Q:Out->Prop}{f:Rho->Out} (h:r=.ok v) (q:Q (.rt v)):Q ((r.go ρ λd=>.rt d).andThen f):=by rw[h];exact q
def int_n (n:Nat):intL 0 n=(List.range n).map dN:=by
 unfold intL;refine List.map_congr_left λi _=>?_
 rw[Int.zero_add]
def v1l(h:n<1000):gStrI [dN n]=.ok (.str (nmS (n:Int))):=by
 have:∀n:Nat,n<1000->((n:Int)).natAbs.log2<1920/\(nmS (n:Int)).length<=3:=by decide +kernel
 obtain⟨h1,h2⟩:=this n h;show(strI (dN n)).bind _=_;rw[show strI (dN n)=.ok (nmS (n:Int)) from u0u ⟨h1,y9 h2 (by decide)⟩]
 rfl
def v0b(h:n<1000):(nmS (n:Int)).length<=3:=by
 have:∀n:Nat,n<1000->(nmS (n:Int)).length<=3:=by decide +kernel
 exact this n h
section
set_option tactic.hygienic true in
def u3u (F:Fun K "is_short_text" "is_short_text" u1m f fd) (T:Txt K mg A):∃G,FnOk P w K mg base CX0 1 f fd ["thing"] (spF K G)/\P1 shortD G:=by
 refine⟨_,F.okT (k:=0) u3t (λcdv Ar outer s H E hr=>u0h (u0m (u4h (d_B u8N T.z_isinstance (by decide +kernel) (u0a (dv 0) (u0a (d_ty T.z_str (T:="str") (by decide +kernel)) u0b))) (u7o (d_chain o_le o_le u0d (d_B u0T T.z_len (by decide +kernel) (u0a (dv 0) u0b)) (v0C T.g_LONGEST)))))),?_⟩
 intro d h;simp[runT,startD,a_str (u6g h)];cases d<;>simp[isStrD,shortD,gLen]
 rename_i z;unfold shortS;by_cases c:1<=z.length
 ·have c':(1:Int)<=z.length:=by omega
  simp[c,c'];omega
 ·have c':¬ (1:Int)<=z.length:=by omega
  simp[c,c']
def u7b (F:Fun K "has_only" "has_only" u2e f fd) (T:Txt K mg A):∃G,FnOk P w K mg base CX0 1 f fd ["text","allowed"] (spF K G)/\∀z a,z.length<=1000->G [.str z,.str a]=.ok (.bl (onlyS z a)):=by
 refine⟨_,F.okT (k:=0) u6P (λcdv Ar outer s H E hr=>u0h (u0m (d_B (c_all rfl) T.z_all (by decide +kernel) (u0a (DN.de (u3i ["mark"] [1] rfl (u1b (sc:=defScope u2e) (N:=["text","allowed"]) (by decide +kernel)) (u1Z (dv 0)) (dg_n (show(["mark","allowed"]:List Str).Nodup by decide +kernel)) u4O (u4g (o_in (hu100 hr)) (dv 0) (dv 1)))) u0b)))),?_⟩
 intro z a hz;simp[runT,startD];rw[show items (.str z)=.ok (chars z) from rfl,Res.bind_ok,u0u (by rw[u4l];exact u3W hz),u4j (λd=>D.bl (chIn a d)) (λd hd=>?_)]
 ·simp only[Res.bind_ok,u9f,v2k,u4J,go_ok,outR_rt,v0Y]
 ·obtain ⟨c,_,rfl⟩:=z2G.mp hd
  refine⟨_,rfl,rfl,?_⟩;simp[rhoC];rfl
set_option tactic.hygienic true in
def u8x {a1d:FD} (a0s:Callee P w K mg base 1 "is_short_text" ["thing"] (spF K a1d)) {a2g:FD} (a1r:Callee P w K mg base 1 "has_only" ["text","allowed"] (spF K a2g)) (a2p:P1 shortD a1d) (a2w:∀z a,z.length<=1000->a2g [.str z,.str a]=.ok (.bl (onlyS z a))) (F:Fun K "is_sign" "is_sign" u3P f fd) (T:Txt K mg A):∃G,FnOk P w K mg base CX0 2 f fd ["thing"] (spF K G)/\P1 sgnD G:=by
 refine⟨_,F.okT (k:=1) u8u (λcdv Ar outer s H E hr=>u0h (u0m (u4h (d_fn a0s hr (u0a (dv 0) u0b)) (u7o (d_fn a1r hr (u0a (dv 0) (u0a (v0C T.g_IN_SIGNS) u0b))))))),?_⟩
 intro d h;simp[runT,startD,a2p d h];cases d<;>simp[shortD,sgnD,sgnS]
 rename_i z;by_cases c:shortS z=true
 ·simp[c,a2w z _ (by have:=u7B c;omega)]
 ·simp[c]
def u4s (F:Fun K "_law_is_sign" "_law_is_sign" u1i f fd) (T:Txt K mg A):∃G,FnOk P w K mg base CX0 1 f fd ["_law_thing"] (spF K G)/\SgnG G:=by
 refine⟨_,F.okT (k:=0) u2k (λcdv Ar outer s H E hr=>u0f (u0R (dt_w (u2v (u0o o_lt (d_B u0T T.z_len (by decide +kernel) (u0a (dv 0) u0b)) u0d) (u1K (u0o o_gt (d_B u0T T.z_len (by decide +kernel) (u0a (dv 0) u0b)) u0d)))) (u0h (u0m d_bl)) u0y)
  (u0f (ds_n u2k.nd u0r)
  (u0h (u0m (u4g (u1u (hu64 hr)) (d_B u0T T.z_len (by decide +kernel) (u0a (DN.de (u3i ["_law_sign_here"] [1] rfl (u1b (sc:=defScope u1i) (N:=["_law_thing","_law_signs"]) (by decide +kernel)) (u1Z (dv 0)) (dg_n (show(["_law_sign_here","_law_signs"]:List Str).Nodup by decide +kernel)) (v3i (u0o (u9V (hu100 hr)) (dv 0) (dv 1))) (dv 0))) u0b)) u0d))))),?_⟩
 intro z gz;have hl:=u4l z;have hc:chars z=z.cps.toList.map λc=>D.str ⟨#[c]⟩:=rfl
 have hlen:=u0p z;refine run1 rfl ?_;refine brT (Q:=Rets _) (!shortS z) ?_ (λc=>?_) λc=>?_
 ·unfold shortS
  by_cases c1:1<=z.length
  ·have c2:¬ (z.length:Int)<1:=by omega
   by_cases c3:z.length<=6
   ·have c4:¬ 6<(z.length:Int):=by omega
    simp[startD,frz,frzS,c1,c2,c3,c4]
   ·have c4:6<(z.length:Int):=by omega
    simp[startD,frz,frzS,c1,c2,c3,c4]
  ·have c2:(z.length:Int)<1:=by omega
   simp[startD,frz,frzS,c1,c2]
 ·have:sgnS z=false:=by unfold sgnS;rw [show shortS z=false by simpa using c];rfl
  rw[this];rfl
 ·have c:shortS z=true:=by simpa using c
  refine th (Q:=Rets _) rfl ?_;refine asg (Q:=Rets _) (.str signT) rfl rfl ?_;refine goq (Q:=Rets _) (v:=.bl (sgnS z)) ?_ rfl;have e0:(0:Int)=((0:Nat):Int):=rfl;have e1:=eqI (((z.cps.toList.filter λc=>!inS ⟨#[c]⟩ signT).length:Nat):Int) 0
  simp[startD,frz,frzS];rw[show items (.str z)=.ok (chars z) from rfl,Res.bind_ok,u0u (by rw[u4l];exact u3W gz.2),hc,compF (λc=>D.str ⟨#[c]⟩) (λc=>!inS ⟨#[c]⟩ signT) (λc=>D.str ⟨#[c]⟩) λx _=>⟨_,rfl,?_,λ_=>rfl⟩]
  ·have e2:decide ((((z.cps.toList.filter λc=>!inS ⟨#[c]⟩ signT).length:Nat):Int)=0)=onlyS z signT:=by
    unfold onlyS;rw[Bool.eq_iff_iff,decide_eq_true_eq,z3E];constructor
    ·intro h x mx
     have h:(z.cps.toList.filter λc=>!inS ⟨#[c]⟩ signT)=[]:=List.eq_nil_of_length_eq_zero (by omega)
     have:=List.filter_eq_nil_iff.mp h x mx
     simpa using this
    ·intro h
     rw[List.filter_eq_nil_iff.mpr λx mx=>by rw[h x mx];simp]
     rfl
   have e3:sgnS z=onlyS z signT:=by unfold sgnS;rw[c];rfl
   rw[e2] at e1;rw[e3];show noE (dEqJ (.int (((z.cps.toList.filter λc=>!inS ⟨#[c]⟩ signT).map λc=>D.str ⟨#[c]⟩).length:Int)) (.int 0))=_
   rw[x9,e1];rfl
  ·simp [rhoC,frz,frzS]
   rfl
def u5e (F:Fun K "_law_number" "_law_number" u1q f fd) (T:Txt K mg A):∃G,FnOk P w K mg base CX0 1 f fd ["_law_word"] (spF K G)/\NumG G:=by
 refine⟨_,F.okT (k:=0) u2C (λcdv Ar outer s H E hr=>u0f (u8f ["_law_number_here"] [] rfl (u1b (sc:=defScope u1q) (N:=["_law_word","_law_some"]) (by decide +kernel)) u2C.nd (u4f T.z_range (u0a u0d u0b)) (dg_n (show(["_law_number_here"]:List Str).Nodup by decide +kernel)) u4O (d_T v2z T.z_str (by decide +kernel) (u0a (dv 0) u0b)))
  (u0f (u0R (u0o (o_in (hu100 hr)) (dv 0) (dv 1)) (u0h (u0m (d_T v3m T.z_int (by decide +kernel) (u0a (dv 0) u0b)))) u0y)
  (u0h (u0m u7p)))),?_⟩
 intro z oz;refine run1 rfl ?_;refine asg (Q:=Rets _) (OD.l (NUMS.map D.str)) ?_ rfl ?_
 ·have e1:rng1 [.int 20]=.ok ((List.range 20).map dN):=(v1y (n:=20) (by omega)).trans (congrArg Res.ok (int_n 20))
  have e2:∀n:Nat,n<20->gStrI [dN n]=.ok (.str (nmS (n:Int))):=λn hn=>v1l (by omega)
  simp[startD,e1];rw[u0u (by decide),compM dN (λn:Nat=>.str (nmS (n:Int))) λn hn=>⟨_,rfl,rfl,(by show noE (gStrI [dN n])=_;rw[e2 n (z3B.mp hn)];rfl)⟩]
  show Res.ok (OD.l ((List.range 20).map λn:Nat=>D.str (nmS (n:Int))))=_
  rw[show((List.range 20).map λn:Nat=>D.str (nmS (n:Int)))=NUMS.map D.str from ?_]
  have:NUMS=(List.range 20).map λn:Nat=>nmS (n:Int):=by decide +kernel
  rw[this,z3F];rfl
 have ein:dIn (.str z) (.lst (NUMS.map D.str))=.ok (.bl (numS z).isSome):=by
  show inD _ _ false=_;rw[v0m oz u9X,if_neg (by simp),u9Y]
 refine brT (Q:=Rets _) (numS z).isSome (by simp[startD,frz,frzS,OD.toD,ein]) (λc=>?_) λc=>?_
 ·cases h:numS z with
  | none=>rw[h] at c;cases c
  | some n =>
   refine retq (Q:=Rets _) (v:=.int n) ?_ rfl;simp[startD,frz,frzS,u9Z h]
 ·cases h:numS z with
  | some n=>rw[h] at c;cases c
  | none=>rfl
end
inductive Pt where
 | t (m:Md)|s (z:Str)
noncomputable def ptD (A:Adr):Pt->D
 | .t m=>tr A m
 | .s z=>.str z
noncomputable def ptL:Pt->List Nat
 | .t m=>shL m
 | .s z=>z.cps.toList
noncomputable def ptW:Pt->Nat
 | .t m=>3*sz m - 1
 | .s _=>1
def ptO:Pt->Prop
 | .t m=>Ok m
 | .s _=>True
noncomputable def wsum (ps:List Pt):Nat:=(ps.map ptW).sum
def u1g (a b:List Pt):wsum (a++b)=wsum a+wsum b:=by simp[wsum]
noncomputable def kidP (cs:List Md):List Pt:=cs.reverse.flatMap λc=>[.t c,.s " "]
def v2V (p:Pt):1<=ptW p:=by
 cases p with
 | t m=>have:=u4R (m:=m);simp[ptW];omega
 | s z=>simp[ptW]
theorem u8U:∀ps:List Pt,ps.length<=wsum ps
 | []=>y0 _
 | p::ps=>by have:=u8U ps;have:=v2V p;simp[wsum] at *;omega
def kid_w:∀cs:List Md,wsum (kidP cs)=3*szs cs:=by
 intro cs;unfold kidP;induction cs with
 | nil=>rfl
 | cons c cs ih =>
  rw[List.reverse_cons,List.flatMap_append,u1g,ih]
  have:=u4R (m:=c)
  simp[wsum,ptW,szs];omega
def kid_l:∀cs:List Md,(kidP cs).reverse.flatMap ptL=shLs cs:=by
 intro cs;unfold kidP;induction cs with
 | nil=>rfl
 | cons c cs ih =>
  rw[List.reverse_cons,List.flatMap_append,List.reverse_append,List.flatMap_append,ih];have e:(" ":Str).cps.toList=[32]:=by decide +kernel
  simp[ptL,shLs,e]
structure ShI (m:Md) (told:List Str) (wt:List Pt):Prop where
 e:told.flatMap (λz=>z.cps.toList)++wt.reverse.flatMap ptL=shL m
 w:told.length+wsum wt<=3*sz m
 o:∀p∈wt,ptO p
def ShI.one{wt:List Pt}{p:Pt} (h:ShI m told (wt++[p])) (e:ptL p=z.cps.toList) (hw:1<=ptW p):ShI m (told++[z]) wt:=by
 refine⟨?_,?_,λp hp=>h.o p (r9 _ hp)⟩
 ·rw[<- h.e];simp[e]
 ·have:=h.w
  rw[u1g] at this;simp[wsum] at this |-
  omega
theorem ShI.node{wt:List Pt}{n:Int} (h:ShI m told (wt++[.t (.node n cs)])):ShI m (told++[("{":Str)++nmS n]) (wt++[.s "}"]++kidP cs):=by
 refine⟨?_,?_,λp hp=>?_⟩
 ·rw [<- h.e]
  have e1:("{":Str).cps.toList=[123]:=by decide +kernel
  have e2:("}":Str).cps.toList=[125]:=by decide +kernel
  have e3:(wt++[Pt.s "}"]++kidP cs).reverse.flatMap ptL=shLs cs++(125::wt.reverse.flatMap ptL):=by
   rw[List.reverse_append,List.flatMap_append,kid_l];simp[ptL,e2]
  rw[e3];simp[u1f,e1,ptL,shL]
 ·have:=h.w
  rw[u1g] at this;rw[u1g,u1g,kid_w];simp[wsum,ptW,sz] at this |-
  omega
 ·rcases v6.mp hp with hp | hp
  ·rcases v6.mp hp with hp | hp
   ·exact h.o p (r9 _ hp)
   ·rw[z0H.mp hp];trivial
  ·unfold kidP at hp
   obtain⟨c,mc,hp⟩:=List.mem_flatMap.mp hp;have ok:Ok (.node n cs):=h.o (.t (.node n cs)) (by simp)
   simp at hp;rcases hp with rfl|rfl
   ·exact Ok.kid ok (by simpa[kids] using mc)
   ·trivial
def v2O:∀m,Ok m->(shL m).length+1<=1010*sz m:=by
 intro m;induction m using Md.ind with
 | hl s =>
  intro ok;cases ok with
  | leaf h l=>rw[shL,u0p,sz];omega
 | hn n cs ih =>
  intro ok;cases ok with
  | node h0 h1 hl hc =>
   have key:∀cs:List Md,(∀c∈cs,(shL c).length+1<=1010*sz c)->(shLs cs).length<=1010*szs cs:=by
    intro cs;induction cs with
    | nil=>intro _;simp[shLs]
    | cons c cs ih2 =>
     intro h;have a:=h c z6;have b:=ih2 λx m=>h x (z5 _ m)
     simp[shLs,szs];omega
   have k:=key cs λc mc=>ih c mc (hc c mc)
   obtain⟨j,rfl⟩:=Int.eq_ofNat_of_zero_le h0;have nl:=v0b (n:=j) (by omega)
   have:(nmS (j:Int)).cps.size<=3:=nl
   simp[shL,sz];omega
def ex_nx{R:Option Sl->Rho}{n2:Nat}{S:Nat->Rho->Prop} (h:∃x,o=.nx (R x)) (l:n2<n) (s:∀x,S n2 (R x)):∃ρ2 n2,n2<n/\o=.nx ρ2/\S n2 ρ2:=by obtain⟨x,e⟩:=h;exact⟨R x,n2,l,e,s x⟩
theorem u8a{g:D->Rho->Res Rho}{a b d:Option Sl} (hg:∀x w y,g x [a,b,some (.own (.l w)),d,y]=.ok [a,b,some (.own (.l w)),d,some (.val x)])
  (hb:∀w x,w.length+2<=sizeLine->tb [a,b,some (.own (.l w)),d,some (.val x)]=.nx [a,b,some (.own (.l (w++[x,.str " "]))),d,some (.val x)]) :
  ∀(xs w:List D) (y:Option Sl),w.length+2*xs.length<=10000->∃y',forD g tb xs [a,b,some (.own (.l w)),d,y]=.nx [a,b,some (.own (.l (w++xs.flatMap λx=>[x,.str " "]))),d,y']
 | [],w,y,_=>⟨y,by simp[forD]⟩
 | x::xs,w,y,h=>by
  simp at h;obtain⟨y',e⟩:=u8a hg hb xs (w++[x,.str " "]) (some (.val x)) (by simp;omega)
  refine⟨y',?_⟩;simp only[forD,hg,u4J,go_ok,hb w x (y9 (show _<=10000 by omega) (by decide)),e]
  simp
def kid_d (A:Adr) (cs:List Md):(kidP cs).map (ptD A)=(cs.map (tr A)).reverse.flatMap λx=>[x,.str " "]:=by
 unfold kidP;induction cs with
 | nil=>rfl
 | cons c cs ih=>rw[List.reverse_cons,List.flatMap_append,z0A,ih,z0C,List.reverse_cons,List.flatMap_append];rfl
def kid_len (cs:List Md):(kidP cs).length=2*cs.length:=by
 unfold kidP;induction cs with
 | nil=>rfl
 | cons c cs ih=>rw[List.reverse_cons,List.flatMap_append,u4,ih];simp;omega
theorem u8c:∀ss:List Str,(ss.flatMap λz=>z.cps.toList).length=(ss.map (·.length)).sum
 | []=>rfl
 | z::ss=>by rw[List.flatMap_cons,u4,u8c ss,u0p];rfl
def isI_tr (A:Adr) (m:Md) {T:String} (h:T∈(["bool","int","str","list","tuple","dict"]:List String)):gIsI [A.Leaf,A.Node] [tr A m,.ty T]=.ok (.bl false):=by
 cases m<;>(show(if _ then _ else _)=_;rw[if_pos ⟨by simp,h⟩])
theorem u3y:∀ss:List Str,strsOf (ss.map D.str)=some ss
 | []=>rfl
 | z::ss=>by simp[strsOf,u3y ss]
theorem u6d (z:Str):∀ys:List Str,(Txt.join z ys).cps.toList=match ys with | []=>[] | y::ys=>y.cps.toList++ys.flatMap λp=>z.cps.toList++p.cps.toList
 | []=>rfl
 | y::ys=>u2H z y ys
def u5L {g_is_leaf:Addr->List D->Res D} (m_is_leaf:∀C∈[A.Leaf,A.Node],MCalleeF P w K mg base 1 C "is_leaf" ["self"] (g_is_leaf C)) (a0g:LeafM A g_is_leaf) (F:Fun K "show_tree" "show_tree" u2p f fd) (T:Txt K mg A):∃G,FnOk P w K mg base CX0 2 f fd ["tree"] (spF K G)/\∀m,Ok m->sz m<=1000->G [tr A m]=.ok (.str (shw m)):=by
 refine⟨_,F.okT (k:=1) u0X (λcdv Ar outer s H E hr=>u0f (u8e u0X.nd (u4N u0b))
  (u0f (u8e u0X.nd (u4N (u0a (dv 0) u0b)))
  (u0f (u5p (u0o o_gt (d_B u0T T.z_len (by decide +kernel) (u0a (dv 2) u0b)) u0d) (u0f (dsx_n u0X.nd (x_pop 2))
   (u0h (u0R (u0D (d_B (v2B T.isI) T.z_isinstance (by decide +kernel) (u0a (dv 3) (u0a (d_ty T.z_str (T:="str") (by decide +kernel)) u0b)))) (u0h (u8g 1 (dv 3))) (u0h (u0R (u0D (u4w m_is_leaf hr (dv 3))) (u0h (u8g 1 (u1a T.f_sign (dv 3)))) (u0f (u8g 1 (d_op u0I u0r (d_T v2z T.z_str (by decide +kernel) (u0a (u1a T.f_number (dv 3)) u0b))))
     (u0f (u8g 2 u0r)
     (u0h (u6l rfl (di_rev T.z_reversed (u0a (u1a T.f_children (dv 3)) u0b)) (dg_n u0X.nd)
     (u0h (v3h 2 (u4x (u0a (dv 4) (u0a u0r u0b)))))))))))))))
  (u0h (u0m (v0B (dv 1))))))),?_⟩
 intro m ok hz;refine run1 rfl ?_;refine asg (Q:=Rets _) (OD.l ([]:List D)) rfl rfl ?_;refine asg (Q:=Rets _) (OD.l [tr A m]) (by simp[startD,u1k]) rfl ?_
 refine thq (T:=λo=>∃told x3 x4,o=.nx [some (.val (tr A m)),some (.own (.l (told.map D.str))),some (.own (.l [])),x3,x4]/\ShI m told []) ?_ ?_
 ·refine u8Y (S:=λn ρ=>∃told wt x3 x4,ρ=[some (.val (tr A m)),some (.own (.l (told.map D.str))),some (.own (.l (wt.map (ptD A)))),x3,x4]/\ShI m told wt/\wsum wt=n) (Q:=λo=>∃told x3 x4,o=.nx [some (.val (tr A m)),some (.own (.l (told.map D.str))),some (.own (.l [])),x3,x4]/\ShI m told [])
   (λo h=>by obtain⟨_,_,_,e,_⟩:=h;rw[e];trivial) (λn ρ h=>?_) (wsum [.t m]) _ ⟨[],[.t m],none,none,rfl,⟨by simp[ptL],by simp[wsum,ptW],by simpa[ptO] using ok⟩,rfl⟩
  obtain⟨told,wt,x3,x4,rfl,I,hn⟩:=h;rcases List.eq_nil_or_concat wt with rfl|⟨wt,p,rfl⟩
  ·left
   exact⟨by simp[frz,frzS,OD.toD,gLen],told,x3,x4,rfl,I⟩
  ·right
   rw[List.concat_eq_append] at *
   have hw:=I.w;have hwp:wsum wt+ptW p=n:=by rw[u1g] at hn;simpa[wsum] using hn
   have p1:=v2V p;have lw:wt.length<=wsum wt:=u8U wt;rw[u1g] at hw;have lt:told.length<=3000:=by omega
   have e5:(told.map D.str).length<sizeLine:=by rw[x9];exact z1D lt (by decide)
   have pw:=u9F (ρ:=[some (.val (tr A m)),some (.own (.l (told.map D.str))),some (.own (.l ((wt++[p]).map (ptD A)))),x3,x4]) (i:=2) (l:=wt.map (ptD A)) (x:=ptD A p) (by simp)
   refine⟨by simp[frz,frzS,OD.toD,gLen],.inl ?_⟩
   rw[pw];cases p with
   | s z =>
    have I2:=I.one (z:=z) rfl (by simp[ptW])
    have es:gIsI [A.Leaf,A.Node] [.str z,.ty "str"]=.ok (.bl true):=rfl;refine⟨_,wsum wt,by omega,?_,told++[z],wt,some (.val (.str z)),x4,rfl,I2,rfl⟩
    have es':=es;simp only[x9] at e5;simp[ptD,frz,frzS,es,getL,e5]
   | t m2 =>
    have es:=isI_tr A m2 (T:="str") (by simp)
    have il:=u1j a0g m2;cases m2 with
    | leaf z =>
     have I2:=I.one (z:=z) rfl (by simp[ptW,sz])
     refine⟨_,wsum wt,by omega,?_,told++[z],wt,some (.val (tr A (.leaf z))),x4,rfl,I2,rfl⟩
     simp only[x9] at e5;simp[ptD,frz,frzS,es,il,isLeafB,u5o,getL,e5]
    | node nn cs =>
     have I2:=I.node;have ok2:Ok (.node nn cs):=I.o (.t (.node nn cs)) (by simp)
     have hn2:wsum (wt++[.s "}"]++kidP cs)<n:=by
      rw[u1g,u1g,kid_w];simp[wsum,ptW,sz] at hwp |-
      omega
     have w2:=I2.w;have l2:=u8U (wt++[.s "}"]++kidP cs);obtain⟨j,rfl⟩:∃j:Nat,nn=j:=by cases ok2 with|node h0 _ _ _=>exact Int.eq_ofNat_of_zero_le h0
     have hj:j<1000:=by cases ok2 with|node _ h1 _ _=>omega
     have e6:=v1l hj;have e7:dAdd (.str "{") (.str (nmS (j:Int)))=.ok (.str ("{"++nmS (j:Int))):=u0u (y9 (show _<=4 by have:=v0b hj;show 1+_<=4;omega) (by decide))
     have e8:wt.length<sizeLine:=z1D (show _<=3000 by omega) (by decide)
     refine ex_nx (R:=λx=>[some (.val (tr A m)),some (.own (.l ((told++["{"++nmS (j:Int)]).map D.str))),some (.own (.l ((wt++[Pt.s "}"]++kidP cs).map (ptD A)))),some (.val (tr A (.node j cs))),x]) ?_ hn2 λx=>⟨_,_,_,x,rfl,I2,rfl⟩
     simp only[x9] at e5;have hr:revT [.tup (trs A cs)]=.ok (cs.reverse.map (tr A)):=by show Res.ok _=_;rw[u2M,List.map_reverse]
     simp[ptD,frz,frzS,es,il,isLeafB,u2h,u0Z,e6,e7,hr,getL,e5,e8];have l3:=kid_len cs;simp only[u4,z1H] at l2 w2
     have:=u8a (g:=λd ρ=>Res.ok (List.set ρ 4 (some (Sl.val d)))) (tb:=λρ=>(getL ρ 2).go ρ λds=>(((getV ρ 4).bind λd=>Res.ok [d,D.str " "]).bind λds=>szD ds (Res.ok (D.lst ds))).go ρ λd=>match d with | .lst es=>if ds.length+es.length<=sizeLine then Out.nx (List.set ρ 2 (some (Sl.own (OD.l (ds++es))))) else Out.bad|_=>Out.bad)
      (a:=some (.val (tr A m))) (b:=some (.own (.l (told.map D.str++[.str ("{"++nmS (j:Int))])))) (d:=some (.val (tr A (.node j cs)))) (λx w y=>rfl) (λw x hl=>by simp[getL,u1k,hl]) (cs.map (tr A)).reverse (wt.map (ptD A)++[.str "}"]) x4 (by simp only[u4,x9,z1H,z1C];omega)
     obtain⟨y',e⟩:=this;refine⟨y',?_⟩;refine Eq.trans (Eq.trans ?_ e) ?_
     ·rfl
     ·rw[kid_d];simp
 ·rintro _ ⟨told,x3,x4,rfl,I⟩
  have ej:Txt.join "" told=shw m:=u0O (by
   rw[u6d];have e:=I.e;simp at e;show _=shL m;rw[<- e];cases told with
   | nil=>rfl
   | cons y ys=>simp[show("":Str).cps.toList=[] by decide +kernel])
  have hsum:(told.map (·.length)).sum=(shL m).length:=by
   have e:=I.e;simp at e;rw[<- e,u8c]
  have hl:=v2O m ok;refine th (Q:=Rets _) rfl ?_;refine goq (Q:=Rets _) (v:=.str (shw m)) ?_ rfl;have e9:joinD "" (.lst (told.map D.str))=.ok (.str (shw m)):=by
   show joinL "" (told.map D.str)=_;unfold joinL;rw[u3y];show gd _ _=_;rw[u0u ?_,ej];rw[hsum,show("":Str).length=0 by decide +kernel]
   omega
  simp[frz,frzS,OD.toD,e9]
def TextM (d:Nat) (G:FD):Prop:=∀m,dp m<=d->Ok m->sz m<=500->G [toD m]=.ok (.str (shw m))
def u3I (m:Md):(shw m).cps.toList=shL m:=rfl
def v1n (s:Str):shw (.leaf s)=s:=u0O rfl
def u6c (y:Str) (cs:List Md):(Txt.join " " (y::cs.map shw)).cps.toList=y.cps.toList++shLs cs:=by
 rw[u2H];congr 1;have e:(" ":Str).cps.toList=[32]:=by decide +kernel
 induction cs with
 | nil=>rfl
 | cons c cs ih=>rw[z0C,List.flatMap_cons,ih,e,u3I,shLs];simp
theorem u7x:∀cs:List Md,((cs.map shw).map (·.length)).sum<=(shLs cs).length
 | []=>y0 _
 | c::cs=>by
  have:=u7x cs
  have e:(shw c).length=(shL c).length:=(u0p (shw c)).symm;simp[shLs] at this |-
  rw[e];omega
def u4z {a b:Str} (h:a.length+b.length<=16777216):dAdd (.str a) (.str b)=.ok (.str (a++b)):=u0u h
def u6T{k:Nat} (h3:3<=k) {a0j:FD} (a0h:Callee P w K mg base k "_law_text" ["_law_model"] (spF K a0j))  (a1s:TextM d a0j) (F:Fun K "_law_text" "_law_text" u2c f fd) (T:Txt K mg A):∃G,FnOk P w K mg base CX0 (k+1) f fd ["_law_model"] (spF K G)/\TextM (d+1) G:=by
 refine⟨_,F.okT (k:=k) u6M (λcdv Ar outer s H E hr=>u0f (u0R (u0D (d_B u8N T.z_isinstance (by decide +kernel) (u0a (dv 0) (u0a (d_ty T.z_str (T:="str") (by decide +kernel)) u0b)))) (u0h (u0m (dv 0))) u0y)
  (u0h (u0m (d_op u0I (d_op u0I u0r (v0B (d_op u0I (u4x (u0a (d_T v2z T.z_str (by decide +kernel) (u0a (d_ix x_ix (dv 0) u0d) u0b)) u0b)) (DN.de (u3i ["_law_child"] [] rfl (u1b (sc:=defScope u2c) (N:=["_law_model"]) (by decide +kernel)) (u1Z (d_ix x_ix (dv 0) u0d)) (dg_n (show(["_law_child"]:List Str).Nodup by decide +kernel)) u4O (d_fn a0h (hk:=by omega) hr (u0a (dv 0) u0b))))))) u0r)))),?_⟩
 intro m hd ok hz;cases ok with
 | @leaf s h l =>
  rw[v1n];refine run1 rfl ?_;exact brT (Q:=Rets _) true (by simp[startD,frz,frzS,v1d]) (λ_=>rfl) (λc=>by cases c)
 | @node n cs h0 h1 hl hc =>
  have ok:Ok (.node n cs):=.node h0 h1 hl hc;obtain⟨j,rfl⟩:=Int.eq_ofNat_of_zero_le h0;have hj:j<1000:=by omega
  refine run1 rfl ?_;refine brT (Q:=Rets _) false (by simp[startD,frz,frzS,v1c]) (λc=>by cases c) λ_=>?_
  refine th (Q:=Rets _) rfl ?_;have sl:=v2O _ ok;have nl:=v0b hj;have hz':szs cs+1<=500:=hz;have ls:=u3e cs;have ek:(shL (.node (j:Int) cs)).length=(nmS (j:Int)).length+(shLs cs).length+2:=by
   have:(nmS (j:Int)).cps.size=(nmS (j:Int)).length:=rfl
   simp[shL,this];omega
  have e1:=v1l hj;have ej:(Txt.join " " (nmS (j:Int)::cs.map shw)).length=(nmS (j:Int)).length+(shLs cs).length:=by
   rw[<- u0p,u6c,u4,u0p]
  have e3:joinD " " (.lst ((nmS (j:Int)::cs.map shw).map D.str))=.ok (.str (Txt.join " " (nmS (j:Int)::cs.map shw))):=by
   show joinL " " _=_;unfold joinL;rw[u3y];refine u0u ?_
   have:=u7x cs
   rw[z0C,List.sum_cons,z0D,x9,show(" ":Str).length=1 by decide +kernel]
   omega
  have e4:dAdd (.str "{") (.str (Txt.join " " (nmS (j:Int)::cs.map shw)))=.ok (.str ("{"++Txt.join " " (nmS (j:Int)::cs.map shw))):=u4z (by rw[ej];show 1+_<=_;omega)
  have e5:dAdd (.str ("{"++Txt.join " " (nmS (j:Int)::cs.map shw))) (.str "}")=.ok (.str ("{"++Txt.join " " (nmS (j:Int)::cs.map shw)++"}")):=u4z (by rw[u0q,ej];show 1+_+1<=_;omega)
  have e6:"{"++Txt.join " " (nmS (j:Int)::cs.map shw)++"}"=shw (.node (j:Int) cs):=u0O (by
   rw[u1f,u1f,u6c,u3I,shL,show("{":Str).cps.toList=[123] by decide +kernel,show("}":Str).cps.toList=[125] by decide +kernel]
   simp)
  have e7:dAdd (.lst [.str (nmS (j:Int))]) (.lst (cs.map λc=>.str (shw c)))=.ok (.lst ((nmS (j:Int)::cs.map shw).map D.str)):=by
   rw[u2L (by simp;omega)]
   simp[Function.comp_def]
  refine goq (Q:=Rets _) (v:=.str (shw (.node (j:Int) cs))) ?_ rfl;simp[startD,frz,frzS,ix_n0,ix_n1,e1,u1k,u2t];rw[u0u (by rw[u3x];exact u3W hl),u2a,compM toD (λc=>.str (shw c)) λc mc=>⟨_,rfl,rfl,?_⟩]
  ·simp only[Res.bind_ok,u9f,e7,u4J,e3,e4,e5,e6]
  ·have d1:=u5s mc
   have d2:=u9i mc;have hd':dps cs+1<=d+1:=hd;show noE (a0j [toD c])=_;rw[a1s c (by omega) (hc c mc) (by omega)]
   rfl
def v2w(xs:List α) (n:Nat):cutC xs none (some (n:Int))=xs.take n:=by
 unfold cutC;rw[HT.sIx_none,HT.sIx_nat];simp[List.take_eq_take_min]
def v2x(xs:List α) (n:Nat):cutC xs (some (n:Int)) none=xs.drop n:=by
 unfold cutC;rw[HT.sIx_none,HT.sIx_nat];by_cases h:n<=xs.length
 ·rw[Nat.min_eq_left h,List.take_of_length_le (by simp)]
 ·rw [Nat.min_eq_right (by omega),List.drop_length,List.drop_of_length_le (by omega)]
  simp
def u1s(c:α->D) (xs:List α) (lo hi:Option Int):cutC (xs.map c) lo hi=(cutC xs lo hi).map c:=by
 unfold cutC;rw[x9,List.map_take,List.map_drop]
theorem u5D  [DecidableEq α] (c:α):∀l:List α,(splitL c l).length=l.count c+1
 | []=>rfl
 | x::l=>by
  have ih:=u5D c l;have ne:=u1M c l;rw[splitL];by_cases e:x=c
  ·rw[if_pos e,z0D,ih,e,List.count_cons_self]
  ·rw [if_neg e,List.count_cons_of_ne (fun z=>e z)]
   cases h:splitL c l with
   | nil=>exact absurd h ne
   | cons w r=>rw[h] at ih;simpa using ih
theorem u7z  [DecidableEq α] (c:α):∀(l:List α),∀w∈splitL c l,c∉w
 | [],w,m=>by simp[splitL] at m;subst m;simp
 | x::l,w,m=>by
  have ih:=u7z c l;rw[splitL] at m;by_cases e:x=c
  ·rw [if_pos e] at m
   rcases z7.mp m with rfl|m
   ·simp
   ·exact ih w m
  ·rw [if_neg e] at m
   cases h:splitL c l with
   | nil=>exact absurd h (u1M c l)
   | cons v r =>
    rw[h] at m ih;rcases z7.mp m with rfl|m
    ·intro z
     rcases z7.mp z with z|z
     ·exact e z.symm
     ·exact ih v z6 z
    ·exact ih w (z5 _ m)
structure Tz (n:Nat) (t:Str):Prop where
 tx:Tx t
 n:(splitS 32 t).length<=n
structure Ts (t:Str):Prop where
 ok:PyData.strOk t=true
 len:t.length<=400
 sp:t.cps.toList.count 32<=60
def u2S (t:Str):(splitS 32 t).length=t.cps.toList.count 32+1:=by unfold splitS;rw[x9,u5D]
def u7u {t w:Str} (h:w∈splitS 32 t):w.length<=t.length:=by
 obtain⟨l,ml,rfl⟩:=z2G.mp h
 have:=u2R 32 _ l ml
 rw[u0p] at this;exact this
def word_no {t w:Str} (h:w∈splitS 32 t):32∉w.cps.toList:=by
 obtain⟨l,ml,rfl⟩:=z2G.mp h;exact u7z 32 _ l ml
def u9a {t:Str} (ok:PyData.strOk t=true) (len:t.length<=1000) (sp:t.cps.toList.count 32<=70):Tz 71 t:=by
 have:=u2S t
 exact⟨⟨ok,by omega,by omega,λw m=>y9 (u7u m) len⟩,by omega⟩
theorem u9T(hz:PyData.strOk z=true):∀ws:List Str,(∀w∈ws,PyData.strOk w=true)->PyData.strOk (Txt.join z ws)=true
 | [],_=>by unfold PyData.strOk;rw[Array.all_eq_true'];intro x mx;have:x∈(Txt.join z []).cps.toList:=u0.mpr mx;rw[u6d] at this;cases this
 | y::ys,h=>by
  unfold PyData.strOk;rw[Array.all_eq_true'];intro x mx;have mx:x∈(Txt.join z (y::ys)).cps.toList:=u0.mpr mx;have al:∀w:Str,PyData.strOk w=true->∀x∈w.cps.toList,(x<0x110000)=true:=λw hw x m=>by
   unfold PyData.strOk at hw;rw[Array.all_eq_true'] at hw;simpa using hw x (u0.mp m)
  rw[u2H] at mx
  have:(x<0x110000)=true:=by
   rcases v6.mp mx with m|m
   ·exact al y (h y z6) x m
   ·obtain ⟨p,mp,m⟩:=List.mem_flatMap.mp m
    rcases v6.mp m with m|m
    ·exact al z hz x m
    ·exact al p (h p (z5 _ mp)) x m
  simpa using this
def tz_join(h:∀w∈ws,PyData.strOk w=true/\32∉w.cps.toList/\w.length<=400) (l:ws.length<=71) (hs:(ws.map (·.length)).sum<=2900):Tz 71 (Txt.join " " ws):=by
 have ok:=u9T (z:=" ") (by decide +kernel) ws λw m=>(h w m).1
 have gl:=u6h " " ws;rw[show(" ":Str).length=1 by decide +kernel] at gl
 have e:(" ":Str)=⟨#[32]⟩:=by decide +kernel
 cases hw:ws with
 | nil=>exact u9a (by decide +kernel) (by decide +kernel) (by decide +kernel)
 | cons y ys =>
  have sp:splitS 32 (Txt.join " " ws)=ws:=by rw[e];exact u3E (by rw[hw];simp) λw m=>(h w m).2.1
  rw[<- hw];exact⟨⟨ok,by omega,by rw[sp];omega,λw m=>by rw[sp] at m;exact y9 (h w m).2.2 (by decide)⟩,by rw[sp];exact l⟩
def gd_len(h:Gd m):(shL m).length+1<=7*sz m/\(shL m).count 32+1<=sz m/\∀x∈shL m,x<128:=by
 induction m using Md.ind with
 | hl s =>
  cases h with
  | leaf h =>
   have:∀s∈SIGNS,s.cps.toList.length+1<=7/\s.cps.toList.count 32=0/\∀x∈s.cps.toList,x<128:=by decide +kernel
   obtain⟨a,b,c⟩:=this s h;exact⟨a,by rw[shL,b,sz];omega,c⟩
 | hn n cs ih =>
  cases h with
  | node h0 h1 hl hc =>
   have key:∀cs:List Md,(∀c∈cs,(shL c).length+1<=7*sz c/\(shL c).count 32+1<=sz c/\∀x∈shL c,x<128)->(shLs cs).length<=7*szs cs/\(shLs cs).count 32<=szs cs/\∀x∈shLs cs,x<128:=by
    intro cs;induction cs with
    | nil=>intro _;exact⟨by simp[shLs],by simp[shLs],λx m=>nomatch m⟩
    | cons c cs ih2 =>
     intro h;obtain⟨a1,a2,a3⟩:=h c z6;obtain⟨b1,b2,b3⟩:=ih2 λx m=>h x (z5 _ m)
     refine⟨by simp[shLs,szs];omega,by simp[shLs,szs,List.count_append];omega,λx m=>?_⟩
     simp[shLs] at m;rcases m with rfl|m|m
     ·decide
     ·exact a3 x m
     ·exact b3 x m
   obtain⟨k1,k2,k3⟩:=key cs λc mc=>ih c mc (hc c mc)
   obtain⟨j,rfl⟩:=Int.eq_ofNat_of_zero_le h0
   have:∀j:Nat,j<20->(nmS (j:Int)).cps.toList.length<=2/\(nmS (j:Int)).cps.toList.count 32=0/\∀x∈(nmS (j:Int)).cps.toList,x<128:=by decide +kernel
   obtain⟨n1,n2,n3⟩:=this j (by omega)
   rw[shL,sz];refine⟨?_,?_,λx m=>?_⟩
   ·rw[z0D,u4,u4];simp only[z1H];omega
   ·rw[List.count_cons,List.count_append,List.count_append,n2];simp;omega
   ·simp at m
    rcases m with rfl|m|m|rfl
    ·decide
    ·exact n3 x (by simpa using m)
    ·exact k3 x m
    ·decide
def gd_ts(h:Gd m) (hz:sz m<=50):Ts (shw m):=by
 obtain⟨a,b,c⟩:=gd_len h;refine⟨?_,?_,?_⟩
 ·unfold PyData.strOk
  rw[Array.all_eq_true'];intro x mx
  have:=c x (u0.mpr mx)
  simp;omega
 ·rw[<- u0p,u3I];omega
 ·rw[u3I];omega
noncomputable def SGC:List Nat:=[48,49,50,51,52,53,54,55,56,57,97,98,122,69,32,123,125,58,40,41,91,93,45,43,46,126,36]
noncomputable def chS (c:Nat):Str:=⟨#[c]⟩
noncomputable def MORE:List Str:=["{0}","{3","}","a","{20}","{00","","E","{1}}"]
def u8j(xs:List α) (p q:Nat) (h:p<=xs.length):cutC xs (some (p:Int)) (some (q:Int))=(xs.drop p).take (q - p):=by
 unfold cutC;rw[HT.sIx_nat,HT.sIx_nat,Nat.min_eq_left h];by_cases c:q<=xs.length
 ·rw[Nat.min_eq_left c]
 ·rw[Nat.min_eq_right (by omega),List.take_of_length_le (by simp),List.take_of_length_le (by simp;omega)]
structure Wg (p L S:Nat) (ws:List Str):Prop where
 g:∀w∈ws,PyData.strOk w=true/\32∉w.cps.toList/\w.length<=400
 p:p<=ws.length
 l:ws.length<=L
 s:(ws.map (·.length)).sum<=S
def u4B (ws:List Str) (p:Nat):((ws.take p).map (·.length)).sum+((ws.drop p).map (·.length)).sum=(ws.map (·.length)).sum:=by
 conv=>rhs;rw[<- List.take_append_drop p ws,z0A,List.sum_append]
def Wg.ins{p:Nat}{m:Str} (h:Wg p L S ws) (hm:PyData.strOk m=true/\32∉m.cps.toList/\m.length<=5):Wg p (L+1) (S+5) (ws.take p++[m]++ws.drop p):=by
 have s:=u4B ws p;have hp:=h.p;have hl:=h.l;have hs:=h.s;refine⟨λw mw=>?_,by simp;omega,by simp;omega,by simp at s |-;omega⟩
 rcases v6.mp mw with mw|mw
 ·rcases v6.mp mw with mw | mw
  ·exact h.g w (z1A mw)
  ·rw[z0H.mp mw];exact⟨hm.1,hm.2.1,by omega⟩
 ·exact h.g w (z0G mw)
def Wg.dup{p:Nat} (h:Wg p L S ws):Wg p (L+1) (S+400) (ws.take p++(ws.drop p).take 1++ws.drop p):=by
 have s:=u4B ws p;have hp:=h.p;have hl:=h.l;have hs:=h.s;have h1:(((ws.drop p).take 1).map (·.length)).sum<=400:=by
  cases e:ws.drop p with
  | nil=>simp
  | cons w r=>have:=(h.g w (z0G (e ▸ z6))).2.2;simpa using this
 refine⟨λw mw=>?_,by simp;omega,by simp;omega,by simp only[z0A,List.sum_append];omega⟩
 rcases v6.mp mw with mw|mw
 ·rcases v6.mp mw with mw | mw
  ·exact h.g w (z1A mw)
  ·exact h.g w (z0G (z1A mw))
 ·exact h.g w (z0G mw)
def Wg.del{p:Nat} (h:Wg p L S ws):Wg p L S (ws.take p++ws.drop (p+1)):=by
 have s:=u4B ws p;have s2:=u4B (ws.drop p) 1;rw[List.drop_drop] at s2;have hp:=h.p;have hl:=h.l;have hs:=h.s;refine⟨λw mw=>?_,by simp;omega,by simp;omega,by simp only[z0A,List.sum_append];omega⟩
 rcases v6.mp mw with mw|mw
 ·exact h.g w (z1A mw)
 ·exact h.g w (z0G mw)
def Wg.rev{p:Nat} (h:Wg p L S ws):Wg p L S (ws.take p++((ws.drop p).take 2).reverse++ws.drop (p+2)):=by
 have s:=u4B ws p;have s2:=u4B (ws.drop p) 2;rw[List.drop_drop] at s2;have hp:=h.p;have hl:=h.l;have hs:=h.s;refine⟨λw mw=>?_,by simp;omega,by simp;omega,by simp only[z0A,List.sum_append,List.map_reverse,List.sum_reverse];omega⟩
 rcases v6.mp mw with mw|mw
 ·rcases v6.mp mw with mw | mw
  ·exact h.g w (z1A mw)
  ·exact h.g w (z0G (z1A (List.mem_reverse.mp mw)))
 ·exact h.g w (z0G mw)
def u9j (t:Str):((splitS 32 t).map (·.length)).sum<=t.length:=by
 have key:∀ls:List (List Nat),(ls.map (·.length)).sum<=(glue 32 ls).length:=by
  intro ls;induction ls with
  | nil=>exact y0 _
  | cons w r ih =>
   cases r with
   | nil=>simp[glue]
   | cons v r=>simp[glue] at ih |-;omega
 have:=key (splitL 32 t.cps.toList)
 rw[u3g,u0p] at this;have e:((splitS 32 t).map (·.length))=(splitL 32 t.cps.toList).map (·.length):=by unfold splitS;rw[z3F];rfl
 rw[e];exact this
def v1g {t:Str} (h:Ts t) {p:Nat} (hp:p<(splitS 32 t).length):Wg p 61 400 (splitS 32 t):=by
 have:=u2S t
 have:=h.sp
 exact⟨λw m=>⟨u3A h.ok w m,word_no m,y9 (u7u m) h.len⟩,by omega,by omega,y9 (u9j t) h.len⟩
def u9b {t x:Str} (h:Ts t) (e:∃(a b:Nat) (m:List Nat),x.cps.toList=t.cps.toList.take a++m++t.cps.toList.drop b/\a<=b/\m.length<=1/\∀c∈m,c<128):Tz 71 x:=by
 obtain⟨a,b,m,e,hab,hm,hc⟩:=e;have hl:=u0p t;have l:=h.len;have sp:=h.sp;have c1:=(List.take_sublist a t.cps.toList).count_le 32;have c2:=(List.drop_sublist b t.cps.toList).count_le 32;have c3:=List.count_le_length (a:=32) (l:=m);have l1:=(List.take_sublist a t.cps.toList).length_le;have l2:=(List.drop_sublist b t.cps.toList).length_le;refine u9a ?_ ?_ ?_
 ·unfold PyData.strOk
  rw[Array.all_eq_true'];intro y my;have my:y∈x.cps.toList:=u0.mpr my;have ok:=h.ok;unfold PyData.strOk at ok;rw[Array.all_eq_true'] at ok;rw[e] at my;rcases v6.mp my with my|my
  ·rcases v6.mp my with my | my
   ·exact ok y (u0.mp (z1A my))
   ·have:=hc y my;simp;omega
  ·exact ok y (u0.mp (z0G my))
 ·rw[<- u0p,e];simp only[u4];omega
 ·rw [e,List.count_append,List.count_append]
  have c4:(t.cps.toList.drop b).count 32<=(t.cps.toList.drop a).count 32:=by
   rw[show t.cps.toList.drop b=(t.cps.toList.drop a).drop (b - a) by rw[List.drop_drop];congr 1;omega]
   exact(List.drop_sublist _ _).count_le 32
  have c5:(t.cps.toList.take a).count 32+(t.cps.toList.drop a).count 32=t.cps.toList.count 32:=by rw[<- List.count_append,List.take_append_drop]
  omega
def SpQ (o:Out):Prop:=∃t2,o=.rt (.str t2)/\Tz 71 t2
def run1e{m:Nat} (hl:ds.length=m) (h:SpQ (t (startD n ds))):∃t2,runT n m t ds=.ok (.str t2)/\Tz 71 t2:=by obtain⟨t2,e,p⟩:=h;exact⟨t2,run1 hl e,p⟩
def eqN (a b:Nat):dEqJ (dN a) (.int (b:Int))=.ok (.bl (decide (a=b))):=by
 rw[eqI];congr 2;rw[decide_eq_decide];omega
def SpW (t ch:D) (c:D) (wy a p:Nat) (mo:Str) (sg:D) (L S:Nat) (o:Out):Prop:=∃ws x,o=.nx [some (.val t),some (.val c),some (.val sg),some (.val (dN wy)),some (.val ch),some (.val (dN a)),some (.val (.lst (ws.map D.str))),some (.val (dN p)),some (.val (.str mo)),x]/\Wg p L S ws
def u5d (F:Fun K "_law_spoilt" "_law_spoilt" u1T f fd) (T:Txt K mg A):∃G,FnOk P w K mg base CX0 1 f fd ["_law_text_here","_law_cell_here"] (spF K G)/\∀t (c:Int),Ts t->∃t2,G [.str t,.int c]=.ok (.str t2)/\Tz 71 t2:=by
 refine⟨_,F.okT (k:=0) u0k (λcdv Ar outer s H E hr=>u0f (ds_n u0k.nd (d_op u0I (DN.de (v2q rfl T.z_list (u0a u0r u0b))) (u4x (u0a u0r (u0a u0r u0b)))))
  (u0f (ds_n u0k.nd (d_op u3d (dv 1) u0d))
  (u0f (ds_n u0k.nd (d_ix x_ix (dv 2) (d_op u3d (d_op u8A (dv 1) u0d) (d_B u0T T.z_len (by decide +kernel) (u0a (dv 2) u0b)))))
  (u0f (ds_n u0k.nd (d_op u3d (d_op u8A (dv 1) u0d) (d_op u0I (d_B u0T T.z_len (by decide +kernel) (u0a (dv 0) u0b)) u0d)))
  (u0f (u0R (u0o (u1u (hu64 hr)) (dv 3) u0d) (u0h (u0m (d_op u0I (d_op u0I (d_sl (dv 0) u0x (u0s (dv 5))) (dv 4)) (d_sl (dv 0) (u0s (dv 5)) u0x)))) u0y)
  (u0f (u0R (u0o (u1u (hu64 hr)) (dv 3) u0d) (u0h (u0m (d_op u0I (d_sl (dv 0) u0x (u0s (dv 5))) (d_sl (dv 0) (u0s (d_op u0I (dv 5) u0d)) u0x)))) u0y)
  (u0f (u0R (u0o (u1u (hu64 hr)) (dv 3) u0d) (u0h (u0m (d_op u0I (d_op u0I (d_sl (dv 0) u0x (u0s (dv 5))) (dv 4)) (d_sl (dv 0) (u0s (d_op u0I (dv 5) u0d)) u0x)))) u0y)
  (u0f (ds_n u0k.nd (DN.de (u5t (c:=32) (dv 0))))
  (u0f (ds_n u0k.nd (d_op u3d (d_op u8A (dv 1) u0d) (d_B u0T T.z_len (by decide +kernel) (u0a (dv 6) u0b))))
  (u0f (ds_n u0k.nd (d_ix x_ix (u4x (u0a u0r (u0a u0r (u0a u0r (u0a u0r (u0a u0r (u0a u0r (u0a u0r (u0a u0r (u0a u0r u0b)))))))))) (d_op u3d (d_op u8A (dv 1) u0d) u0d)))
  (u0f (u0R (u0o (u1u (hu64 hr)) (dv 3) u0d) (u0h (ds_n u0k.nd (d_op u0I (d_op u0I (d_sl (dv 6) u0x (u0s (dv 7))) (u4x (u0a (dv 8) u0b))) (d_sl (dv 6) (u0s (dv 7)) u0x)))) u0y)
  (u0f (u0R (u0o (u1u (hu64 hr)) (dv 3) u0d) (u0h (ds_n u0k.nd (d_op u0I (d_op u0I (d_sl (dv 6) u0x (u0s (dv 7))) (d_sl (dv 6) (u0s (dv 7)) (u0s (d_op u0I (dv 7) u0d)))) (d_sl (dv 6) (u0s (dv 7)) u0x)))) u0y)
  (u0f (u0R (u0o (u1u (hu64 hr)) (dv 3) u0d) (u0h (ds_n u0k.nd (d_op u0I (d_sl (dv 6) u0x (u0s (dv 7))) (d_sl (dv 6) (u0s (d_op u0I (dv 7) u0d)) u0x)))) u0y)
  (u0f (u0R (u0o (u1u (hu64 hr)) (dv 3) u0d) (u0f (ds_n u0k.nd (DN.de (dn_rev rfl T.z_list T.z_reversed (u0a (d_sl (dv 6) (u0s (dv 7)) (u0s (d_op u0I (dv 7) u0d))) u0b))))
   (u0h (ds_n u0k.nd (d_op u0I (d_op u0I (d_sl (dv 6) u0x (u0s (dv 7))) (dv 9)) (d_sl (dv 6) (u0s (d_op u0I (dv 7) u0d)) u0x))))) u0y)
  (u0h (u0m (v0B (dv 6)))))))))))))))))),?_⟩
 intro t c ht;have hl:=u0p t;have tl:=ht.len;obtain⟨wy,ew,hw⟩:=modI c (b:=8) (by decide)
 obtain⟨si,es,hs⟩:=modI (c / 8) (b:=27) (by decide)
 obtain⟨a,ea,ha⟩:=modI (c / 256) (b:=t.length+1) (by omega)
 have g1:dMod (.int c) (.int 8)=.ok (dN wy):=(u1v (by decide)).trans (by rw[show(8:Int)=((8:Nat):Int) from rfl,ew])
 have g2:dDiv (.int c) (.int 8)=.ok (.int (c / 8)):=u8h (by decide) (by decide)
 have g3:dDiv (.int c) (.int 256)=.ok (.int (c / 256)):=u8h (by decide) (by decide)
 have g4:dMod (.int (c / 8)) (.int 27)=.ok (dN si):=(u1v (by decide)).trans (by rw[show(27:Int)=((27:Nat):Int) from rfl,es])
 have g5:dMod (.int (c / 256)) (.int ((t.length:Int)+1))=.ok (dN a):=(u1v (by omega)).trans (by rw[show((t.length:Int)+1)=((t.length+1:Nat):Int) by omega,ea])
 obtain⟨ch,mc,g6⟩:=v3b (c:=λc=>D.str (chS c)) (rs:=SGC) (i:=si) hs
 have c128:ch<128:=(show ∀c∈SGC,c<128 by decide) ch mc
 refine run1e rfl ?_;have h0:seqS [.str "0123456789abzE {}:()[]-+."]=.ok (.l ((SGC.take 25).map λc=>D.str (chS c))):=by
  show Res.ok (OD.l ((("0123456789abzE {}:()[]-+.":Str).cps.toList).map λc=>D.str (chS c)))=_
  rw[show(("0123456789abzE {}:()[]-+.":Str).cps.toList)=SGC.take 25 by decide +kernel]
 have h1:dAdd (.lst ((SGC.take 25).map λc=>D.str (chS c))) (.lst [.str "~",.str "$"])=.ok (.lst (SGC.map λc=>D.str (chS c))):=by
  rw[u2L (by decide)]
  rw[show("~":Str)=chS 126 by decide +kernel,show("$":Str)=chS 36 by decide +kernel]
  rfl
 have h2:gLen [.lst (SGC.map λc=>D.str (chS c))]=.ok (.int 27):=rfl
 generalize hsg:SGC.map (λc=>D.str (chS c))=sg at h1 h2 g6
 generalize hsg2:(SGC.take 25).map (λc=>D.str (chS c))=sg2 at h0 h1
 have h2l:((sg.length:Nat):Int)=27:=by have:=h2;simpa using this
 refine asg (.lst sg) (by simp[startD,h0,u9f,u1k,h1]) rfl ?_
 refine asg (dN wy) (by simp[startD,g1]) rfl ?_
 refine asg (.str (chS ch)) (by simp[startD,g2,h2l,g4,g6]) rfl ?_
 refine asg (dN a) (by simp[startD,g3,g5]) rfl ?_
 have sA:dSl (.str t) none (some (a:Int))=.ok (.str (Txt.slice t none (some (a:Int)))):=rfl;have sB:dSl (.str t) (some (a:Int)) none=.ok (.str (Txt.slice t (some (a:Int)) none)):=rfl;have sC:dSl (.str t) (some ((a:Int)+1)) none=.ok (.str (Txt.slice t (some ((a:Int)+1)) none)):=rfl;have kA:(Txt.slice t none (some (a:Int))).cps.toList=t.cps.toList.take a:=sl_to (by omega)
 have kB:(Txt.slice t (some (a:Int)) none).cps.toList=t.cps.toList.drop a:=u6L t a;have kC:(Txt.slice t (some ((a:Int)+1)) none).cps.toList=t.cps.toList.drop (a+1):=u6L t (a+1);generalize Txt.slice t none (some (a:Int))=xA at sA kA;generalize Txt.slice t (some (a:Int)) none=xB at sB kB;generalize Txt.slice t (some ((a:Int)+1)) none=xC at sC kC;have lA:xA.length<=400:=by rw[<- u0p,kA,z3C];omega
 have lB:xB.length<=400:=by rw[<- u0p,kB,z2F];omega
 have lC:xC.length<=400:=by rw[<- u0p,kC,z2F];omega
 have lS:(chS ch).length=1:=rfl;have kS:(chS ch).cps.toList=[ch]:=rfl;have q1:dAdd (.str xA) (.str (chS ch))=.ok (.str (xA++chS ch)):=u4z (by omega)
 have q2:dAdd (.str (xA++chS ch)) (.str xB)=.ok (.str (xA++chS ch++xB)):=u4z (by rw[u0q];omega)
 have q3:dAdd (.str xA) (.str xC)=.ok (.str (xA++xC)):=u4z (by omega)
 have q4:dAdd (.str (xA++chS ch)) (.str xC)=.ok (.str (xA++chS ch++xC)):=u4z (by rw[u0q];omega)
 have w0:=eqN wy 0;have w1:=eqN wy 1;have w2:=eqN wy 2;have w3:=eqN wy 3;have w4:=eqN wy 4;have w5:=eqN wy 5;have w6:=eqN wy 6;refine brT (decide (wy=0)) (by simp[startD,frz,frzS];exact(by rw[show dEqJ (dN wy) (.int 0)=_ from w0];simp)) (λ_=>?_) λ_=>?_
 ·refine retq (v:=.str (xA++chS ch++xB)) (by simp[startD,frz,frzS,asI,sA,sB,q1,q2]) ⟨_,rfl,u9b ht ⟨a,a,[ch],by rw[u1f,u1f,kA,kB,kS],y0 _,y0 _,by simpa using c128⟩⟩
 refine th rfl ?_;refine brT (decide (wy=1)) (by simp[startD,frz,frzS];exact(by rw[show dEqJ (dN wy) (.int 1)=_ from w1];simp)) (λ_=>?_) λ_=>?_
 ·refine retq (v:=.str (xA++xC)) (by simp[startD,frz,frzS,asI,sA,sC,q3]) ⟨_,rfl,u9b ht ⟨a,a+1,[],by rw[u1f,kA,kC];simp,by omega,by simp,by simp⟩⟩
 refine th rfl ?_;refine brT (decide (wy=2)) (by simp[startD,frz,frzS];exact(by rw[show dEqJ (dN wy) (.int 2)=_ from w2];simp)) (λ_=>?_) λ_=>?_
 ·refine retq (v:=.str (xA++chS ch++xC)) (by simp[startD,frz,frzS,asI,sA,sC,q1,q4]) ⟨_,rfl,u9b ht ⟨a,a+1,[ch],by rw[u1f,u1f,kA,kC,kS],by omega,y0 _,by simpa using c128⟩⟩
 refine th rfl ?_;have ne:0<(splitS 32 t).length:=by rw[u2S];omega
 have es0:splitD 32 (.str t)=.ok (.l ((splitS 32 t).map D.str)):=u0u (y9 (Nat.succ_le_succ tl) (by decide))
 obtain⟨p,ep,hp⟩:=modI (c / 256) (b:=(splitS 32 t).length) ne;have W0:=v1g ht hp;generalize splitS 32 t=ws0 at *
 have g7:dMod (.int (c / 256)) (.int (ws0.length:Int))=.ok (dN p):=(u1v (by omega)).trans (by rw[ep])
 obtain⟨mi,em,hmi⟩:=modI (c / 8) (b:=9) (by decide)
 have g8:dMod (.int (c / 8)) (.int 9)=.ok (dN mi):=(u1v (by decide)).trans (by rw[show(9:Int)=((9:Nat):Int) from rfl,em])
 obtain⟨mo,mmo,g9⟩:=v3b (c:=D.str) (rs:=MORE) (i:=mi) hmi;have hmo:PyData.strOk mo=true/\32∉mo.cps.toList/\mo.length<=5:=(show ∀m∈MORE,PyData.strOk m=true/\32∉m.cps.toList/\m.length<=5 by decide +kernel) mo mmo
 refine asg (.lst (ws0.map D.str)) (by simp[startD,es0,u9f]) rfl ?_
 refine asg (dN p) (by simp[startD,g3,g7]) rfl ?_
 refine asg (.str mo) ?_ rfl ?_
 ·simp only [MORE,z0C,List.map_nil] at g9
  simp[startD,g2,g8,u1k,g9]
 refine thq (T:=SpW (.str t) (.str (chS ch)) (.int c) wy a p mo (.lst sg) 62 405) ?_ ?_
 ·refine brI (decide (wy=3)) (by simp [startD,frz,frzS];exact (by rw [show dEqJ (dN wy) (.int 3)=_ from w3];simp)) (fun _=>?_) fun _=>?_
  ·have r1:dSl (.lst (ws0.map D.str)) none (some (p:Int))=.ok (.lst ((ws0.take p).map D.str)):=by show Res.ok (D.lst (cutC _ _ _))=_;rw [u1s,v2w]
   have r2:dSl (.lst (ws0.map D.str)) (some (p:Int)) none=.ok (.lst ((ws0.drop p).map D.str)):=by show Res.ok (D.lst (cutC _ _ _))=_;rw[u1s,v2x]
   have W1:=W0.ins hmo;have l1:=W1.l;have r3:dAdd (.lst ((ws0.take p).map D.str)) (.lst [.str mo])=.ok (.lst ((ws0.take p++[mo]).map D.str)):=by rw[u2L (by simp at l1 |-;omega)];simp
   have r4:dAdd (.lst ((ws0.take p++[mo]).map D.str)) (.lst ((ws0.drop p).map D.str))=.ok (.lst ((ws0.take p++[mo]++ws0.drop p).map D.str)):=by rw[u2L (by simp at l1 |-;omega),<- z0A]
   refine goq (v:=.lst ((ws0.take p++[mo]++ws0.drop p).map D.str)) ?_ ⟨_,_,rfl,W1⟩;generalize D.lst ((ws0.take p++[mo]++ws0.drop p).map D.str)=d4 at r4 |-
   generalize D.lst ((ws0.take p++[mo]).map D.str)=d3 at r3 r4;generalize D.lst ((ws0.take p).map D.str)=d1 at r1 r3;generalize D.lst ((ws0.drop p).map D.str)=d2 at r2 r4;simp[startD,asI,r1,r2,u1k,r3,r4]
  ·exact⟨_,_,rfl,⟨W0.g,W0.p,by have:=W0.l;omega,by have:=W0.s;omega⟩⟩
 rintro _ ⟨ws1,y1,rfl,V1⟩;refine th rfl ?_;clear es0 W0 g7;refine thq (T:=SpW (.str t) (.str (chS ch)) (.int c) wy a p mo (.lst sg) 63 805) ?_ ?_
 ·refine brI (decide (wy=4)) (by simp [frz,frzS];exact (by rw [show dEqJ (dN wy) (.int 4)=_ from w4];simp)) (fun _=>?_) fun _=>?_
  ·have r1:dSl (.lst (ws1.map D.str)) none (some (p:Int))=.ok (.lst ((ws1.take p).map D.str)):=by show Res.ok (D.lst (cutC _ _ _))=_;rw [u1s,v2w]
   have r2:dSl (.lst (ws1.map D.str)) (some (p:Int)) none=.ok (.lst ((ws1.drop p).map D.str)):=by show Res.ok (D.lst (cutC _ _ _))=_;rw[u1s,v2x]
   have r5:dSl (.lst (ws1.map D.str)) (some (p:Int)) (some ((p:Int)+1))=.ok (.lst (((ws1.drop p).take 1).map D.str)):=by
    show Res.ok (D.lst (cutC _ _ (some ((p+1:Nat):Int))))=_;rw[u1s,u8j _ _ _ V1.p,Nat.add_sub_cancel_left]
   have W1:=V1.dup;have l1:=W1.l;have r3:dAdd (.lst ((ws1.take p).map D.str)) (.lst (((ws1.drop p).take 1).map D.str))=.ok (.lst ((ws1.take p++(ws1.drop p).take 1).map D.str)):=by rw[u2L (by simp at l1 |-;omega),<- z0A]
   have r4:dAdd (.lst ((ws1.take p++(ws1.drop p).take 1).map D.str)) (.lst ((ws1.drop p).map D.str))=.ok (.lst ((ws1.take p++(ws1.drop p).take 1++ws1.drop p).map D.str)):=by rw[u2L (by simp at l1 |-;omega),<- z0A]
   refine goq (v:=.lst ((ws1.take p++(ws1.drop p).take 1++ws1.drop p).map D.str)) ?_ ⟨_,_,rfl,W1⟩;generalize D.lst ((ws1.take p++(ws1.drop p).take 1++ws1.drop p).map D.str)=d4 at r4 |-
   generalize D.lst ((ws1.take p++(ws1.drop p).take 1).map D.str)=d3 at r3 r4;generalize D.lst ((ws1.take p).map D.str)=d1 at r1 r3;generalize D.lst (((ws1.drop p).take 1).map D.str)=d5 at r5 r3;generalize D.lst ((ws1.drop p).map D.str)=d2 at r2 r4;simp[asI,r1,r2,r3,r4,r5]
  ·exact⟨_,_,rfl,⟨V1.g,V1.p,by have:=V1.l;omega,by have:=V1.s;omega⟩⟩
 rintro _ ⟨ws2,y2,rfl,V2⟩;refine th rfl ?_;refine thq (T:=SpW (.str t) (.str (chS ch)) (.int c) wy a p mo (.lst sg) 63 805) ?_ ?_
 ·refine brI (decide (wy=5)) (by simp [frz,frzS];exact (by rw [show dEqJ (dN wy) (.int 5)=_ from w5];simp)) (fun _=>?_) fun _=>?_
  ·have r1:dSl (.lst (ws2.map D.str)) none (some (p:Int))=.ok (.lst ((ws2.take p).map D.str)):=by show Res.ok (D.lst (cutC _ _ _))=_;rw [u1s,v2w]
   have r2:dSl (.lst (ws2.map D.str)) (some ((p:Int)+1)) none=.ok (.lst ((ws2.drop (p+1)).map D.str)):=by show Res.ok (D.lst (cutC _ (some ((p+1:Nat):Int)) _))=_;rw[u1s,v2x]
   have W1:=V2.del;have l1:=W1.l;have r4:dAdd (.lst ((ws2.take p).map D.str)) (.lst ((ws2.drop (p+1)).map D.str))=.ok (.lst ((ws2.take p++ws2.drop (p+1)).map D.str)):=by rw[u2L (by simp at l1 |-;omega),<- z0A]
   refine goq (v:=.lst ((ws2.take p++ws2.drop (p+1)).map D.str)) ?_ ⟨_,_,rfl,W1⟩;generalize D.lst ((ws2.take p++ws2.drop (p+1)).map D.str)=d4 at r4 |-
   generalize D.lst ((ws2.take p).map D.str)=d1 at r1 r4;generalize D.lst ((ws2.drop (p+1)).map D.str)=d2 at r2 r4;simp[asI,r1,r2,r4]
  ·exact⟨_,_,rfl,V2⟩
 rintro _ ⟨ws3,y3,rfl,V3⟩;refine th rfl ?_;refine thq (T:=SpW (.str t) (.str (chS ch)) (.int c) wy a p mo (.lst sg) 63 805) ?_ ?_
 ·refine brI (decide (wy=6)) (by simp [frz,frzS];exact (by rw [show dEqJ (dN wy) (.int 6)=_ from w6];simp)) (fun _=>?_) fun _=>?_
  ·have r1:dSl (.lst (ws3.map D.str)) none (some (p:Int))=.ok (.lst ((ws3.take p).map D.str)):=by show Res.ok (D.lst (cutC _ _ _))=_;rw [u1s,v2w]
   have r2:dSl (.lst (ws3.map D.str)) (some ((p:Int)+2)) none=.ok (.lst ((ws3.drop (p+2)).map D.str)):=by show Res.ok (D.lst (cutC _ (some ((p+2:Nat):Int)) _))=_;rw[u1s,v2x]
   have r5:dSl (.lst (ws3.map D.str)) (some (p:Int)) (some ((p:Int)+2))=.ok (.lst (((ws3.drop p).take 2).map D.str)):=by
    show Res.ok (D.lst (cutC _ _ (some ((p+2:Nat):Int))))=_;rw[u1s,u8j _ _ _ V3.p,Nat.add_sub_cancel_left]
   have W1:=V3.rev;have l1:=W1.l;have r6:revN [.lst (((ws3.drop p).take 2).map D.str)]=.ok (.l (((ws3.drop p).take 2).reverse.map D.str)):=by rw[List.map_reverse];rfl
   have r3:dAdd (.lst ((ws3.take p).map D.str)) (.lst (((ws3.drop p).take 2).reverse.map D.str))=.ok (.lst ((ws3.take p++((ws3.drop p).take 2).reverse).map D.str)):=by rw[u2L (by simp at l1 |-;omega),<- z0A]
   have r4:dAdd (.lst ((ws3.take p++((ws3.drop p).take 2).reverse).map D.str)) (.lst ((ws3.drop (p+2)).map D.str))=.ok (.lst ((ws3.take p++((ws3.drop p).take 2).reverse++ws3.drop (p+2)).map D.str)):=by rw[u2L (by simp at l1 |-;omega),<- z0A]
   refine asg (.lst (((ws3.drop p).take 2).reverse.map D.str)) ?_ rfl ?_
   ·generalize (((ws3.drop p).take 2).reverse.map D.str)=d6 at r6 |-
    generalize D.lst (((ws3.drop p).take 2).map D.str)=d5 at r5 r6;simp[asI,r5,r6,u9f]
   refine goq (v:=.lst ((ws3.take p++((ws3.drop p).take 2).reverse++ws3.drop (p+2)).map D.str)) ?_ ⟨_,_,rfl,W1⟩;generalize D.lst ((ws3.take p++((ws3.drop p).take 2).reverse++ws3.drop (p+2)).map D.str)=d4 at r4 |-
   generalize D.lst ((ws3.take p++((ws3.drop p).take 2).reverse).map D.str)=d3 at r3 r4;generalize D.lst ((ws3.take p).map D.str)=d1 at r1 r3;generalize D.lst (((ws3.drop p).take 2).reverse.map D.str)=d5 at r3 |-
   generalize D.lst ((ws3.drop (p+2)).map D.str)=d2 at r2 r4;simp[asI,r1,r2,r3,r4]
  ·exact⟨_,_,rfl,V3⟩
 rintro _ ⟨ws4,y4,rfl,V4⟩;refine th rfl ?_;have z4:=tz_join V4.g (by have:=V4.l;omega) (by have:=V4.s;omega)
 refine goq (v:=.str (Txt.join " " ws4)) ?_ ⟨_,rfl,z4⟩;have e9:joinD " " (.lst (ws4.map D.str))=.ok (.str (Txt.join " " ws4)):=by
  show joinL " " _=_;unfold joinL;rw[u3y];refine u0u ?_
  have:=V4.s
  have:=V4.l
  rw[show(" ":Str).length=1 by decide +kernel]
  omega
 simp[frz,frzS,e9]
end K15
namespace L2
open PySem PySem.Spec PyProof.Rows
noncomputable def dMulU (x y:D):Res D:=match x,y with
 | .str z,.int k=>gd (0<=k/\k<=1000/\z.length<=1000/\(mulS z k.toNat).length<=3000) (.ok (.str (mulS z k.toNat)))
 | _,_=>.bad
section
variable {X:Cx}
set_option tactic.hygienic true in
def v2X:OpR X (binaryOp .Mult) (rD X.K dMulU):=by
 intro pins s σ H x y v u Q I rx ry z9128;obtain⟨F,dx,dy,fh,px,py,q⟩:=z9128;unfold dMulU at q;split at q
 ·rename_i z k
  obtain⟨⟨h1,h2,h3,h4⟩,q⟩:=u3w q;cases py;cases px;obtain⟨t,rfl⟩:=rx;obtain⟨t',rfl⟩:=ry;have hs:(mulS z k.toNat).length<=sizeLine:=y9 h4 (by decide)
  have fin:∀t0 s',Inv X pins σ H s'->EP X pins σ Q (.str (mulS z k.toNat) t0) s':=λt0 s' I'=>⟨.str _,H,I',⟨_,rfl⟩,q _ F H (Stp.refl fh) (.str hs)⟩
  by_cases c:k<1
  ·have e:mulS z k.toNat=Str.empty:=if_pos (by omega)
   refine PySem.P.mul_str_none c (by omega) ?_
   have:=fin s.toks _ (I.tok (s.toks+1))
   rw[e] at this;exact this
  ·refine PySem.P.mul_str ?_ (fun _ _=>?_) (fun _ _=>?_) ?_
   ·rw[decide_eq_false (by omega),decide_eq_false (by omega)];rfl
   ·have hm:(z.length:Int)*k<=1000*1000:=Int.mul_le_mul (by omega) (by omega) (by omega) (by omega)
    have:(z.length:Int)<=(2^63 - 1) / k:=Int.le_ediv_of_mul_le (by omega) (by omega)
    omega
   ·have hm:z.length*k.toNat<=1000*1000:=Nat.mul_le_mul h3 (by omega)
    exact decide_eq_false (by rw[sizeLine_eq];omega)
   ·rw [if_neg c]
    by_cases c2:(k==1||z.length==0)=true
    ·rw [if_pos c2]
     have e:mulS z k.toNat=z:=by
      unfold mulS;rw[if_neg (by omega),if_pos]
      simp only[Bool.or_eq_true,beq_iff_eq] at c2 |-
      rcases c2 with c2|c2
      ·exact .inl (by omega)
      ·exact .inr c2
     have:=fin t s I
     rw[e] at this;exact this
    ·rw [if_neg c2]
     have e:mulS z k.toNat=⟨(List.replicate k.toNat z.cps).foldl (·++·) #[]⟩:=by
      unfold mulS;rw[if_neg (by omega),if_neg]
      simp only[Bool.or_eq_true,beq_iff_eq] at c2 |-
      intro c3;exact c2 (by
       rcases c3 with c3|c3
       ·exact .inl (by omega)
       ·exact .inr c3)
     have:=fin s.toks _ (I.tok (s.toks+1))
     rw[e] at this hs;exact⟨hs,this⟩
 ·exact q.elim
end
end L2
namespace K15
open PySem L2 PySem.Spec PyProof.Rows
variable {A:Adr}{a C f:Addr}{P q:Program}{w:World}{K:W.Frag}{mg:MG}{base h:Heap}{fd:FuncData}{k n j:Nat}{ps loose:List Str}{G a0f a0i a0j a0b g:FD}{y t fl x:Str}{st:Stmt}
structure Sub (K:W.Frag) (A:Adr):Prop where
 xb:xbB K A.NoTree=true
 sb:subK K A.NoTree A.TableError=true
def eqa1:dEqJ (.lst [.str "a"]) (.lst [.str "a"])=.ok (.bl true):=by
 have c:cmpD (.lst [.str "a"])=.ok (.list [.str "a"]):=u0u (by decide +kernel)
 have e:PyData.eqv (.list [.str "a"]) (.list [.str "a"])=true:=by decide +kernel
 show dEq _ _=_;unfold dEq;rw[c];show Res.ok (D.bl _)=_;rw[e]
def eqa2:dEqJ (.tup [.str "a"]) (.tup [.str "a"])=.ok (.bl true):=by
 have c:cmpD (.tup [.str "a"])=.ok (.tuple [.str "a"]):=u0u (by decide +kernel)
 have e:PyData.eqv (.tuple [.str "a"]) (.tuple [.str "a"])=true:=by decide +kernel
 show dEq _ _=_;unfold dEq;rw[c];show Res.ok (D.bl _)=_;rw[e]
def v2Z:dNeX (.bl false) (.bl false)=.ok (.bl false):=rfl
def neX_tt:dNeX (.bl true) (.bl true)=.ok (.bl false):=rfl
structure Rf (A:Adr) (d:D):Prop where
 s:gIsI [A.Leaf,A.Node] [d,.ty "str"]=.ok (.bl false)
 b:∃b,gIsI [A.Leaf,A.Node] [d,.ty "bool"]=.ok (.bl b)
 e:dEqI [A.Leaf,A.Node] d d=.ok (.bl true)
def rf_obj(h:C∈[A.Leaf,A.Node]):Rf A (.obj a C):=by
 refine⟨?_,⟨false,?_⟩,?_⟩
 ·exact if_pos ⟨h,by decide⟩
 ·exact if_pos ⟨h,by decide⟩
 ·exact if_pos ⟨rfl,h⟩
noncomputable def pl6:List D:=[.non,.int 0,.bl true,.lst [.str "a"],.tup [.str "a"],.dct []]
def rf_pl:∀d∈pl6,Rf A d:=by
 intro d hd;simp only[pl6,z7,u5,or_false] at hd;rcases hd with rfl|rfl|rfl|rfl|rfl|rfl
 ·exact⟨rfl,⟨_,rfl⟩,rfl⟩
 ·exact⟨rfl,⟨_,rfl⟩,rfl⟩
 ·exact⟨rfl,⟨_,rfl⟩,rfl⟩
 ·exact⟨rfl,⟨_,rfl⟩,eqa1⟩
 ·exact⟨rfl,⟨_,rfl⟩,eqa2⟩
 ·exact⟨rfl,⟨_,rfl⟩,rfl⟩
structure RefG (A:Adr) (G:FD):Prop where
 s:∀t,Tx t->readP t=none->G [.str t]=.ok (.bl true)
 o:∀d,Rf A d->G [d]=.ok (.bl true)
open Classical in
noncomputable def byP (A:Adr) (G:FD):List D->Res D
 | [.ins C fs]=>if C∈[A.Leaf,A.Node] then .ok (.bl true) else G [.ins C fs]
 | ds=>G ds
section
set_option tactic.hygienic true in
def v2C{CX:CXT} (F:FnOk P w K mg base CX k f fd ps (spX K G)) (h:RefG A G):FnOk P w K mg base CX k f fd ps (spX K (byP A G)):=by
 refine F.imp λvs H Q E q=>?_
 obtain⟨F0,ds,fh,ps,q⟩:=q;unfold byP at q;split at q
 ·rename_i C fs
  split at q
  ·rename_i hc
   cases ps with
   | cons p1 p2 =>
    cases p2;cases p1 with
    | @ins a _ _ _ _ h1 h2 =>
     refine⟨F0,[.obj a C],fh,.cons (.obj h1) .nil,?_⟩;rw[h.o _ (rf_obj hc)];exact q
  ·exact⟨F0,_,fh,ps,q⟩
 ·exact⟨F0,_,fh,ps,q⟩
def u4r(a0c:CalleeX P w K mg base 6 "read_tree" ["text"] a0f) (S:Sub K A) (a1f:ReadG A a0f) (F:Fun K "_law_refused" "_law_refused" u1C f fd) (T:Txt K mg A):∃G,FnOk P w K mg base (CXe P w) 7 f fd ["_law_thing"] (spX K G)/\RefG A G:=by
 refine⟨_,F.okTX (k:=6) u0V (λcdv Ar outer s H E hr hq=>u0f (ds_n u0V.nd u7p)
  (u0f (ds_try ⟨rfl,rfl⟩ (λpn xq1 hq=>u0h (ds_expr (u2w hq a0c hr (u0a (dv 0) u0b))))
  (dh_asK (i:=2) ⟨rfl,rfl⟩ u0V.nd T.m_TableError T.b_TableError (λex=>u0h (ds_n u0V.nd (dv 2)))
  (dh_nil hq)))
  (u0f (u0R (dt_w (u2v (u1x (u0D (u8K T.o_NoTree T.m_NoTree T.z_isinstance (by decide +kernel) (dv 1)))) (u1K (u0o (u5i (hu64 hr)) (d_B (v2B T.isI) T.z_isinstance (by decide +kernel) (u0a (v3j T.x_found (dv 1)) (u0a (d_ty T.z_bool (T:="bool") (by decide +kernel)) u0b))) (d_B (v2B T.isI) T.z_isinstance (by decide +kernel) (u0a (dv 0) (u0a (d_ty T.z_bool (T:="bool") (by decide +kernel)) u0b))))))) (u0h (u0m d_bl)) u0y)
  (u0h (u0m (u4g (o_eqI T.isI (hu64 hr)) (v3j T.x_found (dv 1)) (dv 0))))))),?_⟩
 have io:∀d,isO [(A.Leaf,false),(A.Node,false)] [(A.NoTree,true)] (.exc A.NoTree [("found",d)])=.ok (.bl true):=λd=>by
  show lookB _ A.NoTree=_;unfold lookB;simp[List.lookup]
 refine⟨λt ht hn=>?_,λd hr=>?_⟩
 ·have e1:a0f [.str t]=.err (excN A (.str t)):=by rw [a1f.s t ht];unfold readR;rw [hn]
  have e2:dEqI [A.Leaf,A.Node] (.str t) (.str t)=.ok (.bl true):=u7m ht.ok;have e3:gIsI [A.Leaf,A.Node] [.str t,.ty "bool"]=.ok (.bl false):=rfl;simp[runX,startD,e1,e2,e3,excN,S.xb,S.sb,hdAs,io,u7j,v2Z]
 ·have e1:=a1f.o d hr.s
  have e2:=hr.e;obtain⟨b,e3⟩:=hr.b;cases b
  ·simp[runX,startD,e1,e2,e3,excN,S.xb,S.sb,hdAs,io,u7j,v2Z]
  ·simp[runX,startD,e1,e2,e3,excN,S.xb,S.sb,hdAs,io,u7j,neX_tt]
end
noncomputable def wrp (n:Int):Nat->Md->Md
 | 0,m=>m
 | k+1,m=>wrp n k (.node n [m])
theorem v2G (n:Int):∀k m,sz (wrp n k m)=k+sz m
 | 0,m=>by simp[wrp]
 | k+1,m=>by rw[wrp,v2G n k];simp[sz,szs];omega
theorem v2I (n:Int):∀k m,1<=dp m->dp (wrp n k m)=k+dp m
 | 0,m,_=>by simp[wrp]
 | k+1,m,h=>by rw[wrp,v2I n k _ (by simp[dp,dps])];simp[dp,dps];omega
theorem v2H {n:Int} (h:0<=n) (h1:n<1000):∀k m,Ok m->Ok (wrp n k m)
 | 0,m,o=>o
 | k+1,m,o=>v2H h h1 k _ (.node h h1 (by simp) (by simpa using o))
noncomputable def opW (n:Nat):Str:="{"++nmS (n:Int)
noncomputable def clW (k:Nat):Str:=⟨(97::List.replicate k 125).toArray⟩
def u7M:∀n<20,opnS (opW n)=true/\numS (tlS (opW n))=some n/\coreS (opW n)=opW n/\clsK (opW n)=0/\32∉(opW n).cps.toList/\PyData.strOk (opW n)=true/\(opW n).length<=3:=by decide +kernel
def opw_cps (n:Nat):(opW n).cps.toList=123::(nmS (n:Int)).cps.toList:=u1f _ _
def u3k (k:Nat):(clW k).cps.toList=97::List.replicate k 125:=rfl
def u5w (k:Nat):coreS (clW k)="a":=by
 unfold coreS;rw[u3k];have e:coreL (97::List.replicate k 125)=[97]:=by
  unfold coreL;rw[List.reverse_cons,List.reverse_replicate,List.dropWhile_append_of_pos (by simp)]
  rfl
 rw[e];rfl
def v0I (k:Nat):(clW k).length=k+1:=by rw[<- u0p,u3k];simp
def clw_k (k:Nat):clsK (clW k)=k:=by
 unfold clsK;rw[u5w,v0I,show("a":Str).length=1 by decide +kernel]
 omega
noncomputable def stk (n j:Nat):RS:=⟨none,List.replicate j ((n:Int),[])⟩
def tak_op(hn:n<20) (hj:j<500):takW (stk n j) (opW n)=(true,stk n (j+1)):=by
 obtain⟨h1,h2,h3,h4,_⟩:=u7M n hn;have e:begM (stk n j) (opW n)=(true,stk n (j+1)):=by
  unfold begM;rw[if_neg (by simp[stk];omega),if_neg (by rw[u9R h1];simp),if_pos h1,h2]
  simp[stk,List.replicate_succ]
 unfold takW;rw[h3,e,if_pos rfl,h4];rfl
theorem u9w(hn:n<20) (ws:List Str):∀k j,j+k<=500->rdW (stk n j) (List.replicate k (opW n)++ws)=rdW (stk n (j+k)) ws
 | 0,j,_=>rfl
 | k+1,j,h=>by
  rw[List.replicate_succ,List.cons_append,rdW,tak_op hn (by omega),if_pos rfl,u9w hn ws k (j+1) (by omega)]
  congr 2;omega
theorem v0K (n:Nat):∀j m,(putM (stk n j) m).1=true/\clsN j (putM (stk n j) m).2=(true,⟨some (wrp n j m),[]⟩)
 | 0,m=>⟨rfl,rfl⟩
 | j+1,m=>by
  obtain⟨a,b⟩:=v0K n j (.node n [m]);refine⟨rfl,?_⟩;have e:clsM (putM (stk n (j+1)) m).2=putM (stk n j) (.node n [m]):=rfl;rw[clsN,e,if_pos a,b];rfl
def rd_end(hj:j<500):rdW (stk n j) [clW j]=(true,⟨some (wrp n j (.leaf "a")),[]⟩):=by
 have e:begM (stk n j) "a"=putM (stk n j) (.leaf "a"):=by
  unfold begM;rw[if_neg (by simp[stk];omega),if_pos (by decide +kernel)]
 obtain⟨a,b⟩:=v0K n j (.leaf "a");rw[rdW];have t:takW (stk n j) (clW j)=(true,⟨some (wrp n j (.leaf "a")),[]⟩):=by
  unfold takW;rw[u5w,clw_k,e,if_pos a,b]
 rw[t,if_pos rfl];rfl
def u9y(hj:j=500):(rdW (stk n j) [clW j]).1=false:=by
 have e:begM (stk n j) "a"=(false,stk n j):=by
  unfold begM;rw[if_pos (by simp[stk];omega)]
 have t:(takW (stk n j) (clW j)).1=false:=by
  unfold takW;rw[u5w,e];rfl
 rw[rdW,t];rfl
noncomputable def dws (n k:Nat):List Str:=List.replicate k (opW n)++[clW k]
noncomputable def dtx (n k:Nat):Str:=Txt.join ⟨#[32]⟩ (dws n k)
def u7n(h:y∈dws n k):y=opW n\/y=clW k:=by
 rcases v6.mp h with h|h
 ·exact .inl (List.mem_replicate.mp h).2
 ·exact .inr (z0H.mp h)
def u2J(hn:n<20):splitS 32 (dtx n k)=dws n k:=by
 refine u3E (by simp[dws]) λy h=>?_
 rcases u7n h with rfl|rfl
 ·exact(u7M n hn).2.2.2.2.1
 ·rw [u3k]
  intro m;rcases z7.mp m with m|m
  ·exact absurd m (by decide)
  ·exact absurd (List.mem_replicate.mp m).2 (by decide)
def v2p(hn:n<20) (hk:k<500):readP (dtx n k)=some (wrp n k (.leaf "a")):=by
 unfold readP;rw[u2J hn];have e:=u9w hn [clW k] k 0 (by omega)
 rw[Nat.zero_add,rd_end hk] at e;rw[show rdW RS0 (dws n k)=_ from e,if_pos rfl]
def dtx_no(hn:n<20) (hk:k=500):readP (dtx n k)=none:=by
 unfold readP;rw[u2J hn];have e:=u9w hn [clW k] k 0 (by omega)
 rw[Nat.zero_add] at e;rw[show rdW RS0 (dws n k)=_ from e,u9y hk]
 rfl
def v0y (n:Nat):∀(k:Nat) (v:Str),(Txt.join ⟨#[32]⟩ (List.replicate k (opW n)++[v])).cps.toList=(List.replicate k ((opW n).cps.toList++[32])).flatten++v.cps.toList:=by
 have key:∀(k:Nat) (v:Str),∃y ys,List.replicate k (opW n)++[v]=y::ys/\(y.cps.toList++ys.flatMap λp=>[32]++p.cps.toList)=(List.replicate k ((opW n).cps.toList++[32])).flatten++v.cps.toList:=by
  intro k v;induction k with
  | zero=>exact⟨v,[],rfl,by simp⟩
  | succ k ih =>
   obtain⟨y,ys,e,h⟩:=ih;refine⟨opW n,y::ys,by rw[List.replicate_succ,List.cons_append,e],?_⟩
   rw[List.replicate_succ,List.flatten_cons,List.append_assoc,<- h];simp
 intro k v;obtain⟨y,ys,e,h⟩:=key k v;rw[e,u2H,<- h]
theorem u8V (n:Nat):∀k m,shL (wrp n k m)=(List.replicate k ((opW n).cps.toList++[32])).flatten++shL m++List.replicate k 125
 | 0,m=>by simp[wrp]
 | k+1,m=>by
  rw[wrp,u8V n k,List.replicate_succ',List.flatten_append,List.replicate_succ (n:=k) (a:=125),opw_cps];simp[shL,shLs]
def dtx_shw (n k:Nat):shw (wrp n k (.leaf "a"))=dtx n k:=by
 refine u0O ?_;rw[u3I,u8V,dtx,dws,v0y,u3k,List.append_assoc];rfl
set_option tactic.hygienic true in
def u7f (z:Str) (k:Nat):(mulS z k).cps.toList=(List.replicate k z.cps.toList).flatten:=by
 unfold mulS;split
 ·rename_i h;subst h;rfl
 ·split
  ·rename_i h0 h
   simp only[Bool.or_eq_true,beq_iff_eq] at h;rcases h with rfl|h
   ·simp
   ·have:z.cps.toList=[]:=List.eq_nil_of_length_eq_zero (by rw [u0p];exact h)
    rw[this];clear h0;induction k with
    | zero=>rfl
    | succ k ih=>rw[List.replicate_succ,List.flatten_cons,<- ih];rfl
  ·have key:∀(l:List (Array Nat)) (acc:Array Nat),(l.foldl (·++·) acc).toList=acc.toList++(l.map Array.toList).flatten:=by
    intro l;induction l with
    | nil=>intro acc;simp
    | cons a l ih=>intro acc;rw[z3A,ih];simp
   show((List.replicate k z.cps).foldl (·++·) #[]).toList=_
   rw[key];simp
def u5k (z:Str) (k:Nat):(mulS z k).length=k*z.length:=by
 rw[<- u0p,u7f,List.length_flatten,List.map_replicate,List.sum_replicate_nat,u0p]
def v3g (n k:Nat):mulS (opW n++" ") k++"a"++mulS "}" k=dtx n k:=by
 refine u0O ?_;rw[u1f,u1f,u7f,u7f,dtx,dws,v0y,u3k,u1f,List.append_assoc];congr 1;rw[show("}":Str).cps.toList=[125] from rfl,show("a":Str).cps.toList=[97] from rfl]
 rw[List.singleton_append];congr 1;clear n;induction k with
 | zero=>rfl
 | succ k ih=>rw[List.replicate_succ,List.replicate_succ,List.flatten_cons,ih];rfl
def dtx_tx(hn:n<20) (hk:k<=500):Tx (dtx n k):=by
 obtain⟨_,_,_,_,_,h1,h2⟩:=u7M n hn;refine⟨?_,?_,?_,?_⟩
 ·refine u9T (by decide +kernel) _ fun y m=>?_
  rcases u7n m with rfl|rfl
  ·exact h1
  ·unfold PyData.strOk
   rw[Array.all_eq_true'];intro x mx;have mx:x∈(clW k).cps.toList:=u0.mpr mx;rw[u3k] at mx;rcases z7.mp mx with rfl|mx
   ·decide
   ·rw[(List.mem_replicate.mp mx).2];decide
 ·rw [<- v3g,u0q,u0q,u5k,u5k,u0q,show (" ":Str).length=1 by decide +kernel,show ("a":Str).length=1 by decide +kernel,show ("}":Str).length=1 by decide +kernel]
  have:k*((opW n).length+1)<=k*4:=Nat.mul_le_mul_left _ (by omega)
  omega
 ·rw[u2J hn,dws];simp;omega
 ·intro w m
  rw[u2J hn] at m;rcases u7n m with rfl|rfl
  ·omega
  ·rw[v0I];omega
def isN_toD (m:Md):isN (toD m)=false:=by cases m<;>rfl
def neS {a:Str} (h:PyData.strOk a=true):dNeX (.str a) (.str a)=.ok (.bl false):=by
 unfold dNeX;rw[if_neg (show ¬ lenNe (.str a) (.str a)=true from z0I)]
 unfold dNe;rw[u4k h];show Res.ok (D.bl (!(a==a)))=_;simp
def size_tr{g:Addr->List D->Res D} (p:∀C d,C∈[A.Leaf,A.Node]->Kid A d->g C [d]=.ok (.int (tsz d))) (m:Md):((isV [A.Leaf,A.Node] "size" (tr A m)).bind λy=>noE (g y.1 [y.2]))=.ok (.int (sz m)):=by
 rw[u7T p (v0g A m),v2L]
def v2s{g:Addr->List D->Res D} (p:∀C d,C∈[A.Leaf,A.Node]->Kid A d->g C [d]=.ok (.int (tdp d))) (m:Md):((isV [A.Leaf,A.Node] "depth" (tr A m)).bind λy=>noE (g y.1 [y.2]))=.ok (.int (dp m)):=by
 rw[u6b p (v0g A m),u9g]
def u5N(a0d:Callee P w K mg base 2 "show_tree" ["tree"] (spF K a0i))  (a0c:CalleeX P w K mg base 6 "read_tree" ["text"] a0f) {a2t:FD} (a1c:Callee P w K mg base 110 "_law_is" ["_law_tree","_law_model"] (spF K a2t))  (a0h:Callee P w K mg base 110 "_law_text" ["_law_model"] (spF K a0j)) {a2d:FD} (a1i:Callee P w K mg base 2 "_law_read" ["_law_text_here"] (spF K a2d))  (a0a:CalleeX P w K mg base 7 "_law_refused" ["_law_thing"] a0b) (a2q:∀t,Tx t->a2d [.str t]=.ok (lrD t)) (a1f:ReadG A a0f) (a0k:RefG A a0b) (p_is:IsM A 100 a2t) (a1l:∀m,Ok m->sz m<=1000->a0i [tr A m]=.ok (.str (shw m))) (a1s:TextM 100 a0j) (F:Fun K "_law_right" "_law_right" u2r f fd) (T:Txt K mg A):∃G,FnOk P w K mg base (CXe P w) 111 f fd ["_law_text_here"] (spX K G)/\∀t,Tz 100 t->G [.str t]=.ok (.bl true):=by
 refine⟨_,F.okTX (k:=110) u1Q (λcdv Ar outer s H E hr hq=>u0f (ds_n u1Q.nd (d_fn a1i hr (u0a (dv 0) u0b)))
  (u0f (u0R (u0o o_is (dv 1) u7p) (u0h (u0m (u2w hq a0a hr (u0a (dv 0) u0b)))) u0y)
  (u0f (ds_n u1Q.nd (u2w hq a0c hr (u0a (dv 0) u0b)))
  (u0h (u0m (u4h (d_fn a1c hr (u0a (dv 2) (u0a (dv 1) u0b))) (u4h (u4g (u1u (hu64 hr)) (d_fn a0d hr (u0a (dv 2) u0b)) (dv 0)) (u7o (u4g (u1u (hu64 hr)) (d_fn a0h hr (u0a (dv 1) u0b)) (dv 0)))))))))),?_⟩
 intro t ht;have e0:=a2q t ht.tx;have hn:=ht.n;have e1:=read_eq (t:=t) (by omega)
 have e2:=a1f.s t ht.tx;unfold readR at e2;unfold lrD at e0;cases c:lreadP t with
 | none =>
  rw[c] at e0;have e3:=a0k.s t ht.tx (by rw[<- e1,c])
  simp[runX,startD,e0,e3,dIs,isN]
 | some m =>
  rw[c] at e0;rw[<- e1,c] at e2;obtain⟨ok,sm⟩:=read_ok ht.tx.ok (by omega) c
  have dm:=dp_sz m;have x1:=p_is m (by omega) ok
  have x2:=a1l m ok (by omega)
  have x3:=a1s m (by omega) ok (by omega)
  rw[v1z c] at x2 x3;have x4:=isN_toD m;have x5:=u7m ht.tx.ok;simp only[] at e0 e2;generalize toD m=dm1 at *
  simp[runX,startD,e0,e2,x1,x2,x3,x4,x5,dIs]
def u6Z(a0d:Callee P w K mg base 2 "show_tree" ["tree"] (spF K a0i))  (a0c:CalleeX P w K mg base 6 "read_tree" ["text"] a0f)  (a0a:CalleeX P w K mg base 7 "_law_refused" ["_law_thing"] a0b) {a2x:FD} (a2s:Callee P w K mg base 3 "alike" ["one","other"] (spF K a2x)) {g_size:Addr->List D->Res D} (m_size:∀C∈[A.Leaf,A.Node],MCalleeF P w K mg base 1 C "size" ["self"] (g_size C)) {g_depth:Addr->List D->Res D} (m_depth:∀C∈[A.Leaf,A.Node],MCalleeF P w K mg base 1 C "depth" ["self"] (g_depth C)) (a1f:ReadG A a0f) (a0k:RefG A a0b) (a1l:∀m,Ok m->sz m<=1000->a0i [tr A m]=.ok (.str (shw m))) (a2a:∀C d,C∈[A.Leaf,A.Node]->Kid A d->g_size C [d]=.ok (.int (tsz d))) (a1q:∀C d,C∈[A.Leaf,A.Node]->Kid A d->g_depth C [d]=.ok (.int (tdp d))) (a2r:∀a b,Ok a->Ok b->sz a<=10000->∃c,a2x [tr A a,tr A b]=.ok (.bl c)/\(c=true↔a=b)) (F:Fun K "_law_deep" "_law_deep" u3a f fd) (T:Txt K mg A):∃G,FnOk P w K mg base (CXe P w) 8 f fd ["_law_number_here","_law_deep_here"] (spX K G)/\∀(n k:Nat) (d:Int),n<20->k<=500->d=(k:Int)+1->G [dN n,.int d]=.ok (.bl true):=by
 refine⟨_,F.okTX (k:=7) u2o (λcdv Ar outer s H E hr hq=>u0f (ds_n u2o.nd (d_op u0I (d_op u0I (d_op v2X (d_op u0I (d_op u0I u0r (d_T v2z T.z_str (by decide +kernel) (u0a (dv 0) u0b))) u0r) (d_op u7d (dv 1) u0d)) u0r) (d_op v2X u0r (d_op u7d (dv 1) u0d))))
  (u0f (u0R (u0o o_gt (dv 1) u0d) (u0h (u0m (u2w hq a0a hr (u0a (dv 2) u0b)))) u0y)
  (u0f (ds_n u2o.nd (u2w hq a0c hr (u0a (dv 2) u0b)))
  (u0f (u0R (dt_w (u2v (u0o (u5i (hu64 hr)) (u4w m_depth hr (dv 3)) (dv 1)) (u2v (u0o (u5i (hu64 hr)) (u4w m_size hr (dv 3)) (dv 1)) (u1K (u0o (u5i (hu64 hr)) (d_fn a0d hr (u0a (dv 3) u0b)) (dv 2)))))) (u0h (u0m d_bl)) u0y)
  (u0h (u0m (d_fn a2s hr (u0a (dv 3) (u0a (u2w hq a0c hr (u0a (dv 2) u0b)) u0b))))))))),?_⟩
 intro n k d hn hk hd;subst hd;obtain⟨_,_,_,_,_,_,h3⟩:=u7M n hn;have t1:=v1l (n:=n) (by omega)
 have t2:dAdd (.str "{") (.str (nmS (n:Int)))=.ok (.str (opW n)):=u4z (by
  have:=u0q "{" (nmS (n:Int))
  rw[<- opW] at this
  omega)
 have l1:(" ":Str).length=1:=by decide +kernel
 have l2:("a":Str).length=1:=by decide +kernel
 have l3:("}":Str).length=1:=by decide +kernel
 have t3:dAdd (.str (opW n)) (.str " ")=.ok (.str (opW n++" ")):=u4z (by omega)
 have l4:(opW n++" ").length<=4:=by rw[u0q];omega
 have m1:=u5k (opW n++" ") k;have m2:=u5k "}" k;have m3:k*(opW n++" ").length<=k*4:=Nat.mul_le_mul_left _ l4;rw[l3,Nat.mul_one] at m2;have t4:dMulU (.str (opW n++" ")) (.int (k:Int))=.ok (.str (mulS (opW n++" ") k)):=u0u ⟨by omega,by omega,by omega,by rw[Int.toNat_natCast];omega⟩
 have t5:dMulU (.str "}") (.int (k:Int))=.ok (.str (mulS "}" k)):=u0u ⟨by omega,by omega,by omega,by rw[Int.toNat_natCast];omega⟩
 have t6:dAdd (.str (mulS (opW n++" ") k)) (.str "a")=.ok (.str (mulS (opW n++" ") k++"a")):=u4z (by omega)
 have t7:dAdd (.str (mulS (opW n++" ") k++"a")) (.str (mulS "}" k))=.ok (.str (dtx n k)):=(u4z (by rw[u0q];omega)).trans (by rw[v3g])
 have t8:dSub (.int ((k:Int)+1)) (.int 1)=.ok (.int (k:Int)):=by show Res.ok (D.int ((k:Int)+1 - 1))=_;rw[Int.add_sub_cancel]
 have tx:=dtx_tx hn hk;generalize mulS (opW n++" ") k=x1 at *
 generalize mulS "}" k=x2 at *
 generalize x1++"a"=x3 at *
 generalize opW n++" "=x4 at *
 by_cases c:k=500
 ·have e3:=a0k.s _ tx (dtx_no hn c)
  have g1:(500:Int)<(k:Int)+1:=by omega
  simp[runX,startD,t1,t2,t3,t4,t5,t6,t7,t8,e3,g1]
 ·have c:k<500:=by omega
  have e1:=a1f.s _ tx;unfold readR at e1;rw[v2p hn c] at e1;have ok:Ok (wrp n k (.leaf "a")):=v2H (by omega) (by omega) k _ (.leaf (by decide +kernel) (by decide +kernel))
  have z:sz (wrp n k (.leaf "a"))=k+1:=v2G n k _;have y:dp (wrp n k (.leaf "a"))=k+1:=v2I n k _ (y0 1);have e2:=a1l _ ok (by omega)
  rw[dtx_shw] at e2;obtain⟨b,e4,e5⟩:=a2r _ _ ok ok (by omega)
  rw[e5.mpr rfl] at e4;have e6:=size_tr a2a (wrp n k (.leaf "a"));have e7:=v2s a1q (wrp n k (.leaf "a"));rw[z] at e6;rw[y] at e7;rw[show((k+1:Nat):Int)=(k:Int)+1 from rfl] at e6 e7
  have n1:dNeX (.int ((k:Int)+1)) (.int ((k:Int)+1))=.ok (.bl false):=by rw[neI];simp
  have n2:dNeX (.str (dtx n k)) (.str (dtx n k))=.ok (.bl false):=neS tx.ok;have g1:¬ ((500:Int)<(k:Int)+1):=by omega
  simp only[] at e1;generalize dtx n k=tt at *
  generalize tr A (wrp n k (.leaf "a"))=dd at *
  simp[runX,startD,t1,t2,t3,t4,t5,t6,t7,t8,e1,e2,e4,e6,e7,n1,n2,g1]
noncomputable def sv:Option D->Option Sl
 | some d=>some (.val d)
 | none=>none
def u4c (o:Option D) (ρ:Rho):frz (sv o::ρ)=sv o::frz ρ:=by cases o<;>rfl
def LwT (sc dm:D) (tx:Str) (o:Out):Prop:=∃x3 x4 x5,o=.nx [some (.val sc),some (.val dm),some (.val (.str tx)),sv x3,sv x4,sv x5,none]
def Tz.up(h:Tz 71 t):Tz 100 t:=⟨h.tx,by have:=h.n;omega⟩
def tz_ts(h:Ts t):Tz 100 t:=Tz.up (u9a h.ok (by have:=h.len;omega) (by have:=h.sp;omega))
noncomputable def SOM:List Str:=[""," ","}","{","{}","{0","a b","{0 a a a a a}","{0}{1}","{0} "," a","$","~"]
def som_ok:∀t∈SOM,Tz 100 t/\readP t=none:=by
 have k:∀t∈SOM,PyData.strOk t=true/\t.length<=1000/\t.cps.toList.count 32<=70/\(readP t).isNone=true:=by decide +kernel
 intro t h;obtain⟨a,b,c,d⟩:=k t h;exact⟨(u9a a b c).up,Option.isNone_iff_eq_none.mp d⟩
def pr_law(a0d:Callee P w K mg base 2 "show_tree" ["tree"] (spF K a0i)) {a1e:FD} (a0u:Callee P w K mg base 1 "_law_cell" ["_law_script","_law_k"] (spF K a1e)) {a2e:FD} (a0n:Callee P w K mg base 13 "_law_made" ["_law_model"] (spF K a2e))  (a0h:Callee P w K mg base 110 "_law_text" ["_law_model"] (spF K a0j)) {a1t:FD} (a0y:Callee P w K mg base 1 "_law_spoilt" ["_law_text_here","_law_cell_here"] (spF K a1t))  (a0a:CalleeX P w K mg base 7 "_law_refused" ["_law_thing"] a0b) {a1z:FD} (a0m:CalleeX P w K mg base 111 "_law_right" ["_law_text_here"] a1z) {a2f:FD} (a0t:CalleeX P w K mg base 8 "_law_deep" ["_law_number_here","_law_deep_here"] a2f) {g_law_grown:List Sl->Res (D×List Sl)} (a0o:Callee P w K mg base 10 "_law_grown" ["_law_left","_law_deep_here","_law_room"] (spM K g_law_grown)) {g_stream:List D->Res (List D)} (a0v:CalleeN P w K mg base 1 "_law_stream" ["_law_cell_here"] g_stream) (a2m:∀(ns:List Int) (k:Nat),∃c:Int,a1e [scr ns,dN k]=.ok (.int c)) (a2h:∀c:Int,g_stream [.int c]=.ok [.int (c - 1000000000000000000),.int c,dN 0]) (a1x:Grow 7 g_law_grown) (a2k:Made A 10 a2e) (a1l:∀m,Ok m->sz m<=1000->a0i [tr A m]=.ok (.str (shw m))) (a1s:TextM 100 a0j) (a1p:∀t,Tz 100 t->a1z [.str t]=.ok (.bl true)) (a0k:RefG A a0b) (a2v:∀m,a0b [tr A m]=.ok (.bl true)) (a2i:∀t (c:Int),Ts t->∃t2,a1t [.str t,.int c]=.ok (.str t2)/\Tz 71 t2) (a2l:∀(n k:Nat) (d:Int),n<20->k<=500->d=(k:Int)+1->a2f [dN n,.int d]=.ok (.bl true)) (F:Fun K "law" "law" u4X f fd) (T:Txt K mg A):∃G,FnOk P w K mg base (CXe P w) 112 f fd ["_law_script"] (spX K G)/\∀ns:List Int,G [scr ns]=.ok (.bl true):=by
 refine⟨_,F.okTX (k:=111) u3O (λcdv Ar outer s H E hr hq=>u0f (ds_n u3O.nd (d_fnN3 a0o hr (dn_fn hq a0v hr (u0a (d_fn a0u hr (u0a (dv 0) (u0a u0d u0b))) u0b)) u0d (u4N (u0a u0d u0b))))
  (u0f (ds_n u3O.nd (d_fn a0h hr (u0a (dv 1) u0b)))
  (u0f (u0R (dt_w (u2v (u0o (u5i (hu64 hr)) (d_fn a0d hr (u0a (d_fn a0n hr (u0a (dv 1) u0b)) u0b)) (dv 2)) (u2v (u1x (u0D (u2w hq a0m hr (u0a (dv 2) u0b)))) (u1K (u1x (u0D (u2w hq a0m hr (u0a u0r u0b)))))))) (u0h (u0m d_bl)) u0y)
  (u0f (u6l rfl (u1Z (u4x (u0a u0r (u0a u0r (u0a u0r (u0a u0r (u0a u0r (u0a u0r (u0a u0r (u0a u0r (u0a u0r (u0a u0r (u0a u0r (u0a u0r (u0a u0r u0b))))))))))))))) (dg_n u3O.nd)
  (u0h (u0R (dt_w (u2v (u1x (u0D (u2w hq a0m hr (u0a (dv 3) u0b)))) (u1K (u1x (u0D (u2w hq a0a hr (u0a (dv 3) u0b))))))) (u0h (u0m d_bl)) u0y)) hq.ps)
  (u0f (u6l rfl (v0A T.z_range (u0a u0d (u0a (d_B (c_max rfl) T.z_max (by decide +kernel) (u0a u0d (u0a (d_B (c_min rfl) T.z_min (by decide +kernel) (u0a (d_B u0T T.z_len (by decide +kernel) (u0a (dv 0) u0b)) (u0a u0d u0b))) u0b))) u0b))) (dg_n u3O.nd)
  (u0h (u0R (u1x (u0D (u2w hq a0m hr (u0a (d_fn a0y hr (u0a (dv 2) (u0a (d_fn a0u hr (u0a (dv 0) (u0a (dv 4) u0b))) u0b))) u0b)))) (u0h (u0m d_bl)) u0y)) hq.ps)
  (u0f (u6l rfl (u1Z (u4x (u0a u7p (u0a u0d (u0a d_bl (u0a (u4x (u0a u0r u0b)) (u0a (v2t (u0a u0r u0b)) (u0a (DN.de dd_new) (u0a (d_fn a0n hr (u0a (dv 1) u0b)) u0b))))))))) (dg_n u3O.nd)
  (u0h (u0R (u1x (u0D (u2w hq a0a hr (u0a (dv 5) u0b)))) (u0h (u0m d_bl)) u0y)) hq.ps)
  (u0f (ds_n u3O.nd (d_op u3d (d_fn a0u hr (u0a (dv 0) (u0a u0d u0b))) u0d))
  (u0h (u0m (u4h (u2w hq a0t hr (u0a (dv 6) (u0a u0d u0b))) (u4h (u2w hq a0t hr (u0a (dv 6) (u0a u0d u0b))) (u7o (u2w hq a0t hr (u0a (dv 6) (u0a u0d u0b))))))))))))))),?_⟩
 intro ns;obtain⟨c0,ec0⟩:=a2m ns 0;have ec0:a1e [scr ns,.int 0]=.ok (.int c0):=ec0;obtain⟨c1,ec1⟩:=a2m ns 1;have ec1:a1e [scr ns,.int 1]=.ok (.int c1):=ec1;obtain⟨m,a1,k1,r1,gm,dm,sm,_,em⟩:=a1x (c0 - 1000000000000000000) c0 0 50 6 (by omega) (by omega) (by omega)
 have em:g_law_grown [.own (.l [.int (c0 - 1000000000000000000),.int c0,dN 0]),.val (.int 6),.own (.l [.int 50])]=.ok (toD m,[.own (stm a1 c0 k1),.val (dN 6),.own (.l [dN r1])]):=em;have okm:=gm.ok;have sm:sz m<=50:=by omega
 have dpm:=dp_sz m;have mk:=a2k m (by omega) okm
 have sh:=a1l m okm (by omega)
 have tm:=a1s m (by omega) okm (by omega)
 have ts:=gd_ts gm sm;have rf2:=a2v m;have rt1:=a1p _ (tz_ts ts);have rt2:=a1p "{0 a a a a}" (Tz.up (u9a (by decide +kernel) (by decide +kernel) (by decide +kernel)))
 have nss:=neS ts.ok;generalize shw m=tx at *
 generalize toD m=dm at *
 generalize tr A m=tt at *
 refine runX1 rfl ?_;refine asg dm (by simp[startD,ec0,a2h,em]) rfl ?_
 refine asg (.str tx) (by simp[startD,tm]) rfl ?_
 refine brT false (by simp[startD,frz,frzS,mk,sh,nss,rt1,rt2]) (λc=>nomatch c) (λ_=>?_)
 refine th rfl ?_;generalize hsc:scr ns=sc at *
 refine thq (T:=LwT sc dm tx) ?_ ?_
 ·refine goq (v:=SOM.map D.str) (by simp [startD,frz,frzS,u2t,SOM]) ?_
  refine u6k (S:=λds ρ=>∃ts x3 x4 x5,ρ=[some (.val sc),some (.val dm),some (.val (.str tx)),sv x3,sv x4,sv x5,none]/\ds=ts.map D.str/\∀t∈ts,t∈SOM) _ (λρ z9129=>by obtain⟨ts,x3,x4,x5,e,_⟩:=z9129;exact⟨x3,x4,x5,by rw[e]⟩) ?_ _ _ ⟨SOM,none,none,none,rfl,rfl,λ_ h=>h⟩
  rintro d ds ρ ⟨ts,x3,x4,x5,rfl,e,hts⟩;cases ts with
  | nil=>cases e
  | cons t ts =>
   cases e;obtain⟨h1,h2⟩:=som_ok t (hts t z6);have v1:=a1p t h1;have v2:=a0k.s t h1.tx h2;exact⟨_,rfl,.inl ⟨_,by simp[u4c,v1,v2];rfl,ts,some (.str t),x4,x5,rfl,rfl,λt m=>hts t (z5 _ m)⟩⟩
 rintro _ ⟨x3,x4,x5,rfl⟩;refine th rfl ?_;have l0:gLen [sc]=.ok (.int (ns.length:Int)):=by rw[<- hsc,len_l];simp
 obtain⟨mn,emn,hmn⟩:∃mn:Int,gMin [.int (ns.length:Int),.int 41]=.ok (.int mn)/\mn<=41:=⟨_,rfl,by split<;>omega⟩
 obtain⟨mx,emx,hmx,hmx2⟩:∃mx:Int,gMax [.int 4,.int mn]=.ok (.int mx)/\4<=mx/\mx<=41:=⟨_,rfl,by split<;>omega,by split<;>omega⟩
 obtain⟨es,erg,hes⟩:∃es,rng2 [.int 1,.int mx]=.ok es/\∀d∈es,∃k:Nat,d=dN k:=by
  refine⟨intL 1 (mx - 1).toNat,?_,λd hd=>?_⟩
  ·show gd _ _=_
   rw[u0u (by omega)]
  ·simp [intL] at hd
   obtain⟨k,_,rfl⟩:=hd;exact⟨1+k,by simp⟩
 refine thq (T:=LwT sc dm tx) ?_ ?_
 ·refine goq (v:=es) (by simp [u4c,l0,emn,emx,erg]) ?_
  refine u6k (S:=λds ρ=>∃x3 x4 x5,ρ=[some (.val sc),some (.val dm),some (.val (.str tx)),sv x3,sv x4,sv x5,none]/\∀d∈ds,∃k:Nat,d=dN k) _ (λρ z9130=>by obtain⟨x3,x4,x5,e,_⟩:=z9130;exact⟨x3,x4,x5,by rw[e]⟩) ?_ _ _ ⟨x3,x4,x5,rfl,hes⟩
  rintro d ds ρ ⟨x3,x4,x5,rfl,hds⟩;obtain⟨k,rfl⟩:=hds d z6;obtain⟨c,ec⟩:=a2m ns k;rw[hsc] at ec;obtain⟨t2,e2,z2⟩:=a2i tx c ts;have v1:=a1p t2 z2.up;exact⟨_,rfl,.inl ⟨_,by simp[u4c,ec,e2,v1];rfl,x3,some (dN k),x5,rfl,λd m=>hds d (z5 _ m)⟩⟩
 rintro _ ⟨x3,x4,x5,rfl⟩;refine th rfl ?_;refine thq (T:=LwT sc dm tx) ?_ ?_
 ·refine goq (v:=pl6++[tt]) (by simp [u4c,u2t,mk,pl6,OD.toD]) ?_
  refine u6k (S:=λds ρ=>∃x3 x4 x5,ρ=[some (.val sc),some (.val dm),some (.val (.str tx)),sv x3,sv x4,sv x5,none]/\∀d∈ds,a0b [d]=.ok (.bl true)) _ (λρ z9131=>by obtain⟨x3,x4,x5,e,_⟩:=z9131;exact⟨x3,x4,x5,by rw[e]⟩) ?_ _ _ ⟨x3,x4,x5,rfl,λd hd=>?_⟩
  ·rintro d ds ρ ⟨x3,x4,x5,rfl,hds⟩
   have v1:=hds d z6;exact⟨_,rfl,.inl ⟨_,by simp[u4c,v1];rfl,x3,x4,some d,rfl,λd m=>hds d (z5 _ m)⟩⟩
  ·rcases v6.mp hd with hd | hd
   ·exact a0k.o d (rf_pl d hd)
   ·rw[z0H.mp hd];exact rf2
 rintro _ ⟨x3,x4,x5,rfl⟩;refine th rfl ?_;obtain⟨w1,ew1,hw1⟩:=modI c1 (b:=20) (by omega)
 have t1:dMod (.int c1) (.int 20)=.ok (dN w1):=by rw[u1v (by omega)];exact congrArg (λz=>Res.ok (D.int z)) ew1
 refine asg (dN w1) (by simp[u4c,ec1,t1]) rfl ?_
 have d1:=a2l w1 499 500 hw1 (by omega) (by omega)
 have d2:=a2l w1 500 501 hw1 (by omega) (by omega)
 have d3:=a2l w1 59 60 hw1 (by omega) (by omega)
 refine goq (v:=.bl true) (by simp[u4c,d1,d2,d3]) rfl
noncomputable def noLst (K:W.Frag):Bool:=K.all λp=>match p.2.cls with
 | .type T=>!(T=="list")
 | _=>true
set_option tactic.hygienic true in
def v1Q(h:noLst K=true) {o:Obj} (e:K.lookup a=some o):o.cls≠.type "list":=λz=>by
 have hm:(a,o)∈K:=by
  unfold noLst at h;clear h;induction K with
  | nil=>cases e
  | cons p K ih =>
   obtain⟨b,u⟩:=p;rw[u6] at e;split at e
   ·rename_i q
    cases e;rw[beq_iff_eq.mp q];exact z6
   ·exact z5 _ (ih e)
 have:=z3E.mp h _ hm
 simp only[z] at this;simp at this
theorem u7H{F:Hp}:∀ns:List Int,Rps K F (ns.map V.int) (ns.map D.int)
 | []=>.nil
 | n::ns=>.cons (.int n) (u7H ns)
def spLaw7 (K:W.Frag):Sp:=λvs H Q _=>∃(a:Addr) (ns:List Int),vs=[.ref a]/\SqL K H a (ns.map V.int)/\∀H',Q (.bl true) H'
def law_imp(nl:noLst K=true) (h:FnOk P w K mg base (CXe P w) k f fd ps (spX K G)) (p:∀ns:List Int,G [scr ns]=.ok (.bl true)) :
  FnOk P w K mg base (CXe P w) k f fd ps (spLaw7 K):=h.imp λvs H Q E ⟨a,ns,e,hs,q⟩=>by
 subst e;rcases hs with hs|⟨o,its,n,e1,e2,_⟩
 ·refine ⟨H,[scr ns],Same.refl H,.cons (.lst hs (u7H ns)) .nil,?_⟩
  rw[p ns];intro v F' H' st pv;cases pv;exact q H'
 ·exact absurd e2 (v1Q nl e1)
def s_xf {X:Cx}{o value:Expr}{ta tv:TE}{f:Str}{pos pos':Pos} (ha:JE X o ta) (hv:JE X value tv) (hs:swapsWith value (some (.Attribute o f pos')) pos.line X.env=pure false:=by rfl):JS X (.Assign [.Attribute o f pos'] value pos) (sXF X.K ta tv f):=⟨ps_xf ha.out hv.out hs⟩
def ok_x{q:Str}{p1 p2 p3 p4:Pos} (F:Fun K "__init__" q st f fd) (S:FnScope ["self",fl] ["self",fl] (defScope st)) (hb:defBody st=[.Assign [.Attribute (.Name "self" p1) fl p2] (.Name fl p3) p4]) (e1:(fl==("__debug__":Str))=false) (e2:(fl==("__classdict__":Str))=false) (c:XCls K C f) (n:NoAttr K C fl):FnOk P w K mg base CX0 1 f fd ["self",fl] (spXI C [fl]):=by
 have vi:∀x∈(["self",fl]:List Str),Vis (defScope st) x:=λx hx=>(S.par x hx).elim .inl λz=>.inr (.inl z)
 refine F.okJ S (λvs H Q E h=>?_) (λcdv A outer s H vs Q E hr h=>?_)
 ·obtain ⟨a,args,n',rfl,hl,_⟩:=h
  rw[z0D,hl];rfl
 obtain⟨a,args,n',rfl,hl,ha,q⟩:=h
 match args,hl,q with
 | [v],_,q =>
  rw[hb];refine⟨_,b_one (s_xf (ev 0 rfl (vi _ (by simp))) (ev 1 rfl (vi _ (by simp)) e1 e2)),?_⟩
  exact⟨_,rfl,_,rfl,a,C,f,n',rfl,c,n,ha,λdx h1 h2=>q dx h1 h2⟩
def AtF (K:W.Frag) (x:Str) (st:Stmt):Prop:=∃f oc od kV dc pm an cd ct sl,W.nsIn K mainGlobals x=some (some (.ref f))/\K.lookup f=some ⟨oc,od,.func (W.fnOf x x (defArgs st) (defBody st) (defScope st) .none kV dc pm an cd ct),sl⟩/\W.codeIn K cd x=true/\W.keepIn K (.ref f)=true
def AtY (K:W.Frag) (C:Addr) (x q:Str) (st:Stmt):Prop:=∃f oc od kV dc pm an cd ct sl,W.findIn K (.ref C) x=some (some (.ref f))/\W.isFn K (.ref f)=true/\K.lookup f=some ⟨oc,od,.func (W.fnOf x q (defArgs st) (defBody st) (defScope st) .none kV dc pm an cd ct),sl⟩/\W.codeIn K cd q=true/\W.keepIn K (.ref f)=true
def AtX (K:W.Frag) (C:Addr) (x q fl:Str) (st:Stmt):Prop:=W.nsIn K mainGlobals x=some (some (.ref C))/\∃f oc od kV dc pm an cd ct sl,W.findIn K (.ref C) "__init__"=some (some (.ref f))/\K.lookup f=some ⟨oc,od,.func (W.fnOf "__init__" q (defArgs st) (defBody st) (defScope st) .none kV dc pm an cd ct),sl⟩/\W.codeIn K cd q=true/\W.keepIn K (.ref f)=true/\xcB K C f=true/\W.findIn K (.ref C) fl=some none/\xbB K C=true
section
variable {q m:Str}{p1 p2 p3 p4 p5:Str}
def AtF.go (a:AtF K x st) (X:K.In h) (G:h.Ns mainGlobals mg):∃f fd,Fun K x x st f fd/\mg x=some (.ref f)/\W.keepIn K (.ref f)=true:=by
 obtain⟨f,oc,od,kV,dc,pm,an,cd,ct,sl,h1,h2,h3,h4⟩:=a;exact⟨f,_,u7Z h2 h3 h4,W.mg_of X G h1,h4⟩
def AtY.go (a:AtY K C x q st):∃f fd,Fun K x q st f fd/\Meth K C x f:=by
 obtain⟨f,oc,od,kV,dc,pm,an,cd,ct,sl,h1,h2,h3,h4,h5⟩:=a;exact⟨f,_,u7Z h3 h4 h5,h1,h2,h5⟩
def AtX.go (a:AtX K C x q fl st) (X:K.In h) (G:h.Ns mainGlobals mg):∃f fd,Fun K "__init__" q st f fd/\XCls K C f/\NoAttr K C fl/\mg x=some (.ref C)/\XBase K C:=by
 obtain⟨h0,f,oc,od,kV,dc,pm,an,cd,ct,sl,h1,h2,h3,h4,h5,h6,h7⟩:=a;exact⟨f,_,u7Z h2 h3 h4,xcls_of h5,h6,W.mg_of X G h0,u4P h7⟩
abbrev bA (x q:Str) (st:Stmt) (us:List Value) (l:List (Str×Value)):Prop:=∀(kV doc pm:Value) (an:Option Addr) (cdv ct:Value),bindArgs (W.fnOf x q (defArgs st) (defBody st) (defScope st) .none kV doc pm an cdv ct) ⟨us,[]⟩=pure l
def _root_.L2.Fun.b1 (F:Fun K x q st f fd) (e:∀a,bA x q st [a] [(p1,a)]):Binds K fd [p1] []:=F.binds λkV doc pm an cdv ct us hl=>match us,hl with | [a],_=>e a kV doc pm an cdv ct
def _root_.L2.Fun.b2 (F:Fun K x q st f fd) (e:∀a b,bA x q st [a,b] [(p1,a),(p2,b)]):Binds K fd [p1,p2] []:=F.binds λkV doc pm an cdv ct us hl=>match us,hl with | [a,b],_=>e a b kV doc pm an cdv ct
def _root_.L2.Fun.b3 (F:Fun K x q st f fd) (e:∀a b c,bA x q st [a,b,c] [(p1,a),(p2,b),(p3,c)]):Binds K fd [p1,p2,p3] []:=F.binds λkV doc pm an cdv ct us hl=>match us,hl with | [a,b,c],_=>e a b c kV doc pm an cdv ct
def _root_.L2.Fun.b4 (F:Fun K x q st f fd) (e:∀a b c d,bA x q st [a,b,c,d] [(p1,a),(p2,b),(p3,c),(p4,d)]):Binds K fd [p1,p2,p3,p4] []:=F.binds λkV doc pm an cdv ct us hl=>match us,hl with | [a,b,c,d],_=>e a b c d kV doc pm an cdv ct
def _root_.L2.Fun.b5 (F:Fun K x q st f fd) (e:∀a b c d g,bA x q st [a,b,c,d,g] [(p1,a),(p2,b),(p3,c),(p4,d),(p5,g)]):Binds K fd [p1,p2,p3,p4,p5] []:=F.binds λkV doc pm an cdv ct us hl=>match us,hl with | [a,b,c,d,g],_=>e a b c d g kV doc pm an cdv ct
def mkC(H:FnOk P w K mg base CX0 k f fd ps (spF K g)) (b:Binds K fd ps []) (kp:W.keepIn K (.ref f)=true) (a:mg x=some (.ref f)):Callee P w K mg base k x ps (spF K g):=⟨f,fd,H,b,kp,a⟩
def mkX(H:FnOk P w K mg base (CXe P w) k f fd ps (spX K g)) (b:Binds K fd ps []) (kp:W.keepIn K (.ref f)=true) (a:mg x=some (.ref f)):CalleeX P w K mg base k x ps g:=⟨f,fd,H,b,kp,a⟩
def mkN {g:List D->Res (List D)} (H:FnOk P w K mg base (CXe P w) k f fd ps (spN K g)) (b:Binds K fd ps []) (kp:W.keepIn K (.ref f)=true) (a:mg x=some (.ref f)):CalleeN P w K mg base k x ps g:=⟨f,fd,H,b,kp,a⟩
def mkE (H:FnOk P w K mg base CX0 1 f fd ["self",fl] (spXI C [fl])) (b:Binds K fd ["self",fl] []) (c:XCls K C f) (a:mg x=some (.ref C)):XCalleeF P w K mg base 1 x C ["self",fl] [fl]:=⟨f,fd,c,H,b,a⟩
end
def mkW {g:List Sl->Res (D×List Sl)} (H:FnOk P w K mg base CX0 k f fd ps (spM K g)) (b:Binds K fd ps []) (kp:W.keepIn K (.ref f)=true) (a:mg x=some (.ref f)):Callee P w K mg base k x ps (spM K g):=⟨f,fd,H,b,kp,a⟩
def mkF(c:Cls K C) (m:Meth K C x f) (H:FnOk P w K mg base CX0 k f fd ps (spF K g)) (b:Binds K fd ps []):MCalleeF P w K mg base k C x ps g:=⟨f,fd,c,m,H,b⟩
def two {α:Type}{R:Addr->α->Prop} (h1:∃g,R A.Leaf g) (h2:∃g,R A.Node g):∃g:Addr->α,∀C∈[A.Leaf,A.Node],R C (g C):=by
 classical
 obtain⟨g1,h1⟩:=h1;obtain⟨g2,h2⟩:=h2;refine⟨λC=>if C=A.Leaf then g1 else g2,λC hC=>?_⟩
 by_cases c:C=A.Leaf
 ·rw[c];simp only[if_true];exact h1
 ·rcases u5Y.mp hC with h | h
  ·exact absurd h c
  ·simp only[if_neg c];rw[h];exact h2
def bad0:FnOk P w K mg base CX0 k f fd ps (spF K λ_=>.bad):=⟨λvs H Q E z9133=>by obtain⟨F,ds,_,_,q⟩:=z9133;exact q.elim,λA outer s H args us vs Q E _ _ _ _ z9134=>by obtain⟨F,ds,_,_,q⟩:=z9134;exact q.elim⟩
def badM0:FnOk P w K mg base CX0 k f fd ps (spM K λ_=>.bad):=⟨λvs H Q E z9135=>by obtain⟨F,hb,sl,_,_,q⟩:=z9135;exact q.elim,λA outer s H args us vs Q E _ _ _ _ z9136=>by obtain⟨F,hb,sl,_,_,q⟩:=z9136;exact q.elim⟩
theorem recF {R:Nat->(List D->Res D)->Prop} (r0:R 0 λ_=>.bad) (b:Binds K fd ps []) (kp:W.keepIn K (.ref f)=true) (a:mg x=some (.ref f))
  (step:∀k d g,3<=k->Callee P w K mg base k x ps (spF K g)->R d g->∃G,FnOk P w K mg base CX0 (k+1) f fd ps (spF K G)/\R (d+1) G):∀d,∃G,Callee P w K mg base (3+d) x ps (spF K G)/\R d G
 | 0=>⟨_,mkC bad0 b kp a,r0⟩
 | d+1=>by
  obtain⟨g,c,r⟩:=recF r0 b kp a step d;obtain⟨G,H,r'⟩:=step (3+d) d g (by omega) c r
  exact⟨G,mkC H b kp a,r'⟩
theorem recM {R:Nat->(List Sl->Res (D×List Sl))->Prop} (r0:R 0 λ_=>.bad) (b:Binds K fd ps []) (kp:W.keepIn K (.ref f)=true) (a:mg x=some (.ref f))
  (step:∀k d g,3<=k->Callee P w K mg base k x ps (spM K g)->R d g->∃G,FnOk P w K mg base CX0 (k+1) f fd ps (spM K G)/\R (d+1) G):∀d,∃G,Callee P w K mg base (3+d) x ps (spM K G)/\R d G
 | 0=>⟨_,mkW badM0 b kp a,r0⟩
 | d+1=>by
  obtain⟨g,c,r⟩:=recM r0 b kp a step d;obtain⟨G,H,r'⟩:=step (3+d) d g (by omega) c r
  exact⟨G,mkW H b kp a,r'⟩
theorem u5F {H:Hp}:∀{l:List Str},(∀z∈l,z.length<=sizeLine)->Rps K H (l.map V.str) (l.map D.str)
 | [],_=>.nil
 | z::l,h=>.cons (.str (h z z6)) (u5F λy m=>h y (z5 _ m))
def u7W{C1 C2 C3:Addr}{b1 b2 b3:Bool} (i1:InK K C1) (i2:InK K C2) (x:∃f,XCls K C3 f) (k1:W.kitOne K (.ref C1) (.ref C)=some b1) (k2:W.kitOne K (.ref C2) (.ref C)=some b2) (k3:W.kitOne K (.ref C3) (.ref C)=some b3) (kb:∀T∈(["NoneType","bool","int","str","list","tuple","dict"]:List String),W.kitOne K (.type T) (.ref C)=some false):IsO K C [(C1,b1),(C2,b2)] [(C3,b3)]:=⟨λp hp=>by
 simp only[z7,u5,or_false] at hp;rcases hp with rfl|rfl
 ·exact⟨i1,k1⟩
 ·exact⟨i2,k2⟩,λp hp=>by
 rw[z0H.mp hp];exact⟨x,k3⟩,kb⟩
def v0z (m:Md):1<=dp m:=by cases m<;>simp[dp]
set_option tactic.hygienic true in
def ref_by(h:RefG A G):RefG A (byP A G):=⟨λt a b=>h.s t a b,λd r=>by
 unfold byP;split
 ·rename_i C fs e
  split
  ·rfl
  ·exact(List.cons.inj e).1 ▸ h.o _ r
 ·exact h.o _ r⟩
def ref_tr(_:RefG A G) (m:Md):byP A G [tr A m]=.ok (.bl true):=by
 cases m
 ·exact if_pos (by simp)
 ·exact if_pos (by simp)
set_option maxHeartbeats 0 in
def all_mk{l:W.OpenLaw}{fa fl J0c J0e J0f J0b J0d J0g:Addr} (X:K.In h) (G:h.Ns mainGlobals mg) (hfa:mg "law"=some (.ref fa)) {odl anl:Option Addr}{sll:Array (Option Value)}{ocl kVl dcl pml cdl ctl:Value}
  (h0:AtF K "is_short_text" u1m) (h1:AtF K "has_only" u2e) (h2:AtF K "is_sign" u3P) (h3:AtF K "children_of" u1D) (h4:AtF K "are_alike_here" u1e) (h5:AtF K "alike" u6Q) (h6:AtF K "show_tree" u2p) (h7:AtF K "takes_word" u1R) (h8:AtF K "read_tree" u2q) (h9:AtF K "_law_cell" u3b) (h10:AtF K "_law_stir" u2W) (h11:AtF K "_law_stream" u1S) (h12:AtF K "_law_draw" u2Z) (h13:AtF K "_law_sign" u2X) (h14:AtF K "_law_grown" u2s) (h15:AtF K "_law_made" u2d) (h16:AtF K "_law_is" u4W) (h17:AtF K "_law_text" u2c) (h18:AtF K "_law_is_sign" u1i) (h19:AtF K "_law_number" u1q) (h20:AtF K "_law_closed" u1U) (h21:AtF K "_law_read" u2Y) (h22:AtF K "_law_spoilt" u1T) (h23:AtF K "_law_refused" u1C) (h24:AtF K "_law_right" u2r) (h25:AtF K "_law_deep" u3a) (J6d:AtX K J0c "NoTree" "NoTree.__init__" "found" (meth 3 0)) (gT:W.nsIn K mainGlobals "TableError"=some (some (.ref J0e))/\xbB K J0e=true) (s_b:subK K J0c J0e=true) (b_x:xbB K J0c=true) (J1e:W.nsIn K mainGlobals "Tree"=some (some (.ref J0f))) (J1c:W.nsIn K mainGlobals "Leaf"=some (some (.ref J0b))) (J1d:W.nsIn K mainGlobals "Node"=some (some (.ref J0d))) (J1f:W.nsIn K mainGlobals "TreeReader"=some (some (.ref J0g))) (J5r:W.plainGet K J0b Str.empty=true) (J2a:W.hasDictIn K J0b=true) (J5u:W.plainOver K J0b=true) (J5x:W.findIn K (.ref J0b) "__setattr__"=some (some (.builtin "object.__setattr__"))) (J4n:W.makesIn K J0b=true) (J3v:W.keepIn K (.ref J0b)=true) (J1x:W.findIn K (.ref J0b) "__class__"=some (some (.builtin "object.__class__"))) (J2d:W.mroIn K J0b (.type "object")=some true) (J2j:AtY K J0b "__init__" "Leaf.__init__" u1B) (J4q:AtY K J0b "size" "Tree.size" u1h) (J4i:AtY K J0b "depth" "Tree.depth" u0W) (J4l:AtY K J0b "is_leaf" "Leaf.is_leaf" u1d) (J4s:W.findIn K (.ref J0b) "sign"=some none) (J4u:W.findIn K (.ref J0b) "tree_size"=some none) (J4t:W.findIn K (.ref J0b) "tree_depth"=some none) (J5s:W.plainGet K J0d Str.empty=true) (J2b:W.hasDictIn K J0d=true) (J5v:W.plainOver K J0d=true) (J5y:W.findIn K (.ref J0d) "__setattr__"=some (some (.builtin "object.__setattr__"))) (J4o:W.makesIn K J0d=true) (J3w:W.keepIn K (.ref J0d)=true) (J1y:W.findIn K (.ref J0d) "__class__"=some (some (.builtin "object.__class__"))) (J2e:W.mroIn K J0d (.type "object")=some true) (J2k:AtY K J0d "__init__" "Node.__init__" u0K) (J4r:AtY K J0d "size" "Tree.size" u1h) (J4j:AtY K J0d "depth" "Tree.depth" u0W) (J4m:AtY K J0d "is_leaf" "Node.is_leaf" u1c) (J4w:W.findIn K (.ref J0d) "number"=some none) (J4v:W.findIn K (.ref J0d) "children"=some none) (J4y:W.findIn K (.ref J0d) "tree_size"=some none) (J4x:W.findIn K (.ref J0d) "tree_depth"=some none) (J5t:W.plainGet K J0g Str.empty=true) (J2c:W.hasDictIn K J0g=true) (J5w:W.plainOver K J0g=true) (J5z:W.findIn K (.ref J0g) "__setattr__"=some (some (.builtin "object.__setattr__"))) (J4p:W.makesIn K J0g=true) (J3x:W.keepIn K (.ref J0g)=true) (J1z:W.findIn K (.ref J0g) "__class__"=some (some (.builtin "object.__class__"))) (J2f:W.mroIn K J0g (.type "object")=some true) (J2l:AtY K J0g "__init__" "TreeReader.__init__" u0P) (J4z:W.findIn K (.ref J0g) "finished"=some none) (J5a:W.findIn K (.ref J0g) "opened"=some none) (J4g:AtY K J0g "begin" "TreeReader.begin" u0M) (J4k:AtY K J0g "finish" "TreeReader.finish" u0F) (J4h:AtY K J0g "close" "TreeReader.close" u0L) (J3y:∀T∈(["bool","int","str","list","tuple","dict"]:List String),W.kitOne K (.ref J0b) (.type T)=some false) (J1a:W.findIn K (.ref J0b) "__eq__"=some (some (.builtin "object.__eq__"))) (J3z:∀T∈(["bool","int","str","list","tuple","dict"]:List String),W.kitOne K (.ref J0d) (.type T)=some false) (J1b:W.findIn K (.ref J0d) "__eq__"=some (some (.builtin "object.__eq__"))) (J1h:∃t,W.nsIn K mainGlobals "IN_SIGNS"=some (some (.str "abcdefghijklmnopqrstuvwxyz0123456789+-*/()[]=<>,;.!?^&" t))) (J1i:∃t,W.nsIn K mainGlobals "LONGEST"=some (some (.int 6 t))) (J1g:∃t,W.nsIn K mainGlobals "DEEPEST"=some (some (.int 500 t))) (J1j:∃t,W.nsIn K mainGlobals "MOST_CHILDREN"=some (some (.int 4 t))) (J1k:∃a od n sl t0 t1 t2 t3 t4 t5 t6 t7 t8 t9 t10 t11 t12 t13 t14 t15 t16 t17 t18 t19,W.nsIn K mainGlobals "NUMBERS"=some (some (.ref a))/\K.lookup a=some ⟨.type "tuple",od,.seq #[.str "0" t0,.str "1" t1,.str "2" t2,.str "3" t3,.str "4" t4,.str "5" t5,.str "6" t6,.str "7" t7,.str "8" t8,.str "9" t9,.str "10" t10,.str "11" t11,.str "12" t12,.str "13" t13,.str "14" t14,.str "15" t15,.str "16" t16,.str "17" t17,.str "18" t18,.str "19" t19] n,sl⟩) (hn:W.specialIn K (.builtin "object.__class__") "__get__"=some (some (.builtin "getset_descriptor.__get__"))) (ht:W.takesIn K (.builtin "object.__class__")=some true) (J2q:W.kitOne K (.ref J0b) (.ref J0f)=some true) (J2z:W.kitOne K (.ref J0d) (.ref J0f)=some true) (J2u:W.kitOne K (.ref J0c) (.ref J0f)=some false) (J3e:∀T∈(["NoneType","bool","int","str","list","tuple","dict"]:List String),W.kitOne K (.type T) (.ref J0f)=some false) (J2n:W.kitOne K (.ref J0b) (.ref J0b)=some true) (J2w:W.kitOne K (.ref J0d) (.ref J0b)=some false) (J2r:W.kitOne K (.ref J0c) (.ref J0b)=some false) (J3b:∀T∈(["NoneType","bool","int","str","list","tuple","dict"]:List String),W.kitOne K (.type T) (.ref J0b)=some false) (J2p:W.kitOne K (.ref J0b) (.ref J0d)=some false) (J2y:W.kitOne K (.ref J0d) (.ref J0d)=some true) (J2t:W.kitOne K (.ref J0c) (.ref J0d)=some false) (J3d:∀T∈(["NoneType","bool","int","str","list","tuple","dict"]:List String),W.kitOne K (.type T) (.ref J0d)=some false) (J2o:W.kitOne K (.ref J0b) (.ref J0c)=some false) (J2x:W.kitOne K (.ref J0d) (.ref J0c)=some false) (J2s:W.kitOne K (.ref J0c) (.ref J0c)=some true) (J3c:∀T∈(["NoneType","bool","int","str","list","tuple","dict"]:List String),W.kitOne K (.type T) (.ref J0c)=some false) (ne:J0b≠J0d) (nl:noLst K=true) (zz:∀x∈(["isinstance","str","int","bool","list","tuple","dict","len","all","range","enumerate","zip","reversed","max","min","sum"]:List Str),W.nsIn K mainGlobals x=some none) (al:W.nsIn K mainGlobals "law"=some (some (.ref fl))) (ll:K.lookup fl=some ⟨ocl,odl,.func (W.fnOf "law" "law" (defArgs u4X) (defBody u4X) (defScope u4X) .none kVl dcl pml anl cdl ctl),sll⟩) (cl:W.codeIn K cdl "law"=true) (kl:W.keepIn K (.ref fl)=true)
  : ∃fd:FuncData,(∀(s:Shared) (v:Value),BindsTo s fd ⟨[v],[]⟩ [("_law_script",v)])/\∀base:Heap,K.In base->base.Ns mainGlobals mg->FnOk l.prog w K mg base (CXe l.prog w) 112 fa fd ["_law_script"] (spLaw7 K):=by
 cases hfa.symm.trans (W.mg_of X G al);refine Classical.byContradiction λhZ=>?_
 obtain⟨_,_,J0h,J0w,J0v,J0u,J0a⟩:=J6d.go X G
 let A:Adr:=⟨J0c,J0e,J0f,J0b,J0d,J0g⟩
 have J0x:Cls K J0b:=⟨J5r,J2a,J5u,J5x⟩;have J2g:InK K J0b:=⟨J0x,J1x,hn,ht,J2d⟩;have J0y:Cls K J0d:=⟨J5s,J2b,J5v,J5y⟩;have J2h:InK K J0d:=⟨J0y,J1y,hn,ht,J2e⟩;have J0z:Cls K J0g:=⟨J5t,J2c,J5w,J5z⟩;have J2i:InK K J0g:=⟨J0z,J1z,hn,ht,J2f⟩;have xp:XRead K "found" [J0c]:=by
  intro C hC;rw[z0H.mp hC];exact⟨⟨_,J0w⟩,J0v⟩
 have J5q:IsO K J0f _ _:=u7W J2g J2h ⟨_,J0w⟩ J2q J2z J2u J3e;have J5n:IsO K J0b _ _:=u7W J2g J2h ⟨_,J0w⟩ J2n J2w J2r J3b;have J5p:IsO K J0d _ _:=u7W J2g J2h ⟨_,J0w⟩ J2p J2y J2t J3d;have J5o:IsO K J0c _ _:=u7W J2g J2h ⟨_,J0w⟩ J2o J2x J2s J3c;obtain⟨_,J1u⟩:=J1h;have J1p:GloD K mg "IN_SIGNS" (.str "abcdefghijklmnopqrstuvwxyz0123456789+-*/()[]=<>,;.!?^&"):=⟨_,⟨_,W.mg_of X G J1u,(show RelV (.str _) (.str _ _) from⟨_,rfl⟩)⟩,λF=>.str (by decide +kernel)⟩
 obtain⟨_,J1v⟩:=J1i;have J1q:GloD K mg "LONGEST" (.int 6):=⟨_,⟨_,W.mg_of X G J1v,(show RelV (.int _) (.int _ _) from⟨_,rfl⟩)⟩,λF=>.int _⟩
 obtain⟨_,J1t⟩:=J1g;have J1o:GloD K mg "DEEPEST" (.int 500):=⟨_,⟨_,W.mg_of X G J1t,(show RelV (.int _) (.int _ _) from⟨_,rfl⟩)⟩,λF=>.int _⟩
 obtain⟨_,J1w⟩:=J1j;have J1r:GloD K mg "MOST_CHILDREN" (.int 4):=⟨_,⟨_,W.mg_of X G J1w,(show RelV (.int _) (.int _ _) from⟨_,rfl⟩)⟩,λF=>.int _⟩
 obtain⟨aN,_,_,_,_,_,_,_,_,_,_,_,_,_,_,_,_,_,_,_,_,_,_,_,gN,lN⟩:=J1k;have J1s:GloD K mg "NUMBERS" (.tup (NUMS.map D.str)):=⟨.ref aN,⟨_,W.mg_of X G gN,rfl⟩,λF=>.tup (xs:=NUMS.map V.str) (.inr ⟨_,_,_,lN,rfl,rfl,(show 20<=sizeLine by decide),(.cons ⟨_,rfl⟩ (.cons ⟨_,rfl⟩ (.cons ⟨_,rfl⟩ (.cons ⟨_,rfl⟩ (.cons ⟨_,rfl⟩ (.cons ⟨_,rfl⟩ (.cons ⟨_,rfl⟩ (.cons ⟨_,rfl⟩ (.cons ⟨_,rfl⟩ (.cons ⟨_,rfl⟩ (.cons ⟨_,rfl⟩ (.cons ⟨_,rfl⟩ (.cons ⟨_,rfl⟩ (.cons ⟨_,rfl⟩ (.cons ⟨_,rfl⟩ (.cons ⟨_,rfl⟩ (.cons ⟨_,rfl⟩ (.cons ⟨_,rfl⟩ (.cons ⟨_,rfl⟩ (.cons ⟨_,rfl⟩ .nil))))))))))))))))))))⟩) (u5F (by decide +kernel))⟩
 have isi:IsI K [J0b,J0d]:=λC hC=>by
  simp only[z7,u5,or_false] at hC;rcases hC with rfl|rfl
  ·exact⟨J2g,J3y,J1a⟩
  ·exact⟨J2h,J3z,J1b⟩
 have T:Txt K mg A:={ z_isinstance:=W.mg_none_of X G (zz _ (by decide)),z_str:=W.mg_none_of X G (zz _ (by decide)),z_int:=W.mg_none_of X G (zz _ (by decide)),z_bool:=W.mg_none_of X G (zz _ (by decide)),z_list:=W.mg_none_of X G (zz _ (by decide)),z_tuple:=W.mg_none_of X G (zz _ (by decide)),z_dict:=W.mg_none_of X G (zz _ (by decide)),z_len:=W.mg_none_of X G (zz _ (by decide)),z_all:=W.mg_none_of X G (zz _ (by decide)),z_range:=W.mg_none_of X G (zz _ (by decide)),z_enumerate:=W.mg_none_of X G (zz _ (by decide)),z_zip:=W.mg_none_of X G (zz _ (by decide)),z_reversed:=W.mg_none_of X G (zz _ (by decide)),z_max:=W.mg_none_of X G (zz _ (by decide)),z_min:=W.mg_none_of X G (zz _ (by decide)),z_sum:=W.mg_none_of X G (zz _ (by decide)),m_NoTree:=J0u,b_NoTree:=J0a,m_TableError:=W.mg_of X G gT.1,b_TableError:=u4P gT.2,m_Tree:=W.mg_of X G J1e,m_Leaf:=W.mg_of X G J1c,m_Node:=W.mg_of X G J1d,m_TreeReader:=W.mg_of X G J1f,c_Leaf:=J0x,na_Leaf_sign:=J4s,na_Leaf_tree_size:=J4u,na_Leaf_tree_depth:=J4t,c_Node:=J0y,na_Node_number:=J4w,na_Node_children:=J4v,na_Node_tree_size:=J4y,na_Node_tree_depth:=J4x,c_TreeReader:=J0z,na_TreeReader_finished:=J4z,na_TreeReader_opened:=J5a,o_Tree:=J5q,o_Leaf:=J5n,o_Node:=J5p,o_NoTree:=J5o,g_IN_SIGNS:=J1p,g_LONGEST:=J1q,g_DEEPEST:=J1o,g_MOST_CHILDREN:=J1r,g_NUMBERS:=J1s,isI:=isi,ne:=ne,x_found:=xp }
 have S:Sub K A:=⟨b_x,s_b⟩;obtain⟨_,_,F0,a0,kk0⟩:=h0.go X G;obtain⟨_,_,F1,a1,kk1⟩:=h1.go X G;obtain⟨_,_,F2,a2,kk2⟩:=h2.go X G;obtain⟨_,_,F3,a3,kk3⟩:=h3.go X G;obtain⟨_,_,F4,a4,kk4⟩:=h4.go X G;obtain⟨_,_,F5,a5,kk5⟩:=h5.go X G;obtain⟨_,_,F6,a6,kk6⟩:=h6.go X G;obtain⟨_,_,F7,a7,kk7⟩:=h7.go X G;obtain⟨_,_,F8,a8,kk8⟩:=h8.go X G;obtain⟨_,_,F9,a9,kk9⟩:=h9.go X G;obtain⟨_,_,F10,a10,J3f⟩:=h10.go X G;obtain⟨_,_,F11,a11,J3g⟩:=h11.go X G;obtain⟨_,_,F12,a12,J3h⟩:=h12.go X G;obtain⟨_,_,F13,a13,J3i⟩:=h13.go X G;obtain⟨_,_,F14,a14,J3j⟩:=h14.go X G;obtain⟨_,_,F15,a15,J3k⟩:=h15.go X G;obtain⟨_,_,F16,a16,J3l⟩:=h16.go X G;obtain⟨_,_,F17,a17,J3m⟩:=h17.go X G;obtain⟨_,_,F18,a18,J3n⟩:=h18.go X G;obtain⟨_,_,F19,a19,J3o⟩:=h19.go X G;obtain⟨_,_,F20,a20,J3p⟩:=h20.go X G;obtain⟨_,_,F21,a21,J3q⟩:=h21.go X G;obtain⟨_,_,F22,a22,J3r⟩:=h22.go X G;obtain⟨_,_,F23,a23,J3s⟩:=h23.go X G;obtain⟨_,_,F24,a24,J3t⟩:=h24.go X G;obtain⟨_,_,F25,a25,J3u⟩:=h25.go X G;have FL:=u7Z (st:=u4X) ll cl kl;obtain⟨_,_,J0i,J5b⟩:=J4g.go;obtain⟨_,_,J0m,J5f⟩:=J4k.go;obtain⟨_,_,J0j,J5c⟩:=J4h.go;obtain⟨_,_,J0n,J5g⟩:=J2j.go;obtain⟨_,_,J0s,J5l⟩:=J4q.go;obtain⟨_,_,J0k,J5d⟩:=J4i.go;obtain⟨_,_,J0q,J5j⟩:=J4l.go;obtain⟨_,_,J0o,J5h⟩:=J2k.go;obtain⟨_,_,J0t,J5m⟩:=J4r.go;obtain⟨_,_,J0l,J5e⟩:=J4j.go;obtain⟨_,_,J0r,J5k⟩:=J4m.go;obtain⟨_,_,J0p,J5i⟩:=J2l.go;refine hZ ⟨W.fnOf "law" "law" (defArgs u4X) (defBody u4X) (defScope u4X) .none kVl dcl pml anl cdl ctl,λs v=>.of_eq rfl,λbase _ _=>Classical.byContradiction λhY=>?_⟩
 have J6e:=mkE (ok_x (P:=l.prog) (w:=w) (base:=base) J0h .au rfl rfl rfl J0w J0v) (J0h.b2 λ_ _ _ _ _ _ _ _=>rfl) J0w J0u
 obtain⟨J1m,J6b⟩:=two (A:=A) (R:=λC g=>MCalleeF l.prog w K mg base 1 C "is_leaf" ["self"] g/\(C=A.Leaf->∀d,g [d]=.ok (.bl true))/\(C=A.Node->∀d,g [d]=.ok (.bl false)))
  (by
   obtain⟨G,H,p⟩:=u3S (P:=l.prog) (w:=w) (base:=base)  J0q T;exact⟨G,mkF J0x J5j H (J0q.b1 λ_ _ _ _ _ _ _=>rfl),λ_=>p,λe=>absurd e ne⟩)
  (by
   obtain⟨G,H,p⟩:=u3R (P:=l.prog) (w:=w) (base:=base)  J0r T;exact⟨G,mkF J0y J5k H (J0r.b1 λ_ _ _ _ _ _ _=>rfl),λe=>absurd e.symm ne,λ_=>p⟩)
 have J4e:=λC h=>(J6b C h).1
 have a0g:LeafM A J1m:=⟨λd=>(J6b A.Leaf (by simp)).2.1 rfl d,λd=>(J6b A.Node (by simp)).2.2 rfl d⟩
 obtain⟨J1n,J6c⟩:=two (A:=A) (R:=λC g=>MCalleeF l.prog w K mg base 1 C "size" ["self"] g/\∀d,Kid A d->g [d]=.ok (.int (tsz d)))
  (by
   obtain⟨G,H,p⟩:=u3n (P:=l.prog) (w:=w) (base:=base)  J0s T;exact⟨G,mkF J0x J5l H (J0s.b1 λ_ _ _ _ _ _ _=>rfl),p⟩)
  (by
   obtain⟨G,H,p⟩:=u3n (P:=l.prog) (w:=w) (base:=base)  J0t T;exact⟨G,mkF J0y J5m H (J0t.b1 λ_ _ _ _ _ _ _=>rfl),p⟩)
 have J4f:=λC h=>(J6c C h).1
 have a2a:=λC d h=>(J6c C h).2 d
 obtain⟨J1l,J6a⟩:=two (A:=A) (R:=λC g=>MCalleeF l.prog w K mg base 1 C "depth" ["self"] g/\∀d,Kid A d->g [d]=.ok (.int (tdp d)))
  (by
   obtain⟨G,H,p⟩:=u2G (P:=l.prog) (w:=w) (base:=base)  J0k T;exact⟨G,mkF J0x J5d H (J0k.b1 λ_ _ _ _ _ _ _=>rfl),p⟩)
  (by
   obtain⟨G,H,p⟩:=u2G (P:=l.prog) (w:=w) (base:=base)  J0l T;exact⟨G,mkF J0y J5e H (J0l.b1 λ_ _ _ _ _ _ _=>rfl),p⟩)
 have J4c:=λC h=>(J6a C h).1
 have a1q:=λC d h=>(J6a C h).2 d
 have J2m:KCalleeF l.prog w K mg base 1 "Leaf" A.Leaf ["self","sign"] K15.gLeaf:=⟨_,_,⟨J4n,J5g.1,J5g.fn,J3v⟩,u5Q (P:=l.prog) (w:=w) (base:=base) J0n T,(J0n.b2 λ_ _ _ _ _ _ _ _=>rfl),W.mg_of X G J1c⟩
 have J2v:KCalleeF l.prog w K mg base 2 "Node" A.Node ["self","number","children"] (K15.gNode A):=⟨_,_,⟨J4o,J5h.1,J5h.fn,J3w⟩,u5P J4f J4c a2a a1q J0o T,(J0o.b3 λ_ _ _ _ _ _ _ _ _=>rfl),W.mg_of X G J1d⟩
 have a2c:∀s:Str,K15.gLeaf [.str s]=.ok [("sign",.str s),("tree_size",.int 1),("tree_depth",.int 1)]:=λ_=>rfl
 have a2b:∀(n:Int) (ms:List Md),ms.length<=1000->∀{c:D},rowOf c=some (trs A ms)->K15.gNode A [.int n,c]=.ok [("number",.int n),("children",.tup (trs A ms)),("tree_size",.int (1+szs ms)),("tree_depth",.int (1+dps ms))]:=λn ms h=>v2j A n ms h
 obtain⟨_,H,q3⟩:=u4t J4e a0g F3 T;have a0q:=mkC H (F3.b1 λ_ _ _ _ _ _ _=>rfl) kk3 a3
 have a0x:=q3;obtain⟨_,H,q4⟩:=u3c J4e a0g F4 T;have a0p:=mkC H (F4.b2 λ_ _ _ _ _ _ _ _=>rfl) kk4 a4
 have a0l:=q4;obtain⟨_,H,q5⟩:=v1C a0q a0p a0x a0l F5 T;have a2s:=mkC H (F5.b2 λ_ _ _ _ _ _ _ _=>rfl) kk5 a5
 have a2r:=q5;obtain⟨_,H,q0⟩:=u3u (P:=l.prog) (w:=w) (base:=base)  F0 T;have a0s:=mkC H (F0.b1 λ_ _ _ _ _ _ _=>rfl) kk0 a0
 have a2p:=q0;obtain⟨_,H,q1⟩:=u7b (P:=l.prog) (w:=w) (base:=base)  F1 T;have a1r:=mkC H (F1.b2 λ_ _ _ _ _ _ _ _=>rfl) kk1 a1
 have a2w:=q1;obtain⟨_,H,q2⟩:=u8x a0s a1r a2p a2w F2 T;have a1y:=mkC H (F2.b1 λ_ _ _ _ _ _ _=>rfl) kk2 a2
 have a1w:=q2;obtain⟨_,H,q6⟩:=u5L J4e a0g F6 T;have a0d:=mkC H (F6.b1 λ_ _ _ _ _ _ _=>rfl) kk6 a6
 have a1l:=q6;have J3a:RKls l.prog w K mg base A.TreeReader:=⟨_,_,⟨J4p,J5i.1,J5i.fn,J3x⟩,pm_init (P:=l.prog) (w:=w) (base:=base) J0p T,(J0p.b1 λ_ _ _ _ _ _ _=>rfl),W.mg_of X G J1f⟩
 have J4d:CMeth l.prog w K mg base 1 A.TreeReader "finish" ["self","tree"] (spFin K A):=⟨_,_,J0z,J5f,u9G (P:=l.prog) (w:=w) (base:=base) J0m T,(J0m.b2 λ_ _ _ _ _ _ _ _=>rfl)⟩
 have J4b:CMeth l.prog w K mg base 4 A.TreeReader "close" ["self"] (spCls K A):=⟨_,_,J0z,J5c,v1D J4d J2v a2b J0j T,(J0j.b1 λ_ _ _ _ _ _ _=>rfl)⟩
 have J4a:CMeth l.prog w K mg base 4 A.TreeReader "begin" ["self","word"] (spBeg K A):=⟨_,_,J0z,J5b,v1E J4d a1y J2m a2c (λz g=>a1w (.str z) (by simp[goodD,goodS,g.1,g.2])) J0i T,(J0i.b2 λ_ _ _ _ _ _ _ _=>rfl)⟩
 have a1b:Callee l.prog w K mg base 5 "takes_word" ["reader","word"] (spTak K A):=⟨_,_,u5b J4a J4b F7 T,(F7.b2 λ_ _ _ _ _ _ _ _=>rfl),kk7,a7⟩
 obtain⟨_,H,a1f⟩:=u5M a1b J3a J6e F8 T;have a0c:=mkX H (F8.b1 λ_ _ _ _ _ _ _=>rfl) kk8 a8
 obtain⟨_,H,q9⟩:=u7a (P:=l.prog) (w:=w) (base:=base)  F9 T;have a0u:=mkC H (F9.b2 λ_ _ _ _ _ _ _ _=>rfl) kk9 a9
 have a2m:=q9;obtain⟨_,H,q10⟩:=u6U (P:=l.prog) (w:=w) (base:=base)  F10 T;have a1g:=mkC H (F10.b2 λ_ _ _ _ _ _ _ _=>rfl) J3f a10
 have a2u:=q10;obtain⟨_,H,q11⟩:=u5c (P:=l.prog) (w:=w) (base:=base)  F11 T;have a0v:=mkN H (F11.b1 λ_ _ _ _ _ _ _=>rfl) J3g a11
 have a2h:=q11;obtain⟨_,H,q12⟩:=u6Y a1g a2u F12 T;have a0e:=mkW H (F12.b2 λ_ _ _ _ _ _ _ _=>rfl) J3h a12
 have a1m:=q12;obtain⟨_,H,q13⟩:=u6V a0e a1m F13 T;have a1h:=mkW H (F13.b1 λ_ _ _ _ _ _ _=>rfl) J3i a13
 have a1v:=q13;obtain⟨_,a0o,a1x⟩:=recM (x:="_law_grown") (R:=Grow) (λa c k r e h=>by omega) (F14.b3 λ_ _ _ _ _ _ _ _ _=>rfl) J3j a14 (λk d g hk cf rf=>u5O hk a0e a1h cf a1m a1v rf F14 T) 7
 obtain⟨_,a0n,a2k⟩:=recF (x:="_law_made") (R:=Made A) (λm h=>by have:=v0z m;omega) (F15.b1 λ_ _ _ _ _ _ _=>rfl) J3k a15 (λk d g hk cf rf=>u6X hk cf J2v J2m a2b a2c rf F15 T) 10
 obtain⟨_,a1c,a3a⟩:=recF (x:="_law_is") (R:=IsM A) (λm h=>by have:=v0z m;omega) (F16.b2 λ_ _ _ _ _ _ _ _=>rfl) J3l a16 (λk d g hk cf rf=>u9C (P:=l.prog) (w:=w) (base:=base) hk cf rf F16 T) 107
 obtain⟨_,a0h,a2y⟩:=recF (x:="_law_text") (R:=TextM) (λm h=>by have:=v0z m;omega) (F17.b1 λ_ _ _ _ _ _ _=>rfl) J3m a17 (λk d g hk cf rf=>u6T (P:=l.prog) (w:=w) (base:=base) hk cf rf F17 T) 107
 have p_is:IsM A 100 _:=λm h=>a3a m (by omega)
 have a1s:TextM 100 _:=λm h=>a2y m (by omega)
 obtain⟨_,H,q18⟩:=u4s (P:=l.prog) (w:=w) (base:=base)  F18 T;have a0w:=mkC H (F18.b1 λ_ _ _ _ _ _ _=>rfl) J3n a18
 have a2z:=q18;obtain⟨_,H,q19⟩:=u5e (P:=l.prog) (w:=w) (base:=base)  F19 T;have a0r:=mkC H (F19.b1 λ_ _ _ _ _ _ _=>rfl) J3o a19
 have a2j:=q19;have a0z:Callee l.prog w K mg base 1 "_law_closed" ["_law_pile","_law_many"] (spClo K):=⟨_,_,u5f (P:=l.prog) (w:=w) (base:=base) F20 T,(F20.b2 λ_ _ _ _ _ _ _ _=>rfl),J3p,a20⟩
 obtain⟨_,H,a2q⟩:=u6W a0r a0w a0z a2j a2z F21 T;have a1i:=mkC H (F21.b1 λ_ _ _ _ _ _ _=>rfl) J3q a21
 obtain⟨_,H,q22⟩:=u5d (P:=l.prog) (w:=w) (base:=base)  F22 T;have a0y:=mkC H (F22.b2 λ_ _ _ _ _ _ _ _=>rfl) J3r a22
 have a2i:=q22;obtain⟨_,H,q23⟩:=u4r a0c S a1f F23 T;have a0a:=mkX (v2C H q23) (F23.b1 λ_ _ _ _ _ _ _=>rfl) J3s a23
 have a0k:=ref_by q23;have a2v:=ref_tr q23;obtain⟨_,H,q24⟩:=u5N a0d a0c a1c a0h a1i a0a a2q a1f a0k p_is a1l a1s F24 T;have a0m:=mkX H (F24.b1 λ_ _ _ _ _ _ _=>rfl) J3t a24
 have a1p:=q24;obtain⟨_,H,q25⟩:=u6Z a0d a0c a0a a2s J4f J4c a1f a0k a1l a2a a1q a2r F25 T;have a0t:=mkX H (F25.b2 λ_ _ _ _ _ _ _ _=>rfl) J3u a25
 have a2l:=q25;obtain⟨_,H,pL⟩:=pr_law a0d a0u a0n a0h a0y a0a a0m a0t a0o a0v a2m a2h a1x a2k a1l a1s a1p a0k a2v a2i a2l FL T;exact hY (law_imp nl H pL)
def walk{l:W.OpenLaw}{XP:(Str->Option Value)->Heap->Prop}{YP:World->Heap->Prop}{d:DefRec}{K:Params->W.Frag} (hn:l.most=some 63) (hdf:d.params.defaults=[])
  (hY:∀(w:World) (h:Heap),YP w h->(K w.params).In h)
  (F:∀ (w:World) (mg:MG) (fa:Addr) (h:Heap),(K w.params).In h->h.Ns mainGlobals mg->mg d.name=some (.ref fa) ->
   ∃fd:FuncData,(∀(s:Shared) (u:Value),BindsTo s fd ⟨[u],[]⟩ [("_law_script",u)])/\∀base:Heap,(K w.params).In base->base.Ns mainGlobals mg->FnOk l.prog w (K w.params) mg base (CXe l.prog w) 112 fa fd ["_law_script"] (spLaw7 (K w.params))) :
  W.WalkO q loose XP YP l.row.toRowW d [] (λf vs=>PySem.call f vs) :=
 L2.walk_of (n:=63) (k:=112) (x:="_law_script") (CX:=λw=>CXe l.prog w) (sp:=λw=>spLaw7 (K w.params)) hn (by decide) hdf ⟨rfl,by decide,by decide⟩ hY F (λ_ H a ns hl hO hS=>⟨a,ns,rfl,hS,λ_=>rfl⟩) λ_ _ _ _ _ z9137=>by obtain⟨_,_,_,_,_,_,_,_,_,_,_,z⟩:=z9137;exact z
end K15
end
namespace PySem.W.Fast
def tw13750902017422626762:=True
def tw3143512183969403651:=True
def tw13624868553507436020:=True
def tw5289075426892461876:=True
def tw553412993708959870:=True
def tw18281667774549357182:=True
def tw10546436923534825195:=True
def tw13078457553304874089:=True
def tw15183516799799243364:=True
def tw1401340685327480003:=True
def tw14865772319279214100:=True
def tw9154331211265575131:=True
def tw15077888227379691381:=True
def tw8757266297193395511:=True
def tw8625382529220164947:=True
def tw2998148007419215726:=True
def tw14039106794945908733:=True
def tw1709757883935308435:=True
def tw2344751632432224:=True
def tw552518695588419507:=True
def tw6862724727813244955:=True
def tw10936630906707188515:=True
def tw888930524988503485:=True
def tw15263642974469691223:=True
def tw11897362538106797512:=True
def tw12526762928099125711:=True
def tw15524355658511357580:=True
def tw5823383762679974677:=True
def tw5039282958896639889:=True
def tw18329295005344770526:=True
def tw6229071409524351648:=True
def tw2779047308927261449:=True
def tw1990433725943301665:=True
def tw2065992006408300905:=True
def tw700509800009757114:=True
def tw9572563885050566932:=True
def tw14284329624029431220:=True
def tw12119508012365231942:=True
def tw8201485224457916831:=True
def tw17744505821201279602:=True
def tw10405938593686800:=True
def tw13863892154507518657:=True
def tw15820844311572999134:=True
def tw11150314751854632807:=True
def tw13514824117583960690:=True
def tw16828294309599453128:=True
def tw14157406133819416209:=True
def tw11380186377201997812:=True
def tw11715356010905279826:=True
def tw1806664932212108158:=True
def tw5857743641209860431:=True
def tw16766586286729577890:=True
def tw17498520894605084781:=True
def tw9907539111254605022:=True
def tw12020779836603401183:=True
def tw4945786435513879669:=True
def tw2069168885481096666:=True
def tw4221489776169083712:=True
def tw11213550090832568540:=True
def tw1718653382120178465:=True
def tw13732583946819508229:=True
def tw5833174533547240880:=True
def tw1544729831699966510:=True
def tw17896184279641231971:=True
def tw15398815992458270823:=True
def tw9642697284865339959:=True
def tw9513477575914741216:=True
def tw13433454441655839371:=True
def tw4980541900271653647:=True
def tw2255451852800153207:=True
def tw14735958847300967421:=True
def tw17897190284329176975:=True
def tw1290723044236812510:=True
def tw12774713736715494015:=True
def tw9959279455232056878:=True
def tw9559582380527706016:=True
def tw4966159835315820486:=True
def tw11487594543733123373:=True
def tw9635615238009088622:=True
def tw18259528856411452910:=True
def tw6134491318528357469:=True
def tw1936993273802596385:=True
def tw1060158860077436639:=True
def tw4649274801821231159:=True
def tw18239479944168920977:=True
def tw824794154237125458:=True
def tw9554205665277398156:=True
def tw15530701046644701545:=True
def tw11864971412338280826:=True
def tw11688164119938745178:=True
def tw418089435587117086:=True
def tw15458847220995129312:=True
def tw10596793110798016710:=True
def tw1711109468480184526:=True
def tw2190899400597144081:=True
def tw5212125065379603025:=True
def tw11056055480828394850:=True
def tw13287471724993651603:=True
def tw2766869242134105491:=True
def tw8481109867970954550:=True
def tw10973952105787540811:=True
def tw5921020532391631706:=True
def tw18283185534487818790:=True
def tw7500236302246409036:=True
def tw4763899150667074544:=True
def tw8209948537571871862:=True
def tw11495469350286172445:=True
def tw1517513902431768132:=True
def tw2892143030170260054:=True
def tw16259378151613209035:=True
def tw8852384303823125479:=True
def tw826427585928960704:=True
def tw8573929494207767729:=True
def tw9285569336650260120:=True
def tw4982397313397888984:=True
def tw9970325518748439465:=True
def tw10194656650650487118:=True
def tw13216314234307778455:=True
def tw17109701541954347227:=True
def tw10320713519466657394:=True
def tw17412036699411730127:=True
def tw9657201547345591206:=True
def tw1045845605254309892:=True
def tw4844518593881674908:=True
def tw16055412217475709519:=True
def tw2736707671277486128:=True
def tw8774348577198105802:=True
def tw419458039666421:=True
def tw2770749572981395943:=True
def tw15371317370847017431:=True
def tw7197226409825301336:=True
def tw14680644731177130657:=True
def tw5910074313559312465:=True
def tw1938286649356483872:=True
def tw12531455484904220618:=True
def tw18134352190469139482:=True
def tw16512368893449540453:=True
def tw16131825015871312480:=True
def tw5516479985376219216:=True
def tw8598937599753835868:=True
def tw15974190734266150081:=True
def tw18274846910824444439:=True
def tw6010062172980827175:=True
def tw7189007317573328876:=True
def tw18253041844461617609:=True
def tw7596829372720203424:=True
def tw11792048845245959873:=True
def tw9893241625732954296:=True
def tw6954628220867102895:=True
def tw8250817929305940459:=True
def tw3793965988326560182:=True
def tw16310367931484705999:=True
def tw7667151121275293487:=True
def tw12434424949567447277:=True
def tw11510946483130534275:=True
def tw17415786195884082397:=True
def tw10986538569984804414:=True
def tw8913340554041887329:=True
def tw8438134105607092029:=True
def tw8495136116584578014:=True
def tw1313183570409005595:=True
def tw4195791667869706760:=True
def tw13931074580923499838:=True
def tw12092579878843068119:=True
def tw2059386334347382074:=True
def tw2253335310229890182:=True
def tw7800919737955413393:=True
def tw2817509181075401115:=True
def tw10620308541625913178:=True
def tw9446831671909147597:=True
def tw15701148512046130345:=True
def tw6913570968332255909:=True
def tw12544859608812823150:=True
def tw12742855270142560796:=True
def tw18392316780272145930:=True
def tw8521928182259021079:=True
def tw7401833947434621551:=True
def tw5518955737265553383:=True
def tw6317680217653618832:=True
def tw8882168595694896741:=True
def tw7057821004707311654:=True
def tw9865375835429997390:=True
def tw15636427601246678542:=True
def tw16435875515518786023:=True
def tw9994541081447477509:=True
def tw4835398970219787644:=True
def tw13126659008441908467:=True
def tw16567968952485620895:=True
def tw17914722864148735327:=True
def tw15799913223143084922:=True
def tw17665336137613307289:=True
def tw13819446253651148936:=True
def tw2217223619710858725:=True
def tw612804111151672544:=True
def tw15721312942073781841:=True
def tw11143494329940442025:=True
def tw8010759626866392001:=True
def tw4204487189812854919:=True
def tw16784138073794075721:=True
def tw2298841351095675399:=True
def tw11912494446750260958:=True
def tw9872308405009365189:=True
def tw13157753205397783528:=True
def tw13948581522530477472:=True
def tw4020780250255178527:=True
def tw5813804630120767868:=True
def tw1575031648383577934:=True
def tw3540010826340923501:=True
def tw14995705662302945842:=True
def tw1509049092300952662:=True
def tw3615673238174354912:=True
def tw14207216014080328426:=True
def tw3403333732376370236:=True
def tw690499044835033249:=True
def tw1366245448967084395:=True
def tw3222491120369269479:=True
def tw8897843637923138213:=True
def tw8244709174169206561:=True
def tw13430679638117513277:=True
def tw2639096703185670323:=True
def tw18302306925066429805:=True
def tw17401914397102942729:=True
def tw2392823323741670960:=True
def tw5089353505311358510:=True
def tw11330759818567152893:=True
def tw7043555618884470466:=True
def tw9175709283587305107:=True
def tw7442393581320193980:=True
def tw14660591851702754396:=True
def tw1204324426353414797:=True
def tw12176989843819285641:=True
def tw16681444152692375684:=True
def tw8119945019980505380:=True
def tw17102511408914768928:=True
def tw2659953369444334691:=True
def tw18302150986682248817:=True
def tw4147177454003515917:=True
def tw3159251146869238869:=True
def tw18347669764046354248:=True
def tw11569895142554219995:=True
def tw553941166048910407:=True
def tw10193307637959533876:=True
def tw16613474986520367894:=True
def tw5221471425733497843:=True
def tw7893646711796314851:=True
def tw11802305314801152107:=True
def tw2275378553014678701:=True
def tw2443902982148864249:=True
def tw8821783921162274181:=True
def tw6928863190498504963:=True
def tw10571535699035829006:=True
def tw13047703180509448595:=True
def tw1350865668665900462:=True
def tw2619063259648400108:=True
def tw6703398778555710235:=True
def tw13900436005749887718:=True
def tw13946254437687910342:=True
def tw3348198259551936378:=True
def tw17120823496580159470:=True
def tw293947806758155104:=True
def tw17805241384018731291:=True
def tw10609239837474177095:=True
def tw5029536079816960023:=True
def tw8809982357533093507:=True
def tw9886469264052197935:=True
def tw11756826079547826253:=True
def tw9031355381424413926:=True
def tw14024752112845256101:=True
def tw2303670807785497492:=True
def tw9851198700793692684:=True
def tw6359764636868472796:=True
def tw2259126254618070719:=True
def tw5746560388941696922:=True
def tw8494091190547783559:=True
def tw15933331958113085195:=True
def tw4273288024490477411:=True
def tw16428247436783866167:=True
def tw17773295473943866452:=True
def tw15857724220580211375:=True
end PySem.W.Fast
open PySem PySem.W PyProof.Rows
set_option maxRecDepth 100000 in
set_option maxHeartbeats 0 in
theorem PySem.Challenge.cw_rulestable_k15_whole_trees_as_texts_holds : PySem.Challenge.rw_rulestable_k15_whole_trees_as_texts.Holds := by
  w_on; o_law; k_head; (case hw => w_witness2)
  k_fill
  refine K15.walk (l := PySem.Challenge.rw_rulestable_k15_whole_trees_as_texts) rfl rfl (fun w h Y => PySem.W.kIn_of Y) ?F
  case F =>
    intro w mg fa h KX G hmg
    refine' K15.all_mk KX G hmg .. <;> first | k_is | kernel_rfl | decide | exact ⟨_, _, _, _, _, _, _, _, _, _, by k_is, by k_is, by k_is, by k_is⟩ | exact ⟨_, _, _, _, _, _, _, _, _, _, by k_is, by first | k_is | kernel_rfl, by k_is, by k_is, by k_is⟩ | exact ⟨by k_is, _, _, _, _, _, _, _, _, _, _, by k_is, by k_is, by k_is, by k_is, by kernel_rfl, by k_is, by kernel_rfl⟩ | exact ⟨by k_is, by kernel_rfl⟩ | exact ⟨_, by k_is⟩ | exact ⟨_, _, _, _, _, _, _, _, _, _, _, _, _, _, _, _, _, _, _, _, _, _, _, _, by k_is, by k_is⟩ | (intro x hx; (repeat (rcases hx with _ | ⟨_, hx⟩; · first | k_is | kernel_rfl)); cases hx) | skip
